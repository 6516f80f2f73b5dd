import PyProof.Rows.All
import Wide.All
import OpenK.AllK
import Wide.FinOn
import Lean
import PyProof.EqAt
import PyProof.EqKinds
import PyProof.TupleCall
import PySem.Challenge.RW_onceways_k53_numbers_of_sets
set_option Elab.async false
set_option linter.all false
set_option maxRecDepth 100000
set_option maxHeartbeats 4000000
namespace L2
open PySem PySem.Spec PyProof.Rows
abbrev Key:=Sum Int Str
def Ze5:Key->Value->Bool
 | .inl k,v=>Value.isInt k v
 | .inr x,v=>Value.isStrOf x v
def Zl4 (w:World):Key->Int
 | .inl k=>hashInt k
 | .inr x=>hashStr w x
theorem ZaG:∀ {k:Key} {v:Value},Ze5 k v=true->(∃ i t,k=Sum.inl i/\v=Value.int i t)\/(∃ x t,k=Sum.inr x/\v=Value.str x t)
 | .inl i,v,h=>by
  obtain ⟨t,e⟩:=Value.isInt_shape (k:=i) (v:=v) h
  exact .inl ⟨i,t,rfl,e⟩
 | .inr x,v,h=>by
  obtain ⟨t,e⟩:=Value.isStrOf_shape (x:=x) (v:=v) h
  exact .inr ⟨x,t,rfl,e⟩
theorem Zfs (i:Int) (t:Tok):Ze5 (.inl i) (.int i t)=true:=by simp [Ze5,Value.isInt]
theorem Zft (x:Str) (t:Tok):Ze5 (.inr x) (.str x t)=true:=by simp [Ze5,Value.isStrOf]
theorem Zi8 (a b:Int):decide ((Sum.inl a:Key)=Sum.inl b)=(a == b):=by
 by_cases e:a=b
 ·subst e;simp
 ·have h:¬ (Sum.inl a:Key)=Sum.inl b:=λq=>e (Sum.inl.inj q)
  rw [decide_eq_false h]
  exact (beq_eq_false_iff_ne.mpr e).symm
theorem Zi9 (a b:Str):decide ((Sum.inr a:Key)=Sum.inr b)=decide (a=b):=by
 by_cases e:a=b
 ·subst e;simp
 ·have h:¬ (Sum.inr a:Key)=Sum.inr b:=λq=>e (Sum.inr.inj q)
  rw [decide_eq_false h,decide_eq_false e]
theorem Zja (a:Int) (b:Str):decide ((Sum.inl a:Key)=Sum.inr b)=false:=decide_eq_false (λq=>nomatch q)
theorem Zjb (a:Str) (b:Int):decide ((Sum.inr a:Key)=Sum.inl b)=false:=decide_eq_false (λq=>nomatch q)
def ZaP (prog:Program) (w:World):PySem.KeyKind prog w Key where
 is:=Ze5
 hash:=Zl4 w
 inj:=λv a b ha hb=>by
  rcases ZaG ha with ⟨i,t,rfl,rfl⟩ | ⟨x,t,rfl,rfl⟩
  ·rcases ZaG hb with ⟨j,u,rfl,e⟩ | ⟨y,u,rfl,e⟩
   ·injection e with e1 _;rw [e1]
   ·exact nomatch e
  ·rcases ZaG hb with ⟨j,u,rfl,e⟩ | ⟨y,u,rfl,e⟩
   ·exact nomatch e
   ·injection e with e1 _;rw [e1]
 byValue:=λk v h=>by
  rcases ZaG h with ⟨i,t,rfl,rfl⟩ | ⟨x,t,rfl,rfl⟩ <;> rfl
 pyHash:=λhv h=>by
  rcases ZaG hv with ⟨i,t,rfl,rfl⟩ | ⟨x,t,rfl,rfl⟩
  ·exact wpAny_pyHash_int h
  ·exact wpAny_pyHash_str h
 eqBool:=λhu hv h=>by
  rcases ZaG hu with ⟨i,t,rfl,rfl⟩ | ⟨x,t,rfl,rfl⟩
  ·rcases ZaG hv with ⟨j,u,rfl,rfl⟩ | ⟨y,u,rfl,rfl⟩
   ·rw [Zi8] at h;exact wpAny_eqBool_int h
   ·rw [Zja] at h;exact SeqAt.EqAt.int_str i t y u _ _ _ _ h
  ·rcases ZaG hv with ⟨j,u,rfl,rfl⟩ | ⟨y,u,rfl,rfl⟩
   ·rw [Zjb] at h;exact SeqAt.EqAt.str_int x t j u _ _ _ _ h
   ·rw [Zi9] at h;exact wpAny_eqBool_str h
 «strs»:=λk x t v h=>by
  rcases ZaG h with ⟨i,u,rfl,e⟩ | ⟨y,u,rfl,e⟩
  ·exact nomatch e
  ·injection e with e1 _
   subst e1
   cases v <;> rfl
theorem Zec (prog:Program) (w:World) (i:Int) (t:Tok):(ZaP prog w).is (.inl i) (.int i t)=true:=Zfs i t
theorem Zed (prog:Program) (w:World) (x:Str) (t:Tok):(ZaP prog w).is (.inr x) (.str x t)=true:=Zft x t
end L2
namespace L2
open PySem PySem.Spec PyProof.Rows
inductive V where
 | non | bl (b:Bool) | int (i:Int) | str (x:Str) | byt (b:Array UInt8) | flt (b:UInt64) | ref (a:Addr) | ty (n:String)
 deriving DecidableEq
def RelV:V->Value->Prop
 | .non,u=>u=Value.none
 | .bl b,u=>u=Value.bool b
 | .int i,u=>∃ t,u=Value.int i t
 | .str x,u=>∃ t,u=Value.str x t
 | .byt b,u=>∃ t,u=Value.bytes b t
 | .flt b,u=>∃ t,u=Value.float b t
 | .ref a,u=>u=Value.ref a
 | .ty n,u=>u=Value.type n
abbrev Vals:List V->List Value->Prop:=Paired RelV
theorem Vals.length {xs:List V} {us:List Value} (r:Vals xs us):xs.length=us.length:=Paired.length r
theorem Vals.get:∀ {xs:List V} {us:List Value} {i:Nat} {x:V},Vals xs us->xs[i]?=some x->∃ u,us[i]?=some u/\RelV x u
 | _,_,_,_,.nil,e=>by simp at e
 | _,_,0,_,.cons r _,e=>by simp at e;subst e;exact ⟨_,rfl,r⟩
 | _,_,i+1,x,.cons _ t,e=>by
  obtain ⟨u,h1,h2⟩:=Vals.get (i:=i) (x:=x) t (by simpa using e)
  exact ⟨u,by simpa using h1,h2⟩
theorem Vals.set {x:V} {u:Value} (r:RelV x u):∀ {xs:List V} {us:List Value} (i:Nat),Vals xs us->Vals (xs.set i x) (us.set i u)
 | _,_,_,.nil=>.nil
 | _,_,0,.cons _ t=>.cons r t
 | _,_,i+1,.cons q t=>.cons q (Vals.set r i t)
theorem Vals.append:∀ {xs ys:List V} {us ws:List Value},Vals xs us->Vals ys ws->Vals (xs++ys) (us++ws)
 | _,_,_,_,.nil,s=>s
 | _,_,_,_,.cons r t,s=>.cons r (Vals.append t s)
theorem Vals.take:∀ {xs:List V} {us:List Value} (n:Nat),Vals xs us->Vals (xs.take n) (us.take n)
 | _,_,0,_=>.nil
 | _,_,_+1,.nil=>.nil
 | _,_,n+1,.cons r t=>.cons r (Vals.take n t)
theorem Vals.drop:∀ {xs:List V} {us:List Value} (n:Nat),Vals xs us->Vals (xs.drop n) (us.drop n)
 | _,_,0,r=>r
 | _,_,_+1,.nil=>.nil
 | _,_,n+1,.cons _ t=>Vals.drop n t
def RelO:Option V->Option Value->Prop
 | some v,some u=>RelV v u
 | none,none=>True
 | _,_=>False
def KV {κ:Type}:List (κ×V)->List (κ×Value)->Prop:=Paired λ(p:κ×V) (q:κ×Value)=>p.1=q.1/\RelV p.2 q.2
def kV:Key->V
 | .inl i=>.int i
 | .inr x=>.str x
inductive HO where
  | lst (xs:List V)
  | tup (xs:List V)
  | dK (kvs:List (Key×V)) | dT (kvs:List (List Key×V))
  | set (S:Int->Bool) (n:Nat)
  | ins (C dx:Addr) (fs:List (Str×V))
  | own (x:Addr)
  | xd (fs:List (Str×V))
  | met (f x:Addr)
  | rng (lo hi:Int)
  | frz (o:Obj) (u:HO)
  | tbl (ps:Array Value)
  | ext (φ:Heap->Prop)
abbrev Hp:=Addr->Option HO
def upd (H:Hp) (a:Addr) (o:HO):Hp:=λb=>if b=a then some o else H b
theorem Zab {H:Hp} {a:Addr} {o:HO}:upd H a o a=some o:=by unfold upd;rw [if_pos rfl]
theorem Zas {H:Hp} {a b:Addr} {o:HO} (h:b≠a):upd H a o b=H b:=by unfold upd;rw [if_neg h]
theorem Zb5 {H:Hp} {a b:Addr} {o u:HO} (h:H a=some o) (h':H b=some u) (d:o≠u):a≠b:=by
 intro e;subst e;rw [h] at h';exact d (Option.some.inj h')
theorem Zag {H:Hp} {a b:Addr} {o:HO} (h:H a=some o) (h':H b=none):a≠b:=by
 intro e;subst e;rw [h] at h';cases h'
section
variable (P:Program) (w:World)
def ObjOk (H:Hp) (h:Heap) (a:Addr):HO->Prop
 | .lst xs=>xs.length<=sizeLine/\∃ (its:List Value) (n:Nat),Vals xs its/\h.get? a=some { cls:=.type "list", data:=.seq its.toArray n }
 | .tup xs=>xs.length<=sizeLine/\∃ its:List Value,Vals xs its/\IsTup h a its.toArray
 | .dK kvs=>kvs.length<=sizeLine/\(a == sysModules)=false/\∃ vs,KV kvs vs/\h.DictOf (ZaP P w) a vs
 | .dT kvs=>kvs.length<=sizeLine/\(a == sysModules)=false/\∃ xs:List (List Key×Addr×Value),
   Paired (λ(p:List Key×V) (q:List Key×Addr×Value)=>p.1=q.1/\H q.2.1=some (.tup (p.1.map kV))/\RelV p.2 q.2.2) kvs xs /\
   ∃ o es ep,h.get? a=some o/\o.ExactDict/\o.data=.dict es ep/\es.toList=xs.map (entryOfKey (tupleKind (ZaP P w)))/\(xs.map (·.1)).Nodup
 | .set S n=>h.SetOf (intKind P w) a S n
 | .ins C dx fs=>H dx=some (.own a)/\fs.length<=1000/\dx≠a/\h.get? a=some (PySem.W.instObj C dx) /\
   ∃ mA,h.Ns1 dx mA/\(∀ f,RelO (fs.lookup f) (mA f))/\PySem.Within mA (fs.map (·.1))
 | .own _=>∃ o,h.get? a=some o
 | .xd fs=>∃ mA,h.Ns1 a mA/\∀ f,RelO (fs.lookup f) (mA f)
 | .rng lo hi=>∃ t u v,h.get? a=some { cls:=.type "range", data:=.fields #[.int lo t,.int hi u,.int 1 v] }
 | .frz o u=>h.get? a=some o/\ObjOk H h a u
 | .tbl ps=>h.get? a=some { cls:=.none,data:=.fields ps }
 | .met f x=>h.get? a=some (PySem.W.methodObj (.ref f) (.ref x))
 | .ext φ=>φ h/\(∃ o,h.get? a=some o)/\∀ h1 h2:Heap,φ h1->(∀ o,h1.get? a=some o->h2.get? a=some o)->φ h2
def HOk (H:Hp) (h:Heap):Prop:=∀ a o,H a=some o->ObjOk P w H h a o
end
section
variable {P:Program} {w:World} {H H':Hp} {h h':Heap} {a:Addr} {o:HO}
theorem ObjOk.lt (x:ObjOk P w H h a o):a<h.objs.size:=by
 cases o with
 | lst xs=>obtain ⟨_,_,_,_,e⟩:=x;exact Heap.lt_size e
 | tup xs=>obtain ⟨_,_,_,p⟩:=x;exact p.lt
 | dK kvs=>obtain ⟨_,_,_,_,o,_,_,e,_⟩:=x;exact Heap.lt_size e
 | dT kvs=>obtain ⟨_,_,_,_,o,_,_,e,_⟩:=x;exact Heap.lt_size e
 | set S n=>obtain ⟨o,_,_,_,e,_⟩:=x;exact Heap.lt_size e
 | ins C dx fs=>obtain ⟨_,_,_,e,_⟩:=x;exact Heap.lt_size e
 | own y=>obtain ⟨_,e⟩:=x;exact Heap.lt_size e
 | xd fs=>obtain ⟨_,⟨_,_,_,e,_⟩,_⟩:=x;exact Heap.lt_size e
 | rng lo hi=>obtain ⟨_,_,_,e⟩:=x;exact Heap.lt_size e
 | frz ob u=>obtain ⟨e,_⟩:=x;exact Heap.lt_size e
 | tbl ps=>exact Heap.lt_size (show h.get? a=some _ from x)
 | met f y=>exact Heap.lt_size (show h.get? a=some _ from x)
 | ext φ=>obtain ⟨_,⟨_,e⟩,_⟩:=x;exact Heap.lt_size e
theorem Paired.mapP {α β:Type} {F G:α->β->Prop}:∀ {l₁:List α} {l₂:List β},Paired F l₁ l₂->(∀ a b,F a b->G a b)->Paired G l₁ l₂
 | _,_,.nil,_=>.nil
 | _,_,.cons r t,f=>.cons (f _ _ r) (Paired.mapP t f)
theorem ObjOk.stay (x:ObjOk P w H h a o) (k:∀ b u,(b=a\/H b=some (.own a))->h.get? b=some u->h'.get? b=some u)
  (ho:∀ b,H b=some (.own a)->H' b=some (.own a)) (ht:∀ b xs,H b=some (.tup xs)->H' b=some (.tup xs)):ObjOk P w H' h' a o:=by
 induction o with
 | lst xs=>obtain ⟨z,its,n,r,e⟩:=x;exact ⟨z,its,n,r,k _ _ (.inl rfl) e⟩
 | tup xs=>obtain ⟨z,its,r,ob,e,c⟩:=x;exact ⟨z,its,r,ob,k _ _ (.inl rfl) e,c⟩
 | dK kvs=>obtain ⟨z,y,vs,r,ob,es,ep,e,c⟩:=x;exact ⟨z,y,vs,r,ob,es,ep,k _ _ (.inl rfl) e,c⟩
 | dT kvs=>
  obtain ⟨z,y,xs,r,ob,es,ep,e,c⟩:=x
  exact ⟨z,y,xs,Paired.mapP r λp q z=>⟨z.1,ht _ _ z.2.1,z.2.2⟩,ob,es,ep,k _ _ (.inl rfl) e,c⟩
 | set S n=>obtain ⟨ob,es,ep,t,e,c⟩:=x;exact ⟨ob,es,ep,t,k _ _ (.inl rfl) e,c⟩
 | ins C dx fs=>
  obtain ⟨d,z,ne,e,mA,⟨od,es,ep,e2,c⟩,r⟩:=x
  exact ⟨ho _ d,z,ne,k _ _ (.inl rfl) e,mA,⟨od,es,ep,k _ _ (.inr d) e2,c⟩,r⟩
 | own y=>obtain ⟨ob,e⟩:=x;exact ⟨ob,k _ _ (.inl rfl) e⟩
 | xd fs=>obtain ⟨mA,⟨od,es,ep,e,c⟩,r⟩:=x;exact ⟨mA,⟨od,es,ep,k _ _ (.inl rfl) e,c⟩,r⟩
 | rng lo hi=>obtain ⟨t,u,v,e⟩:=x;exact ⟨t,u,v,k _ _ (.inl rfl) e⟩
 | frz ob u ih=>obtain ⟨e,q⟩:=x;exact ⟨k _ _ (.inl rfl) e,ih q⟩
 | tbl ps=>
  have e:h.get? a=some { cls:=.none,data:=.fields ps }:=x
  show h'.get? a=some { cls:=.none,data:=.fields ps }
  exact k a _ (.inl rfl) e
 | met f y=>
  have e:h.get? a=some (PySem.W.methodObj (.ref f) (.ref y)):=x
  show h'.get? a=some (PySem.W.methodObj (.ref f) (.ref y))
  exact k a _ (.inl rfl) e
 | ext φ=>obtain ⟨p,⟨o,e⟩,st⟩:=x;exact ⟨st _ _ p λo q=>k _ _ (.inl rfl) q,⟨o,k _ _ (.inl rfl) e⟩,st⟩
theorem HOk.lt (x:HOk P w H h) (e:H a=some o):a<h.objs.size:=(x a o e).lt
theorem HOk.fresh (x:HOk P w H h) (e:h.objs.size<=a):H a=none:=by
 cases q:H a with
 | none=>rfl
 | some u=>exact absurd (Nat.lt_of_lt_of_le (x.lt q) e) (Nat.lt_irrefl _)
theorem HOk.kept (x:HOk P w H h) (k:∀ b u,h.get? b=some u->h'.get? b=some u):HOk P w H h':=λa o e=>
 (x a o e).stay (λb u _ q=>k b u q) (λ_ q=>q) λ_ _ q=>q
theorem HOk.laid (x:HOk P w H h) (k:∀ b u,h.get? b=some u->h'.get? b=some u) (hp:h.objs.size<=a) (new:ObjOk P w (upd H a o) h' a o):HOk P w (upd H a o) h':=λb u e=>by
 have hn:=x.fresh hp
 by_cases hb:b=a
 ·subst hb;rw [Zab] at e;cases e;exact new
 ·rw [Zas hb] at e
  exact (x b u e).stay (λc v _ q=>k c v q) (λc q=>by rw [Zas (Zag q hn)];exact q) λc xs q=>by rw [Zas (Zag q hn)];exact q
end
def Rd (H:Hp) (a:Addr) (u:HO):Prop:=H a=some u\/∃ o,H a=some (.frz o u)
theorem Rd.ok {P:Program} {w:World} {H:Hp} {h:Heap} {a:Addr} {u:HO} (r:Rd H a u) (x:HOk P w H h):ObjOk P w H h a u:=by
 rcases r with r | ⟨o,r⟩
 ·exact x a u r
 ·obtain ⟨_,q⟩:=x a _ r
  exact q
def Mut:Option HO->Prop
 | some (.lst _)=>True
 | some (.dK _)=>True
 | some (.dT _)=>True
 | some (.set _ _)=>True
 | some (.ins _ _ _)=>True
 | some (.ext _)=>True
 | _=>False
section
variable {P:Program} {w:World} {H:Hp} {h h':Heap} {x e:Addr} {o':HO}
theorem HOk.write (ok:HOk P w H h) (mu:Mut (H x)) (he:e=x\/H e=some (.own x)) (k:∀ b u,b≠e->h.get? b=some u->h'.get? b=some u) (heo:∃ u,h'.get? e=some u)
  (new:ObjOk P w (upd H x o') h' x o'):HOk P w (upd H x o') h':=λb u q=>by
 have nown:∀ c y,H c=some (.own y)->c≠x:=λc y r z=>by subst z;rw [r] at mu;exact mu
 have ntup:∀ c xs,H c=some (.tup xs)->c≠x:=λc xs r z=>by subst z;rw [r] at mu;exact mu
 by_cases hb:b=x
 ·subst hb;rw [Zab] at q;cases q;exact new
 ·rw [Zas hb] at q
  by_cases hbe:b=e
  ·have q':H b=some (.own x):=by
    rcases he with z | z
    ·exact absurd (hbe.trans z) hb
    ·rw [hbe];exact z
   rw [q] at q';cases q'
   obtain ⟨v,hv⟩:=heo
   exact ⟨v,by rw [hbe];exact hv⟩
  ·refine (ok b u q).stay (λc v hc r=>k c v ?_ r) (λc r=>by rw [Zas (nown c b r)];exact r) λc xs r=>by rw [Zas (ntup c xs r)];exact r
   rcases hc with rfl | hc
   ·exact hbe
   ·rintro rfl
    rcases he with z | z
    ·exact nown c b hc z
    ·rw [hc] at z;cases z;exact hb rfl
end
structure Un (fs ex:List Addr) (H H':Hp) (h h':Heap):Prop where
 keep:∀ b o,h.get? b=some o->H b=none->b ∉ fs->b ∉ ex->h'.get? b=some o
 slot:∀ b o,h.get? b=some o->H b=none->b∈fs->b ∉ ex->∃ sl,h'.get? b=some { o with slots:=sl }
 free:∀ b o,h.get? b=some o->H b=none->b ∉ ex->H' b=none
 there:∀ b o,h.get? b=some o->b ∉ ex->∃ o',h'.get? b=some o'
 tups:∀ b xs,H b=some (.tup xs)->H' b=some (.tup xs)
 frzs:∀ b o u,H b=some (.frz o u)->H' b=some (.frz o u)
 tbls:∀ b ps,H b=some (.tbl ps)->∃ more,H' b=some (.tbl (ps++more))
section
variable {fs fs' ex ex':List Addr} {H H1 H2:Hp} {h h1 h2 h':Heap} {a x e:Addr} {o:HO}
theorem Un.any (u:Un fs ex H H1 h h1) {b:Addr} {ob:Obj} (q:h.get? b=some ob) (n:H b=none) (hx:b ∉ ex):∃ sl,h1.get? b=some { ob with slots:=sl }:=by
 by_cases hb:b∈fs
 ·exact u.slot b ob q n hb hx
 ·exact ⟨ob.slots,u.keep b ob q n hb hx⟩
theorem Un.kept (k:∀ b u,h.get? b=some u->h'.get? b=some u):Un fs ex H H h h':=
 ⟨λb ob q _ _ _=>k b ob q,λb ob q _ _ _=>⟨ob.slots,k b ob q⟩,λ_ _ _ n _=>n,λb ob q _=>⟨ob,k b ob q⟩,λ_ _ q=>q,λ_ _ _ q=>q,λ_ ps q=>⟨#[],by rw [q];simp⟩⟩
theorem Un.refl:Un fs ex H H h h:=Un.kept λ_ _ q=>q
theorem Un.laid (k:∀ b u,h.get? b=some u->h'.get? b=some u) (hp:h.objs.size<=a) (hn:H a=none):Un fs ex H (upd H a o) h h' where
 keep:=λb u q _ _ _=>k b u q
 slot:=λb u q _ _ _=>⟨u.slots,k b u q⟩
 free:=λb u q n _=>by rw [Zas (Nat.ne_of_lt (Nat.lt_of_lt_of_le (Heap.lt_size q) hp))];exact n
 there:=λb u q _=>⟨u,k b u q⟩
 tups:=λb xs q=>by rw [Zas (Zag q hn)];exact q
 frzs:=λb u xs q=>by rw [Zas (Zag q hn)];exact q
 tbls:=λb ps q=>⟨#[],by rw [Zas (Zag q hn),q];simp⟩
theorem Un.write (mu:Mut (H x)) (he:e=x\/H e=some (.own x)) (k:∀ b u,b≠e->h.get? b=some u->h'.get? b=some u) (heo:∃ u,h'.get? e=some u):Un fs ex H (upd H x o) h h':=by
 have hx:∀ b,H b=none->b≠x:=λb n z=>by subst z;rw [n] at mu;exact mu
 have hb:∀ b,H b=none->b≠e:=λb n z=>by
  subst z
  rcases he with r | r
  ·exact hx b n r
  ·rw [n] at r;cases r
 have hm:∀ b u,H b=some u->¬ Mut (some u)->b≠x:=λb u q nm z=>by subst z;rw [q] at mu;exact nm mu
 refine ⟨λb u q n _ _=>k b u (hb b n) q,λb u q n _ _=>⟨u.slots,k b u (hb b n) q⟩,λb u q n _=>by rw [Zas (hx b n)];exact n,λb u q _=>?_,
  λb xs q=>by rw [Zas (hm b _ q λz=>z)];exact q,λb u xs q=>by rw [Zas (hm b _ q λz=>z)];exact q,λb ps q=>⟨#[],by rw [Zas (hm b _ q λz=>z),q];simp⟩⟩
 by_cases hbe:b=e
 ·subst hbe;exact heo
 ·exact ⟨u,k b u hbe q⟩
end
def trk (h:Heap) (H:Hp):List Addr:=(List.range h.objs.size).filter λa=>(H a).isSome
def Zfu (h:Heap) (H:Hp):Heap:=PySem.W.hideAll h (trk h H)
theorem Zfv (h:Heap) (H:Hp):(Zfu h H).objs.size=h.objs.size:=PySem.W.hideAll_size _ _
theorem ZgP {h:Heap} {H:Hp} {b:Addr} {o:Obj} (e:h.get? b=some o) (n:H b=none):(Zfu h H).get? b=some o:=
 PySem.W.hideAll_get _ e λhm=>by
  have q:(H b).isSome=true:=(List.mem_filter.mp hm).2
  rw [n] at q;simp at q
theorem Zh0 {h:Heap} {H:Hp} {b:Addr} {o:Obj} (e:(Zfu h H).get? b=some o):h.get? b=some o/\H b=none:=by
 have e':h.get? b=some o:=PySem.W.of_hideAll (trk h H) e
 refine ⟨e',?_⟩
 cases q:H b with
 | none=>rfl
 | some x=>
  have hm:b∈trk h H:=List.mem_filter.mpr ⟨List.mem_range.mpr (Heap.lt_size e'),by simp [q]⟩
  have z:(Zfu h H).get? b=none:=PySem.W.hideAll_none (trk h H) hm
  rw [z] at e;cases e
def Zh1 (g h:Heap) (L:Addr):List (Addr×Obj):=(List.range h.objs.size).filterMap λa=>if a=L\/(g.get? a).isSome=true then none else (h.get? a).map λo=>(a,o)
def rest (g h:Heap) (L d:Addr):List (Addr×Obj):=(Zh1 g h L).filter λp=>decide (p.1≠d)
end L2
namespace L2
open PySem PySem.Spec PyProof.Rows
structure Mod (K:PySem.W.Frag) (mg:Str->Option Value) (base:Heap):Prop where
 kin:K.In base
 glob:base.Ns mainGlobals mg
 blt:∃ mb,base.Ns builtinsNs mb/\∀ x:Str,x ≠ "__name__" -> mb x=bootBuiltins x
 nolimit:base.NoLimit
structure Cx where
 prog:Program
 w:World
 K:PySem.W.Frag
 mg:Str->Option Value
 base:Heap
 A:Around
 N:List Str
 s₀:Shared
 H₀:Hp
 env:Env
 outer:List Env
 stack:List Env
 ex:List Addr
 fn:Str->Bool
 calm:Bool
 pn:List (Addr×Obj)
 xe:Value->Shared->Prop
def frs (l:List Env):List Addr:=l.filterMap (·.frame)
abbrev Cx.fs (X:Cx):List Addr:=frs X.outer
def Vis (sc:Scope) (x:Str):Prop:=sc.names.lookup x=some .local\/sc.names.lookup x=some .cell\/sc.names.lookup x=some .free
def Loc (sc:Scope) (x:Str):Prop:=sc.names.lookup x=some .local\/sc.names.lookup x=some .cell
def Zl5 (env:Env) (h:Heap) (m:Str->Option Value) (x:Str) (u:Value):Prop:=
 (env.kindOf x=some .local/\m x=some u)\/((env.kindOf x=some .cell\/env.kindOf x=some .free)/\∃ c,env.cells.lookup x=some c/\h.IsCell c (some u))
structure Cx.Ok (X:Cx):Prop where
 mod:Mod X.K X.mg X.base
 kind:X.env.scope.kind=.function
 glob:X.env.globals=mainGlobals
 blt:X.env.builtins=builtinsNs
 above:X.s₀.heap.objs.size<=X.env.locals
 inj:∀ x y c,X.env.cells.lookup x=some c->X.env.cells.lookup y=some c->x=y
 has:∀ x,(X.env.kindOf x=some .cell\/X.env.kindOf x=some .free)->∃ c,X.env.cells.lookup x=some c
 cab:∀ x c,X.fn x=true->X.env.cells.lookup x=some c->X.s₀.heap.objs.size<=c
 hd:X.calm=true->X.A.handled=none
 frames:X.A.frames=some X.stack
 stk:X.stack=X.outer\/(X.stack=X.env::X.outer/\X.env.frame=some X.env.locals)
 exf:∀ b∈X.ex,b≠X.env.locals/\∀ x c,X.env.cells.lookup x=some c->c≠b
 bs:∀ b o,X.base.get? b=some o->X.s₀.heap.get? b=some o/\X.H₀ b=none
 bsz:X.base.objs.size<=X.s₀.heap.objs.size
 noex:∀ b o,X.base.get? b=some o->b ∉ X.ex
 exfs:∀ b∈X.ex,b ∉ X.fs
 funs:X.s₀.heap.FunFrames X.base X.outer
 frf:∀ b∈X.fs,X.H₀ b=none
structure Inv (X:Cx) (pins:List (Addr×Obj)) (σ:List (Option V)) (H:Hp) (s:Shared):Prop where
 ok:X.Ok
 os:s.os=X.s₀.os
 bare:AllBare s.gens
 base:Un X.fs X.ex X.H₀ H X.s₀.heap s.heap
 loc:∃ m,s.heap.Ns X.env.locals m/\∀ (i:Nat) (x:Str) (v:V),X.N[i]?=some x->σ[i]?=some (some v)->Vis X.env.scope x->∃ u,RelV v u/\Zl5 X.env s.heap m x u
 cell:∀ x c,X.env.cells.lookup x=some c->∃ v,s.heap.IsCell c v
 free:H X.env.locals=none
 freeC:∀ x c,X.env.cells.lookup x=some c->H c=none
 pin:∀ p∈X.pn++pins,s.heap.get? p.1=some p.2/\H p.1=none/\p.1≠X.env.locals/\p.1 ∉ X.fs/\∀ v,p.2.data≠.cell v
 hok:HOk X.prog X.w H s.heap
 len:σ.length=X.N.length
section
variable {X:Cx} {pins:List (Addr×Obj)} {σ:List (Option V)} {H H':Hp} {s:Shared} {h':Heap}
theorem Cx.Ok.nofr (ok:X.Ok) {b:Addr} {o:Obj} (e:X.base.get? b=some o):b ∉ X.fs:=λhb=>by
 have:=(ok.funs.mem hb).1
 rw [e] at this;cases this
theorem Inv.bs (I:Inv X pins σ H s):∀ b o,X.base.get? b=some o->s.heap.get? b=some o/\H b=none:=λb o e=>
 ⟨I.base.keep b o (I.ok.bs b o e).1 (I.ok.bs b o e).2 (I.ok.nofr e) (I.ok.noex b o e),I.base.free b o (I.ok.bs b o e).1 (I.ok.bs b o e).2 (I.ok.noex b o e)⟩
theorem Inv.bk (I:Inv X pins σ H s):∀ b o,X.base.get? b=some o->s.heap.get? b=some o:=λb o e=>(I.bs b o e).1
theorem Inv.mod (I:Inv X pins σ H s):Mod X.K X.mg X.base:=I.ok.mod
theorem Inv.kIn (I:Inv X pins σ H s):X.K.In s.heap:=I.ok.mod.kin.keeps I.bk
theorem Inv.lt (I:Inv X pins σ H s):X.env.locals<s.heap.objs.size:=let ⟨_,hn,_⟩:=I.loc;hn.lt
theorem Inv.sz (I:Inv X pins σ H s):X.s₀.heap.objs.size<=s.heap.objs.size:=Nat.le_trans I.ok.above (Nat.le_of_lt I.lt)
theorem Inv.nofs (I:Inv X pins σ H s) {a:Addr} (h:s.heap.objs.size<=a):a ∉ X.fs:=λhb=>by
 obtain ⟨_,o,ho,_⟩:=I.ok.funs.mem hb
 exact absurd (Nat.lt_of_lt_of_le (Heap.lt_size ho) (Nat.le_trans I.sz h)) (Nat.lt_irrefl _)
theorem Inv.cne (I:Inv X pins σ H s):∀ x c,X.env.cells.lookup x=some c->c≠X.env.locals:=λx c e z=>by
 obtain ⟨v,o,ho,hd⟩:=I.cell x c e
 obtain ⟨m,⟨o',es,ep,ho',hd',_⟩,_⟩:=I.loc
 rw [z,ho'] at ho;cases ho;rw [hd'] at hd;cases hd
theorem Inv.funs (I:Inv X pins σ H s):s.heap.FunFrames X.base X.outer:=by
 have all:∀ (l:List Env),(∀ b∈frs l,b∈X.fs)->X.s₀.heap.FunFrames X.base l->s.heap.FunFrames X.base l:=by
  intro l
  induction l with
  | nil=>intro _ _;trivial
  | cons env r ih=>
   intro hs hl
   obtain ⟨hk,⟨L,o,hf,hn,ho,hd⟩,hr⟩:=hl
   have hL:L∈X.fs:=hs L (by unfold frs;rw [List.filterMap_cons,hf];exact List.mem_cons_self)
   obtain ⟨sl,e⟩:=I.base.slot L o ho (I.ok.frf L hL) hL λz=>I.ok.exfs L z hL
   exact ⟨hk,⟨L,_,hf,hn,e,hd⟩,ih (λb hb=>hs b (by unfold frs;rw [List.filterMap_cons,hf];exact List.mem_cons_of_mem _ hb)) hr⟩
 exact all X.outer (λ_ hb=>hb) I.ok.funs
theorem Inv.stack (I:Inv X pins σ H s):s.heap.FunFrames X.base X.stack:=by
 rcases I.ok.stk with e | ⟨e,hf⟩
 ·rw [e];exact I.funs
 ·rw [e]
  obtain ⟨m,hn,_⟩:=I.loc
  refine .cons (by rw [I.ok.kind];decide) hf hn ?_ I.funs
  exact Heap.get?_none_of_le (Nat.le_trans I.ok.bsz I.ok.above)
theorem Inv.stkSub (I:Inv X pins σ H s):∀ b∈frs X.stack,b∈X.env.locals::X.fs:=λb hb=>by
 rcases I.ok.stk with e | ⟨e,hf⟩
 ·rw [e] at hb;exact List.mem_cons_of_mem _ hb
 ·rw [e] at hb
  unfold frs at hb
  rw [List.filterMap_cons,hf] at hb
  exact hb
theorem Inv.stkFree (I:Inv X pins σ H s):∀ b∈frs X.stack,H b=none:=λb hb=>by
 rcases List.mem_cons.mp (I.stkSub b hb) with e | hb
 ·rw [e];exact I.free
 ·obtain ⟨_,o,ho,_⟩:=I.ok.funs.mem hb
  exact I.base.free b o ho (I.ok.frf b hb) λz=>I.ok.exfs b z hb
theorem Inv.step {g':Array GenState} {t':Nat} {d':Drawn} {ch:List Addr} (I:Inv X pins σ H s)
  (hch:∀ b∈ch,(b∈X.ex\/X.s₀.heap.objs.size<=b)/\b≠X.env.locals/\(∀ x c,X.env.cells.lookup x=some c->c≠b)/\∀ p∈X.pn++pins,p.1≠b)
  (keep:∀ b o,b≠X.env.locals->b ∉ X.fs->b ∉ ch->s.heap.get? b=some o->H b=none->h'.get? b=some o)
  (slot:∀ b o,b≠X.env.locals->b∈X.fs->b ∉ ch->s.heap.get? b=some o->H b=none->∃ sl,h'.get? b=some { o with slots:=sl }) (free:∀ b o,b ∉ ch->s.heap.get? b=some o->H b=none->H' b=none)
  (there:∀ b o,b ∉ ch->s.heap.get? b=some o->∃ o',h'.get? b=some o')
  (tups:∀ b xs,H b=some (.tup xs)->H' b=some (.tup xs)) (frzs:∀ b o u,H b=some (.frz o u)->H' b=some (.frz o u)) (tbls:∀ b ps,H b=some (.tbl ps)->∃ more,H' b=some (.tbl (ps++more)))
  (ns:∀ m,s.heap.Ns X.env.locals m->h'.Ns X.env.locals m) (hok:HOk X.prog X.w H' h') (hg:AllBare g') :
  Inv X pins σ H' { s with heap:=h',gens:=g',drawn:=d',toks:=t' }:=by
 have neL:∀ b o,X.s₀.heap.get? b=some o->b≠X.env.locals:=λb o e=>Nat.ne_of_lt (Nat.lt_of_lt_of_le (Heap.lt_size e) I.ok.above)
 have neC:∀ b o,X.s₀.heap.get? b=some o->b ∉ X.ex->b ∉ ch:=λb o e hx hb=>by
  rcases (hch b hb).1 with z | z
  ·exact hx z
  ·exact absurd (Nat.lt_of_lt_of_le (Heap.lt_size e) z) (Nat.lt_irrefl _)
 have cellK:∀ x c,X.env.cells.lookup x=some c->∀ v,s.heap.IsCell c v->h'.IsCell c v:=λx c e v ⟨o,ho,hd⟩=>by
  have nch:c ∉ ch:=λz=>(hch c z).2.2.1 x c e rfl
  by_cases hc:c∈X.fs
  ·obtain ⟨sl,q⟩:=slot c o (I.cne x c e) hc nch ho (I.freeC x c e)
   exact ⟨_,q,hd⟩
  ·exact ⟨o,keep c o (I.cne x c e) hc nch ho (I.freeC x c e),hd⟩
 refine ⟨I.ok,I.os,hg,⟨λb o e n hb hx=>?_,λb o e n hb hx=>?_,λb o e n hx=>?_,λb o e hx=>?_,λb xs e=>tups b xs (I.base.tups b xs e),λb o xs e=>frzs b o xs (I.base.frzs b o xs e),λb ps e=>?_⟩,?_,λx c e=>?_,?_,λx c e=>?_,λp hp=>?_,hok,I.len⟩
 ·exact keep b o (neL b o e) hb (neC b o e hx) (I.base.keep b o e n hb hx) (I.base.free b o e n hx)
 ·obtain ⟨sl,e1⟩:=I.base.slot b o e n hb hx
  obtain ⟨sl',e2⟩:=slot b _ (neL b o e) hb (neC b o e hx) e1 (I.base.free b o e n hx)
  exact ⟨sl',e2⟩
 ·obtain ⟨o',e1⟩:=I.base.there b o e hx
  exact free b o' (neC b o e hx) e1 (I.base.free b o e n hx)
 ·obtain ⟨o',e1⟩:=I.base.there b o e hx
  exact there b o' (neC b o e hx) e1
 ·obtain ⟨m1,e1⟩:=I.base.tbls b ps e
  obtain ⟨m2,e2⟩:=tbls b _ e1
  exact ⟨m1++m2,by rw [e2,Array.append_assoc]⟩
 ·obtain ⟨m,hn,hl⟩:=I.loc
  refine ⟨m,ns m hn,λi x v e1 e2 e3=>?_⟩
  obtain ⟨u,r,l⟩:=hl i x v e1 e2 e3
  refine ⟨u,r,?_⟩
  rcases l with l | ⟨k,c,e,z⟩
  ·exact .inl l
  ·exact .inr ⟨k,c,e,cellK x c e _ z⟩
 ·obtain ⟨v,z⟩:=I.cell x c e
  exact ⟨v,cellK x c e v z⟩
 ·obtain ⟨m,⟨o,_,_,ho,_⟩,_⟩:=I.loc
  exact free _ o (λz=>(hch _ z).2.1 rfl) ho I.free
 ·obtain ⟨v,o,ho,hd⟩:=I.cell x c e
  exact free c o (λz=>(hch c z).2.2.1 x c e rfl) ho (I.freeC x c e)
 ·obtain ⟨e,n,ne,nf,d⟩:=I.pin p hp
  have nch:p.1 ∉ ch:=λz=>(hch p.1 z).2.2.2 p hp rfl
  exact ⟨keep p.1 p.2 ne nf nch e n,free p.1 p.2 nch e n,ne,nf,d⟩
theorem Inv.un {t':Nat} (I:Inv X pins σ H s) (u:Un X.fs [] H H' s.heap h') (hok:HOk X.prog X.w H' h'):Inv X pins σ H' { s with heap:=h',toks:=t' }:=by
 obtain ⟨m,⟨o,es,ep,ho,r⟩,_⟩:=id I.loc
 obtain ⟨sl,hL⟩:=u.any ho I.free (by simp)
 exact I.step (g':=s.gens) (d':=s.drawn) (ch:=[]) (λ_ z=>nomatch z) (λb o _ hb _ e n=>u.keep b o e n hb (by simp)) (λb o _ hb _ e n=>u.slot b o e n hb (by simp)) (λb o _ e n=>u.free b o e n (by simp)) (λb o _ e=>u.there b o e (by simp)) u.tups u.frzs u.tbls (λm' hm=>by
  obtain ⟨o',es',ep',ho',r'⟩:=hm
  rw [ho] at ho';cases ho'
  exact ⟨_,es',ep',hL,r'⟩) hok I.bare
theorem Inv.call {g':Array GenState} {t':Nat} {d':Drawn} {ch:List Addr} (I:Inv X pins σ H s) (u:Un (frs X.stack) ch H H' s.heap h') (hok:HOk X.prog X.w H' h') (hg:AllBare g')
  (hch:∀ b∈ch,(b∈X.ex\/X.s₀.heap.objs.size<=b)/\b≠X.env.locals/\(∀ x c,X.env.cells.lookup x=some c->c≠b)/\∀ p∈X.pn++pins,p.1≠b) :
  Inv X pins σ H' { s with heap:=h',gens:=g',drawn:=d',toks:=t' }:=by
 obtain ⟨m,⟨o,es,ep,ho,r⟩,_⟩:=id I.loc
 obtain ⟨sl,hL⟩:=u.any ho I.free λz=>(hch _ z).2.1 rfl
 exact I.step (ch:=ch) hch (λb o hL hb hc e n=>u.keep b o e n (λz=>(List.mem_cons.mp (I.stkSub b z)).elim hL hb) hc) (λb o _ _ hc e n=>u.any e n hc) (λb o hc e n=>u.free b o e n hc) (λb o hc e=>u.there b o e hc) u.tups u.frzs u.tbls (λm' hm=>by
  obtain ⟨o',es',ep',ho',r'⟩:=hm
  rw [ho] at ho';cases ho'
  exact ⟨_,es',ep',hL,r'⟩) hok hg
theorem Inv.turned {t':Nat} {it:Addr} (I:Inv X pins σ H s) (k:∀ b o,b≠it->s.heap.get? b=some o->h'.get? b=some o) (hn:H it=none) (hL:it≠X.env.locals)
  (h1:it∈X.ex\/X.s₀.heap.objs.size<=it) (h2:∀ x c,X.env.cells.lookup x=some c->c≠it) (h3:∀ p∈X.pn++pins,p.1≠it):Inv X pins σ H { s with heap:=h',toks:=t' }:=by
 have nit:∀ b u,H b=some u->b≠it:=λb u e z=>by rw [z,hn] at e;cases e
 refine I.step (g':=s.gens) (d':=s.drawn) (ch:=[it]) (λb hb=>?_) (λb o _ _ hc e _=>k b o (λz=>hc (by simp [z])) e) (λb o _ _ hc e _=>⟨o.slots,k b o (λz=>hc (by simp [z])) e⟩) (λ_ _ _ _ n=>n)
  (λb o hc e=>⟨o,k b o (λz=>hc (by simp [z])) e⟩) (λ_ _ e=>e) (λ_ _ _ e=>e) (λb ps e=>⟨#[],by rw [e];simp⟩) (λm hm=>?_) (λb u e=>?_) I.bare
 ·have e:b=it:=by simpa using hb
  subst e
  exact ⟨h1,hL,h2,h3⟩
 ·obtain ⟨o,es,ep,ho,r⟩:=hm
  exact ⟨o,es,ep,k _ o (Ne.symm hL) ho,r⟩
 ·refine (I.hok b u e).stay (λc v hc q=>k c v ?_ q) (λ_ q=>q) λ_ _ q=>q
  rcases hc with z | z
  ·rw [z];exact nit b u e
  ·exact nit c _ z
theorem Inv.tok (I:Inv X pins σ H s) (t:Nat):Inv X pins σ H { s with toks:=t }:=I.un (h':=s.heap) (t':=t) Un.refl I.hok
theorem Inv.kept {t':Nat} (I:Inv X pins σ H s) (k:∀ b u,s.heap.get? b=some u->h'.get? b=some u):Inv X pins σ H { s with heap:=h',toks:=t' }:=I.un (Un.kept k) (I.hok.kept k)
theorem Inv.laid {a:Addr} {o:HO} {t':Nat} (I:Inv X pins σ H s) (k:∀ b u,s.heap.get? b=some u->h'.get? b=some u) (hp:s.heap.objs.size<=a) (new:ObjOk X.prog X.w (upd H a o) h' a o) :
  Inv X pins σ (upd H a o) { s with heap:=h',toks:=t' }:=I.un (Un.laid k hp (I.hok.fresh hp)) (I.hok.laid k hp new)
theorem Inv.write {x e:Addr} {o:HO} {t':Nat} (I:Inv X pins σ H s) (mu:Mut (H x)) (he:e=x\/H e=some (.own x)) (k:∀ b u,b≠e->s.heap.get? b=some u->h'.get? b=some u) (heo:∃ u,h'.get? e=some u)
  (new:ObjOk X.prog X.w (upd H x o) h' x o):Inv X pins σ (upd H x o) { s with heap:=h',toks:=t' }:=I.un (Un.write mu he k heo) (I.hok.write mu he k heo new)
theorem Inv.weak {σ':List (Option V)} (I:Inv X pins σ H s) (hl:σ'.length=σ.length) (w:∀ (i:Nat) v,σ'[i]?=some (some v)->σ[i]?=some (some v)):Inv X pins σ' H s:=
 ⟨I.ok,I.os,I.bare,I.base,let ⟨m,hn,hl'⟩:=I.loc;⟨m,hn,λi x v e1 e2 e3=>hl' i x v e1 (w i v e2) e3⟩,I.cell,I.free,I.freeC,I.pin,I.hok,hl.trans I.len⟩
theorem Inv.pins_of {pins':List (Addr×Obj)} (I:Inv X pins σ H s) (h:∀ p∈pins',s.heap.get? p.1=some p.2/\H p.1=none/\p.1≠X.env.locals/\p.1 ∉ X.fs/\∀ v,p.2.data≠.cell v):Inv X pins' σ H s:=
 ⟨I.ok,I.os,I.bare,I.base,I.loc,I.cell,I.free,I.freeC,λp hp=>(List.mem_append.mp hp).elim (λz=>I.pin p (List.mem_append_left _ z)) (h p),I.hok,I.len⟩
theorem nodup_ix {N:List Str} (hN:N.Nodup) {i j:Nat} {x:Str} (a:N[i]?=some x) (b:N[j]?=some x):i=j:=by
 obtain ⟨h1,e1⟩:=List.getElem?_eq_some_iff.mp a
 obtain ⟨h2,e2⟩:=List.getElem?_eq_some_iff.mp b
 exact (List.getElem_inj hN).mp (e1.trans e2.symm)
theorem ZdB {M:Model} {A:Around} {E:Value->Shared->Prop} {i:Nat} {x:Str} {v:V} {u:Value} {Q:Unit->Shared->Prop} (I:Inv X pins σ H s) (hN:X.N.Nodup) (hi:X.N[i]?=some x) (hx:Loc X.env.scope x) (r:RelV v u)
  (h:∀ s',Inv X pins (σ.set i (some v)) H s'->(∃ a,Heap.SameBut a s.heap s'.heap/\(a=X.env.locals\/X.env.cells.lookup x=some a))->Q () s') (hf:X.fn x=true\/X.env.scope.names.lookup x=some .local:=by first | exact .inl rfl | exact .inr rfl | assumption):wpAny M A (storeName X.env x u) Q E s:=by
 obtain ⟨m,hn,hl⟩:=id I.loc
 have hcls:(X.env.scope.kind == .class || (X.env.scope.kind == .module && X.env.locals != X.env.globals))=false:=by rw [I.ok.kind];rfl
 have hiσ:i<σ.length:=by rw [I.len];exact (List.getElem?_eq_some_iff.mp hi).1
 have cne:=I.cne
 have tracked:∀ {a:Addr} {h':Heap},(∃ o,s.heap.get? a=some o/\H a=none)->Heap.SameBut a s.heap h'->HOk X.prog X.w H h':=λ{a h'} ha hs b ob e=>by
  obtain ⟨_,_,hfree⟩:=ha
  refine (I.hok b ob e).stay (λc w' hc q=>(hs.2 c ?_).trans q) (λ_ q=>q) λ_ _ q=>q
  rintro rfl
  rcases hc with rfl | hc
  ·rw [hfree] at e;cases e
  ·rw [hfree] at hc;cases hc
 rcases hx with hk | hk
 ·refine wpAny_storeName_local hk hn (λh' hn' hs=>?_) hcls
  obtain ⟨oL,_,_,hoL,_⟩:=id hn
  refine h _ ⟨I.ok,I.os,I.bare,⟨λb o e n hb hx=>?_,λb o e n hb hx=>?_,I.base.free,λb o e hx=>?_,I.base.tups,I.base.frzs,I.base.tbls⟩,⟨_,hn',λj y v' e1 e2 e3=>?_⟩,λy c e=>?_,I.free,I.freeC,λp hp=>?_,tracked ⟨oL,hoL,I.free⟩ hs,by simpa using I.len⟩ ⟨_,hs,.inl rfl⟩
  ·exact (hs.2 b (Nat.ne_of_lt (Nat.lt_of_lt_of_le (Heap.lt_size e) I.ok.above))).trans (I.base.keep b o e n hb hx)
  ·obtain ⟨sl,e1⟩:=I.base.slot b o e n hb hx
   exact ⟨sl,(hs.2 b (Nat.ne_of_lt (Nat.lt_of_lt_of_le (Heap.lt_size e) I.ok.above))).trans e1⟩
  ·obtain ⟨o',e1⟩:=I.base.there b o e hx
   exact ⟨o',(hs.2 b (Nat.ne_of_lt (Nat.lt_of_lt_of_le (Heap.lt_size e) I.ok.above))).trans e1⟩
  ·by_cases hj:j=i
   ·subst hj
    rw [hi] at e1;cases e1
    rw [List.getElem?_set_self hiσ] at e2
    cases e2
    exact ⟨u,r,.inl ⟨hk,by simp⟩⟩
   ·rw [List.getElem?_set_ne (Ne.symm hj)] at e2
    obtain ⟨u',r',q⟩:=hl j y v' e1 e2 e3
    refine ⟨u',r',?_⟩
    rcases q with ⟨k,e⟩ | ⟨k,c,e,z⟩
    ·refine .inl ⟨k,?_⟩
     have:y≠x:=λe=>hj (nodup_ix hN e1 (e▸hi))
     simp [this,e]
    ·exact .inr ⟨k,c,e,z.sameBut hs (cne y c e)⟩
  ·obtain ⟨w',z⟩:=I.cell y c e
   exact ⟨w',z.sameBut hs (cne y c e)⟩
  ·obtain ⟨e,n,ne,nf,d⟩:=I.pin p hp
   exact ⟨(hs.2 p.1 ne).trans e,n,ne,nf,d⟩
 ·have hfn:X.fn x=true:=by
   rcases hf with z | z
   ·exact z
   ·rw [z] at hk;cases hk
  obtain ⟨c,hc⟩:=I.ok.has x (.inl hk)
  obtain ⟨w',z⟩:=I.cell x c hc
  refine wpAny_storeName_cell I.ok.kind hk hc z (λh' hc' hs=>?_)
  obtain ⟨oc,hoc,hocd⟩:=id z
  refine h { s with heap:=h' } ⟨I.ok,I.os,I.bare,⟨λb o e n hb hx=>?_,λb o e n hb hx=>?_,I.base.free,λb o e hx=>?_,I.base.tups,I.base.frzs,I.base.tbls⟩,⟨m,hn.sameBut hs (Ne.symm (cne x c hc)),λj y v' e1 e2 e3=>?_⟩,λy c' e=>?_,I.free,I.freeC,λp hp=>?_,tracked ⟨oc,hoc,I.freeC x c hc⟩ hs,by simpa using I.len⟩ ⟨c,hs,.inr hc⟩
  ·exact (hs.2 b (Nat.ne_of_lt (Nat.lt_of_lt_of_le (Heap.lt_size e) (I.ok.cab x c hfn hc)))).trans (I.base.keep b o e n hb hx)
  ·obtain ⟨sl,e1⟩:=I.base.slot b o e n hb hx
   exact ⟨sl,(hs.2 b (Nat.ne_of_lt (Nat.lt_of_lt_of_le (Heap.lt_size e) (I.ok.cab x c hfn hc)))).trans e1⟩
  ·obtain ⟨o',e1⟩:=I.base.there b o e hx
   exact ⟨o',(hs.2 b (Nat.ne_of_lt (Nat.lt_of_lt_of_le (Heap.lt_size e) (I.ok.cab x c hfn hc)))).trans e1⟩
  ·by_cases hj:j=i
   ·subst hj
    rw [hi] at e1;cases e1
    rw [List.getElem?_set_self hiσ] at e2
    cases e2
    exact ⟨u,r,.inr ⟨.inl hk,c,hc,hc'⟩⟩
   ·rw [List.getElem?_set_ne (Ne.symm hj)] at e2
    obtain ⟨u',r',q⟩:=hl j y v' e1 e2 e3
    refine ⟨u',r',?_⟩
    rcases q with q | ⟨k,c',e,z'⟩
    ·exact .inl q
    ·refine .inr ⟨k,c',e,z'.sameBut hs ?_⟩
     rintro rfl
     exact hj (nodup_ix hN e1 (I.ok.inj _ _ _ e hc▸hi))
  ·by_cases hcc:c'=c
   ·subst hcc;exact ⟨_,hc'⟩
   ·obtain ⟨w2,z2⟩:=I.cell y c' e
    exact ⟨w2,z2.sameBut hs hcc⟩
  ·obtain ⟨e,n,ne,nf,d⟩:=I.pin p hp
   refine ⟨(hs.2 p.1 ?_).trans e,n,ne,nf,d⟩
   intro q
   rw [q,hoc] at e
   have q':oc=p.2:=Option.some.inj e
   exact d w' (by rw [<-q'];exact hocd)
theorem ZbS {M:Model} {A:Around} {E:Value->Shared->Prop} {i:Nat} {x:Str} {v:V} {u:Value} {Q:Unit->Shared->Prop} (I:Inv X pins σ H s) (hN:X.N.Nodup) (hi:X.N[i]?=some x) (hx:Loc X.env.scope x) (r:RelV v u)
  (h:∀ s',Inv X pins (σ.set i (some v)) H s'->Q () s') (hf:X.fn x=true\/X.env.scope.names.lookup x=some .local:=by first | exact .inl rfl | exact .inr rfl | assumption):wpAny M A (storeName X.env x u) Q E s:=
 ZdB I hN hi hx r (λs' I' _=>h s' I') hf
theorem Inv.call' {s':Shared} {ch:List Addr} (I:Inv X pins σ H s) (ho:s'.os=s.os) (u:Un (frs X.stack) ch H H' s.heap s'.heap) (hok:HOk X.prog X.w H' s'.heap) (hg:AllBare s'.gens)
  (hch:∀ b∈ch,(b∈X.ex\/X.s₀.heap.objs.size<=b)/\b≠X.env.locals/\(∀ x c,X.env.cells.lookup x=some c->c≠b)/\∀ p∈X.pn++pins,p.1≠b):Inv X pins σ H' s':=by
 obtain ⟨h',g',d',t',o'⟩:=s'
 have e:o'=s.os:=ho
 subst e
 exact I.call (g':=g') (t':=t') (d':=d') u hok hg hch
end
abbrev XK:=Value->Option Addr->Hp->Prop
abbrev St:=List (Option V)
abbrev VK:=V->Hp->Prop
abbrev TE:=St->Hp->VK->Prop
abbrev TT:=St->Hp->(Bool->Hp->Prop)->Prop
abbrev TA:=St->Hp->(List V->Hp->Prop)->Prop
structure Ze6 where
 nx:St->Hp->Prop
 rt:VK
 bk:St->Hp->Prop:=λ_ _=>False
 ct:St->Hp->Prop:=λ_ _=>False
abbrev TS:=Ze6->St->Hp->Prop
def EP (X:Cx) (pins:List (Addr×Obj)) (σ:St) (Q:VK) (u:Value) (s':Shared):Prop:=∃ v H',Inv X pins σ H' s'/\RelV v u/\Q v H'
def TP (X:Cx) (pins:List (Addr×Obj)) (σ:St) (Q:Bool->Hp->Prop) (b:Bool) (s':Shared):Prop:=∃ H',Inv X pins σ H' s'/\Q b H'
def AP (X:Cx) (pins:List (Addr×Obj)) (σ:St) (Q:List V->Hp->Prop) (us:List Value) (s':Shared):Prop:=∃ vs H',Inv X pins σ H' s'/\Vals vs us/\Q vs H'
def SP (X:Cx) (pins:List (Addr×Obj)) (D:Ze6) (f:Flow) (s':Shared):Prop:=
 match f with
 | .next=>∃ σ' H',Inv X pins σ' H' s'/\D.nx σ' H'
 | .brk=>∃ σ' H',Inv X pins σ' H' s'/\D.bk σ' H'
 | .cont=>∃ σ' H',Inv X pins σ' H' s'/\D.ct σ' H'
 | .ret u=>∃ v σ' H',Inv X pins σ' H' s'/\RelV v u/\D.rt v H'
def PE (X:Cx) (e:Expr) (t:TE):Prop:=
 ∀ (pins:List (Addr×Obj)) (s:Shared) (σ:St) (H:Hp) (Q:VK),Inv X pins σ H s->t σ H Q->wpAny (model X.prog X.w) X.A (eval e X.env) (EP X pins σ Q) X.xe s
def PT (X:Cx) (e:Expr) (t:TT):Prop:=
 ∀ (pins:List (Addr×Obj)) (s:Shared) (σ:St) (H:Hp) (Q:Bool->Hp->Prop),Inv X pins σ H s->t σ H Q->wpAny (model X.prog X.w) X.A (isTrue e X.env (eval e X.env)) (TP X pins σ Q) X.xe s
def PW (X:Cx) (e:Expr) (t:TT):Prop:=
 ∀ (whole:Sem Value) (pins:List (Addr×Obj)) (s:Shared) (σ:St) (H:Hp) (Q:Bool->Hp->Prop),Inv X pins σ H s->t σ H Q->wpAny (model X.prog X.w) X.A (isTrue e X.env whole) (TP X pins σ Q) X.xe s
theorem PW.pt {X:Cx} {e:Expr} {t:TT} (h:PW X e t):PT X e t:=h _
def PA (X:Cx) (es:List Expr) (t:TA):Prop:=
 ∀ (pos:Pos) (pins:List (Addr×Obj)) (s:Shared) (σ:St) (H:Hp) (Q:List V->Hp->Prop),Inv X pins σ H s->t σ H Q->wpAny (model X.prog X.w) X.A (spliced (backTo pos (starEach es X.env))) (AP X pins σ Q) X.xe s
def PS (X:Cx) (st:Stmt) (t:TS):Prop:=
 ∀ (pins:List (Addr×Obj)) (s:Shared) (σ:St) (H:Hp) (D:Ze6),Inv X pins σ H s->t D σ H->wpAny (model X.prog X.w) X.A (exec st X.env) (SP X pins D) X.xe s
def PSs (X:Cx) (st:List Stmt) (t:TS):Prop:=
 ∀ (pins:List (Addr×Obj)) (s:Shared) (σ:St) (H:Hp) (D:Ze6),Inv X pins σ H s->t D σ H->wpAny (model X.prog X.w) X.A (execs st X.env) (SP X pins D) X.xe s
theorem thn {α:Type} {t:Sem α} {Q Q':α->Shared->Prop} {M:Model} {A:Around} {E:Value->Shared->Prop} {s:Shared} (h:wpAny M A t Q E s) (hQ:∀ a s,Q a s->Q' a s):wpAny M A t Q' E s:=wpAny_mono h hQ λ_ _ x=>x
end L2
namespace L2
open PySem PySem.Spec PyProof.Rows
section
variable {X:Cx}
def ZgQ (i:Nat):TE:=λσ H Q=>∃ v,σ[i]?=some (some v)/\Q v H
def tC (v:V):TE:=λ_ H Q=>Q v H
theorem Zjc {i:Nat} {x:Str} {pos:Pos} (hN:X.N[i]?=some x) (hv:Vis X.env.scope x) (hd:(x == ("__debug__" : Str))=false:=by decide) (hcd:(x == ("__classdict__" : Str))=false:=by decide):PE X (.Name x pos) (ZgQ i):=by
 intro pins s σ H Q I h
 obtain ⟨v,e,h⟩:=h
 obtain ⟨m,hn,hl⟩:=I.loc
 obtain ⟨u,r,l⟩:=hl i x v hN e hv
 have fin:EP X pins σ Q u s:=⟨v,H,I,r,h⟩
 rcases l with ⟨hk,hm⟩ | ⟨hk,c,hc,hcell⟩
 ·exact wpAny_Name (wpAny_loadName_local I.ok.kind hk hn hm fin) hd
 ·rcases hk with hk | hk
  ·exact wpAny_Name (wpAny_loadName_cell I.ok.kind hk hc hcell fin) hd
  ·exact wpAny_Name (wpAny_loadName_free I.ok.kind hk hc hcell fin hcd) hd
theorem Zae {i j pos}:PE X (.Constant (.int i) j pos) (tC (.int i)):=λ_ _ _ H _ I h=>wpAny_Constant_int ⟨.int i,H,I.tok _,⟨_,rfl⟩,h⟩
theorem Zee {b j pos}:PE X (.Constant (.bool b) j pos) (tC (.bl b)):=λ_ _ _ H _ I h=>Constant_bool ⟨.bl b,H,I,rfl,h⟩
theorem Zfw {j pos}:PE X (.Constant .none j pos) (tC .non):=λ_ _ _ H _ I h=>Constant_none ⟨.non,H,I,rfl,h⟩
theorem ZcN {x j pos}:PE X (.Constant (.str x) j pos) (tC (.str x)):=λ_ _ _ H _ I h=>Calls.Constant_str ⟨.str x,H,I.tok _,⟨_,rfl⟩,h⟩
def Gl (X:Cx) (x:Str):Prop:=X.env.kindOf x=some .globalImplicit
theorem Zcu {E:Value->Shared->Prop} {pins:List (Addr×Obj)} {s:Shared} {σ:St} {H:Hp} {x:Str} {u:Value} {pos:Pos} {Q:Value->Shared->Prop} (I:Inv X pins σ H s) (hg:Gl X x) (hm:X.mg x=some u) (h:Q u s)
  (hd:(x == ("__debug__" : Str))=false:=by decide):wpAny (model X.prog X.w) X.A (eval (.Name x pos) X.env) Q E s:=
 Calls.Name_function_global I.ok.kind hg (Calls.loadGlobal_global (by rw [I.ok.glob];exact I.mod.glob.keeps I.bk) hm h) hd
theorem Zcv {E:Value->Shared->Prop} {pins:List (Addr×Obj)} {s:Shared} {σ:St} {H:Hp} {x:Str} {u:Value} {pos:Pos} {Q:Value->Shared->Prop} (I:Inv X pins σ H s) (hg:Gl X x) (hm:X.mg x=none) (hv:bootBuiltins x=some u) (h:Q u s)
  (hn:x ≠ "__name__" := by decide) (hd:(x == ("__debug__" : Str))=false:=by decide):wpAny (model X.prog X.w) X.A (eval (.Name x pos) X.env) Q E s:=by
 obtain ⟨mb,h1,h2⟩:=I.mod.blt
 exact Calls.Name_function_global I.ok.kind hg (Calls.loadGlobal_builtin (by rw [I.ok.glob];exact I.mod.glob.keeps I.bk) hm (by rw [I.ok.blt];exact h1.keeps I.bk) ((h2 x hn).trans hv) h) hd
theorem Zh2 {x:Str} {v:V} {u:Value} {pos:Pos} (hg:Gl X x) (hm:X.mg x=some u) (r:RelV v u) (hd:(x == ("__debug__" : Str))=false:=by decide):PE X (.Name x pos) (tC v):=
 λ_ _ _ H _ I h=>Zcu I hg hm ⟨v,H,I,r,h⟩ hd
theorem Zh3 {x:Str} {v:V} {u:Value} {pos:Pos} (hg:Gl X x) (hm:X.mg x=none) (hv:bootBuiltins x=some u) (r:RelV v u) (hn:x ≠ "__name__" := by decide) (hd:(x == ("__debug__" : Str))=false:=by decide):PE X (.Name x pos) (tC v):=
 λ_ _ _ H _ I h=>Zcv I hg hm hv ⟨v,H,I,r,h⟩ hn hd
def t2I (ta tb:TE) (k:Int->Int->Hp->Prop):St->Hp->Prop:=λσ H=>ta σ H λx H1=>tb σ H1 λy H2=>∃ i j,x=.int i/\y=.int j/\k i j H2
def ZmY (ta tb:TE):TE:=λσ H Q=>t2I ta tb (λi j H2=>Q (.int (i+j)) H2) σ H
def ZmZ (ta tb:TE):TE:=λσ H Q=>t2I ta tb (λi j H2=>Q (.int (i-j)) H2) σ H
def Zm0 (ta tb:TE):TE:=λσ H Q=>t2I ta tb (λi j H2=>(-(2 ^ 64)<i/\i<2 ^ 64)/\Q (.int (i * j)) H2) σ H
variable {a b:Expr} {ta tb:TE} {pos:Pos}
def PC (X:Cx) (op:CmpOp) (a b:Expr) (t:TE):Prop:=
 ∀ (pins:List (Addr×Obj)) (s:Shared) (σ:St) (H:Hp) (Q:VK),Inv X pins σ H s->t σ H Q ->
  wpAny (model X.prog X.w) X.A (eval a X.env) (λv s₁=>wpAny (model X.prog X.w) X.A (eval b X.env) (λu s₂=>wpAny (model X.prog X.w) X.A (compareOp op v u) (EP X pins σ Q) X.xe s₂) X.xe s₁) X.xe s
def Zi6 (p:Int->Int->Bool) (ta tb:TE):TE:=λσ H Q=>t2I ta tb (λi j H2=>Q (.bl (p i j)) H2) σ H
abbrev tLt:TE->TE->TE:=Zi6 λi j=>decide (i<j)
abbrev tLe:TE->TE->TE:=Zi6 λi j=>decide (i<=j)
abbrev tGt:TE->TE->TE:=Zi6 λi j=>decide (j<i)
abbrev tGe:TE->TE->TE:=Zi6 λi j=>decide (j<=i)
abbrev Zm1:TE->TE->TE:=Zi6 λi j=>decide (i=j)
abbrev Zm2:TE->TE->TE:=Zi6 λi j=>!decide (i=j)
def Zm3 (ta:TE):TE:=λσ H Q=>ta σ H λx H1=>Q (.bl (decide (x=.non))) H1
def Zl6 (ta:TE):TE:=λσ H Q=>ta σ H λx H1=>Q (.bl (!decide (x=.non))) H1
def tB (t:TE):TT:=λσ H Q=>t σ H λx H1=>∃ c,x=.bl c/\Q c H1
theorem Zjd {op:CmpOp} {t:TE} (h:PC X op a b t) (h1:behindInMarks op b=false:=by first | exact nobehind _ (by decide) (by decide) | rfl):PT X (.Compare a [op] [b] pos) (tB t):=by
 intro pins s σ H Q I hw
 refine wpAny_isTrue_Compare1 (thn (h pins s σ H _ I hw) λv s1 h1=>thn h1 λu s2 h2=>thn h2 λc s3 ⟨x,H1,I1,r1,q1⟩=>?_) h1
 obtain ⟨d,rfl,q⟩:=q1
 cases r1
 exact wpAny_truthy_bool ⟨H1,I1,q⟩
theorem ZdC {e:Expr} {t:TE} (h:PE X e t) (he:∀ whole,isTrue e X.env whole=(do let v <- whole;standAt e.pos;holding [v] (truthy v)):=by intro _;rfl):PT X e (tB t):=by
 intro pins s σ H Q I hw
 refine isTrue_plain (thn (h pins s σ H _ I hw) λv s1 ⟨x,H1,I1,r1,q1⟩=>?_) (he _)
 obtain ⟨d,rfl,q⟩:=q1
 cases r1
 exact wpAny_truthy_bool ⟨H1,I1,q⟩
variable {tA tB':TT} {rest:List Expr}
def Zl7 (t u:TT):TT:=λσ H Q=>t σ H λc H1=>if c=true then u σ H1 Q else Q false H1
def tOr (t u:TT):TT:=λσ H Q=>t σ H λc H1=>if c=true then Q true H1 else u σ H1 Q
def Zl8 (t:TT):TT:=λσ H Q=>t σ H λc H1=>Q (!c) H1
theorem Zcw (ha:PT X a tA):PW X (.BoolOp .And [a] pos) tA:=by
 intro wh pins s σ H Q I h
 refine isTrue_and (thn (ha pins s σ H Q I h) λc s1 e=>?_)
 cases c with
 | true=>exact isTrue_and_nil e
 | false=>exact e
theorem ZcO (ha:PT X a tA):PW X (.BoolOp .Or [a] pos) tA:=by
 intro wh pins s σ H Q I h
 refine isTrue_or (thn (ha pins s σ H Q I h) λc s1 e=>?_)
 cases c with
 | false=>exact isTrue_or_nil e
 | true=>exact e
theorem ZcP (ha:PT X a tA) (hb:PW X (.BoolOp .And (b::rest) pos) tB'):PW X (.BoolOp .And (a::b::rest) pos) (Zl7 tA tB'):=by
 intro wh pins s σ H Q I h
 refine isTrue_and (thn (ha pins s σ H _ I h) λc s1 ⟨H1,I1,q1⟩=>?_)
 cases c with
 | true=>exact hb wh pins s1 σ H1 Q I1 q1
 | false=>exact ⟨H1,I1,q1⟩
theorem Zef (ha:PT X a tA) (hb:PW X (.BoolOp .Or (b::rest) pos) tB'):PW X (.BoolOp .Or (a::b::rest) pos) (tOr tA tB'):=by
 intro wh pins s σ H Q I h
 refine isTrue_or (thn (ha pins s σ H _ I h) λc s1 ⟨H1,I1,q1⟩=>?_)
 cases c with
 | true=>exact ⟨H1,I1,q1⟩
 | false=>exact hb wh pins s1 σ H1 Q I1 q1
theorem Zfx (ha:PT X a tA):PT X (.UnaryOp .Not a pos) (Zl8 tA):=by
 intro pins s σ H Q I h
 exact isTrue_not (ha pins s σ H (λc H1=>Q (!c) H1) I h)
def Zl9 (ta tb:TE):TE:=λσ H Q=>ta σ H λx H1=>∃ c,x=.bl c/\if c=true then tb σ H1 Q else Q (.bl false) H1
def Zm4 (ta tb:TE):TE:=λσ H Q=>ta σ H λx H1=>∃ c,x=.bl c/\if c=true then Q (.bl true) H1 else tb σ H1 Q
def ZkC (ta:TE):TE:=λσ H Q=>ta σ H λx H1=>∃ c,x=.bl c/\Q (.bl (!c)) H1
theorem Zje (ha:PE X a ta):PE X (.UnaryOp .Not a pos) (ZkC ta):=by
 intro pins s σ H Q I h
 refine UnaryOp_ (thn (ha pins s σ H _ I h) λv s1 ⟨x,H1,I1,r1,q1⟩=>?_)
 obtain ⟨c,rfl,q1⟩:=q1
 cases r1
 exact not_of (wpAny_truthy_bool ⟨.bl (!c),H1,I1,rfl,q1⟩)
def tIf (t:TT) (ta tb:TE):TE:=λσ H Q=>t σ H λc H1=>if c=true then ta σ H1 Q else tb σ H1 Q
theorem ZgR {c:Expr} (hc:PT X c tA) (ha:PE X a ta) (hb:PE X b tb):PE X (.IfExp c a b pos) (tIf tA ta tb):=by
 intro pins s σ H Q I h
 refine wpAny_IfExp (thn (hc pins s σ H _ I h) λd s1 ⟨H1,I1,q1⟩=>?_)
 cases d with
 | true=>exact ha pins s1 σ H1 Q I1 q1
 | false=>exact hb pins s1 σ H1 Q I1 q1
end
end L2
namespace L2
open PySem PySem.Spec PyProof.Rows
def SqL (K:PySem.W.Frag) (H:Hp) (a:Addr) (xs:List V):Prop:=
 Rd H a (.lst xs) \/
  ∃ (o:Obj) (its:Array Value) (n:Nat),K.lookup a=some o/\o.cls=.type "list" /\ o.dict=none/\o.data=.seq its n/\its.size<=sizeLine/\Vals xs its.toList
def SqT (K:PySem.W.Frag) (H:Hp) (a:Addr) (xs:List V):Prop:=
 Rd H a (.tup xs) \/
  ∃ (o:Obj) (its:Array Value) (n:Nat),K.lookup a=some o/\o.cls=.type "tuple" /\ o.data=.seq its n/\its.size<=sizeLine/\Vals xs its.toList
def Zma:Value->Option V
 | .none=>some .non
 | .bool b=>some (.bl b)
 | .int i _=>some (.int i)
 | .str x _=>some (.str x)
 | .bytes b _=>some (.byt b)
 | .float b _=>some (.flt b)
 | .ref a=>some (.ref a)
 | .type n=>some (.ty n)
 | _=>none
theorem RelV.abs {x:V} {u:Value} (r:RelV x u):Zma u=some x:=by
 cases x with
 | non=>cases r;rfl
 | bl _=>cases r;rfl
 | int _=>obtain ⟨t,rfl⟩:=r;rfl
 | str _=>obtain ⟨t,rfl⟩:=r;rfl
 | byt _=>obtain ⟨t,rfl⟩:=r;rfl
 | flt _=>obtain ⟨t,rfl⟩:=r;rfl
 | ref _=>cases r;rfl
 | ty _=>cases r;rfl
theorem RelV.inj {x y:V} {u:Value} (r:RelV x u) (q:RelV y u):x=y:=Option.some.inj (r.abs.symm.trans q.abs)
theorem Vals.inj:∀ {xs ys:List V} {us:List Value},Vals xs us->Vals ys us->xs=ys
 | _,_,_,.nil,.nil=>rfl
 | _,_,_,.cons r t,.cons r' t'=>by rw [r.inj r',Vals.inj t t']
section
variable {X:Cx} {pins:List (Addr×Obj)} {σ:St} {H:Hp} {s:Shared} {a:Addr} {xs ys:List V}
theorem SqL.of {K:PySem.W.Frag} (h:H a=some (.lst xs)):SqL K H a xs:=.inl (.inl h)
theorem SqT.of {K:PySem.W.Frag} (h:H a=some (.tup xs)):SqT K H a xs:=.inl (.inl h)
theorem Inv.list (I:Inv X pins σ H s) (h:SqL X.K H a xs):∃ its:List Value,Vals xs its/\PlainL s.heap a its.toArray/\xs.length<=sizeLine:=by
 rcases h with h | ⟨o,its,n,hk,hc,hd,hs,hz,r⟩
 ·obtain ⟨z,its,n,r,e⟩:=h.ok I.hok
  exact ⟨its,r,⟨_,n,e,rfl,rfl,rfl⟩,z⟩
 ·refine ⟨its.toList,r,⟨o,n,I.kIn a o hk,hc,hd,by simpa using hs⟩,?_⟩
  have e:=r.length
  simp only [Array.length_toList] at e
  omega
theorem Inv.tuple (I:Inv X pins σ H s) (h:SqT X.K H a xs):∃ its:List Value,Vals xs its/\IsTup s.heap a its.toArray/\xs.length<=sizeLine:=by
 rcases h with h | ⟨o,its,n,hk,hc,hs,hz,r⟩
 ·obtain ⟨z,its,r,p⟩:=h.ok I.hok
  exact ⟨its,r,p,z⟩
 ·refine ⟨its.toList,r,⟨o,I.kIn a o hk,hc,n,by simpa using hs⟩,?_⟩
  have e:=r.length
  simp only [Array.length_toList] at e
  omega
theorem Inv.list_inj (I:Inv X pins σ H s) (h:SqL X.K H a xs) (h':SqL X.K H a ys):xs=ys:=by
 obtain ⟨its,r,⟨o,n,e,_,_,d⟩,_⟩:=I.list h
 obtain ⟨its',r',⟨o',n',e',_,_,d'⟩,_⟩:=I.list h'
 rw [e] at e';cases e'
 rw [d] at d'
 injection d' with d1 _
 have:its=its':=by simpa using congrArg Array.toList d1
 subst this
 exact r.inj r'
end
abbrev Cx.wish (X:Cx) (E:Value->Shared->Prop):Cx:={ X with xe:=E }
abbrev Cx.nox (X:Cx):Cx:=X.wish λ_ _=>False
theorem Cx.Ok.wish {X:Cx} (ok:X.Ok) (E:Value->Shared->Prop):(X.wish E).Ok:=
 ⟨ok.mod,ok.kind,ok.glob,ok.blt,ok.above,ok.inj,ok.has,ok.cab,ok.hd,ok.frames,ok.stk,ok.exf,ok.bs,ok.bsz,ok.noex,ok.exfs,ok.funs,ok.frf⟩
theorem Cx.Ok.unwish {X:Cx} {E:Value->Shared->Prop} (ok:(X.wish E).Ok):X.Ok:=
 ⟨ok.mod,ok.kind,ok.glob,ok.blt,ok.above,ok.inj,ok.has,ok.cab,ok.hd,ok.frames,ok.stk,ok.exf,ok.bs,ok.bsz,ok.noex,ok.exfs,ok.funs,ok.frf⟩
section
variable {X:Cx} {pins:List (Addr×Obj)} {σ:St} {H:Hp} {s:Shared} {E:Value->Shared->Prop}
theorem Inv.wish (I:Inv X pins σ H s) (E:Value->Shared->Prop):Inv (X.wish E) pins σ H s:=⟨I.ok.wish E,I.os,I.bare,I.base,I.loc,I.cell,I.free,I.freeC,I.pin,I.hok,I.len⟩
theorem Inv.unwish (I:Inv (X.wish E) pins σ H s):Inv X pins σ H s:=⟨I.ok.unwish,I.os,I.bare,I.base,I.loc,I.cell,I.free,I.freeC,I.pin,I.hok,I.len⟩
theorem SP.unwish {D:Ze6} {f:Flow} {s':Shared} (h:SP (X.wish E) pins D f s'):SP X pins D f s':=by
 cases f with
 | next=>obtain ⟨σ',H',I,q⟩:=h;exact ⟨σ',H',I.unwish,q⟩
 | brk=>obtain ⟨σ',H',I,q⟩:=h;exact ⟨σ',H',I.unwish,q⟩
 | cont=>obtain ⟨σ',H',I,q⟩:=h;exact ⟨σ',H',I.unwish,q⟩
 | ret u=>obtain ⟨v,σ',H',I,r,q⟩:=h;exact ⟨v,σ',H',I.unwish,r,q⟩
theorem PSs.nox {st:List Stmt} {t:TS} (h:PSs X.nox st t):PSs X st t:=λpins s σ H D I hw=>
 wpAny_mono (h pins s σ H D (I.wish _) hw) (λ_ _ q=>q.unwish) λ_ _ z=>False.elim z
end
section
variable {X:Cx} {st:Stmt} {rest:List Stmt} {t u:TS} {e:Expr} {te:TE} {pos:Pos}
def Zc6:TS:=λD σ H=>D.nx σ H
def ZkD (t u:TS):TS:=λD σ H=>t { D with nx:=u D } σ H
theorem ZaK:PSs X [] Zc6:=λ_ _ σ H _ I h=>wpAny_execs_nil ⟨σ,H,I,h⟩
theorem Zad (h1:PS X st t) (h2:PSs X rest u):PSs X (st::rest) (ZkD t u):=by
 intro pins s σ H D I h
 refine wpAny_execs_cons (thn (h1 pins s σ H { D with nx:=u D } I h) λf s1 q=>?_)
 cases f with
 | next=>
  obtain ⟨σ',H',I',q⟩:=q
  exact h2 pins s1 σ' H' D I' q
 | ret v=>exact q
 | brk=>exact q
 | cont=>exact q
theorem Zah (h1:PS X st t):PSs X [st] t:=by
 intro pins s σ H D I h
 refine wpAny_execs_cons (thn (h1 pins s σ H D I h) λf s1 q=>?_)
 cases f with
 | next=>exact wpAny_execs_nil q
 | ret v=>exact q
 | brk=>exact q
 | cont=>exact q
def Zlu:TS:=λD σ H=>D.bk σ H
def Zmb:TS:=λD σ H=>D.ct σ H
theorem Inv.quiet {pins:List (Addr×Obj)} {σ:St} {H:Hp} {s:Shared} (I:Inv X pins σ H s):interactive X.env=false:=by simp [interactive,I.ok.kind]
def ZkE (te:TE):TS:=λD σ H=>te σ H λ_ H1=>D.nx σ H1
theorem Zb6 (he:PE X e te) (hs:swapsWith e none pos.line X.env=pure false:=by rfl):PS X (.Expr e pos) (ZkE te):=by
 intro pins s σ H D I h
 exact wpAny_Expr_any (thn (he pins s σ H _ I h) λv s1 ⟨x,H1,I1,r1,q1⟩=>⟨σ,H1,I1,q1⟩) I.quiet hs
def Zmc (te:TE):TS:=λD σ H=>te σ H D.rt
theorem ZaD (he:PE X e te):PS X (.Return (some e) pos) (Zmc te):=by
 intro pins s σ H D I h
 exact wpAny_Return_some (thn (he pins s σ H _ I h) λv s1 ⟨x,H1,I1,r1,q1⟩=>⟨x,σ,H1,I1,r1,q1⟩)
def Zmd:TS:=λD _ H=>D.rt .non H
def Zme (c:TT) (t u:TS):TS:=λD σ H=>c σ H λb H1=>if b=true then t D σ H1 else u D σ H1
theorem Zbn {c:Expr} {a b:List Stmt} {tc:TT} (hc:PT X c tc) (ha:PSs X a t) (hb:PSs X b u):PS X (.If c a b pos) (Zme tc t u):=by
 intro pins s σ H D I h
 refine wpAny_If (thn (hc pins s σ H _ I h) λd s1 ⟨H1,I1,q1⟩=>?_)
 cases d with
 | true=>exact ha pins s1 σ H1 D I1 q1
 | false=>exact hb pins s1 σ H1 D I1 q1
def Zlv:TS:=λ_ _ _=>False
end
abbrev TG:=V->St->Hp->(St->Hp->Prop)->Prop
abbrev TGs:=List V->St->Hp->(St->Hp->Prop)->Prop
def PG (X:Cx) (target:Expr) (t:TG):Prop:=
 ∀ (pins:List (Addr×Obj)) (s:Shared) (σ:St) (H:Hp) (v:V) (u:Value) (Q:St->Hp->Prop),Inv X pins σ H s->RelV v u->t v σ H Q ->
  wpAny (model X.prog X.w) X.A (assign target X.env u) (λ_ s'=>∃ σ' H',Inv X pins σ' H' s'/\Q σ' H') X.xe s
def PGs (X:Cx) (ts:List Expr) (t:TGs):Prop:=
 ∀ (pins:List (Addr×Obj)) (s:Shared) (σ:St) (H:Hp) (vs:List V) (us:List Value) (Q:St->Hp->Prop),Inv X pins σ H s->Vals vs us->t vs σ H Q ->
  wpAny (model X.prog X.w) X.A (assignInOrder ((assignEach ts X.env).map (·.2)) us) (λ_ s'=>∃ σ' H',Inv X pins σ' H' s'/\Q σ' H') X.xe s
abbrev Zkq:=V->V->V->Hp->(Hp->Prop)->Prop
def Zlw (X:Cx) (t:Zkq):Prop:=
 ∀ (pins:List (Addr×Obj)) (s:Shared) (σ:St) (H:Hp) (o i v:V) (ov iv u:Value) (Q:Hp->Prop),Inv X pins σ H s->RelV o ov->RelV i iv->RelV v u->t o i v H Q ->
  wpAny (model X.prog X.w) X.A (setItem ov iv u) (λ_ s'=>∃ H',Inv X pins σ H' s'/\Q H') X.xe s
abbrev TIp:=V->V->Hp->VK->Prop
def PIp (X:Cx) (op:Operator) (t:TIp):Prop:=
 ∀ (pins:List (Addr×Obj)) (s:Shared) (σ:St) (H:Hp) (x y:V) (v u:Value) (Q:VK),Inv X pins σ H s->RelV x v->RelV y u->t x y H Q ->
  wpAny (model X.prog X.w) X.A (inplaceOp op v u) (EP X pins σ Q) X.xe s
section
variable {X:Cx} {pos:Pos}
def Za2 (i:Nat):TG:=λv σ H Q=>Q (σ.set i (some v)) H
theorem Zal {i:Nat} {x:Str} (hN:X.N.Nodup) (hi:X.N[i]?=some x) (hx:Loc X.env.scope x) (hf:X.fn x=true\/X.env.scope.names.lookup x=some .local:=by first | exact .inl rfl | exact .inr rfl | assumption):PG X (.Name x pos) (Za2 i):=by
 intro pins s σ H v u Q I r h
 exact wpAny_assign_Name (ZbS I hN hi hx r (λs' I'=>⟨_,H,I',h⟩) hf)
def Zmf:TGs:=λvs σ H Q=>vs=[]/\Q σ H
def ZkF (t:TG) (u:TGs):TGs:=λvs σ H Q=>∃ v r,vs=v::r/\t v σ H λσ' H'=>u r σ' H' Q
theorem Zcx:PGs X [] Zmf:=by
 intro pins s σ H vs us Q I r h
 obtain ⟨e,h⟩:=h
 subst e
 cases r
 exact assignInOrder_nil ⟨σ,H,I,h⟩
theorem ZaM {e:Expr} {es:List Expr} {t:TG} {u:TGs} (h1:PG X e t) (h2:PGs X es u)
  (hs:(assignEach (e::es) X.env).map (·.2)=assign e X.env::(assignEach es X.env).map (·.2):=by rfl):PGs X (e::es) (ZkF t u):=by
 intro pins s σ H vs us Q I r h
 obtain ⟨v,vr,e1,h⟩:=h
 subst e1
 cases r with
 | cons r rr=>
  rw [hs]
  refine assignInOrder_cons (thn (h1 pins s σ H _ _ _ I r h) λ_ s1 ⟨σ1,H1,I1,q1⟩=>?_)
  exact h2 pins s1 σ1 H1 _ _ Q I1 rr q1
def Zlx (K:PySem.W.Frag) (n:Nat) (t:TGs):TG:=λv σ H Q=>∃ a xs,v=.ref a/\SqT K H a xs/\xs.length=n/\t xs σ H Q
theorem Zjf {es:List Expr} {k:Nat} {t:TGs} {n:Nat} (hc:X.calm=true) (h:PGs X es t)
  (hn:(assignEach es X.env).length=n:=by rfl) (hst:(assignEach es X.env).findIdx? (·.1)=none:=by rfl):PG X (.Tuple es k pos) (Zlx X.K n t):=by
 intro pins s σ H v u Q I r hw
 obtain ⟨a,xs,e1,hq,hl,hw⟩:=hw
 subst e1
 cases r
 obtain ⟨its,rv,ht,hz⟩:=I.tuple hq
 refine assign_Tuple_tuple (I.ok.hd hc) ht (by simp [hn,<-hl,rv.length]) hst λh' hx=>?_
 have I1:Inv X pins σ H { s with heap:=h' }:=I.kept (t':=s.toks) λb o e=>hx b o (Nat.ne_of_lt (Heap.lt_size e)) e
 exact h pins _ σ H xs _ Q I1 (by simpa using rv) hw
def Zmg (to ti:TE) (t:Zkq):TG:=λv σ H Q=>to σ H λo H1=>ti σ H1 λi H2=>t o i v H2 λH3=>Q σ H3
theorem Zhw {o i:Expr} {to ti:TE} {t:Zkq} (ho:PE X o to) (hi:PE X i ti) (hs:Zlw X t)
  (ha:∀ v,assign (.Subscript o i pos) X.env v=(do
   let ov <- holding [v] (eval o X.env)
   let iv <- holding [v,ov] (eval i X.env)
   standAt pos
   holding [v,ov,iv] (setItem ov iv v)
   release [v,ov,iv] []):=by intro _;rfl):PG X (.Subscript o i pos) (Zmg to ti t):=by
 intro pins s σ H v u Q I r h
 rw [ha]
 refine wpAny_bind (wpAny_holding (thn (ho pins s σ H _ I h) λov s1 ⟨x,H1,I1,r1,q1⟩=>?_))
 refine wpAny_bind (wpAny_holding (thn (hi pins s1 σ H1 _ I1 q1) λiv s2 ⟨y,H2,I2,r2,q2⟩=>?_))
 refine wpAny_bind (wpAny_standAt (wpAny_bind (wpAny_holding (thn (hs pins s2 σ H2 x y v ov iv u _ I2 r1 r2 r q2) λ_ s3 ⟨H3,I3,q3⟩=>?_))))
 exact wpAny_release ⟨σ,H3,I3,q3⟩
def ZkG (te:TE) (g:TG):TS:=λD σ H=>te σ H λx H1=>g x σ H1 D.nx
theorem Zcy {tg e:Expr} {te:TE} {g:TG} (he:PE X e te) (hg:PG X tg g) (hs:swapsWithSole [tg] e pos.line X.env=pure false:=by rfl) (hw:swappedStores [tg] e X.env=pure none:=by rfl)
  (h1:(assignEach [tg] X.env).map (·.2)=[assign tg X.env]:=by rfl):PS X (.Assign [tg] e pos) (ZkG te g):=by
 intro pins s σ H D I h
 refine wpAny_Assign_stores (thn (he pins s σ H _ I h) λv s1 ⟨x,H1,I1,r1,q1⟩=>?_) hs hw
 rw [h1]
 exact thn (hg pins s1 σ H1 x v _ I1 r1 q1) λ_ s2 q=>q
theorem Zaj {i:Nat} {x:Str} {e:Expr} {te:TE} {pos':Pos} (hN:X.N.Nodup) (hi:X.N[i]?=some x) (hx:Loc X.env.scope x) (he:PE X e te) (hs:swapsWith e (some (.Name x pos')) pos.line X.env=pure false:=by rfl) (hf:X.fn x=true\/X.env.scope.names.lookup x=some .local:=by first | exact .inl rfl | exact .inr rfl | assumption) :
  PS X (.Assign [.Name x pos'] e pos) (ZkG te (Za2 i)):=by
 intro pins s σ H D I h
 refine wpAny_Assign_Name (thn (he pins s σ H _ I h) λv s1 ⟨y,H1,I1,r1,q1⟩=>?_) hs
 exact ZbS I1 hN hi hx r1 (λs2 I2=>⟨_,H1,I2,q1⟩) hf
def Zm5 (i j:Nat) (ta:TA):TS:=λD σ H=>ta σ H λvs H1=>∃ v w,vs=[v,w]/\D.nx ((σ.set i (some v)).set j (some w)) H1
def Zmh (i:Nat) (te:TE) (ti:TIp):TS:=λD σ H=>∃ x,σ[i]?=some (some x)/\te σ H λy H1=>ti x y H1 λz H2=>D.nx (σ.set i (some z)) H2
theorem Zhx {i:Nat} {x:Str} {e:Expr} {te:TE} {op:Operator} {ti:TIp} {pos':Pos} (hN:X.N.Nodup) (hi:X.N[i]?=some x) (hx:Loc X.env.scope x) (he:PE X e te) (ho:PIp X op ti) (hf:X.fn x=true\/X.env.scope.names.lookup x=some .local:=by first | exact .inl rfl | exact .inr rfl | assumption) :
  PS X (.AugAssign (.Name x pos') op e pos) (Zmh i te ti):=by
 intro pins s σ H D I h
 obtain ⟨v,e1,h⟩:=h
 obtain ⟨m,hn,hl⟩:=I.loc
 have vis:Vis X.env.scope x:=by rcases hx with k | k;exact .inl k;exact .inr (.inl k)
 obtain ⟨u,r,l⟩:=hl i x v hi e1 vis
 refine wpAny_AugAssign_Name ?_
 have go:wpAny (model X.prog X.w) X.A (eval e X.env) (λw s₂=>wpAny (model X.prog X.w) X.A (inplaceOp op u w) (λr s₃=>wpAny (model X.prog X.w) X.A (storeName X.env x r) (λ_=>SP X pins D .next) X.xe s₃) X.xe s₂) X.xe s:=by
  refine thn (he pins s σ H _ I h) λw s1 ⟨y,H1,I1,r1,q1⟩=>?_
  refine thn (ho pins s1 σ H1 v y u w _ I1 r r1 q1) λz s2 ⟨zv,H2,I2,r2,q2⟩=>?_
  exact ZbS I2 hN hi hx r2 (λs3 I3=>⟨_,H2,I3,q2⟩) hf
 rcases l with ⟨hk,hm⟩ | ⟨hk,c,hc,hcell⟩
 ·exact wpAny_loadName_local I.ok.kind hk hn hm go
 ·rcases hk with hk | hk
  ·exact wpAny_loadName_cell I.ok.kind hk hc hcell go
  ·rcases hx with k | k
   ·have:X.env.scope.names.lookup x=some .free:=hk
    rw [k] at this;cases this
   ·have:X.env.scope.names.lookup x=some .free:=hk
    rw [k] at this;cases this
def Zmi (to ti te:TE) (tget:V->V->Hp->VK->Prop) (tip:TIp) (tset:Zkq):TS:=λD σ H=>to σ H λo H1=>ti σ H1 λi H2=>tget o i H2 λx H3=>te σ H3 λy H4=>tip x y H4 λz H5=>tset o i z H5 λH6=>D.nx σ H6
def Zm6 (X:Cx) (t:V->V->Hp->VK->Prop):Prop:=
 ∀ (pins:List (Addr×Obj)) (s:Shared) (σ:St) (H:Hp) (o i:V) (ov iv:Value) (Q:VK),Inv X pins σ H s->RelV o ov->RelV i iv->t o i H Q ->
  wpAny (model X.prog X.w) X.A (getItem ov iv) (EP X pins σ Q) X.xe s
def ipI (f:Int->Int->Int):TIp:=λx y H Q=>∃ i j,x=.int i/\y=.int j/\Q (.int (f i j)) H
theorem Zhy:PIp X .Add (ipI λi j=>i+j):=by
 intro pins s σ H x y v u Q I r1 r2 h
 obtain ⟨i,j,e1,e2,q⟩:=h
 subst e1;subst e2
 obtain ⟨t,rfl⟩:=r1
 obtain ⟨t',rfl⟩:=r2
 exact iadd_int ⟨.int _,H,I.tok _,⟨_,rfl⟩,q⟩
end
section
variable {X:Cx} {pos:Pos}
def Zjg (c:TT) (tb:TS):TS:=λD σ H=>∃ W:Nat->St->Hp->Prop,(∃ m,W m σ H)/\∀ m σ H,W m σ H ->
 c σ H λb H1=>if b=true then ∃ N:St->Hp->Prop,(∀ σ' H',N σ' H'->∃ m',m'<m/\W m' σ' H')/\tb { D with nx:=N,ct:=N,bk:=D.nx } σ H1 else D.nx σ H1
theorem Zcl {c:Expr} {body:List Stmt} {tc:TT} {tb:TS} (hp:PassesOwn (model X.prog X.w) X.A X.env X.xe) (hc:PT X c tc) (hb:PSs X body tb):PS X (.While c body [] pos) (Zjg tc tb):=by
 intro pins s σ H D I h
 obtain ⟨W,⟨m0,w0⟩,turn⟩:=h
 refine wpAny_While (codeAny_whileLoop (λn s'=>∃ σ' H',Inv X pins σ' H' s'/\W n σ' H') ?_ m0 ⟨σ,H,I,w0⟩)
 rintro n s1 ⟨σ1,H1,I1,w1⟩
 refine wpAny_passesOwn hp (thn (hc pins s1 σ1 H1 _ I1 (turn n σ1 H1 w1)) λb s2 ⟨H2,I2,q2⟩=>?_)
 cases b with
 | true=>
  obtain ⟨N,hN,q2⟩:=q2
  rw [if_pos rfl]
  refine wpAny_passesOwn hp (thn (hb pins s2 σ1 H2 _ I2 q2) λf s3 q3=>?_)
  cases f with
  | next=>
   obtain ⟨σ3,H3,I3,n3⟩:=q3
   obtain ⟨m',hm,w3⟩:=hN σ3 H3 n3
   exact ⟨m',hm,σ3,H3,I3,w3⟩
  | cont=>
   obtain ⟨σ3,H3,I3,n3⟩:=q3
   obtain ⟨m',hm,w3⟩:=hN σ3 H3 n3
   exact ⟨m',hm,σ3,H3,I3,w3⟩
  | brk=>exact q3
  | ret v=>exact q3
 | false=>
  rw [if_neg Bool.false_ne_true]
  exact wpAny_execs_nil ⟨σ1,H2,I2,q2⟩
end
structure It where
 go:Nat->Hp->Prop
 yld:Nat->Hp->V->Hp->Prop
 stop:Nat->Hp->Prop
def ZgN (X:Cx) (pins:List (Addr×Obj)) (H:Hp) (b:Addr):Prop:=
 H b=none/\b≠X.env.locals/\b ∉ X.fs/\(b∈X.ex\/X.s₀.heap.objs.size<=b)/\(∀ x c,X.env.cells.lookup x=some c->c≠b)/\∀ p∈X.pn++pins,p.1≠b
theorem Inv.fpOk {X:Cx} {pins:List (Addr×Obj)} {σ:St} {H H':Hp} {s:Shared} {b:Addr} (I:Inv X pins σ H s) (hb:s.heap.objs.size<=b) (hn:H' b=none):ZgN X pins H' b:=by
 refine ⟨hn,Nat.ne_of_gt (Nat.lt_of_lt_of_le I.lt hb),I.nofs hb,.inr (Nat.le_trans I.sz hb),λx c e z=>?_,λp hp z=>?_⟩
 ·obtain ⟨v,q⟩:=I.cell x c e
  exact absurd (Nat.lt_of_lt_of_le q.lt (by rw [z];exact hb)) (Nat.lt_irrefl _)
 ·exact absurd (Nat.lt_of_lt_of_le (Heap.lt_size (I.pin p hp).1) (by rw [z];exact hb)) (Nat.lt_irrefl _)
structure Zkr (P:Program) (w:World) (K:PySem.W.Frag) (tg:Expr) (J:It) (fp:List Addr) (it:Addr) (tn:Nat->Heap->Prop):Prop where
 mem:it∈fp
 obj:∀ i h,tn i h->∀ b∈fp,∃ o,h.get? b=some o/\∀ v,o.data≠.cell v
 keep:∀ i h h',tn i h->(∀ b∈fp,∀ o,h.get? b=some o->h'.get? b=some o)->tn i h'
 item:∀ (X:Cx),X.prog=P->X.w=w->X.K=K->X.calm=true->∀ (i:Nat) (pins:List (Addr×Obj)) (s:Shared) (σ:St) (H:Hp) (E:Value->Shared->Prop),Inv X pins σ H s->(∀ b∈fp,ZgN X pins H b)->tn i s.heap->J.go i H ->
  wpAny (model P w) X.A (pyNext (.ref it)) (λr s1=>∃ u,r=some u /\
   wpAny (model P w) X.A (letOwnedTupleGo tg (.ref it) u) (λ_ s2=>∃ x H',Inv X pins σ H' s2/\RelV x u/\J.yld i H x H'/\tn (i+1) s2.heap/\∀ b∈fp,H' b=none) E s1) E s
 done:∀ (X:Cx),X.prog=P->X.w=w->X.K=K->X.calm=true->∀ (i:Nat) (pins:List (Addr×Obj)) (s:Shared) (σ:St) (H:Hp) (E:Value->Shared->Prop),Inv X pins σ H s->(∀ b∈fp,ZgN X pins H b)->tn i s.heap->J.stop i H ->
  wpAny (model P w) X.A (pyNext (.ref it)) (λr s1=>r=none/\Inv X pins σ H s1) E s
 self:∀ (A:Around) (i:Nat) (s:Shared) (Q:Value->Shared->Prop) (E:Value->Shared->Prop),tn i s.heap->Q (.ref it) s->wpAny (model P w) A (pyIter (.ref it)) Q E s
abbrev TI:=St->Hp->(It->Hp->Prop)->Prop
def PIE (X:Cx) (pins:List (Addr×Obj)) (σ:St) (tg:Expr) (R:It->Hp->Prop) (itv:Value) (s2:Shared):Prop:=
 ∃ (it:Addr) (fp:List Addr) (tn:Nat->Heap->Prop) (J:It) (H':Hp),itv=.ref it/\Inv X pins σ H' s2/\Zkr X.prog X.w X.K tg J fp it tn/\tn 0 s2.heap/\(∀ b∈fp,ZgN X pins H' b)/\R J H'
def PI (X:Cx) (tg iter:Expr) (wi:TI):Prop:=
 ∀ (pins:List (Addr×Obj)) (s:Shared) (σ:St) (H:Hp) (R:It->Hp->Prop),Inv X pins σ H s->wi σ H R ->
  wpAny (model X.prog X.w) X.A (eval iter X.env) (λv s1=>wpAny (model X.prog X.w) X.A (pyIter v) (PIE X pins σ tg R) X.xe s1) X.xe s
theorem Zjh {M:Model} {A:Around} {E:Value->Shared->Prop} {s:Shared} {tg:Expr} {it:Addr} {u:Value} {o:Obj} {n:String} {vs:Array Value} {Q:Unit->Shared->Prop} (ho:s.heap.get? it=some o) (hc:o.cls=.type n) (hd:o.data=.fields vs)
  (hn:["enumerate", "zip", "dict_itemiterator", "dict_reverseitemiterator", "odict_iterator", "itertools.zip_longest", "itertools.pairwise"].contains n=false) (hQ:Q () s):wpAny M A (letOwnedTupleGo tg (.ref it) u) Q E s:=by
 unfold letOwnedTupleGo
 cases tg <;> first
  | exact wpAny_pure hQ
  | (cases u <;> first
    | exact wpAny_pure hQ
    | (refine wpAny_bind (wpAny_load ho ?_)
       rw [hc,hd]
       show wpAny M A (if (["enumerate", "zip", "dict_itemiterator", "dict_reverseitemiterator", "odict_iterator", "itertools.zip_longest", "itertools.pairwise"].contains n && vs[0]? == some (rawInt _))=true then _ else _) Q E s
       rw [if_neg (by intro h;rw [hn,Bool.false_and] at h;cases h)]
       exact wpAny_pure hQ))
def Itl (K:PySem.W.Frag) (a:Addr):It:=
 ⟨λi H=>∃ xs x,SqL K H a xs/\xs[i]?=some x,λi H x H'=>H'=H/\∀ xs,SqL K H a xs->xs[i]?=some x,λi H=>∃ xs,SqL K H a xs/\xs.length<=i⟩
def Itt (K:PySem.W.Frag) (a:Addr):It:=
 ⟨λi H=>∃ xs x,SqT K H a xs/\xs[i]?=some x,λi H x H'=>H'=H/\∀ xs,SqT K H a xs->xs[i]?=some x,λi H=>∃ xs,SqT K H a xs/\xs.length<=i⟩
def Itr (lo:Int) (n:Nat):It:=⟨λi _=>i<n,λi H x H'=>H'=H/\x=.int (lo+i),λi _=>n<=i⟩
theorem Zfy {P:Program} {w:World} {K:PySem.W.Frag} {tg:Expr} (a it:Addr):Zkr P w K tg (Itl K a) [it] it (λi h=>h.IsListIter it a i) where
 mem:=by simp
 obj:=λi h st b hb=>by
  have e:b=it:=by simpa using hb
  subst e
  obtain ⟨o,e,c,d⟩:=st
  exact ⟨o,e,λv z=>by rw [d] at z;cases z⟩
 keep:=λi h h' st k=>st.at λo e=>k it (by simp) o e
 item:=by
  intro X hP hw hK hc i pins s σ H E I hf st hg
  subst hP hw hK
  obtain ⟨xs,x,hq,hx⟩:=hg
  obtain ⟨its,rv,p,hz⟩:=I.list hq
  obtain ⟨u,hu,ru⟩:=rv.get hx
  obtain ⟨f0,f1,f2,f3,f4,f5⟩:=hf it (by simp)
  refine wpAny_pyNext_list_item st p.isList (x:=u) (by simpa using hu) λh' st' sb=>?_
  have I1:Inv X pins σ H { s with heap:=h' }:=I.turned (t':=s.toks) (λb o hb e=>(sb.2 b hb).trans e) f0 f1 f3 f4 f5
  obtain ⟨o,e,c,d⟩:=id st'
  exact ⟨u,rfl,Zjh (s:={ s with heap:=h' }) e c d (by decide) ⟨x,H,I1,ru,⟨rfl,λys hy=>by rw [I.list_inj hy hq];exact hx⟩,st',λb hb=>(hf b hb).1⟩⟩
 done:=by
  intro X hP hw hK hc i pins s σ H E I hf st hg
  subst hP hw hK
  obtain ⟨xs,hq,hx⟩:=hg
  obtain ⟨its,rv,p,hz⟩:=I.list hq
  obtain ⟨f0,f1,f2,f3,f4,f5⟩:=hf it (by simp)
  have hl:=rv.length
  exact wpAny_pyNext_list_end (I.ok.hd hc) st p.isList (by simp;omega) λh' eb=>⟨rfl,I.turned (t':=s.toks) (λb o hb e=>eb b o hb e) f0 f1 f3 f4 f5⟩
 self:=λ_ _ _ _ _ st h=>wpAny_pyIter_listiter st h
theorem Ze7 {P:Program} {w:World} {K:PySem.W.Frag} {tg:Expr} (it:Addr) (lo:Int) (n:Nat):Zkr P w K tg (Itr lo n) [it] it (λi h=>IsRangeIter h it (lo+(i:Nat) * 1) ((n:Int)-(i:Nat)) 1) where
 mem:=by simp
 obj:=λi h st b hb=>by
  have e:b=it:=by simpa using hb
  subst e
  exact ⟨_,st,λv z=>by
   have z':Data.fields _=Data.cell v:=z
   cases z'⟩
 keep:=λi h h' st k=>k it (by simp) _ st
 item:=by
  intro X hP hw hK hc i pins s σ H E I hf st hg
  subst hP hw hK
  obtain ⟨f0,f1,f2,f3,f4,f5⟩:=hf it (by simp)
  have W:=Walks.range (prog:=X.prog) (w:=X.w) (I.ok.hd hc) it lo 1 n
  refine W.item i s _ _ hg st λv h' tk hv st' kk=>?_
  obtain ⟨t,rfl⟩:=hv
  have I1:Inv X pins σ H { s with heap:=h',toks:=tk }:=I.turned (λb o hb e=>kk b o (by simpa using hb) e) f0 f1 f3 f4 f5
  refine ⟨_,rfl,Zjh (s:={ s with heap:=h',toks:=tk }) (n := "range_iterator") st' rfl rfl (by decide) ⟨.int (lo+i),H,I1,⟨t,?_⟩,⟨rfl,rfl⟩,st',λb hb=>(hf b hb).1⟩⟩
  rw [Int.mul_one]
 done:=by
  intro X hP hw hK hc i pins s σ H E I hf st hg
  subst hP hw hK
  obtain ⟨f0,f1,f2,f3,f4,f5⟩:=hf it (by simp)
  exact wpAny_pyNext_range_end (I.ok.hd hc) st (by have:n<=i:=hg;omega) λh' eb=>⟨rfl,I.turned (t':=s.toks) (λb o hb e=>eb b o hb e) f0 f1 f3 f4 f5⟩
 self:=λ_ _ _ _ _ st h=>wpAny_pyIter_rangeiter st h
end L2
namespace L2
open PySem PySem.Spec PyProof.Rows
section
variable {X:Cx} {tg:Expr}
def Zji (K:PySem.W.Frag) (tl:TE):TI:=λσ H R=>tl σ H λx H1=>∃ a,x=.ref a/\(∃ xs,SqL K H1 a xs)/\R (Itl K a) H1
def Zm7 (K:PySem.W.Frag) (tl:TE):TI:=λσ H R=>tl σ H λx H1=>∃ a,x=.ref a/\(∃ xs,SqT K H1 a xs)/\R (Itt K a) H1
theorem Zh4 {l:Expr} {tl:TE} (hl:PE X l tl):PI X tg l (Zji X.K tl):=by
 intro pins s σ H R I h
 refine thn (hl pins s σ H _ I h) λv s1 ⟨x,H1,I1,r1,q1⟩=>?_
 obtain ⟨a,e,⟨xs,hq⟩,q⟩:=q1
 subst e
 cases r1
 obtain ⟨its,rv,p,hz⟩:=I1.list hq
 refine wpAny_pyIter_list p.isList ?_
 refine ⟨s1.heap.objs.size,[s1.heap.objs.size],_,_,H1,rfl,I1.kept (t':=s1.toks) λb o e=>Heap.get?_push_of_some _ e,Zfy a _,⟨_,Heap.get?_push_size _ rfl,rfl,rfl⟩,λb hb=>?_,q⟩
 have e:b=s1.heap.objs.size:=by simpa using hb
 subst e
 exact I1.fpOk (Nat.le_refl _) (I1.hok.fresh (Nat.le_refl _))
theorem ZgS {pins:List (Addr×Obj)} {σ:St} {H:Hp} {s:Shared} {R:It->Hp->Prop} {E:Value->Shared->Prop} {lo hi:Int} {t u v:Tok} {tk:Nat} (I:Inv X pins σ H s) (h1:-(2 ^ 62)<=lo) (h2:lo<2 ^ 62) (h3:-(2 ^ 62)<=hi) (h4:hi<2 ^ 62)
  (q:R (Itr lo (hi-lo).toNat) H):wpAny (model X.prog X.w) X.A (pyIter (.ref s.heap.objs.size)) (PIE X pins σ tg R) E { s with heap:=s.heap.push { cls:=.type "range", data:=.fields #[.int lo t,.int hi u,.int 1 v] },toks:=tk }:=by
 refine wpAny_pyIter_range (IsRange.new ..) (small_one h1 h2 h3 h4) ?_
 have I1:Inv X pins σ H { s with heap:=s.heap.push { cls:=.type "range", data:=.fields #[.int lo t,.int hi u,.int 1 v] },toks:=tk }:=I.kept λb o e=>Heap.get?_push_of_some _ e
 refine ⟨(s.heap.push { cls:=.type "range", data:=.fields #[.int lo t,.int hi u,.int 1 v] }).objs.size,[(s.heap.push { cls:=.type "range", data:=.fields #[.int lo t,.int hi u,.int 1 v] }).objs.size],_,_,H,rfl,
  I1.kept (t':=tk) λb o e=>Heap.get?_push_of_some _ e,Ze7 _ lo (hi-lo).toNat,?_,λb hb=>?_,q⟩
 ·have e1:lo+((0:Nat):Int) * 1=lo:=by simp
  have e2:(((hi-lo).toNat:Nat):Int)-((0:Nat):Int)=Builtin.Range.rangeSize lo hi 1:=by rw [rangeSize_one];split <;> omega
  show IsRangeIter _ _ (lo+((0:Nat):Int) * 1) ((((hi-lo).toNat:Nat):Int)-((0:Nat):Int)) 1
  rw [e1,e2]
  exact Heap.get?_push_size _ rfl
 ·have e:b=(s.heap.push { cls:=.type "range", data:=.fields #[.int lo t,.int hi u,.int 1 v] }).objs.size:=by simpa using hb
  subst e
  exact I1.fpOk (Nat.le_refl _) (I1.hok.fresh (Nat.le_refl _))
def ZkH (ta:TA):TI:=λσ H R=>ta σ H λvs H1=>∃ j:Int,vs=[.int j]/\-(2 ^ 62)<=j/\j<2 ^ 62/\R (Itr 0 j.toNat) H1
def Zmj (ta:TA):TI:=λσ H R=>ta σ H λvs H1=>∃ i j:Int,vs=[.int i,.int j]/\(-(2 ^ 62)<=i/\i<2 ^ 62/\-(2 ^ 62)<=j/\j<2 ^ 62)/\R (Itr i (j-i).toNat) H1
theorem Zbo {a:Expr} {ta:TA} {p pos:Pos} (hg:Gl X "range") (hm:X.mg "range" = none) (ha:PA X [a] ta) (hs:starEach [a] X.env=[(false,eval a X.env)]:=by rfl):PI X tg (.Call (.Name "range" p) [a] [] pos) (ZkH ta):=by
 intro pins s σ H R I h
 refine Call_ (Zcv I hg hm boot_range (PyProof.Rows.callWith_type1 (thn (ha pos pins s σ H _ I h) λus s1 ⟨vs,H1,I1,r1,q1⟩=>?_) hs rfl))
 obtain ⟨j,e,q1,q2,q⟩:=q1
 subst e
 cases r1 with
 | cons r rr=>
  cases rr
  obtain ⟨t,rfl⟩:=r
  exact call_range_1 (ZgS I1 (by omega) (by omega) q1 q2 (by simpa using q))
def Zmk (wi:TI) (g:TG) (tb:TS):TS:=λD σ H=>wi σ H λJ H1=>∃ W:Nat->Nat->St->Hp->Prop,(∃ m,W 0 m σ H1)/\∀ i m σ H,W i m σ H ->
 (J.stop i H/\D.nx σ H)\/(J.go i H/\∃ N:St->Hp->Prop,(∀ σ' H',N σ' H'->∃ m',m'<m/\W (i+1) m' σ' H')/\∀ x H',J.yld i H x H'->g x σ H' λσ2 H2=>tb { D with nx:=N,ct:=N,bk:=D.nx } σ2 H2)
def ZdD (fp:List Addr) (h:Heap):List (Addr×Obj):=fp.filterMap λb=>(h.get? b).map λo=>(b,o)
theorem Zby {fp:List Addr} {h:Heap} {b:Addr} {o:Obj} (hb:b∈fp) (e:h.get? b=some o):(b,o)∈ZdD fp h:=List.mem_filterMap.mpr ⟨b,hb,by rw [e];rfl⟩
theorem Zfz {fp:List Addr} {h:Heap} {p:Addr×Obj} (hp:p∈ZdD fp h):p.1∈fp/\h.get? p.1=some p.2:=by
 obtain ⟨b,hb,e⟩:=List.mem_filterMap.mp hp
 cases q:h.get? b with
 | none=>rw [q] at e;cases e
 | some o=>
  rw [q] at e
  have e':(b,o)=p:=Option.some.inj e
  subst e'
  exact ⟨hb,q⟩
theorem Inv.pinned {pins:List (Addr×Obj)} {σ:St} {H:Hp} {s:Shared} {fp:List Addr} (I:Inv X pins σ H s) (hf:∀ b∈fp,ZgN X pins H b) (ho:∀ b∈fp,∃ o,s.heap.get? b=some o/\∀ v,o.data≠.cell v):Inv X (pins++ZdD fp s.heap) σ H s:=
 I.pins_of λp hp=>(List.mem_append.mp hp).elim (λz=>I.pin p (List.mem_append_right _ z)) λz=>by
  obtain ⟨hb,e⟩:=Zfz z
  obtain ⟨f0,f1,f2,_⟩:=hf p.1 hb
  obtain ⟨o,e',d⟩:=ho p.1 hb
  rw [e] at e';cases e'
  exact ⟨e,f0,f1,f2,d⟩
theorem Inv.unpinned {pins pl:List (Addr×Obj)} {σ:St} {H:Hp} {s:Shared} (I:Inv X (pins++pl) σ H s):Inv X pins σ H s:=I.pins_of λp hp=>I.pin p (List.mem_append_right _ (List.mem_append_left _ hp))
theorem ZbJ {iter:Expr} {body:List Stmt} {wi:TI} {g:TG} {tb:TS} {pos:Pos} (hp:PassesOwn (model X.prog X.w) X.A X.env X.xe) (hc:X.calm=true) (hi:PI X tg iter wi) (hg:PG X tg g) (hb:PSs X body tb)
  (hs:∀ x,foldedSetIterable iter X.env x=pure x:=by intro _;rfl):PS X (.For tg iter body [] pos) (Zmk wi g tb):=by
 intro pins s σ H D I h
 refine wpAny_For (thn (hi pins s σ H _ I h) λv s1 h1=>thn h1 λitv s2 h2=>?_) hs
 obtain ⟨it,fp,tn,J,H2,e,I2,T,st2,f2,W,⟨m0,w0⟩,turn⟩:=h2
 subst e
 have stat:∀ {H':Hp},(∀ b∈fp,H' b=none)->∀ b∈fp,ZgN X pins H' b:=λhn b hb=>⟨hn b hb,(f2 b hb).2⟩
 refine codeAny_forLoop_any (λn s'=>∃ i σ' H',Inv X pins σ' H' s'/\tn i s'.heap/\(∀ b∈fp,H' b=none)/\W i n σ' H') ?_ m0 ⟨0,σ,H2,I2,st2,λb hb=>(f2 b hb).1,w0⟩
 rintro n s3 ⟨i,σ3,H3,I3,st3,fr3,w3⟩
 rcases turn i n σ3 H3 w3 with ⟨stop,qn⟩ | ⟨go,N,hN,step⟩
 ·refine wpAny_passesOwn hp (thn (T.done X rfl rfl rfl hc i pins s3 σ3 H3 X.xe I3 (stat fr3) st3 stop) λr s4 ⟨hr,I4⟩=>?_)
  subst hr
  exact wpAny_execs_nil ⟨σ3,H3,I4,qn⟩
 ·refine wpAny_passesOwn hp (thn (T.item X rfl rfl rfl hc i pins s3 σ3 H3 X.xe I3 (stat fr3) st3 go) λr s4 ⟨u,hr,h4⟩=>?_)
  subst hr
  refine wpAny_passesOwn hp (thn h4 λ_ s5 ⟨x,H5,I5,r5,y5,st5,fr5⟩=>?_)
  have I5':=I5.pinned (stat fr5) (T.obj _ _ st5)
  refine wpAny_passesOwn hp (thn (hg _ s5 σ3 H5 x u _ I5' r5 (step x H5 y5)) λ_ s6 ⟨σ6,H6,I6,q6⟩=>?_)
  refine wpAny_passesOwn hp (thn (hb _ s6 σ6 H6 _ I6 q6) λf s7 q7=>?_)
  have again:∀ {σ7:St} {H7:Hp},Inv X (pins++ZdD fp s5.heap) σ7 H7 s7->N σ7 H7->∃ m,m<n/\∃ i σ' H',Inv X pins σ' H' s7/\tn i s7.heap/\(∀ b∈fp,H' b=none)/\W i m σ' H':=λ{σ7 H7} I7 n7=>by
   obtain ⟨m',hm,w7⟩:=hN σ7 H7 n7
   refine ⟨m',hm,i+1,σ7,H7,I7.unpinned,T.keep _ _ _ st5 λb hb o e=>(I7.pin (b,o) (List.mem_append_right _ (List.mem_append_right _ (Zby hb e)))).1,λb hb=>?_,w7⟩
   obtain ⟨o,e,d⟩:=T.obj _ _ st5 b hb
   exact (I7.pin (b,o) (List.mem_append_right _ (List.mem_append_right _ (Zby hb e)))).2.1
  cases f with
  | next=>obtain ⟨σ7,H7,I7,n7⟩:=q7;exact again I7 n7
  | cont=>obtain ⟨σ7,H7,I7,n7⟩:=q7;exact again I7 n7
  | brk=>obtain ⟨σ7,H7,I7,q7⟩:=q7;exact ⟨σ7,H7,I7.unpinned,q7⟩
  | ret v=>obtain ⟨x7,σ7,H7,I7,r7,q7⟩:=q7;exact ⟨x7,σ7,H7,I7.unpinned,r7,q7⟩
end
theorem Za6 {K:PySem.W.Frag} {a:Addr} {xs:List V} {g:TG} {tb:TS} {D:Ze6} {σ:St} {H:Hp} (Pv:Nat->St->Hp->Prop) (h0:Pv 0 σ H) (hl:∀ i σ H,i<=xs.length->Pv i σ H->SqL K H a xs)
  (hs:∀ i x σ H,xs[i]?=some x->Pv i σ H->g x σ H λσ2 H2=>tb { D with nx:=Pv (i+1),ct:=Pv (i+1),bk:=D.nx } σ2 H2) (hd:∀ σ H,Pv xs.length σ H->D.nx σ H) :
  ∃ W:Nat->Nat->St->Hp->Prop,(∃ m,W 0 m σ H)/\∀ i m σ H,W i m σ H ->
   ((Itl K a).stop i H/\D.nx σ H)\/((Itl K a).go i H/\∃ N:St->Hp->Prop,(∀ σ' H',N σ' H'->∃ m',m'<m/\W (i+1) m' σ' H')/\∀ x H',(Itl K a).yld i H x H'->g x σ H' λσ2 H2=>tb { D with nx:=N,ct:=N,bk:=D.nx } σ2 H2):=by
 refine ⟨λi m σ H=>m=xs.length-i/\i<=xs.length/\Pv i σ H,⟨xs.length,by simp,Nat.zero_le _,h0⟩,?_⟩
 rintro i m σ H ⟨rfl,hi,p⟩
 have q:=hl i σ H hi p
 by_cases hlt:i<xs.length
 ·refine .inr ⟨⟨xs,xs[i],q,by simp [hlt]⟩,Pv (i+1),λσ' H' p'=>⟨xs.length-(i+1),by omega,rfl,hlt,p'⟩,λx H' y=>?_⟩
  obtain ⟨e,y⟩:=y
  subst e
  exact hs i x σ _ (y xs q) p
 ·have e:i=xs.length:=by omega
  subst e
  exact .inl ⟨⟨xs,q,Nat.le_refl _⟩,hd σ H p⟩
theorem ZdE {lo:Int} {n:Nat} {g:TG} {tb:TS} {D:Ze6} {σ:St} {H:Hp} (Pv:Nat->St->Hp->Prop) (h0:Pv 0 σ H)
  (hs:∀ i σ H,i<n->Pv i σ H->g (.int (lo+i)) σ H λσ2 H2=>tb { D with nx:=Pv (i+1),ct:=Pv (i+1),bk:=D.nx } σ2 H2) (hd:∀ σ H,Pv n σ H->D.nx σ H) :
  ∃ W:Nat->Nat->St->Hp->Prop,(∃ m,W 0 m σ H)/\∀ i m σ H,W i m σ H ->
   ((Itr lo n).stop i H/\D.nx σ H)\/((Itr lo n).go i H/\∃ N:St->Hp->Prop,(∀ σ' H',N σ' H'->∃ m',m'<m/\W (i+1) m' σ' H')/\∀ x H',(Itr lo n).yld i H x H'->g x σ H' λσ2 H2=>tb { D with nx:=N,ct:=N,bk:=D.nx } σ2 H2):=by
 refine ⟨λi m σ H=>m=n-i/\i<=n/\Pv i σ H,⟨n,by simp,Nat.zero_le _,h0⟩,?_⟩
 rintro i m σ H ⟨rfl,hi,p⟩
 by_cases hlt:i<n
 ·refine .inr ⟨hlt,Pv (i+1),λσ' H' p'=>⟨n-(i+1),by omega,rfl,hlt,p'⟩,λx H' y=>?_⟩
  obtain ⟨e,y⟩:=y
  subst e y
  exact hs i σ _ hlt p
 ·have e:i=n:=by omega
  subst e
  exact .inl ⟨Nat.le_refl _,hd σ H p⟩
end L2
namespace L2
open PySem PySem.Spec PyProof.Rows
abbrev R2:=V->V->Hp->VK->Prop
def OpR (X:Cx) (f:Value->Value->Sem Value) (r:R2):Prop:=
 ∀ (pins:List (Addr×Obj)) (s:Shared) (σ:St) (H:Hp) (x y:V) (v u:Value) (Q:VK),Inv X pins σ H s->RelV x v->RelV y u->r x y H Q ->
  wpAny (model X.prog X.w) X.A (f v u) (EP X pins σ Q) X.xe s
def UnR (X:Cx) (f:Value->Sem Value) (r:V->Hp->VK->Prop):Prop:=
 ∀ (pins:List (Addr×Obj)) (s:Shared) (σ:St) (H:Hp) (x:V) (v:Value) (Q:VK),Inv X pins σ H s->RelV x v->r x H Q ->
  wpAny (model X.prog X.w) X.A (f v) (EP X pins σ Q) X.xe s
def Zbp (X:Cx) (f:Value) (r:List V->Hp->VK->Prop):Prop:=
 ∀ (pins:List (Addr×Obj)) (s:Shared) (σ:St) (H:Hp) (xs:List V) (us:List Value) (Q:VK),Inv X pins σ H s->Vals xs us->r xs H Q ->
  wpAny (model X.prog X.w) X.A (call f us) (EP X pins σ Q) X.xe s
def Zm8 (X:Cx) (r:V->Hp->(Bool->Hp->Prop)->Prop):Prop:=
 ∀ (pins:List (Addr×Obj)) (s:Shared) (σ:St) (H:Hp) (x:V) (v:Value) (Q:Bool->Hp->Prop),Inv X pins σ H s->RelV x v->r x H Q ->
  wpAny (model X.prog X.w) X.A (truthy v) (TP X pins σ Q) X.xe s
def tOp (r:R2) (ta tb:TE):TE:=λσ H Q=>ta σ H λx H1=>tb σ H1 λy H2=>r x y H2 Q
def tUn (r:V->Hp->VK->Prop) (ta:TE):TE:=λσ H Q=>ta σ H λx H1=>r x H1 Q
def rI (C:Int->Int->Prop) (g:Int->Int->V):R2:=λx y H Q=>∃ i j,x=.int i/\y=.int j/\C i j/\Q (g i j) H
def rI0 (g:Int->Int->V):R2:=λx y H Q=>∃ i j,x=.int i/\y=.int j/\Q (g i j) H
def rU (g:Int->V):V->Hp->VK->Prop:=λx H Q=>∃ i,x=.int i/\Q (g i) H
section
variable {X:Cx} {a b c:Expr} {ta tb tc:TE} {pos:Pos}
theorem ZkI (ha:PE X a ta) (hb:PE X b tb) {pins:List (Addr×Obj)} {s:Shared} {σ:St} {H:Hp} {R:V->V->Hp->Prop} (I:Inv X pins σ H s)
  (h:ta σ H λx H1=>tb σ H1 λy H2=>R x y H2) {Q:Value->Shared->Prop} {f:Value->Value->Sem Value}
  (hf:∀ v u s2 x y H2,Inv X pins σ H2 s2->RelV x v->RelV y u->R x y H2->wpAny (model X.prog X.w) X.A (f v u) Q X.xe s2) :
  wpAny (model X.prog X.w) X.A (eval a X.env) (λv s₁=>wpAny (model X.prog X.w) X.A (eval b X.env) (λu s₂=>wpAny (model X.prog X.w) X.A (f v u) Q X.xe s₂) X.xe s₁) X.xe s:=by
 refine thn (ha pins s σ H _ I h) λv s1 ⟨x,H1,I1,r1,q1⟩=>?_
 refine thn (hb pins s1 σ H1 _ I1 q1) λu s2 ⟨y,H2,I2,r2,q2⟩=>?_
 exact hf v u s2 x y H2 I2 r1 r2 q2
theorem Zak {op:Operator} {r:R2} (ho:OpR X (binaryOp op) r) (ha:PE X a ta) (hb:PE X b tb):PE X (.BinOp a op b pos) (tOp r ta tb):=by
 intro pins s σ H Q I h
 exact wpAny_BinOp (ZkI ha hb I h λv u s2 x y H2 I2 rx ry q=>ho pins s2 σ H2 x y v u Q I2 rx ry q)
theorem ZfA {op:UnaryOp} {r:V->Hp->VK->Prop} (ho:UnR X (unaryOp op) r) (ha:PE X a ta):PE X (.UnaryOp op a pos) (tUn r ta):=by
 intro pins s σ H Q I h
 exact UnaryOp_ (thn (ha pins s σ H _ I h) λv s1 ⟨x,H1,I1,r1,q1⟩=>ho pins s1 σ H1 x v Q I1 r1 q1)
theorem opI {f:Value->Value->Sem Value} {C:Int->Int->Prop} {g:Int->Int->Int}
  (rule:∀ (i j:Int) (t u:Tok) (s:Shared) (Q:Value->Shared->Prop) (E:Value->Shared->Prop),C i j->Q (.int (g i j) s.toks) { s with toks:=s.toks+1 }->wpAny (model X.prog X.w) X.A (f (.int i t) (.int j u)) Q E s) :
  OpR X f (rI C λi j=>.int (g i j)):=by
 intro pins s σ H x y v u Q I rx ry h
 obtain ⟨i,j,rfl,rfl,hc,q⟩:=h
 obtain ⟨t,rfl⟩:=rx
 obtain ⟨t',rfl⟩:=ry
 exact rule i j t t' s _ _ hc ⟨.int (g i j),H,I.tok _,⟨_,rfl⟩,q⟩
theorem Zly {f:Value->Value->Sem Value} {g:Int->Int->Int}
  (rule:∀ (i j:Int) (t u:Tok) (s:Shared) (Q:Value->Shared->Prop) (E:Value->Shared->Prop),Q (.int (g i j) s.toks) { s with toks:=s.toks+1 }->wpAny (model X.prog X.w) X.A (f (.int i t) (.int j u)) Q E s) :
  OpR X f (rI0 λi j=>.int (g i j)):=by
 intro pins s σ H x y v u Q I rx ry h
 obtain ⟨i,j,rfl,rfl,q⟩:=h
 obtain ⟨t,rfl⟩:=rx
 obtain ⟨t',rfl⟩:=ry
 exact rule i j t t' s _ _ ⟨.int (g i j),H,I.tok _,⟨_,rfl⟩,q⟩
theorem ZkJ {f:Value->Value->Sem Value} {g:Int->Int->Bool}
  (rule:∀ (i j:Int) (t u:Tok) (s:Shared) (Q:Value->Shared->Prop) (E:Value->Shared->Prop),Q (.bool (g i j)) s->wpAny (model X.prog X.w) X.A (f (.int i t) (.int j u)) Q E s) :
  OpR X f (rI0 λi j=>.bl (g i j)):=by
 intro pins s σ H x y v u Q I rx ry h
 obtain ⟨i,j,rfl,rfl,q⟩:=h
 obtain ⟨t,rfl⟩:=rx
 obtain ⟨t',rfl⟩:=ry
 exact rule i j t t' s _ _ ⟨.bl (g i j),H,I,rfl,q⟩
def Zm9 (i j:Int):Prop:=0<j/\j<1073741824
def Zml (i j:Int):Prop:=j≠0/\j.natAbs<1073741824
def Zmm (i j:Int):Prop:=0<=j/\j<=1000000/\i.natAbs<2 ^ 64
def CMul (i j:Int):Prop:=(-(2 ^ 64)<i/\i<2 ^ 64)\/(-(2 ^ 64)<j/\j<2 ^ 64)
theorem CMul.ok {i j:Int} (h:CMul i j):IntMulOk i j:=by
 rcases h with ⟨h1,h2⟩ | ⟨h1,h2⟩
 ·exact .of_left (intBits_le_64 h1 h2)
 ·exact .of_right (intBits_le_64 h1 h2)
theorem ZaR:OpR X (binaryOp .Add) (rI0 λi j=>.int (i+j)):=Zly λ_ _ _ _ _ _ _ q=>add_int q
theorem Zbq:OpR X (binaryOp .Sub) (rI0 λi j=>.int (i-j)):=Zly λ_ _ _ _ _ _ _ q=>sub_int q
theorem Zcg:OpR X (binaryOp .Mult) (rI CMul λi j=>.int (i * j)):=opI λ_ _ _ _ _ _ _ hc q=>mul_int q hc.ok
theorem ZdF:OpR X (binaryOp .Mod) (rI (λ_ j=>0<j) λi j=>.int (i % j)):=opI λi j _ _ _ _ _ hc q=>by
 have h1:(0:Int)<j:=hc
 exact mod_int' (by omega) (by rw [Int.fmod_eq_emod_of_nonneg i (by omega)];exact q)
theorem ZeA:OpR X (binaryOp .Pow) (rI Zmm λi j=>.int (i ^ j.toNat)):=opI λ_ _ _ _ _ _ _ hc q=>pow_int_small hc.1 hc.2.1 hc.2.2 q
end
def Zlz:V->V->Bool
 | .non,.non=>true | .non,.int _=>true | .int _,.non=>true | .non,.bl _=>true | .bl _,.non=>true | .non,.str _=>true | .str _,.non=>true
 | .int _,.int _=>true | .bl _,.bl _=>true | .str _,.str _=>true | .byt _,.byt _=>true
 | .int _,.str _=>true | .str _,.int _=>true | .bl _,.str _=>true | .str _,.bl _=>true
 | _,_=>false
def rEq:R2:=λx y H Q=>Zlz x y=true/\Q (.bl (decide (x=y))) H
def rNe:R2:=λx y H Q=>Zlz x y=true/\Q (.bl (!decide (x=y))) H
theorem ZfB {i j:Int}:decide (V.int i=V.int j)=(i == j):=by
 rw [Bool.eq_iff_iff]
 simp
theorem Zhz {i j:Bool}:decide (V.bl i=V.bl j)=(i == j):=by
 rw [Bool.eq_iff_iff]
 simp
theorem ZfC {i j:Str}:decide (V.str i=V.str j)=(i == j):=by
 rw [Bool.eq_iff_iff]
 simp
theorem ZfD {i j:Array UInt8}:decide (V.byt i=V.byt j)=(i.toList == j.toList):=by
 rw [Bool.eq_iff_iff]
 cases i
 cases j
 simp
section
variable {X:Cx} {a b c:Expr} {ta tb tc:TE} {pos:Pos}
theorem ZaB {pins:List (Addr×Obj)} {σ:St} {H:Hp} {s:Shared} {Q:VK} {k k':Bool} (I:Inv X pins σ H s) (q:Q (.bl k) H) (e:k=k'):EP X pins σ Q (.bool k') s:=by
 subst e
 exact ⟨.bl k,H,I,rfl,q⟩
theorem Zc7:OpR X (compareOp .Eq) rEq:=by
 intro pins s σ H x y v u Q I rx ry h
 obtain ⟨hs,q⟩:=h
 cases x with
 | non=>
  cases rx
  cases y with
  | non=>cases ry;exact PySem.EqNone.eq_none_none (ZaB I q (by simp))
  | bl j=>cases ry;exact PySem.EqNone.eq_none_bool (ZaB I q (by simp))
  | int j=>obtain ⟨t',rfl⟩:=ry;exact PySem.EqNone.eq_none_int (ZaB I q (by simp))
  | str j=>obtain ⟨t',rfl⟩:=ry;exact PySem.EqNone.eq_none_str (ZaB I q (by simp))
  | _=>exact absurd (show false=true from hs) Bool.false_ne_true
 | bl i=>
  cases rx
  cases y with
  | non=>cases ry;exact PySem.EqNone.eq_bool_none (ZaB I q (by simp))
  | bl j=>cases ry;exact eq_bool (ZaB I q Zhz)
  | str j=>obtain ⟨t',rfl⟩:=ry;exact PySem.EqMixed.eq_bool_str (ZaB I q (by simp))
  | _=>exact absurd (show false=true from hs) Bool.false_ne_true
 | int i=>
  obtain ⟨t,rfl⟩:=rx
  cases y with
  | non=>cases ry;exact PySem.EqNone.eq_int_none (ZaB I q (by simp))
  | int j=>obtain ⟨t',rfl⟩:=ry;exact eq_int (ZaB I q ZfB)
  | str j=>obtain ⟨t',rfl⟩:=ry;exact PySem.EqMixed.eq_int_str (ZaB I q (by simp))
  | _=>exact absurd (show false=true from hs) Bool.false_ne_true
 | str i=>
  obtain ⟨t,rfl⟩:=rx
  cases y with
  | non=>cases ry;exact PySem.EqNone.eq_str_none (ZaB I q (by simp))
  | bl j=>cases ry;exact PySem.EqMixed.eq_str_bool (ZaB I q (by simp))
  | int j=>obtain ⟨t',rfl⟩:=ry;exact PySem.EqMixed.eq_str_int (ZaB I q (by simp))
  | str j=>obtain ⟨t',rfl⟩:=ry;exact eq_str (ZaB I q ZfC)
  | _=>exact absurd (show false=true from hs) Bool.false_ne_true
 | byt i=>
  obtain ⟨t,rfl⟩:=rx
  cases y with
  | byt j=>obtain ⟨t',rfl⟩:=ry;exact PySem.W.eq_bytes (ZaB I q ZfD)
  | _=>exact absurd (show false=true from hs) Bool.false_ne_true
 | _=>cases y <;> exact absurd (show false=true from hs) Bool.false_ne_true
theorem Zjj:OpR X (compareOp .NotEq) rNe:=by
 intro pins s σ H x y v u Q I rx ry h
 obtain ⟨hs,q⟩:=h
 cases x with
 | non=>
  cases rx
  cases y with
  | non=>cases ry;exact PySem.EqNone.ne_none_none (ZaB I q (by simp))
  | bl j=>cases ry;exact PySem.EqNone.ne_none_bool (ZaB I q (by simp))
  | int j=>obtain ⟨t',rfl⟩:=ry;exact PySem.EqNone.ne_none_int (ZaB I q (by simp))
  | str j=>obtain ⟨t',rfl⟩:=ry;exact PySem.EqNone.ne_none_str (ZaB I q (by simp))
  | _=>exact absurd (show false=true from hs) Bool.false_ne_true
 | bl i=>
  cases rx
  cases y with
  | non=>cases ry;exact PySem.EqNone.ne_bool_none (ZaB I q (by simp))
  | bl j=>cases ry;exact ne_bool (ZaB I q (congrArg not Zhz))
  | str j=>obtain ⟨t',rfl⟩:=ry;exact PySem.EqMixed.ne_bool_str (ZaB I q (by simp))
  | _=>exact absurd (show false=true from hs) Bool.false_ne_true
 | int i=>
  obtain ⟨t,rfl⟩:=rx
  cases y with
  | non=>cases ry;exact PySem.EqNone.ne_int_none (ZaB I q (by simp))
  | int j=>obtain ⟨t',rfl⟩:=ry;exact ne_int (ZaB I q (congrArg not ZfB))
  | str j=>obtain ⟨t',rfl⟩:=ry;exact PySem.EqMixed.ne_int_str (ZaB I q (by simp))
  | _=>exact absurd (show false=true from hs) Bool.false_ne_true
 | str i=>
  obtain ⟨t,rfl⟩:=rx
  cases y with
  | non=>cases ry;exact PySem.EqNone.ne_str_none (ZaB I q (by simp))
  | bl j=>cases ry;exact PySem.EqMixed.ne_str_bool (ZaB I q (by simp))
  | int j=>obtain ⟨t',rfl⟩:=ry;exact PySem.EqMixed.ne_str_int (ZaB I q (by simp))
  | str j=>obtain ⟨t',rfl⟩:=ry;exact ne_str (ZaB I q (congrArg not ZfC))
  | _=>exact absurd (show false=true from hs) Bool.false_ne_true
 | byt i=>
  obtain ⟨t,rfl⟩:=rx
  cases y with
  | byt j=>obtain ⟨t',rfl⟩:=ry;exact PySem.W.ne_bytes (ZaB I q (congrArg not ZfD))
  | _=>exact absurd (show false=true from hs) Bool.false_ne_true
 | _=>cases y <;> exact absurd (show false=true from hs) Bool.false_ne_true
theorem ZfE:OpR X (compareOp .Lt) (rI0 λi j=>.bl (decide (i<j))):=ZkJ λ_ _ _ _ _ _ _ q=>lt_int q
theorem Zh5:OpR X (compareOp .Gt) (rI0 λi j=>.bl (decide (j<i))):=ZkJ λ_ _ _ _ _ _ _ q=>gt_int q
theorem ZkK:OpR X (compareOp .GtE) (rI0 λi j=>.bl (decide (j<=i))):=ZkJ λ_ _ _ _ _ _ _ q=>ge_int q
theorem Zjk:OpR X (compareOp .Is) (λx y H Q=>y=.non/\Q (.bl (decide (x=.non))) H):=by
 intro pins s σ H x y v u Q I rx ry h
 obtain ⟨rfl,q⟩:=h
 cases ry
 refine is_none_gen (ZaB I q ?_)
 cases x <;> first
  | (cases rx;rfl)
  | (obtain ⟨t,rfl⟩:=rx;rfl)
def Zmn:HO->Bool
 | .lst _=>true
 | .ins _ _ _=>true
 | _=>false
theorem Zax (b:Expr) {op:CmpOp} (h:op≠.In:=by decide) (h2:op≠.NotIn:=by decide):behindInMarks op b=false:=by
 have e1:(op == CmpOp.In)=false:=by cases op <;> first | rfl | exact absurd rfl h
 have e2:(op == CmpOp.NotIn)=false:=by cases op <;> first | rfl | exact absurd rfl h2
 cases b <;> simp [behindInMarks,e1,e2]
theorem Zeg {op:CmpOp} {r:R2} (ho:OpR X (compareOp op) r) (ha:PE X a ta) (hb:PE X b tb) (hm:behindInMarks op b=false):PE X (.Compare a [op] [b] pos) (tOp r ta tb):=by
 intro pins s σ H Q I h
 exact wpAny_Compare1 (ZkI ha hb I h λv u s2 x y H2 I2 rx ry q=>ho pins s2 σ H2 x y v u Q I2 rx ry q) hm
def ZkL (t:TE):TT:=λσ H Q=>t σ H λx H'=>∃ k,x=.bl k/\Q k H'
theorem Zam {op:CmpOp} {r:R2} (ho:OpR X (compareOp op) r) (ha:PE X a ta) (hb:PE X b tb) (hm:behindInMarks op b=false):PT X (.Compare a [op] [b] pos) (ZkL (tOp r ta tb)):=by
 intro pins s σ H Q I h
 refine wpAny_isTrue_Compare1 (thn (ha pins s σ H _ I h) λv s1 ⟨x,H1,I1,r1,q1⟩=>thn (hb pins s1 σ H1 _ I1 q1) λu s2 ⟨y,H2,I2,r2,q2⟩=>
  thn (ho pins s2 σ H2 x y v u _ I2 r1 r2 q2) λc s3 ⟨z,H3,I3,r3,k,e,q3⟩=>?_) hm
 subst e
 cases r3
 exact wpAny_truthy_bool ⟨H3,I3,q3⟩
def ZlA (r r':R2) (ta tb tc:TE):TE:=λσ H Q=>ta σ H λx H1=>tb σ H1 λy H2=>r x y H2 λz H3=>∃ k,z=.bl k /\
 (if k=true then tc σ H3 λw' H4=>r' y w' H4 Q else Q (.bl false) H3)
def Zna (K:PySem.W.Frag) (x:V) (H:Hp) (k:Bool):Prop:=
 match x with
 | .non=>k=false
 | .bl b=>k=b
 | .int i=>k=(i != 0)
 | .str y=>y.length<=sizeLine/\k=((y.length:Int) != 0)
 | .byt y=>y.size<=sizeLine/\k=((y.size:Int) != 0)
 | .ref p=>(∃ xs,SqL K H p xs/\k=!xs.isEmpty)\/(∃ xs,SqT K H p xs/\k=!xs.isEmpty)\/∃ kvs,H p=some (.dK kvs)/\k=!kvs.isEmpty
 | _=>False
theorem ZeB:(sizeLine:Nat)<2 ^ 63:=by rw [sizeLine_eq];decide
def Zks (b:Expr):Prop:=∀ o i,subscripted b false o i=operate [o,i] (getItem o i)
theorem ZfF {x:V} {us:List Value} (r:Vals [x] us):∃ u,us=[u]/\RelV x u:=by
 cases r with
 | cons r1 r2=>cases r2;exact ⟨_,rfl,r1⟩
theorem Zjl {x y:V} {us:List Value} (r:Vals [x,y] us):∃ u w',us=[u,w']/\RelV x u/\RelV y w':=by
 cases r with
 | cons r1 r2=>
  cases r2 with
  | cons r3 r4=>cases r4;exact ⟨_,_,rfl,r1,r3⟩
theorem ZfG (hc:X.calm=true):Zbp X (.builtin "max") (λxs H Q=>∃ i j,xs=[.int i,.int j]/\Q (.int (if j > i then j else i)) H):=by
 intro pins s σ H xs us Q I r h
 obtain ⟨i,j,rfl,q⟩:=h
 obtain ⟨u,w',rfl,⟨t,rfl⟩,⟨t',rfl⟩⟩:=Zjl r
 refine max_two_ints (I.ok.hd hc) λh' tk k=>⟨_,H,I.kept k,?_,q⟩
 by_cases hj:j > i
 ·rw [if_pos hj,if_pos hj];exact ⟨_,rfl⟩
 ·rw [if_neg hj,if_neg hj];exact ⟨_,rfl⟩
theorem ZfH (hc:X.calm=true):Zbp X (.builtin "min") (λxs H Q=>∃ i j,xs=[.int i,.int j]/\Q (.int (if j<i then j else i)) H):=by
 intro pins s σ H xs us Q I r h
 obtain ⟨i,j,rfl,q⟩:=h
 obtain ⟨u,w',rfl,⟨t,rfl⟩,⟨t',rfl⟩⟩:=Zjl r
 refine min_two_ints (I.ok.hd hc) λh' tk k=>⟨_,H,I.kept k,?_,q⟩
 by_cases hj:j<i
 ·rw [if_pos hj,if_pos hj];exact ⟨_,rfl⟩
 ·rw [if_neg hj,if_neg hj];exact ⟨_,rfl⟩
theorem ZfI:Zbp X (.type "int") (λxs H Q=>(∃ i,xs=[.int i]/\Q (.int i) H)\/∃ k,xs=[.bl k]/\Q (.int (if k then 1 else 0)) H):=by
 intro pins s σ H xs us Q I r h
 rcases h with ⟨i,rfl,q⟩ | ⟨k,rfl,q⟩
 ·obtain ⟨u,rfl,t,rfl⟩:=ZfF r
  exact call_int_int ⟨.int i,H,I,⟨_,rfl⟩,q⟩
 ·obtain ⟨u,rfl,r1⟩:=ZfF r
  cases r1
  exact call_int_bool ⟨.int (if k then 1 else 0),H,I.tok _,⟨_,rfl⟩,q⟩
def Znb (K:PySem.W.Frag) (x:V) (H:Hp) (n:Nat):Prop:=
 match x with
 | .str y=>y.length<=sizeLine/\n=y.length
 | .byt y=>y.size<=sizeLine/\n=y.size
 | .ref p=>(∃ xs,SqL K H p xs/\n=xs.length)\/∃ xs,SqT K H p xs/\n=xs.length
 | _=>False
end
end L2
namespace L2
open PySem PySem.Spec PyProof.Rows
structure ObjM (h:Heap) (x dx C:Addr) (mA:Str->Option Value):Prop where
 obj:h.get? x=some (PySem.W.instObj C dx)
 ns:h.Ns1 dx mA
 ne:dx≠x
theorem ZfJ {h:Heap} {dx:Addr} {mA:Str->Option Value} (n:h.Ns1 dx mA):∃ od,h.get? dx=some od/\∀ name,PySem.W.lookIn name od=some (mA name):=by
 obtain ⟨o,es,ep,ho,hd,hk,_,hm⟩:=n
 refine ⟨o,ho,λname=>?_⟩
 have e:=hm name
 unfold nsFind findBy at e
 rw [<-Array.find?_toList] at e
 unfold PySem.W.lookIn
 rw [hd]
 dsimp only
 split
 ·rename_i y q
  rw [q] at e
  exact congrArg some e
 ·rename_i q
  rw [q] at e
  have a:es.toList.any (·.refKey)=false:=by
   rw [List.any_eq_false]
   intro y hy
   obtain ⟨z,t,hkey⟩:=hk y (Array.mem_toList_iff.mp hy)
   simp [DictEntry.refKey,hkey]
  have a':¬ es.toList.any (·.refKey)=true:=by rw [a];exact Bool.false_ne_true
  rw [if_neg a']
  exact congrArg some e
theorem ObjM.look {h:Heap} {x dx C:Addr} {mA:Str->Option Value} (I:ObjM h x dx C mA):∃ od,PySem.W.InstAt h x (PySem.W.instObj C dx) C (some od)/\∀ name,PySem.W.lookIn name od=some (mA name):=
 let ⟨od,ho,hl⟩:=ZfJ I.ns
 ⟨od,⟨I.obj,rfl,rfl,ho⟩,hl⟩
section
variable {prog:Program} {w:World} {A:Around} {E:Value->Shared->Prop} {s:Shared} {K:PySem.W.Frag} {x dx C f:Addr} {mA:Str->Option Value} {name:Str} {v:Value}
end
def ZkM (f:Str) (v:V):List (Str×V)->List (Str×V)
 | []=>[(f,v)]
 | (g,x)::r=>if g=f then (g,v)::r else (g,x)::ZkM f v r
theorem RelO.some_of {v:V} {o:Option Value} (r:RelO (some v) o):∃ u,o=some u/\RelV v u:=by
 cases o with
 | none=>exact (show False from r).elim
 | some u=>exact ⟨u,rfl,r⟩
theorem RelO.none_of {o:Option Value} (r:RelO none o):o=none:=by
 cases o with
 | none=>rfl
 | some u=>exact (show False from r).elim
section
variable {P:Program} {w:World} {H H':Hp} {h h':Heap} {a C dx:Addr} {fs fs':List (Str×V)}
theorem Zh6 (hok:HOk P w H h) (e:H a=some (.ins C dx fs)):∃ mA,ObjM h a dx C mA/\(∀ f,RelO (fs.lookup f) (mA f))/\PySem.Within mA (fs.map (·.1))/\fs.length<=1000/\H dx=some (.own a):=by
 obtain ⟨d,z,ne,ob,mA,n,r,q⟩:=(show ObjOk P w H h a (.ins C dx fs) from hok a _ e)
 exact ⟨mA,⟨ob,n,ne⟩,r,q,z,d⟩
end
structure Cls (K:PySem.W.Frag) (C:Addr):Prop where
 pg:PySem.W.plainGet K C Str.empty=true
 hd:PySem.W.hasDictIn K C=true
 po:PySem.W.plainOver K C=true
 sa:PySem.W.findIn K (.ref C) "__setattr__" = some (some (.builtin "object.__setattr__"))
theorem Cls.get {K:PySem.W.Frag} {C:Addr} (c:Cls K C) (f:Str):PySem.W.plainGet K C f=true:=c.pg
def ZfK (K:PySem.W.Frag) (C:Addr) (f:Str):Prop:=PySem.W.findIn K (.ref C) f=some none
structure Con (K:PySem.W.Frag) (C:Addr) (f:Str) (v:V) (u:Value):Prop where
 at_:PySem.W.findIn K (.ref C) f=some (some u)
 rel:RelV v u
 get:PySem.W.specialIn K u "__get__" = some none
 cp:PySem.W.copiedNames.contains f=false
structure Znc (K:PySem.W.Frag) (C:Addr) (m:Str) (f:Addr):Prop where
 at_:PySem.W.findIn K (.ref C) m=some (some (.ref f))
 fn:PySem.W.isFn K (.ref f)=true
 kp:PySem.W.keepIn K (.ref f)=true
section
variable {X:Cx} {pins:List (Addr×Obj)} {σ:St} {H:Hp} {s:Shared} {a C dx:Addr} {fs:List (Str×V)} {f:Str} {v:V} {A:Around} {E:Value->Shared->Prop}
end
def Znd (K:PySem.W.Frag) (ta:TE) (f:Str):TE:=λσ H Q=>ta σ H λx H1=>∃ a C dx fs v,x=.ref a/\H1 a=some (.ins C dx fs)/\Cls K C/\ZfK K C f/\fs.lookup f=some v/\Q v H1
def Zne (K:PySem.W.Frag) (ta:TE) (f:Str):TE:=λσ H Q=>ta σ H λx H1=>∃ a C dx fs v u,x=.ref a/\H1 a=some (.ins C dx fs)/\Cls K C/\Con K C f v u/\fs.lookup f=none/\Q v H1
def Znf (K:PySem.W.Frag) (ta tv:TE) (f:Str):TS:=λD σ H=>tv σ H λy H1=>ta σ H1 λx H2=>∃ a C dx fs,x=.ref a/\H2 a=some (.ins C dx fs)/\Cls K C/\ZfK K C f/\fs.length<1000 /\
 D.nx σ (upd H2 a (.ins C dx (ZkM f y fs)))
def Zng (X:Cx) (op:Operator) (rd:V->V->Hp->VK->Prop):Prop:=
 ∀ (pins:List (Addr×Obj)) (s:Shared) (σ:St) (H:Hp) (x y:V) (u v:Value) (Q:VK),Inv X pins σ H s->RelV x u->RelV y v->rd x y H Q->wpAny (model X.prog X.w) X.A (inplaceOp op u v) (EP X pins σ Q) X.xe s
def ZkN (K:PySem.W.Frag) (ta tv:TE) (rd:V->V->Hp->VK->Prop) (f:Str):TS:=λD σ H=>ta σ H λx H1=>∃ a C dx fs v,x=.ref a/\H1 a=some (.ins C dx fs)/\Cls K C/\ZfK K C f/\fs.lookup f=some v /\
 tv σ H1 λy H2=>rd v y H2 λz H3=>∃ dx' fs',H3 a=some (.ins C dx' fs')/\fs'.length<1000/\D.nx σ (upd H3 a (.ins C dx' (ZkM f z fs')))
section
variable {X:Cx} {o e value:Expr} {f:Str} {pos pos' tpos:Pos} {ta tv:TE}
def Znh:V->V->Hp->VK->Prop:=λx y H Q=>∃ i j,x=.int i/\y=.int j/\Q (.int (i+j)) H
def Zni:V->V->Hp->VK->Prop:=λx y H Q=>∃ i j,x=.int i/\y=.int j/\Q (.int (i-j)) H
end
section
variable {X:Cx} {pins:List (Addr×Obj)} {σ:St} {H:Hp} {s:Shared} {A:Around} {E:Value->Shared->Prop} {Q:Value->Shared->Prop} {c:Value} {b:Bool}
inductive Ze8 (K:PySem.W.Frag) (H:Hp):V->Value->Prop where
 | non:Ze8 K H .non (.type "NoneType")
 | bl (x:Bool):Ze8 K H (.bl x) (.type "bool")
 | int (i:Int):Ze8 K H (.int i) (.type "int")
 | str (x:Str):Ze8 K H (.str x) (.type "str")
 | flt (x:UInt64):Ze8 K H (.flt x) (.type "float")
 | lst {a:Addr} {xs:List V} (e:H a=some (.lst xs)):Ze8 K H (.ref a) (.type "list")
 | frz {a:Addr} {o:Obj} {xs:List V} (e:H a=some (.frz o (.lst xs))):Ze8 K H (.ref a) (.type "list")
 | tup {a:Addr} {xs:List V} (e:H a=some (.tup xs)):Ze8 K H (.ref a) (.type "tuple")
 | dK {a:Addr} {kvs:List (Key×V)} (e:H a=some (.dK kvs)):Ze8 K H (.ref a) (.type "dict")
 | dT {a:Addr} {kvs:List (List Key×V)} (e:H a=some (.dT kvs)):Ze8 K H (.ref a) (.type "dict")
 | ins {a C dx:Addr} {fs:List (Str×V)} (e:H a=some (.ins C dx fs)) (cl:Cls K C) (ha:PySem.W.findIn K (.ref C) "__class__" = some (some (.builtin "object.__class__")))
   (hn:PySem.W.specialIn K (.builtin "object.__class__") "__get__" = some (some (.builtin "getset_descriptor.__get__"))) (htk:PySem.W.takesIn K (.builtin "object.__class__")=some true)
   (hm:PySem.W.mroIn K C (.type "object")=some true):Ze8 K H (.ref a) (.ref C)
theorem ZfL {x:V} {u t:Value} (I:Inv X pins σ H s) (rx:RelV x u) (ty:Ze8 X.K H x t) (e:PySem.W.kitOne X.K t c=some b) (h:∀ tk,Q (.bool b) { s with toks:=tk }) :
  wpAny (model X.prog X.w) A (call (.builtin "isinstance") [u,c]) Q E s:=by
 cases ty with
 | non=>cases (show u=Value.none from rx);exact PySem.W.kia_one PySem.W.kitx_none I.kIn True.intro e (λz=>nomatch z) h
 | bl y=>cases (show u=Value.bool y from rx);exact PySem.W.kia_one PySem.W.kitx_bool I.kIn True.intro e (λz=>nomatch z) h
 | int i=>obtain ⟨t,q⟩:=(show ∃ t,u=Value.int i t from rx);cases q;exact PySem.W.kia_one PySem.W.kitx_int I.kIn True.intro e (λz=>nomatch z) h
 | str y=>obtain ⟨t,q⟩:=(show ∃ t,u=Value.str y t from rx);cases q;exact PySem.W.kia_one PySem.W.kitx_str I.kIn True.intro e (λz=>nomatch z) h
 | flt y=>obtain ⟨t,q⟩:=(show ∃ t,u=Value.float y t from rx);cases q;exact PySem.W.kia_one PySem.W.kitx_float I.kIn True.intro e (λz=>nomatch z) h
 | @lst a xs ea=>
  cases (show u=Value.ref a from rx)
  obtain ⟨_,_,n,_,h1⟩:=(show ObjOk X.prog X.w H s.heap a (.lst xs) from I.hok a _ ea)
  exact PySem.W.kia_one PySem.W.kitx_list I.kIn ⟨_,h1,rfl⟩ e (λz=>nomatch z) h
 | @frz a ob xs ea=>
  cases (show u=Value.ref a from rx)
  obtain ⟨_,_,_,n,_,h1⟩:=(show ObjOk X.prog X.w H s.heap a (.frz ob (.lst xs)) from I.hok a _ ea)
  exact PySem.W.kia_one PySem.W.kitx_list I.kIn ⟨_,h1,rfl⟩ e (λz=>nomatch z) h
 | @tup a xs ea=>
  cases (show u=Value.ref a from rx)
  obtain ⟨_,_,_,p⟩:=(show ObjOk X.prog X.w H s.heap a (.tup xs) from I.hok a _ ea)
  obtain ⟨o,h1,h2,_⟩:=p
  exact PySem.W.kia_one PySem.W.kitx_tuple I.kIn ⟨o,h1,h2⟩ e (λz=>nomatch z) h
 | @dK a kvs ea=>
  cases (show u=Value.ref a from rx)
  obtain ⟨_,_,vs,_,p⟩:=(show ObjOk X.prog X.w H s.heap a (.dK kvs) from I.hok a _ ea)
  obtain ⟨o,es,ep,h1,h2,_⟩:=p
  exact PySem.W.kia_one PySem.W.kitx_dict I.kIn ⟨o,h1,h2.1⟩ e (λz=>nomatch z) h
 | @dT a kvs ea=>
  cases (show u=Value.ref a from rx)
  obtain ⟨_,_,xs,_,o,es,ep,h1,h2,_⟩:=(show ObjOk X.prog X.w H s.heap a (.dT kvs) from I.hok a _ ea)
  exact PySem.W.kia_one PySem.W.kitx_dict I.kIn ⟨o,h1,h2.1⟩ e (λz=>nomatch z) h
 | @ins a C dx fs ea cl ha hn htk hm=>
  cases (show u=Value.ref a from rx)
  obtain ⟨mA,O,_⟩:=Zh6 I.hok ea
  obtain ⟨od,J,_⟩:=O.look
  exact PySem.W.kia_one (PySem.W.kitx_own (cl.get _) cl.hd ha hn htk hm) I.kIn J e (λz=>nomatch z) h
end
end L2
namespace L2
open PySem PySem.Spec PyProof.Rows
structure Room (k:Nat) (A:Around):Prop where
 hd:A.handled=none
 dp:A.depth+3 * k+5<recursionLimit
 un:A.units+16 * k+200<cLine
theorem Room.mono {j k:Nat} {A:Around} (r:Room k A) (h:j<=k):Room j A:=⟨r.hd,by have:=r.dp;omega,by have:=r.un;omega⟩
theorem Room.deeper {k:Nat} {A:Around} (r:Room (k+1) A) (env:Env):Room k (A.deeper env):=
 ⟨r.hd,by have:=r.dp;show A.depth+1+3 * k+5<_;omega,by have:=r.un;show A.units+3+16 * k+200<_;omega⟩
theorem Room.depth {k:Nat} {A:Around} (r:Room k A):A.depth<recursionLimit:=by have:=r.dp;omega
theorem Room.units {k:Nat} {A:Around} (r:Room k A):A.units+64<cLine:=by have:=r.un;omega
def Zjm:TA:=λ_ H Q=>Q [] H
def ZfM (ta:TE) (tr:TA):TA:=λσ H Q=>ta σ H λx H1=>tr σ H1 λxs H2=>Q (x::xs) H2
section
variable {X:Cx} {e:Expr} {es:List Expr} {te:TE} {t:TA} {pos:Pos}
theorem Zac:PA X [] Zjm:=λ_ _ _ _ H Q I h=>Calls.spliced_nil ⟨[],H,I,.nil,h⟩
theorem Zaa (ha:PE X e te) (hr:PA X es t) (hs:starEach (e::es) X.env=(false,eval e X.env)::starEach es X.env:=by rfl):PA X (e::es) (ZfM te t):=by
 intro pos pins s σ H Q I h
 rw [hs]
 show wpAny _ _ (spliced ((false,eval e X.env)::backTo pos (starEach es X.env))) _ _ s
 refine Calls.spliced_cons (thn (ha pins s σ H _ I h) λu s1 ⟨x,H1,I1,r1,q1⟩=>?_)
 exact thn (hr pos pins s1 σ H1 _ I1 q1) λus s2 ⟨xs,H2,I2,r2,q2⟩=>⟨x::xs,H2,I2,.cons r1 r2,q2⟩
def Zmo (t:TA):TE:=λσ H Q=>t σ H λxs H1=>xs.length<=sizeLine/\∀ p,H1 p=none->Q (.ref p) (upd H1 p (.tup xs))
def Zi7 (t:TA):TE:=λσ H Q=>t σ H λxs H1=>xs.length<=sizeLine/\∀ p,H1 p=none->Q (.ref p) (upd H1 p (.lst xs))
theorem Zbr {x1} (h:PA X es t):PE X (.Tuple es x1 pos) (Zmo t):=by
 intro pins s σ H Q I hq
 refine wpAny_Tuple_spliced (thn (h pos pins s σ H _ I hq) λus s1 ⟨xs,H1,I1,r,z,q⟩=>⟨by rw [<-r.length];exact z,?_⟩)
 have hf:H1 s1.heap.objs.size=none:=I1.hok.fresh (Nat.le_refl _)
 refine ⟨.ref s1.heap.objs.size,upd H1 s1.heap.objs.size (.tup xs),I1.laid (t':=s1.toks) (λb u e=>Heap.get?_push_of_some _ e) (Nat.le_refl _) ?_,rfl,q _ hf⟩
 exact ⟨z,us,r,⟨_,Heap.get?_push_size _ rfl,rfl,_,rfl⟩⟩
theorem Zar (h:PA X es t):PE X (.List es pos) (Zi7 t):=by
 intro pins s σ H Q I hq
 refine wpAny_List_spliced (thn (h pos pins s σ H _ I hq) λus s1 ⟨xs,H1,I1,r,z,q⟩=>⟨by rw [<-r.length];exact z,?_⟩)
 have hf:H1 s1.heap.objs.size=none:=I1.hok.fresh (Nat.le_refl _)
 refine ⟨.ref s1.heap.objs.size,upd H1 s1.heap.objs.size (.lst xs),I1.laid (t':=s1.toks) (λb u e=>Heap.get?_push_of_some _ e) (Nat.le_refl _) ?_,rfl,q _ hf⟩
 exact ⟨z,us,0,r,Heap.get?_push_size _ rfl⟩
end
abbrev Sp:=List V->Hp->VK->XK->Prop
abbrev CXT:=List Env->Hp->Shared->XK->Value->Shared->Prop
structure Zkt (P:Program) (w:World) (K:PySem.W.Frag) (mg:Str->Option Value) (base:Heap) (A:Around) (outer:List Env) (s:Shared) (H:Hp):Prop where
 frames:A.frames=some outer
 mod:Mod K mg base
 bs:∀ b o,base.get? b=some o->s.heap.get? b=some o/\H b=none
 bsz:base.objs.size<=s.heap.objs.size
 funs:s.heap.FunFrames base outer
 frf:∀ b∈frs outer,H b=none
 hok:HOk P w H s.heap
 bare:AllBare s.gens
def CE (outer:List Env) (P:Program) (w:World) (H:Hp) (s:Shared) (Q:VK) (u:Value) (s':Shared):Prop:=
 ∃ v H',s'.os=s.os/\AllBare s'.gens/\Un (frs outer) [] H H' s.heap s'.heap/\HOk P w H' s'.heap/\RelV v u/\Q v H'
def CR (CX:CXT) (outer:List Env) (P:Program) (w:World) (H:Hp) (s:Shared) (Q:VK) (E:XK) (r:Result) (s':Shared):Prop:=
 match r with
 | .ok (.ret u)=>CE outer P w H s Q u s'
 | .ok _=>False
 | .error e=>CX outer H s E e s'
structure ZaX (P:Program) (w:World) (K:PySem.W.Frag) (mg:Str->Option Value) (base:Heap) (CX:CXT) (k:Nat) (f:Addr) (fd:FuncData) (ps:List Str) (sp:Sp):Prop where
 len:∀ vs H Q E,sp vs H Q E->vs.length=ps.length
 run:∀ (A:Around) (outer:List Env) (s:Shared) (H:Hp) (args:Args) (us:List Value) (vs:List V) (Q:VK) (E:XK),Room k A->Zkt P w K mg base A outer s H->BindsTo s fd args (ps.zip us)->Vals vs us->sp vs H Q E ->
  codeAny (model P w) A (.call (.ref f) args) (CR CX outer P w H s Q E) s
section
variable {X:Cx} {pins:List (Addr×Obj)} {σ:St} {H:Hp} {s s':Shared}
theorem Inv.env0 (I:Inv X pins σ H s):Zkt X.prog X.w X.K X.mg X.base X.A X.stack s H:=
 ⟨I.ok.frames,I.ok.mod,I.bs,Nat.le_trans I.ok.bsz I.sz,I.stack,I.stkFree,I.hok,I.bare⟩
theorem Inv.after {Q:VK} {u:Value} (I:Inv X pins σ H s) (h:CE X.stack X.prog X.w H s Q u s'):EP X pins σ Q u s':=by
 obtain ⟨v,H',os,bare,un,hok,r,q⟩:=h
 obtain ⟨hh,g,d,t,os'⟩:=s'
 obtain rfl:os'=s.os:=os
 exact ⟨v,H',I.call (h':=hh) (g':=g) (d':=d) (t':=t) (ch:=[]) un hok bare (λb z=>absurd z (by simp)),r,q⟩
end
def ZkO (sp:Sp) (dvs:List V) (E:XK) (t:TA):TE:=λσ H Q=>t σ H λvs H1=>sp (vs++dvs) H1 Q E
def Zmp (C:Addr) (m:Str) (sp:Sp) (dvs:List V) (E:XK) (ta:TE) (t:TA):TE:=λσ H Q=>ta σ H λx H1=>∃ a dx fs,x=.ref a/\H1 a=some (.ins C dx fs)/\fs.lookup m=none /\
 t σ H1 λvs H2=>sp (x::(vs++dvs)) H2 Q E
def Zmq (C:Addr) (sp:Sp) (dvs:List V) (E:XK) (t:TA):TE:=λσ H Q=>t σ H λvs H1=>∀ x dx,H1 x=none->H1 dx=none->dx≠x ->
 sp (.ref x::(vs++dvs)) (upd (upd H1 dx (.own x)) x (.ins C dx [])) (λv H2=>v=.non/\Q (.ref x) H2) E
def Binds (K:PySem.W.Frag) (fd:FuncData) (ps:List Str) (ds:List Value):Prop:=
 ∀ (s:Shared) (us:List Value),K.In s.heap->(us++ds).length=ps.length->BindsTo s fd ⟨us,[]⟩ (ps.zip (us++ds))
theorem Binds.all {K:PySem.W.Frag} {fd:FuncData} {ps:List Str} (h:∀ us:List Value,us.length=ps.length->bindArgs fd ⟨us,[]⟩=pure (ps.zip us)):Binds K fd ps []:=λs us _ hl=>by
 rw [List.append_nil] at hl ⊢
 exact .of_eq (h us hl)
def ZfN (CX:CXT) (X:Cx) (E:XK):Prop:=∀ (pins:List (Addr×Obj)) (σ:St) (H:Hp) (s:Shared) (e:Value) (s':Shared),Inv X pins σ H s->CX X.stack H s E e s'->X.xe e s'
section
variable {X:Cx} {CX:CXT} {k:Nat} {f C:Addr} {fd:FuncData} {ps:List Str} {sp:Sp} {dvs:List V} {ds:List Value} {E:XK} {x m:Str} {p pos apos:Pos} {e o:Expr} {es:List Expr} {ta:TE} {t:TA}
theorem Zjn {pins:List (Addr×Obj)} {σ:St} {H:Hp} {s:Shared} {Q:VK} {us:List Value} {vs:List V} (F:ZaX X.prog X.w X.K X.mg X.base CX k f fd ps sp) (hr:Room k X.A) (hb:Binds X.K fd ps ds) (hd:Vals dvs ds) (hx:ZfN CX X E)
  (I:Inv X pins σ H s) (r:Vals vs us) (h:sp (vs++dvs) H Q E):wpAny (model X.prog X.w) X.A (call (.ref f) us) (EP X pins σ Q) X.xe s:=by
 have r2:Vals (vs++dvs) (us++ds):=r.append hd
 have hl:(us++ds).length=ps.length:=by rw [<-r2.length];exact F.len _ _ _ _ h
 refine wpAny_call (codeAny_mono (F.run X.A X.stack s H ⟨us,[]⟩ (us++ds) (vs++dvs) Q E hr I.env0 (hb s us I.kIn hl) r2 h) λr s' hq=>?_)
 cases r with
 | error e=>exact hx pins σ H s e s' I hq
 | ok fl=>
  cases fl with
  | ret u=>exact I.after hq
  | next=>exact False.elim hq
  | brk=>exact False.elim hq
  | cont=>exact False.elim hq
theorem Zai (F:ZaX X.prog X.w X.K X.mg X.base CX k f fd ps sp) (hr:Room k X.A) (hg:Gl X x) (hm:X.mg x=some (.ref f)) (hk:PySem.W.keepIn X.K (.ref f)=true) (hb:Binds X.K fd ps ds) (hd:Vals dvs ds) (hx:ZfN CX X E)
  (ha:PA X (e::es) t) (hdb:(x == ("__debug__" : Str))=false:=by decide) (he:starEach (e::es) X.env=(false,eval e X.env)::starEach es X.env:=by rfl) (hpl:(backTo pos (starEach es X.env)).any (·.1)=false:=by rfl) :
  PE X (.Call (.Name x p) (e::es) [] pos) (ZkO sp dvs E t):=by
 intro pins s σ H Q I h
 refine wpAny_Call_Name_kw (Zcu I hg hm ?_ hdb)
 refine PySem.W.callWith_K (h₀:=X.base) I.ok.mod.kin hk (thn (ha pos pins s σ H _ I h) λus s1 ⟨vs,H1,I1,r,q⟩=>⟨I1.kIn,?_⟩) he hpl
 exact Zjn F hr hb hd hx I1 r q
structure Mk (K:PySem.W.Frag) (C f:Addr):Prop where
 makes:PySem.W.makesIn K C=true
 init:PySem.W.findIn K (.ref C) "__init__" = some (some (.ref f))
 fn:PySem.W.isFn K (.ref f)=true
 kp:PySem.W.keepIn K (.ref C)=true
end
def PK (X:Cx) (kws:List Keyword) (t:TA):Prop:=
 ∀ (pos:Pos) (pins:List (Addr×Obj)) (s:Shared) (σ:St) (H:Hp) (Q:List V->Hp->Prop),Inv X pins σ H s->t σ H Q->wpAny (model X.prog X.w) X.A (evalAll ((backToKw pos (keywordEach kws X.env)).map (·.2))) (AP X pins σ Q) X.xe s
section
variable {X:Cx} {CX:CXT} {k:Nat} {f C:Addr} {fd:FuncData} {ps ks:List Str} {sp:Sp} {E:XK} {x m:Str} {p pos apos kpos:Pos} {e o:Expr} {es:List Expr} {kws:List Keyword} {te ta:TE} {t tk:TA} {nm:Option Str}
theorem Zjo:PK X [] Zjm:=λ_ _ _ _ H Q I h=>wpAny_evalAll_nil ⟨[],H,I,.nil,h⟩
theorem ZfO (ha:PE X e te) (hr:PK X kws t):PK X (⟨nm,e,kpos⟩::kws) (ZfM te t):=by
 intro pos pins s σ H Q I h
 show wpAny _ _ (evalAll ((do let v <- eval e X.env;standAt pos;pure v)::(backToKw pos (keywordEach kws X.env)).map (·.2))) _ _ s
 refine wpAny_evalAll_cons (wpAny_bind (thn (ha pins s σ H _ I h) λu s1 ⟨x,H1,I1,r1,q1⟩=>wpAny_bind (wpAny_standAt (wpAny_pure ?_))))
 exact thn (hr pos pins s1 σ H1 _ I1 q1) λus s2 ⟨xs,H2,I2,r2,q2⟩=>⟨x::xs,H2,I2,.cons r1 r2,q2⟩
structure ZlB (K:PySem.W.Frag) (fd:FuncData) (ps ks:List Str) (g:List Value->List Value->List Value) (gV:List V->List V->List V):Prop where
 to:∀ (s:Shared) (us ws:List Value),K.In s.heap->(g us ws).length=ps.length->BindsTo s fd ⟨us,ks.zip ws⟩ (ps.zip (g us ws))
 rel:∀ {vs:List V} {us:List Value} {zs:List V} {ws:List Value},Vals vs us->Vals zs ws->Vals (gV vs zs) (g us ws)
def ZlC (sp:Sp) (gV:List V->List V->List V) (E:XK) (t tk:TA):TE:=λσ H Q=>t σ H λvs H1=>tk σ H1 λzs H2=>sp (gV vs zs) H2 Q E
variable {g:List Value->List Value->List Value} {gV:List V->List V->List V}
end
structure ZaA (N P:List Str) (sc:Scope):Prop where
 kind:sc.kind=.function
 co:sc.isCoroutine=false
 gen:sc.isGenerator=false
 nd:N.Nodup
 pre:N.take P.length=P
 par:∀ x∈P,sc.names.lookup x=some .local\/sc.names.lookup x=some .cell
 nofree:∀ y∈sc.names,y.2≠.free
theorem ZdG {kindOf:Str->Option NameKind} {x:Str}:∀ {binds:List (Str×Value)} {m:Str->Option Value},(∀ v,(x,v) ∉ binds)->bindL kindOf binds m x=m x
 | [],_,_=>rfl
 | (n,v)::r,m,h=>by
  unfold bindL
  rw [ZdG λw hw=>h w (List.mem_cons_of_mem _ hw)]
  split
  ·have:x≠n:=by rintro rfl;exact h v List.mem_cons_self
   simp [this]
  ·rfl
theorem ZdH {kindOf:Str->Option NameKind} {x:Str}:∀ {binds:List (Str×Value)} {m:Str->Option Value},(∀ v,(x,v) ∉ binds)->bindC kindOf binds m x=m x
 | [],_,_=>rfl
 | (n,v)::r,m,h=>by
  unfold bindC
  rw [ZdH λw hw=>h w (List.mem_cons_of_mem _ hw)]
  split
  ·rfl
  ·have:x≠n:=by rintro rfl;exact h v List.mem_cons_self
   simp [this]
theorem ZdI {kindOf:Str->Option NameKind} {x:Str} {v:Value}:∀ {P:List Str} {vs:List Value} {i:Nat} {m:Str->Option Value},P.Nodup->P[i]?=some x->vs[i]?=some v->kindOf x=some .local ->
  bindL kindOf (P.zip vs) m x=some v
 | [],_,_,_,_,h,_,_=>by simp at h
 | _::_,[],_,_,_,_,h,_=>by simp at h
 | p::P,w::vs,0,m,nd,h1,h2,hk=>by
  simp at h1 h2;subst h1;subst h2
  show bindL kindOf ((p,w)::P.zip vs) m p=_
  unfold bindL
  rw [ZdG λv hv=>(List.nodup_cons.mp nd).1 (List.of_mem_zip hv).1,if_pos hk]
  simp
 | p::P,w::vs,i+1,m,nd,h1,h2,hk=>by
  show bindL kindOf ((p,w)::P.zip vs) m x=_
  unfold bindL
  exact ZdI (i:=i) (List.nodup_cons.mp nd).2 (by simpa using h1) (by simpa using h2) hk
theorem ZdJ {kindOf:Str->Option NameKind} {x:Str} {v:Value}:∀ {P:List Str} {vs:List Value} {i:Nat} {m:Str->Option Value},P.Nodup->P[i]?=some x->vs[i]?=some v->kindOf x≠some .local ->
  bindC kindOf (P.zip vs) m x=some v
 | [],_,_,_,_,h,_,_=>by simp at h
 | _::_,[],_,_,_,_,h,_=>by simp at h
 | p::P,w::vs,0,m,nd,h1,h2,hk=>by
  simp at h1 h2;subst h1;subst h2
  show bindC kindOf ((p,w)::P.zip vs) m p=_
  unfold bindC
  rw [ZdH λv hv=>(List.nodup_cons.mp nd).1 (List.of_mem_zip hv).1,if_neg hk]
  simp
 | p::P,w::vs,i+1,m,nd,h1,h2,hk=>by
  show bindC kindOf ((p,w)::P.zip vs) m x=_
  unfold bindC
  exact ZdJ (i:=i) (List.nodup_cons.mp nd).2 (by simpa using h1) (by simpa using h2) hk
def start (N:List Str) (vs:List V):St:=vs.map some++List.replicate (N.length-vs.length) none
def ZgT (CX:CXT) (P:Program) (w:World) (K:PySem.W.Frag) (mg:Str->Option Value) (base:Heap) (N:List Str) (qual:Str) (scope:Scope) (f:Addr) (cd:Value) (A:Around) (outer:List Env) (s:Shared) (H:Hp) (E:XK):Cx where
 prog:=P
 w:=w
 K:=K
 mg:=mg
 base:=base
 A:=A.deeper (envOfC qual scope s.heap.objs.size f cd)
 N:=N
 s₀:=s
 H₀:=H
 env:=envOfC qual scope s.heap.objs.size f cd
 outer:=outer
 stack:=envOfC qual scope s.heap.objs.size f cd::outer
 ex:=[]
 calm:=true
 fn:=λ_=>true
 pn:=[]
 xe:=λe s'=>wpAny (model P w) (A.deeper (envOfC qual scope s.heap.objs.size f cd)) (leaving (envOfC qual scope s.heap.objs.size f cd) e) (λ_ s''=>CX outer H s E e s'') (λe' s''=>CX outer H s E e' s'') s'
theorem ZeC {sc:Scope} {n:Nat} {x:Str} (h:sc.names.lookup x=some .cell):∃ c,(cellsFrom n sc.names []).lookup x=some c:=by
 have q:=PySem.W.cellsFrom_some sc.names n [] (.inl h)
 exact Option.isSome_iff_exists.mp q
theorem ZfP {CX:CXT} {P:Program} {w:World} {K:PySem.W.Frag} {mg:Str->Option Value} {base:Heap} {N ps:List Str} {qual:Str} {scope:Scope} {f:Addr} {cd:Value} {A:Around} {outer:List Env} {s s1:Shared} {H:Hp} {E:XK} {us:List Value} {vs:List V}
  (S:ZaA N ps scope) (hd:A.handled=none) (e0:Zkt P w K mg base A outer s H) (hl:vs.length=ps.length) (r:Vals vs us)
  (x:InCallC s s.heap.objs.size (bindL (envOfC qual scope s.heap.objs.size f cd).kindOf (ps.zip us) λ_=>none) (cellsFrom (s.heap.objs.size+1) scope.names []) (bindC (envOfC qual scope s.heap.objs.size f cd).kindOf (ps.zip us) λ_=>none) s1) :
  Inv (ZgT CX P w K mg base N qual scope f cd A outer s H E) [] (start N vs) H s1:=by
 have hpl:ps.length<=N.length:=by have:=congrArg List.length S.pre;rw [List.length_take] at this;omega
 obtain ⟨h1,tk,rfl,hk⟩:=x.done
 have noA:∀ b:Addr,b ∉ (ZgT CX P w K mg base N qual scope f cd A outer s H E).ex:=λb z=>absurd (show b∈([]:List Addr) from z) (by simp)
 refine ⟨⟨e0.mod,S.kind,rfl,rfl,Nat.le_refl _,λy z c h1 h2=>?_,λy hy=>?_,λy c _ h=>?_,λ_=>hd,Around.frames_deeper e0.frames,.inr ⟨rfl,rfl⟩,λb z=>absurd z (noA b),e0.bs,e0.bsz,λb _ _=>noA b,λb z=>absurd z (noA b),e0.funs,e0.frf⟩,
  rfl,e0.bare,Un.kept hk,⟨_,x.toInCall.ns,λi y v h1 h2 h3=>?_⟩,λy c h=>⟨_,x.cell y c h⟩,e0.hok.fresh (Nat.le_refl _),λy c h=>?_,λp hp=>absurd (show p∈([]:List (Addr×Obj)) from hp) (by simp),e0.hok.kept hk,?_⟩
 ·exact name_of_addr x.apart (PySem.mem_of_lookup h1) (PySem.mem_of_lookup h2)
 ·have hy:scope.names.lookup y=some .cell\/scope.names.lookup y=some .free:=hy
  rcases hy with hy | hy
  ·exact ZeC hy
  ·exact absurd rfl (S.nofree _ (PySem.mem_of_lookup hy))
 ·exact Nat.le_of_lt (x.above y c (PySem.mem_of_lookup h))
 ·have hi:i<vs.length:=by
   unfold start at h2
   by_cases hi:i<vs.length
   ·exact hi
   ·rw [List.getElem?_append_right (by simpa using hi)] at h2
    rw [List.getElem?_replicate] at h2
    split at h2 <;> cases h2
  have ha:vs[i]?=some v:=by
   unfold start at h2
   rw [List.getElem?_append_left (by simpa using hi),List.getElem?_map] at h2
   cases e:vs[i]? with
   | none=>rw [e] at h2;cases h2
   | some a=>rw [e] at h2;cases h2;rfl
  obtain ⟨u,hu,rv⟩:=r.get ha
  have hp:ps[i]?=some y:=by
   rw [<-S.pre,List.getElem?_take_of_lt (by omega)];exact h1
  have ndP:ps.Nodup:=by rw [<-S.pre];exact S.nd.sublist (List.take_sublist _ _)
  refine ⟨u,rv,?_⟩
  rcases S.par y (List.mem_of_getElem? hp) with k | k
  ·exact .inl ⟨k,ZdI ndP hp hu k⟩
  ·obtain ⟨c,e⟩:=ZeC (n:=s.heap.objs.size+1) k
   refine .inr ⟨.inl k,c,e,?_⟩
   have q:=x.cell y c e
   rw [ZdJ ndP hp hu (by show scope.names.lookup y≠_;rw [k];decide)] at q
   exact q
 ·exact e0.hok.fresh (Nat.le_of_lt (x.above y c (PySem.mem_of_lookup h)))
 ·unfold start
  show _=N.length
  rw [List.length_append,List.length_map,List.length_replicate]
  omega
theorem Zh7 {CX:CXT} {P:Program} {w:World} {K:PySem.W.Frag} {mg:Str->Option Value} {base:Heap} {k:Nat} {f:Addr} {name qual:Str} {params:Arguments} {body:List Stmt} {scope:Scope} {dV kV doc pm cdv ct oc:Value} {an od:Option Addr}
  {osl:Array (Option Value)} {N ps:List Str} {sp:Sp} (lk:K.lookup f=some ⟨oc,od,.func (PySem.W.fnOf name qual params body scope dV kV doc pm an cdv ct),osl⟩) (hcd:PySem.W.codeIn K cdv qual=true) (S:ZaA N ps scope)
  (len:∀ vs H Q E,sp vs H Q E->vs.length=ps.length)
  (hbody:∀ (A:Around) (outer:List Env) (s:Shared) (H:Hp) (vs:List V) (Q:VK) (E:XK),Room k (A.deeper (envOfC qual scope s.heap.objs.size f cdv))->sp vs H Q E ->
   ∃ t,PSs (ZgT CX P w K mg base N qual scope f cdv A outer s H E) body t/\t { nx:=λ_ H'=>Q .non H',rt:=Q } (start N vs) H) :
  ZaX P w K mg base CX (k+1) f (PySem.W.fnOf name qual params body scope dV kV doc pm an cdv ct) ps sp:=by
 refine ⟨len,λA outer s H args us vs Q E hr e0 hb r hsp=>?_⟩
 have hl:=len _ _ _ _ hsp
 have KX:K.In s.heap:=e0.mod.kin.keeps λb o e=>(e0.bs b o e).1
 have lim:s.heap.NoLimit:=e0.mod.nolimit.keeps λb o e=>(e0.bs b o e).1
 have hkind:∀ y∈ps.zip us,scope.names.lookup y.1=some .local\/(scope.names.lookup y.1=some .cell/\((cellsFrom (s.heap.objs.size+1) scope.names []).lookup y.1).isSome=true):=λ⟨n,v⟩ hy=>by
  rcases S.par n (List.of_mem_zip hy).1 with q | q
  ·exact .inl q
  ·exact .inr ⟨q,PySem.W.cellsFrom_some _ _ _ (.inl q)⟩
 refine codeAny_call_function hr.depth (KX _ _ lk) rfl S.co S.gen rfl (PySem.W.codeRec_of KX hcd) (hb _ _ _ _ ?_)
 refine wpAny_newFunctionEnv_cells S.kind hkind λenv he s1 x=>?_
 subst he
 refine ⟨lim.keeps x.toInCall.keep,codeAny_func ?_⟩
 obtain ⟨t,ht,hq⟩:=hbody A outer s H vs Q E (hr.deeper _) hsp
 have I:Inv (ZgT CX P w K mg base N qual scope f cdv A outer s H E) [] (start N vs) H s1:=ZfP S hr.hd e0 hl r x
 refine wpAny_mono (ht [] s1 (start N vs) H _ I hq) (λfl s' hs=>?_) λe s' hs=>hs
 have fin:∀ {σ':St} {H':Hp} {v:V} {u:Value},Inv (ZgT CX P w K mg base N qual scope f cdv A outer s H E) [] σ' H' s'->RelV v u->Q v H'->CE outer P w H s Q u s':=
  λ{σ' H' v u} J rv q=>⟨v,H',J.os,J.bare,J.base,J.hok,rv,q⟩
 cases fl with
 | ret u=>
  obtain ⟨v,σ',H',J,rv,q⟩:=hs
  exact fin J rv q
 | next=>
  obtain ⟨σ',H',J,q⟩:=hs
  exact fin (v:=V.non) (u:=Value.none) J rfl q
 | brk=>
  obtain ⟨_,_,_,q⟩:=hs
  exact False.elim q
 | cont=>
  obtain ⟨_,_,_,q⟩:=hs
  exact False.elim q
end L2
namespace L2
open PySem PySem.Spec PyProof.Rows
section
variable {X:Cx} {x:Str} {p pos:Pos} {e:Expr} {es:List Expr} {t:TA} {id T:String} {r:List V->Hp->VK->Prop}
def tCB (r:List V->Hp->VK->Prop) (t:TA):TE:=λσ H Q=>t σ H λvs H1=>r vs H1 Q
theorem Zaq (hc:Zbp X (.builtin id) r) (hg:Gl X x) (hm:X.mg x=none) (hv:bootBuiltins x=some (.builtin id)) (ha:PA X (e::es) t) (hn:x ≠ "__name__" := by decide) (hdb:(x == ("__debug__" : Str))=false:=by decide)
  (he:starEach (e::es) X.env=(false,eval e X.env)::starEach es X.env:=by rfl) (hpl:(backTo pos (starEach es X.env)).any (·.1)=false:=by rfl):PE X (.Call (.Name x p) (e::es) [] pos) (tCB r t):=by
 intro pins s σ H Q I h
 refine wpAny_Call_Name_kw (Zcv I hg hm hv ?_ hn hdb)
 exact PyProof.Rows.callWith_builtin1 (thn (ha pos pins s σ H _ I h) λus s1 ⟨vs,H1,I1,r1,q1⟩=>hc pins s1 σ H1 vs us Q I1 r1 q1) he hpl
theorem ZaS (hc:Zbp X (.type T) r) (hg:Gl X x) (hm:X.mg x=none) (hv:bootBuiltins x=some (.type T)) (ha:PA X (e::es) t) (hn:x ≠ "__name__" := by decide) (hdb:(x == ("__debug__" : Str))=false:=by decide)
  (he:starEach (e::es) X.env=(false,eval e X.env)::starEach es X.env:=by rfl) (hpl:(backTo pos (starEach es X.env)).any (·.1)=false:=by rfl):PE X (.Call (.Name x p) (e::es) [] pos) (tCB r t):=by
 intro pins s σ H Q I h
 refine wpAny_Call_Name_kw (Zcv I hg hm hv ?_ hn hdb)
 exact PyProof.Rows.callWith_type1 (thn (ha pos pins s σ H _ I h) λus s1 ⟨vs,H1,I1,r1,q1⟩=>hc pins s1 σ H1 vs us Q I1 r1 q1) he hpl
end
end L2
namespace HT
open PySem PyProof.Rows
def lexLt:List Int->List Int->Bool
 | [],[]=>false
 | [],_::_=>true
 | _::_,[]=>false
 | x::xs,y::ys=>if x=y then lexLt xs ys else decide (x<y)
section
open PySem.SeqAt
open PySem.AutoSeq1 (wpAny_loadPart')
open PySem.MeetsSeq PySem.MeetsSeq2 PySem.MeetsSeq3
end
section
variable {prog:Program} {w:World} {A:Around} {E:Value->Shared->Prop} {s:Shared}
def sIx (n d:Nat):Option Int->Nat
 | none=>d
 | some v=>if v<0 then (v+(n:Int)).toNat else min v.toNat n
theorem sIx_none (n d:Nat):sIx n d none=d:=rfl
theorem sIx_nat (n d k:Nat):sIx n d (some (k:Int))=min k n:=by
 show (if (k:Int)<0 then ((k:Int)+(n:Int)).toNat else min (k:Int).toNat n)=min k n
 rw [if_neg (by omega),Int.toNat_natCast]
theorem Zjp (n d:Nat) (hd:d<=n) (o:Option Int):sIx n d o<=n:=by
 cases o with
 | none=>exact hd
 | some v=>
  show (if v<0 then (v+(n:Int)).toNat else min v.toNat n)<=n
  by_cases hv:v<0
  ·rw [if_pos hv];omega
  ·rw [if_neg hv];exact Nat.min_le_right _ _
theorem ZfQ (v:Int) (n d:Nat):(if v<0 then max (v+(n:Int)) 0 else min v (n:Int))=((sIx n d (some v):Nat):Int):=by
 show (if v<0 then max (v+(n:Int)) 0 else min v (n:Int))=(((if v<0 then (v+(n:Int)).toNat else min v.toNat n):Nat):Int)
 by_cases hv:v<0
 ·simp only [if_pos hv];omega
 ·simp only [if_neg hv];omega
theorem Ze9 (lo hi:Option Int) (n:Nat):Builtin.Slice.sliceAdjust lo hi 1 (n:Int)=(((sIx n 0 lo:Nat):Int),((sIx n n hi:Nat):Int)):=by
 have h1:¬ ((1:Int)<0):=by omega
 unfold Builtin.Slice.sliceAdjust
 simp only [h1,if_false]
 refine Prod.ext ?_ ?_
 ·cases lo with
  | none=>rfl
  | some v=>exact ZfQ v n 0
 ·cases hi with
  | none=>rfl
  | some v=>exact ZfQ v n n
theorem Zfa (i j:Nat):Builtin.Slice.slicePlaces (i:Int) (j:Int) 1=j-i:=by
 unfold Builtin.Slice.slicePlaces
 have h1:(1:Int) > 0:=by omega
 simp only [h1,if_true,Int.ediv_one]
 split <;> omega
theorem ZcQ {v:Value} {o:Option Int} {Q:Option Int->Shared->Prop} (p:IsPart v o) (h:Q o s):wpAny (model prog w) A (Builtin.Slice.slicePartIndex v) Q E s:=by
 cases p with
 | none=>exact slicePart_none h
 | int i t=>exact slicePart_int h
theorem Zcj {sl:Addr} {vl vu:Value} {lo hi:Option Int} {n:Nat} {Q:Int×Int×Nat->Shared->Prop} (hs:s.heap.IsSliceOf sl vl vu .none) (pl:IsPart vl lo) (pu:IsPart vu hi)
  (h:Q (((sIx n 0 lo:Nat):Int),1,sIx n n hi-sIx n 0 lo) s):wpAny (model prog w) A (Builtin.Slice.sliceApplied (.ref sl) (pure (n:Int))) Q E s:=by
 obtain ⟨os,hos,hcs,hds⟩:=id hs
 unfold Builtin.Slice.sliceApplied Builtin.Slice.sliceFields
 refine wpAny_bind (wpAny_bind (wpAny_field hos hds (x:=vl) rfl (wpAny_bind (wpAny_field hos hds (x:=vu) rfl (wpAny_bind (wpAny_field hos hds (x:=.none) rfl (wpAny_pure ?_)))))))
 refine wpAny_bind (slicePart_none ?_)
 show wpAny _ _ (if ((1:Int) == 0)=true then _ else _) _ _ s
 rw [if_neg (by decide)]
 refine wpAny_bind (ZcQ pl (wpAny_bind (ZcQ pu (wpAny_bind (wpAny_pure ?_)))))
 show wpAny _ _ (match Builtin.Slice.sliceAdjust lo hi 1 (n:Int) with | (lo,hi)=>pure (lo,(1:Int),Builtin.Slice.slicePlaces lo hi 1)) _ _ s
 rw [Ze9 lo hi n]
 show wpAny _ _ (pure (((sIx n 0 lo:Nat):Int),(1:Int),Builtin.Slice.slicePlaces ((sIx n 0 lo:Nat):Int) ((sIx n n hi:Nat):Int) 1)) _ _ s
 rw [Zfa]
 exact wpAny_pure h
theorem ZgU (xs:Array Value) (i k:Nat):((List.range k).filterMap λ(m:Nat)=>xs[((i:Int)+(m:Int) * 1).toNat]?).toArray=((xs.toList.drop i).take k).toArray:=by
 have e:(λ(m:Nat)=>xs[((i:Int)+(m:Int) * 1).toNat]?)=λm=>xs[i+m]?:=by
  funext m
  have:((i:Int)+(m:Int) * 1).toNat=i+m:=by omega
  rw [this]
 rw [e]
 have:=pick_run xs i k
 rw [List.filterMap_map] at this
 have e2:((λx=>xs[x]?)∘λx=>i+x)=λm=>xs[i+m]?:=rfl
 rw [e2] at this
 rw [this]
theorem getItem_tuple_cut {t sl:Addr} {items:Array Value} {vl vu:Value} {lo hi:Option Int} {Q:Value->Shared->Prop} (ht:IsTup s.heap t items) (hs:s.heap.IsSliceOf sl vl vu .none) (pl:IsPart vl lo) (pu:IsPart vu hi)
  (hw:¬ (sIx items.size 0 lo=0/\sIx items.size items.size hi=items.size))
  (h:Q (.ref s.heap.objs.size) { s with heap:=s.heap.push { cls:=.type "tuple", data:=.seq ((items.toList.drop (sIx items.size 0 lo)).take (sIx items.size items.size hi-sIx items.size 0 lo)).toArray } })
  (hsz:items.size<=sizeLine):wpAny (model prog w) A (getItem (.ref t) (.ref sl)) Q E s:=by
 have htake:sizeOk (.seq ((items.toList.drop (sIx items.size 0 lo)).take (sIx items.size items.size hi-sIx items.size 0 lo)).toArray):=by
  show ((items.toList.drop (sIx items.size 0 lo)).take (sIx items.size items.size hi-sIx items.size 0 lo)).toArray.size<=sizeLine
  rw [List.size_toArray,List.length_take,List.length_drop,Array.length_toList]
  omega
 have hj:sIx items.size items.size hi<=items.size:=Zjp _ _ (Nat.le_refl _) hi
 obtain ⟨os,hos,hcs,hds⟩:=id hs
 have hTs:s.TypeIs (.ref sl) "slice" := ⟨os,hos,hcs⟩
 unfold getItem
 try with_reducible refine wpAny_holding ?_
 first | refine wpAny_bind (wpAny_pure ?_) | skip
 refine wpAny_bind (wpAny_sequenceKey ht.typeIs (by decide) ?_)
 refine wpAny_bind (wpAny_callSpecial?_slot (name:=Str.ofString "__getitem__") ht.typeIs PyProof.Rows.slot_tuple_getitem
  (wpAny_call_entry PyProof.Rows.slot_tuple_getitem ht.typeIs entry_tuple_getitem ?_ (args_tuple_getitem _ _)))
 show wpAny _ _ (Builtin.Tuple.tupleItemsOf (.ref t) >>= _) _ _ s
 refine wpAny_bind (tupleItemsOf_ ht ?_)
 refine wpAny_bind (wpAny_typeOf hTs ?_)
 rw [if_pos (by decide)]
 refine wpAny_bind (Zcj hs pl pu ?_)
 have hno:¬ ((((sIx items.size 0 lo:Nat):Int) == 0 && (1:Int) == 1 && (sIx items.size items.size hi-sIx items.size 0 lo) == items.size)=true):=by
  intro q
  rw [Bool.and_eq_true,Bool.and_eq_true] at q
  have q1:((sIx items.size 0 lo:Nat):Int)=0:=eq_of_beq q.1.1
  have q2:sIx items.size items.size hi-sIx items.size 0 lo=items.size:=eq_of_beq q.2
  exact hw ⟨by omega,by omega⟩
 show wpAny _ _ (if (((sIx items.size 0 lo:Nat):Int) == 0 && (1:Int) == 1 && (sIx items.size items.size hi-sIx items.size 0 lo) == items.size)=true then _ else _) _ _ s
 rw [if_neg hno,ZgU]
 first
  | exact wpAny_bind (m:=Builtin.Tuple.tupleExact _) (wpAny_newObj_type (wpAny_pure ⟨_,rfl,wpAny_pure h⟩) htake)
  | exact wpAny_bind (m:=Builtin.Tuple.tupleExact _) (wpAny_newObj_type (wpAny_bind (wpAny_pure (wpAny_pure ⟨_,rfl,wpAny_pure h⟩))) htake)
  | exact wpAny_bind (wpAny_bind (m:=Builtin.Tuple.tupleExact _) (wpAny_newObj_type (wpAny_pure (wpAny_pure ⟨_,rfl,wpAny_pure h⟩)) htake))
  | exact wpAny_bind (wpAny_bind (m:=Builtin.Tuple.tupleExact _) (wpAny_newObj_type (wpAny_pure ⟨_,rfl,wpAny_pure h⟩) htake))
end
end HT
namespace L2
open PySem PySem.Spec PyProof.Rows
abbrev TO:=St->Hp->(Option Int->Hp->Prop)->Prop
def PO (X:Cx) (e:Option Expr) (t:TO):Prop:=
 ∀ (pins:List (Addr×Obj)) (s:Shared) (σ:St) (H:Hp) (Q:Option Int->Hp->Prop),Inv X pins σ H s->t σ H Q ->
  wpAny (model X.prog X.w) X.A (evalPart e X.env) (λu s'=>∃ o H',Inv X pins σ H' s'/\IsPart u o/\Q o H') X.xe s
def Zc8:TO:=λ_ H Q=>Q none H
def Zh8 (t:TE):TO:=λσ H Q=>t σ H λx H1=>∃ i,x=.int i/\Q (some i) H1
theorem ZcR {ns:List Int}:∀ {us:List Value},Vals (ns.map V.int) us->IntsAre us ns:=by
 induction ns with
 | nil=>intro us r;rw [List.map_nil] at r;cases r;exact .nil
 | cons n ns ih=>
  intro us r
  rw [List.map_cons] at r
  cases r with
  | cons r1 r2=>
   obtain ⟨t,e⟩:=r1
   subst e
   exact .cons n t (ih r2)
section
variable {X:Cx} {e:Expr} {te:TE} {lo hi:Option Expr} {tl th:TO} {pos p2:Pos}
theorem ZaT:PO X none Zc8:=by
 intro pins s σ H Q I h
 rw [evalPart_none]
 exact wpAny_pure ⟨none,H,I,.none,h⟩
theorem ZaL (h:PE X e te):PO X (some e) (Zh8 te):=by
 intro pins s σ H Q I hw
 rw [evalPart_some]
 refine thn (h pins s σ H _ I hw) λu s1 ⟨x,H1,I1,r1,q1⟩=>?_
 obtain ⟨i,rfl,q⟩:=q1
 obtain ⟨t,rfl⟩:=r1
 exact ⟨some i,H1,I1,.int i t,q⟩
def SlR (X:Cx) (r:V->Option Int->Option Int->Hp->VK->Prop):Prop:=
 ∀ (pins:List (Addr×Obj)) (s:Shared) (σ:St) (H:Hp) (x:V) (v vl vu:Value) (lo hi:Option Int) (sl:Addr) (Q:VK),Inv X pins σ H s->RelV x v->s.heap.IsSliceOf sl vl vu .none->IsPart vl lo->IsPart vu hi->r x lo hi H Q ->
  ∃ T id,typeLookup (.type T) "__getitem__" = pure (some (.builtin id))/\s.TypeIs v T/\wpAny (model X.prog X.w) X.A (getItem v (.ref sl)) (EP X pins σ Q) X.xe s
def tSl (r:V->Option Int->Option Int->Hp->VK->Prop) (te:TE) (tl th:TO):TE:=λσ H Q=>te σ H λx H1=>tl σ H1 λl H2=>th σ H2 λu H3=>r x l u H3 Q
theorem ZaH {r:V->Option Int->Option Int->Hp->VK->Prop} (hr:SlR X r) (he:PE X e te) (hl:PO X lo tl) (hu:PO X hi th):PE X (.Subscript e (.Slice lo hi none p2) pos) (tSl r te tl th):=by
 intro pins s σ H Q I h
 refine Subscript_ (thn (he pins s σ H _ I h) λv s1 ⟨x,H1,I1,r1,q1⟩=>?_)
 refine wpAny_Slice (thn (hl pins s1 σ H1 _ I1 q1) λvl s2 ⟨l,H2,I2,pl,q2⟩=>thn (hu pins s2 σ H2 _ I2 q2) λvu s3 ⟨u,H3,I3,pu,q3⟩=>?_)
 rw [evalPart_none]
 refine wpAny_pure ?_
 have I4:Inv X pins σ H3 { s3 with heap:=s3.heap.push { cls:=.type "slice", data:=.fields #[vl,vu,.none] } }:=I3.kept (t':=s3.toks) λb ob q=>Heap.get?_push_of_some _ q
 obtain ⟨T,id,hT,ht,hg⟩:=hr pins { s3 with heap:=s3.heap.push { cls:=.type "slice", data:=.fields #[vl,vu,.none] } } σ H3 x v vl vu l u s3.heap.objs.size Q I4 r1 (Heap.IsSliceOf.new ..) pl pu q3
 show wpAny (model X.prog X.w) X.A (subscriptTail e (.Slice lo hi none p2) v (.ref s3.heap.objs.size)) (EP X pins σ Q) X.xe { s3 with heap:=s3.heap.push { cls:=.type "slice", data:=.fields #[vl,vu,.none] } }
 exact tail_any (ops:=[.ref s3.heap.objs.size,v]) ht hT hg (by with_unfolding_all rfl)
def ZeD (xs:List V) (lo hi:Option Int):List V:=(xs.drop (HT.sIx xs.length 0 lo)).take (HT.sIx xs.length xs.length hi-HT.sIx xs.length 0 lo)
theorem Zcz (xs:List V) (lo hi:Option Int):(ZeD xs lo hi).length<=xs.length:=by
 unfold ZeD
 rw [List.length_take,List.length_drop]
 omega
def ZlD (K:PySem.W.Frag):V->Option Int->Option Int->Hp->VK->Prop:=λx lo hi H Q=>∃ a xs,x=.ref a/\SqT K H a xs /\
 ¬ (HT.sIx xs.length 0 lo=0/\HT.sIx xs.length xs.length hi=xs.length)/\∀ p,H p=none->Q (.ref p) (upd H p (.tup (ZeD xs lo hi)))
theorem Zjq:SlR X (ZlD X.K):=by
 intro pins s σ H x v vl vu lo hi sl Q I rx hs pl pu h
 obtain ⟨a,xs,rfl,hx,hw,q⟩:=h
 cases rx
 obtain ⟨its,r,ht,hz⟩:=I.tuple hx
 have hlen:its.toArray.size=xs.length:=by rw [List.size_toArray];exact r.length.symm
 refine ⟨"tuple", _,PyProof.Rows.slot_tuple_getitem.lookup,ht.typeIs,?_⟩
 refine HT.getItem_tuple_cut ht hs pl pu (by rw [hlen];exact hw) ?_ (by rw [hlen];exact hz)
 rw [hlen]
 refine ⟨.ref s.heap.objs.size,_,I.laid (t':=s.toks) (o:=.tup (ZeD xs lo hi)) (λb ob q=>Heap.get?_push_of_some _ q) (Nat.le_refl _) ?_,rfl,q _ (I.hok.fresh (Nat.le_refl _))⟩
 exact ⟨Nat.le_trans (Zcz xs lo hi) hz,_,(r.drop (HT.sIx xs.length 0 lo)).take (HT.sIx xs.length xs.length hi-HT.sIx xs.length 0 lo),IsTup.new _ _⟩
def Znj (K:PySem.W.Frag):R2:=λx y H Q=>∃ a b ns ms,x=.ref a/\y=.ref b/\SqT K H a (ns.map V.int)/\SqT K H b (ms.map V.int)/\Q (.bl (HT.lexLt ns ms)) H
def Zmr (K:PySem.W.Frag):R2:=λx y H Q=>∃ a b xs ys,x=.ref a/\y=.ref b/\SqT K H a xs/\SqT K H b ys/\xs≠[]/\xs.length+ys.length<=sizeLine /\
 (ys=[]->Q (.ref a) H)/\(ys≠[]->∀ p,H p=none->Q (.ref p) (upd H p (.tup (xs++ys))))
end
end L2
namespace L2
open PySem PySem.Spec PyProof.Rows
def ixN (n:Nat) (i:Int):Option Nat:=if 0<=i then (if i<n then some i.toNat else none) else if -(n:Int)<=i then some (i+n).toNat else none
def atI {α:Type} (xs:List α) (i:Int):Option α:=(ixN xs.length i).bind λj=>xs[j]?
theorem ZfR {n:Nat} {i:Int} {j:Nat} (h:ixN n i=some j):seqIndex? i n=some j/\j<n/\-(n:Int)<=i/\i<n:=by
 unfold ixN at h
 by_cases h0:0<=i
 ·rw [if_pos h0] at h
  by_cases h1:i<n
  ·rw [if_pos h1] at h
   have e:i.toNat=j:=Option.some.inj h
   exact ⟨by rw [seqIndex_of h0 h1,e],by omega,by omega,h1⟩
  ·rw [if_neg h1] at h;cases h
 ·rw [if_neg h0] at h
  by_cases h1:-(n:Int)<=i
  ·rw [if_pos h1] at h
   have e:(i+n).toNat=j:=Option.some.inj h
   exact ⟨by rw [seqIndex_neg (by omega) h1,e],by omega,h1,by omega⟩
  ·rw [if_neg h1] at h;cases h
theorem ZfS {α:Type} {xs:List α} {i:Int} {v:α} (h:atI xs i=some v):∃ j,seqIndex? i xs.length=some j/\xs[j]?=some v/\j<xs.length/\-(xs.length:Int)<=i/\i<xs.length:=by
 unfold atI at h
 cases e:ixN xs.length i with
 | none=>rw [e] at h;cases h
 | some j=>
  rw [e] at h
  obtain ⟨h1,h2,h3,h4⟩:=ZfR e
  exact ⟨j,h1,h,h2,h3,h4⟩
theorem Zan {α:Type} {xs:List α} {j:Nat} {v:α} (h:xs[j]?=some v):atI xs (j:Int)=some v:=by
 have hj:j<xs.length:=(List.getElem?_eq_some_iff.mp h).1
 have e:ixN xs.length (j:Int)=some j:=by
  unfold ixN
  rw [if_pos (by omega),if_pos (by omega)];simp
 unfold atI;rw [e];exact h
def Zh9 (b:Expr):Prop:=∀ o i,subscripted b false o i=operate [o,i] (getItem o i)
def IxR (X:Cx) (r:R2):Prop:=
 ∀ (value slice:Expr) (pins:List (Addr×Obj)) (s:Shared) (σ:St) (H:Hp) (x y:V) (v u:Value) (Q:VK),Inv X pins σ H s->RelV x v->RelV y u->r x y H Q ->
  subscripted slice false v u=operate [v,u] (getItem v u)->wpAny (model X.prog X.w) X.A (subscriptTail value slice v u) (EP X pins σ Q) X.xe s
def MtR (X:Cx) (id:String) (r:V->List V->Hp->VK->Prop):Prop:=
 ∀ (pins:List (Addr×Obj)) (s:Shared) (σ:St) (H:Hp) (x:V) (xs:List V) (v:Value) (us:List Value) (Q:VK),Inv X pins σ H s->RelV x v->Vals xs us->r x xs H Q ->
  wpAny (model X.prog X.w) X.A (call (.builtin id) (v::us)) (EP X pins σ Q) X.xe s
section
variable {X:Cx} {a b:Expr} {ta tb:TE} {pos:Pos}
theorem ZaC {r:R2} (hr:IxR X r) (ha:PE X a ta) (hb:PE X b tb) (hs:Zh9 b):PE X (.Subscript a b pos) (tOp r ta tb):=by
 intro pins s σ H Q I h
 exact Subscript_ (ZkI ha hb I h λv u s2 x y H2 I2 rx ry q=>hr a b pins s2 σ H2 x y v u Q I2 rx ry q (hs _ _))
def ZkP (K:PySem.W.Frag):R2:=λx y H Q=>∃ p xs i v,x=.ref p/\y=.int i/\SqL K H p xs/\atI xs i=some v/\Q v H
def ZkQ (K:PySem.W.Frag):R2:=λx y H Q=>∃ p xs i v,x=.ref p/\y=.int i/\SqT K H p xs/\atI xs i=some v/\Q v H
def Zms:R2:=λx y H Q=>∃ z i c,x=.str z/\y=.int i/\z.length<=sizeLine/\atI z.cps.toList i=some c/\Q (.str ⟨#[c]⟩) H
theorem Zia:IxR X (ZkP X.K):=by
 intro value slice pins s σ H x y v u Q I rx ry h hs
 obtain ⟨p,xs,i,z,rfl,rfl,hq,he,q⟩:=h
 cases rx
 obtain ⟨t,rfl⟩:=ry
 obtain ⟨its,r,pl,hz⟩:=I.list hq
 obtain ⟨j,h1,h2,h3,h4,h5⟩:=ZfS he
 obtain ⟨w,ew,rw'⟩:=r.get h2
 have hl:=r.length
 have hn:=ZeB
 have fin:EP X pins σ Q w s:=⟨z,H,I,rw',q⟩
 by_cases h0:0<=i
 ·have hj:i.toNat=j:=by
   rw [seqIndex_of h0 h5] at h1
   exact Option.some.inj h1
  exact item_listR pl.isList h0 (by omega) (by rw [hj];simpa using ew) fin hs
 ·have hj:(i+(its.toArray.size:Int)).toNat=j:=by
   rw [seqIndex_neg (by omega) h4] at h1
   rw [List.size_toArray,<-hl]
   exact Option.some.inj h1
  exact subscriptTail_builtinR (x:=w) pl.isList.typeIs slot_list_getitem.lookup
   (wpAny_getItem_list_neg (Q:=λr s'=>r=w/\EP X pins σ Q r s') pl.isList (by omega) (by rw [List.size_toArray] <;> omega) (by omega) (by rw [hj];simpa using ew) ⟨rfl,fin⟩) hs
theorem Zjr:IxR X (ZkQ X.K):=by
 intro value slice pins s σ H x y v u Q I rx ry h hs
 obtain ⟨p,xs,i,z,rfl,rfl,hq,he,q⟩:=h
 cases rx
 obtain ⟨t,rfl⟩:=ry
 obtain ⟨its,r,pl,hz⟩:=I.tuple hq
 obtain ⟨j,h1,h2,h3,h4,h5⟩:=ZfS he
 obtain ⟨w,ew,rw'⟩:=r.get h2
 have hl:=r.length
 have hn:=ZeB
 have fin:EP X pins σ Q w s:=⟨z,H,I,rw',q⟩
 exact subscriptTail_builtinR (x:=w) pl.typeIs slot_tuple_getitem.lookup
  (getItem_tuple (j:=j) (Q:=λr s'=>r=w/\EP X pins σ Q r s') pl (by omega) (by omega) (by rw [List.size_toArray,<-hl];exact h1) (by simpa using ew) ⟨rfl,fin⟩) hs
def rIx (K:PySem.W.Frag):R2:=λx y H Q=>ZkP K x y H Q\/ZkQ K x y H Q\/Zms x y H Q
theorem Zfb (its:List Value) (n j:Nat) (u:Value):Obj.mapSeq (·.setIfInBounds j u) { cls:=.type "list", data:=.seq its.toArray n }={ cls:=.type "list", data:=.seq (its.set j u).toArray n }:=by
 simp [Obj.mapSeq]
theorem Inv.lst {pins:List (Addr×Obj)} {σ:St} {H:Hp} {s:Shared} {p:Addr} {xs:List V} (I:Inv X pins σ H s) (h:H p=some (.lst xs)) :
  ∃ (its:List Value) (n:Nat),Vals xs its/\s.heap.get? p=some { cls:=.type "list", data:=.seq its.toArray n }/\xs.length<=sizeLine:=by
 obtain ⟨z,its,n,r,e⟩:=I.hok p _ h
 exact ⟨its,n,r,e,z⟩
theorem Inv.lstUpd {pins:List (Addr×Obj)} {σ:St} {H:Hp} {s:Shared} {p:Addr} {xs ys:List V} {its its':List Value} {n n':Nat} {f:Obj->Obj} (I:Inv X pins σ H s) (h:H p=some (.lst xs))
  (ho:s.heap.get? p=some { cls:=.type "list", data:=.seq its.toArray n }) (hf:f { cls:=.type "list", data:=.seq its.toArray n }={ cls:=.type "list", data:=.seq its'.toArray n' }) (r:Vals ys its') (hz:ys.length<=sizeLine) (t:Nat) :
  Inv X pins σ (upd H p (.lst ys)) { s with heap:=s.heap.update p f,toks:=t }:=by
 have e:(s.heap.update p f).get? p=some { cls:=.type "list", data:=.seq its'.toArray n' }:=by
  rw [Heap.get?_update_self f ho (by rw [hf] <;> rfl),hf]
 refine I.write (x:=p) (e:=p) (by rw [h];trivial) (.inl rfl) (λb u hb q=>(Heap.get?_update_other _ _ (Ne.symm hb)).trans q) ⟨_,e⟩ ?_
 exact ⟨hz,its',n',r,e⟩
def ZkR:V->V->V->Hp->(Hp->Prop)->Prop:=λo i v H Q=>∃ p xs k j,o=.ref p/\i=.int k/\H p=some (.lst xs)/\ixN xs.length k=some j/\Q (upd H p (.lst (xs.set j v)))
theorem ZeE:Zlw X ZkR:=by
 intro pins s σ H o i v ov iv u Q I ro ri rv h
 obtain ⟨p,xs,k,j,rfl,rfl,hp,hj,q⟩:=h
 cases ro
 obtain ⟨t,rfl⟩:=ri
 obtain ⟨its,n,r,ho,hz⟩:=I.lst hp
 obtain ⟨h1,h2,h3,h4⟩:=ZfR hj
 have hl:=r.length
 have hn:=ZeB
 have I':Inv X pins σ (upd H p (.lst (xs.set j v))) { s with heap:=s.heap.update p (Obj.mapSeq (·.setIfInBounds j u)) }:=
  I.lstUpd hp ho (Zfb its n j u) (r.set rv j) (by rw [List.length_set];exact hz) s.toks
 by_cases h0:0<=k
 ·have hk:k.toNat=j:=by
   rw [seqIndex_of h0 h4] at h1
   exact Option.some.inj h1
  exact PySem.W.ki_setAt ho h0 (by omega) (by rw [List.size_toArray,<-hl];exact h4) (by rw [hk];exact ⟨_,I',q⟩)
 ·have hk:(k+(its.toArray.size:Int)).toNat=j:=by
   rw [seqIndex_neg (by omega) h3] at h1
   rw [List.size_toArray,<-hl]
   exact Option.some.inj h1
  exact PySem.W.ki_setBack ho (by omega) (by rw [List.size_toArray,<-hl];exact h3) (by omega) (by rw [hk];exact ⟨_,I',q⟩)
theorem ZdK (lo hi:Option Int) (n:Nat):(sliceBounds lo hi none n).1=((HT.sIx n 0 lo:Nat):Int)/\(sliceBounds lo hi none n).2.1=((HT.sIx n n hi:Nat):Int)/\(sliceBounds lo hi none n).2.2=1:=by
 refine ⟨?_,?_,rfl⟩
 ·cases lo with
  | none=>simp [sliceBounds,HT.sIx]
  | some i=>
   simp only [sliceBounds,HT.sIx,Option.getD_none,show (1:Int) > 0 by decide,if_true]
   by_cases h:i<0
   ·simp only [h,if_true] <;> omega
   ·simp only [h,if_false] <;> omega
 ·cases hi with
  | none=>simp [sliceBounds,HT.sIx]
  | some i=>
   simp only [sliceBounds,HT.sIx,Option.getD_none,show (1:Int) > 0 by decide,if_true]
   by_cases h:i<0
   ·simp only [h,if_true] <;> omega
   ·simp only [h,if_false] <;> omega
theorem Zc9 (its:List Value) (lo hi:Option Int):slicePick its.toArray lo hi none=((its.drop (HT.sIx its.length 0 lo)).take (HT.sIx its.length its.length hi-HT.sIx its.length 0 lo)).toArray:=by
 obtain ⟨h1,h2,h3⟩:=ZdK lo hi its.toArray.size
 unfold slicePick
 rw [h1,h2,h3]
 simp only [sliceRange_one,pick_run,List.size_toArray] <;> rfl
def ZkS (K:PySem.W.Frag):V->Option Int->Option Int->Hp->VK->Prop:=λx lo hi H Q=>∃ a xs,x=.ref a/\SqL K H a xs/\∀ p,H p=none->Q (.ref p) (upd H p (.lst (ZeD xs lo hi)))
theorem Zib:SlR X (ZkS X.K):=by
 intro pins s σ H x v vl vu lo hi sl Q I rx hs pl pu h
 obtain ⟨a,xs,rfl,hx,q⟩:=h
 cases rx
 obtain ⟨its,r,ht,hz⟩:=I.list hx
 have hlen:=r.length
 refine ⟨"list", _,slot_list_getitem.lookup,ht.isList.typeIs,?_⟩
 refine wpAny_getItem_list_slice ht.isList hs pl pu .none (by simp) ?_ (by rw [List.size_toArray] <;> omega)
 rw [Zc9,<-hlen]
 refine ⟨.ref s.heap.objs.size,_,I.laid (t':=s.toks) (o:=.lst (ZeD xs lo hi)) (λb ob q=>Heap.get?_push_of_some _ q) (Nat.le_refl _) ?_,rfl,q _ (I.hok.fresh (Nat.le_refl _))⟩
 exact ⟨Nat.le_trans (Zcz xs lo hi) hz,_,0,(r.drop (HT.sIx xs.length 0 lo)).take (HT.sIx xs.length xs.length hi-HT.sIx xs.length 0 lo),Heap.get?_push_size _ rfl⟩
def Zda:V->Bool
 | .non=>true
 | .bl _=>true
 | .int _=>true
 | .str _=>true
 | _=>false
def eqV:V->V->Bool
 | .non,.non=>true
 | .bl a,.bl b=>a == b
 | .bl a,.int b=>(if a then 1 else 0) == b
 | .int a,.bl b=>a == (if b then 1 else 0)
 | .int a,.int b=>a == b
 | .str a,.str b=>a == b
 | _,_=>false
theorem Zjs {A:Around} {s:Shared} {y x:V} {u v:Value} (ry:RelV y u) (rx:RelV x v) (fy:Zda y=true) (fx:Zda x=true):SeqAt.EqAt A s u v (eqV y x):=by
 cases y with
 | non=>
  cases ry
  cases x with
  | non=>cases rx;exact SeqAt.EqAt.same _
  | bl b=>cases rx;exact SeqAt.EqAt.none_bool b
  | int b=>obtain ⟨t,rfl⟩:=rx;exact SeqAt.EqAt.none_int b t
  | str b=>obtain ⟨t,rfl⟩:=rx;exact SeqAt.EqAt.none_str b t
  | _=>exact absurd (show false=true from fx) Bool.false_ne_true
 | bl a=>
  cases ry
  cases x with
  | non=>cases rx;exact SeqAt.EqAt.bool_none a
  | bl b=>cases rx;exact SeqAt.EqAt.bool_bool a b
  | int b=>obtain ⟨t,rfl⟩:=rx;exact SeqAt.EqAt.bool_int a b t
  | str b=>obtain ⟨t,rfl⟩:=rx;exact SeqAt.EqAt.bool_str a b t
  | _=>exact absurd (show false=true from fx) Bool.false_ne_true
 | int a=>
  obtain ⟨t',rfl⟩:=ry
  cases x with
  | non=>cases rx;exact SeqAt.EqAt.int_none a t'
  | bl b=>cases rx;exact SeqAt.EqAt.int_bool a t' b
  | int b=>obtain ⟨t,rfl⟩:=rx;exact SeqAt.EqAt.int_int a t' b t
  | str b=>obtain ⟨t,rfl⟩:=rx;exact SeqAt.EqAt.int_str a t' b t
  | _=>exact absurd (show false=true from fx) Bool.false_ne_true
 | str a=>
  obtain ⟨t',rfl⟩:=ry
  cases x with
  | non=>cases rx;exact SeqAt.EqAt.str_none a t'
  | bl b=>cases rx;exact SeqAt.EqAt.str_bool a t' b
  | int b=>obtain ⟨t,rfl⟩:=rx;exact SeqAt.EqAt.str_int a t' b t
  | str b=>obtain ⟨t,rfl⟩:=rx;exact SeqAt.EqAt.str_str a t' b t
  | _=>exact absurd (show false=true from fx) Bool.false_ne_true
 | _=>exact absurd (show false=true from fy) Bool.false_ne_true
def eqU (x:V) (u:Value):Bool:=match u with
 | .none=>eqV .non x
 | .bool b=>eqV (.bl b) x
 | .int i _=>eqV (.int i) x
 | .str z _=>eqV (.str z) x
 | _=>false
theorem ZhA {x y:V} {u:Value} (r:RelV y u) (f:Zda y=true):eqU x u=eqV y x:=by
 cases y with
 | non=>cases r;rfl
 | bl b=>cases r;rfl
 | int i=>obtain ⟨t,rfl⟩:=r;rfl
 | str z=>obtain ⟨t,rfl⟩:=r;rfl
 | _=>exact absurd (show false=true from f) Bool.false_ne_true
theorem Zeh {x:V}:∀ {xs:List V} {us:List Value},Vals xs us->xs.all Zda=true->us.any (eqU x)=xs.any λy=>eqV y x
 | _,_,.nil,_=>rfl
 | y::xs,u::us,.cons r t,f=>by
  rw [List.all_cons,Bool.and_eq_true] at f
  rw [List.any_cons,List.any_cons,ZhA r f.1,Zeh t f.2]
theorem Zdb {A:Around} {s:Shared} {x:V} {v:Value} (rx:RelV x v) (fx:Zda x=true):∀ {xs:List V} {us:List Value},Vals xs us->xs.all Zda=true->∀ u∈us,SeqAt.EqAt A s u v (eqU x u)
 | _,_,.nil,_=>λu hu=>by cases hu
 | y::xs,u::us,.cons r t,f=>λu' hu=>by
  rw [List.all_cons,Bool.and_eq_true] at f
  rcases List.mem_cons.mp hu with rfl | hu
  ·rw [ZhA r f.1];exact Zjs r rx f.1 fx
  ·exact Zdb rx fx t f.2 u' hu
def inV (x:V) (xs:List V):Bool:=xs.any λy=>eqV y x
def rIn (K:PySem.W.Frag) (neg:Bool):R2:=λx y H Q=>∃ p xs,y=.ref p/\(SqL K H p xs\/SqT K H p xs)/\Zda x=true/\xs.all Zda=true/\Q (.bl (if neg then !inV x xs else inV x xs)) H
theorem ZdL:OpR X (compareOp .NotIn) (rIn X.K true):=by
 intro pins s σ H x y v u Q I rx ry h
 obtain ⟨p,xs,rfl,hq,fx,fs,q⟩:=h
 cases ry
 rcases hq with hq | hq
 ·obtain ⟨its,r,pl,hz⟩:=I.list hq
  refine SeqAt.notIn_listAt (eqU x) pl.isList (λw hw=>Zdb rx fx r fs w (by simpa using hw)) ⟨.bl _,H,I,rfl,?_⟩
  rw [show its.toArray.any (eqU x)=its.any (eqU x) by simp,Zeh r fs]
  exact q
 ·obtain ⟨its,r,pl,hz⟩:=I.tuple hq
  refine SeqAt.notIn_tupleAt (eqU x) pl (λw hw=>Zdb rx fx r fs w (by simpa using hw)) ⟨.bl _,H,I,rfl,?_⟩
  rw [show its.toArray.any (eqU x)=its.any (eqU x) by simp,Zeh r fs]
  exact q
theorem ZdM:Zbp X (.builtin "len") (λxs H Q=>∃ p ys,xs=[.ref p]/\(SqL X.K H p ys\/SqT X.K H p ys)/\Q (.int ys.length) H):=by
 intro pins s σ H xs us Q I r h
 obtain ⟨p,ys,rfl,hq,q⟩:=h
 obtain ⟨u,rfl,rx⟩:=ZfF r
 cases rx
 have hn:=ZeB
 rcases hq with hq | hq
 ·obtain ⟨its,r',pl,hz⟩:=I.list hq
  have hlen:=r'.length
  exact Calls.call_len_list pl.isList (by simp only [List.size_toArray] <;> omega) ⟨.int ys.length,H,I.tok _,⟨s.toks+1,by rw [List.size_toArray,hlen]⟩,q⟩
 ·obtain ⟨its,r',pl,hz⟩:=I.tuple hq
  have hlen:=r'.length
  exact len_tuple pl (by simp only [List.size_toArray] <;> omega) ⟨.int ys.length,H,I.tok _,⟨s.toks+1,by rw [List.size_toArray,hlen]⟩,q⟩
theorem ZdN:Zbp X (.type "list") (λxs H Q=>∃ p ys,xs=[.ref p]/\(SqL X.K H p ys\/SqT X.K H p ys)/\∀ l,H l=none->Q (.ref l) (upd H l (.lst ys))):=by
 intro pins s σ H xs us Q I r h
 obtain ⟨p,ys,rfl,hq,q⟩:=h
 obtain ⟨u,rfl,rx⟩:=ZfF r
 cases rx
 have fin:∀ (its:List Value),Vals ys its->ys.length<=sizeLine->∀ (h':Heap) (c':Nat),(∀ b o',s.heap.get? b=some o'->h'.get? b=some o') ->
   h'.get? s.heap.objs.size=some { cls:=.type "list", dict:=none,data:=.seq its.toArray c',slots:=#[] }->EP X pins σ Q (.ref s.heap.objs.size) { s with heap:=h' }:=λits r' hz h' c' kp e=>
  ⟨.ref s.heap.objs.size,_,I.laid (t':=s.toks) kp (Nat.le_refl _) (show ObjOk X.prog X.w _ h' _ (.lst ys) from ⟨hz,its,c',r',e⟩),rfl,q _ (I.hok.fresh (Nat.le_refl _))⟩
 rcases hq with hq | hq
 ·obtain ⟨its,r',pl,hz⟩:=I.list hq
  have hlen:=r'.length
  obtain ⟨o,ho,hc,n,hd⟩:=pl.isList
  exact call_list_seq p (.inl rfl) ho hc hd (λh' c' kp e=>fin its r' hz h' c' kp e) (by simp only [List.size_toArray] <;> omega)
 ·obtain ⟨its,r',pl,hz⟩:=I.tuple hq
  have hlen:=r'.length
  obtain ⟨o,ho,hc,n,hd⟩:=pl
  exact call_list_seq p (.inr rfl) ho hc hd (λh' c' kp e=>fin its r' hz h' c' kp e) (by simp only [List.size_toArray] <;> omega)
theorem Zdc:Zbp X (.type "tuple") (λxs H Q=>∃ p ys,xs=[.ref p]/\((SqL X.K H p ys/\∀ l,H l=none->Q (.ref l) (upd H l (.tup ys)))\/(SqT X.K H p ys/\Q (.ref p) H))):=by
 intro pins s σ H xs us Q I r h
 obtain ⟨p,ys,rfl,h⟩:=h
 obtain ⟨u,rfl,rx⟩:=ZfF r
 cases rx
 rcases h with ⟨hq,q⟩ | ⟨hq,q⟩
 ·obtain ⟨its,r',pl,hz⟩:=I.list hq
  have hlen:=r'.length
  refine call_tuple_list pl.isList (λh' kp=>?_) (by simp only [List.size_toArray] <;> omega)
  have I1:Inv X pins σ H { s with heap:=h' }:=I.kept (t':=s.toks) kp
  have I2:Inv X pins σ (upd H h'.objs.size (.tup ys)) { s with heap:=h'.push { cls:=.type "tuple", data:=.seq its.toArray } }:=
   I1.laid (t':=s.toks) (λb o e=>Heap.get?_push_of_some _ e) (Nat.le_refl _) (show ObjOk X.prog X.w _ _ _ (.tup ys) from ⟨hz,its,r',IsTup.new _ _⟩)
  exact ⟨.ref h'.objs.size,_,I2,rfl,q _ (I1.hok.fresh (Nat.le_refl _))⟩
 ·obtain ⟨its,r',pl,hz⟩:=I.tuple hq
  exact call_tuple_same pl ⟨.ref p,H,I,rfl,q⟩
def tyV (K:PySem.W.Frag) (T:String) (x:V) (H:Hp):Prop:=match x with
 | .str _=>T = "str"
 | .int _=>T = "int"
 | .ref p=>(T = "list" /\ ∃ xs,SqL K H p xs)\/(T = "tuple" /\ ∃ o,K.lookup p=some o/\o.cls=.type "tuple" /\ o.dict=none) \/
   (T = "dict" /\ ((∃ kvs,H p=some (.dK kvs))\/∃ kvs,H p=some (.dT kvs)))\/(T = "set" /\ ∃ S n,H p=some (.set S n))
 | _=>False
theorem Zjt {pins:List (Addr×Obj)} {σ:St} {H:Hp} {s:Shared} {T:String} {x:V} {v:Value} (I:Inv X pins σ H s) (r:RelV x v) (ty:tyV X.K T x H) :
  s.TypeIs v T/\∀ a,v=.ref a->∃ ob,s.heap.get? a=some ob/\ob.dict=none:=by
 cases x with
 | str z=>
  obtain ⟨t,rfl⟩:=r
  cases (show T = "str" from ty)
  exact ⟨typeIs_str s z t,λ_ e=>nomatch e⟩
 | int i=>
  obtain ⟨t,rfl⟩:=r
  cases (show T = "int" from ty)
  exact ⟨typeIs_int s i t,λ_ e=>nomatch e⟩
 | ref p=>
  cases r
  rcases ty with ⟨rfl,xs,hq⟩ | ⟨rfl,o,hk,hc,hd⟩ | ⟨rfl,hk⟩ | ⟨rfl,S,n,hk⟩
  ·obtain ⟨its,_,pl,_⟩:=I.list hq
   refine ⟨pl.isList.typeIs,λa e=>?_⟩
   cases e
   obtain ⟨o,n,e,c,hd,_⟩:=pl
   exact ⟨o,e,hd⟩
  ·refine ⟨⟨o,I.kIn p o hk,hc⟩,λa e=>?_⟩
   cases e
   exact ⟨o,I.kIn _ o hk,hd⟩
  ·have z:∃ o,s.heap.get? p=some o/\o.ExactDict:=by
    rcases hk with ⟨kvs,hk⟩ | ⟨kvs,hk⟩
    ·obtain ⟨_,_,_,_,o,_,_,e,ex,_⟩:=I.hok p _ hk
     exact ⟨o,e,ex⟩
    ·obtain ⟨_,_,_,_,o,_,_,e,ex,_⟩:=I.hok p _ hk
     exact ⟨o,e,ex⟩
   obtain ⟨o,e,ex⟩:=z
   refine ⟨⟨o,e,ex.1⟩,λa e2=>?_⟩
   cases e2
   exact ⟨o,e,ex.2.1⟩
  ·obtain ⟨o,_,_,_,e,ex,_⟩:=I.hok p _ hk
   refine ⟨⟨o,e,ex.1⟩,λa e2=>?_⟩
   cases e2
   exact ⟨o,e,ex.2.1⟩
 | _=>exact False.elim ty
def Znk (K:PySem.W.Frag) (T:String) (r:V->List V->Hp->VK->Prop) (to:TE):TE:=λσ H Q=>to σ H λx H1=>tyV K T x H1/\r x [] H1 Q
def tBM (K:PySem.W.Frag) (T:String) (r:V->List V->Hp->VK->Prop) (to:TE) (t:TA):TE:=λσ H Q=>to σ H λx H1=>tyV K T x H1/\t σ H1 λxs H2=>r x xs H2 Q
variable {o e:Expr} {es:List Expr} {to:TE} {t:TA} {name:Str} {apos cpos:Pos} {T id:String} {r:V->List V->Hp->VK->Prop}
theorem Zei (pa:PlainAttrs T) (slot:Slot T name id) (hty:typeOf (.builtin id)=pure (.type "method_descriptor")) (hm:MtR X id r) (ho:PE X o to) (ha:PA X (e::es) t)
  (hbase:attributeBase o name X.env (eval o X.env)=eval o X.env:=by rfl)
  (hfew:((backTo cpos (starEach (e::es) X.env)).all (λx=>!x.1) && (backToKw cpos (keywordEach [] X.env)).all (λx=>x.1.isSome)
   && decide ((e::es).length+([]:List Keyword).length+(if ([]:List Keyword).isEmpty then 0 else 1)<30))=true:=by rfl)
  (hline:(apos.endLine == cpos.line)=true:=by rfl) (hs:starEach (e::es) X.env=(false,eval e X.env)::starEach es X.env:=by rfl) (hplain:(backTo cpos (starEach es X.env)).any (·.1)=false:=by rfl) :
  PE X (.Call (.Attribute o name apos) (e::es) [] cpos) (tBM X.K T r to t):=by
 intro pins s σ H Q I h
 refine wpAny_Call_method_late hbase hfew hline rfl (thn (ho pins s σ H _ I h) λv s1 ⟨x,H1,I1,r1,ty,q1⟩=>?_)
 obtain ⟨h1,h2⟩:=Zjt I1 r1 ty
 refine ⟨T,id,pa,slot,hty,h1,h2,?_⟩
 have hA:=ha cpos pins s1 σ H1 _ I1 q1
 rw [hs] at hA ⊢
 refine Calls.callWith_builtin (by show (false || (backTo cpos (starEach es X.env)).any (·.1))=false;rw [hplain] <;> rfl) (Calls.evalArgs_plain ?_)
 exact thn hA λus s2 ⟨vs,H2,I2,r2,q2⟩=>hm pins s2 σ H2 x vs v us Q I2 r1 r2 q2
/- xs.append(e),list.index on a module's tuple .. are MtR facts of 06m -/
end
end L2
namespace L2
open PySem PySem.Spec PyProof.Rows
def MtM (X:Cx) (id:String) (r:V->List V->Hp->VK->Prop):Prop:=
 ∀ (pins:List (Addr×Obj)) (s:Shared) (σ:St) (H:Hp) (x:V) (xs:List V) (v:Value) (us:List Value) (Q:VK),Inv X pins σ H s->RelV x v->Vals xs us->r x xs H Q ->
  wpAny (model X.prog X.w) X.A (call (.builtin id) (v::us)) (EP X pins σ Q) X.xe s
theorem Vals.one:∀ {x:V} {us:List Value},Vals [x] us->∃ u,us=[u]/\RelV x u
 | _,_,.cons r .nil=>⟨_,rfl,r⟩
theorem Vals.two:∀ {x y:V} {us:List Value},Vals [x,y] us->∃ u v,us=[u,v]/\RelV x u/\RelV y v
 | _,_,_,.cons r (.cons q .nil)=>⟨_,_,rfl,r,q⟩
theorem Vals.reverse {xs:List V} {us:List Value} (h:Vals xs us):Vals xs.reverse us.reverse:=by
 induction h with
 | nil=>exact .nil
 | cons r t ih=>rw [List.reverse_cons,List.reverse_cons];exact Vals.append ih (.cons r .nil)
theorem Vals.rep {xs:List V} {us:List Value} (h:Vals xs us):∀ k:Nat,Vals (List.replicate k xs).flatten (List.replicate k us).flatten
 | 0=>.nil
 | k+1=>by
  rw [List.replicate_succ,List.replicate_succ,List.flatten_cons,List.flatten_cons]
  exact Vals.append h (Vals.rep h k)
theorem ZdO (its:List Value):∀ (k:Nat) (acc:List Value),
  List.foldl (λx1 x2=>x1++x2) acc.toArray (List.replicate k its.toArray)=(acc++(List.replicate k its).flatten).toArray
 | 0,acc=>by simp
 | k+1,acc=>by
  have e:acc.toArray++its.toArray=(acc++its).toArray:=by simp
  have e2:(acc++its)++(List.replicate k its).flatten=acc++(List.replicate (k+1) its).flatten:=by
   rw [List.replicate_succ,List.flatten_cons,List.append_assoc]
  rw [<-e2,<-ZdO its k (acc++its),<-e,List.replicate_succ,List.foldl_cons]
section
variable {X:Cx} {pins:List (Addr×Obj)} {σ:St} {H:Hp} {s:Shared} {l b:Addr} {xs ys zs:List V}
theorem Inv.lset {its its':List Value} {n:Nat} {f:Array Value->Array Value} {t':Nat} (I:Inv X pins σ H s) (hH:H l=some (.lst xs))
  (e:s.heap.get? l=some { cls:=.type "list", data:=.seq its.toArray n }) (hf:f its.toArray=its'.toArray) (hv:Vals ys its') (hz:ys.length<=sizeLine) :
  Inv X pins σ (upd H l (.lst ys)) { s with heap:=s.heap.update l (Obj.mapSeq f),toks:=t' }:=by
 have q:=PySem.IsL.update e f
 rw [hf] at q
 refine I.write (x:=l) (e:=l) (by rw [hH];exact trivial) (.inl rfl) (λb' u hb hu=>(Heap.get?_update_other s.heap (Obj.mapSeq f) (Ne.symm hb)).trans hu) ⟨_,q⟩ ?_
 exact ⟨hz,its',_,hv,q⟩
theorem Inv.lnew {its:List Value} {t':Nat} (I:Inv X pins σ H s) (hv:Vals ys its) (hz:ys.length<=sizeLine) :
  Inv X pins σ (upd H s.heap.objs.size (.lst ys)) { s with heap:=s.heap.push { cls:=.type "list", data:=.seq its.toArray },toks:=t' }:=
 I.laid (λ_ _ q=>Heap.get?_push_of_some _ q) (Nat.le_refl _) ⟨hz,its,0,hv,Heap.get?_push_size _ rfl⟩
theorem Inv.fresh (I:Inv X pins σ H s):H s.heap.objs.size=none:=I.hok.fresh (Nat.le_refl _)
theorem Inv.lstM (I:Inv X pins σ H s) (hH:H l=some (.lst xs)):xs.length<=sizeLine/\∃ (its:List Value) (n:Nat),Vals xs its/\xs.length=its.length/\s.heap.get? l=some { cls:=.type "list", data:=.seq its.toArray n }:=by
 obtain ⟨z,its,n,r,e⟩:=I.hok l _ hH
 exact ⟨z,its,n,r,r.length,e⟩
theorem ZgV {n:Nat} (h:n<=sizeLine):Builtin.List.listTooLong n=false:=by
 unfold Builtin.List.listTooLong
 exact decide_eq_false (by omega)
end
section
variable {X:Cx}
def Zic:V->List V->Hp->VK->Prop:=λx vs H Q=>∃ l xs y,x=.ref l/\vs=[y]/\H l=some (.lst xs)/\xs.length<sizeLine/\Q .non (upd H l (.lst (xs++[y])))
theorem Za4:MtM X "list.append" Zic:=by
 intro pins s σ H x vs v us Q I rx rv h
 obtain ⟨l,xs,y,rfl,rfl,hH,hz,q⟩:=h
 cases rx
 obtain ⟨u,rfl,ru⟩:=rv.one
 obtain ⟨z,its,n,r,hl,e⟩:=I.lstM hH
 refine call_meets F.slot_list_append ⟨_,e,rfl⟩ F.entry_list_append (F.args_list_append_2 _ _) (PySem.list_append l its.toArray n u (by rw [List.size_toArray];omega)) ⟨e,?_⟩
 refine ⟨.non,_,I.lset (its':=its++[u]) hH e (by simp) (r.append (.cons ru .nil)) ?_,rfl,q⟩
 rw [List.length_append,List.length_singleton]
 omega
def ZkT:V->List V->Hp->VK->Prop:=λx vs H Q=>∃ l b xs zs,x=.ref l/\vs=[.ref b]/\H l=some (.lst xs)/\H b=some (.lst zs)/\xs.length+zs.length<=sizeLine/\Q .non (upd H l (.lst (xs++zs)))
def Znl:V->List V->Hp->VK->Prop:=λx vs H Q=>∃ l xs y,x=.ref l/\vs=[]/\H l=some (.lst xs)/\xs[xs.length-1]?=some y/\Q y (upd H l (.lst xs.dropLast))
def ZlE:V->List V->Hp->VK->Prop:=λx vs H Q=>∃ l xs i k y,x=.ref l/\vs=[.int i]/\H l=some (.lst xs)/\-(2 ^ 63)<=i/\i<2 ^ 63/\seqIndex? i xs.length=some k/\xs[k]?=some y/\Q y (upd H l (.lst (xs.eraseIdx k)))
def Zku:V->List V->Hp->VK->Prop:=λx vs H Q=>∃ l xs,x=.ref l/\vs=[]/\H l=some (.lst xs)/\Q .non (upd H l (.lst xs.reverse))
def ZlF:V->List V->Hp->VK->Prop:=λx vs H Q=>∃ l xs,x=.ref l/\vs=[]/\H l=some (.lst xs)/\Q .non (upd H l (.lst []))
def ZlG:R2:=λx y H Q=>∃ l b xs zs,x=.ref l/\y=.ref b/\H l=some (.lst xs)/\H b=some (.lst zs)/\xs.length+zs.length<=sizeLine/\∀ p,H p=none->Q (.ref p) (upd H p (.lst (xs++zs)))
theorem ZaO:OpR X (binaryOp .Add) ZlG:=by
 intro pins s σ H x y v u Q I rx ry h
 obtain ⟨l,b,xs,zs,rfl,rfl,hH,hB,hz,q⟩:=h
 cases rx
 cases ry
 obtain ⟨z,its,n,r,hl,e⟩:=I.lstM hH
 obtain ⟨z2,its2,n2,r2,hl2,e2⟩:=I.lstM hB
 refine PySem.P.add_list e e2 ?_ (by rw [List.size_toArray,List.size_toArray];omega)
 have ea:its.toArray++its2.toArray=(its++its2).toArray:=by simp
 rw [ea]
 exact ⟨.ref _,_,I.lnew (t':=s.toks) (r.append r2) (by rw [List.length_append];omega),rfl,q _ I.fresh⟩
def Zmt:R2:=λx y H Q=>∃ l k xs,x=.ref l/\y=.int k/\H l=some (.lst xs)/\-(2 ^ 63)<=k/\k<2 ^ 63/\xs.length * k.toNat<=sizeLine /\
 ∀ p,H p=none->Q (.ref p) (upd H p (.lst (List.replicate k.toNat xs).flatten))
theorem Zid {α:Type} (xs:List α) (k:Nat):(List.replicate k xs).flatten.length=k * xs.length:=by
 induction k with
 | zero=>simp
 | succ k ih=>rw [List.replicate_succ,List.flatten_cons,List.length_append,ih,Nat.succ_mul,Nat.add_comm]
theorem ZhB:OpR X (binaryOp .Mult) Zmt:=by
 intro pins s σ H x y v u Q I rx ry h
 obtain ⟨l,k,xs,rfl,rfl,hH,h1,h2,hz,q⟩:=h
 cases rx
 obtain ⟨t,rfl⟩:=ry
 obtain ⟨z,its,n,r,hl,e⟩:=I.lstM hH
 have hlen:its.toArray.size * k.toNat<=sizeLine:=by rw [List.size_toArray,<-hl];exact hz
 have hcap:¬ its.toArray.size * k.toNat > (2 ^ 63-1) / 8:=by
  have:(sizeLine:Nat)<=(2 ^ 63-1) / 8:=by decide
  omega
 have hfit:¬ (!Builtin.List.listFitsIndex k)=true:=by
  rw [fitsIndex_both h1 h2]
  exact Bool.false_ne_true
 have hlong:¬ Builtin.List.listTooLong (its.toArray.size * k.toNat)=true:=by
  rw [ZgV hlen]
  exact Bool.false_ne_true
 have hnew:List.foldl (λx1 x2=>x1++x2) #[] (List.replicate (if its.toArray.isEmpty=true then 0 else k.toNat) its.toArray)=(List.replicate k.toNat its).flatten.toArray:=by
  have f0:∀ m:Nat,List.foldl (λx1 x2=>x1++x2) #[] (List.replicate m its.toArray)=(List.replicate m its).flatten.toArray:=λm=>by
   have:=ZdO its m []
   rw [List.nil_append] at this
   exact this
  rw [f0]
  cases its with
  | nil=>simp
  | cons a r'=>rw [if_neg (by simp)]
 refine wpAny_binaryOp_repeat_ref (T := "list") (U := "int") (by decide) ⟨_,e,rfl⟩ (λs'=>typeIs_int s' k t) noFill_list_mul F.fills_int_mul F.slot_int_rmul repeat_list F.slot_int_index.lookup
  (call_meets F.slot_int_rmul (typeIs_int s k t) F.entry_int_rmul (F.args_int_rmul_2 _ _) (int___rmul___int_list k t l its.toArray n)
   ⟨e,rfl,⟨_,e,rfl⟩,call_meets F.slot_list_mul ⟨_,e,rfl⟩ F.entry_list_mul (F.args_list_mul_2 _ _) (AutoListH.list___mul___list_int_3 l its.toArray n k t hfit hcap hlong) ⟨e,?_⟩⟩)
 rw [hnew]
 exact ⟨.ref _,_,I.lnew (t':=s.toks) (r.rep k.toNat) (by rw [Zid,Nat.mul_comm];exact hz),rfl,q _ I.fresh⟩
end
section
variable {prog:Program} {w:World} {A:Around} {E:Value->Shared->Prop} {s:Shared}
end
section
variable {X:Cx}
end
end L2
namespace Att
open PySem PySem.W PySem.Calls PyProof.Rows
theorem ZcA {P:Params} {h:Heap}:∀ (ns:List Int) (vs:List Value),WellAll P h vs (ns.map WData.int)->IntsAre vs ns:=by
 intro ns
 induction ns with
 | nil=>
  intro vs w
  rw [List.map_nil] at w
  cases w
  exact .nil
 | cons n ns ih=>
  intro vs w
  rw [List.map_cons] at w
  cases w with
  | cons a b=>
   cases a
   exact .cons _ _ (ih _ b)
theorem ZfT {l:OpenLaw} {n:Nat} (hn:l.most=some n) {P:Params} {h:Heap} {args:List WData} {vals:List Value}
  (hpre:l.row.toRowW.claim.pre args=true) (hwl:WellAll P h vals args) :
  ∃ a vs ns,vals=[Value.ref a]/\args=[WData.list (ns.map WData.int)]/\h.get? a=some { cls:=.type "list", data:=.seq vs.toArray }/\IntsAre vs ns/\ns.length<=n:=by
 have hsh:WShape.hasAll [] args [.list .int]=true:=(pre_splitW hpre).1
 have hc:l.pre.holds [] { args:=args }=true:=(pre_splitW hpre).2
 obtain ⟨d,r,rfl,h1,h2⟩:=hasAllW_cons hsh
 obtain rfl:=hasAllW_nil h2
 obtain ⟨xs,rfl,h3⟩:=hasW_list h1
 obtain ⟨ns,rfl⟩:=items_int h3
 have hlen:ns.length<=n:=by
  unfold OpenLaw.pre at hc
  have h4:(WTm.not (.lt (.lit (.int (n:Int))) (.len (.arg 0)))).holds [] { args:=[.list (ns.map .int)] }=true:=by
   have h4:=(holds_andW hc).1
   rw [hn] at h4
   exact h4
  have h5:=condW_of h4 (w_not (w_lt w_lit (w_len_list (w_arg rfl))))
  rw [List.length_map] at h5
  refine Nat.le_of_not_lt λq=>?_
  have q':(n:Int)<((ns.length:Nat):Int):=by omega
  first
   | (rw [decide_eq_true q'] at h5;exact absurd h5 (by decide))
   | (simp at h5;omega)
 cases hwl with
 | cons w1 w2=>
  cases w2
  cases w1 with
  | list ho hall=>exact ⟨_,_,ns,rfl,rfl,ho,ZcA ns _ hall,hlen⟩
theorem ZfU (l:OpenLaw) (args:List WData):l.row.toRowW.claim.post args (.bool true) args=true:=
 postW_of (r:=l.row.toRowW) (X:=(true == true))
  (show WShape.has [] (.bool true) .bool=true by first | rfl | decide | simp [WShape.has,WShape.arms,WShape.armsAll])
  (show (WTm.eq .res (.lit (.bool true))).value [] { args:=args,res:=some (.bool true),after:=args }=some (.bool (true == true)) from w_eq_bool (w_res rfl) w_lit) rfl
theorem attach_call {l:OpenLaw} {n:Nat} {q:Program} {loose:List Str} {XP:(Str->Option Value)->Heap->Prop} {YP:World->Heap->Prop} {d:DefRec}
  (hn:l.most=some n) (hdf:d.params.defaults=[])
  (call:∀ (w:World) (s₀ s₁:Shared) (mg mb:Str->Option Value) (fa:Addr) (o:Obj) (pm cd doc:Value) (a:Addr) (vs:List Value) (ns:List Int),
   Ground q loose [] XP w s₀ mg mb s₁.heap->YP w s₁.heap ->
   s₁.heap.get? fa=some o->o.data=.func (docDef d.name d.params d.body d.scope pm cd doc)->s₁.heap.CodeRec cd d.name->mg d.name=some (.ref fa) ->
   s₁.heap.get? a=some { cls:=.type "list", data:=.seq vs.toArray }->IntsAre vs ns->ns.length<=n->s₁.gens=#[] ->
   codeAny (model l.prog w) callerA (.call (.ref fa) ⟨[.ref a],[]⟩) (λr s'=>r=.ok (.ret (.bool true))/\OldK s₁.heap s'.heap/\s'.os=s₁.os/\AllBare s'.gens) s₁) :
  WalkO q loose XP YP l.row.toRowW d [] (λf vs=>PySem.call f vs):=by
 intro w s₀ s₁ mg mb G Y fa o pm cd doc dV kV ho hd hcd hD hmg hg args vals as hpre hlay hrd hwl hlo
 obtain rfl:dV=.none:=Dflts.none hD hdf
 obtain rfl:kV=.none:=Dflts.noKw hD
 obtain ⟨a,vs,ns,rfl,rfl,hobj,hints,hlen⟩:=ZfT hn hpre hwl
 refine enter_call (codeAny_mono (call w s₀ s₁ mg mb fa o pm cd doc a vs ns G Y ho (fd_plain hd) hcd hmg hobj hints hlen hg) λr s' hq=>?_)
 obtain ⟨rfl,h2,h3,h4⟩:=hq
 exact ⟨.inl ⟨.bool true,.bool true,[],rfl,λ_=>rfl,.bool true,ZfU l _,λ_=>⟨List.Pairwise.nil,λ_ hm=>(nomatch hm)⟩⟩,h2,h3,h4⟩
section
variable {prog:Program} {w:World} {A:Around} {E:Value->Shared->Prop} {s:Shared} {K:Frag}
def ZlH (h:Heap):Heap:={ h with objs:=#[] }
def ZlI (h:Heap) (L d:Addr):List (Addr×Obj):=(List.range h.objs.size).filterMap λa=>if a=L\/a=d then none else (h.get? a).map λo=>(a,o)
end
end Att
namespace L2
open PySem PySem.Spec PyProof.Rows
theorem ZcB:∀ {vs:List Value} {ns:List Int},IntsAre vs ns->Vals (ns.map V.int) vs
 | _,_,.nil=>.nil
 | _,_,.cons n t h=>.cons ⟨t,rfl⟩ (ZcB h)
def Znm (H:Hp):Prop:=∀ b,H b=none\/∃ o xs,H b=some (.frz o (.lst xs))
end L2
namespace L2
open PySem PySem.Spec PyProof.Rows
abbrev KOf {K:PySem.W.Frag} {h:Heap} (_:K.In h):PySem.W.Frag:=K
end L2
/- THE LAST THEOREM (shape;LID,My.* are yours):
  My.Adr: a structure of the addresses that your layer names (classes,functions);My.Txt K t: a structure (Prop) of the equations over K;
  My.txt_mk:{K} {implicit addresses ..} (e1:nsIn K mainGlobals "law" = some (some (.ref f))) (e2:K.lookup f=some ⟨oc,od,.func (fnOf "law" "law" params body scope dV kV doc pm an cdv ct),sl⟩) (e3:codeIn K cdv "law" = true) ..:∃ t,My.Txt K t
set_option maxRecDepth 100000 in
set_option maxHeartbeats 0 in
theorem PySem.Challenge.cw_LID_holds:PySem.Challenge.rw_LID.Holds:=by
 w_on;o_law;k_head;(case hw=>w_witness2)
 k_fill
 refine L2.walk_of (l:=PySem.Challenge.rw_LID) (n:=63) (k:=40) (x := "script") (CX:=λw=>..) (sp:=λ_=>My.sp_law) rfl (by decide) rfl ⟨rfl,by decide,by decide⟩ (λw h Y=>PySem.W.kIn_of Y) ?F ?S ?C
 case F=>
  intro w mg fa h KX G hmg
  have T:∃ t,My.Txt (L2.KOf KX) t:=by
   dsimp only [L2.KOf]                          -- K must stand as «<heap const> w.params» for k_is
   refine' My.txt_mk ?e1 ?e2 ?e3 ..
   (case e1=>PySem.W.k_is)                    -- in the order: a name->its address->its object->its parts
   (case e2=>PySem.W.k_is)
   ..
  obtain ⟨t,T⟩:=T
  have e0:=hmg.symm.trans (PySem.W.mg_of KX G T.law)
  cases e0                                       -- fa is the law's own address
  exact ⟨_,λs u=>.of_eq rfl,λbase kb nb=>My.law_fn T kb nb⟩     -- if «.of_eq rfl» comes too early: refine' ⟨_,?b,λbase kb nb=>My.law_fn T kb nb⟩;exact λs u=>.of_eq rfl
 case S=>exact λw H a ns hl hO hS=>..
 case C=>exact ..
(the tactic k_is has no namespace: write k_is) -/
namespace L2
open PySem PySem.Spec PyProof.Rows
def ZkU (s:Stmt) (j:Nat):Stmt:=match s with
 | .ClassDef _ _ _ body _ _ _ _ _ _ _=>body.getD j (.Pass ⟨0,0,0,0⟩)
 | _=>.Pass ⟨0,0,0,0⟩
def Zaz (s:Stmt):Arguments:=match s with
 | .FunctionDef _ a _ _ _ _ _ _ _ _=>a
 | _=>{ posonlyargs:=[],args:=[],vararg:=none,kwonlyargs:=[],kw_defaults:=[],kwarg:=none,defaults:=[] }
def Zav (s:Stmt):List Stmt:=match s with
 | .FunctionDef _ _ b _ _ _ _ _ _ _=>b
 | _=>[]
def Zaf (s:Stmt):Scope:=match s with
 | .FunctionDef _ _ _ _ _ _ sc _ _ _=>sc
 | _=>{ kind:=.function,names:=[],isGenerator:=false,isCoroutine:=false }
abbrev CX0:CXT:=λ_ _ _ _ _ _=>False
abbrev E0:XK:=λ_ _ _=>False
theorem ZaI {X:Cx}:ZfN CX0 X E0:=λ_ _ _ _ _ _ _ h=>h.elim
structure Fun (K:PySem.W.Frag) (x qual:Str) (st:Stmt) (f:Addr) (fd:FuncData):Prop where
 ex:∃ (oc:Value) (od:Option Addr) (kV doc pm:Value) (an:Option Addr) (cdv ct:Value) (osl:Array (Option Value)),
  fd=PySem.W.fnOf x qual (Zaz st) (Zav st) (Zaf st) .none kV doc pm an cdv ct/\K.lookup f=some ⟨oc,od,.func fd,osl⟩/\PySem.W.codeIn K cdv qual=true
 kp:PySem.W.keepIn K (.ref f)=true
section
variable {P:Program} {w:World} {K:PySem.W.Frag} {mg:Str->Option Value} {base:Heap}
theorem Fun.ok {x qual:Str} {st:Stmt} {f:Addr} {fd:FuncData} {N ps:List Str} {k:Nat} {sp:Sp} (F:Fun K x qual st f fd) (S:ZaA N ps (Zaf st)) (len:∀ vs H Q E,sp vs H Q E->vs.length=ps.length)
  (hbody:∀ (cdv:Value) (A:Around) (outer:List Env) (s:Shared) (H:Hp) (vs:List V) (Q:VK) (E:XK),Room k (A.deeper (envOfC qual (Zaf st) s.heap.objs.size f cdv))->sp vs H Q E ->
   ∃ t,PSs (ZgT CX0 P w K mg base N qual (Zaf st) f cdv A outer s H E).nox (Zav st) t/\t { nx:=λ_ H'=>Q .non H',rt:=Q } (start N vs) H):ZaX P w K mg base CX0 (k+1) f fd ps sp:=by
 obtain ⟨oc,od,kV,doc,pm,an,cdv,ct,osl,rfl,lk,hcd⟩:=F.ex
 refine Zh7 lk hcd S len λA outer s H vs Q E hr hsp=>?_
 obtain ⟨t,h,q⟩:=hbody cdv A outer s H vs Q E hr hsp
 exact ⟨t,h.nox,q⟩
theorem Fun.binds {x qual:Str} {st:Stmt} {f:Addr} {fd:FuncData} {ps:List Str} (F:Fun K x qual st f fd)
  (h:∀ (kV doc pm:Value) (an:Option Addr) (cdv ct:Value) (us:List Value),us.length=ps.length->bindArgs (PySem.W.fnOf x qual (Zaz st) (Zav st) (Zaf st) .none kV doc pm an cdv ct) ⟨us,[]⟩=pure (ps.zip us)):Binds K fd ps []:=by
 obtain ⟨oc,od,kV,doc,pm,an,cdv,ct,osl,rfl,lk,hcd⟩:=F.ex
 exact .all (h kV doc pm an cdv ct)
theorem ZaU {x qual:Str} {st:Stmt} {f:Addr} {oc:Value} {od an:Option Addr} {osl:Array (Option Value)} {kV doc pm cdv ct:Value} (l:K.lookup f=some ⟨oc,od,.func (PySem.W.fnOf x qual (Zaz st) (Zav st) (Zaf st) .none kV doc pm an cdv ct),osl⟩)
  (c:PySem.W.codeIn K cdv qual=true) (k:PySem.W.keepIn K (.ref f)=true):Fun K x qual st f (PySem.W.fnOf x qual (Zaz st) (Zav st) (Zaf st) .none kV doc pm an cdv ct):=⟨⟨oc,od,kV,doc,pm,an,cdv,ct,osl,rfl,l,c⟩,k⟩
end
section
variable {X:Cx}
theorem pv (i:Nat) {x:Str} {pos:Pos} (hN:X.N[i]?=some x:=by rfl) (hv:Vis X.env.scope x:=by first | exact Or.inl rfl | exact Or.inr (Or.inl rfl) | exact Or.inr (Or.inr rfl)) (hd:(x == ("__debug__" : Str))=false:=by decide)
  (hcd:(x == ("__classdict__" : Str))=false:=by decide):PE X (.Name x pos) (ZgQ i):=Zjc hN hv hd hcd
end
theorem ZcK {A B:Prop} (h:B):if false=true then A else B:=by
 rw [if_neg Bool.false_ne_true]
 exact h
theorem Zeb {A B:Prop} (h:A):if true=true then A else B:=by
 rw [if_pos rfl]
 exact h
theorem Zck {c A B:Prop} [Decidable c] (h1:c->A) (h2:¬ c->B):if c then A else B:=by
 by_cases h:c
 ·rw [if_pos h]
  exact h1 h
 ·rw [if_neg h]
  exact h2 h
def Same (H H':Hp):Prop:=∀ b o,H b=some o->H' b=some o
theorem Same.refl (H:Hp):Same H H:=λ_ _ h=>h
theorem Same.trans {H H1 H2:Hp} (a:Same H H1) (b:Same H1 H2):Same H H2:=λc o h=>b c o (a c o h)
theorem Same.free {H H':Hp} (e:Same H H') {l:Addr} (h:H' l=Option.none):H l=Option.none:=by
 cases q:H l with
 | none=>rfl
 | some o=>
  rw [e l o q] at h
  cases h
end L2
namespace L2
open PySem PySem.Spec PyProof.Rows
section
variable {prog:Program} {w:World} {A:Around} {R:Result->Shared->Prop} {s:Shared}
theorem ZdP {elt target iter:Expr} {ifs:List Expr} {scope:Scope} {pos:Pos} {it acc:Value} {env:Env} (I:Nat->Shared->Prop)
  (turn:∀ n s,I n s->wpAny (model prog w) A (pyNext it) (λr s1=>match r with
   | none=>R (.ok .next) s1
   | some v=>wpAny (model prog w) A (letOwnedTupleGo target it v) (λ_ s1'=>wpAny (model prog w) A (assign target env v) (λ_ s2=>
     wpAny (model prog w) A (forIn ifs true λc r=>if r=true then do let ok <- isTrue c env (eval c env);pure (ForInStep.yield ok) else pure (ForInStep.yield r)) (λok s3=>
      if ok=true then wpAny (model prog w) A (eval elt env) (λx s4=>
       wpAny (model prog w) A (call (.builtin "list.append") [acc,x]) (λ_ s5=>∃ m,m<n/\I m s5) (λ_ _=>False) s4) (λ_ _=>False) s3
      else ∃ m,m<n/\I m s3) (λ_ _=>False) s2) (λ_ _=>False) s1') (λ_ _=>False) s1) (λ_ _=>False) s)
  (n:Nat) (h:I n s) :
  codeAny (model prog w) A (.compLoop (.ListComp elt [⟨target,iter,ifs,0⟩] scope pos) 0 it acc env) R s:=by
 have ff:∀ {E:Value->Shared->Prop},∀ (x:Value) (s:Shared),(λ(_:Value) (_:Shared)=>False) x s->E x s:=λ_ _ z=>False.elim z
 refine codeAny_loop rfl I (λn s hI=>?_) n h
 show wpAny _ A ((compTurn (.ListComp elt [⟨target,iter,ifs,0⟩] scope pos) 0 it acc env).onRaise (λx=>do noteFrame x env;theTreesLotGoes x)) _ _ s
 refine wpAny_noted ?_
 rw [compTurn_list]
 refine wpAny_bind (wpAny_standAt (wpAny_bind (wpAny_mono (turn n s hI) (λr s1 h1=>?_) ff)))
 cases r with
 | none=>exact wpAny_pure h1
 | some v=>
  refine wpAny_bind (wpAny_mono h1 (λ_ s1' h1'=>?_) ff)
  refine wpAny_bind (wpAny_mono h1' (λ_ s2 h2=>wpAny_bind (wpAny_mono h2 (λok s3 h3=>?_) ff)) ff)
  cases ok with
  | false=>exact wpAny_pure ⟨rfl,h3⟩
  | true=>
   exact wpAny_bind (wpAny_bind (wpAny_mono h3 (λx s4 h4=>wpAny_bind (wpAny_mono h4 (λ_ s5 h5=>wpAny_pure (wpAny_pure ⟨rfl,h5⟩)) ff)) ff))
end
def Cx.comp (X:Cx) (scope:Scope) (cl:List (Str×Addr)) (N:List Str) (C:Addr) (s:Shared) (H:Hp) (fp:List Addr):Cx:=
 { X with N:=N,s₀:=s,H₀:=H,env:=compEnvC scope cl C X.env,outer:=X.stack,ex:=fp,fn:=λ_=>false,pn:=[],xe:=λ_ _=>False }
def Zju (X:Cx) (ifs:List Expr) (t:TT):Prop:=
 ∀ (pins:List (Addr×Obj)) (s:Shared) (σ:St) (H:Hp) (Q:Bool->Hp->Prop),Inv X pins σ H s->t σ H Q ->
  wpAny (model X.prog X.w) X.A (forIn ifs true λc r=>if r=true then do let ok <- isTrue c X.env (eval c X.env);pure (ForInStep.yield ok) else pure (ForInStep.yield r)) (TP X pins σ Q) X.xe s
def Zie:TT:=λ_ H Q=>Q true H
theorem Zbz {X:Cx}:Zju X [] Zie:=λ_ _ _ H _ I h=>wpAny_tests_nil ⟨H,I,h⟩
theorem ZbT {X:Cx} {c:Expr} {t:TT} (h:PT X c t):Zju X [c] t:=λpins s σ H Q I hw=>wpAny_tests_one (h pins s σ H Q I hw)
structure Zba (X:Cx) (scope:Scope) (cl:List (Str×Addr)) (own:List Str) (fr:List (Str×Nat)):Prop where
 clos:closureFor scope X.env=pure cl
 nocell:∀ y∈scope.names,y.2≠.cell
 kind:scope.kind=.function
 names:∀ y∈scope.names,y.2=.local->scope.names.lookup y.1=some .local
 cls:∀ y c,cl.lookup y=some c->X.env.cells.lookup y=some c
 has:∀ y,((relabel scope X.env).names.lookup y=some .cell\/(relabel scope X.env).names.lookup y=some .free)->∃ c,cl.lookup y=some c
 free:∀ p∈fr,X.N[p.2]?=some p.1/\(X.env.kindOf p.1=some .cell\/X.env.kindOf p.1=some .free)/\((relabel scope X.env).names.lookup p.1=some .cell\/(relabel scope X.env).names.lookup p.1=some .free)
def ZbK (own:List Str) (fr:List (Str×Nat)) (σ:St):St:=own.map (λ_=>none)++fr.map λp=>(σ[p.2]?).join
def ZcS:St->St->Prop
 | [],[]=>True
 | none::r,_::r'=>ZcS r r'
 | some v::r,some v'::r'=>v=v'/\ZcS r r'
 | _,_=>False
theorem ZbA:∀ {a b:St},ZcS a b->∀ (i:Nat) (v:V),a[i]?=some (some v)->b[i]?=some (some v)
 | [],[],_,i,v,h=>by simp at h
 | [],_::_,z,_,_,_=>z.elim
 | none::r,[],z,_,_,_=>z.elim
 | some _::r,[],z,_,_,_=>z.elim
 | some _::r,none::_,z,_,_,_=>z.elim
 | none::r,_::r',z,0,v,h=>by simp at h
 | none::r,_::r',z,i+1,v,h=>by
  have:=ZbA (a:=r) (b:=r') z i v (by simpa using h)
  simpa using this
 | some x::r,some x'::r',z,0,v,h=>by
  obtain ⟨e,_⟩:=z
  subst e
  simpa using h
 | some x::r,some x'::r',z,i+1,v,h=>by
  have:=ZbA (a:=r) (b:=r') z.2 i v (by simpa using h)
  simpa using this
def ZbU (J:It) (D:Addr) (g:TG) (tc:TT) (te:TE) (σ0:St) (W:Nat->Nat->List V->Hp->Prop) (R:Hp->Prop):Prop:=
 ∀ i m ys H2,W i m ys H2->(J.stop i H2/\R H2)\/(J.go i H2/\∃ N:List V->Hp->Prop,(∀ ys' H',N ys' H'->∃ m',m'<m/\W (i+1) m' ys' H')/\∀ x H3,J.yld i H2 x H3->g x σ0 H3 λσ4 H4=>ZcS σ0 σ4/\tc σ4 H4 λb H5=>
  if b=true then te σ4 H5 λy H6=>H6 D=some (.lst ys)/\ys.length<sizeLine/\N (ys++[y]) (upd H6 D (.lst (ys++[y])))
  else N ys H5)
def Zif (wi:TI) (g:TG) (tc:TT) (te:TE) (own:List Str) (fr:List (Str×Nat)):TE:=λσ H Q=>wi σ H λJ H1=>∀ D,H1 D=none ->
 ∃ W:Nat->Nat->List V->Hp->Prop,(∃ m,W 0 m [] (upd H1 D (.lst [])))/\ZbU J D g tc te (ZbK own fr σ) W λH2=>Q (.ref D) H2
section
variable {X:Cx} {target iter elt:Expr} {ifs:List Expr} {scope:Scope} {cl:List (Str×Addr)} {own:List Str} {fr:List (Str×Nat)} {pos:Pos} {wi:TI} {g:TG} {tc:TT} {te:TE}
theorem Inv.sub_pins {pins pins':List (Addr×Obj)} {σ:St} {H:Hp} {s:Shared} (I:Inv X pins σ H s) (h:∀ p∈pins',p∈pins):Inv X pins' σ H s:=I.pins_of λp hp=>I.pin p (List.mem_append_right _ (h p hp))
theorem Zig {pins:List (Addr×Obj)} {σ:St} {H:Hp} {s:Shared} {C:Addr} {fp:List Addr} (S:Zba X scope cl own fr) (I:Inv X pins σ H s) (hf:∀ b∈fp,ZgN X pins H b) (hC:s.heap.objs.size<=C) (hfl:∀ b∈fp,b<s.heap.objs.size) :
  (X.comp scope cl (own++fr.map (·.1)) C s H fp).Ok:=by
 refine ⟨I.ok.mod,?_,I.ok.glob,I.ok.blt,hC,λx y c h1 h2=>I.ok.inj x y c (S.cls x c h1) (S.cls y c h2),S.has,λx c z=>absurd z (by simp [Cx.comp]),I.ok.hd,I.ok.frames,.inl rfl,
  λb hb=>⟨Nat.ne_of_lt (Nat.lt_of_lt_of_le (hfl b hb) hC),λx c h=>(hf b hb).2.2.2.2.1 x c (S.cls x c h)⟩,I.bs,Nat.le_trans I.ok.bsz I.sz,λb o e hb=>?_,λb hb z=>?_,I.stack,I.stkFree⟩
 ·show (relabel scope X.env).kind=.function
  exact S.kind
 ·rcases (hf b hb).2.2.2.1 with z | z
  ·exact I.ok.noex b o e z
  ·exact absurd (Nat.lt_of_lt_of_le (Heap.lt_size e) (Nat.le_trans I.ok.bsz z)) (Nat.lt_irrefl _)
 ·rcases List.mem_cons.mp (I.stkSub b z) with q | q
  ·exact (hf b hb).2.1 q
  ·exact (hf b hb).2.2.1 q
theorem ZcT (own:List Str) (fr:List (Str×Nat)) (σ:St):(ZbK own fr σ).length=(own++fr.map (·.1)).length:=by
 unfold ZbK
 simp
theorem ZcU {pins:List (Addr×Obj)} {σ:St} {H:Hp} {s:Shared} {it:Addr} {fp:List Addr} {tn:Nat->Heap->Prop} {J:It} {E:Value->Shared->Prop} {RR:Value->Addr->Result->Shared->Prop} {Rf:Addr->Hp->Prop}
  (hc:X.calm=true) (S:Zba X scope cl own fr) (I:Inv X pins σ H s) (T:Zkr X.prog X.w X.K target J fp it tn) (st:tn 0 s.heap) (hf:∀ b∈fp,ZgN X pins H b)
  (hg:∀ C s H fp,PG (X.comp scope cl (own++fr.map (·.1)) C s H fp) target g) (ht:∀ C s H fp,Zju (X.comp scope cl (own++fr.map (·.1)) C s H fp) ifs tc) (he:∀ C s H fp,PE (X.comp scope cl (own++fr.map (·.1)) C s H fp) elt te)
  (hw:∀ D,H D=none->∃ W:Nat->Nat->List V->Hp->Prop,(∃ m,W 0 m [] (upd H D (.lst [])))/\ZbU J D g tc te (ZbK own fr σ) W (Rf D))
  (hRR:∀ D C s' H',s.heap.objs.size<=C->C≠D->(∃ m,s'.heap.Ns C m)->H' C=none->Un (frs X.stack) fp H H' s.heap s'.heap->HOk X.prog X.w H' s'.heap->AllBare s'.gens->s'.os=s.os->Rf D H'->RR (.ref D) C (.ok .next) s') :
  wpAny (model X.prog X.w) X.A (newList []) (λacc s3=>wpAny (model X.prog X.w) X.A (newFunctionEnv scope X.env.globals cl [] X.env.qual none .none (some X.env)) (λcenv s4=>
   codeAny (model X.prog X.w) X.A (.compStart (.ListComp elt [⟨target,iter,ifs,0⟩] scope pos) 0 (.ref it) acc { cenv with scope:=relabel scope X.env }) (RR acc cenv.locals) s4) E s3) E s:=by
 have hfl:∀ b∈fp,b<s.heap.objs.size:=λb hb=>by
  obtain ⟨o,e,_⟩:=T.obj 0 s.heap st b hb
  exact Heap.lt_size e
 have hD:H s.heap.objs.size=none:=I.fresh
 obtain ⟨W,⟨m0,w0⟩,turns⟩:=hw s.heap.objs.size hD
 have I1:Inv X pins σ (upd H s.heap.objs.size (.lst [])) { s with heap:=s.heap.push { cls:=.type "list", data:=.seq ([]:List Value).toArray },toks:=s.toks }:=I.lnew .nil (Nat.zero_le _)
 refine wpAny_newObj_type (wpAny_newFunctionEnv S.nocell (by intro y hy;simp at hy) (λh1 hns1 hsb1=>?_) S.kind)
 dsimp only at hns1 hsb1 ⊢
 generalize hH2:s.heap.push { cls:=.type "list", dict:=none,data:=.seq ([]:List Value).toArray }=H2 at hns1 hsb1 ⊢ I1
 have hCs:H2.objs.size=s.heap.objs.size+1:=by rw [<-hH2,Heap.size_push]
 have hCle:s.heap.objs.size<=H2.objs.size:=by omega
 have hDC:s.heap.objs.size≠H2.objs.size:=by omega
 have up1:∀ b o,H2.get? b=some o->h1.get? b=some o:=λb o e=>hsb1.extBut b o (Nat.ne_of_lt (Heap.lt_size e)) (Heap.get?_push_of_some _ e)
 have up:∀ b o,s.heap.get? b=some o->h1.get? b=some o:=λb o e=>up1 b o (hH2▸Heap.get?_push_of_some _ e)
 have okY:=Zig (C:=H2.objs.size) S I hf hCle hfl
 have I0:∀ tk,Inv (X.comp scope cl (own++fr.map (·.1)) H2.objs.size s H fp) [] (ZbK own fr σ) (upd H s.heap.objs.size (.lst [])) { s with heap:=h1,toks:=tk }:=by
  intro tk
  have hok1:HOk X.prog X.w (upd H s.heap.objs.size (.lst [])) h1:=I1.hok.kept up1
  refine ⟨okY,rfl,I.bare,⟨λb o e n _ _=>up b o e,λb o e n _ _=>⟨o.slots,up b o e⟩,λb o e n _=>?_,λb o e _=>⟨o,up b o e⟩,λb xs q=>?_,λb o u q=>?_,λb ps q=>⟨#[],?_⟩⟩,
   ⟨_,hns1,λi x v e1 e2 e3=>?_⟩,λx c e=>?_,?_,λx c e=>?_,λp hp=>?_,hok1,ZcT own fr σ⟩
  ·have e':s.heap.get? b=some o:=e
   show upd H s.heap.objs.size (.lst []) b=none
   rw [Zas (Nat.ne_of_lt (Heap.lt_size e'))];exact n
  ·rw [Zas (Zag q hD)];exact q
  ·rw [Zas (Zag q hD)];exact q
  ·have q':H b=some (.tbl ps):=q
   rw [Zas (Zag q' hD),q'];simp
  ·-- the free names
   have e2':(ZbK own fr σ)[i]?=some (some v):=e2
   have e1':(own++fr.map (·.1))[i]?=some x:=e1
   unfold ZbK at e2'
   by_cases hi:i<own.length
   ·rw [List.getElem?_append_left (by simpa using hi),List.getElem?_map] at e2'
    cases q:own[i]? with
    | none=>rw [q] at e2';cases e2'
    | some y=>rw [q] at e2';cases e2'
   ·rw [List.getElem?_append_right (by simpa using hi),List.length_map,List.getElem?_map] at e2'
    rw [List.getElem?_append_right (by omega),List.getElem?_map] at e1'
    cases q:fr[i-own.length]? with
    | none=>rw [q] at e2';cases e2'
    | some p=>
     rw [q] at e1' e2'
     have ex:p.1=x:=Option.some.inj e1'
     have ev:(σ[p.2]?).join=some v:=Option.some.inj e2'
     have ev':σ[p.2]?=some (some v):=by
      cases z:σ[p.2]? with
      | none=>rw [z] at ev;cases ev
      | some o=>rw [z] at ev;cases o with
       | none=>cases ev
       | some v'=>have:v'=v:=Option.some.inj ev;rw [this]
     obtain ⟨f1,f2,f3⟩:=S.free p (List.mem_of_getElem? q)
     subst ex
     obtain ⟨m,hn,hl⟩:=I.loc
     have vis:Vis X.env.scope p.1:=by
      rcases f2 with f2 | f2
      ·exact .inr (.inl f2)
      ·exact .inr (.inr f2)
     obtain ⟨u,ru,lk⟩:=hl p.2 p.1 v f1 ev' vis
     refine ⟨u,ru,?_⟩
     rcases lk with ⟨k,_⟩ | ⟨k,c,e,z⟩
     ·rcases f2 with f2 | f2 <;> (rw [f2] at k;cases k)
     ·obtain ⟨c',hc'⟩:=S.has p.1 f3
      have e':=S.cls _ _ hc'
      rw [e] at e';cases e'
      obtain ⟨oc,ho,hd⟩:=z
      exact .inr ⟨f3,c,hc',⟨oc,up _ _ ho,hd⟩⟩
  ·obtain ⟨v,oc,ho,hd⟩:=I.cell x c (S.cls x c e)
   exact ⟨v,oc,up _ _ ho,hd⟩
  ·show upd H s.heap.objs.size (.lst []) H2.objs.size=none
   rw [Zas (Ne.symm hDC)]
   exact I.hok.fresh hCle
  ·obtain ⟨v,z⟩:=I.cell x c (S.cls x c e)
   show upd H s.heap.objs.size (.lst []) c=none
   rw [Zas (Nat.ne_of_lt z.lt)]
   exact I.freeC x c (S.cls x c e)
  ·exact absurd (show p∈([]:List (Addr×Obj)) from hp) (by simp)
 have fpf:∀ b∈fp,upd H s.heap.objs.size (.lst []) b=none:=λb hb=>by rw [Zas (Nat.ne_of_lt (hfl b hb))];exact (hf b hb).1
 have st1:tn 0 h1:=T.keep 0 _ _ st λb hb o e=>up b o e
 have stat:∀ {H':Hp},(∀ b∈fp,H' b=none)->∀ b∈fp,ZgN (X.comp scope cl (own++fr.map (·.1)) H2.objs.size s H fp) [] H' b:=λhn b hb=>
  ⟨hn b hb,(okY.exf b hb).1,okY.exfs b hb,.inl hb,(okY.exf b hb).2,λp hp=>absurd (show p∈([]:List (Addr×Obj)) from hp) (by simp)⟩
 have loop:∀ s3:Shared,(∃ tk,s3={ s with heap:=h1,toks:=tk }) ->
   codeAny (model X.prog X.w) X.A (.compLoop (.ListComp elt [⟨target,iter,ifs,0⟩] scope pos) 0 (.ref it) (.ref s.heap.objs.size) (compEnvC scope cl H2.objs.size X.env)) (RR (.ref s.heap.objs.size) H2.objs.size) s3:=by
  rintro s3 ⟨tk,rfl⟩
  refine ZdP (λn s'=>∃ i ys H',Inv (X.comp scope cl (own++fr.map (·.1)) H2.objs.size s H fp) [] (ZbK own fr σ) H' s'/\tn i s'.heap/\(∀ b∈fp,H' b=none)/\W i n ys H') ?_ m0 ⟨0,[],_,I0 tk,st1,fpf,w0⟩
  rintro n s4 ⟨i,ys,H4,I4,st4,fr4,w4⟩
  rcases turns i n ys H4 w4 with ⟨stop,q⟩ | ⟨go,N,hN,step⟩
  ·refine thn (T.done (X.comp scope cl (own++fr.map (·.1)) H2.objs.size s H fp) rfl rfl rfl hc i [] s4 _ H4 _ I4 (stat fr4) st4 stop) λr s5 ⟨hr,I5⟩=>?_
   subst hr
   exact hRR _ _ s5 H4 hCle (Ne.symm hDC) ⟨_,I5.loc.choose_spec.1⟩ I5.free I5.base I5.hok I5.bare I5.os q
  ·refine thn (T.item (X.comp scope cl (own++fr.map (·.1)) H2.objs.size s H fp) rfl rfl rfl hc i [] s4 _ H4 _ I4 (stat fr4) st4 go) λr s5 ⟨u,hr,h5⟩=>?_
   subst hr
   refine thn h5 λ_ s6 ⟨x,H6,I6,r6,y6,st6,fr6⟩=>?_
   have I6':=I6.pinned (stat fr6) (T.obj _ _ st6)
   refine thn (hg H2.objs.size s H fp _ s6 _ H6 x u _ I6' r6 (step x H6 y6)) λ_ s7 ⟨σ7,H7,I7,k7,q7⟩=>?_
   refine thn (ht H2.objs.size s H fp _ s7 σ7 H7 _ I7 q7) λok s8 ⟨H8,I8,q8⟩=>?_
   have again:∀ {s9:Shared} {σ9:St} {H9:Hp} {zs:List V},Inv (X.comp scope cl (own++fr.map (·.1)) H2.objs.size s H fp) ([]++ZdD fp s6.heap) σ9 H9 s9->(∀ (i:Nat) v,(ZbK own fr σ)[i]?=some (some v)->σ9[i]?=some (some v))->(∃ m',m'<n/\W (i+1) m' zs H9) ->
     ∃ m,m<n/\∃ i ys H',Inv (X.comp scope cl (own++fr.map (·.1)) H2.objs.size s H fp) [] (ZbK own fr σ) H' s9/\tn i s9.heap/\(∀ b∈fp,H' b=none)/\W i m ys H':=by
    intro s9 σ9 H9 zs I9 hσ ⟨m',hm,w9⟩
    refine ⟨m',hm,i+1,zs,H9,(I9.sub_pins (λp hp=>absurd (show p∈([]:List (Addr×Obj)) from hp) (by simp))).weak ?_ hσ,T.keep _ _ _ st6 λb hb o e=>(I9.pin (b,o) (List.mem_append_right _ (List.mem_append_right _ (Zby hb e)))).1,λb hb=>?_,w9⟩
    ·rw [I9.len];exact ZcT own fr σ
    ·obtain ⟨o,e,d⟩:=T.obj _ _ st6 b hb
     exact (I9.pin (b,o) (List.mem_append_right _ (List.mem_append_right _ (Zby hb e)))).2.1
   cases ok with
   | false=>exact (if_neg Bool.false_ne_true).mpr (again I8 (ZbA k7) (hN _ _ ((if_neg Bool.false_ne_true).mp q8)))
   | true=>
    refine (if_pos rfl).mpr ?_
    have q8':=(if_pos rfl).mp q8
    refine thn (he H2.objs.size s H fp _ s8 σ7 H8 _ I8 q8') λy s9 ⟨yv,H9,I9,r9,hD9,hz,q9⟩=>?_
    refine thn (Za4 _ s9 σ7 H9 (.ref s.heap.objs.size) [yv] (.ref s.heap.objs.size) [y] (λ_ H'=>H'=upd H9 s.heap.objs.size (.lst (ys++[yv]))) I9 rfl (.cons r9 .nil) ⟨_,ys,yv,rfl,rfl,hD9,hz,rfl⟩) λ_ s10 ⟨_,H10,I10,_,e10⟩=>?_
    subst e10
    exact again I10 (ZbA k7) (hN _ _ q9)
 exact codeAny_compStart_list (loop _ ⟨_,rfl⟩) (T.self _ 0 _ _ _ st1 (loop _ ⟨_,rfl⟩))
theorem ZcV {pins:List (Addr×Obj)} {σ:St} {H H':Hp} {s s':Shared} {fp:List Addr} (I:Inv X pins σ H s) (hf:∀ b∈fp,ZgN X pins H b) (un:Un (frs X.stack) fp H H' s.heap s'.heap)
  (hok:HOk X.prog X.w H' s'.heap) (bare:AllBare s'.gens) (os:s'.os=s.os):Inv X pins σ H' s':=
 I.call' os un hok bare λb hb=>⟨(hf b hb).2.2.2.1,(hf b hb).2.1,(hf b hb).2.2.2.2.1,(hf b hb).2.2.2.2.2⟩
theorem ZeF {pins:List (Addr×Obj)} {σ σ':St} {H H':Hp} {s s':Shared} {C:Addr} {h':Heap} (I:Inv X pins σ H s) (hC:s.heap.objs.size<=C) (hn:H' C=none) (I':Inv X pins σ' H' s') (sb:Heap.SameBut C s'.heap h') :
  Inv X pins σ' H' { s' with heap:=h' }:=by
 obtain ⟨f0,f1,f2,f3,f4,f5⟩:=I.fpOk hC hn
 exact I'.turned (t':=s'.toks) (λb o hb e=>(sb.2 b hb).trans e) f0 f1 f3 f4 f5
theorem Zbs (hc:X.calm=true) (S:Zba X scope cl own fr) (hi:PI X target iter wi)
  (hg:∀ C s H fp,PG (X.comp scope cl (own++fr.map (·.1)) C s H fp) target g) (ht:∀ C s H fp,Zju (X.comp scope cl (own++fr.map (·.1)) C s H fp) ifs tc) (he:∀ C s H fp,PE (X.comp scope cl (own++fr.map (·.1)) C s H fp) elt te)
  (hs:∀ x,foldedSetIterable iter X.env x=pure x:=by intro _;rfl):PE X (.ListComp elt [⟨target,iter,ifs,0⟩] scope pos) (Zif wi g tc te own fr):=by
 intro pins s σ H Q I h
 rw [eval_ListComp]
 refine wpAny_comprehension_free (use:=none) rfl hs S.clos S.kind S.names (thn (hi pins s σ H _ I h) λv s1 h1=>thn h1 λitv s2 h2=>?_)
 obtain ⟨it,fp,tn,J,H2,e,I2,T,st2,f2,hw⟩:=h2
 subst e
 refine ZcU (RR:=λacc C=>compPost (model X.prog X.w) X.A X.xe none (EP X pins σ Q) acc C) hc S I2 T st2 f2 hg ht he hw ?_
 rintro D C s' H' hC hDC ⟨m,hn⟩ hCf un hok bare os q
 refine ⟨m,hn,λh' hs'=>⟨.ref D,H',?_,rfl,q⟩⟩
 exact ZeF (C:=C) (σ:=σ) I2 hC hCf (ZcV I2 f2 un hok bare os) hs'
theorem Zej {i:Nat} {y:Str} {py spos:Pos} (hN:X.N.Nodup) (hi':X.N[i]?=some y) (hx:Loc X.env.scope y) (hc:X.calm=true) (S:Zba X scope cl own fr) (hi:PI X target iter wi)
  (hg:∀ C s H fp,PG (X.comp scope cl (own++fr.map (·.1)) C s H fp) target g) (ht:∀ C s H fp,Zju (X.comp scope cl (own++fr.map (·.1)) C s H fp) ifs tc) (he:∀ C s H fp,PE (X.comp scope cl (own++fr.map (·.1)) C s H fp) elt te)
  (hf:X.fn y=true\/X.env.scope.names.lookup y=some .local:=by first | exact .inl rfl | exact .inr rfl | assumption)
  (hsw:swapsWith (.ListComp elt [⟨target,iter,ifs,0⟩] scope pos) (some (.Name y py)) spos.line X.env=pure true:=by rfl)
  (hs:∀ x,foldedSetIterable iter X.env x=pure x:=by intro _;rfl):PS X (.Assign [.Name y py] (.ListComp elt [⟨target,iter,ifs,0⟩] scope pos) spos) (ZkG (Zif wi g tc te own fr) (Za2 i)):=by
 intro pins s σ H Dn I h
 rw [exec_Assign_Name_used _ _ _ _ hsw]
 refine wpAny_bind (wpAny_standAt (wpAny_bind ?_))
 show wpAny _ X.A (do let _ <- comprehension (.ListComp elt [⟨target,iter,ifs,0⟩] scope pos) scope X.env _ (newList []) false (eval iter X.env) (some (assign (.Name y py) X.env))) _ _ s
 refine wpAny_bind (wpAny_mono (wpAny_comprehension_free (use:=some (assign (.Name y py) X.env)) (Q:=λ_ s'=>SP X pins Dn .next s') rfl hs S.clos S.kind S.names (thn (hi pins s σ H _ I h) λv s1 h1=>thn h1 λitv s2 h2=>?_))
  (λ_ s' hq=>wpAny_pure (wpAny_pure hq)) λ_ _ e=>e)
 obtain ⟨it,fp,tn,J,H2,e,I2,T,st2,f2,hw⟩:=h2
 subst e
 refine ZcU (RR:=λacc C=>compPost (model X.prog X.w) X.A X.xe (some (assign (.Name y py) X.env)) (λ_ s'=>SP X pins Dn .next s') acc C) hc S I2 T st2 f2 hg ht he hw ?_
 rintro D C s' H' hC hDC ⟨m,hn⟩ hCf un hok bare os q
 have I3:Inv X pins σ H' s':=ZcV I2 f2 un hok bare os
 show wpAny _ X.A (assign (.Name y py) X.env (.ref D)) _ _ s'
 refine wpAny_assign_Name (ZdB I3 hN hi' hx (v:=.ref D) rfl (λs4 I4 ⟨a,hsa,ha⟩=>?_) hf)
 have hCa:C≠a:=by
  rcases ha with z | z
  ·rw [z];exact Nat.ne_of_gt (Nat.lt_of_lt_of_le I2.lt hC)
  ·obtain ⟨v,q⟩:=I2.cell y a z
   exact Nat.ne_of_gt (Nat.lt_of_lt_of_le q.lt hC)
 refine ⟨m,hn.sameBut hsa hCa,λh' hs'=>⟨_,H',ZeF (C:=C) (σ:=σ) I2 hC hCf I4 hs',q⟩⟩
end
theorem Za0 {K:PySem.W.Frag} {a D:Addr} {xs:List V} {g:TG} {tc:TT} {te:TE} {σ0:St} {R:Hp->Prop} {H1:Hp} (Pv:Nat->List V->Hp->Prop) (h0:Pv 0 [] (upd H1 D (.lst []))) (hl:∀ i ys H,i<=xs.length->Pv i ys H->SqL K H a xs)
  (hs:∀ i x ys H,xs[i]?=some x->Pv i ys H->g x σ0 H λσ4 H4=>ZcS σ0 σ4/\tc σ4 H4 λb H5=>if b=true then te σ4 H5 λy H6=>H6 D=some (.lst ys)/\ys.length<sizeLine/\Pv (i+1) (ys++[y]) (upd H6 D (.lst (ys++[y]))) else Pv (i+1) ys H5)
  (hd:∀ ys H,Pv xs.length ys H->R H):∃ W:Nat->Nat->List V->Hp->Prop,(∃ m,W 0 m [] (upd H1 D (.lst [])))/\ZbU (Itl K a) D g tc te σ0 W R:=by
 refine ⟨λi m ys H=>m=xs.length-i/\i<=xs.length/\Pv i ys H,⟨_,rfl,Nat.zero_le _,h0⟩,?_⟩
 rintro i m ys H ⟨rfl,hi,p⟩
 have q:=hl i ys H hi p
 by_cases hlt:i<xs.length
 ·refine .inr ⟨⟨xs,xs[i],q,by simp [hlt]⟩,Pv (i+1),λys' H' p'=>⟨xs.length-(i+1),by omega,rfl,hlt,p'⟩,λx H' y=>?_⟩
  obtain ⟨e,y⟩:=y
  subst e
  exact hs i x ys _ (y xs q) p
 ·have e:i=xs.length:=by omega
  subst e
  exact .inl ⟨⟨xs,q,Nat.le_refl _⟩,hd ys H p⟩
theorem Zb7 {lo:Int} {n:Nat} {D:Addr} {g:TG} {tc:TT} {te:TE} {σ0:St} {R:Hp->Prop} {H1:Hp} (Pv:Nat->List V->Hp->Prop) (h0:Pv 0 [] (upd H1 D (.lst [])))
  (hs:∀ i ys H,i<n->Pv i ys H->g (.int (lo+i)) σ0 H λσ4 H4=>ZcS σ0 σ4/\tc σ4 H4 λb H5=>if b=true then te σ4 H5 λy H6=>H6 D=some (.lst ys)/\ys.length<sizeLine/\Pv (i+1) (ys++[y]) (upd H6 D (.lst (ys++[y]))) else Pv (i+1) ys H5)
  (hd:∀ ys H,Pv n ys H->R H):∃ W:Nat->Nat->List V->Hp->Prop,(∃ m,W 0 m [] (upd H1 D (.lst [])))/\ZbU (Itr lo n) D g tc te σ0 W R:=by
 refine ⟨λi m ys H=>m=n-i/\i<=n/\Pv i ys H,⟨_,rfl,Nat.zero_le _,h0⟩,?_⟩
 rintro i m ys H ⟨rfl,hi,p⟩
 by_cases hlt:i<n
 ·refine .inr ⟨hlt,Pv (i+1),λys' H' p'=>⟨n-(i+1),by omega,rfl,hlt,p'⟩,λx H' y=>?_⟩
  obtain ⟨e,y⟩:=y
  subst e y
  exact hs i ys _ hlt p
 ·have e:i=n:=by omega
  subst e
  exact .inl ⟨Nat.le_refl _,hd ys H p⟩
theorem Zbt {X:Cx} {scope:Scope} {own:List Str} (hf:∀ y∈scope.names,y.2≠.free) (hc:∀ y∈scope.names,y.2≠.cell) (hk:scope.kind=.function) (hn:∀ y∈scope.names,y.2=.local->scope.names.lookup y.1=some .local):Zba X scope [] own []:=by
 have rel:(relabel scope X.env).names=scope.names:=by
  unfold relabel
  dsimp only
  refine (List.map_congr_left λp hp=>?_).trans (List.map_id _)
  obtain ⟨n,k⟩:=p
  have:(k == NameKind.free)=false:=by
   have:=hf _ hp
   cases k <;> first | rfl | exact absurd rfl this
  simp [this]
 refine ⟨closureFor_none hf,hc,hk,hn,λy c h=>by simp at h,λy h=>?_,λp hp=>by simp at hp⟩
 rw [rel] at h
 rcases h with h | h
 ·exact absurd rfl (hc _ (PySem.mem_of_lookup h))
 ·exact absurd rfl (hf _ (PySem.mem_of_lookup h))
end L2
namespace L2
open PySem PySem.Spec PyProof.Rows
def Zfc (a C:Addr) (h:Heap):Prop:=∃ ob vs,h.get? a=some ob/\ob.cls=.ref C/\ob.data=.fields vs
def ZgW (a C:Addr):HO:=.ext (Zfc a C)
theorem Zih {P:Program} {w:World} {H:Hp} {h:Heap} {a C:Addr} (x:Zfc a C h):ObjOk P w H h a (ZgW a C):=by
 refine ⟨x,?_,λh1 h2 p k=>?_⟩
 ·obtain ⟨ob,_,e,_⟩:=x
  exact ⟨ob,e⟩
 ·obtain ⟨ob,vs,e,c,d⟩:=p
  exact ⟨ob,vs,k ob e,c,d⟩
theorem ObjOk.there {P:Program} {w:World} {H:Hp} {h:Heap} {a:Addr} {u:HO} (ok:ObjOk P w H h a u):∃ v,h.get? a=some v:=by
 cases u with
 | lst xs=>obtain ⟨_,_,_,_,e⟩:=ok;exact ⟨_,e⟩
 | tup xs=>obtain ⟨_,_,_,o,e,_⟩:=ok;exact ⟨_,e⟩
 | dK kvs=>obtain ⟨_,_,_,_,o,_,_,e,_⟩:=ok;exact ⟨_,e⟩
 | dT kvs=>obtain ⟨_,_,_,_,o,_,_,e,_⟩:=ok;exact ⟨_,e⟩
 | set S n=>obtain ⟨o,_,_,_,e,_⟩:=ok;exact ⟨_,e⟩
 | ins C dx fs=>obtain ⟨_,_,_,e,_⟩:=ok;exact ⟨_,e⟩
 | own y=>obtain ⟨_,e⟩:=ok;exact ⟨_,e⟩
 | xd fs=>obtain ⟨_,⟨_,_,_,e,_⟩,_⟩:=ok;exact ⟨_,e⟩
 | rng lo hi=>obtain ⟨_,_,_,e⟩:=ok;exact ⟨_,e⟩
 | frz ob u=>obtain ⟨e,_⟩:=ok;exact ⟨_,e⟩
 | tbl ps=>exact ⟨_,show h.get? a=some _ from ok⟩
 | met f y=>exact ⟨_,show h.get? a=some _ from ok⟩
 | ext φ=>obtain ⟨_,⟨_,e⟩,_⟩:=ok;exact ⟨_,e⟩
def ZkV (P:Program) (w:World) (outer:List Env) (H H':Hp) (s:Shared) (a C:Addr) (s':Shared):Prop:=
 ∃ (t:Addr) (B:Heap),s'.os=s.os/\AllBare s'.gens/\Un (frs outer) [] H H' s.heap s'.heap/\HOk P w H' s'.heap/\Heap.FlyingW B outer a (.ref C) (.ref t) s'.heap /\
  (∀ b o,s'.heap.get? b=some o->H' b≠none->B.get? b=some o)/\(∀ b o0 o,s.heap.get? b=some o0->s'.heap.get? b=some o->b ∉ frs outer->B.get? b=some o)
def CXr (P:Program) (w:World):CXT:=λouter H s E e s'=>∃ (a C:Addr) (H':Hp),e=.ref a/\ZkV P w outer H H' s a C s'/\E (.ref C) none H'
section
variable {X:Cx} {pins:List (Addr×Obj)} {σ:St} {H:Hp} {s:Shared}
def ZeG (X:Cx) (E:XK):Prop:=∀ (pins:List (Addr×Obj)) (σ:St) (H:Hp) (s:Shared) (h':Heap) (a C:Addr) (vs:List Value),Inv X pins σ H s->Heap.MadeExcOf s.heap h' a (.ref C) vs->E (.ref C) none H->X.xe (.ref a) { s with heap:=h' }
theorem ZdQ {P:Program} {w:World} {K:PySem.W.Frag} {mg:Str->Option Value} {base:Heap} {N:List Str} {qual:Str} {scope:Scope} {f:Addr} {cd:Value} {A:Around} {outer:List Env} {s:Shared} {H:Hp} {E:XK} :
  ZeG (ZgT (CXr P w) P w K mg base N qual scope f cd A outer s H E) E:=by
 intro pins σ H1 s1 h' a C vs I hx hE
 have hfr:=I.ok.frames
 have hst:s1.heap.FunFrames base (envOfC qual scope s.heap.objs.size f cd::outer):=I.stack
 have hin:∀ env∈(envOfC qual scope s.heap.objs.size f cd::outer),∀ b,env.frame=some b->b∈frs (envOfC qual scope s.heap.objs.size f cd::outer):=λenv he b hb=>List.mem_filterMap.mpr ⟨env,he,hb⟩
 have inB:∀ b o,s1.heap.get? b=some o->b ∉ frs (envOfC qual scope s.heap.objs.size f cd::outer)->(PySem.W.hideAll s1.heap (frs (envOfC qual scope s.heap.objs.size f cd::outer))).get? b=some o:=λb o e n=>PySem.W.hideAll_get _ e n
 refine wpAny_leaves_madeW (base:=PySem.W.hideAll s1.heap (frs (envOfC qual scope s.heap.objs.size f cd::outer))) hfr rfl (λb o q=>PySem.W.of_hideAll _ q) (PySem.W.funFrames_hide hst hin) hx λh2 t fl tu tn sm=>?_
 refine ⟨a,C,H1,rfl,⟨t,_,I.os,I.bare,⟨λb o e n hb _=>?_,λb o e n hb _=>?_,λb o e n _=>?_,λb o e _=>?_,I.base.tups,I.base.frzs,I.base.tbls⟩,λb u e=>?_,fl,λb o e n=>?_,λb o0 o e0 e nb=>?_⟩,hE⟩
 ·have e1:s1.heap.get? b=some o:=I.base.keep b o e n hb (by intro z;exact absurd (show b∈([]:List Addr) from z) (by simp))
  refine fl.1 b o (inB b o e1 λz=>?_)
  rcases List.mem_cons.mp (I.stkSub b z) with q | q
  ·exact absurd (Nat.lt_of_lt_of_le (Heap.lt_size e) I.ok.above) (by rw [q];exact Nat.lt_irrefl _)
  ·exact hb q
 ·obtain ⟨sl,e1⟩:=I.base.slot b o e n hb (by intro z;exact absurd (show b∈([]:List Addr) from z) (by simp))
  have nf:∀ vs,o.data≠.fields vs:=by
   obtain ⟨_,o',ho',hnf⟩:=I.funs.mem (show b∈(outer.filterMap (·.frame)) from hb)
   rw [e1] at ho';cases ho'
   exact hnf
  obtain ⟨sl',e2⟩:=sm b { o with slots:=sl } (hx.keeps b _ e1) nf
  exact ⟨sl',e2⟩
 ·exact I.base.free b o e n (by intro z;exact absurd (show b∈([]:List Addr) from z) (by simp))
 ·obtain ⟨o1,e1⟩:=I.base.there b o e (by intro z;exact absurd (show b∈([]:List Addr) from z) (by simp))
  by_cases hb:b∈frs (envOfC qual scope s.heap.objs.size f cd::outer)
  ·obtain ⟨_,o',ho',hnf⟩:=hst.mem hb
   rw [e1] at ho';cases ho'
   obtain ⟨sl',e2⟩:=sm b o1 (hx.keeps b _ e1) hnf
   exact ⟨_,e2⟩
  ·exact ⟨o1,fl.1 b o1 (inB b o1 e1 hb)⟩
 ·have trk:∀ c v,s1.heap.get? c=some v->H1 c≠none->h2.get? c=some v:=λc v q hc=>fl.1 c v (inB c v q λz=>hc (I.stkFree c z))
  refine (I.hok b u e).stay (λc v hc q=>trk c v q ?_) (λ_ q=>q) λ_ _ q=>q
  rcases hc with z | z
  ·rw [z,e];simp
  ·rw [z];simp
 ·cases q':H1 b with
  | none=>exact absurd q' n
  | some u=>
   obtain ⟨v,q⟩:=(I.hok b u q').there
   have nb:b ∉ frs (envOfC qual scope s.heap.objs.size f cd::outer):=λz=>n (I.stkFree b z)
   have e2:=fl.1 b v (inB b v q nb)
   rw [e] at e2;cases e2
   exact inB b _ q nb
 ·obtain ⟨o1,e1⟩:=I.base.there b o0 e0 (by intro z;exact absurd (show b∈([]:List Addr) from z) (by simp))
  have nb':b ∉ frs (envOfC qual scope s.heap.objs.size f cd::outer):=λz=>by
   rcases List.mem_cons.mp (I.stkSub b z) with q | q
   ·exact absurd (Nat.lt_of_lt_of_le (Heap.lt_size e0) I.ok.above) (by rw [q];exact Nat.lt_irrefl _)
   ·exact nb q
  have e2:=fl.1 b o1 (inB b o1 e1 nb')
  have e':h2.get? b=some o:=e
  rw [e'] at e2;cases e2
  exact inB b _ e1 nb'
theorem ZgX {P:Program} {w:World} {outer:List Env} {H H':Hp} {s s':Shared} {a C t:Addr} {B h2:Heap} (un:Un (frs outer) [] H H' s.heap s'.heap) (hok:HOk P w H' s'.heap) (fr:s'.heap.FunFrames B outer)
  (trk:∀ b o,s'.heap.get? b=some o->H' b≠none->B.get? b=some o) (old:∀ b o0 o,s.heap.get? b=some o0->s'.heap.get? b=some o->b ∉ frs outer->B.get? b=some o) (st:B.StaysIn h2) (sm:s'.heap.UpToSlots h2) :
  Un (frs outer) [] H H' s.heap h2/\HOk P w H' h2:=by
 refine ⟨⟨λb o e n hb hx=>st b o (old b o o e (un.keep b o e n hb hx) hb),λb o e n hb hx=>?_,un.free,λb o e hx=>?_,un.tups,un.frzs,un.tbls⟩,λb u e=>?_⟩
 ·obtain ⟨sl,e1⟩:=un.slot b o e n hb hx
  obtain ⟨_,o',ho',hnf⟩:=fr.mem hb
  rw [e1] at ho';cases ho'
  obtain ⟨sl',e2⟩:=sm b _ e1 hnf
  exact ⟨sl',e2⟩
 ·obtain ⟨o1,e1⟩:=un.there b o e hx
  by_cases hb:b∈frs outer
  ·obtain ⟨_,o',ho',hnf⟩:=fr.mem hb
   rw [e1] at ho';cases ho'
   obtain ⟨sl',e2⟩:=sm b _ e1 hnf
   exact ⟨_,e2⟩
  ·exact ⟨o1,st b o1 (old b o o1 e e1 hb)⟩
 ·refine (hok b u e).stay (λc v hc q=>st c v (trk c v q ?_)) (λ_ q=>q) λ_ _ q=>q
  rcases hc with z | z
  ·rw [z,e];simp
  ·rw [z];simp
theorem Inv.track {a:Addr} {u:HO} (I:Inv X pins σ H s) (hn:H a=none) (f1:a≠X.env.locals) (f4:∀ x c,X.env.cells.lookup x=some c->c≠a) (f5:∀ p∈X.pn++pins,p.1≠a) (hs:X.s₀.heap.get? a=none)
  (ok:∀ H',ObjOk X.prog X.w H' s.heap a u):Inv X pins σ (upd H a u) s:=by
 refine ⟨I.ok,I.os,I.bare,⟨I.base.keep,I.base.slot,λb o e n z=>?_,I.base.there,λb xs e=>?_,λb o x e=>?_,λb ps e=>?_⟩,I.loc,I.cell,?_,λx c e=>?_,λp hp=>?_,λb v e=>?_,I.len⟩
 ·rw [Zas (show b≠a from λq=>by rw [q,hs] at e;cases e)]
  exact I.base.free b o e n z
 ·have:=I.base.tups b xs e
  rw [Zas (Zag this hn)];exact this
 ·have:=I.base.frzs b o x e
  rw [Zas (Zag this hn)];exact this
 ·obtain ⟨more,this⟩:=I.base.tbls b ps e
  exact ⟨more,by rw [Zas (Zag this hn)];exact this⟩
 ·rw [Zas (Ne.symm f1)];exact I.free
 ·rw [Zas (f4 x c e)];exact I.freeC x c e
 ·obtain ⟨e,n,r⟩:=I.pin p hp
  exact ⟨e,by rw [Zas (f5 p hp)];exact n,r⟩
 ·by_cases hb:b=a
  ·subst hb
   rw [Zab] at e;cases e
   exact ok _
  ·rw [Zas hb] at e
   exact (I.hok b v e).stay (λ_ _ _ q=>q) (λc q=>by rw [Zas (Zag q hn)];exact q) λc xs q=>by rw [Zas (Zag q hn)];exact q
end
end L2
namespace L2
open PySem PySem.Spec PyProof.Rows
abbrev ZlJ:List Value:=[.type "ValueError", .type "Exception", .type "BaseException", .type "object"]
abbrev ExcC (K:PySem.W.Frag) (C:Addr):Prop:=PySem.W.excIn K C ZlJ "ValueError.__new__" = true
theorem Zek {K:PySem.W.Frag} {h:Heap} {C:Addr} (KX:K.In h) (ex:ExcC K C):∃ mro' ns' mN',(∃ nm' qn' bs' hd' sn' sub' ab' col' dd' j0 j1 j2 j3 j5,
  h.get? C=some (excClassObj nm' qn' C ns' bs' mro' hd' sn' sub' ab' col' dd' j0 j1 j2 j3 j5 "ValueError.__new__"))/\h.Ns ns' mN'/\mN' "__init__" = none/\OwnTail h ZlJ mro':=by
 have ex':=ex
 unfold ExcC PySem.W.excIn at ex'
 split at ex'
 ·rename_i dd' cd' sl' lk
  have lk':=KX _ _ lk
  split at ex'
  ·rename_i C' rest' j0 j1 j2 j3 n' j5 hm hs
   rw [Bool.and_eq_true,Bool.and_eq_true,Bool.and_eq_true,Bool.and_eq_true,Bool.and_eq_true,beq_iff_eq,beq_iff_eq,beq_iff_eq] at ex'
   obtain ⟨⟨⟨⟨⟨z1,z2⟩,z3⟩,z4⟩,z5⟩,z6⟩:=ex'
   have z3':cd'.hasDel=false:=by simpa using z3
   subst z1 z2
   cases cd' with
   | mk a1 a2 a3 a4 a5 a6 a7 a8 a9 a10 a11=>
    have hm':a3=.ref C'::rest':=hm
    have h11:a11=false:=z3'
    subst hm' h11
    have es:sl'=#[j0,j1,j2,j3,some (.builtin "ValueError.__new__"),j5]:=by
     cases sl' with
     | mk l=>exact congrArg Array.mk hs
    subst es
    exact ⟨rest',a4,_,⟨_,_,_,_,_,_,_,_,_,_,_,_,_,_,lk'⟩,.of_isNs (PySem.W.isNs_of_in KX z5),PySem.W.nsMap_none_of_in KX z5 z6,PySem.W.tail_of_in KX z4⟩
  ·cases ex'
 ·cases ex'
section
variable {X:Cx}
def Zjv (C:Addr) (E:XK) (t:TA):TS:=λ_ σ H=>t σ H λvs H1=>vs.length<=sizeLine/\E (.ref C) none H1
theorem ZgY {C:Addr} {E:XK} {x:Str} {np cpos pos:Pos} {e:Expr} {es:List Expr} {t:TA} (hc:X.calm=true) (hR:ZeG X E) (hg:Gl X x) (hm:X.mg x=some (.ref C)) (ex:ExcC X.K C) (ha:PA X (e::es) t)
  (hdb:(x == ("__debug__" : Str))=false:=by decide) (he:starEach (e::es) X.env=(false,eval e X.env)::starEach es X.env:=by rfl) (hpl:(backTo cpos (starEach es X.env)).any (·.1)=false:=by rfl) :
  PS X (.Raise (some (.Call (.Name x np) (e::es) [] cpos)) none pos) (Zjv C E t):=by
 intro pins s σ H D I h
 obtain ⟨mro',ns',mN',⟨nm',qn',bs',hd',sn',sub',ab',col',dd',j0,j1,j2,j3,j5,hC⟩,hN,hni,T⟩:=Zek I.mod.kin ex
 refine wpAny_Raise_call_subT (C:=C) (nm:=nm') (q:=qn') (N:=ns') (bs:=bs') (bm:=mro') (hdct:=hd') (sn:=sn') (sub:=sub') (ab:=ab') (col:=col') (dd:=dd') (k0:=j0) (k1:=j1) (k2:=j2) (k3:=j3) (k5:=j5)
  PySem.F.excBase_ValueError (mN:=mN') (T.hasType PySem.F.excBase_ValueError.hasBase) (I.ok.hd hc) (by rw [he];show (false || (backTo cpos (starEach es X.env)).any (·.1))=false;rw [hpl];rfl) hni (Zcu I hg hm ⟨rfl,?_⟩ hdb)
 have hA:=ha cpos pins s σ H _ I h
 rw [he] at hA ⊢
 refine Calls.evalArgs_plain (thn hA λus s2 ⟨vs,H2,I2,r2,hl,q2⟩=>?_)
 exact ⟨rfl,by rw [<-r2.length];exact hl,I2.bk _ _ hC,hN.keeps I2.bk,T.keeps I2.bk,λh' a hm=>hR pins σ H2 s2 h' a C us I2 hm q2⟩
def Cx.inExc (X:Cx) (a:Addr):Cx:={ X with A:=X.A.mark (some (.ref a)),calm:=false,xe:=λ_ _=>False }
theorem Cx.Ok.inExc {X:Cx} (ok:X.Ok) (a:Addr):(X.inExc a).Ok:=
 ⟨ok.mod,ok.kind,ok.glob,ok.blt,ok.above,ok.inj,ok.has,ok.cab,(λz=>nomatch z),ok.frames,ok.stk,ok.exf,ok.bs,ok.bsz,ok.noex,ok.exfs,ok.funs,ok.frf⟩
variable {pins:List (Addr×Obj)} {σ:St} {H:Hp} {s:Shared}
theorem Inv.inExc (I:Inv X pins σ H s) (a:Addr):Inv (X.inExc a) pins σ H s:=⟨I.ok.inExc a,I.os,I.bare,I.base,I.loc,I.cell,I.free,I.freeC,I.pin,I.hok,I.len⟩
theorem Inv.outExc {a:Addr} (ok:X.Ok) (I:Inv (X.inExc a) pins σ H s):Inv X pins σ H s:=⟨ok,I.os,I.bare,I.base,I.loc,I.cell,I.free,I.freeC,I.pin,I.hok,I.len⟩
theorem Zcm {M:Model} {A:Around} {E:Value->Shared->Prop} {i:Nat} {n:Str} {pos:Pos} {Q:Unit->Shared->Prop} (I:Inv X pins σ H s) (hN:X.N.Nodup) (hi:X.N[i]?=some n) (hl:X.env.scope.names.lookup n=some .local)
  (h:∀ s',Inv X pins (σ.set i none) H s'->Q () s'):wpAny M A (do bindName X.env n .none;unbindBehindTheSuite X.env n pos) Q E s:=by
 obtain ⟨m,hn,hlk⟩:=id I.loc
 refine wpAny_nameGoes_keeps hl hn (by rw [I.ok.kind];rfl) λh' v hn' sb=>h _ ?_
 have old:∀ b o,X.s₀.heap.get? b=some o->b≠X.env.locals:=λb o e=>Nat.ne_of_lt (Nat.lt_of_lt_of_le (Heap.lt_size e) I.ok.above)
 have hLn:∀ b u,H b=some u->b≠X.env.locals:=λb u e z=>by rw [z,I.free] at e;cases e
 refine ⟨I.ok,I.os,I.bare,⟨λb o e z hb hx=>(sb.2 b (old b o e)).trans (I.base.keep b o e z hb hx),λb o e z hb hx=>?_,I.base.free,λb o e hx=>?_,I.base.tups,I.base.frzs,I.base.tbls⟩,
  ⟨_,hn',λj y v' e1 e2 e3=>?_⟩,λy c e=>?_,I.free,I.freeC,λp hp=>?_,λb u e=>?_,by simpa using I.len⟩
 ·obtain ⟨sl,q⟩:=I.base.slot b o e z hb hx
  exact ⟨sl,(sb.2 b (old b o e)).trans q⟩
 ·obtain ⟨o',q⟩:=I.base.there b o e hx
  exact ⟨o',(sb.2 b (old b o e)).trans q⟩
 ·by_cases hj:j=i
  ·subst hj
   have hiσ:j<σ.length:=by rw [I.len];exact (List.getElem?_eq_some_iff.mp hi).1
   rw [List.getElem?_set_self hiσ] at e2
   cases e2
  ·rw [List.getElem?_set_ne (Ne.symm hj)] at e2
   obtain ⟨u,ru,lk⟩:=hlk j y v' e1 e2 e3
   refine ⟨u,ru,?_⟩
   have hyn:y≠n:=λz=>hj (nodup_ix hN e1 (z▸hi))
   rcases lk with ⟨k,e⟩ | ⟨k,c,e,z⟩
   ·exact .inl ⟨k,by simp [hyn,e]⟩
   ·exact .inr ⟨k,c,e,z.sameBut sb (I.cne y c e)⟩
 ·obtain ⟨v',z⟩:=I.cell y c e
  exact ⟨v',z.sameBut sb (I.cne y c e)⟩
 ·obtain ⟨e,z,ne,nf,d⟩:=I.pin p hp
  exact ⟨(sb.2 p.1 ne).trans e,z,ne,nf,d⟩
 ·refine (I.hok b u e).stay (λc v' hc q=>(sb.2 c ?_).trans q) (λ_ q=>q) λ_ _ q=>q
  rcases hc with z | z
  ·rw [z];exact hLn b u e
  ·exact hLn c _ z
end
end L2
namespace L2
open PySem PySem.Spec PyProof.Rows
theorem Zdd {M:Model} {h:Heap} {a C:Addr} (hx:Zfc a C h):PySem.W.Looks M h (typeOf (.ref a)) (.ref C):=by
 obtain ⟨ob,vs,e,c,d⟩:=hx
 exact c▸(PySem.W.Looks.ld e).andThen .now
theorem ZfV {K:PySem.W.Frag} {M:Model} {A:Around} {E:Value->Shared->Prop} {Q:Bool->Shared->Prop} {s:Shared} {a C W:Addr} {b:Bool} (KX:K.In s.heap) (hx:Zfc a C s.heap)
  (hk:PySem.W.kitCls K (.ref C) (.ref W)=some b) (hb:PySem.W.subIn K (.ref W) (.type "BaseException")=some true) (h:Q b s):wpAny M A (excMatches (.ref a) (.ref W)) Q E s:=by
 obtain ⟨hty,his,hsub⟩:=PySem.W.kit_cls (M:=M) KX hk
 have hB:=PySem.W.looks_subIn (M:=M) KX hb
 have LT:=Zdd (M:=M) hx
 obtain ⟨h0,g,dd,tk,os⟩:=s
 have f:=tc_notTuple
 unfold excMatches isInstance isExcClass
 refine wpAny_bind (wpAny_bind (hty.at (wpAny_of_eq f ?_)))
 simp only [Bool.false_eq_true,if_false]
 refine wpAny_bind (wpAny_pure ?_)
 simp only [List.forIn_cons,List.forIn_nil]
 refine wpAny_bind (wpAny_bind (wpAny_bind (wpAny_bind (his.at ?_))))
 simp only [if_true]
 refine hB.at ?_
 simp only [Bool.not_true,Bool.false_eq_true,if_false]
 refine wpAny_pure (wpAny_pure ?_)
 refine wpAny_bind (LT.at ?_)
 refine wpAny_bind (wpAny_bind (wpAny_bind (hsub.at ?_)))
 cases b with
 | true=>simp only [if_true];first | exact wpAny_pure (wpAny_pure (wpAny_pure h)) | exact wpAny_pure (wpAny_pure h) | exact wpAny_pure h
 | false=>simp only [Bool.false_eq_true,if_false];first | exact wpAny_pure (wpAny_pure (wpAny_pure h)) | exact wpAny_pure (wpAny_pure h) | exact wpAny_pure h
section
variable {X:Cx} {k:Nat} {f:Addr} {fd:FuncData} {ps:List Str} {sp:Sp} {dvs:List V} {ds:List Value} {fx:Str} {fp cpos bpos np hpos pos:Pos} {e:Expr} {es:List Expr} {t:TA}
def ZfW (K:PySem.W.Frag) (W:Addr) (i:Nat) (ts:TS) (D:Ze6) (σ:St):XK:=λcls _ H2=>∃ C,cls=.ref C/\PySem.W.kitCls K (.ref C) (.ref W)=some true /\
 ∀ a,H2 a=none->ts { nx:=λσ' H'=>D.nx (σ'.set i none) H',rt:=D.rt,bk:=λσ' H'=>D.bk (σ'.set i none) H',ct:=λσ' H'=>D.ct (σ'.set i none) H' } (σ.set i (some (.ref a))) (upd H2 a (ZgW a C))
theorem handled {pins:List (Addr×Obj)} {σ:St} {H:Hp} {s s':Shared} {D:Ze6} {W:Addr} {wx n:Str} {i:Nat} {b0:Stmt} {suite:List Stmt} {rest:List ExceptHandler} {ts:TS} {ev:Value}
  (hc:X.calm=true) (hst:X.stack=X.env::X.outer) (hfr:X.env.frame=some X.env.locals) (hex:X.ex=[]) (hN:X.N.Nodup) (hi:X.N[i]?=some n) (hl:X.env.scope.names.lookup n=some .local)
  (hgW:Gl X wx) (hmW:X.mg wx=some (.ref W)) (hbE:PySem.W.subIn X.K (.ref W) (.type "BaseException")=some true) (hsu:∀ a,PSs (X.inExc a) (b0::suite) ts) (I:Inv X pins σ H s)
  (h:CXr X.prog X.w X.stack H s (ZfW X.K W i ts D σ) ev s') (hdb:(wx == ("__debug__" : Str))=false:=by decide) :
  wpAny (model X.prog X.w) X.A (noteFrame ev X.env) (λ_ s2=>wpAny (model X.prog X.w) X.A (setFlight ev none) (λ_ s3=>
   wpAny (model X.prog X.w) X.A (handleBy ev X.env (.ExceptHandler (some (.Name wx np)) (some n) (b0::suite) hpos::rest)) (SP X pins D) X.xe s3) X.xe s2) X.xe s':=by
 obtain ⟨a,C,H',rfl,⟨t,B,os,bare,un,hok,fl,trk,old⟩,C',eC,hk,q⟩:=h
 cases eC
 have ff:∀ {E:Value->Shared->Prop},∀ (x:Value) (s:Shared),(λ(_:Value) (_:Shared)=>False) x s->E x s:=λ_ _ z=>False.elim z
 have flX:=fl
 rw [hst] at flX
 have afr:=I.ok.frames
 rw [hst] at afr
 have new:s.heap.get? a=none:=by
  cases z:s.heap.get? a with
  | none=>rfl
  | some o0=>
   exfalso
   obtain ⟨ob,vs,e1,c1,d1,_⟩:=fl.first
   by_cases hb:a∈frs X.stack
   ·obtain ⟨_,o',ho',hnf⟩:=fl.2.2.1.mem hb
    rw [e1] at ho';cases ho'
    exact hnf vs d1
   ·have:=old a o0 ob z e1 hb
    rw [fl.2.1] at this;cases this
 have hna:H' a=none:=by
  cases z:H' a with
  | none=>rfl
  | some u=>
   exfalso
   obtain ⟨ob,vs,e1,_⟩:=fl.first
   have:=trk a ob e1 (by rw [z];simp)
   rw [fl.2.1] at this;cases this
 have na1:a≠X.env.locals:=λz=>by
  obtain ⟨m,⟨o,_,_,ho,_⟩,_⟩:=I.loc
  rw [<-z,new] at ho;cases ho
 have na2:∀ x c,X.env.cells.lookup x=some c->c≠a:=λx c e z=>by
  obtain ⟨v,o,ho,_⟩:=I.cell x c e
  rw [z,new] at ho;cases ho
 have na3:∀ p∈X.pn++pins,p.1≠a:=λp hp z=>by
  have:=(I.pin p hp).1
  rw [z,new] at this;cases this
 have na4:X.s₀.heap.get? a=none:=by
  cases z:X.s₀.heap.get? a with
  | none=>rfl
  | some o=>
   obtain ⟨o',e'⟩:=I.base.there a o z (by rw [hex];simp)
   rw [new] at e';cases e'
 have at_:∀ {h2:Heap} {tk:Nat},B.StaysIn h2->s'.heap.UpToSlots h2->Inv X pins σ H' { s' with heap:=h2,toks:=tk }:=λ{h2 tk} st sm=>by
  obtain ⟨u2,k2⟩:=ZgX (t:=t) (a:=a) (C:=C) un hok fl.2.2.1 trk old st sm
  exact I.call' (ch:=[]) os u2 k2 bare (λb z=>absurd z (by simp))
 refine wpAny_looks_onW afr hfr flX λh4 held4 sm4=>?_
 refine wpAny_landsW held4 λh5 fl5 sm5=>?_
 have I5:Inv X pins σ H' { s' with heap:=h5 }:=at_ (tk:=s'.toks) fl5.1 (sm4.trans sm5)
 refine wpAny_handleBy_cons (codeAny_handlers_test ?_) (by intro q;cases q)
 refine Zcu (X:=X.inExc a) (I5.inExc a) hgW hmW ?_ hdb
 obtain ⟨ob,vs,e1,c1,d1,_⟩:=fl5.first
 refine ZfV (b:=true) I5.kIn ⟨ob,vs,e1,c1,d1⟩ hk hbE ?_
 refine codeAny_handlers_suite_as ?_
 refine lands_againW fl5 λh6 fl6 sm6=>?_
 have I6:Inv X pins σ H' { s' with heap:=h6 }:=at_ (tk:=s'.toks) fl6.1 ((sm4.trans sm5).trans sm6)
 obtain ⟨ob6,vs6,e6,c6,d6,_⟩:=fl6.first
 have I7:=I6.track (u:=ZgW a C) hna na1 na2 na3 na4 λH2=>Zih ⟨ob6,vs6,e6,c6,d6⟩
 refine ZbS (X:=X.inExc a) (I7.inExc a) hN hi (.inl hl) (v:=.ref a) rfl (λs8 I8=>?_) (.inr hl)
 refine wpAny_mono (hsu a pins s8 _ _ _ I8 (q a hna)) (λfl s9 q9=>?_) ff
 show wpAny _ _ (do bindName X.env n .none;unbindBehindTheSuite X.env n hpos) _ _ s9
 cases fl with
 | next=>
  obtain ⟨σ9,H9,I9,q9⟩:=q9
  exact Zcm (I9.outExc I.ok) hN hi hl λs10 I10=>⟨_,_,I10,q9⟩
 | brk=>
  obtain ⟨σ9,H9,I9,q9⟩:=q9
  exact Zcm (I9.outExc I.ok) hN hi hl λs10 I10=>⟨_,_,I10,q9⟩
 | cont=>
  obtain ⟨σ9,H9,I9,q9⟩:=q9
  exact Zcm (I9.outExc I.ok) hN hi hl λs10 I10=>⟨_,_,I10,q9⟩
 | ret u=>
  obtain ⟨v,σ9,H9,I9,r9,q9⟩:=q9
  exact Zcm (I9.outExc I.ok) hN hi hl λs10 I10=>⟨v,_,_,I10,r9,q9⟩
theorem ZgZ {pins:List (Addr×Obj)} {σ:St} {H:Hp} {s:Shared} {Q:VK} {E:XK} {QQ:Value->Shared->Prop} {EE:Value->Shared->Prop} (F:ZaX X.prog X.w X.K X.mg X.base (CXr X.prog X.w) k f fd ps sp) (hr:Room k X.A) (hg:Gl X fx) (hm:X.mg fx=some (.ref f)) (hk:PySem.W.keepIn X.K (.ref f)=true)
  (hb:Binds X.K fd ps ds) (hd:Vals dvs ds) (ha:PA X.nox (e::es) t) (I:Inv X pins σ H s) (h:t σ H λvs H1=>sp (vs++dvs) H1 Q E)
  (hQ:∀ u s',EP X pins σ Q u s'->QQ u s') (hE:∀ ev H1 s1 s',Inv X pins σ H1 s1->CXr X.prog X.w X.stack H1 s1 E ev s'->EE ev s')
  (hdb:(fx == ("__debug__" : Str))=false:=by decide) (he:starEach (e::es) X.env=(false,eval e X.env)::starEach es X.env:=by rfl) (hpl:(backTo cpos (starEach es X.env)).any (·.1)=false:=by rfl) :
  wpAny (model X.prog X.w) X.A (eval (.Call (.Name fx fp) (e::es) [] cpos) X.env) QQ EE s:=by
 refine wpAny_Call_Name_kw (Zcu I hg hm ?_ hdb)
 refine PySem.W.callWith_K (h₀:=X.base) I.ok.mod.kin hk (wpAny_mono (ha cpos pins s σ H _ (I.wish _) h) (λus s1 ⟨vs,H1,I1,r,q⟩=>⟨I1.unwish.kIn,?_⟩) (λ_ _ z=>False.elim z)) he hpl
 have I1:=I1.unwish
 have r2:Vals (vs++dvs) (us++ds):=r.append hd
 have hl:(us++ds).length=ps.length:=by rw [<-r2.length];exact F.len _ _ _ _ q
 refine wpAny_call (codeAny_mono (F.run X.A X.stack s1 H1 ⟨us,[]⟩ (us++ds) (vs++dvs) Q E hr I1.env0 (hb s1 us I1.kIn hl) r2 q) λr s' hq=>?_)
 cases r with
 | error ev=>exact hE ev H1 s1 s' I1 hq
 | ok fl=>
  cases fl with
  | ret u=>exact hQ u s' (I1.after hq)
  | next=>exact False.elim hq
  | brk=>exact False.elim hq
  | cont=>exact False.elim hq
def Znn (K:PySem.W.Frag) (W:Addr) (i:Nat) (sp:Sp) (dvs:List V) (t:TA) (ts:TS):TS:=λD σ H=>t σ H λvs H1=>sp (vs++dvs) H1 (λ_ H2=>D.nx σ H2) (ZfW K W i ts D σ)
end
end L2
namespace L2
open PySem PySem.Spec PyProof.Rows
theorem ZfX {K:PySem.W.Frag} {prog:Program} {w:World} {A:Around} {E:Value->Shared->Prop} {Q:Option Value->Shared->Prop} {s:Shared} {a C:Addr} (KX:K.In s.heap) (hx:Zfc a C s.heap)
  (hga:PySem.W.findIn K (.ref C) "__getattribute__" = some (some (.builtin "BaseException.__getattribute__"))) (hnga:PySem.W.findIn K (.ref C) "__getattr__" = some none)
  (hcl:PySem.W.findIn K (.ref C) "__class__" = some (some (.builtin "object.__class__"))) (hm:PySem.W.mroIn K C (.type "object")=some true) (hB:PySem.W.subIn K (.ref C) (.type "BaseException")=some true)
  (h:Q (some (.ref C)) { s with toks:=s.toks+1 }):wpAny (model prog w) A (getAttr? (.ref a) "__class__") Q E s:=by
 have L0:=Zdd (M:=model prog w) hx
 have L1:=PySem.W.looks_findIn (M:=model prog w) KX hga
 have L2:=PySem.W.looks_findIn (M:=model prog w) KX hnga
 have L3:=PySem.W.looks_findIn (M:=model prog w) KX hcl
 have L4:=PySem.W.looks_subIn (M:=model prog w) KX hB
 obtain ⟨h0,g,d,t,os⟩:=s
 have f3:=PySem.F.attr_ValueError.ga.bind (.ref a)
 unfold getAttr? getAttrBy? getAttrBy
 refine wpAny_bind (wpAny_mkText (wpAny_bind (wpAny_attempt (wpAny_holding (wpAny_bind (L0.at (wpAny_bind (L1.at ?_))))))))
 dsimp only
 have hx2:(onTheHeap (Value.ref C) && Value.builtin "BaseException.__getattribute__" == Value.builtin "object.__getattribute__")=false:=by
  have z:(Value.builtin "BaseException.__getattribute__" == Value.builtin "object.__getattribute__")=false:=by decide +kernel
  rw [z,Bool.and_false]
 rw [hx2]
 simp only [Bool.false_eq_true,if_false]
 unfold getAttrByItsOwn
 repeat (any_goals (first | assumption | with_reducible refine L0.at ?_ | with_reducible refine L2.at ?_ | wp_step))
 have hsp:splitId "BaseException.__getattribute__" = some ("BaseException", "__getattribute__"):=by decide +kernel
 have hkd:builtinKind "BaseException.__getattribute__" = some .slot:=by decide +kernel
 have har:=PySem.F.args_bexc_ga (.ref a) (.str (Str.ofString "__class__") t)
 refine codeAny_call_builtin PySem.F.attr_ValueError.ga.plain PySem.F.entry_bexc_ga ?_
 show wpAny _ _ (checkBuiltinCall "BaseException.__getattribute__" ⟨[.ref a,.str (Str.ofString "__class__") t],[]⟩) _ _ _
 simp only [checkBuiltinCall,hkd,hsp]
 refine wpAny_bind ?_
 unfold isInstance
 have f5:=PySem.F.typeOf_object_class
 have f6:=PySem.F.slot_gs_get.lookup
 have f7:=PySem.F.slot_gs_set.lookup
 have hT5:(⟨h0,g,d,t+1,os⟩:Shared).TypeIs (.builtin "object.__class__") "getset_descriptor" := PySem.F.typeOf_object_class
 refine wpAny_bind (L0.at (L4.at ?_))
 repeat (any_goals (first | assumption | with_reducible refine L0.at ?_ | with_reducible refine L3.at ?_ | wp_step))
 have Lo:PySem.W.Looks (model prog w) h0 (isSubtype (.ref C) (.type (".".intercalate ("object.__class__".cutAt '.').dropLast))) true:=by
  rw [PySem.F.owner_object_class]
  exact PySem.W.looks_mroIn KX hm
 have hT6:(⟨h0,g,d,t+1,os⟩:Shared).TypeIs (.builtin "object.__class__") "getset_descriptor" := PySem.F.typeOf_object_class
 refine codeAny_call_builtin PySem.F.slot_gs_get.plain PySem.F.entry_gs_get (PySem.F.slot_gs_get.check _ _ _ _ _ _ _ _ hT6 (PySem.F.args_gs_get _ _ _) ?_)
 repeat (any_goals (first | assumption | with_reducible refine L0.at ?_ | with_reducible refine Lo.at ?_ | wp_step))
 refine ⟨Code.quiet_builtin _ (by decide +kernel),codeAny_builtin PySem.F.entry_object_class ?_⟩
 repeat (any_goals (first | assumption | with_reducible refine L0.at ?_ | wp_step))
end L2
namespace L2
open PySem PySem.Spec PyProof.Rows
structure Zkv (K:PySem.W.Frag) (C:Addr):Prop where
 ex:ExcC K C
 ga:PySem.W.findIn K (.ref C) "__getattribute__" = some (some (.builtin "BaseException.__getattribute__"))
 nga:PySem.W.findIn K (.ref C) "__getattr__" = some none
 cl:PySem.W.findIn K (.ref C) "__class__" = some (some (.builtin "object.__class__"))
 ob:PySem.W.mroIn K C (.type "object")=some true
 be:PySem.W.subIn K (.ref C) (.type "BaseException")=some true
theorem ZeH {K:PySem.W.Frag} {a C:Addr} (k:Zkv K C):PySem.W.KitX K (.ref a) (.ref C) (Zfc a C) where
 ty:=λ_ _ _ p=>Zdd p
 it:=λM h KX _=>by
  obtain ⟨_,_,_,⟨_,_,_,_,_,_,_,_,_,_,_,_,_,_,hC⟩,_⟩:=Zek KX k.ex
  intro A Q E s kk q
  unfold isType loadHead
  exact wpAny_bind (wpAny_loadPart (kk _ _ hC) (wpAny_pure q))
 ne:=λh tp dd its n sl KX htp=>by
  obtain ⟨_,_,_,⟨_,_,_,_,_,_,_,_,_,_,_,_,_,_,hC⟩,_⟩:=Zek KX k.ex
  refine Bool.eq_false_iff.mpr λq=>?_
  have e:C=tp:=Value.ref.inj (beq_iff_eq.mp q)
  rw [<-e,hC] at htp
  have z:=congrArg Obj.data (Option.some.inj htp)
  unfold excClassObj at z
  cases z
 ca:=λKX p q=>ZfX KX p k.ga k.nga k.cl k.ob k.be q
def ZdR:V->Value
 | .ty n=>.type n
 | .ref a=>.ref a
 | _=>.none
def ZfY:V->Bool
 | .ty _=>true
 | .ref _=>true
 | _=>false
theorem RelV.cls {c:V} {u:Value} (r:RelV c u) (h:ZfY c=true):u=ZdR c:=by
 cases c with
 | ty n=>exact r
 | ref a=>exact r
 | _=>cases h
theorem Vals.cls:∀ {cs:List V} {us:List Value},Vals cs us->cs.all ZfY=true->us=cs.map ZdR
 | _,_,.nil,_=>rfl
 | _,_,.cons r t,h=>by
  rw [List.all_cons,Bool.and_eq_true] at h
  rw [List.map_cons,r.cls h.1,Vals.cls t h.2]
def ZlK (K:PySem.W.Frag):List V->Hp->VK->Prop:=λxs H Q=>∃ x c b,xs=[x,c]/\Q (.bl b) H /\
 ((∃ t,Ze8 K H x t/\ZfY c=true/\PySem.W.kitOne K t (ZdR c)=some b) \/
  (∃ a C,x=.ref a/\H a=some (ZgW a C)/\Zkv K C/\ZfY c=true/\PySem.W.kitOne K (.ref C) (ZdR c)=some b) \/
  (∃ a C tp cs,x=.ref a/\H a=some (ZgW a C)/\Zkv K C/\c=.ref tp/\H tp=some (.tup cs)/\cs.all ZfY=true/\PySem.W.kitAny K (.ref C) (cs.map ZdR)=some b))
theorem Zg0 {X:Cx}:Zbp X (.builtin "isinstance") (ZlK X.K):=by
 intro pins s σ H xs us Q I rv h
 obtain ⟨x,c,b,rfl,q,h⟩:=h
 obtain ⟨u,cv,rfl,ru,rc⟩:=rv.two
 have fin:∀ tk,EP X pins σ Q (.bool b) { s with toks:=tk }:=λtk=>⟨.bl b,H,I.tok tk,rfl,q⟩
 rcases h with ⟨t,ty,hc,e⟩ | ⟨a,C,rfl,ha,k,hc,e⟩ | ⟨a,C,tp,cs,rfl,ha,k,rfl,ht,hc,e⟩
 ·rw [rc.cls hc]
  exact ZfL I ru ty e fin
 ·rw [rc.cls hc]
  cases (show u=Value.ref a from ru)
  obtain ⟨p,_⟩:=I.hok a _ ha
  exact PySem.W.kia_one (ZeH k) I.kIn p e (λz=>nomatch z) fin
 ·cases (show u=Value.ref a from ru)
  cases (show cv=Value.ref tp from rc)
  obtain ⟨p,_⟩:=I.hok a _ ha
  obtain ⟨_,its,r,o,eo,co,n,dn⟩:=I.hok tp _ ht
  obtain ⟨ocl,odi,oda,osl⟩:=o
  cases (show ocl=.type "tuple" from co)
  cases (show oda=.seq its.toArray n from dn)
  exact PySem.W.kia_tup (its:=its) (ZeH k) I.kIn p eo (by rw [r.cls hc];exact e) (λz=>nomatch z) fin
mutual
inductive DatV (K:PySem.W.Frag) (H:Hp):V->PyData->Prop
 | non:DatV K H .non .none
 | bl (b:Bool):DatV K H (.bl b) (.bool b)
 | int (i:Int):DatV K H (.int i) (.int i)
 | str (x:Str):DatV K H (.str x) (.str x)
 | lst {a:Addr} {xs:List V} {ds:List PyData}:SqL K H a xs->DatVs K H xs ds->DatV K H (.ref a) (.list ds)
 | tup {a:Addr} {xs:List V} {ds:List PyData}:SqT K H a xs->DatVs K H xs ds->DatV K H (.ref a) (.tuple ds)
inductive DatVs (K:PySem.W.Frag) (H:Hp):List V->List PyData->Prop
 | nil:DatVs K H [] []
 | cons {x:V} {d:PyData} {xs:List V} {ds:List PyData}:DatV K H x d->DatVs K H xs ds->DatVs K H (x::xs) (d::ds)
end
section
variable {X:Cx} {pins:List (Addr×Obj)} {σ:St} {H:Hp} {s:Shared}
mutual
theorem DatV.reads (I:Inv X pins σ H s):∀ {x:V} {d:PyData} {u:Value},DatV X.K H x d->RelV x u->∃ as,Reads s.heap u d as
 | _,_,_,.non,r=>by cases r;exact ⟨_,.none⟩
 | _,_,_,.bl b,r=>by cases r;exact ⟨_,.bool b⟩
 | _,_,_,.int i,r=>by obtain ⟨t,rfl⟩:=r;exact ⟨_,.int i t⟩
 | _,_,_,.str x,r=>by obtain ⟨t,rfl⟩:=r;exact ⟨_,.str x t⟩
 | _,_,_,.lst hq hs,r=>by
  cases r
  obtain ⟨its,rv,⟨o,n,e,c,dd,dt⟩,_⟩:=I.list hq
  obtain ⟨as,ra⟩:=DatVs.reads I hs rv
  exact ⟨_,.list e c dt (by simpa using ra)⟩
 | _,_,_,.tup hq hs,r=>by
  cases r
  obtain ⟨its,rv,⟨o,e,c,n,dt⟩,_⟩:=I.tuple hq
  obtain ⟨as,ra⟩:=DatVs.reads I hs rv
  exact ⟨_,.tuple e c dt (by simpa using ra)⟩
theorem DatVs.reads (I:Inv X pins σ H s):∀ {xs:List V} {ds:List PyData} {us:List Value},DatVs X.K H xs ds->Vals xs us->∃ as,ReadsAll s.heap us ds as
 | _,_,_,.nil,.nil=>⟨_,.nil⟩
 | _,_,_,.cons h hs,.cons r rs=>by
  obtain ⟨as,ra⟩:=DatV.reads I h r
  obtain ⟨bs,rb⟩:=DatVs.reads I hs rs
  exact ⟨_,.cons ra rb⟩
end
end
def Zkw (K:PySem.W.Frag) (neg:Bool):R2:=λx y H Q=>∃ d1 d2,DatV K H x d1/\DatV K H y d2/\SeqAt.shaped d1=true/\SeqAt.shaped d2=true/\Q (.bl (neg != PyData.eqv d1 d2)) H
theorem Zjw {X:Cx} (hu:X.A.units+64<cLine):OpR X (compareOp .Eq) (Zkw X.K false):=by
 intro pins s σ H x y v u Q I rx ry h
 obtain ⟨d1,d2,h1,h2,s1,s2,q⟩:=h
 obtain ⟨as,r1⟩:=h1.reads I rx
 obtain ⟨bs,r2⟩:=h2.reads I ry
 exact eq_dataH r1 r2 s1 s2 hu ⟨.bl _,H,I,by cases PyData.eqv d1 d2 <;> rfl,q⟩
theorem Zjx {X:Cx} (hu:X.A.units+64<cLine):OpR X (compareOp .NotEq) (Zkw X.K true):=by
 intro pins s σ H x y v u Q I rx ry h
 obtain ⟨d1,d2,h1,h2,s1,s2,q⟩:=h
 obtain ⟨as,r1⟩:=h1.reads I rx
 obtain ⟨bs,r2⟩:=h2.reads I ry
 exact ne_dataH r1 r2 s1 s2 hu ⟨.bl _,H,I,by cases PyData.eqv d1 d2 <;> rfl,q⟩
def Lt2 (p:Nat) (a:Int):Prop:=a.natAbs<2 ^ p
theorem Lt2.mono {a:Int} {p q:Nat} (h:Lt2 p a) (hp:p<=q):Lt2 q a:=Nat.lt_of_lt_of_le h (Nat.pow_le_pow_right (by decide) hp)
def Zmu (i j:Int):Prop:=∃ p q,Lt2 p i/\Lt2 q j/\p<=100000/\q<=100000
def ZkW (i j:Int):Prop:=0<j/\Lt2 9000 j
theorem ZeI {X:Cx}:OpR X (binaryOp .FloorDiv) (rI ZkW λi j=>.int (i / j)):=opI λi j _ _ _ _ _ hc q=>by
 have h1:(0:Int)<j:=hc.1
 have h2:j.natAbs<2 ^ 9000:=hc.2
 refine floordiv_int (by omega) (by rw [Int.fdiv_eq_ediv_of_nonneg i (by omega)];exact q) (.inl (PyProof.noPylong_of_log2 ?_))
 exact (Nat.log2_lt (by omega)).mpr h2
theorem Same.new {H:Hp} {p:Addr} {o:HO} (h:H p=none):Same H (upd H p o):=λb u e=>by rw [Zas (Zag e h)];exact e
theorem Same.put {H H1:Hp} {p:Addr} {o:HO} (s:Same H H1) (h:H p=none):Same H (upd H1 p o):=λb u e=>by rw [Zas (Zag e h)];exact s b u e
theorem Zao {H:Hp} {p b:Addr} {o u:HO} (h:H b=some u) (n:b≠p):upd H p o b=some u:=by rw [Zas n];exact h
inductive Prs (H:Hp):List V->List (Int×Int)->Prop
 | nil:Prs H [] []
 | cons {p:Addr} {a b:Int} {xs:List V} {rs:List (Int×Int)}:H p=some (.tup [.int a,.int b])->Prs H xs rs->Prs H (.ref p::xs) ((a,b)::rs)
theorem ZbB {H:Hp} {l:Addr} {zs:List V} {o:HO} (h:H l=some (.lst zs)):∀ p ys,H p=some (.tup ys)->upd H l o p=some (.tup ys):=λp ys e=>Zao e (Zb5 e h (λz=>by cases z))
def prD (r:Int×Int):PyData:=.tuple [.int r.1,.int r.2]
end L2
namespace L2
open PySem PySem.Spec PyProof.Rows
section
variable {P:Program} {w:World} {K:PySem.W.Frag} {mg:Str->Option Value} {base:Heap}
theorem Fun.okR {x qual:Str} {st:Stmt} {f:Addr} {fd:FuncData} {N ps:List Str} {k:Nat} {sp:Sp} (F:Fun K x qual st f fd) (S:ZaA N ps (Zaf st)) (len:∀ vs H Q E,sp vs H Q E->vs.length=ps.length)
  (hbody:∀ (cdv:Value) (A:Around) (outer:List Env) (s:Shared) (H:Hp) (vs:List V) (Q:VK) (E:XK),Room k (A.deeper (envOfC qual (Zaf st) s.heap.objs.size f cdv))->sp vs H Q E ->
   ∃ t,PSs (ZgT (CXr P w) P w K mg base N qual (Zaf st) f cdv A outer s H E) (Zav st) t/\t { nx:=λ_ H'=>Q .non H',rt:=Q } (start N vs) H):ZaX P w K mg base (CXr P w) (k+1) f fd ps sp:=by
 obtain ⟨oc,od,kV,doc,pm,an,cdv,ct,osl,rfl,lk,hcd⟩:=F.ex
 refine Zh7 lk hcd S len λA outer s H vs Q E hr hsp=>?_
 obtain ⟨t,h,q⟩:=hbody cdv A outer s H vs Q E hr hsp
 exact ⟨t,h,q⟩
end
section
variable {X:Cx}
theorem Zbb {x:Str} {a:Addr} {pos:Pos} (hm:X.mg x=some (.ref a)) (hg:Gl X x:=by rfl) (hd:(x == ("__debug__" : Str))=false:=by decide):PE X (.Name x pos) (tC (.ref a)):=Zh2 hg hm rfl hd
theorem ZfZ {x:Str} {T:String} {pos:Pos} (hm:X.mg x=none) (hv:bootBuiltins x=some (.type T)) (hg:Gl X x:=by rfl) (hn:x ≠ "__name__" := by decide) (hd:(x == ("__debug__" : Str))=false:=by decide):PE X (.Name x pos) (tC (.ty T)):=Zh3 hg hm hv rfl hn hd
end
theorem Za7:bootBuiltins "isinstance" = some (.builtin "isinstance"):=by first | rfl | decide +kernel
theorem Zii:bootBuiltins "ValueError" = some (.type "ValueError"):=by first | rfl | decide +kernel
theorem Zbc:bootBuiltins "tuple" = some (.type "tuple"):=by first | rfl | decide +kernel
theorem ZcC:bootBuiltins "list" = some (.type "list"):=by first | rfl | decide +kernel
theorem Zf0:bootBuiltins "bool" = some (.type "bool"):=by first | rfl | decide +kernel
theorem ZeJ:bootBuiltins "int" = some (.type "int"):=by first | rfl | decide +kernel
theorem ZeK {K:PySem.W.Frag} {t:Value}:PySem.W.kitOne K t t=some true:=by
 unfold PySem.W.kitOne
 rw [if_pos (beq_self_eq_true t)]
section
variable {X:Cx} (K:PySem.W.Frag)
theorem ZhC (h:X.K=K:=by rfl):Zbp X (.builtin "isinstance") (ZlK K):=h▸Zg0
theorem Zbu (h:X.K=K:=by rfl):IxR X (ZkP K):=h▸Zia
theorem Zf1 (h:X.K=K:=by rfl):IxR X (ZkQ K):=h▸Zjr
theorem Zjy (h:X.K=K:=by rfl):OpR X (compareOp .NotIn) (rIn K true):=h▸ZdL
theorem Zfq (h:X.K=K:=by rfl):Zbp X (.builtin "len") (λxs H Q=>∃ p ys,xs=[.ref p]/\(SqL K H p ys\/SqT K H p ys)/\Q (.int ys.length) H):=h▸ZdM
theorem Zf2 (h:X.K=K:=by rfl):Zbp X (.type "list") (λxs H Q=>∃ p ys,xs=[.ref p]/\(SqL K H p ys\/SqT K H p ys)/\∀ l,H l=none->Q (.ref l) (upd H l (.lst ys))):=h▸ZdN
theorem Zjz (hu:X.A.units+64<cLine) (h:X.K=K:=by rfl):OpR X (compareOp .Eq) (Zkw K false):=h▸Zjw hu
theorem Zg1 (hu:X.A.units+64<cLine) (h:X.K=K:=by rfl):OpR X (compareOp .NotEq) (Zkw K true):=h▸Zjx hu
theorem kSl (h:X.K=K:=by rfl):SlR X (ZkS K):=h▸Zib
theorem ZjA {es:List Expr} {k:Nat} {t:TGs} {n:Nat} {pos:Pos} (hc:X.calm=true) (h:PGs X es t) (hK:X.K=K:=by rfl)
  (hn:(assignEach es X.env).length=n:=by rfl) (hst:(assignEach es X.env).findIdx? (·.1)=none:=by rfl):PG X (.Tuple es k pos) (Zlx K n t):=hK▸Zjf hc h hn hst
theorem ZbG {tg l:Expr} {tl:TE} (hl:PE X l tl) (h:X.K=K:=by rfl):PI X tg l (Zji K tl):=h▸Zh4 hl
end
end L2
namespace L2
open PySem
def ZkX (r c:Nat) (p:Nat):List (Int×Int):=
 (if ((p:Int)+1) % (c:Int)=0 then [] else [((p:Int),(p:Int)+1)])++(if (p:Int)+(c:Int)<(r:Int) * (c:Int) then [((p:Int),(p:Int)+(c:Int))] else [])
def ZlL (r c i:Nat):List (Int×Int):=(List.range i).flatMap (ZkX r c)
def ZkY (r c i j:Nat):List (Int×Int):=
 (if (j:Int)<(c:Int)-1 then [((i:Int) * (c:Int)+(j:Int),(i:Int) * (c:Int)+(j:Int)+1)] else []) ++
 (if (i:Int)<(r:Int)-1 then [((i:Int) * (c:Int)+(j:Int),((i:Int)+1) * (c:Int)+(j:Int))] else [])
def Zmv (r c i j:Nat):List (Int×Int):=(List.range j).flatMap (ZkY r c i)
def ZlM (r c i:Nat):List (Int×Int):=(List.range i).flatMap λk=>Zmv r c k c
end L2
namespace L2
open PySem PySem.Spec PyProof.Rows
def AllP {α:Type} (P:α->Prop):List α->Prop
 | []=>True
 | x::r=>P x/\AllP P r
theorem AllP.mem {α:Type} {P:α->Prop}:∀ {l:List α},AllP P l->∀ x∈l,P x
 | _::_,h,_,.head _=>h.1
 | _::_,h,x,.tail _ m=>AllP.mem h.2 x m
theorem Zaw {X:Cx} {scope:Scope} {cl:List (Str×Addr)} {own:List Str} {fr:List (Str×Nat)} (L:List (Str×NameKind)) (hcl:closureFor scope X.env=pure cl) (hL:(relabel scope X.env).names=L)
  (hc:∀ y∈scope.names,y.2≠.cell) (hk:scope.kind=.function) (hn:∀ y∈scope.names,y.2=.local->scope.names.lookup y.1=some .local)
  (hcs:AllP (λp=>X.env.cells.lookup p.1=some p.2) cl) (hall:AllP (λp=>(p.2=.cell\/p.2=.free)->∃ c,cl.lookup p.1=some c) L)
  (hfr:AllP (λp=>X.N[p.2]?=some p.1/\(X.env.kindOf p.1=some .cell\/X.env.kindOf p.1=some .free)/\(L.lookup p.1=some .cell\/L.lookup p.1=some .free)) fr):Zba X scope cl own fr:=
 ⟨hcl,hc,hk,hn,λy c h=>hcs.mem (y,c) (PySem.mem_of_lookup h),λy h=>by
  rw [hL] at h
  rcases h with h | h
  ·exact hall.mem _ (PySem.mem_of_lookup h) (.inl rfl)
  ·exact hall.mem _ (PySem.mem_of_lookup h) (.inr rfl),λp hp=>by
  rw [hL]
  exact hfr.mem p hp⟩
theorem Zbd {k:NameKind} {P:Prop} (h:k=.cell\/k=.free) (h1:(k == .cell)=false:=by rfl) (h2:(k == .free)=false:=by rfl):P:=by
 rcases h with z | z
 ·subst z;exact absurd h1 (by decide)
 ·subst z;exact absurd h2 (by decide)
theorem ZeL:bootBuiltins "min" = some (.builtin "min"):=by first | rfl | decide +kernel
def Zf3 (n:Int) (rs:List (Int×Int)):Prop:=1<=n/\n<=16/\rs.length<=30/\(∀ p∈rs,0<=p.1/\p.1<p.2/\p.2<n)/\rs.Nodup
instance (n:Int) (rs:List (Int×Int)):Decidable (Zf3 n rs):=by unfold Zf3;infer_instance
structure Dk (H0 H:Hp) (d:Addr):Prop where
 keep:∀ b o,b≠d->H0 b=some o->H b=some o
 at_:∃ n:Int,H d=some (.lst [.int n])
section
variable {H0 H H':Hp} {d p:Addr} {o:HO}
end
theorem Zat {t u:TS} {D:Ze6} {σ:St} {H:Hp} (Pm:St->Hp->Prop) (h2:∀ σ' H',Pm σ' H'->u D σ' H') (h1:(∀ σ' H',Pm σ' H'->u D σ' H')->t { D with nx:=u D } σ H):ZkD t u D σ H:=h1 h2
end L2
namespace L2
open PySem PySem.Spec PyProof.Rows
theorem ZeM:∀ {xs:List V} {us:List Value},xs.length=us.length->(∀ (i:Nat) x u,xs[i]?=some x->us[i]?=some u->RelV x u)->Vals xs us
 | [],[],_,_=>.nil
 | [],_::_,h,_=>by simp at h
 | _::_,[],h,_=>by simp at h
 | x::xs,u::us,h,k=>.cons (k 0 x u rfl rfl) (ZeM (by simpa using h) λi y v e1 e2=>k (i+1) y v (by simpa using e1) (by simpa using e2))
section
variable {X:Cx} (K:PySem.W.Frag)
def ZkZ:List V->Hp->VK->Prop:=λxs H Q=>∃ (p:Addr) (ns:List Int),xs=[.ref p]/\SqL K H p (ns.map V.int)/\ns.length<64/\∀ (l:Addr) (ns':List Int),H l=none->ns'.Perm ns->ns'.Pairwise (· <= ·)->Q (.ref l) (upd H l (.lst (ns'.map V.int)))
end
section
variable {X:Cx}
theorem Zij {a:Expr} {ta:TA} {p pos:Pos} (hg:Gl X "range") (hm:X.mg "range" = none) (ha:PA X [a] ta) (hs:starEach [a] X.env=[(false,eval a X.env)]:=by rfl) :
  PE X (.Call (.Name "range" p) [a] [] pos) (λσ H Q=>ta σ H λvs H1=>∃ j:Int,vs=[.int j]/\∀ r,H1 r=none->Q (.ref r) (upd H1 r (.rng 0 j))):=by
 intro pins s σ H Q I h
 refine Call_ (Zcv I hg hm boot_range (PyProof.Rows.callWith_type1 (thn (ha pos pins s σ H _ I h) λus s1 ⟨vs,H1,I1,r1,q1⟩=>?_) hs rfl))
 obtain ⟨j,rfl,q⟩:=q1
 obtain ⟨u,rfl,ru⟩:=r1.one
 obtain ⟨t,rfl⟩:=ru
 refine call_range_1 ?_
 exact ⟨.ref _,_,I1.laid (o:=.rng 0 j) (λb o e=>Heap.get?_push_of_some _ e) (Nat.le_refl _) ⟨_,_,_,Heap.get?_push_size _ rfl⟩,rfl,q _ I1.fresh⟩
theorem Zde (hc:X.calm=true):Zbp X (.type "list") (λxs H Q=>∃ r n,xs=[.ref r]/\H r=some (.rng 0 (n:Nat))/\n<=1000/\∀ l,H l=none->Q (.ref l) (upd H l (.lst ((List.range n).map λi=>V.int ((i:Nat):Int))))):=by
 intro pins s σ H xs us Q I rv h
 obtain ⟨r,n,rfl,hr,hn,q⟩:=h
 obtain ⟨u,rfl,ru⟩:=rv.one
 cases ru
 obtain ⟨t,u,v,e⟩:=I.hok r _ hr
 have h16:(16777216:Nat)=sizeLine:=sizeLine_eq.symm
 refine call_list_range (n:=n) (I.ok.hd hc) e (small_one (by omega) (by omega) (by omega) (by omega)) (by rw [rangeSize_one];split <;> omega) (by omega) λh' tk acc' c' hk hS hit=>?_
 refine ⟨.ref _,_,I.laid (o:=.lst ((List.range n).map λi=>V.int ((i:Nat):Int))) hk (Nat.le_refl _) ⟨by rw [List.length_map,List.length_range];omega,acc'.toList,c',?_,hS⟩,rfl,q _ I.fresh⟩
 refine ZeM (by rw [List.length_map,List.length_range,Array.length_toList];exact hit.1.symm) λi x u e1 e2=>?_
 rw [Array.getElem?_toList] at e2
 obtain ⟨tk',rfl⟩:=hit.2 i u e2
 rw [List.getElem?_map] at e1
 cases z:(List.range n)[i]? with
 | none=>rw [z] at e1;cases e1
 | some k=>
  rw [z] at e1
  have hk:k=i:=by
   obtain ⟨h1,h2⟩:=List.getElem?_eq_some_iff.mp z
   rw [List.getElem_range] at h2
   exact h2.symm
  subst hk
  cases e1
  exact ⟨tk',by rw [Int.mul_one,Int.zero_add]⟩
end
section
variable {X:Cx}
theorem ZcD:UnR X (unaryOp .USub) (rU λi=>.int (-i)):=by
 intro pins s σ H x v Q I rx h
 obtain ⟨i,rfl,q⟩:=h
 obtain ⟨t,rfl⟩:=rx
 exact neg_int ⟨.int (-i),H,I.tok _,⟨_,rfl⟩,q⟩
end
theorem ZhD {xs:List V} {k:Nat}:ZeD xs none (some (k:Int))=xs.take k:=by
 unfold ZeD
 rw [HT.sIx_none,HT.sIx_nat,List.drop_zero,Nat.sub_zero]
 by_cases h:k<=xs.length
 ·rw [Nat.min_eq_left h]
 ·rw [Nat.min_eq_right (by omega),List.take_length,List.take_of_length_le (by omega)]
theorem ZaE {K:PySem.W.Frag} {H:Hp}:∀ ns:List Int,DatVs K H (ns.map V.int) (ns.map PyData.int)
 | []=>.nil
 | n::ns=>.cons (.int n) (ZaE ns)
theorem Zcn:∀ ns:List Int,PyData.canLayAll0 (ns.map PyData.int)=true
 | []=>by simp [PyData.canLayAll0]
 | n::ns=>by
  rw [List.map_cons]
  simp [PyData.canLayAll0,PyData.canLay0,Zcn ns]
theorem Zbe:∀ ns:List Int,PyData.depthAll (ns.map PyData.int)<=1
 | []=>by simp [PyData.depthAll]
 | n::ns=>by
  have ih:=Zbe ns
  rw [List.map_cons]
  simp only [PyData.depthAll,PyData.depth]
  omega
theorem ZaJ (ns:List Int):SeqAt.shaped (.list (ns.map PyData.int))=true:=by
 unfold SeqAt.shaped
 rw [Bool.and_eq_true]
 have:=Zbe ns
 refine ⟨by simp only [PyData.canLay0];exact Zcn ns,decide_eq_true ?_⟩
 simp only [PyData.depth]
 omega
theorem Za8 (ns ms:List Int):PyData.eqv (.list (ns.map PyData.int)) (.list (ms.map PyData.int))=decide (ns=ms):=by
 rw [<-PySem.W.ked_eqvAll]
 simp only [PyData.eqv]
end L2
namespace L2
open PySem PySem.Spec PyProof.Rows
section
variable {X:Cx}
def ZlN (K:PySem.W.Frag) (neg:Bool):R2:=λx y H Q=>∃ p xs d ds,y=.ref p/\(SqL K H p xs\/SqT K H p xs)/\DatV K H x d/\DatVs K H xs ds/\SeqAt.shaped d=true/\(∀ e∈ds,SeqAt.shaped e=true)/\Q (.bl (neg != ds.any λe=>PyData.eqv e d)) H
open Classical in
noncomputable def ZbH (h:Heap) (u:Value):PyData:=if q:∃ d as,Reads h u d as/\SeqAt.shaped d=true then choose q else .none
theorem Zg2 {h:Heap} {u:Value} {d:PyData} {as:List Addr} (r:Reads h u d as) (hs:SeqAt.shaped d=true):ZbH h u=d:=by
 have q:∃ d as,Reads h u d as/\SeqAt.shaped d=true:=⟨d,as,r,hs⟩
 unfold ZbH
 rw [dif_pos q]
 obtain ⟨as',r',s'⟩:=Classical.choose_spec q
 exact SeqAt.Reads.unique _ _ _ _ _ (SeqAt.canLay_of_shaped s') r' r
theorem Zf4 {h:Heap}:∀ {us:List Value} {ds:List PyData} {as:List Addr},ReadsAll h us ds as->(∀ e∈ds,SeqAt.shaped e=true)->(∀ u∈us,∃ as',Reads h u (ZbH h u) as'/\SeqAt.shaped (ZbH h u)=true)/\us.map (ZbH h)=ds
 | _,_,_,.nil,_=>⟨λu hu=>by simp at hu,rfl⟩
 | _,_,_,.cons r rs,hs=>by
  obtain ⟨i1,i2⟩:=Zf4 rs λe he=>hs e (List.mem_cons_of_mem _ he)
  have h0:=hs _ (List.mem_cons_self ..)
  have e0:=Zg2 r h0
  refine ⟨λu hu=>?_,by rw [List.map_cons,e0,i2]⟩
  rcases List.mem_cons.mp hu with rfl | hu
  ·rw [e0];exact ⟨_,r,h0⟩
  ·exact i1 u hu
theorem Zg3 {h:Heap} {us:List Value} {ds:List PyData} {d:PyData} (e:us.map (ZbH h)=ds):us.any (λu=>PyData.eqv (ZbH h u) d)=ds.any λe=>PyData.eqv e d:=by
 rw [<-e,List.any_map]
 rfl
theorem ZjB {neg:Bool} {c:CmpOp} (hc:(neg=false/\c=.In)\/(neg=true/\c=.NotIn)) (hu:X.A.units+65<cLine):OpR X (compareOp c) (ZlN X.K neg):=by
 intro pins s σ H x y v u Q I rx ry h
 obtain ⟨p,xs,d,ds,rfl,hq,hd,hds,sd,sds,q⟩:=h
 cases ry
 obtain ⟨as,ra⟩:=hd.reads I rx
 have hu1:X.A.in1.units+64<cLine:=by rw [Around.in1_units];omega
 have key:∀ its:List Value,Vals xs its->(∀ w∈its,SeqAt.EqAt X.A.in1 s w v (PyData.eqv (ZbH s.heap w) d))/\its.toArray.any (λw=>PyData.eqv (ZbH s.heap w) d)=ds.any λe=>PyData.eqv e d:=λits r=>by
  obtain ⟨bs,rb⟩:=hds.reads I r
  obtain ⟨k1,k2⟩:=Zf4 rb sds
  refine ⟨λw hw=>?_,?_⟩
  ·obtain ⟨as',r',s'⟩:=k1 w hw
   exact PySem.W.keq_at r' ra s' sd hu1
  ·rw [List.any_toArray]
   exact Zg3 k2
 rcases hq with hq | hq
 ·obtain ⟨its,r,pl,hz⟩:=I.list hq
  obtain ⟨k1,k2⟩:=key its r
  rcases hc with ⟨rfl,rfl⟩ | ⟨rfl,rfl⟩
  ·refine SeqAt.in_listAt (λw=>PyData.eqv (ZbH s.heap w) d) pl.isList (λw hw=>k1 w (by simpa using hw)) ⟨.bl _,H,I,rfl,?_⟩
   rw [k2];simpa using q
  ·refine SeqAt.notIn_listAt (λw=>PyData.eqv (ZbH s.heap w) d) pl.isList (λw hw=>k1 w (by simpa using hw)) ⟨.bl _,H,I,rfl,?_⟩
   rw [k2];simpa using q
 ·obtain ⟨its,r,pl,hz⟩:=I.tuple hq
  obtain ⟨k1,k2⟩:=key its r
  rcases hc with ⟨rfl,rfl⟩ | ⟨rfl,rfl⟩
  ·refine SeqAt.in_tupleAt (λw=>PyData.eqv (ZbH s.heap w) d) pl (λw hw=>k1 w (by simpa using hw)) ⟨.bl _,H,I,rfl,?_⟩
   rw [k2];simpa using q
  ·refine SeqAt.notIn_tupleAt (λw=>PyData.eqv (ZbH s.heap w) d) pl (λw hw=>k1 w (by simpa using hw)) ⟨.bl _,H,I,rfl,?_⟩
   rw [k2];simpa using q
theorem Zmw (K:PySem.W.Frag) (hu:X.A.units+65<cLine) (h:X.K=K:=by rfl):OpR X (compareOp .In) (ZlN K false):=h▸ZjB (.inl ⟨rfl,rfl⟩) hu
def Zkx:V->List V->Hp->VK->Prop:=λx vs H Q=>∃ l xs y,x=.ref l/\vs=[.int 0,y]/\H l=some (.lst xs)/\xs.length<sizeLine/\Q .non (upd H l (.lst (y::xs)))
end
end L2
namespace L2
open PySem PySem.Spec PyProof.Rows
section
variable {X:Cx}
def Zk0:V->List V->Hp->VK->Prop:=λx vs H Q=>∃ l xs i y,x=.ref l/\vs=[.int i,y]/\H l=some (.lst xs)/\0<=i/\i<=xs.length/\xs.length<sizeLine/\Q .non (upd H l (.lst (xs.take i.toNat++y::xs.drop i.toNat)))
theorem Vals.drop' {xs:List V} {us:List Value} (h:Vals xs us):∀ k:Nat,Vals (xs.drop k) (us.drop k):=by
 induction h with
 | nil=>intro k;rw [List.drop_nil,List.drop_nil];exact .nil
 | cons r t ih=>
  intro k
  cases k with
  | zero=>exact .cons r t
  | succ k=>rw [List.drop_succ_cons,List.drop_succ_cons];exact ih k
def Ite (K:PySem.W.Frag) (a:Addr):It:=
 ⟨λi H=>∃ xs x,SqL K H a xs/\xs[i]?=some x,λi H x H'=>∃ T y,x=.ref T/\H T=none/\H'=upd H T (.tup [.int (i:Nat),y])/\∀ xs,SqL K H a xs->xs[i]?=some y,λi H=>∃ xs,SqL K H a xs/\xs.length<=i⟩
def Zmx (K:PySem.W.Frag) (ta:TA):TI:=λσ H R=>ta σ H λvs H1=>∃ a xs,vs=[.ref a]/\SqL K H1 a xs/\R (Ite K a) H1
end
abbrev TB:=Ze6->(St->XK)->St->Hp->Prop
def PB (X:Cx) (body:List Stmt) (tb:TB):Prop:=∀ (pins:List (Addr×Obj)) (s:Shared) (σ:St) (H:Hp) (D:Ze6) (Eσ:St->XK) (QQ:Flow->Shared->Prop) (EE:Value->Shared->Prop),Inv X pins σ H s->tb D Eσ σ H ->
 (∀ fl s',SP X pins D fl s'->QQ fl s')->(∀ σ1 ev H1 s1 s',Inv X pins σ1 H1 s1->CXr X.prog X.w X.stack H1 s1 (Eσ σ1) ev s'->EE ev s')->wpAny (model X.prog X.w) X.A (execs body X.env) QQ EE s
section
variable {X:Cx} {k:Nat} {f:Addr} {fd:FuncData} {ps:List Str} {sp:Sp} {dvs:List V} {ds:List Value} {fx:Str} {fp cpos bpos np hpos pos:Pos} {e:Expr} {es:List Expr} {t:TA}
theorem Zik {body:List Stmt} {tb:TB} {W:Addr} {wx n:Str} {i:Nat} {b0:Stmt} {suite:List Stmt} {ts:TS} (hB:PB X body tb) (hc:X.calm=true) (hst:X.stack=X.env::X.outer) (hfr:X.env.frame=some X.env.locals) (hex:X.ex=[]) (hN:X.N.Nodup) (hi:X.N[i]?=some n)
  (hl:X.env.scope.names.lookup n=some .local) (hgW:Gl X wx) (hmW:X.mg wx=some (.ref W)) (hbE:PySem.W.subIn X.K (.ref W) (.type "BaseException")=some true) (hsu:∀ a,PSs (X.inExc a) (b0::suite) ts) (hdb2:(wx == ("__debug__" : Str))=false:=by decide) :
  PS X (.Try body [.ExceptHandler (some (.Name wx np)) (some n) (b0::suite) hpos] [] [] pos) (λD σ H=>tb D (λσ1=>ZfW X.K W i ts D σ1) σ H):=by
 intro pins s σ H D I h
 refine wpAny_Try_except (hB pins s σ H D _ _ _ I h (λfl s' hq=>?_) (λσ1 ev H1 s1 s' I1 hq=>handled hc hst hfr hex hN hi hl hgW hmW hbE hsu I1 hq hdb2))
 cases fl with
 | next=>exact wpAny_execs_nil hq
 | brk=>exact hq
 | cont=>exact hq
 | ret u=>exact hq
end
end L2
namespace L2
open PySem PySem.Spec PyProof.Rows
section
variable {X:Cx} {a b c d:Expr} {ta tb tc td:TE} {pos:Pos}
def Zk1 (r1 r2 r3:R2) (ta tb tc td:TE):TE:=λσ H Q=>ta σ H λx H1=>tb σ H1 λy H2=>r1 x y H2 λz H3=>∃ k,z=.bl k /\
 (if k=true then tc σ H3 λw' H4=>r2 y w' H4 λz' H5=>∃ k',z'=.bl k'/\(if k'=true then td σ H5 λu' H6=>r3 w' u' H6 Q else Q (.bl false) H5) else Q (.bl false) H3)
end
end L2
namespace L2
open PySem PySem.Spec PyProof.Rows
section
variable {κ:Type} [DecidableEq κ]
def ZbI (kvs:List (κ×V)) (k:κ):Option V:=(kvs.find? λkv=>decide (kv.1=k)).map (·.2)
def ZdA (kvs:List (κ×V)) (k:κ) (v:V):List (κ×V):=
 if (kvs.any λkv=>decide (kv.1=k))=true then kvs.map (λkv=>if kv.1=k then (kv.1,v) else kv) else kvs++[(k,v)]
def Zil (kvs:List (κ×V)) (k:κ):List (κ×V):=kvs.filter λkv=>decide (kv.1≠k)
theorem ZaV {p:κ×V} {r:List (κ×V)} {k:κ} (e:p.1=k):ZbI (p::r) k=some p.2:=by simp [ZbI,List.find?_cons,e]
theorem ZaW {p:κ×V} {r:List (κ×V)} {k:κ} (e:¬ p.1=k):ZbI (p::r) k=ZbI r k:=by simp [ZbI,List.find?_cons,e]
theorem Zco (k:κ):∀ kvs:List (κ×V),(kvs.any λkv=>decide (kv.1=k))=(ZbI kvs k).isSome
 | []=>rfl
 | p::r=>by
  rw [List.any_cons]
  by_cases e:p.1=k
  ·simp only [ZaV e,decide_eq_true e,Bool.true_or,Option.isSome_some]
  ·rw [ZaW e,decide_eq_false e,Bool.false_or];exact Zco k r
theorem ZeN (k j:κ) (y:V):∀ kvs:List (κ×V),ZbI (kvs.map λkv=>if kv.1=k then (kv.1,y) else kv) j=(ZbI kvs j).map λx=>if j=k then y else x
 | []=>rfl
 | p::r=>by
  have ih:=ZeN k j y r
  rw [List.map_cons]
  by_cases h:p.1=k
  ·rw [if_pos h]
   by_cases e:p.1=j
   ·rw [ZaV (p:=(p.1,y)) e,ZaV e,Option.map_some,if_pos (e.symm.trans h)]
   ·rw [ZaW (p:=(p.1,y)) e,ZaW e,ih]
  ·rw [if_neg h]
   by_cases e:p.1=j
   ·rw [ZaV (p:=p) e,ZaV e,Option.map_some,if_neg (λz=>h (e.trans z))]
   ·rw [ZaW (p:=p) e,ZaW e,ih]
theorem ZdS (k j:κ) (y:V):∀ kvs:List (κ×V),ZbI kvs k=none->ZbI (kvs++[(k,y)]) j=if j=k then some y else ZbI kvs j
 | [],_=>by
  by_cases e:k=j
  ·rw [if_pos e.symm];exact ZaV (p:=(k,y)) e
  ·rw [if_neg (λz=>e z.symm)];exact ZaW (p:=(k,y)) e
 | p::r,hn=>by
  rw [List.cons_append]
  have hk:¬ p.1=k:=λz=>by rw [ZaV z] at hn;cases hn
  rw [ZaW hk] at hn
  have ih:=ZdS k j y r hn
  by_cases e:p.1=j
  ·rw [ZaV e,ZaV e,if_neg (λz=>hk (e.trans z))]
  ·rw [ZaW e,ZaW e,ih]
theorem Zdf (kvs:List (κ×V)) (k j:κ) (y:V):ZbI (ZdA kvs k y) j=if j=k then some y else ZbI kvs j:=by
 unfold ZdA
 by_cases a:(kvs.any λkv=>decide (kv.1=k))=true
 ·rw [if_pos a,ZeN]
  rw [Zco] at a
  by_cases e:j=k
  ·obtain ⟨x,hx⟩:=Option.isSome_iff_exists.mp a
   rw [if_pos e,e,hx,Option.map_some,if_pos rfl]
  ·rw [if_neg e]
   cases ZbI kvs j with
   | none=>rfl
   | some x=>rw [Option.map_some,if_neg e]
 ·rw [if_neg a]
  refine ZdS k j y kvs ?_
  rw [Zco] at a
  cases q:ZbI kvs k with
  | none=>rfl
  | some x=>rw [q] at a;exact (a rfl).elim
theorem Zbf (kvs:List (κ×V)) (k:κ) (v:V):(ZdA kvs k v).length<=kvs.length+1:=by
 unfold ZdA
 split
 ·rw [List.length_map];omega
 ·rw [List.length_append,List.length_cons,List.length_nil];omega
theorem RelO.isSome_eq {o:Option V} {u:Option Value} (r:RelO o u):o.isSome=u.isSome:=by
 cases o with
 | none=>cases u with
  | none=>rfl
  | some _=>exact (show False from r).elim
 | some _=>cases u with
  | none=>exact (show False from r).elim
  | some _=>rfl
theorem RelO.getD {o:Option V} {u:Option Value} {d:V} {d':Value} (r:RelO o u) (rd:RelV d d'):RelV (o.getD d) (u.getD d'):=by
 cases o with
 | none=>cases u with
  | none=>exact rd
  | some _=>exact (show False from r).elim
 | some _=>cases u with
  | none=>exact (show False from r).elim
  | some _=>exact r
theorem KV.val {kvs:List (κ×V)} {vs:List (κ×Value)} (r:KV kvs vs) (k:κ):RelO (ZbI kvs k) (valueAt vs k):=by
 unfold KV at r
 induction r with
 | nil=>exact True.intro
 | @cons p q ps qs h t ih=>
  obtain ⟨h1,h2⟩:=h
  by_cases e:p.1=k
  ·have e':q.1=k:=h1.symm.trans e
   have b:valueAt (q::qs) k=some q.2:=by simp [valueAt,List.find?_cons,e']
   rw [ZaV e,b];exact h2
  ·have e':¬ q.1=k:=λz=>e (h1.trans z)
   have b:valueAt (q::qs) k=valueAt qs k:=by simp [valueAt,List.find?_cons,e']
   rw [ZaW e,b];exact ih
theorem KV.any {kvs:List (κ×V)} {vs:List (κ×Value)} (r:KV kvs vs) (k:κ):(kvs.any λkv=>decide (kv.1=k))=vs.any λkv=>decide (kv.1=k):=by
 unfold KV at r
 induction r with
 | nil=>rfl
 | cons h t ih=>rw [List.any_cons,List.any_cons,ih,h.1]
theorem KV.repl {kvs:List (κ×V)} {vs:List (κ×Value)} (r:KV kvs vs) (k:κ) {y:V} {u:Value} (ry:RelV y u) :
  KV (kvs.map λkv=>if kv.1=k then (kv.1,y) else kv) (vs.map λkv=>if kv.1=k then (kv.1,u) else kv):=by
 unfold KV at r ⊢
 induction r with
 | nil=>exact .nil
 | @cons p q ps qs h t ih=>
  rw [List.map_cons,List.map_cons]
  refine .cons ?_ ih
  obtain ⟨h1,h2⟩:=h
  by_cases e:p.1=k
  ·rw [if_pos e,if_pos (h1.symm.trans e)];exact ⟨h1,ry⟩
  ·rw [if_neg e,if_neg (λz=>e (h1.trans z))];exact ⟨h1,h2⟩
theorem KV.put {kvs:List (κ×V)} {vs:List (κ×Value)} (r:KV kvs vs) (k:κ) {y:V} {u:Value} (ry:RelV y u):KV (ZdA kvs k y) (stored vs k u):=by
 unfold ZdA stored
 rw [r.any k]
 by_cases e:(vs.any λkv=>decide (kv.1=k))=true
 ·rw [if_pos e,if_pos e];exact r.repl k ry
 ·rw [if_neg e,if_neg e];exact Paired.snoc r ⟨rfl,ry⟩
theorem KV.length {kvs:List (κ×V)} {vs:List (κ×Value)} (r:KV kvs vs):kvs.length=vs.length:=Paired.length r
end
theorem Zg4 {P:Program} {w:World} {k:Key} {u:Value} (r:RelV (kV k) u):(ZaP P w).is k u=true:=by
 cases k with
 | inl i=>obtain ⟨t,e⟩:=(show ∃ t,u=Value.int i t from r);subst e;exact Zec P w i t
 | inr x=>obtain ⟨t,e⟩:=(show ∃ t,u=Value.str x t from r);subst e;exact Zed P w x t
theorem ZdT {P:Program} {w:World}:∀ {ks:List Key} {us:List Value},Vals (ks.map kV) us->ItemsAre (ZaP P w) ks us
 | [],_,r=>by rw [List.map_nil] at r;cases r;exact .nil
 | k::ks,_,r=>by
  rw [List.map_cons] at r
  cases r with
  | cons h t=>exact .cons (Zg4 h) (ZdT t)
abbrev KT (H:Hp):List (List Key×V)->List (List Key×Addr×Value)->Prop:=Paired λp q=>p.1=q.1/\H q.2.1=some (.tup (p.1.map kV))/\RelV p.2 q.2.2
theorem KT.val {H:Hp} {kvs:List (List Key×V)} {xs:List (List Key×Addr×Value)} (r:KT H kvs xs) (k:List Key):RelO (ZbI kvs k) ((atKey xs k).map (·.2)):=by
 induction r with
 | nil=>exact True.intro
 | @cons p q ps qs h t ih=>
  obtain ⟨h1,_,h2⟩:=h
  by_cases e:p.1=k
  ·have e':q.1=k:=h1.symm.trans e
   have b:atKey (q::qs) k=some q.2:=by simp [atKey,List.find?_cons,e']
   rw [ZaV e,b];exact h2
  ·have e':¬ q.1=k:=λz=>e (h1.trans z)
   have b:atKey (q::qs) k=atKey qs k:=by simp [atKey,List.find?_cons,e']
   rw [ZaW e,b];exact ih
theorem KT.repl {H:Hp} {kvs:List (List Key×V)} {xs:List (List Key×Addr×Value)} (r:KT H kvs xs) (k:List Key) {y:V} {u:Value} (ry:RelV y u) :
  KT H (kvs.map λkv=>if kv.1=k then (kv.1,y) else kv) (xs.map (putAt k u)):=by
 induction r with
 | nil=>exact .nil
 | @cons p q ps qs h t ih=>
  rw [List.map_cons,List.map_cons]
  refine .cons ?_ ih
  obtain ⟨h1,h2,h3⟩:=h
  unfold putAt
  by_cases e:p.1=k
  ·rw [if_pos e,if_pos (h1.symm.trans e)];exact ⟨h1,h2,ry⟩
  ·rw [if_neg e,if_neg (λz=>e (h1.trans z))];exact ⟨h1,h2,h3⟩
theorem KT.put {H:Hp} {kvs:List (List Key×V)} {xs:List (List Key×Addr×Value)} (r:KT H kvs xs) (k:List Key) {b:Addr} {y:V} {u:Value} (hb:H b=some (.tup (k.map kV))) (ry:RelV y u) :
  KT H (ZdA kvs k y) (storedH xs k b u):=by
 have e:(kvs.any λkv=>decide (kv.1=k))=(atKey xs k).isSome:=by
  rw [Zco,(r.val k).isSome_eq,Option.isSome_map]
 unfold ZdA storedH
 rw [e]
 by_cases q:(atKey xs k).isSome=true
 ·rw [if_pos q,if_pos q];exact r.repl k ry
 ·rw [if_neg q,if_neg q];exact Paired.snoc r ⟨rfl,hb,ry⟩
theorem KT.keeps {H H':Hp} {kvs:List (List Key×V)} {xs:List (List Key×Addr×Value)} (r:KT H kvs xs) (ht:∀ b ys,H b=some (.tup ys)->H' b=some (.tup ys)):KT H' kvs xs:=
 Paired.mapP r λ_ _ z=>⟨z.1,ht _ _ z.2.1,z.2.2⟩
section
variable {P:Program} {w:World} {H:Hp} {h:Heap} {a:Addr}
theorem ZjC {u:HO} (ok:HOk P w H h) (e:Rd H a u):ObjOk P w H h a u:=e.ok ok
theorem Zim {kvs:List (Key×V)} (ok:HOk P w H h) (e:Rd H a (.dK kvs)):kvs.length<=sizeLine/\(a == sysModules)=false/\∃ vs,KV kvs vs/\h.DictOf (ZaP P w) a vs:=
 show ObjOk P w H h a (.dK kvs) from ZjC ok e
theorem Zin {kvs:List (Key×V)} (ok:HOk P w H h) (e:H a=some (.dK kvs)):kvs.length<=sizeLine/\(a == sysModules)=false/\∃ vs,KV kvs vs/\h.DictOf (ZaP P w) a vs:=Zim ok (.inl e)
theorem Zf5 {ks:List Key} (ok:HOk P w H h) (e:H a=some (.tup (ks.map kV))):(tupleKind (ZaP P w)).is h ks a:=by
 obtain ⟨_,its,r,o,h1,h2,n,h3⟩:=(show ObjOk P w H h a (.tup (ks.map kV)) from ok a _ e)
 exact ⟨o,its.toArray,n,h1,h2,h3,by simpa using ZdT r⟩
theorem Zio {kvs:List (List Key×V)} (ok:HOk P w H h) (e:Rd H a (.dT kvs)):kvs.length<=sizeLine/\(a == sysModules)=false /\
  ∃ xs,KT H kvs xs/\h.DictOfH (tupleKind (ZaP P w)) a xs:=by
 obtain ⟨z,y,xs,r,o,es,ep,h1,h2,h3,h4,h5⟩:=(show ObjOk P w H h a (.dT kvs) from ZjC ok e)
 refine ⟨z,y,xs,r,o,es,ep,h1,h2,h3,h4,λx hx=>?_,h5⟩
 have all:∀ {l:List (List Key×V)} {m:List (List Key×Addr×Value)},KT H l m->∀ x∈m,(tupleKind (ZaP P w)).is h x.1 x.2.1:=by
  intro l m q
  induction q with
  | nil=>intro x hx;exact nomatch hx
  | @cons p q ps qs hq t ih=>
   intro x hx
   rcases List.mem_cons.mp hx with e | hx
   ·subst e
    exact Zf5 ok (by rw [<-hq.1];exact hq.2.1)
   ·exact ih x hx
 exact all r x hx
theorem Zk2 {kvs:List (List Key×V)} (ok:HOk P w H h) (e:H a=some (.dT kvs)):kvs.length<=sizeLine/\(a == sysModules)=false /\
  ∃ xs,KT H kvs xs/\h.DictOfH (tupleKind (ZaP P w)) a xs:=Zio ok (.inl e)
end
def DGet (H:Hp) (a:Addr) (y:V) (r:Option V):Prop:=
 (∃ kvs k,Rd H a (.dK kvs)/\y=kV k/\r=ZbI kvs k)\/∃ kvs k b,Rd H a (.dT kvs)/\y=.ref b/\H b=some (.tup (k.map kV))/\r=ZbI kvs k
def DPut (H:Hp) (a:Addr) (y v:V) (H':Hp):Prop:=
 (∃ kvs k,H a=some (.dK kvs)/\y=kV k/\kvs.length<sizeLine/\H'=upd H a (.dK (ZdA kvs k v))) \/
 ∃ kvs k b,H a=some (.dT kvs)/\y=.ref b/\H b=some (.tup (k.map kV))/\kvs.length<sizeLine/\H'=upd H a (.dT (ZdA kvs k v))
theorem DGet.k {H:Hp} {a:Addr} {kvs:List (Key×V)} {k:Key} (e:H a=some (.dK kvs)):DGet H a (kV k) (ZbI kvs k):=.inl ⟨kvs,k,.inl e,rfl,rfl⟩
theorem DPut.k {H:Hp} {a:Addr} {kvs:List (Key×V)} {k:Key} {v:V} (e:H a=some (.dK kvs)) (hl:kvs.length<sizeLine):DPut H a (kV k) v (upd H a (.dK (ZdA kvs k v))):=.inl ⟨kvs,k,e,rfl,hl,rfl⟩
section
variable {X:Cx} {pins:List (Addr×Obj)} {σ:St} {H:Hp} {s:Shared} {a:Addr} {y v:V} {u r:Value} {o:Option V} {A:Around} {E:Value->Shared->Prop}
theorem Inv.big (I:Inv X pins σ H s):sysModules<s.heap.objs.size:=by
 have h:mainGlobals<s.heap.objs.size:=(I.mod.glob.keeps I.bk).lt
 exact Nat.lt_trans (by decide) h
theorem Zf6 {Q:Value->Shared->Prop} (hu:A.units+1<cLine) (I:Inv X pins σ H s) (g:DGet H a y (some v)) (ry:RelV y u) (h:∀ w' s',Inv X pins σ H s'->RelV v w'->Q w' s') :
  wpAny (model X.prog X.w) A (getItem (.ref a) u) Q E s:=by
 rcases g with ⟨kvs,k,e,ey,l⟩ | ⟨kvs,k,b,e,ey,eb,l⟩
 ·subst ey
  obtain ⟨z,hd,vs,rel,dd⟩:=Zim I.hok e
  obtain ⟨w',hw,rw'⟩:=RelO.some_of (v:=v) (o:=valueAt vs k) (by rw [l];exact rel.val k)
  exact wpAny_getItem_of (Zg4 ry) dd.mapOf hw (h w' _ (I.tok _) rw')
 ·subst ey
  cases (show u=Value.ref b from ry)
  obtain ⟨z,hd,xs,rel,dd⟩:=Zio I.hok e
  obtain ⟨w',hw,rw'⟩:=RelO.some_of (v:=v) (o:=(atKey xs k).map (·.2)) (by rw [l];exact rel.val k)
  obtain ⟨p,hp,hp2⟩:=Option.map_eq_some_iff.mp hw
  refine wpAny_getItem_heap (tupleKind_room_in1 hu) (Zf5 I.hok eb) dd hp ?_
  rw [hp2]
  exact h w' _ (I.tok _) rw'
theorem ZcE {h':Heap} {t':Nat} {ob:HO} (I:Inv X pins σ H s) (mu:Mut (H a)) (hs:Heap.SameBut a s.heap h') (he:∃ q,h'.get? a=some q) (new:ObjOk X.prog X.w (upd H a ob) h' a ob) :
  Inv X pins σ (upd H a ob) { s with heap:=h',toks:=t' }:=
 I.write (x:=a) (e:=a) mu (.inl rfl) (λb q hb z=>(hs.2 b hb).trans z) he new
theorem ZhE {P:Program} {w:World} {H':Hp} {h':Heap} {kvs:List (Key×V)} {vs:List (Key×Value)} (z:kvs.length<=sizeLine) (hd:(a == sysModules)=false) (rel:KV kvs vs) (dd:h'.DictOf (ZaP P w) a vs) :
  ObjOk P w H' h' a (.dK kvs):=⟨z,hd,vs,rel,dd⟩
theorem Zf7 {H':Hp} {Q:Unit->Shared->Prop} (hu:A.units+1<cLine) (I:Inv X pins σ H s) (g:DPut H a y v H') (ry:RelV y u) (rv:RelV v r) (h:∀ s',Inv X pins σ H' s'->Q () s') :
  wpAny (model X.prog X.w) A (setItem (.ref a) u r) Q E s:=by
 rcases g with ⟨kvs,k,e,ey,l,eH⟩ | ⟨kvs,k,b,e,ey,eb,l,eH⟩
 ·subst ey eH
  obtain ⟨z,hd,vs,rel,dd⟩:=Zin I.hok e
  have hz:vs.length<=sizeLine:=by rw [<-rel.length];exact z
  have hl:(ZdA kvs k v).length<=sizeLine:=by have:=Zbf kvs k v;omega
  refine wpAny_setItem_pairs (hsz:=hz) (Zg4 ry) dd λh' dd' hs=>h _ ?_
  have he:∃ q,h'.get? a=some q:=let ⟨q,_,_,hq,_⟩:=dd';⟨q,hq⟩
  exact ZcE I (by rw [e];exact True.intro) hs he (ZhE hl hd (rel.put k rv) dd')
 ·subst ey eH
  cases (show u=Value.ref b from ry)
  obtain ⟨z,hd,xs,rel,dd⟩:=Zk2 I.hok e
  have hz:xs.length<=sizeLine:=by rw [<-Paired.length rel];exact z
  have hl:(ZdA kvs k v).length<=sizeLine:=by have:=Zbf kvs k v;omega
  refine wpAny_setItem_heap (hsz:=hz) (tupleKind_room_in1 hu) (Zf5 I.hok eb) dd λh' dd' hs=>h _ ?_
  obtain ⟨q,es,ep,hq,h2,h3,h4,_,h5⟩:=dd'
  refine ZcE I (by rw [e];exact True.intro) hs ⟨q,hq⟩ ⟨hl,hd,_,(rel.put k eb rv).keeps λc ys ec=>?_,q,es,ep,hq,h2,h3,h4,h5⟩
  rw [Zas (Zb5 ec e (λz=>nomatch z))]
  exact ec
end
section
variable {X:Cx} {pins:List (Addr×Obj)} {σ:St} {H:Hp} {s:Shared} {a:Addr} {kvs:List (Key×V)} {k:Key} {u:Value} {A:Around} {E:Value->Shared->Prop}
end
def ZlO (i:Expr):Prop:=∀ ov iv,subscripted i false ov iv=operate [ov,iv] (getItem ov iv)
theorem Zip {prog:Program} {w:World} {A:Around} {E:Value->Shared->Prop} {s:Shared} {env:Env} {value slice:Expr} {pos:Pos} {T id:String} {Q:Value->Shared->Prop}
  (hl:typeLookup (.type T) "__getitem__" = pure (some (.builtin id))) (hs:ZlO slice)
  (h:wpAny (model prog w) A (eval value env) (λo s₁=>wpAny (model prog w) A (eval slice env) (λi s₂=>s₂.TypeIs o T/\wpAny (model prog w) A (getItem o i) Q E s₂) E s₁) E s) :
  wpAny (model prog w) A (eval (.Subscript value slice pos) env) Q E s:=by
 refine Subscript_ (wpAny_mono h (λo s₁ h₁=>wpAny_mono h₁ (λi s₂ h₂=>?_) λ_ _ x=>x) λ_ _ x=>x)
 obtain ⟨hT,h₂⟩:=h₂
 unfold subscriptTail
 refine wpAny_bind ?_
 rw [getitemInPython_of_ne hT.not_modules]
 refine wpAny_bind (wpAny_specialOf hT hl ?_)
 have fin:wpAny (model prog w) A (subscripted slice false o i) (λr s₃=>wpAny (model prog w) A (letTemporaryGo value o r >>= λ_=>pure r) Q E s₃) E s₂:=by
  rw [hs o i]
  exact wpAny_operating (wpAny_mono h₂ (λr s₃ h₃=>wpAny_bind (wpAny_letTemporaryGo (wpAny_pure h₃))) λ_ _ x=>x)
 first
  | exact wpAny_pure (wpAny_bind fin)
  | exact wpAny_bind (wpAny_pure (wpAny_bind fin))
  | exact wpAny_bind fin
theorem Zel {X:Cx} {pins:List (Addr×Obj)} {σ:St} {H:Hp} {s:Shared} {a:Addr} {y:V} {o:Option V} (I:Inv X pins σ H s) (g:DGet H a y o):s.TypeIs (.ref a) "dict" := by
 rcases g with ⟨kvs,k,e,_,_⟩ | ⟨kvs,k,b,e,_,_,_⟩
 ·obtain ⟨_,_,vs,_,dd⟩:=Zim I.hok e
  exact dd.typeIs
 ·obtain ⟨_,_,xs,_,dd⟩:=Zio I.hok e
  exact dd.typeIs
def Zk3 (td ty:TE):TE:=λσ H Q=>td σ H λx H1=>ty σ H1 λy H2=>∃ a v,x=.ref a/\DGet H2 a y (some v)/\Q v H2
def Zno (ty td:TE):TE:=λσ H Q=>ty σ H λy H1=>td σ H1 λx H2=>∃ a o,x=.ref a/\DGet H2 a y o/\Q (.bl o.isSome) H2
def Zk4 (ty td:TE):TE:=λσ H Q=>ty σ H λy H1=>td σ H1 λx H2=>∃ a o,x=.ref a/\DGet H2 a y o/\Q (.bl (!o.isSome)) H2
def Zk5 (td ty tv:TE):TS:=λD σ H=>tv σ H λv H1=>td σ H1 λx H2=>ty σ H2 λy H3=>∃ a H4,x=.ref a/\DPut H3 a y v H4/\D.nx σ H4
def Zmy (td ty tv:TE) (rd:V->V->Hp->VK->Prop):TS:=λD σ H=>td σ H λx H1=>ty σ H1 λy H2=>∃ a v,x=.ref a/\DGet H2 a y (some v) /\
 tv σ H2 λy2 H3=>rd v y2 H3 λz H4=>∃ H5,DPut H4 a y z H5/\D.nx σ H5
def Zmz (td ty:TE):TS:=λD σ H=>td σ H λx H1=>ty σ H1 λy H2=>∃ a kvs k,x=.ref a/\H2 a=some (.dK kvs)/\y=kV k/\(ZbI kvs k).isSome=true/\D.nx σ (upd H2 a (.dK (Zil kvs k)))
section
variable {X:Cx} {o i e value:Expr} {pos pos' tpos:Pos} {td ty tv:TE}
theorem Zem (hu:X.A.units+1<cLine) (ho:PE X o td) (hi:PE X i ty) (hs:ZlO i):PE X (.Subscript o i pos) (Zk3 td ty):=by
 intro pins s σ H Q I h
 refine Zip PySem.F.slot_dict_getitem.lookup hs (thn (ho pins s σ H _ I h) λu s1 ⟨x,H1,I1,rx,q1⟩=>thn (hi pins s1 σ H1 _ I1 q1) λiv s2 ⟨y,H2,I2,ry,a,v,ex,g,q2⟩=>?_)
 subst ex
 obtain rfl:u=Value.ref a:=rx
 exact ⟨Zel I2 g,Zf6 hu I2 g ry λw' s3 I3 rw'=>⟨v,H2,I3,rw',q2⟩⟩
theorem Ziq (hu:X.A.units+1<cLine) (ho:PE X o td) (hi:PE X i ty) (hv:PE X value tv) (hs:swapsWith value (some (.Subscript o i pos')) pos.line X.env=pure false) :
  PS X (.Assign [.Subscript o i pos'] value pos) (Zk5 td ty tv):=by
 intro pins s σ H D I h
 refine wpAny_Assign_Subscript (thn (hv pins s σ H _ I h) λr s1 ⟨v,H1,I1,rv,q1⟩=>thn (ho pins s1 σ H1 _ I1 q1) λu s2 ⟨x,H2,I2,rx,q2⟩=>thn (hi pins s2 σ H2 _ I2 q2) λiv s3 ⟨y,H3,I3,ry,a,H4,ex,g,q3⟩=>?_) hs
 subst ex
 obtain rfl:u=Value.ref a:=rx
 exact Zf7 hu I3 g ry rv λs4 I4=>⟨σ,H4,I4,q3⟩
end
theorem ZeO {P:Program} {w:World} {H:Hp} (h:Heap) (hb:sysModules<h.objs.size):ObjOk P w H (h.push { cls:=.type "dict", data:=.dict #[] }) h.objs.size (.dK []):=
 ⟨Nat.zero_le _,beq_eq_false_iff_ne.mpr (Ne.symm (Nat.ne_of_lt hb)),[],.nil,Heap.DictOf.new h⟩
def ZlP:TE:=λ_ H Q=>∀ p,H p=none->Q (.ref p) (upd H p (.dK []))
def ZlQ:TE:=λ_ H Q=>∀ p,H p=none->Q (.ref p) (upd H p (.dT []))
section
variable {X:Cx} {pos:Pos}
end
def Zf8:List (TE×TE)->St->Hp->(List (V×V)->Hp->Prop)->Prop
 | [],_,H,Q=>Q [] H
 | (tk,tv)::r,σ,H,Q=>tk σ H λx H1=>tv σ H1 λy H2=>Zf8 r σ H2 λps H3=>Q ((x,y)::ps) H3
abbrev VV:List (V×V)->List (Value×Value)->Prop:=Paired λp q=>RelV p.1 q.1/\RelV p.2 q.2
def PPs (X:Cx) (pos:Pos) (keys:List (Option Expr)) (values:List Expr) (trs:List (TE×TE)):Prop:=
 ∀ (pins:List (Addr×Obj)) (s:Shared) (σ:St) (H:Hp) (Q:List (V×V)->Hp->Prop),Inv X pins σ H s->Zf8 trs σ H Q ->
  wpAny (model X.prog X.w) X.A (evalPairs (pairTrees keys values X.env pos)) (λvs s'=>∃ ps H',Inv X pins σ H' s'/\VV ps vs/\Q ps H') X.xe s
theorem Zf9 {X:Cx} {pos:Pos}:PPs X pos [] [] []:=λpins s σ H Q I h=>pairTrees_nil_walk ⟨[],H,I,.nil,h⟩
theorem Zdg {X:Cx} {pos:Pos} {k v:Expr} {ks:List (Option Expr)} {vs:List Expr} {tk tv:TE} {trs:List (TE×TE)} (hk:PE X k tk) (hv:PE X v tv) (hr:PPs X pos ks vs trs) :
  PPs X pos (some k::ks) (v::vs) ((tk,tv)::trs):=λpins s σ H Q I h=>
 pairTrees_cons_walk (thn (hk pins s σ H _ I h) λu s1 ⟨x,H1,I1,rx,q1⟩=>thn (hv pins s1 σ H1 _ I1 q1) λw2 s2 ⟨y,H2,I2,ry,q2⟩=>
  thn (hr pins s2 σ H2 _ I2 q2) λws s3 ⟨ps,H3,I3,rel,q3⟩=>⟨(x,y)::ps,H3,I3,.cons ⟨rx,ry⟩ rel,q3⟩)
def ZbL (kvs more:List (Key×V)):List (Key×V):=more.foldl (λacc kv=>ZdA acc kv.1 kv.2) kvs
theorem KV.merge:∀ {more:List (Key×V)} {rs:List (Key×Value)} {kvs:List (Key×V)} {vs:List (Key×Value)},KV more rs->KV kvs vs->KV (ZbL kvs more) (merged vs rs):=by
 intro more rs kvs vs r
 unfold KV at r
 induction r generalizing kvs vs with
 | nil=>intro q;exact q
 | @cons p q ps qs h t ih=>
  intro r0
  have e:KV (ZdA kvs p.1 p.2) (stored vs q.1 q.2):=by
   have:=r0.put p.1 h.2
   rw [<-h.1];exact this
  exact ih e
theorem ZbV:∀ (more kvs:List (Key×V)),(ZbL kvs more).length<=kvs.length+more.length
 | [],kvs=>by show kvs.length<=kvs.length+0;omega
 | p::r,kvs=>by
  have h1:=ZbV r (ZdA kvs p.1 p.2)
  have h2:=Zbf kvs p.1 p.2
  show (ZbL (ZdA kvs p.1 p.2) r).length<=_
  rw [List.length_cons];omega
theorem ZcW {P:Program} {w:World}:∀ {kvs:List (Key×V)} {ws:List (Value×Value)},VV (kvs.map λkv=>(kV kv.1,kv.2)) ws->∃ rs,Carries (ZaP P w) ws rs/\KV kvs rs
 | [],_,r=>by rw [List.map_nil] at r;cases r;exact ⟨[],True.intro,.nil⟩
 | p::kvs,_,r=>by
  rw [List.map_cons] at r
  cases r with
  | @cons a b as bs h t=>
   obtain ⟨rs,c,q⟩:=ZcW (P:=P) (w:=w) t
   obtain ⟨b1,b2⟩:=b
   exact ⟨(p.1,b2)::rs,⟨Zg4 h.1,rfl,c⟩,.cons ⟨rfl,h.2⟩ q⟩
def Zk6 (trs:List (TE×TE)):TE:=λσ H Q=>∀ p,H p=none->Zf8 trs σ (upd H p (.dK [])) λps H2=>H2 p=some (.dK [])/\∃ kvs:List (Key×V),ps=kvs.map (λkv=>(kV kv.1,kv.2))/\kvs.length<=15/\Q (.ref p) (upd H2 p (.dK (ZbL [] kvs)))
theorem Zir {X:Cx} {pos:Pos} {keys:List (Option Expr)} {values:List Expr} {trs:List (TE×TE)} (h:PPs X pos keys values trs) (hall:keys.all (·.isSome)=true) (hl:keys.length=values.length) (h0:keys≠[])
  (h15:keys.length<=15):PE X (.Dict keys values pos) (Zk6 trs):=by
 intro pins s σ H Q I q
 have hn:=I.hok.fresh (Nat.le_refl s.heap.objs.size)
 have I1:=I.laid (a:=s.heap.objs.size) (o:=.dK []) (h':=s.heap.push { cls:=.type "dict", data:=.dict #[] }) (t':=s.toks) (λ_ _ q=>Heap.get?_push_of_some _ q) (Nat.le_refl _) (ZeO s.heap I.big)
 refine wpAny_Dict_walk (knd:=ZaP X.prog X.w) hall hl h0 h15 (thn (h pins _ σ _ _ I1 (q _ hn)) λws s2 ⟨ps,H2,I2,rel,e,kvs,ep,lk,q2⟩=>?_)
 subst ep
 obtain ⟨rs,c,rk⟩:=ZcW (P:=X.prog) (w:=X.w) rel
 obtain ⟨z,hd,vs0,r0,dd⟩:=Zin I2.hok e
 cases r0
 refine ⟨rs,c,dd,λh' dd' hs=>⟨.ref s.heap.objs.size,_,?_,rfl,q2⟩⟩
 have hz:(ZbL [] kvs).length<=sizeLine:=by
  have h1:=ZbV kvs []
  rw [List.length_nil] at h1
  rw [sizeLine_eq];omega
 have he:∃ q,h'.get? s.heap.objs.size=some q:=let ⟨q,_,_,hq,_⟩:=dd';⟨q,hq⟩
 exact ZcE I2 (by rw [e];exact True.intro) hs he (ZhE hz hd (rk.merge .nil) dd')
structure M1 (X:Cx) (o:Expr) (m:Str) (apos:Pos) (e:Expr) (cpos:Pos):Prop where
 base:attributeBase o m X.env (eval o X.env)=eval o X.env
 few:((backTo cpos (starEach [e] X.env)).all (λx=>!x.1) && (backToKw cpos (keywordEach [] X.env)).all (λx=>x.1.isSome)
  && decide (([e]:List Expr).length+([]:List Keyword).length+(if ([]:List Keyword).isEmpty then 0 else 1)<30))=true
 line:(apos.endLine == cpos.line)=true
 trees:backTo cpos (starEach [e] X.env)=[(false,eval e X.env)]
structure M2 (X:Cx) (o:Expr) (m:Str) (apos:Pos) (e f:Expr) (cpos:Pos):Prop where
 base:attributeBase o m X.env (eval o X.env)=eval o X.env
 few:((backTo cpos (starEach [e,f] X.env)).all (λx=>!x.1) && (backToKw cpos (keywordEach [] X.env)).all (λx=>x.1.isSome)
  && decide (([e,f]:List Expr).length+([]:List Keyword).length+(if ([]:List Keyword).isEmpty then 0 else 1)<30))=true
 line:(apos.endLine == cpos.line)=true
 trees:backTo cpos (starEach [e,f] X.env)=[(false,eval e X.env),(false,eval f X.env)]
def IsD (H:Hp) (a:Addr):Prop:=(∃ kvs,Rd H a (.dK kvs))\/∃ kvs,Rd H a (.dT kvs)
section
variable {X:Cx} {pins:List (Addr×Obj)} {σ:St} {H:Hp} {s:Shared} {a:Addr} {y d:V} {u r:Value} {o:Option V} {A:Around} {E:Value->Shared->Prop}
end
def ZlR (td ty:TE):TE:=λσ H Q=>td σ H λx H1=>∃ a,x=.ref a/\IsD H1 a/\ty σ H1 λy H2=>∃ o,DGet H2 a y o/\Q (o.getD .non) H2
def ZlS (td ty tx:TE):TE:=λσ H Q=>td σ H λx H1=>∃ a,x=.ref a/\IsD H1 a/\ty σ H1 λy H2=>tx σ H2 λz H3=>∃ o,DGet H3 a y o/\Q (o.getD z) H3
def ZlT (td ty:TE):TE:=λσ H Q=>td σ H λx H1=>∃ a,x=.ref a/\IsD H1 a/\ty σ H1 λy H2=>∃ kvs k v,H2 a=some (.dK kvs)/\y=kV k/\ZbI kvs k=some v/\Q v (upd H2 a (.dK (Zil kvs k)))
def ZlU (td ty tx:TE):TE:=λσ H Q=>td σ H λx H1=>∃ a,x=.ref a/\IsD H1 a/\ty σ H1 λy H2=>tx σ H2 λz H3=>∃ kvs k,H3 a=some (.dK kvs)/\y=kV k /\
 (∀ v,ZbI kvs k=some v->Q v (upd H3 a (.dK (Zil kvs k))))/\(ZbI kvs k=none->Q z H3)
section
variable {X:Cx} {o e f:Expr} {apos cpos:Pos} {td ty tx:TE}
end
section
variable {X:Cx} {pins:List (Addr×Obj)} {σ:St} {H:Hp} {s:Shared} {a:Addr} {kvs:List (Key×V)} {A:Around} {E:Value->Shared->Prop}
end
section
variable {X:Cx} {pins:List (Addr×Obj)} {σ:St} {H:Hp} {s:Shared} {a:Addr} {y:V} {u:Value} {A:Around} {E:Value->Shared->Prop}
end
end L2
namespace L2
open PySem PySem.Spec PyProof.Rows
section
variable {X:Cx}
def ZlV:V->List V->Hp->VK->Prop:=λx vs H Q=>∃ (l:Addr) (ns:List Int) (i:Int),x=.ref l/\vs=[.int i]/\H l=some (.lst (ns.map V.int))/\i∈ns/\Q (.int ((ns.idxOf i:Nat):Int)) H
end
end L2
namespace L2
open PySem PySem.Spec PyProof.Rows
structure Lane where
 it:Addr
 l:Addr
 xs:Array Value
def Lane.On (r:Lane) (k:Nat) (h:Heap):Prop:=h.IsListIter r.it r.l k/\h.IsList r.l r.xs
structure ZmA (rs:List Lane):Prop where
 nd:(rs.map Lane.it).Nodup
 ls:∀ r∈rs,∀ q∈rs,q.l≠r.it
abbrev Zk7 (h:Heap) (z TI TO:Addr) (f0:Value) (f1:Bool):Prop:=
 h.get? z=some { cls:=.type "zip", dict:=none,data:=.fields #[f0,.bool f1,.bool false,.ref TI,.ref TO],slots:=#[] }
section
variable {prog:Program} {w:World} {A:Around} {E:Value->Shared->Prop} {s:Shared}
def ZmB (S z TI TO:Addr) (a b:Lane) (i:Nat) (h:Heap):Prop:=
 ((IsZip h z TI TO .none/\∃ x y,IsPair h TO x y)\/∃ (T:Addr) (f1:Bool) (o:Obj),Zk7 h z TI TO (rawInt T) f1/\h.get? T=some o/\T≠z/\T≠a.it/\T≠b.it/\T≠S)/\IsPair h TI (.ref a.it) (.ref b.it)/\a.On i h/\b.On i h/\S<h.objs.size
abbrev Zap (z TI TO:Addr) (a b:Lane):Prop:=ZipApart z TI TO a.it b.it a.l b.l
end
end L2
namespace L2
open PySem PySem.Spec PyProof.Rows
def ZL (P:Program) (w:World) (H0:Hp) (h0:Heap) (z TO i1 i2 S:Addr) (ns ms:List Int) (i:Nat) (h:Heap) (acc:Array Value):Prop:=
 ∃ (Hj:Hp) (vs:List V),Same H0 Hj/\(∀ b o,Hj b=some o->H0 b=none->h0.objs.size<=b)/\(Hj z=none/\Hj TO=none/\Hj i1=none/\Hj i2=none/\Hj S=none)/\HOk P w Hj h/\Vals vs acc.toList/\Prs Hj vs ((ns.zip ms).take i) /\
  (∀ b o,h0.get? b=some o->h.get? b=some o)/\h0.objs.size<=h.objs.size
section
variable {P:Program} {w:World} {H0:Hp} {h0:Heap} {z TO i1 i2 S:Addr} {ns ms:List Int} {i:Nat} {h h':Heap} {acc:Array Value}
end
abbrev ZmC (h:Heap) (S:Addr) (acc:Array Value) (c:Nat):Prop:=h.get? S=some { cls:=.type "list", dict:=none,data:=.seq acc c,slots:=#[] }
structure Fed (prog:Program) (w:World) (A:Around) (I S:Addr) (n:Nat) (St:Nat->Heap->Array Value->Prop) (Fi:Heap->Array Value->Prop):Prop where
 give:∀ i (s:Shared) acc (Q:Option Value->Shared->Prop) E,i<n->St i s.heap acc ->
  (∀ v h',(∀ o,s.heap.get? S=some o->h'.get? S=some o)->St (i+1) h' (acc.push v)->Q (some v) { s with heap:=h' })->wpAny (model prog w) A (pyNext (.ref I)) Q E s
 stop:∀ (s:Shared) acc (o:Obj) (Q:Option Value->Shared->Prop) E,s.heap.get? S=some o->St n s.heap acc->(∀ h',(∀ o,s.heap.get? S=some o->h'.get? S=some o)->Fi h' acc->Q none { s with heap:=h' })->wpAny (model prog w) A (pyNext (.ref I)) Q E s
 aside:∀ i h f acc,St i h acc->St i (h.update S f) acc
section
variable {prog:Program} {w:World} {A:Around} {I S:Addr} {n:Nat} {St:Nat->Heap->Array Value->Prop} {Fi:Heap->Array Value->Prop}
end
section
variable {prog:Program} {w:World} {A:Around} {E:Value->Shared->Prop} {s:Shared}
namespace ZF
end ZF
end
section
variable {X:Cx}
def Zky (K:PySem.W.Frag) (ta:TA):TE:=λσ H Q=>ta σ H λvs H1=>∃ (l1 l2:Addr) (ns ms:List Int),vs=[.ref l1,.ref l2]/\SqL K H1 l1 (ns.map V.int)/\SqL K H1 l2 (ms.map V.int)/\ns.length<=1000 /\
 ∀ (S:Addr) (ws:List V) (H':Hp),Same H1 H'->H1 S=none->H' S=some (.lst ws)->Prs H' ws (ns.zip ms)->Q (.ref S) H'
end
end L2
namespace L2
open PySem PySem.Spec PyProof.Rows
section
variable {X:Cx}
theorem ZmD (K:PySem.W.Frag) (hc:X.calm=true) (h:X.K=K:=by rfl):Zbp X (.builtin "min") (λxs H Q=>∃ (p:Addr) (ns:List Int),xs=[.ref p]/\SqL K H p (ns.map V.int)/\ns≠[]/\∀ m,m∈ns->(∀ n∈ns,m<=n)->Q (.int m) H):=by
 subst h
 intro pins s σ H xs us Q I rv h
 obtain ⟨p,ns,rfl,hq,hne,q⟩:=h
 obtain ⟨u,rfl,ru⟩:=rv.one
 cases ru
 obtain ⟨its,r,pl,hz⟩:=I.list hq
 have hh:X.A.in1.handled=none:=I.ok.hd hc
 have hl:=r.length
 rw [List.length_map] at hl
 have hpos:0<ns.length:=List.length_pos_iff.mpr hne
 obtain ⟨o,eo,_⟩:=id pl.isList
 have hlt:p<s.heap.objs.size:=Heap.lt_size eo
 have hval:∀ (i:Nat) (v:Value),its.toArray[i]?=some v->∃ t,v=Value.int (ns.getD i 0) t:=λi v hv=>by
  have hv':its[i]?=some v:=by simpa using hv
  have hi:i<its.length:=(List.getElem?_eq_some_iff.mp hv').1
  have ex:(ns.map V.int)[i]?=some (.int (ns[i]'(by omega))):=by rw [List.getElem?_map,List.getElem?_eq_getElem (by omega)];rfl
  obtain ⟨u,gu,ru⟩:=r.get ex
  rw [gu] at hv'
  cases hv'
  obtain ⟨t,rfl⟩:=ru
  exact ⟨t,by rw [List.getD_eq_getElem?_getD,List.getElem?_eq_getElem (by omega)];rfl⟩
 refine call_min_walk (wpAny_pyIter_list pl.isList ?_)
 refine ⟨s.heap.objs.size,_,_,_,_,_,_,rfl,Walks.list hh s.heap.objs.size p (Nat.ne_of_lt hlt) its.toArray,⟨⟨_,Heap.get?_push_size _ rfl,rfl,rfl⟩,pl.isList.at λo e=>Heap.get?_push_of_some _ e⟩,?_,by rw [List.size_toArray];omega,CmpOf.ints_lt (λi=>ns.getD i 0) hval,λv h' tk hv hk=>?_⟩
 ·intro b hb
  have e:b=s.heap.objs.size\/b=p:=by simpa using hb
  have hsz:(s.heap.push { cls:=.type "list_iterator", data:=.fields #[.ref p,.int 0 0] }).objs.size=s.heap.objs.size+1:=Heap.size_push ..
  show b<(s.heap.push { cls:=.type "list_iterator", data:=.fields #[.ref p,.int 0 0] }).objs.size
  rw [hsz]
  rcases e with e | e
  ·rw [e];exact Nat.lt_succ_self _
  ·rw [e];exact Nat.lt_succ_of_lt hlt
 ·obtain ⟨t,rfl⟩:=hval _ v hv
  have hA:=argBest_lt (λi=>ns.getD i 0) (its.toArray.size-1)
  have hsz:its.toArray.size=ns.length:=by rw [List.size_toArray];exact hl.symm
  generalize hg:argBest (λi j=>decide (ns.getD i 0<ns.getD j 0)) (its.toArray.size-1)=g at hA ⊢
  have hg1:g<ns.length:=by omega
  have eg:ns.getD g 0=ns[g]:=by rw [List.getD_eq_getElem?_getD,List.getElem?_eq_getElem hg1];rfl
  refine ⟨.int (ns.getD g 0),H,I.kept λb o e'=>hk b o ?_ (Heap.get?_push_of_some _ e'),⟨t,rfl⟩,q _ (by rw [eg];exact List.getElem_mem hg1) λn hn=>?_⟩
  ·intro z
   have:b=s.heap.objs.size:=by simpa using z
   exact absurd (Heap.lt_size e') (by rw [this];exact Nat.lt_irrefl _)
  ·obtain ⟨j,hj,rfl⟩:=List.getElem_of_mem hn
   have:=hA.2 j (by omega)
   have ej:ns.getD j 0=ns[j]:=by rw [List.getD_eq_getElem?_getD,List.getElem?_eq_getElem hj];rfl
   rw [<-ej]
   exact this
end
def ZmE (lo:Int) (n:Nat):It:=⟨λi _=>i<n,λi H x H'=>H'=H/\x=.int (lo-i),λi _=>n<=i⟩
section
variable {X:Cx} {tg:Expr}
def ZmF (ta:TA):TI:=λσ H R=>ta σ H λvs H1=>∃ i j:Int,vs=[.int i,.int j,.int (-1)]/\(-1000<=i/\i<1000/\-1000<=j/\j<1000)/\R (ZmE i (i-j).toNat) H1
end
theorem Zdh (its:List Value):∀ m:Nat,m<=its.length->((List.range m).map λ(k:Nat)=>((its.length:Int)-1+(-1) * (k:Int)).toNat).filterMap (its.toArray[·]?)=(its.drop (its.length-m)).reverse
 | 0,_=>by simp
 | m+1,h=>by
  have ih:=Zdh its m (by omega)
  have hi:its.length-(m+1)<its.length:=by omega
  have e1:((its.length:Int)-1+(-1) * (m:Int)).toNat=its.length-(m+1):=by omega
  rw [List.range_succ,List.map_append,List.filterMap_append,ih,List.map_cons,List.map_nil,e1]
  rw [List.drop_eq_getElem_cons hi,show its.length-(m+1)+1=its.length-m by omega,List.reverse_cons]
  congr 1
  have e2:its.toArray[its.length-(m+1)]?=some its[its.length-(m+1)]:=by simp [hi]
  rw [List.filterMap_cons,e2]
  rfl
theorem ZbW (its:List Value):slicePick its.toArray none none (some (-1))=its.reverse.toArray:=by
 unfold slicePick sliceBounds sliceRange
 simp only [Option.getD_some,List.size_toArray,show ¬ ((-1:Int) > 0) by decide,if_false]
 have e:((if ((its.length:Int)-1 > -1) then (((its.length:Int)-1 - -1 - -1-1) / - -1) else 0:Int)).toNat=its.length:=by
  rw [show (- -1:Int)=1 by decide,Int.ediv_one]
  split <;> omega
 rw [e,Zdh its its.length (Nat.le_refl _),Nat.sub_self,List.drop_zero]
theorem ZcL (its:List Value):slicePick its.toArray none (some 0) (some (-1))=(its.drop 1).reverse.toArray:=by
 unfold slicePick sliceBounds sliceRange
 simp only [Option.getD_some,List.size_toArray,show ¬ ((-1:Int) > 0) by decide,show ¬ ((0:Int)<0) by decide,if_false]
 have e:((if ((its.length:Int)-1 > max (-1) (min 0 ((its.length:Int)-1))) then (((its.length:Int)-1-max (-1) (min 0 ((its.length:Int)-1)) - -1-1) / - -1) else 0:Int)).toNat=its.length-1:=by
  rw [show (- -1:Int)=1 by decide,Int.ediv_one]
  split <;> omega
 rw [e,Zdh its (its.length-1) (Nat.sub_le _ _)]
 cases its with
 | nil=>rfl
 | cons a r=>
  rw [show (a::r).length-((a::r).length-1)=1 by simp]
section
variable {X:Cx}
def ZlW (hi:Option Int) (xs:List V):List V:=match hi with
 | none=>xs.reverse
 | some _=>(xs.drop 1).reverse
def Zk8 (K:PySem.W.Frag) (te:TE) (th:TO):TE:=λσ H Q=>te σ H λx H1=>th σ H1 λu H2=>∃ a xs,x=.ref a/\SqL K H2 a xs/\(u=none\/u=some 0)/\∀ p,H2 p=none->Q (.ref p) (upd H2 p (.lst (ZlW u xs)))
theorem Zga {e st:Expr} {hi:Option Expr} {te:TE} {th:TO} {p2 pos:Pos} (K:PySem.W.Frag) (he:PE X e te) (hu:PO X hi th) (hst:PE X st (tUn (rU λi=>.int (-i)) (tC (.int 1)))) (hK:X.K=K:=by rfl) (ht:∀ o r,letTemporaryGo e o r=pure ():=by intro _ _;rfl) :
  PE X (.Subscript e (.Slice none hi (some st) p2) pos) (Zk8 K te th):=by
 subst hK
 intro pins s σ H Q I h
 refine wpAny_Subscript_Slice_step slot_list_getitem.lookup (thn (he pins s σ H _ I h) λv s1 ⟨x,H1,I1,r1,q1⟩=>?_) ht
 refine wpAny_Slice ?_
 rw [evalPart_none]
 refine wpAny_pure (thn (hu pins s1 σ H1 _ I1 q1) λvu s3 ⟨u,H3,I3,pu,q3⟩=>?_)
 rw [evalPart_some]
 refine thn (hst pins s3 σ H3 (λy H4=>y=.int (-1)/\H4=H3) I3 ⟨1,rfl,rfl,rfl⟩) λvs s4 ⟨y,H4,I4,r4,ey,eH⟩=>?_
 subst ey eH
 obtain ⟨t4,rfl⟩:=r4
 obtain ⟨a,xs,rfl,hx,hu0,q⟩:=q3
 cases r1
 have I5:Inv X pins σ H4 { s4 with heap:=s4.heap.push { cls:=.type "slice", data:=.fields #[.none,vu,.int (-1) t4] } }:=I4.kept (t':=s4.toks) λb ob q=>Heap.get?_push_of_some _ q
 obtain ⟨its,r,hl,hz⟩:=I5.list hx
 have hlen:=r.length
 refine ⟨hl.isList.typeIs,?_⟩
 refine wpAny_getItem_list_slice hl.isList ⟨_,Heap.get?_push_size _ rfl,rfl,rfl⟩ .none pu (.int (-1) t4) (by decide) ?_ (by rw [List.size_toArray] <;> omega)
 have hfr:=I5.fresh
 rcases hu0 with rfl | rfl
 ·rw [ZbW]
  exact ⟨.ref _,_,I5.lnew (ys:=xs.reverse) (t':=s4.toks) r.reverse (by rw [List.length_reverse];exact hz),rfl,q _ hfr⟩
 ·rw [ZcL]
  exact ⟨.ref _,_,I5.lnew (ys:=(xs.drop 1).reverse) (t':=s4.toks) (Vals.reverse (Vals.drop' r 1)) (by rw [List.length_reverse,List.length_drop];omega),rfl,q _ hfr⟩
end
end L2
namespace L2
open PySem PySem.Spec PyProof.Rows
structure Znp (K:PySem.W.Frag) (x qual:Str) (st:Stmt) (dV:Value) (f:Addr) (fd:FuncData):Prop where
 ex:∃ (oc:Value) (od:Option Addr) (kV doc pm:Value) (an:Option Addr) (cdv ct:Value) (osl:Array (Option Value)),
  fd=PySem.W.fnOf x qual (Zaz st) (Zav st) (Zaf st) dV kV doc pm an cdv ct/\K.lookup f=some ⟨oc,od,.func fd,osl⟩/\PySem.W.codeIn K cdv qual=true
 kp:PySem.W.keepIn K (.ref f)=true
section
variable {P:Program} {w:World} {K:PySem.W.Frag} {mg:Str->Option Value} {base:Heap}
end
end L2
namespace L2
open PySem PySem.Spec PyProof.Rows
end L2
namespace L2
open PySem
def itf (M:Nat):Nat->Nat->Nat
 | 0,x=>x
 | k+1,x=>itf M k ((x * 5+1) % M)
def orb (M:Nat):Nat->Nat->List Nat
 | 0,_=>[]
 | n+1,x=>x::orb M n ((x * 5+1) % M)
def Znq (M:Nat):Bool:=(List.range M).all (λj=>(orb M M 0).contains j) && itf M M 0 == 0
def adv (mask:Nat) (p:SetTable.Probe):SetTable.Probe:=
 if p.more > 0 then { p with j:=p.j+1,more:=p.more-1 }
 else { p with j:=(SetTable.leap mask p.i p.perturb).1,more:=SetTable.runEnd mask (SetTable.leap mask p.i p.perturb).1-(SetTable.leap mask p.i p.perturb).1,i:=(SetTable.leap mask p.i p.perturb).1,perturb:=(SetTable.leap mask p.i p.perturb).2 }
def Zis (mask:Nat):Nat->SetTable.Probe->SetTable.Probe
 | 0,p=>p
 | n+1,p=>Zis mask n (adv mask p)
def rs (mask i pt:Nat):SetTable.Probe:={ j:=i,more:=SetTable.runEnd mask i-i,i:=i,perturb:=pt,dummy:=none }
def st0 (mask:Nat) (h:Int):SetTable.Probe:=rs mask (SetTable.bits h % (mask+1)) (SetTable.bits h)
def lps (mask:Nat):Nat->Nat×Nat->Nat×Nat
 | 0,x=>x
 | m+1,x=>lps mask m (SetTable.leap mask x.1 x.2)
def ZlX (xs:Array Nat):Prop:=xs.toList.Pairwise (· < ·)
section
variable {t:SetTable} {ha:Nat->Int} {h:Int}
end
end L2
namespace L2
open PySem
def ZlY (mask:Nat) (acc:Option (Array (Option Nat)×Nat)) (h:Int):Option (Array (Option Nat)×Nat):=
 acc.bind λx=>(SetTable.layClean.free mask x.1 (SetTable.turns mask) (SetTable.bits h % (mask+1)) (SetTable.bits h)).bind λj=>some (x.1.setIfInBounds j (some x.2),x.2+1)
structure Lc (mask:Nat) (ow:Array (Option Nat)) (js:List Nat) (hs:List Int):Prop where
 sz:ow.size=mask+1
 len:js.length=hs.length
 at_:∀ (q j:Nat),js[q]?=some j↔ow[j]?=some (some q)
 rch:∀ (q:Nat) (h:Int) (j:Nat),hs[q]?=some h->js[q]?=some j->∃ n,(Zis mask n (st0 mask h)).j=j/\∀ r,r<n->ow[(Zis mask r (st0 mask h)).j]?≠some none
structure Znr (t:SetTable) (od:Array Nat) (mask finger moves:Nat) (led plain:Bool) (hashes:Array Int):Prop where
 tm:t.mask=mask
 tl:t.led=led
 tp:t.plain=plain
 td:t.dummies=#[]
 rise:ZlX t.place
 le:∀ j∈t.place.toList,j<=mask
 perm:od.toList.Perm (List.range hashes.size)
 sz:t.place.size=hashes.size
 rch:∀ (r q j:Nat) (h:Int),od[r]?=some q->t.place[r]?=some j->hashes[q]?=some h->∃ n,(Zis mask n (st0 mask h)).j=j/\∀ r',r'<n->(Zis mask r' (st0 mask h)).j∈t.place.toList
end L2
namespace L2
open PySem
def ins {α:Type} (l:List α) (p:Nat) (x:α):List α:=l.take p++x::l.drop p
structure TOk (t:SetTable) (hs:List Int):Prop where
 mask:t.mask=7\/t.mask=31\/t.mask=127
 dum:t.dummies=#[]
 len:t.place.size=hs.length
 rise:ZlX t.place
 le:∀ j∈t.place.toList,j<=t.mask
 rch:∀ (i:Nat) (h:Int) (j:Nat),hs[i]?=some h->t.place[i]?=some j->∃ n,(Zis t.mask n (st0 t.mask h)).j=j/\∀ q,q<n->(Zis t.mask q (st0 t.mask h)).j∈t.place.toList
abbrev ZmG (es:Array (Int×Value)):List Int:=es.toList.map (·.1)
structure SOk (t:SetTable) (es:Array (Int×Value)):Prop where
 T:TOk t (ZmG es)
 room:es.size * 5<t.mask * 3
end L2
namespace L2
open PySem PySem.Spec PyProof.Rows
end L2
namespace L2
open PySem PySem.Spec PyProof.Rows
def ZdU (w:World):Bool:=w.params.followText "set-order"
section
variable {P:Program} {w:World} {A:Around} {E:Value->Shared->Prop} {s:Shared}
def ZmH (P:Program) (w:World) (e:Int×Value) (n:Int):Prop:=e.1=(intKind P w).hash n/\∃ tk,e.2=Value.int n tk
def ZmI (P:Program) (w:World) (o:Obj) (σ:List Int):Prop:=∃ es ep t,o.ExactSet/\o.data=.set es ep t/\Paired (ZmH P w) es.toList σ/\σ.Nodup/\SOk t es/\t.plain=true/\t.led=!ZdU w
end
end L2
namespace L2
open PySem PySem.Spec PyProof.Rows
def Zk9 (w:World):Obj:={ cls:=.type "set", dict:=none,data:=.set #[] 0 (.fresh 0 0 (!ZdU w)) }
section
variable {P:Program} {w:World} {A:Around} {E:Value->Shared->Prop} {s:Shared}
end
end L2
namespace L2
open PySem PySem.Spec PyProof.Rows
def ZjD (t:SetTable):Nat->Nat
 | 0=>0
 | i+1=>t.place.getD i 0+1
section
variable {P:Program} {w:World} {A:Around} {E:Value->Shared->Prop} {s:Shared}
def SAt (w:World) (h:Heap) (a:Addr) (es:Array (Int×Value)) (ep:Nat) (t:SetTable):Prop:=
 (∃ o,h.get? a=some o/\o.ExactSet/\o.data=.set es ep t)/\SOk t es/\t.plain=true/\t.led=!ZdU w
def ZlZ (w:World) (a:Addr) (es:Array (Int×Value)) (ep:Nat):List (Int×Value):=if ZdU w then (pickOrder (w.params.setOrder a ep) es).toList else es.toList
def Zla (w:World) (t:SetTable) (i:Nat):Nat:=if ZdU w then 0 else ZjD t i
def ZjE (w:World) (h:Heap) (it a:Addr) (t:SetTable) (i n ep:Nat):Prop:=
 ∃ o,h.get? it=some o/\o.cls=.type "set_iterator" /\ o.data=.fields #[.int (Zla w t i) 0,.int i 0,.ref a,.int n 0,.int ep 0]
end
end L2
namespace L2
open PySem PySem.Spec PyProof.Rows
section
variable {P:Program} {w:World} {A:Around} {E:Value->Shared->Prop} {s:Shared}
end
def Zns (P:Program) (w:World) (a:Addr) (ms:List Int):HO:=.ext λh=>∃ o σ,h.get? a=some o/\ZmI P w o σ/\σ.Perm ms
section
variable {X:Cx} (K:PySem.W.Frag)
end
end L2
namespace L2
open PySem PySem.Spec PyProof.Rows
section
variable {P:Program} {w:World} {A:Around} {E:Value->Shared->Prop} {s:Shared}
end
section
variable {X:Cx}
end
end L2
namespace L2
open PySem PySem.Spec PyProof.Rows
section
variable {X:Cx} (P:Program) (w:World) (K:PySem.W.Frag)
end
end L2
namespace L2
open PySem PySem.Spec PyProof.Rows
section
variable {X:Cx}
def Zl0:V->List V->Hp->VK->Prop:=λx vs H Q=>∃ (l:Addr) (ns:List Int) (i:Int),x=.ref l/\vs=[.int i]/\H l=some (.lst (ns.map V.int))/\Q (.int ((ns.count i:Nat):Int)) H
end
end L2
namespace L2
open PySem PySem.Spec PyProof.Rows
section
variable {P:Program} {w:World} {A:Around} {E:Value->Shared->Prop} {s:Shared}
abbrev Zlb (P:Program) (w:World) (r:Int×Int):Int:=tupleKeyHash (intKind P w) [r.1,r.2]
def ZmJ (P:Program) (w:World) (h:Heap) (r:Int×Int) (a:Addr):Prop:=IsTupleKey (intKind P w) h [r.1,r.2] a
def ZmK (P:Program) (w:World) (h:Heap) (e:Int×Value) (r:Int×Int):Prop:=e.1=Zlb P w r/\∃ a,e.2=.ref a/\ZmJ P w h r a
def hAt (es:Array (Int×Value)) (i:Nat):Int:=(es[i]?.map (·.1)).getD 0
section
variable {a b:Addr} {o:Obj} {es:Array (Int×Value)} {ep:Nat} {t:SetTable} {ps:List (Int×Int)} {r:Int×Int} {Q:SetFound->Shared->Prop}
end
end
end L2
namespace L2
open PySem PySem.Spec PyProof.Rows
section
variable {P:Program} {w:World} {A:Around} {E:Value->Shared->Prop} {s:Shared}
def ZmL (P:Program) (w:World) (h0:Heap) (o:Obj) (ps:List (Int×Int)):Prop:=∃ es ep t,o.ExactSet/\o.data=.set es ep t/\Paired (ZmK P w h0) es.toList ps/\ps.Nodup/\SOk t es
end
def Znt (a:Addr) (m:Nat):HO:=.ext λh=>∃ o es ep t,h.get? a=some o/\o.ExactSet/\o.data=.set es ep t/\t.fits es.size=true/\es.size=m/\m<=76
section
variable {X:Cx} (K:PySem.W.Frag)
end
end L2
namespace L2
open PySem PySem.Spec PyProof.Rows
abbrev Tri:=Int×Int×Int
inductive Trs (H:Hp):List V->List Tri->Prop
 | nil:Trs H [] []
 | cons {p:Addr} {a b c:Int} {xs:List V} {rs:List Tri}:H p=some (.tup [.int a,.int b,.int c])->Trs H xs rs->Trs H (.ref p::xs) ((a,b,c)::rs)
theorem Trs.len {H:Hp} {xs:List V} {rs:List Tri} (h:Trs H xs rs):xs.length=rs.length:=by
 induction h with
 | nil=>rfl
 | cons _ _ ih=>rw [List.length_cons,List.length_cons,ih]
theorem Trs.snoc {H:Hp} {xs:List V} {rs:List Tri} (h:Trs H xs rs) {p:Addr} {a b c:Int} (e:H p=some (.tup [.int a,.int b,.int c])):Trs H (xs++[.ref p]) (rs++[(a,b,c)]):=by
 induction h with
 | nil=>exact .cons e .nil
 | cons e1 _ ih=>exact .cons e1 ih
theorem Trs.keep {H H':Hp} {xs:List V} {rs:List Tri} (h:Trs H xs rs) (k:∀ p ys,H p=some (.tup ys)->H' p=some (.tup ys)):Trs H' xs rs:=by
 induction h with
 | nil=>exact .nil
 | cons e1 _ ih=>exact .cons (k _ _ e1) ih
theorem Trs.same {H H':Hp} {xs:List V} {rs:List Tri} (h:Trs H xs rs) (k:Same H H'):Trs H' xs rs:=h.keep λp ys e=>k p _ e
theorem Trs.get {H:Hp}:∀ {xs:List V} {rs:List Tri},Trs H xs rs->∀ {i:Nat} {x:V},xs[i]?=some x->∃ t r,x=.ref t/\H t=some (.tup [.int r.1,.int r.2.1,.int r.2.2])/\rs[i]?=some r
 | _,_,.nil,_,_,h=>by simp at h
 | _,_,.cons (a:=a) (b:=b) (c:=c) e _,0,_,h=>by
  simp at h
  subst h
  exact ⟨_,(a,b,c),rfl,e,rfl⟩
 | _,_,.cons _ t,i+1,_,h=>by
  rw [List.getElem?_cons_succ] at h ⊢
  exact Trs.get t h
theorem Trs.at {H:Hp} {xs:List V} {rs:List Tri} (h:Trs H xs rs) {i:Nat} {r:Tri} (e:rs[i]?=some r):∃ t,xs[i]?=some (.ref t)/\H t=some (.tup [.int r.1,.int r.2.1,.int r.2.2]):=by
 have hi:i<xs.length:=by rw [h.len];exact (List.getElem?_eq_some_iff.mp e).1
 obtain ⟨t,r',e1,e2,e3⟩:=h.get (List.getElem?_eq_getElem hi)
 rw [e] at e3
 cases e3
 exact ⟨t,by rw [List.getElem?_eq_getElem hi,e1],e2⟩
def trD (r:Tri):PyData:=.tuple [.int r.1,.int r.2.1,.int r.2.2]
theorem Trs.dats {K:PySem.W.Frag} {H:Hp} {xs:List V} {rs:List Tri} (h:Trs H xs rs):DatVs K H xs (rs.map trD):=by
 induction h with
 | nil=>exact .nil
 | cons e _ ih=>exact .cons (.tup (SqT.of e) (.cons (.int _) (.cons (.int _) (.cons (.int _) .nil)))) ih
theorem Zit (r q:Tri):PyData.eqv (trD r) (trD q)=decide (r=q):=by
 obtain ⟨a,b,c⟩:=r
 obtain ⟨d,e,f⟩:=q
 simp only [trD,PyData.eqv,PyData.eqvAll,Prod.mk.injEq]
 by_cases h1:a=d <;> by_cases h2:b=e <;> by_cases h3:c=f <;> simp [h1,h2,h3]
theorem Zgb:∀ rs qs:List Tri,PyData.eqvAll (rs.map trD) (qs.map trD)=decide (rs=qs)
 | [],[]=>by simp [PyData.eqvAll]
 | [],_::_=>by simp [PyData.eqvAll]
 | _::_,[]=>by simp [PyData.eqvAll]
 | r::rs,q::qs=>by
  rw [List.map_cons,List.map_cons]
  simp only [PyData.eqvAll,Zit,Zgb rs qs]
  by_cases h1:r=q <;> by_cases h2:rs=qs <;> simp [h1,h2]
theorem Zgc:∀ rs:List Tri,PyData.canLayAll0 (rs.map trD)=true
 | []=>by simp [PyData.canLayAll0]
 | r::rs=>by
  rw [List.map_cons]
  simp [PyData.canLayAll0,trD,PyData.canLay0,Zgc rs]
theorem ZdV:∀ rs:List Tri,PyData.depthAll (rs.map trD)<=2
 | []=>by simp [PyData.depthAll]
 | r::rs=>by
  have ih:=ZdV rs
  rw [List.map_cons]
  simp only [PyData.depthAll,trD,PyData.depth]
  omega
theorem ZcX (n:Int) (rs:List Tri):SeqAt.shaped (.tuple [.int n,.list (rs.map trD)])=true:=by
 unfold SeqAt.shaped
 rw [Bool.and_eq_true]
 have:=ZdV rs
 refine ⟨by simp only [PyData.canLay0,PyData.canLayAll0,Zgc rs,Bool.and_self],decide_eq_true ?_⟩
 simp only [PyData.depth,PyData.depthAll]
 omega
theorem Ziu (n m:Int) (rs qs:List Tri):PyData.eqv (.tuple [.int n,.list (rs.map trD)]) (.tuple [.int m,.list (qs.map trD)])=(decide (n=m) && decide (rs=qs)):=by
 simp only [PyData.eqv,PyData.eqvAll,Zgb,Bool.and_true]
 by_cases h:n=m <;> simp [h]
section
variable {X:Cx} (K:PySem.W.Frag)
theorem ZmM (h:X.K=K:=by rfl):SlR X (ZlD K):=h▸Zjq
end
end L2
namespace L2
open PySem PySem.Spec PyProof.Rows
def Nd (ts:List Tri) (c:Int) (r:Tri):Prop:=2<=c/\ts[(c-2).toNat]?=some r
def At (ts:List Tri) (c lo:Int):Prop:=c=0\/c=1\/∃ r,Nd ts c r/\lo<r.1
def TabOk (ts:List Tri):Prop:=∀ (i:Nat) (r:Tri),ts[i]?=some r->(0<=r.1/\r.1<30)/\At ts r.2.1 r.1/\At ts r.2.2 r.1
theorem Nd.one {ts:List Tri} {c:Int} {r r':Tri} (h:Nd ts c r) (h':Nd ts c r'):r=r':=by
 have:=h.2.symm.trans h'.2
 cases this
 rfl
theorem Nd.lt {ts:List Tri} {c:Int} {r:Tri} (h:Nd ts c r):c<ts.length+2:=by
 have:=(List.getElem?_eq_some_iff.mp h.2).1
 have:=h.1
 omega
theorem At.mono {ts:List Tri} {c lo lo':Int} (h:At ts c lo) (hl:lo'<=lo):At ts c lo':=by
 rcases h with h | h | ⟨r,h,g⟩
 ·exact .inl h
 ·exact .inr (.inl h)
 ·exact .inr (.inr ⟨r,h,by omega⟩)
theorem At.lt {ts:List Tri} {c lo:Int} (h:At ts c lo):0<=c/\c<ts.length+2:=by
 rcases h with rfl | rfl | ⟨r,h,g⟩
 ·omega
 ·omega
 ·have:=h.lt
  have:=h.1
  omega
theorem At.nd {ts:List Tri} {c lo:Int} (h:At ts c lo) (hc:1<c):∃ r,Nd ts c r/\lo<r.1:=by
 rcases h with h | h | h
 ·omega
 ·omega
 ·exact h
theorem TabOk.nil:TabOk []:=λi r h=>by simp at h
theorem TabOk.nd {ts:List Tri} {c:Int} {r:Tri} (h:TabOk ts) (n:Nd ts c r):(0<=r.1/\r.1<30)/\At ts r.2.1 r.1/\At ts r.2.2 r.1:=h _ r n.2
inductive Has (ts:List Tri):Int->List Int->Prop
 | one:Has ts 1 []
 | low {c:Int} {r:Tri} {rs:List Int}:Nd ts c r->Has ts r.2.1 rs->Has ts c rs
 | high {c:Int} {r:Tri} {rs:List Int}:Nd ts c r->Has ts r.2.2 rs->Has ts c (r.1::rs)
theorem Has.zero {ts:List Tri} {rs:List Int}:¬ Has ts 0 rs:=by
 intro h
 cases h with
 | low n _=>exact absurd n.1 (by decide)
 | high n _=>exact absurd n.1 (by decide)
theorem Has.at1 {ts:List Tri} {rs:List Int}:Has ts 1 rs↔rs=[]:=by
 constructor
 ·intro h
  cases h with
  | one=>rfl
  | low n _=>exact absurd n.1 (by decide)
  | high n _=>exact absurd n.1 (by decide)
 ·rintro rfl
  exact .one
theorem Has.small {ts:List Tri} {c:Int} {rs:List Int} (h0:0<=c) (h1:¬ 1<c):Has ts c rs↔(c=1/\rs=[]):=by
 have hc:c=0\/c=1:=by omega
 rcases hc with rfl | rfl
 ·exact ⟨λh=>absurd h Has.zero,λh=>absurd h.1 (by decide)⟩
 ·rw [Has.at1]
  exact ⟨λh=>⟨rfl,h⟩,λh=>h.2⟩
theorem Has.nil {ts:List Tri} {c:Int} {r:Tri} (n:Nd ts c r):Has ts c []↔Has ts r.2.1 []:=by
 constructor
 ·intro h
  cases h with
  | one=>exact absurd n.1 (by decide)
  | low n' h'=>rw [n.one n'];exact h'
 ·exact .low n
theorem Has.cons {ts:List Tri} {c:Int} {r:Tri} {x:Int} {rs:List Int} (n:Nd ts c r):Has ts c (x::rs)↔(Has ts r.2.1 (x::rs)\/(x=r.1/\Has ts r.2.2 rs)):=by
 constructor
 ·intro h
  cases h with
  | low n' h'=>rw [n.one n'];exact .inl h'
  | high n' h'=>rw [n.one n'];exact .inr ⟨rfl,h'⟩
 ·rintro (h | ⟨rfl,h⟩)
  ·exact .low n h
  ·exact .high n h
theorem Has.gt {ts:List Tri} (T:TabOk ts) {c:Int} {rs:List Int} (h:Has ts c rs):∀ {lo x:Int} {xs:List Int},At ts c lo->rs=x::xs->lo<x:=by
 induction h with
 | one=>intro lo x xs _ e;cases e
 | @low c r rs n h ih=>
  intro lo x xs a e
  obtain ⟨r',n',g⟩:=a.nd (by have:=n.1;omega)
  rw [n'.one n] at g
  have:=ih (T.nd n).2.1 e
  omega
 | @high c r rs n h ih=>
  intro lo x xs a e
  obtain ⟨r',n',g⟩:=a.nd (by have:=n.1;omega)
  rw [n'.one n] at g
  cases e
  exact g
theorem Has.skip {ts:List Tri} (T:TabOk ts) {c:Int} {r:Tri} {x:Int} {xs:List Int} (n:Nd ts c r) (h:r.1≠x):Has ts c (x::xs)↔Has ts r.2.1 (x::xs):=by
 rw [Has.cons n]
 exact ⟨λz=>z.elim id λz=>absurd z.1.symm h,.inl⟩
theorem Has.take {ts:List Tri} (T:TabOk ts) {c:Int} {r:Tri} {x:Int} {xs:List Int} (n:Nd ts c r) (h:r.1=x):Has ts c (x::xs)↔Has ts r.2.2 xs:=by
 rw [Has.cons n]
 constructor
 ·rintro (z | z)
  ·have:=z.gt T (T.nd n).2.1 rfl
   omega
  ·exact z.2
 ·intro z
  exact .inr ⟨h.symm,z⟩
theorem Has.none {ts:List Tri} (T:TabOk ts) {c:Int} {r:Tri} {x:Int} {xs:List Int} (n:Nd ts c r) (h:x<r.1):¬ Has ts c (x::xs):=by
 rw [Has.cons n]
 rintro (z | z)
 ·have:=z.gt T (T.nd n).2.1 rfl
  omega
 ·omega
def ZjF (fs:List Int) (n:Int):Option Int:=if n=0 then some 0 else if n=1 then some 1 else (fs.idxOf? n).map λ(i:Nat)=>(i:Int)+2
end L2
namespace L2
open PySem PySem.Spec PyProof.Rows
structure Fnd (ks:List Tri) (root:Int) (fs:List Int) (kvs:List (Key×V)) (k:Nat):Prop where
 num:∀ n:Int,ZbI kvs (.inl n)=(ZjF fs n).map V.int
 nd:fs.Nodup
 nod:∀ x∈fs,∃ r,Nd ks x r
 kle:k<=fs.length
 cl:∀ (i:Nat),i<k->∀ (x:Int) (r:Tri),fs[i]?=some x->Nd ks x r->(ZjF fs r.2.1).isSome/\(ZjF fs r.2.2).isSome
 kl:kvs.length<=fs.length+2
def Znu (ks:List Tri) (fs:List Int) (us:List Tri) (i:Nat):Prop:=∀ (j:Nat) (x:Int),j<i->fs[j]?=some x->∃ (r:Tri) (a b:Int),Nd ks x r/\ZjF fs r.2.1=some a/\ZjF fs r.2.2=some b/\us[j]?=some (r.1,a,b)
def Bk (ts:List Tri):Prop:=∀ (i:Nat) (r:Tri),ts[i]?=some r->r.2.1<(i:Int)+2/\r.2.2<(i:Int)+2
structure ZmN (ts ks:List Tri) (sm:List Int) (i:Nat):Prop where
 len:sm.length=i+2
 at_:∀ c lo:Int,c<(i:Int)+2->At ts c lo->At ks (sm.getD c.toNat 0) lo
def ZmO (r:Tri):List Key:=[.inl r.1,.inl r.2.1,.inl r.2.2]
def Zl1 (kvs:List (List Key×V)) (ks:List Tri):Prop:=∀ r:Tri,∀ v:V,ZbI kvs (ZmO r)=some v->∃ c:Int,v=.int c/\Nd ks c r
end L2
namespace L2
open PySem PySem.Spec PyProof.Rows
section
variable {P:Program} {w:World} {A:Around} {E:Value->Shared->Prop} {s:Shared}
abbrev Zlc (P:Program) (w:World) (r:List Int):Int:=tupleKeyHash (intKind P w) r
def ZmP (P:Program) (w:World) (h:Heap) (r:List Int) (a:Addr):Prop:=IsTupleKey (intKind P w) h r a
def ZmQ (P:Program) (w:World) (h:Heap) (e:Int×Value) (r:List Int):Prop:=e.1=Zlc P w r/\∃ a,e.2=.ref a/\ZmP P w h r a
section
variable {a b:Addr} {o:Obj} {es:Array (Int×Value)} {ep:Nat} {t:SetTable} {ps:List (List Int)} {r:List Int} {Q:SetFound->Shared->Prop}
end
end
end L2
namespace L2
open PySem PySem.Spec PyProof.Rows
section
variable {P:Program} {w:World} {A:Around} {E:Value->Shared->Prop} {s:Shared}
def ZmR (P:Program) (w:World) (h0:Heap) (o:Obj) (ps:List (List Int)):Prop:=∃ es ep t,o.ExactSet/\o.data=.set es ep t/\Paired (ZmQ P w h0) es.toList ps/\ps.Nodup/\SOk t es
end
section
variable {X:Cx} (K:PySem.W.Frag)
inductive Tus (H:Hp):List V->List (List Int)->Prop
 | nil:Tus H [] []
 | cons {p:Addr} {r:List Int} {xs:List V} {rs:List (List Int)}:H p=some (.tup (r.map V.int))->Tus H xs rs->Tus H (.ref p::xs) (r::rs)
end
end L2
namespace L2
open PySem PySem.Spec PyProof.Rows
def tl3 (r:Tri):List Int:=[r.1,r.2.1,r.2.2]
section
variable {X:Cx} (K:PySem.W.Frag)
end
end L2
namespace L2
open PySem PySem.Spec PyProof.Rows
def chT (ks:List Tri) (x:Int):List Int:=match ks[(x-2).toNat]? with | some r=>[r.2.1,r.2.2] | none=>[]
def Zld (ks:List Tri) (root:Int) (f:List Int):List Int:=root::f.flatMap (chT ks)
def New (f:List Int) (x:Int):Prop:=x≠0/\x≠1/\x ∉ f
def Ext (ks:List Tri) (root:Int) (f:List Int) (x:Int):Prop:=∃ p q,Zld ks root f=p++x::q/\New f x/\∀ y∈p,¬ New f y
inductive Rch (ks:List Tri) (root:Int):List Int->Prop
 | nil:Rch ks root []
 | snoc {f:List Int} {x:Int}:Rch ks root f->Ext ks root f x->Rch ks root (f++[x])
def Fin (ks:List Tri) (root:Int) (f:List Int):Prop:=∀ y∈Zld ks root f,¬ New f y
def Znv (n:Nat):List Int:=(List.range n).map λ(i:Nat)=>(i:Int)+2
end L2
namespace L2
open PySem PySem.Spec PyProof.Rows
section
variable {X:Cx}
def Zkz:V->List V->Hp->VK->Prop:=λx vs H Q=>∃ l b xs zs,x=.ref l/\vs=[.ref b]/\H l=some (.lst xs)/\H b=some (.tup zs)/\xs.length+zs.length<=sizeLine/\Q .non (upd H l (.lst (xs++zs)))
end
end L2
namespace L2
open PySem PySem.Spec PyProof.Rows
section
variable {X:Cx}
theorem Ziv {a b:Expr} {ta:TA} {p pos:Pos} (hg:Gl X "range") (hm:X.mg "range" = none) (ha:PA X [a,b] ta) (hs:starEach [a,b] X.env=[(false,eval a X.env),(false,eval b X.env)]:=by rfl) (hs2:starEach [b] X.env=[(false,eval b X.env)]:=by rfl) :
  PE X (.Call (.Name "range" p) [a,b] [] pos) (λσ H Q=>ta σ H λvs H1=>∃ i j:Int,vs=[.int i,.int j]/\∀ r,H1 r=none->Q (.ref r) (upd H1 r (.rng i j))):=by
 intro pins s σ H Q I h
 refine Call_ (Zcv I hg hm boot_range (PyProof.Rows.callWith_type1 (thn (ha pos pins s σ H _ I h) λus s1 ⟨vs,H1,I1,r1,q1⟩=>?_) (by rw [hs,hs2]) (by rw [hs2];rfl)))
 obtain ⟨i,j,rfl,q⟩:=q1
 obtain ⟨u1,u2,rfl,ru1,ru2⟩:=r1.two
 obtain ⟨t1,rfl⟩:=ru1
 obtain ⟨t2,rfl⟩:=ru2
 refine call_range_2 ?_
 exact ⟨.ref _,_,I1.laid (o:=.rng i j) (λb o e=>Heap.get?_push_of_some _ e) (Nat.le_refl _) ⟨_,_,_,Heap.get?_push_size _ rfl⟩,rfl,q _ I1.fresh⟩
end
structure Wk (ks:List Tri) (root:Int) (fs:List Int) (kvs:List (Key×V)) (pr ah:List Int):Prop where
 e:Zld ks root fs=pr++ah
 old:∀ y∈pr,¬ New fs y
 seen:∀ n:Int,ZbI kvs (.inl n)=none↔New fs n
 nd:fs.Nodup
 nod:∀ x∈fs,∃ r,Nd ks x r
 rch:Rch ks root fs
 kl:kvs.length<=fs.length+2
 ok:∀ y∈ah,At ks y (-1)
structure Zl2 (ts:List Tri) (many:Int) (r:Tri):Prop where
 road:0<=r.1/\r.1<many
 low:0<=r.2.1/\r.2.1<(ts.length:Int)+2
 high:0<r.2.2/\r.2.2<(ts.length:Int)+2
 lo:∀ q,Nd ts r.2.1 q->r.1<q.1
 hi:∀ q,Nd ts r.2.2 q->r.1<q.1
end L2
namespace L2
open PySem PySem.Spec PyProof.Rows
end L2
namespace L2
open PySem PySem.Spec PyProof.Rows
mutual
inductive Th (H:Hp):V->PyData->Prop
 | non:Th H .non .none
 | bl (b:Bool):Th H (.bl b) (.bool b)
 | int (i:Int):Th H (.int i) (.int i)
 | str (x:Str):Th H (.str x) (.str x)
 | lst {a:Addr} {xs:List V} {ds:List PyData}:H a=some (.lst xs)->xs.length<=1000->Ths H xs ds->Th H (.ref a) (.list ds)
 | tup {a:Addr} {xs:List V} {ds:List PyData}:H a=some (.tup xs)->xs.length<=1000->Ths H xs ds->Th H (.ref a) (.tuple ds)
inductive Ths (H:Hp):List V->List PyData->Prop
 | nil:Ths H [] []
 | cons {x:V} {d:PyData} {xs:List V} {ds:List PyData}:Th H x d->Ths H xs ds->Ths H (x::xs) (d::ds)
end
mutual
theorem Th.same {H H':Hp} (s:Same H H'):∀ {v:V} {d:PyData},Th H v d->Th H' v d
 | _,_,.non=>.non
 | _,_,.bl b=>.bl b
 | _,_,.int i=>.int i
 | _,_,.str x=>.str x
 | _,_,.lst e z h=>.lst (s _ _ e) z (Ths.same s h)
 | _,_,.tup e z h=>.tup (s _ _ e) z (Ths.same s h)
theorem Ths.same {H H':Hp} (s:Same H H'):∀ {vs:List V} {ds:List PyData},Ths H vs ds->Ths H' vs ds
 | _,_,.nil=>.nil
 | _,_,.cons h t=>.cons (Th.same s h) (Ths.same s t)
end
def Znw (d:PyData):TE:=λ_ H Q=>∀ v H',Same H H'->Th H' v d->Q v H'
def ZmS (ds:List PyData):TA:=λ_ H Q=>∀ vs H',Same H H'->Ths H' vs ds->Q vs H'
section
variable {X:Cx} {e:Expr} {es:List Expr} {d:PyData} {ds:List PyData} {pos:Pos}
end
section
variable {X:Cx} {a:Expr} {ta:TE} {pos:Pos}
theorem ZdW (K:PySem.W.Frag) (h:X.K=K:=by rfl):Zbp X (.type "tuple") (λxs H Q=>∃ p ys,xs=[.ref p]/\((SqL K H p ys/\∀ l,H l=none->Q (.ref l) (upd H l (.tup ys)))\/(SqT K H p ys/\Q (.ref p) H))):=h▸Zdc
end
def ZjG:List Str:=["and", "or", "but"]
def Zle:List Str:=["closed", "shy", "all"]
def Zlf:List Str:=["open", "long"]
def Zlg:List Str:=["with", "off", "over", "past"]
def small:PyData->Bool
 | .int i=>decide (0<=i) && decide (i<=9999)
 | _=>false
def ZjH (w:Str) (rest:List PyData):Bool:=
 if w∈Zle then rest.isEmpty
 else if w∈Zlf then (match rest with | [a,b]=>small a && small b | _=>false)
 else if w∈Zlg then (match rest with | [.tuple ds]=>ds.all small | _=>false)
 else false
def ZjI:Nat->PyData->Bool
 | 0,_=>false
 | n+1,.tuple (.str w::rest)=>if w∈ZjG/\rest.length=2 then rest.all (ZjI n) else ZjH w rest
 | _+1,_=>false
inductive Ws:PyData->Nat->Prop
 | leaf {w:Str} {rest:List PyData}:ZjH w rest=true->Ws (.tuple (.str w::rest)) 1
 | join {w:Str} {a b:PyData} {m n:Nat}:w∈ZjG->Ws a m->Ws b n->Ws (.tuple [.str w,a,b]) (max m n+1)
def Non (d:PyData):Prop:=∀ n,ZjI n d=false
end L2
namespace L2
open PySem PySem.Spec PyProof.Rows
open AutoSeq1 (wpAny_loadPart') in
open AutoSeq1 (wpAny_loadPart') in
section
variable {X:Cx}
def ZmT (K:PySem.W.Frag):V->List V->Hp->VK->Prop:=λx vs H Q=>∃ l xs y d ds j,x=.ref l/\vs=[y]/\H l=some (.lst xs)/\DatV K H y d/\DatVs K H xs ds/\SeqAt.shaped d=true/\(∀ e∈ds,SeqAt.shaped e=true) /\
 j<xs.length/\(∀ e,ds[j]?=some e->PyData.eqv e d=true)/\(∀ m,m<j->∀ e,ds[m]?=some e->PyData.eqv e d=false)/\Q .non (upd H l (.lst (xs.eraseIdx j)))
end
end L2
namespace L2
open PySem PySem.Spec PyProof.Rows
def ltP (x y:Int×Int):Bool:=decide (x.1<y.1) || (decide (x.1=y.1) && decide (x.2<y.2))
section
variable {prog:Program} {w:World} {A:Around} {E:Value->Shared->Prop} {s:Shared}
theorem lt_int {x y:Int} {t u:Tok} {Q:Value->Shared->Prop} (h:Q (.bool (decide (x<y))) s):wpAny (model prog w) A (richCompare .Lt (.int x t) (.int y u)) Q E s:=
 CmpOf.ints_lt (P:=λi v=>∃ t,v=.int (if i=0 then x else y) t) (λi=>if i=0 then x else y) (λ_ _ p=>p) 0 1 _ _ s Q E ⟨t,rfl⟩ ⟨u,rfl⟩ h
end
def ZmU (prog:Program) (w:World) (A:Around) (op:CmpOp) (J:Heap->Prop) (P:Nat->Value->Prop) (bt:Nat->Nat->Bool):Prop:=
 ∀ (s:Shared) (i j:Nat) (vi vj:Value) (Q E:Value->Shared->Prop),J s.heap->P i vi->P j vj->Q (.bool (bt i j)) s->wpAny (model prog w) A (richCompare op vi vj) Q E s
section
variable {prog:Program} {w:World} {A:Around} {R:Result->Shared->Prop} {I:Addr} {fp wr:List Addr} {n:Nat} {P:Nat->Value->Prop} {St:Nat->Heap->Prop} {J:Heap->Prop} {kw:List (Str×Value)}
end
section
variable {X:Cx}
def ZjJ (xs:List V) (rs:List (Int×Int)) (t:Addr) (r:Int×Int):Prop:=(∃ i:Nat,xs[i]?=some (.ref t)/\rs[i]?=some r)/\∀ r'∈rs,ltP r' r=false
def ZmV (K:PySem.W.Frag):List V->Hp->VK->Prop:=λvs H Q=>∃ (p:Addr) (xs:List V) (rs:List (Int×Int)),vs=[.ref p]/\SqL K H p xs/\Prs H xs rs/\rs≠[]/\∀ t r,ZjJ xs rs t r->Q (.ref t) H
def Zl3 (X:Cx) (f:Value) (ks:List Str) (r:List V->List V->Hp->VK->Prop):Prop:=∀ (pins:List (Addr×Obj)) (s:Shared) (σ:St) (H:Hp) (xs:List V) (us:List Value) (zs:List V) (ws:List Value) (Q:VK),Inv X pins σ H s->Vals xs us->Vals zs ws->r xs zs H Q->wpAny (model X.prog X.w) X.A (call f us (ks.zip ws)) (EP X pins σ Q) X.xe s
def Znx (r:List V->List V->Hp->VK->Prop) (t tk:TA):TE:=λσ H Q=>t σ H λvs H1=>tk σ H1 λzs H2=>r vs zs H2 Q
end
section
variable {X:Cx} {k:Nat} {f:Addr} {fd:FuncData} {ps:List Str} {sp:Sp} {dvs:List V} {ds:List Value} {fx:Str} {fp cpos bpos np:Pos} {e:Expr} {es:List Expr} {t:TA}
theorem ZjK {j:Nat} {y:Str} (F:ZaX X.prog X.w X.K X.mg X.base (CXr X.prog X.w) k f fd ps sp) (hr:Room k X.A) (hg:Gl X fx) (hm:X.mg fx=some (.ref f)) (hk:PySem.W.keepIn X.K (.ref f)=true) (hb:Binds X.K fd ps ds) (hd:Vals dvs ds) (ha:PA X.nox (e::es) t) (hN:X.N.Nodup) (hj:X.N[j]?=some y) (hx:Loc X.env.scope y)
  (hdb:(fx == ("__debug__" : Str))=false:=by decide) (he:starEach (e::es) X.env=(false,eval e X.env)::starEach es X.env:=by rfl) (hpl:(backTo cpos (starEach es X.env)).any (·.1)=false:=by rfl)
  (hs:swapsWith (.Call (.Name fx fp) (e::es) [] cpos) (some (.Name y np)) bpos.line X.env=pure false:=by rfl) (hf:X.fn y=true\/X.env.scope.names.lookup y=some .local:=by first | exact .inl rfl | exact .inr rfl | assumption) :
  PB X [.Assign [.Name y np] (.Call (.Name fx fp) (e::es) [] cpos) bpos] (λD Eσ σ H=>t σ H λvs H1=>sp (vs++dvs) H1 (λv H2=>D.nx (σ.set j (some v)) H2) (Eσ σ)):=by
 intro pins s σ H D Eσ QQ EE I h hQ hE
 refine wpAny_execs_cons (wpAny_Assign_Name (ZgZ F hr hg hm hk hb hd ha I h (λu s' hq=>?_) (λev H1 s1 s' I1 hq=>hE σ ev H1 s1 s' I1 hq) hdb he hpl) hs)
 obtain ⟨v,H2,I2,rv,q⟩:=hq
 exact ZbS I2 hN hj hx rv (λs2 I3=>wpAny_execs_nil (hQ .next s2 ⟨_,H2,I3,q⟩)) hf
end
end L2
namespace L2
open PySem PySem.Spec PyProof.Rows
section
variable {X:Cx} {k:Nat} {f:Addr} {fd:FuncData} {ps:List Str} {sp:Sp} {dvs:List V} {ds:List Value} {fx:Str} {fp cpos bpos np hpos pos:Pos} {e:Expr} {es:List Expr} {t:TA}
def Zlh (K:PySem.W.Frag) (W:Addr) (ts:TS) (D:Ze6) (σ:St):XK:=λcls _ H2=>∃ C,cls=.ref C/\PySem.W.kitCls K (.ref C) (.ref W)=some true/\∀ a,H2 a=none->ts D σ (upd H2 a (ZgW a C))
end
end L2
namespace L2
open PySem PySem.Spec PyProof.Rows
def Zbv:Bool->Keyed->Array Keyed->Nat->Nat->Nat->StateT SortSt Sem (Option Nat):=sortPriv% PySem.Builtin.gallop
def Zdi:Array Keyed->Array Keyed->StateT SortSt Sem (Array Keyed):=sortPriv% PySem.Builtin.mergeLo
def Zdj:Array Keyed->Array Keyed->StateT SortSt Sem (Array Keyed):=sortPriv% PySem.Builtin.mergeHi
def ZcF:Nat->StateT SortSt Sem Unit:=sortPriv% PySem.Builtin.setMinGallop
def Zb8 (left:Bool) (key:Keyed) (arr:Array Keyed) (base i:Nat):StateT SortSt Sem (Option Bool):=do
 let x <- elem' arr (base+i)
 if left then lt' x key else return (<- lt' key x).map (!·)
def ZbX (left:Bool) (key:Keyed) (arr:Array Keyed) (base n lo hi:Nat):StateT SortSt Sem (Option Nat):=do
 let mut lo:=lo
 let mut hi:=hi
 for _ in [:n] do
  if lo>=hi then break
  let m:=lo+(hi-lo) / 2
  let some more <- Zb8 left key arr base m | return none
  if more then lo:=m+1
  else hi:=m
 return some hi
def Zdk (left:Bool) (key:Keyed) (arr:Array Keyed) (base n hint:Nat):StateT SortSt Sem (Option Nat):=do
 let mut lastofs:=0
 let mut ofs:=1
 let maxofs:=n-hint
 for _ in [:n] do
  if ofs>=maxofs then break
  let some more <- Zb8 left key arr base (hint+ofs) | return none
  if !more then break
  lastofs:=ofs
  ofs:=2 * ofs+1
 ZbX left key arr base n (hint+lastofs+1) (hint+min ofs maxofs)
def Zb9 (left:Bool) (key:Keyed) (arr:Array Keyed) (base n hint:Nat):StateT SortSt Sem (Option Nat):=do
 let mut lastofs:=0
 let mut ofs:=1
 let maxofs:=hint+1
 for _ in [:n] do
  if ofs>=maxofs then break
  let some found <- Zb8 left key arr base (hint-ofs) | return none
  if found then break
  lastofs:=ofs
  ofs:=2 * ofs+1
 ZbX left key arr base n (hint+1-min ofs maxofs) (hint-lastofs)
theorem Zfd (left:Bool) (key:Keyed) (arr:Array Keyed) (base n hint:Nat):Zbv left key arr base n hint=(do
  let some right <- Zb8 left key arr base hint | return none
  if right then Zdk left key arr base n hint else Zb9 left key arr base n hint):=rfl
section
variable {M:Model} {A:Around} {E:Value->Shared->Prop} {s:Shared} {kd:SortKind} {b:Keyed->Keyed->Bool} {good:Keyed->Prop}
structure WO (b:Keyed->Keyed->Bool):Prop where
 irr:∀ x,b x x=false
 tr:∀ x y z,b x y=true->b y z=true->b x z=true
 neg:∀ x y z,b x z=true->b x y=true\/b y z=true
def Zch (M:Model) (A:Around) (E:Value->Shared->Prop) (s:Shared) (kd:SortKind) (b:Keyed->Keyed->Bool) (good:Keyed->Prop):Prop:=
 ∀ (x y:Keyed) (st:SortSt) (Q:Option Bool->SortSt->Prop),good x->good y->kindOf st=kd->Q (some (b x y)) st->wpS M A E s (lt' x y) Q st
theorem Zau {arr:Array Keyed} {i:Nat} {x:Keyed} {st:SortSt} {Q:Keyed->SortSt->Prop} (h:arr[i]?=some x) (q:Q x st):wpS M A E s (elem' arr i) Q st:=by
 rw [elem'_eq,h]
 exact wpS_pure q
def byd (b:Keyed->Keyed->Bool) (left:Bool) (key:Keyed) (arr:Array Keyed) (base i:Nat):Bool:=match arr[base+i]? with
 | some x=>if left then b x key else !b key x
 | none=>false
theorem ZbC {left:Bool} {key:Keyed} {arr:Array Keyed} {base i:Nat} {x:Keyed} {st:SortSt} {Q:Option Bool->SortSt->Prop} (L:Zch M A E s kd b good) (hk:good key) (hx:arr[base+i]?=some x) (gx:good x) (hs:kindOf st=kd)
  (q:Q (some (byd b left key arr base i)) st):wpS M A E s (Zb8 left key arr base i) Q st:=by
 unfold Zb8
 refine wpS_bind (Zau hx ?_)
 unfold byd at q
 rw [hx] at q
 cases left with
 | true=>exact L x key st Q gx hk hs q
 | false=>exact wpS_bind (L key x st _ hk gx hs (wpS_pure q))
section
variable {left:Bool} {key:Keyed} {arr:Array Keyed} {base n hint:Nat} {st:SortSt} {Q:Option Nat->SortSt->Prop}
structure Gal (b:Keyed->Keyed->Bool) (good:Keyed->Prop) (left:Bool) (key:Keyed) (arr:Array Keyed) (base n:Nat):Prop where
 gk:good key
 it:∀ i,i<n->∃ x,arr[base+i]?=some x/\good x
 mono:∀ i j,i<=j->j<n->byd b left key arr base j=true->byd b left key arr base i=true
theorem ZaN {lo hi:Nat} (L:Zch M A E s kd b good) (G:Gal b good left key arr base n) (hs:kindOf st=kd) (h1:lo<=hi) (h2:hi<=n) (h3:∀ i,i<lo->byd b left key arr base i=true) (h4:∀ i,hi<=i->i<n->byd b left key arr base i=false)
  (q:∀ k,k<=n->(∀ i,i<k->byd b left key arr base i=true)->(∀ i,k<=i->i<n->byd b left key arr base i=false)->Q (some k) st):wpS M A E s (ZbX left key arr base n lo hi) Q st:=by
 unfold ZbX
 refine wpS_bind (wpS_forRange (λk c st'=>st'=st/\∃ lo hi,c=(none,lo,hi)/\lo<=hi/\hi<=n/\hi-lo<=n-k/\(∀ i,i<lo->byd b left key arr base i=true)/\(∀ i,hi<=i->i<n->byd b left key arr base i=false)) ?_ ?_ ⟨rfl,lo,hi,rfl,h1,h2,by omega,h3,h4⟩)
 ·rintro k c st' _ hk ⟨rfl,lo,hi,rfl,h1,h2,h5,h3,h4⟩
  dsimp only
  split
  ·rename_i h6
   have:lo=hi:=by omega
   subst this
   refine wpS_pure ?_
   dsimp only
   exact wpS_pure (q lo h2 h3 h4)
  ·rename_i h6
   obtain ⟨x,hx,gx⟩:=G.it (lo+(hi-lo) / 2) (by omega)
   refine wpS_bind (ZbC L G.gk hx gx hs ?_)
   dsimp only
   cases hb:byd b left key arr base (lo+(hi-lo) / 2) with
   | true=>
    refine wpS_pure ⟨rfl,_,_,rfl,by omega,h2,by omega,λi hi'=>G.mono i (lo+(hi-lo) / 2) (by omega) (by omega) hb,h4⟩
   | false=>
    refine wpS_pure ⟨rfl,_,_,rfl,by omega,by omega,by omega,h3,λi h8 h9=>?_⟩
    cases hc:byd b left key arr base i with
    | false=>rfl
    | true=>rw [G.mono _ i h8 h9 hc] at hb;cases hb
 ·rintro c st' ⟨rfl,lo,hi,rfl,h1,h2,h5,h3,h4⟩
  have:lo=hi:=by simp at h5;omega
  subst this
  exact wpS_pure (q lo h2 h3 h4)
theorem Za3 (L:Zch M A E s kd b good) (G:Gal b good left key arr base n) (hs:kindOf st=kd) (hn:hint<n)
  (q:∀ k,k<=n->(∀ i,i<k->byd b left key arr base i=true)->(∀ i,k<=i->i<n->byd b left key arr base i=false)->Q (some k) st):wpS M A E s (Zbv left key arr base n hint) Q st:=by
 rw [Zfd]
 obtain ⟨x,hx,gx⟩:=G.it hint hn
 have anti:∀ i j,byd b left key arr base i=false->i<=j->j<n->byd b left key arr base j=false:=λi j h1 h2 h3=>by
  cases hc:byd b left key arr base j with
  | false=>rfl
  | true=>rw [G.mono _ j h2 h3 hc] at h1;cases h1
 refine wpS_bind (ZbC L G.gk hx gx hs ?_)
 cases hb:byd b left key arr base hint with
 | true=>
  show wpS M A E s (Zdk left key arr base n hint) Q st
  unfold Zdk
  refine wpS_bind (wpS_forRange (λk c st'=>st'=st/\∃ last ofs,c=(none,last,ofs)/\last<ofs/\k+1<=ofs/\hint+last<n/\byd b left key arr base (hint+last)=true) ?_ ?_ ⟨rfl,0,1,rfl,by omega,by omega,hn,hb⟩)
  ·rintro k c st' _ hk ⟨rfl,last,ofs,rfl,h1,h2,h3,h4⟩
   dsimp only
   split
   ·rename_i h5
    refine wpS_pure ?_
    dsimp only
    rw [Nat.min_eq_right h5]
    exact ZaN L G hs (by omega) (by omega) (λi hi=>G.mono i _ (show i<=hint+last by omega) h3 h4) (λi h6 h7=>by omega) q
   ·rename_i h5
    obtain ⟨y,hy,gy⟩:=G.it (hint+ofs) (by omega)
    refine wpS_bind (ZbC L G.gk hy gy hs ?_)
    dsimp only
    cases hb2:byd b left key arr base (hint+ofs) with
    | true=>exact wpS_pure ⟨rfl,_,_,rfl,by omega,by omega,by omega,hb2⟩
    | false=>
     refine wpS_pure ?_
     dsimp only
     rw [Nat.min_eq_left (by omega)]
     exact ZaN L G hs (by omega) (by omega) (λi hi=>G.mono i _ (show i<=hint+last by omega) h3 h4) (λi h6 h7=>anti _ i hb2 h6 h7) q
  ·rintro c st' ⟨rfl,last,ofs,rfl,h1,h2,h3,h4⟩
   dsimp only
   have h5:n-hint<=ofs:=by simp at h2;omega
   rw [Nat.min_eq_right h5]
   exact ZaN L G hs (by omega) (by omega) (λi hi=>G.mono i _ (show i<=hint+last by omega) h3 h4) (λi h6 h7=>by omega) q
 | false=>
  show wpS M A E s (Zb9 left key arr base n hint) Q st
  unfold Zb9
  refine wpS_bind (wpS_forRange (λk c st'=>st'=st/\∃ last ofs,c=(none,last,ofs)/\last<ofs/\k+1<=ofs/\last<=hint/\byd b left key arr base (hint-last)=false) ?_ ?_ ⟨rfl,0,1,rfl,by omega,by omega,by omega,hb⟩)
  ·rintro k c st' _ hk ⟨rfl,last,ofs,rfl,h1,h2,h3,h4⟩
   dsimp only
   split
   ·rename_i h5
    refine wpS_pure ?_
    dsimp only
    rw [Nat.min_eq_right h5]
    exact ZaN L G hs (by omega) (by omega) (λi hi=>by omega) (λi h6 h7=>anti _ i h4 h6 h7) q
   ·rename_i h5
    obtain ⟨y,hy,gy⟩:=G.it (hint-ofs) (by omega)
    refine wpS_bind (ZbC L G.gk hy gy hs ?_)
    dsimp only
    cases hb2:byd b left key arr base (hint-ofs) with
    | false=>exact wpS_pure ⟨rfl,_,_,rfl,by omega,by omega,by omega,hb2⟩
    | true=>
     refine wpS_pure ?_
     dsimp only
     rw [Nat.min_eq_left (by omega)]
     exact ZaN L G hs (by omega) (by omega) (λi hi=>G.mono i (hint-ofs) (by omega) (by omega) hb2) (λi h6 h7=>anti _ i h4 h6 h7) q
  ·rintro c st' ⟨rfl,last,ofs,rfl,h1,h2,h3,h4⟩
   dsimp only
   have h5:hint+1<=ofs:=by simp at h2;omega
   rw [Nat.min_eq_right h5]
   exact ZaN L G hs (by omega) (by omega) (λi hi=>by omega) (λi h6 h7=>anti _ i h4 h6 h7) q
end
end
end L2
namespace L2
open PySem PySem.Spec PyProof.Rows
abbrev MLs:=Option (Array Keyed)×Array Keyed×Nat×Nat×Nat×Nat
abbrev MLt:=Option (Array Keyed)×Array Keyed×Nat×Nat×Nat×Nat×Nat
def ZbM (a b out:Array Keyed) (ia ib:Nat):Array Keyed:=out++a.extract ia++b.extract ib
def ZcY (a b out:Array Keyed) (ia ib:Nat):Array Keyed:=out++b.extract ib++a.extract ia
def Zg5 (a b:Array Keyed) (mg:Nat):Nat->MLs->StateT SortSt Sem (ForInStep MLs):=λ_ r=>
 let out:=r.2.1;let ia:=r.2.2.1;let ib:=r.2.2.2.1;let acount:=r.2.2.2.2.1;let bcount:=r.2.2.2.2.2
 do
 let x <- elem' b ib
 let y <- elem' a ia
 match <- lt' x y with
 | some bWins=>
  if bWins=true then do
   let z <- elem' b ib
   let out:=out.push z
   let ib:=ib+1
   let bcount:=bcount+1
   let acount:=0
   if (ib == b.size)=true then pure (.done (some (ZbM a b out ia ib),out,ia,ib,acount,bcount))
   else if bcount>=mg then pure (.done (none,out,ia,ib,acount,bcount))
   else pure (.yield (none,out,ia,ib,acount,bcount))
  else do
   let z <- elem' a ia
   let out:=out.push z
   let ia:=ia+1
   let acount:=acount+1
   let bcount:=0
   if (ia+1 == a.size)=true then pure (.done (some (ZcY a b out ia ib),out,ia,ib,acount,bcount))
   else if acount>=mg then pure (.done (none,out,ia,ib,acount,bcount))
   else pure (.yield (none,out,ia,ib,acount,bcount))
 | _=>pure (.done (some (ZbM a b out ia ib),out,ia,ib,acount,bcount))
def mlD (a b:Array Keyed) (minGallop acount k:Nat) (out:Array Keyed) (ia ib:Nat):StateT SortSt Sem (ForInStep MLt):=do
 let bcount:=k
 let z <- elem' a ia
 let out:=out.push z
 let ia:=ia+1
 if (ia+1 == a.size)=true then pure (.done (some (ZcY a b out ia ib),out,ia,ib,minGallop,acount,bcount))
 else if (decide (acount<7) && decide (bcount<7))=true then pure (.done (none,out,ia,ib,minGallop,acount,bcount))
 else pure (.yield (none,out,ia,ib,minGallop,acount,bcount))
def mlC (a b:Array Keyed) (minGallop acount bcount:Nat) (out:Array Keyed) (ia ib:Nat):StateT SortSt Sem (ForInStep MLt):=do
 let z <- elem' b ib
 let out:=out.push z
 let ib:=ib+1
 if (ib == b.size)=true then pure (.done (some (ZbM a b out ia ib),out,ia,ib,minGallop,acount,bcount))
 else do
  let y <- elem' a ia
  match <- Zbv true y b ib (b.size-ib) 0 with
  | some k=>
   let bcount:=k
   if k > 0 then
    let out:=out++b.extract ib (ib+k)
    let ib:=ib+k
    if (ib == b.size)=true then pure (.done (some (ZbM a b out ia ib),out,ia,ib,minGallop,acount,bcount))
    else mlD a b minGallop acount k out ia ib
   else mlD a b minGallop acount k out ia ib
  | _=>pure (.done (some (ZbM a b out ia ib),out,ia,ib,minGallop,acount,bcount))
def mlB (a b:Array Keyed) (minGallop acount bcount:Nat) (out:Array Keyed) (ia ib:Nat):StateT SortSt Sem (ForInStep MLt):=do
 ZcF minGallop
 let x <- elem' b ib
 match <- Zbv false x a ia (a.size-ia) 0 with
 | some k=>
  let acount:=k
  if k > 0 then
   let out:=out++a.extract ia (ia+k)
   let ia:=ia+k
   if (ia+1 == a.size)=true then pure (.done (some (ZcY a b out ia ib),out,ia,ib,minGallop,acount,bcount))
   else if (ia == a.size)=true then pure (.done (some (ZbM a b out ia ib),out,ia,ib,minGallop,acount,bcount))
   else mlC a b minGallop acount bcount out ia ib
  else mlC a b minGallop acount bcount out ia ib
 | _=>pure (.done (some (ZbM a b out ia ib),out,ia,ib,minGallop,acount,bcount))
def Zg6 (a b:Array Keyed):Nat->MLt->StateT SortSt Sem (ForInStep MLt):=λ_ r=>
 let out:=r.2.1;let ia:=r.2.2.1;let ib:=r.2.2.2.1;let minGallop:=r.2.2.2.2.1;let acount:=r.2.2.2.2.2.1;let bcount:=r.2.2.2.2.2.2
 if minGallop > 1 then mlB a b (minGallop-1) acount bcount out ia ib else mlB a b minGallop acount bcount out ia ib
abbrev MLo:=Option (Array Keyed)×Array Keyed×Nat×Nat×Nat
def Zg7 (a b:Array Keyed):Nat->MLo->StateT SortSt Sem (ForInStep MLo):=λ_ r=>
 let out:=r.2.1;let ia:=r.2.2.1;let ib:=r.2.2.2.1;let minGallop:=r.2.2.2.2
 do
 let r <- forIn [:a.size+b.size] ((none,out,ia,ib,0,0):MLs) (Zg5 a b minGallop)
 match r.1 with
 | some x=>pure (.done (some x,r.2.1,r.2.2.1,r.2.2.2.1,minGallop))
 | none=>do
  liftM (rule "list.sort.gallop")
  let r <- forIn [:a.size+b.size] ((none,r.2.1,r.2.2.1,r.2.2.2.1,minGallop+1,r.2.2.2.2.1,r.2.2.2.2.2):MLt) (Zg6 a b)
  match r.1 with
  | some x=>pure (.done (some x,r.2.1,r.2.2.1,r.2.2.2.1,r.2.2.2.2.1))
  | none=>do
   ZcF (r.2.2.2.2.1+1)
   pure (.yield (none,r.2.1,r.2.2.1,r.2.2.2.1,r.2.2.2.2.1+1))
theorem ZaY {α β:Type} {m:StateT SortSt Sem α} {f g:α->StateT SortSt Sem β} (h:∀ x,f x=g x):m >>= f=m >>= g:=by rw [funext h]
theorem Zdl {α:Type} {c:Prop} [Decidable c] {x y u v:α} (h1:x=y) (h2:u=v):(if c then x else u)=if c then y else v:=by rw [h1,h2]
theorem ZcG {β:Type} {r:Std.Legacy.Range} {c:β} {f g:Nat->β->StateT SortSt Sem (ForInStep β)} (h:∀ i x,f i x=g i x):forIn r c f=forIn r c g:=by rw [funext λi=>funext (h i)]
theorem Zen (a b:Array Keyed):Zdi a b=(do
  liftM (rule "list.sort.merge-lo")
  let x <- elem' b 0
  let out:=#[x]
  if (1 == b.size)=true then pure (ZbM a b out 0 1)
  else if (0+1 == a.size)=true then pure (ZcY a b out 0 1)
  else do
   let st <- get
   let r <- forIn [:a.size+b.size] ((none,out,0,1,gallopOf st):MLo) (Zg7 a b)
   match r.1 with
   | some r=>pure r
   | none=>liftM (unsupported "internal:list.sort.merge-bound")):=by
 refine ZaY (m:=liftM (rule "list.sort.merge-lo")) λ_=>?_
 refine ZaY (m:=elem' b 0) λx=>?_
 refine Zdl (c:=(1 == b.size)=true) rfl ?_
 refine Zdl (c:=(0+1 == a.size)=true) rfl ?_
 refine ZaY (m:=get) λst=>?_
 refine (congrArg (λm:StateT SortSt Sem MLo=>m >>= _) (ZcG (r:=[:a.size+b.size]) (c:=((none,#[x],0,1,gallopOf st):MLo)) (g:=Zg7 a b) λi r=>?_)).trans ?_
 rotate_left
 ·refine ZaY λr=>?_
  obtain ⟨r1,r2⟩:=r
  cases r1 <;> rfl
 unfold Zg7
 refine (congrArg (λm:StateT SortSt Sem MLs=>m >>= _) (ZcG (r:=[:a.size+b.size]) (g:=Zg5 a b r.2.2.2.2) λi r=>rfl)).trans ?_
 refine ZaY λq=>?_
 obtain ⟨q1,q2⟩:=q
 cases q1 with
 | some z=>rfl
 | none=>
  refine ZaY (m:=liftM (rule "list.sort.gallop")) λ_=>?_
  refine (congrArg (λm:StateT SortSt Sem MLt=>m >>= _) (ZcG (r:=[:a.size+b.size]) (g:=Zg6 a b) λi r=>rfl)).trans ?_
  refine ZaY λq=>?_
  obtain ⟨q1,q2⟩:=q
  cases q1 <;> rfl
end L2
namespace L2
open PySem PySem.Spec PyProof.Rows
section
variable {b:Keyed->Keyed->Bool}
abbrev kle (b:Keyed->Keyed->Bool) (x y:Keyed):Prop:=b y x=false
theorem WO.le_trans (W:WO b) {x y z:Keyed} (h1:kle b x y) (h2:kle b y z):kle b x z:=by
 cases h:b z x with
 | false=>exact h
 | true=>
  rcases W.neg z y x h with q | q
  ·rw [show b z y=false from h2] at q;cases q
  ·rw [show b y x=false from h1] at q;cases q
theorem WO.le_of_lt (W:WO b) {x y:Keyed} (h:b x y=true):kle b x y:=by
 cases q:b y x with
 | false=>exact q
 | true=>
  have:=W.tr _ _ _ h q
  rw [W.irr] at this;cases this
theorem WO.le_refl (W:WO b) (x:Keyed):kle b x x:=W.irr x
structure Mrg (b:Keyed->Keyed->Bool) (all out ra rb:List Keyed):Prop where
 perm:(out++ra++rb).Perm all
 so:out.Pairwise (kle b)
 le:∀ x∈out,∀ y∈ra++rb,kle b x y
 sa:ra.Pairwise (kle b)
 sb:rb.Pairwise (kle b)
theorem Mrg.len {all out ra rb:List Keyed} (h:Mrg b all out ra rb):out.length+ra.length+rb.length=all.length:=by
 have:=h.perm.length_eq
 rw [List.length_append,List.length_append] at this
 exact this
theorem Mrg.moveA {all out u ra rb:List Keyed} (h:Mrg b all out (u++ra) rb) (hu:∀ x∈u,∀ y∈rb,kle b x y):Mrg b all (out++u) ra rb:=by
 have sa:=List.pairwise_append.mp h.sa
 refine ⟨by rw [List.append_assoc out u ra];exact h.perm,List.pairwise_append.mpr ⟨h.so,sa.1,λx hx y hy=>h.le x hx y (by simp [hy])⟩,λx hx y hy=>?_,sa.2.1,h.sb⟩
 rcases List.mem_append.mp hx with hx | hx
 ·refine h.le x hx y ?_
  rcases List.mem_append.mp hy with hy | hy
  ·simp [hy]
  ·simp [hy]
 ·rcases List.mem_append.mp hy with hy | hy
  ·exact sa.2.2 x hx y hy
  ·exact hu x hx y hy
theorem Mrg.moveB {all out u ra rb:List Keyed} (h:Mrg b all out ra (u++rb)) (hu:∀ x∈u,∀ y∈ra,kle b x y):Mrg b all (out++u) ra rb:=by
 have sb:=List.pairwise_append.mp h.sb
 refine ⟨?_,List.pairwise_append.mpr ⟨h.so,sb.1,λx hx y hy=>h.le x hx y (by simp [hy])⟩,λx hx y hy=>?_,h.sa,sb.2.1⟩
 ·refine List.Perm.trans ?_ h.perm
  simp only [List.append_assoc]
  refine List.Perm.append_left _ ?_
  rw [<-List.append_assoc,<-List.append_assoc]
  exact List.Perm.append_right _ List.perm_append_comm
 ·rcases List.mem_append.mp hx with hx | hx
  ·refine h.le x hx y ?_
   rcases List.mem_append.mp hy with hy | hy
   ·simp [hy]
   ·simp [hy]
  ·rcases List.mem_append.mp hy with hy | hy
   ·exact hu x hx y hy
   ·exact sb.2.2 x hx y hy
def Za1 (b:Keyed->Keyed->Bool) (all r:List Keyed):Prop:=r.Perm all/\r.Pairwise (kle b)
theorem Mrg.endA {all out ra rb:List Keyed} (h:Mrg b all out ra rb) (hz:∀ x∈ra,∀ y∈rb,kle b x y):Za1 b all (out++ra++rb):=by
 refine ⟨h.perm,?_⟩
 rw [List.append_assoc]
 exact List.pairwise_append.mpr ⟨h.so,List.pairwise_append.mpr ⟨h.sa,h.sb,hz⟩,h.le⟩
theorem Mrg.endB {all out ra rb:List Keyed} (h:Mrg b all out ra rb) (hz:∀ x∈rb,∀ y∈ra,kle b x y):Za1 b all (out++rb++ra):=by
 refine ⟨?_,?_⟩
 ·refine List.Perm.trans ?_ h.perm
  rw [List.append_assoc,List.append_assoc]
  exact List.Perm.append_left _ List.perm_append_comm
 ·rw [List.append_assoc]
  exact List.pairwise_append.mpr ⟨h.so,List.pairwise_append.mpr ⟨h.sb,h.sa,hz⟩,λx hx y hy=>h.le x hx y (by
   rcases List.mem_append.mp hy with hy | hy <;> simp [hy])⟩
end
theorem Zcp (a:Array Keyed) (i:Nat):(a.extract i).toList=a.toList.drop i:=by
 rw [Array.toList_extract,List.extract_eq_take_drop,List.take_of_length_le]
 rw [List.length_drop]
 exact Nat.le_refl _
theorem ZeP (a:Array Keyed) (i k:Nat):(a.extract i (i+k)).toList=(a.toList.drop i).take k:=by
 rw [Array.toList_extract,List.extract_eq_take_drop,Nat.add_sub_cancel_left]
theorem Za5 {a:Array Keyed} {i:Nat} {x:Keyed} (h:a[i]?=some x):a.toList.drop i=x::a.toList.drop (i+1):=by
 rw [<-Array.getElem?_toList] at h
 obtain ⟨h1,h2⟩:=List.getElem?_eq_some_iff.mp h
 rw [List.drop_eq_getElem_cons h1,h2]
def SameG (st st':SortSt):Prop:=kindOf st'=kindOf st/\arrOf st'=arrOf st/\pendingOf st'=pendingOf st/\failedOf st'=failedOf st
theorem SameG.refl (st:SortSt):SameG st st:=⟨rfl,rfl,rfl,rfl⟩
theorem SameG.trans {st st' st'':SortSt} (h:SameG st st') (k:SameG st' st''):SameG st st'':=⟨k.1.trans h.1,k.2.1.trans h.2.1,k.2.2.1.trans h.2.2.1,k.2.2.2.trans h.2.2.2⟩
section
variable {M:Model} {A:Around} {E:Value->Shared->Prop} {s:Shared} {kd:SortKind} {b:Keyed->Keyed->Bool} {good:Keyed->Prop}
theorem ZbD {g:Nat} {st:SortSt} {Q:Unit->SortSt->Prop} (q:∀ st',SameG st st'->Q () st'):wpS M A E s (ZcF g) Q st:=by
 refine wpS_modify (f:=λs=>SortSt.mk' (kindOf s) (arrOf s) (pendingOf s) g (failedOf s)) (q _ ⟨rfl,rfl,rfl,rfl⟩)
structure Two (b:Keyed->Keyed->Bool) (good:Keyed->Prop) (a c:Array Keyed):Prop where
 ga:∀ x∈a.toList,good x
 gc:∀ x∈c.toList,good x
 sa:a.toList.Pairwise (kle b)
 sc:c.toList.Pairwise (kle b)
 na:0<a.size
 nc:0<c.size
 first:∀ x,c[0]?=some x->∀ y∈a.toList,kle b x y
 last:∀ z,a[a.size-1]?=some z->∀ y∈c.toList,kle b y z
variable {a c:Array Keyed}
theorem Two.at (T:Two b good a c) {i:Nat} (h:i<a.size):∃ x,a[i]?=some x/\good x:=⟨a[i],by simp [h],T.ga _ (by simp)⟩
theorem Two.ct (T:Two b good a c) {i:Nat} (h:i<c.size):∃ x,c[i]?=some x/\good x:=⟨c[i],by simp [h],T.gc _ (by simp)⟩
def ML (b:Keyed->Keyed->Bool) (a c out:Array Keyed) (ia ib:Nat):Prop:=Mrg b (a.toList++c.toList) out.toList (a.toList.drop ia) (c.toList.drop ib)
theorem ML.done {out:Array Keyed} {ia ib:Nat} (h:ML b a c out ia ib) (e:ib=c.size\/ia=a.size):Za1 b (a.toList++c.toList) (ZbM a c out ia ib).toList:=by
 unfold ZbM
 rw [Array.toList_append,Array.toList_append,Zcp,Zcp]
 refine Mrg.endA h λx hx y hy=>?_
 rcases e with e | e
 ·rw [List.drop_of_length_le (by rw [e,Array.length_toList];exact Nat.le_refl _)] at hy
  cases hy
 ·rw [List.drop_of_length_le (by rw [e,Array.length_toList];exact Nat.le_refl _)] at hx
  cases hx
theorem ML.last {out:Array Keyed} {ia ib:Nat} (T:Two b good a c) (h:ML b a c out ia ib) (e:ia+1=a.size):Za1 b (a.toList++c.toList) (ZcY a c out ia ib).toList:=by
 unfold ZcY
 rw [Array.toList_append,Array.toList_append,Zcp,Zcp]
 refine Mrg.endB h λx hx y hy=>?_
 obtain ⟨z,hz,_⟩:=T.at (i:=ia) (by omega)
 rw [Za5 hz,List.drop_of_length_le (by rw [Array.length_toList];omega)] at hy
 have:y=z:=by simpa using hy
 subst this
 exact T.last y (by rw [<-e];exact hz) x (List.mem_of_mem_drop hx)
theorem ML.pushB {out:Array Keyed} {ia ib:Nat} {x:Keyed} (h:ML b a c out ia ib) (hx:c[ib]?=some x) (hl:∀ y∈a.toList.drop ia,kle b x y):ML b a c (out.push x) ia (ib+1):=by
 unfold ML at h ⊢
 rw [Array.toList_push]
 rw [Za5 hx] at h
 exact Mrg.moveB (u:=[x]) h λz hz y hy=>by
  have:z=x:=by simpa using hz
  subst this
  exact hl y hy
theorem ML.pushA {out:Array Keyed} {ia ib:Nat} {x:Keyed} (h:ML b a c out ia ib) (hx:a[ia]?=some x) (hl:∀ y∈c.toList.drop ib,kle b x y):ML b a c (out.push x) (ia+1) ib:=by
 unfold ML at h ⊢
 rw [Array.toList_push]
 rw [Za5 hx] at h
 exact Mrg.moveA (u:=[x]) h λz hz y hy=>by
  have:z=x:=by simpa using hz
  subst this
  exact hl y hy
theorem ML.takeA {out:Array Keyed} {ia ib k:Nat} (h:ML b a c out ia ib) (hl:∀ x∈(a.toList.drop ia).take k,∀ y∈c.toList.drop ib,kle b x y):ML b a c (out++a.extract ia (ia+k)) (ia+k) ib:=by
 unfold ML at h ⊢
 rw [Array.toList_append,ZeP]
 rw [<-List.take_append_drop k (a.toList.drop ia),List.drop_drop] at h
 exact Mrg.moveA h hl
theorem ML.takeB {out:Array Keyed} {ia ib k:Nat} (h:ML b a c out ia ib) (hl:∀ x∈(c.toList.drop ib).take k,∀ y∈a.toList.drop ia,kle b x y):ML b a c (out++c.extract ib (ib+k)) ia (ib+k):=by
 unfold ML at h ⊢
 rw [Array.toList_append,ZeP]
 rw [<-List.take_append_drop k (c.toList.drop ib),List.drop_drop] at h
 exact Mrg.moveB h hl
theorem Zdm {l:List Keyed} {x:Keyed} (W:WO b) (h:(x::l).Pairwise (kle b)):∀ y∈x::l,kle b x y:=λy hy=>by
 rcases List.mem_cons.mp hy with rfl | hy
 ·exact W.le_refl _
 ·exact (List.pairwise_cons.mp h).1 y hy
theorem Zgd (W:WO b) (L:Zch M A E s kd b good) (T:Two b good a c) {out:Array Keyed} {ia ib mg:Nat} {st:SortSt} (hs:kindOf st=kd) (h:ML b a c out ia ib) (h1:ia+1<a.size) (h2:ib<c.size)
  {Q:MLs->SortSt->Prop} (q1:∀ r y st',SameG st st'->Za1 b (a.toList++c.toList) r.toList->Q (some r,y) st')
  (q2:∀ out' ia' ib' ac bc st',SameG st st'->ML b a c out' ia' ib'->ia'+1<a.size->ib'<c.size->out.size<out'.size->Q (none,out',ia',ib',ac,bc) st') :
  wpS M A E s (forIn [:a.size+c.size] ((none,out,ia,ib,0,0):MLs) (Zg5 a c mg)) Q st:=by
 refine wpS_forRange (λk r st'=>SameG st st'/\∃ out' ia' ib' ac bc,r=(none,out',ia',ib',ac,bc)/\ML b a c out' ia' ib'/\ia'+1<a.size/\ib'<c.size/\out.size+k<=out'.size) ?_ ?_ ⟨SameG.refl _,_,_,_,_,_,rfl,h,h1,h2,Nat.le_refl _⟩
 ·rintro k r st1 _ hk ⟨sg,out',ia',ib',ac,bc,rfl,h,h1,h2,h3⟩
  have hs1:kindOf st1=kd:=sg.1.trans hs
  unfold Zg5
  dsimp only
  obtain ⟨x,hx,gx⟩:=T.ct h2
  obtain ⟨y,hy,gy⟩:=T.at (i:=ia') (by omega)
  refine wpS_bind (Zau hx (wpS_bind (Zau hy (wpS_bind (L x y st1 _ gx gy hs1 ?_)))))
  have sA:(a.toList.drop ia').Pairwise (kle b):=h.sa
  have sB:(c.toList.drop ib').Pairwise (kle b):=h.sb
  rw [Za5 hy] at sA
  rw [Za5 hx] at sB
  dsimp only
  cases hb:b x y with
  | true=>
   rw [if_pos rfl]
   refine wpS_bind (Zau hx ?_)
   have h':=h.pushB hx λz hz=>by
    rw [Za5 hy] at hz
    exact W.le_trans (W.le_of_lt hb) (Zdm W sA z hz)
   split
   ·rename_i e
    exact wpS_pure (q1 _ _ _ sg (h'.done (.inl (eq_of_beq e))))
   ·rename_i e
    have e:ib'+1<c.size:=by
     have:ib'+1≠c.size:=λz=>e (beq_iff_eq.mpr z)
     omega
    split
    ·exact wpS_pure (q2 _ _ _ _ _ _ sg h' h1 e (by rw [Array.size_push];omega))
    ·exact wpS_pure ⟨sg,_,_,_,_,_,rfl,h',h1,e,by rw [Array.size_push];omega⟩
  | false=>
   rw [if_neg Bool.false_ne_true]
   refine wpS_bind (Zau hy ?_)
   have h':=h.pushA hy λz hz=>by
    rw [Za5 hx] at hz
    exact W.le_trans hb (Zdm W sB z hz)
   split
   ·rename_i e
    exact wpS_pure (q1 _ _ _ sg (h'.last T (eq_of_beq e)))
   ·rename_i e
    have e:ia'+1+1<a.size:=by
     have:ia'+1+1≠a.size:=λz=>e (beq_iff_eq.mpr z)
     omega
    split
    ·exact wpS_pure (q2 _ _ _ _ _ _ sg h' e h2 (by rw [Array.size_push];omega))
    ·exact wpS_pure ⟨sg,_,_,_,_,_,rfl,h',e,h2,by rw [Array.size_push];omega⟩
 ·rintro r st1 ⟨sg,out',ia',ib',ac,bc,rfl,h,h1,h2,h3⟩
  exact q2 _ _ _ _ _ _ sg h h1 h2 (by have:=T.na;simp at h3;omega)
end
end L2
namespace L2
open PySem PySem.Spec PyProof.Rows
def Rng (b:Keyed->Keyed->Bool) (arr:Array Keyed) (lo hi:Nat):Prop:=∀ i j x y,lo<=i->i<=j->j<hi->arr[i]?=some x->arr[j]?=some y->kle b x y
section
variable {M:Model} {A:Around} {E:Value->Shared->Prop} {s:Shared} {kd:SortKind} {b:Keyed->Keyed->Bool} {good:Keyed->Prop}
theorem Zg8 (W:WO b):∀ {l:List Keyed} {i j:Nat} {x y:Keyed},l.Pairwise (kle b)->i<=j->l[i]?=some x->l[j]?=some y->kle b x y
 | [],_,_,_,_,_,_,h,_=>by simp at h
 | z::l,0,0,x,y,_,_,h1,h2=>by
  simp at h1 h2
  subst h1 h2
  exact W.le_refl _
 | z::l,0,j+1,x,y,h,_,h1,h2=>by
  simp at h1 h2
  subst h1
  exact (List.pairwise_cons.mp h).1 y (List.mem_of_getElem? h2)
 | z::l,i+1,0,_,_,_,h,_,_=>by omega
 | z::l,i+1,j+1,x,y,h,hij,h1,h2=>by
  simp at h1 h2
  exact Zg8 W (List.pairwise_cons.mp h).2 (by omega) h1 h2
theorem ZhF (W:WO b) {arr:Array Keyed} {lo:Nat} (h:(arr.toList.drop lo).Pairwise (kle b)):Rng b arr lo arr.size:=λi j x y h1 h2 h3 e1 e2=>by
 refine Zg8 (i:=i-lo) (j:=j-lo) W h (by omega) ?_ ?_
 ·rw [List.getElem?_drop,Nat.add_sub_cancel' h1,Array.getElem?_toList];exact e1
 ·rw [List.getElem?_drop,Nat.add_sub_cancel' (Nat.le_trans h1 h2),Array.getElem?_toList];exact e2
theorem ZcZ (W:WO b) {left:Bool} {key:Keyed} {arr:Array Keyed} {base n:Nat} (hk:good key) (hg:∀ i,i<n->∃ x,arr[base+i]?=some x/\good x) (h:Rng b arr base (base+n)):Gal b good left key arr base n:=by
 refine ⟨hk,hg,λi j h1 h2 h3=>?_⟩
 obtain ⟨x,hx,_⟩:=hg i (by omega)
 obtain ⟨y,hy,_⟩:=hg j h2
 have hxy:=h (base+i) (base+j) x y (by omega) (by omega) (by omega) hx hy
 unfold byd at h3 ⊢
 rw [hy] at h3
 rw [hx]
 dsimp only at h3 ⊢
 cases left with
 | true=>
  rw [if_pos rfl] at h3 ⊢
  rcases W.neg y x key h3 with z | z
  ·rw [show b y x=false from hxy] at z;cases z
  ·exact z
 | false=>
  rw [if_neg Bool.false_ne_true] at h3 ⊢
  rw [Bool.not_eq_true'] at h3 ⊢
  exact W.le_trans (x:=x) (y:=y) (z:=key) hxy h3
variable {a c:Array Keyed}
theorem ZeQ {arr:Array Keyed} {base k:Nat} {x:Keyed} (h:x∈(arr.toList.drop base).take k):∃ i,i<k/\arr[base+i]?=some x:=by
 obtain ⟨i,hi⟩:=List.mem_iff_getElem?.mp h
 rw [List.getElem?_take] at hi
 split at hi
 ·rw [List.getElem?_drop,Array.getElem?_toList] at hi
  exact ⟨i,by assumption,hi⟩
 ·cases hi
theorem ZeR {arr:Array Keyed} {base:Nat} {x:Keyed} (h:x∈arr.toList.drop base):∃ i,base+i<arr.size/\arr[base+i]?=some x:=by
 obtain ⟨i,hi⟩:=List.mem_iff_getElem?.mp h
 rw [List.getElem?_drop,Array.getElem?_toList] at hi
 exact ⟨i,(Array.getElem?_eq_some_iff.mp hi).1,hi⟩
section
variable {out:Array Keyed} {ia ib:Nat} {st:SortSt} {Q:ForInStep MLt->SortSt->Prop}
structure Zg9 (b:Keyed->Keyed->Bool) (a c:Array Keyed) (n:Nat) (st:SortSt) (Q:ForInStep MLt->SortSt->Prop):Prop where
 fin:∀ r y st',SameG st st'->Za1 b (a.toList++c.toList) r.toList->Q (.done (some r,y)) st'
 brk:∀ out' ia' ib' y st',SameG st st'->ML b a c out' ia' ib'->ia'+1<a.size->ib'<c.size->n<=out'.size->Q (.done (none,out',ia',ib',y)) st'
 go:∀ out' ia' ib' y st',SameG st st'->ML b a c out' ia' ib'->ia'+1<a.size->ib'<c.size->n<=out'.size->Q (.yield (none,out',ia',ib',y)) st'
theorem Zge (T:Two b good a c) {mg ac k n:Nat} (R:Zg9 b a c n st Q) (h:ML b a c out ia ib) (h1:ia+1<a.size) (h2:ib<c.size) (hn:n<=out.size) (hl:∀ x,a[ia]?=some x->∀ y∈c.toList.drop ib,kle b x y) :
  wpS M A E s (mlD a c mg ac k out ia ib) Q st:=by
 unfold mlD
 obtain ⟨x,hx,gx⟩:=T.at (i:=ia) (by omega)
 refine wpS_bind (Zau hx ?_)
 have h':=h.pushA hx (hl x hx)
 have hn':n<=(out.push x).size:=by rw [Array.size_push];omega
 dsimp only
 split
 ·rename_i e
  exact wpS_pure (R.fin _ _ _ (SameG.refl _) (h'.last T (eq_of_beq e)))
 ·rename_i e
  have e:ia+1+1<a.size:=by
   have:ia+1+1≠a.size:=λz=>e (beq_iff_eq.mpr z)
   omega
  split
  ·exact wpS_pure (R.brk _ _ _ _ _ (SameG.refl _) h' e h2 hn')
  ·exact wpS_pure (R.go _ _ _ _ _ (SameG.refl _) h' e h2 hn')
theorem Zgf (W:WO b) (L:Zch M A E s kd b good) (T:Two b good a c) {mg ac bc n:Nat} (R:Zg9 b a c n st Q) (hs:kindOf st=kd) (h:ML b a c out ia ib) (h1:ia+1<a.size) (h2:ib<c.size) (hn:n<=out.size)
  (hl:∀ x,c[ib]?=some x->∀ y∈a.toList.drop ia,kle b x y):wpS M A E s (mlC a c mg ac bc out ia ib) Q st:=by
 unfold mlC
 obtain ⟨x,hx,gx⟩:=T.ct h2
 obtain ⟨y,hy,gy⟩:=T.at (i:=ia) (by omega)
 refine wpS_bind (Zau hx ?_)
 have h':=h.pushB hx (hl x hx)
 have hn':n<=(out.push x).size:=by rw [Array.size_push];omega
 generalize out.push x=out1 at h' hn'
 dsimp only
 split
 ·rename_i e
  exact wpS_pure (R.fin _ _ _ (SameG.refl _) (h'.done (.inl (eq_of_beq e))))
 ·rename_i e
  have e:ib+1<c.size:=by
   have:ib+1≠c.size:=λz=>e (beq_iff_eq.mpr z)
   omega
  refine wpS_bind (Zau hy ?_)
  have sB:Rng b c (ib+1) c.size:=ZhF W h'.sb
  have sA:(a.toList.drop ia).Pairwise (kle b):=h'.sa
  rw [Za5 hy] at sA
  have G:Gal b good true y c (ib+1) (c.size-(ib+1)):=ZcZ W gy (λi hi=>T.ct (by omega)) (by rw [Nat.add_sub_cancel' (by omega)];exact sB)
  refine wpS_bind (Za3 L G hs (by omega) λk hk k1 k2=>?_)
  dsimp only
  have tk:∀ z∈(c.toList.drop (ib+1)).take k,∀ v∈a.toList.drop ia,kle b z v:=λz hz v hv=>by
   obtain ⟨i,hi,ez⟩:=ZeQ hz
   have:=k1 i hi
   unfold byd at this
   rw [ez] at this
   dsimp only at this
   rw [if_pos rfl] at this
   rw [Za5 hy] at hv
   exact W.le_trans (W.le_of_lt this) (Zdm W sA v hv)
  have tr:∀ v∈c.toList.drop (ib+1+k),kle b y v:=λv hv=>by
   obtain ⟨i,hi,ev⟩:=ZeR hv
   have:=k2 (k+i) (by omega) (by omega)
   unfold byd at this
   rw [show ib+1+(k+i)=ib+1+k+i by omega,ev] at this
   dsimp only at this
   rw [if_pos rfl] at this
   exact this
  split
  ·have h3:=h'.takeB tk
   have hn3:n<=(out1++c.extract (ib+1) (ib+1+k)).size:=by rw [Array.size_append];omega
   split
   ·rename_i e2
    exact wpS_pure (R.fin _ _ _ (SameG.refl _) (h3.done (.inl (eq_of_beq e2))))
   ·rename_i e2
    have e2:ib+1+k<c.size:=by
     have:ib+1+k≠c.size:=λz=>e2 (beq_iff_eq.mpr z)
     omega
    exact Zge T R h3 h1 e2 hn3 λx' hx' v hv=>by
     rw [hy] at hx';cases hx'
     exact tr v hv
  ·rename_i hk0
   have:k=0:=by omega
   subst this
   exact Zge T R h' h1 e hn' λx' hx' v hv=>by
    rw [hy] at hx';cases hx'
    exact tr v hv
theorem Ziw (W:WO b) (L:Zch M A E s kd b good) (T:Two b good a c) {mg ac bc n:Nat} (R:∀ st',SameG st st'->Zg9 b a c n st' Q) (hs:kindOf st=kd) (h:ML b a c out ia ib) (h1:ia+1<a.size) (h2:ib<c.size) (hn:n<=out.size) :
  wpS M A E s (mlB a c mg ac bc out ia ib) Q st:=by
 unfold mlB
 refine wpS_bind (ZbD λst1 sg=>?_)
 have R:=R st1 sg
 have hs1:kindOf st1=kd:=sg.1.trans hs
 obtain ⟨x,hx,gx⟩:=T.ct h2
 refine wpS_bind (Zau hx ?_)
 have sA:Rng b a ia a.size:=ZhF W h.sa
 have sB:(c.toList.drop ib).Pairwise (kle b):=h.sb
 rw [Za5 hx] at sB
 have G:Gal b good false x a ia (a.size-ia):=ZcZ W gx (λi hi=>T.at (by omega)) (by rw [Nat.add_sub_cancel' (by omega)];exact sA)
 refine wpS_bind (Za3 L G hs1 (by omega) λk hk k1 k2=>?_)
 dsimp only
 have tk:∀ z∈(a.toList.drop ia).take k,∀ v∈c.toList.drop ib,kle b z v:=λz hz v hv=>by
  obtain ⟨i,hi,ez⟩:=ZeQ hz
  have:=k1 i hi
  unfold byd at this
  rw [ez] at this
  dsimp only at this
  rw [if_neg Bool.false_ne_true,Bool.not_eq_true'] at this
  rw [Za5 hx] at hv
  exact W.le_trans this (Zdm W sB v hv)
 have tr:∀ v∈a.toList.drop (ia+k),kle b x v:=λv hv=>by
  obtain ⟨i,hi,ev⟩:=ZeR hv
  have:=k2 (k+i) (by omega) (by omega)
  unfold byd at this
  rw [show ia+(k+i)=ia+k+i by omega,ev] at this
  dsimp only at this
  rw [if_neg Bool.false_ne_true,Bool.not_eq_false'] at this
  exact W.le_of_lt this
 split
 ·have h3:=h.takeA tk
  have hn3:n<=(out++a.extract ia (ia+k)).size:=by rw [Array.size_append];omega
  split
  ·rename_i e2
   exact wpS_pure (R.fin _ _ _ (SameG.refl _) (h3.last T (eq_of_beq e2)))
  ·rename_i e2
   split
   ·rename_i e3
    exact wpS_pure (R.fin _ _ _ (SameG.refl _) (h3.done (.inr (eq_of_beq e3))))
   ·rename_i e3
    have e4:ia+k+1<a.size:=by
     have:ia+k+1≠a.size:=λz=>e2 (beq_iff_eq.mpr z)
     have:ia+k≠a.size:=λz=>e3 (beq_iff_eq.mpr z)
     omega
    exact Zgf W L T R hs1 h3 e4 h2 hn3 λx' hx' v hv=>by
     rw [hx] at hx';cases hx'
     exact tr v hv
 ·have:k=0:=by omega
  subst this
  exact Zgf W L T R hs1 h h1 h2 hn λx' hx' v hv=>by
   rw [hx] at hx';cases hx'
   exact tr v hv
end
theorem Zgg (W:WO b) (L:Zch M A E s kd b good) (T:Two b good a c) {out:Array Keyed} {ia ib n:Nat} {y:Nat×Nat×Nat} {st:SortSt} (hs:kindOf st=kd) (h:ML b a c out ia ib) (h1:ia+1<a.size) (h2:ib<c.size)
  {Q:MLt->SortSt->Prop} (q1:∀ r y st',SameG st st'->Za1 b (a.toList++c.toList) r.toList->Q (some r,y) st')
  (q2:∀ out' ia' ib' y st',SameG st st'->ML b a c out' ia' ib'->ia'+1<a.size->ib'<c.size->out.size<=out'.size->Q (none,out',ia',ib',y) st') :
  wpS M A E s (forIn [:n] ((none,out,ia,ib,y):MLt) (Zg6 a c)) Q st:=by
 refine wpS_forRange (λk r st'=>SameG st st'/\∃ out' ia' ib' y,r=(none,out',ia',ib',y)/\ML b a c out' ia' ib'/\ia'+1<a.size/\ib'<c.size/\out.size<=out'.size) ?_ ?_ ⟨SameG.refl _,_,_,_,_,rfl,h,h1,h2,Nat.le_refl _⟩
 ·rintro k r st1 _ hk ⟨sg,out',ia',ib',y,rfl,h,h1,h2,h3⟩
  have hs1:kindOf st1=kd:=sg.1.trans hs
  have R:∀ st',SameG st1 st'->Zg9 b a c out.size st' (λr st'=>match r with
   | .done c'=>Q c' st'
   | .yield c'=>SameG st st'/\∃ out' ia' ib' y,c'=(none,out',ia',ib',y)/\ML b a c out' ia' ib'/\ia'+1<a.size/\ib'<c.size/\out.size<=out'.size):=λst' sg'=>
   ⟨λr y st2 g m=>q1 r y st2 ((sg.trans sg').trans g) m,λo i j y st2 g m p1 p2 p3=>q2 o i j y st2 ((sg.trans sg').trans g) m p1 p2 p3,λo i j y st2 g m p1 p2 p3=>⟨(sg.trans sg').trans g,o,i,j,y,rfl,m,p1,p2,p3⟩⟩
  unfold Zg6
  dsimp only
  have mono:∀ mg,wpS M A E s (mlB a c mg y.2.1 y.2.2 out' ia' ib') _ st1:=λmg=>Ziw W L T R hs1 h h1 h2 h3
  split
  ·exact wpS_mono (mono _) λr st' hr=>by cases r <;> exact hr
  ·exact wpS_mono (mono _) λr st' hr=>by cases r <;> exact hr
 ·rintro r st1 ⟨sg,out',ia',ib',y,rfl,h,h1,h2,h3⟩
  exact q2 _ _ _ _ _ sg h h1 h2 h3
theorem Zeo (W:WO b) (L:Zch M A E s kd b good) (T:Two b good a c) {st:SortSt} (hs:kindOf st=kd) {Q:Array Keyed->SortSt->Prop}
  (q:∀ r st',SameG st st'->Za1 b (a.toList++c.toList) r.toList->Q r st'):wpS M A E s (Zdi a c) Q st:=by
 rw [Zen]
 refine wpS_bind (wpS_lift (wpAny_rule ⟨rfl,?_⟩))
 obtain ⟨x,hx,gx⟩:=T.ct T.nc
 refine wpS_bind (Zau hx ?_)
 have h0:ML b a c #[x] 0 1:=by
  have z:ML b a c #[] 0 0:=⟨by simp,by simp,by simp,by simpa using T.sa,by simpa using T.sc⟩
  exact z.pushB hx λy hy=>T.first x hx y (by simpa using hy)
 have hc:=T.nc
 have ha:=T.na
 dsimp only
 split
 ·rename_i e
  exact wpS_pure (q _ _ (SameG.refl _) (h0.done (.inl (eq_of_beq e))))
 ·rename_i e
  have e:1<c.size:=by
   have:1≠c.size:=λz=>e (beq_iff_eq.mpr z)
   omega
  split
  ·rename_i e2
   exact wpS_pure (q _ _ (SameG.refl _) (h0.last T (eq_of_beq e2)))
  ·rename_i e2
   have e2:0+1<a.size:=by
    have:0+1≠a.size:=λz=>e2 (beq_iff_eq.mpr z)
    omega
   refine wpS_bind (wpS_get ?_)
   refine wpS_bind (wpS_forRange (λk r st'=>SameG st st'/\∃ out' ia' ib' mg,r=(none,out',ia',ib',mg)/\ML b a c out' ia' ib'/\ia'+1<a.size/\ib'<c.size/\k<out'.size) ?_ ?_ ⟨SameG.refl _,_,_,_,_,rfl,h0,e2,e,by simp⟩)
   ·rintro k r st1 _ hk ⟨sg,out',ia',ib',mg,rfl,h,h1,h2,h3⟩
    have hs1:kindOf st1=kd:=sg.1.trans hs
    unfold Zg7
    dsimp only
    refine wpS_bind (Zgd W L T hs1 h h1 h2 (λr y st2 g m=>?_) (λo i j ac bc st2 g m p1 p2 p3=>?_))
    ·refine wpS_pure ?_
     dsimp only
     exact wpS_pure (q r st2 (sg.trans g) m)
    ·dsimp only
     refine wpS_bind (wpS_lift (wpAny_rule ⟨rfl,?_⟩))
     refine wpS_bind (Zgg W L T (g.1.trans hs1) m p1 p2 (λr y st3 g3 m3=>?_) (λo3 i3 j3 y3 st3 g3 m3 r1 r2 r3=>?_))
     ·refine wpS_pure ?_
      dsimp only
      exact wpS_pure (q r st3 ((sg.trans g).trans g3) m3)
     ·dsimp only
      refine wpS_bind (ZbD λst4 g4=>?_)
      exact wpS_pure ⟨((sg.trans g).trans g3).trans g4,_,_,_,_,rfl,m3,r1,r2,by omega⟩
   ·rintro r st1 ⟨sg,out',ia',ib',mg,rfl,h,h1,h2,h3⟩
    exfalso
    have:=Mrg.len h
    rw [List.length_append,List.length_drop,List.length_drop,Array.length_toList,Array.length_toList,Array.length_toList] at this
    simp at h3
    omega
end
end L2
namespace L2
open PySem PySem.Spec PyProof.Rows
abbrev MHs:=Option (Array Keyed)×Nat×Nat×Array Keyed×Nat×Nat
abbrev MHt:=Option (Array Keyed)×Nat×Nat×Array Keyed×Nat×Nat×Nat
abbrev MHo:=Option (Array Keyed)×Nat×Nat×Array Keyed×Nat
def ZbN (a b out:Array Keyed) (na nb:Nat):Array Keyed:=a.extract 0 na++b.extract 0 nb++out.reverse
def Zca (a b out:Array Keyed) (na nb:Nat):Array Keyed:=b.extract 0 nb++a.extract 0 na++out.reverse
def Zha (a b:Array Keyed) (mg:Nat):Nat->MHs->StateT SortSt Sem (ForInStep MHs):=λ_ r=>
 let na:=r.2.1;let nb:=r.2.2.1;let out:=r.2.2.2.1;let acount:=r.2.2.2.2.1;let bcount:=r.2.2.2.2.2
 do
 let x <- elem' b (nb-1)
 let y <- elem' a (na-1)
 match <- lt' x y with
 | some aWins=>
  if aWins=true then do
   let na:=na-1
   let z <- elem' a na
   let out:=out.push z
   let acount:=acount+1
   let bcount:=0
   if (na == 0)=true then pure (.done (some (ZbN a b out na nb),na,nb,out,acount,bcount))
   else if acount>=mg then pure (.done (none,na,nb,out,acount,bcount))
   else pure (.yield (none,na,nb,out,acount,bcount))
  else do
   let nb:=nb-1
   let z <- elem' b nb
   let out:=out.push z
   let bcount:=bcount+1
   let acount:=0
   if (nb == 1)=true then pure (.done (some (Zca a b out na nb),na,nb,out,acount,bcount))
   else if bcount>=mg then pure (.done (none,na,nb,out,acount,bcount))
   else pure (.yield (none,na,nb,out,acount,bcount))
 | _=>pure (.done (some (ZbN a b out na nb),na,nb,out,acount,bcount))
def mhD (a b:Array Keyed) (minGallop acount bcount:Nat) (na nb:Nat) (out:Array Keyed):StateT SortSt Sem (ForInStep MHt):=do
 let na:=na-1
 let z <- elem' a na
 let out:=out.push z
 if (na == 0)=true then pure (.done (some (ZbN a b out na nb),na,nb,out,minGallop,acount,bcount))
 else if (decide (acount<7) && decide (bcount<7))=true then pure (.done (none,na,nb,out,minGallop,acount,bcount))
 else pure (.yield (none,na,nb,out,minGallop,acount,bcount))
def mhC (a b:Array Keyed) (minGallop acount bcount:Nat) (na nb:Nat) (out:Array Keyed):StateT SortSt Sem (ForInStep MHt):=do
 let nb:=nb-1
 let z <- elem' b nb
 let out:=out.push z
 if (nb == 1)=true then pure (.done (some (Zca a b out na nb),na,nb,out,minGallop,acount,bcount))
 else do
  let y <- elem' a (na-1)
  match <- Zbv true y b 0 nb (nb-1) with
  | some at_=>
   let k:=nb-at_
   let bcount:=k
   if k > 0 then
    let out:=out++(b.extract at_ nb).reverse
    let nb:=at_
    if (nb == 1)=true then pure (.done (some (Zca a b out na nb),na,nb,out,minGallop,acount,bcount))
    else if (nb == 0)=true then pure (.done (some (ZbN a b out na nb),na,nb,out,minGallop,acount,bcount))
    else mhD a b minGallop acount bcount na nb out
   else mhD a b minGallop acount bcount na nb out
  | _=>pure (.done (some (ZbN a b out na nb),na,nb,out,minGallop,acount,bcount))
def mhB (a b:Array Keyed) (minGallop acount bcount:Nat) (na nb:Nat) (out:Array Keyed):StateT SortSt Sem (ForInStep MHt):=do
 ZcF minGallop
 let x <- elem' b (nb-1)
 match <- Zbv false x a 0 na (na-1) with
 | some at_=>
  let k:=na-at_
  let acount:=k
  if k > 0 then
   let out:=out++(a.extract at_ na).reverse
   let na:=at_
   if (na == 0)=true then pure (.done (some (ZbN a b out na nb),na,nb,out,minGallop,acount,bcount))
   else mhC a b minGallop acount bcount na nb out
  else mhC a b minGallop acount bcount na nb out
 | _=>pure (.done (some (ZbN a b out na nb),na,nb,out,minGallop,acount,bcount))
def Zhb (a b:Array Keyed):Nat->MHt->StateT SortSt Sem (ForInStep MHt):=λ_ r=>
 let na:=r.2.1;let nb:=r.2.2.1;let out:=r.2.2.2.1;let minGallop:=r.2.2.2.2.1;let acount:=r.2.2.2.2.2.1;let bcount:=r.2.2.2.2.2.2
 if minGallop > 1 then mhB a b (minGallop-1) acount bcount na nb out else mhB a b minGallop acount bcount na nb out
def Zhc (a b:Array Keyed):Nat->MHo->StateT SortSt Sem (ForInStep MHo):=λ_ r=>
 let na:=r.2.1;let nb:=r.2.2.1;let out:=r.2.2.2.1;let minGallop:=r.2.2.2.2
 do
 let r <- forIn [:a.size+b.size] ((none,na,nb,out,0,0):MHs) (Zha a b minGallop)
 match r.1 with
 | some x=>pure (.done (some x,r.2.1,r.2.2.1,r.2.2.2.1,minGallop))
 | none=>do
  liftM (rule "list.sort.gallop")
  let r <- forIn [:a.size+b.size] ((none,r.2.1,r.2.2.1,r.2.2.2.1,minGallop+1,r.2.2.2.2.1,r.2.2.2.2.2):MHt) (Zhb a b)
  match r.1 with
  | some x=>pure (.done (some x,r.2.1,r.2.2.1,r.2.2.2.1,r.2.2.2.2.1))
  | none=>do
   ZcF (r.2.2.2.2.1+1)
   pure (.yield (none,r.2.1,r.2.2.1,r.2.2.2.1,r.2.2.2.2.1+1))
theorem Zep (a b:Array Keyed):Zdj a b=(do
  liftM (rule "list.sort.merge-hi")
  let x <- elem' a (a.size-1)
  let out:=#[x]
  if (a.size-1 == 0)=true then pure (ZbN a b out (a.size-1) b.size)
  else if (b.size == 1)=true then pure (Zca a b out (a.size-1) b.size)
  else do
   let st <- get
   let r <- forIn [:a.size+b.size] ((none,a.size-1,b.size,out,gallopOf st):MHo) (Zhc a b)
   match r.1 with
   | some r=>pure r
   | none=>liftM (unsupported "internal:list.sort.merge-bound")):=by
 refine ZaY (m:=liftM (rule "list.sort.merge-hi")) λ_=>?_
 refine ZaY (m:=elem' a (a.size-1)) λx=>?_
 refine Zdl (c:=(a.size-1 == 0)=true) rfl ?_
 refine Zdl (c:=(b.size == 1)=true) rfl ?_
 refine ZaY (m:=get) λst=>?_
 refine (congrArg (λm:StateT SortSt Sem MHo=>m >>= _) (ZcG (r:=[:a.size+b.size]) (c:=((none,a.size-1,b.size,#[x],gallopOf st):MHo)) (g:=Zhc a b) λi r=>?_)).trans ?_
 rotate_left
 ·refine ZaY λr=>?_
  obtain ⟨r1,r2⟩:=r
  cases r1 <;> rfl
 unfold Zhc
 refine (congrArg (λm:StateT SortSt Sem MHs=>m >>= _) (ZcG (r:=[:a.size+b.size]) (g:=Zha a b r.2.2.2.2) λi r=>rfl)).trans ?_
 refine ZaY λq=>?_
 obtain ⟨q1,q2⟩:=q
 cases q1 with
 | some z=>rfl
 | none=>
  refine ZaY (m:=liftM (rule "list.sort.gallop")) λ_=>?_
  refine (congrArg (λm:StateT SortSt Sem MHt=>m >>= _) (ZcG (r:=[:a.size+b.size]) (g:=Zhb a b) λi r=>rfl)).trans ?_
  refine ZaY λq=>?_
  obtain ⟨q1,q2⟩:=q
  cases q1 <;> rfl
end L2
namespace L2
open PySem PySem.Spec PyProof.Rows
section
variable {b:Keyed->Keyed->Bool}
structure MrgH (b:Keyed->Keyed->Bool) (all out ra rb:List Keyed):Prop where
 perm:(ra++rb++out).Perm all
 so:out.Pairwise (kle b)
 le:∀ x∈ra++rb,∀ y∈out,kle b x y
 sa:ra.Pairwise (kle b)
 sb:rb.Pairwise (kle b)
theorem MrgH.len {all out ra rb:List Keyed} (h:MrgH b all out ra rb):ra.length+rb.length+out.length=all.length:=by
 have:=h.perm.length_eq
 rw [List.length_append,List.length_append] at this
 exact this
theorem MrgH.moveB {all out u ra rb:List Keyed} (h:MrgH b all out ra (rb++u)) (hu:∀ x∈u,∀ y∈ra,kle b y x):MrgH b all (u++out) ra rb:=by
 have sb:=List.pairwise_append.mp h.sb
 refine ⟨?_,List.pairwise_append.mpr ⟨sb.2.1,h.so,λx hx y hy=>h.le x (by simp [hx]) y hy⟩,λx hx y hy=>?_,h.sa,sb.1⟩
 ·have:=h.perm
  simp only [List.append_assoc] at this ⊢
  exact this
 ·rcases List.mem_append.mp hy with hy | hy
  ·rcases List.mem_append.mp hx with hx | hx
   ·exact hu y hy x hx
   ·exact sb.2.2 x hx y hy
  ·refine h.le x ?_ y hy
   rcases List.mem_append.mp hx with hx | hx <;> simp [hx]
theorem MrgH.moveA {all out u ra rb:List Keyed} (h:MrgH b all out (ra++u) rb) (hu:∀ x∈u,∀ y∈rb,kle b y x):MrgH b all (u++out) ra rb:=by
 have sa:=List.pairwise_append.mp h.sa
 refine ⟨?_,List.pairwise_append.mpr ⟨sa.2.1,h.so,λx hx y hy=>h.le x (by simp [hx]) y hy⟩,λx hx y hy=>?_,sa.1,h.sb⟩
 ·refine List.Perm.trans ?_ h.perm
  simp only [List.append_assoc]
  refine List.Perm.append_left _ ?_
  rw [<-List.append_assoc,<-List.append_assoc]
  exact List.Perm.append_right _ List.perm_append_comm
 ·rcases List.mem_append.mp hy with hy | hy
  ·rcases List.mem_append.mp hx with hx | hx
   ·exact sa.2.2 x hx y hy
   ·exact hu y hy x hx
  ·refine h.le x ?_ y hy
   rcases List.mem_append.mp hx with hx | hx <;> simp [hx]
theorem MrgH.endA {all out ra rb:List Keyed} (h:MrgH b all out ra rb) (hz:∀ x∈ra,∀ y∈rb,kle b x y):Za1 b all (ra++rb++out):=
 ⟨h.perm,List.pairwise_append.mpr ⟨List.pairwise_append.mpr ⟨h.sa,h.sb,hz⟩,h.so,h.le⟩⟩
theorem MrgH.endB {all out ra rb:List Keyed} (h:MrgH b all out ra rb) (hz:∀ x∈rb,∀ y∈ra,kle b x y):Za1 b all (rb++ra++out):=by
 refine ⟨List.Perm.trans (List.Perm.append_right _ List.perm_append_comm) h.perm,List.pairwise_append.mpr ⟨List.pairwise_append.mpr ⟨h.sb,h.sa,hz⟩,h.so,λx hx y hy=>h.le x ?_ y hy⟩⟩
 rcases List.mem_append.mp hx with hx | hx <;> simp [hx]
end
theorem ZeS (a:Array Keyed) (k:Nat):(a.extract 0 k).toList=a.toList.take k:=by
 rw [Array.toList_extract,List.extract_eq_take_drop,List.drop_zero,Nat.sub_zero]
theorem Zgh (a:Array Keyed) {i j:Nat} (h:i<=j):a.toList.take j=a.toList.take i++(a.extract i j).toList:=by
 rw [Array.toList_extract,List.extract_eq_take_drop]
 have:=List.take_append_drop i (a.toList.take j)
 rw [List.take_take,Nat.min_eq_left h,List.drop_take] at this
 exact this.symm
theorem Zgi {a:Array Keyed} {i:Nat} {x:Keyed} (h:a[i]?=some x):a.toList.take (i+1)=a.toList.take i++[x]:=by
 rw [<-Array.getElem?_toList] at h
 rw [List.take_add_one,h]
 rfl
theorem Zhd {arr:Array Keyed} {k:Nat} {x:Keyed} (h:x∈arr.toList.take k):∃ i,i<k/\arr[i]?=some x:=by
 obtain ⟨i,hi⟩:=List.mem_iff_getElem?.mp h
 rw [List.getElem?_take] at hi
 split at hi
 ·rw [Array.getElem?_toList] at hi
  exact ⟨i,by assumption,hi⟩
 ·cases hi
theorem Zeq {arr:Array Keyed} {i j:Nat} {x:Keyed} (h:x∈(arr.extract i j).toList):∃ k,i<=k/\k<j/\arr[k]?=some x:=by
 rw [Array.toList_extract,List.extract_eq_take_drop] at h
 obtain ⟨k,hk⟩:=List.mem_iff_getElem?.mp h
 rw [List.getElem?_take] at hk
 split at hk
 ·rw [List.getElem?_drop,Array.getElem?_toList] at hk
  exact ⟨i+k,by omega,by omega,hk⟩
 ·cases hk
section
variable {M:Model} {A:Around} {E:Value->Shared->Prop} {s:Shared} {kd:SortKind} {b:Keyed->Keyed->Bool} {good:Keyed->Prop} {a c:Array Keyed}
def MH (b:Keyed->Keyed->Bool) (a c:Array Keyed) (na nb:Nat) (out:Array Keyed):Prop:=MrgH b (a.toList++c.toList) out.toList.reverse (a.toList.take na) (c.toList.take nb)
theorem Zgj (W:WO b) {arr:Array Keyed} {hi:Nat} (h:(arr.toList.take hi).Pairwise (kle b)):Rng b arr 0 (0+hi):=λi j x y h1 h2 h3 e1 e2=>by
 refine Zg8 (i:=i) (j:=j) W h h2 ?_ ?_
 ·rw [List.getElem?_take,if_pos (by omega),Array.getElem?_toList];exact e1
 ·rw [List.getElem?_take,if_pos (by omega),Array.getElem?_toList];exact e2
theorem MH.done {out:Array Keyed} {na nb:Nat} (h:MH b a c na nb out) (e:na=0\/nb=0):Za1 b (a.toList++c.toList) (ZbN a c out na nb).toList:=by
 unfold ZbN
 rw [Array.toList_append,Array.toList_append,ZeS,ZeS,Array.toList_reverse]
 refine MrgH.endA h λx hx y hy=>?_
 rcases e with e | e
 ·rw [e] at hx;simp at hx
 ·rw [e] at hy;simp at hy
theorem MH.first {out:Array Keyed} {na nb:Nat} (T:Two b good a c) (h:MH b a c na nb out) (e:nb=1):Za1 b (a.toList++c.toList) (Zca a c out na nb).toList:=by
 unfold Zca
 rw [Array.toList_append,Array.toList_append,ZeS,ZeS,Array.toList_reverse]
 refine MrgH.endB h λx hx y hy=>?_
 obtain ⟨i,hi,ex⟩:=Zhd hx
 have:i=0:=by omega
 subst this
 exact T.first x ex y (List.mem_of_mem_take hy)
theorem MH.pushB {out:Array Keyed} {na nb:Nat} {x:Keyed} (h:MH b a c na (nb+1) out) (hx:c[nb]?=some x) (hl:∀ y∈a.toList.take na,kle b y x):MH b a c na nb (out.push x):=by
 unfold MH at h ⊢
 rw [Array.toList_push,List.reverse_append]
 rw [Zgi hx] at h
 exact MrgH.moveB (u:=[x]) h λz hz y hy=>by
  have:z=x:=by simpa using hz
  subst this
  exact hl y hy
theorem MH.pushA {out:Array Keyed} {na nb:Nat} {x:Keyed} (h:MH b a c (na+1) nb out) (hx:a[na]?=some x) (hl:∀ y∈c.toList.take nb,kle b y x):MH b a c na nb (out.push x):=by
 unfold MH at h ⊢
 rw [Array.toList_push,List.reverse_append]
 rw [Zgi hx] at h
 exact MrgH.moveA (u:=[x]) h λz hz y hy=>by
  have:z=x:=by simpa using hz
  subst this
  exact hl y hy
theorem MH.takeA {out:Array Keyed} {na nb k:Nat} (h:MH b a c na nb out) (hk:k<=na) (hl:∀ x∈(a.extract k na).toList,∀ y∈c.toList.take nb,kle b y x):MH b a c k nb (out++(a.extract k na).reverse):=by
 unfold MH at h ⊢
 rw [Array.toList_append,Array.toList_reverse,List.reverse_append,List.reverse_reverse]
 rw [Zgh a hk] at h
 exact MrgH.moveA h hl
theorem MH.takeB {out:Array Keyed} {na nb k:Nat} (h:MH b a c na nb out) (hk:k<=nb) (hl:∀ x∈(c.extract k nb).toList,∀ y∈a.toList.take na,kle b y x):MH b a c na k (out++(c.extract k nb).reverse):=by
 unfold MH at h ⊢
 rw [Array.toList_append,Array.toList_reverse,List.reverse_append,List.reverse_reverse]
 rw [Zgh c hk] at h
 exact MrgH.moveB h hl
theorem Zdn (W:WO b) {arr:Array Keyed} {k:Nat} {x:Keyed} (h:(arr.toList.take (k+1)).Pairwise (kle b)) (hx:arr[k]?=some x):∀ y∈arr.toList.take (k+1),kle b y x:=λy hy=>by
 obtain ⟨i,hi,ey⟩:=Zhd hy
 exact Zgj W h i k y x (Nat.zero_le _) (by omega) (by omega) ey hx
theorem Zgk (W:WO b) (L:Zch M A E s kd b good) (T:Two b good a c) {out:Array Keyed} {na nb mg:Nat} {st:SortSt} (hs:kindOf st=kd) (h:MH b a c na nb out) (h1:0<na/\na<=a.size) (h2:1<nb/\nb<=c.size)
  {Q:MHs->SortSt->Prop} (q1:∀ r y st',SameG st st'->Za1 b (a.toList++c.toList) r.toList->Q (some r,y) st')
  (q2:∀ na' nb' out' ac bc st',SameG st st'->MH b a c na' nb' out'->(0<na'/\na'<=a.size)->(1<nb'/\nb'<=c.size)->out.size<out'.size->Q (none,na',nb',out',ac,bc) st') :
  wpS M A E s (forIn [:a.size+c.size] ((none,na,nb,out,0,0):MHs) (Zha a c mg)) Q st:=by
 refine wpS_forRange (λk r st'=>SameG st st'/\∃ na' nb' out' ac bc,r=(none,na',nb',out',ac,bc)/\MH b a c na' nb' out'/\(0<na'/\na'<=a.size)/\(1<nb'/\nb'<=c.size)/\out.size+k<=out'.size) ?_ ?_ ⟨SameG.refl _,_,_,_,_,_,rfl,h,h1,h2,Nat.le_refl _⟩
 ·rintro k r st1 _ hk ⟨sg,na',nb',out',ac,bc,rfl,h,h1,h2,h3⟩
  have hs1:kindOf st1=kd:=sg.1.trans hs
  obtain ⟨na',rfl⟩:∃ n,na'=n+1:=⟨na' - 1,by omega⟩
  obtain ⟨nb',rfl⟩:∃ n,nb'=n+1:=⟨nb' - 1,by omega⟩
  unfold Zha
  dsimp only [Nat.add_sub_cancel]
  obtain ⟨x,hx,gx⟩:=T.ct (i:=nb') (by omega)
  obtain ⟨y,hy,gy⟩:=T.at (i:=na') (by omega)
  refine wpS_bind (Zau hx (wpS_bind (Zau hy (wpS_bind (L x y st1 _ gx gy hs1 ?_)))))
  dsimp only
  cases hb:b x y with
  | true=>
   rw [if_pos rfl]
   refine wpS_bind (Zau hy ?_)
   have h':=h.pushA hy λz hz=>W.le_trans (Zdn W h.sb hx z hz) (W.le_of_lt hb)
   split
   ·rename_i e
    exact wpS_pure (q1 _ _ _ sg (h'.done (.inl (eq_of_beq e))))
   ·rename_i e
    have e:0<na':=by
     have:na'≠0:=λz=>e (beq_iff_eq.mpr z)
     omega
    split
    ·exact wpS_pure (q2 _ _ _ _ _ _ sg h' ⟨e,by omega⟩ h2 (by rw [Array.size_push];omega))
    ·exact wpS_pure ⟨sg,_,_,_,_,_,rfl,h',⟨e,by omega⟩,h2,by rw [Array.size_push];omega⟩
  | false=>
   rw [if_neg Bool.false_ne_true]
   refine wpS_bind (Zau hx ?_)
   have h':=h.pushB hx λz hz=>W.le_trans (Zdn W h.sa hy z hz) hb
   split
   ·rename_i e
    exact wpS_pure (q1 _ _ _ sg (h'.first T (eq_of_beq e)))
   ·rename_i e
    have e:1<nb':=by
     have:nb'≠1:=λz=>e (beq_iff_eq.mpr z)
     omega
    split
    ·exact wpS_pure (q2 _ _ _ _ _ _ sg h' h1 ⟨e,by omega⟩ (by rw [Array.size_push];omega))
    ·exact wpS_pure ⟨sg,_,_,_,_,_,rfl,h',h1,⟨e,by omega⟩,by rw [Array.size_push];omega⟩
 ·rintro r st1 ⟨sg,na',nb',out',ac,bc,rfl,h,h1,h2,h3⟩
  exact q2 _ _ _ _ _ _ sg h h1 h2 (by have:=T.na;simp at h3;omega)
section
variable {out:Array Keyed} {na nb:Nat} {st:SortSt} {Q:ForInStep MHt->SortSt->Prop}
structure Zhe (b:Keyed->Keyed->Bool) (a c:Array Keyed) (n:Nat) (st:SortSt) (Q:ForInStep MHt->SortSt->Prop):Prop where
 fin:∀ r y st',SameG st st'->Za1 b (a.toList++c.toList) r.toList->Q (.done (some r,y)) st'
 brk:∀ na' nb' out' y st',SameG st st'->MH b a c na' nb' out'->(0<na'/\na'<=a.size)->(1<nb'/\nb'<=c.size)->n<=out'.size->Q (.done (none,na',nb',out',y)) st'
 go:∀ na' nb' out' y st',SameG st st'->MH b a c na' nb' out'->(0<na'/\na'<=a.size)->(1<nb'/\nb'<=c.size)->n<=out'.size->Q (.yield (none,na',nb',out',y)) st'
theorem Zgl (T:Two b good a c) {mg ac bc n:Nat} (R:Zhe b a c n st Q) (h:MH b a c (na+1) nb out) (h1:na+1<=a.size) (h2:1<nb/\nb<=c.size) (hn:n<=out.size) (hl:∀ x,a[na]?=some x->∀ y∈c.toList.take nb,kle b y x) :
  wpS M A E s (mhD a c mg ac bc (na+1) nb out) Q st:=by
 unfold mhD
 dsimp only [Nat.add_sub_cancel]
 obtain ⟨x,hx,gx⟩:=T.at (i:=na) (by omega)
 refine wpS_bind (Zau hx ?_)
 have h':=h.pushA hx (hl x hx)
 have hn':n<=(out.push x).size:=by rw [Array.size_push];omega
 split
 ·rename_i e
  exact wpS_pure (R.fin _ _ _ (SameG.refl _) (h'.done (.inl (eq_of_beq e))))
 ·rename_i e
  have e:0<na:=by
   have:na≠0:=λz=>e (beq_iff_eq.mpr z)
   omega
  split
  ·exact wpS_pure (R.brk _ _ _ _ _ (SameG.refl _) h' ⟨e,by omega⟩ h2 hn')
  ·exact wpS_pure (R.go _ _ _ _ _ (SameG.refl _) h' ⟨e,by omega⟩ h2 hn')
theorem Zgm (W:WO b) (L:Zch M A E s kd b good) (T:Two b good a c) {mg ac bc n:Nat} (R:Zhe b a c n st Q) (hs:kindOf st=kd) (h:MH b a c (na+1) (nb+1) out) (h1:na+1<=a.size) (h2:0<nb/\nb+1<=c.size) (hn:n<=out.size)
  (hl:∀ x,c[nb]?=some x->∀ y∈a.toList.take (na+1),kle b y x):wpS M A E s (mhC a c mg ac bc (na+1) (nb+1) out) Q st:=by
 unfold mhC
 dsimp only [Nat.add_sub_cancel]
 obtain ⟨x,hx,gx⟩:=T.ct (i:=nb) (by omega)
 obtain ⟨y,hy,gy⟩:=T.at (i:=na) (by omega)
 refine wpS_bind (Zau hx ?_)
 have h':=h.pushB hx (hl x hx)
 have hn':n<=(out.push x).size:=by rw [Array.size_push];omega
 generalize out.push x=out1 at h' hn'
 split
 ·rename_i e
  exact wpS_pure (R.fin _ _ _ (SameG.refl _) (h'.first T (eq_of_beq e)))
 ·rename_i e
  have e:1<nb:=by
   have:nb≠1:=λz=>e (beq_iff_eq.mpr z)
   omega
  refine wpS_bind (Zau hy ?_)
  have G:Gal b good true y c 0 nb:=ZcZ W gy (λi hi=>by rw [Nat.zero_add];exact T.ct (by omega)) (Zgj W h'.sb)
  refine wpS_bind (Za3 L G hs (by omega) λk hk k1 k2=>?_)
  dsimp only
  have tk:∀ z∈(c.extract k nb).toList,∀ v∈a.toList.take (na+1),kle b v z:=λz hz v hv=>by
   obtain ⟨i,hi,hj,ez⟩:=Zeq hz
   have:=k2 i hi hj
   unfold byd at this
   rw [Nat.zero_add,ez] at this
   dsimp only at this
   rw [if_pos rfl] at this
   exact W.le_trans (Zdn W h'.sa hy v hv) this
  have tr:∀ v∈c.toList.take k,kle b v y:=λv hv=>by
   obtain ⟨i,hi,ev⟩:=Zhd hv
   have:=k1 i hi
   unfold byd at this
   rw [Nat.zero_add,ev] at this
   dsimp only at this
   rw [if_pos rfl] at this
   exact W.le_of_lt this
  split
  ·have h3:=h'.takeB hk tk
   have hn3:n<=(out1++(c.extract k nb).reverse).size:=by rw [Array.size_append];omega
   split
   ·rename_i e2
    exact wpS_pure (R.fin _ _ _ (SameG.refl _) (h3.first T (eq_of_beq e2)))
   ·rename_i e2
    split
    ·rename_i e3
     exact wpS_pure (R.fin _ _ _ (SameG.refl _) (h3.done (.inr (eq_of_beq e3))))
    ·rename_i e3
     have e4:1<k:=by
      have:k≠1:=λz=>e2 (beq_iff_eq.mpr z)
      have:k≠0:=λz=>e3 (beq_iff_eq.mpr z)
      omega
     exact Zgl T R h3 h1 ⟨e4,by omega⟩ hn3 λx' hx' v hv=>by
      rw [hy] at hx';cases hx'
      exact tr v hv
  ·have:k=nb:=by omega
   subst this
   exact Zgl T R h' h1 ⟨e,by omega⟩ hn' λx' hx' v hv=>by
    rw [hy] at hx';cases hx'
    exact tr v hv
theorem Zix (W:WO b) (L:Zch M A E s kd b good) (T:Two b good a c) {mg ac bc n:Nat} (R:∀ st',SameG st st'->Zhe b a c n st' Q) (hs:kindOf st=kd) (h:MH b a c na (nb+1) out) (h1:0<na/\na<=a.size) (h2:0<nb/\nb+1<=c.size) (hn:n<=out.size) :
  wpS M A E s (mhB a c mg ac bc na (nb+1) out) Q st:=by
 unfold mhB
 refine wpS_bind (ZbD λst1 sg=>?_)
 have R:=R st1 sg
 have hs1:kindOf st1=kd:=sg.1.trans hs
 dsimp only [Nat.add_sub_cancel]
 obtain ⟨x,hx,gx⟩:=T.ct (i:=nb) (by omega)
 refine wpS_bind (Zau hx ?_)
 have G:Gal b good false x a 0 na:=ZcZ W gx (λi hi=>by rw [Nat.zero_add];exact T.at (by omega)) (Zgj W h.sa)
 refine wpS_bind (Za3 L G hs1 (by omega) λk hk k1 k2=>?_)
 dsimp only
 have tk:∀ z∈(a.extract k na).toList,∀ v∈c.toList.take (nb+1),kle b v z:=λz hz v hv=>by
  obtain ⟨i,hi,hj,ez⟩:=Zeq hz
  have:=k2 i hi hj
  unfold byd at this
  rw [Nat.zero_add,ez] at this
  dsimp only at this
  rw [if_neg Bool.false_ne_true,Bool.not_eq_false'] at this
  exact W.le_trans (Zdn W h.sb hx v hv) (W.le_of_lt this)
 have tr:∀ v∈a.toList.take k,kle b v x:=λv hv=>by
  obtain ⟨i,hi,ev⟩:=Zhd hv
  have:=k1 i hi
  unfold byd at this
  rw [Nat.zero_add,ev] at this
  dsimp only at this
  rw [if_neg Bool.false_ne_true,Bool.not_eq_true'] at this
  exact this
 split
 ·have h3:=h.takeA hk tk
  have hn3:n<=(out++(a.extract k na).reverse).size:=by rw [Array.size_append];omega
  split
  ·rename_i e2
   exact wpS_pure (R.fin _ _ _ (SameG.refl _) (h3.done (.inl (eq_of_beq e2))))
  ·rename_i e2
   have:k≠0:=λz=>e2 (beq_iff_eq.mpr z)
   obtain ⟨k,rfl⟩:∃ n,k=n+1:=⟨k-1,by omega⟩
   exact Zgm W L T R hs1 h3 (by omega) h2 hn3 λx' hx' v hv=>by
    rw [hx] at hx';cases hx'
    exact tr v hv
 ·have:k=na:=by omega
  subst this
  obtain ⟨k,rfl⟩:∃ n,k=n+1:=⟨k-1,by omega⟩
  exact Zgm W L T R hs1 h (by omega) h2 hn λx' hx' v hv=>by
   rw [hx] at hx';cases hx'
   exact tr v hv
end
theorem Zgn (W:WO b) (L:Zch M A E s kd b good) (T:Two b good a c) {out:Array Keyed} {na nb n:Nat} {y:Nat×Nat×Nat} {st:SortSt} (hs:kindOf st=kd) (h:MH b a c na nb out) (h1:0<na/\na<=a.size) (h2:1<nb/\nb<=c.size)
  {Q:MHt->SortSt->Prop} (q1:∀ r y st',SameG st st'->Za1 b (a.toList++c.toList) r.toList->Q (some r,y) st')
  (q2:∀ na' nb' out' y st',SameG st st'->MH b a c na' nb' out'->(0<na'/\na'<=a.size)->(1<nb'/\nb'<=c.size)->out.size<=out'.size->Q (none,na',nb',out',y) st') :
  wpS M A E s (forIn [:n] ((none,na,nb,out,y):MHt) (Zhb a c)) Q st:=by
 refine wpS_forRange (λk r st'=>SameG st st'/\∃ na' nb' out' y,r=(none,na',nb',out',y)/\MH b a c na' nb' out'/\(0<na'/\na'<=a.size)/\(1<nb'/\nb'<=c.size)/\out.size<=out'.size) ?_ ?_ ⟨SameG.refl _,_,_,_,_,rfl,h,h1,h2,Nat.le_refl _⟩
 ·rintro k r st1 _ hk ⟨sg,na',nb',out',y,rfl,h,h1,h2,h3⟩
  have hs1:kindOf st1=kd:=sg.1.trans hs
  have R:∀ st',SameG st1 st'->Zhe b a c out.size st' (λr st'=>match r with
   | .done c'=>Q c' st'
   | .yield c'=>SameG st st'/\∃ na' nb' out' y,c'=(none,na',nb',out',y)/\MH b a c na' nb' out'/\(0<na'/\na'<=a.size)/\(1<nb'/\nb'<=c.size)/\out.size<=out'.size):=λst' sg'=>
   ⟨λr y st2 g m=>q1 r y st2 ((sg.trans sg').trans g) m,λo i j y st2 g m p1 p2 p3=>q2 o i j y st2 ((sg.trans sg').trans g) m p1 p2 p3,λo i j y st2 g m p1 p2 p3=>⟨(sg.trans sg').trans g,o,i,j,y,rfl,m,p1,p2,p3⟩⟩
  unfold Zhb
  dsimp only
  obtain ⟨nb',rfl⟩:∃ n,nb'=n+1:=⟨nb' - 1,by omega⟩
  have mono:∀ mg,wpS M A E s (mhB a c mg y.2.1 y.2.2 na' (nb'+1) out') _ st1:=λmg=>Zix W L T R hs1 h h1 ⟨by omega,h2.2⟩ h3
  split
  ·exact wpS_mono (mono _) λr st' hr=>by cases r <;> exact hr
  ·exact wpS_mono (mono _) λr st' hr=>by cases r <;> exact hr
 ·rintro r st1 ⟨sg,na',nb',out',y,rfl,h,h1,h2,h3⟩
  exact q2 _ _ _ _ _ sg h h1 h2 h3
theorem Zer (W:WO b) (L:Zch M A E s kd b good) (T:Two b good a c) {st:SortSt} (hs:kindOf st=kd) {Q:Array Keyed->SortSt->Prop}
  (q:∀ r st',SameG st st'->Za1 b (a.toList++c.toList) r.toList->Q r st'):wpS M A E s (Zdj a c) Q st:=by
 rw [Zep]
 refine wpS_bind (wpS_lift (wpAny_rule ⟨rfl,?_⟩))
 have hc:=T.nc
 have ha:=T.na
 obtain ⟨x,hx,gx⟩:=T.at (i:=a.size-1) (by omega)
 refine wpS_bind (Zau hx ?_)
 have h0:MH b a c (a.size-1) c.size #[x]:=by
  have z:MH b a c (a.size-1+1) c.size #[]:=by
   unfold MH
   rw [Nat.sub_add_cancel (by omega),List.take_of_length_le (by simp),List.take_of_length_le (by simp)]
   exact ⟨by simp,by simp,by simp,T.sa,T.sc⟩
  exact z.pushA hx λy hy=>T.last x hx y (List.mem_of_mem_take hy)
 dsimp only
 split
 ·rename_i e
  exact wpS_pure (q _ _ (SameG.refl _) (h0.done (.inl (eq_of_beq e))))
 ·rename_i e
  have e:0<a.size-1:=by
   have:a.size-1≠0:=λz=>e (beq_iff_eq.mpr z)
   omega
  split
  ·rename_i e2
   exact wpS_pure (q _ _ (SameG.refl _) (h0.first T (eq_of_beq e2)))
  ·rename_i e2
   have e2:1<c.size:=by
    have:c.size≠1:=λz=>e2 (beq_iff_eq.mpr z)
    omega
   refine wpS_bind (wpS_get ?_)
   refine wpS_bind (wpS_forRange (λk r st'=>SameG st st'/\∃ na' nb' out' mg,r=(none,na',nb',out',mg)/\MH b a c na' nb' out'/\(0<na'/\na'<=a.size)/\(1<nb'/\nb'<=c.size)/\k<out'.size) ?_ ?_ ⟨SameG.refl _,_,_,_,_,rfl,h0,⟨e,by omega⟩,⟨e2,Nat.le_refl _⟩,by simp⟩)
   ·rintro k r st1 _ hk ⟨sg,na',nb',out',mg,rfl,h,h1,h2,h3⟩
    have hs1:kindOf st1=kd:=sg.1.trans hs
    unfold Zhc
    dsimp only
    refine wpS_bind (Zgk W L T hs1 h h1 h2 (λr y st2 g m=>?_) (λo i j ac bc st2 g m p1 p2 p3=>?_))
    ·refine wpS_pure ?_
     dsimp only
     exact wpS_pure (q r st2 (sg.trans g) m)
    ·dsimp only
     refine wpS_bind (wpS_lift (wpAny_rule ⟨rfl,?_⟩))
     refine wpS_bind (Zgn W L T (g.1.trans hs1) m p1 p2 (λr y st3 g3 m3=>?_) (λo3 i3 j3 y3 st3 g3 m3 r1 r2 r3=>?_))
     ·refine wpS_pure ?_
      dsimp only
      exact wpS_pure (q r st3 ((sg.trans g).trans g3) m3)
     ·dsimp only
      refine wpS_bind (ZbD λst4 g4=>?_)
      exact wpS_pure ⟨((sg.trans g).trans g3).trans g4,_,_,_,_,rfl,m3,r1,r2,by omega⟩
   ·rintro r st1 ⟨sg,na',nb',out',mg,rfl,h,h1,h2,h3⟩
    exfalso
    have:=MrgH.len h
    rw [List.length_append,List.length_take,List.length_take,List.length_reverse,Array.length_toList,Array.length_toList,Array.length_toList] at this
    simp at h3
    omega
end
end L2
namespace L2
open PySem PySem.Spec PyProof.Rows
abbrev Asc:=Option (Option Nat)×Nat
abbrev Dsc:=Option (Option Nat)×Nat×Nat
def Ziy (lo:Nat):Nat->Asc->StateT SortSt Sem (ForInStep Asc):=λ_ r=>do
 match <- ltAt' (lo+r.2) (lo+r.2-1) with
 | some smaller=>if smaller=true then pure (.done (none,r.2)) else pure (.yield (none,r.2+1))
 | _=>pure (.done (some none,r.2))
def ZkA (lo:Nat):Nat->Dsc->StateT SortSt Sem (ForInStep Dsc):=λ_ r=>do
 match <- ltAt' (lo+r.2.1) (lo+r.2.1-1) with
 | some smaller=>
  if smaller=true then
   if r.2.2 > 0 then do
    reverseSlice' (lo+r.2.1-(r.2.2+1)) (lo+r.2.1)
    pure (.yield (none,r.2.1+1,0))
   else pure (.yield (none,r.2.1+1,0))
  else do
   match <- ltAt' (lo+r.2.1-1) (lo+r.2.1) with
   | some larger=>if larger=true then pure (.done (none,r.2.1,r.2.2)) else pure (.yield (none,r.2.1+1,r.2.2+1))
   | _=>pure (.done (some none,r.2.1,r.2.2))
 | _=>pure (.done (some none,r.2.1,r.2.2))
def ZdX (lo n nrem:Nat):StateT SortSt Sem (Option Nat):=do
 reverseSlice' lo (lo+n)
 let r <- forIn [n:nrem] ((none,n):Asc) (Ziy lo)
 match r.1 with
 | some x=>pure x
 | none=>pure (some r.2)
def Zfe (lo n nrem:Nat):StateT SortSt Sem (Option Nat):=do
 liftM (rule "list.sort.descending-run")
 let r <- forIn [n+1:nrem] ((none,n+1,0):Dsc) (ZkA lo)
 match r.1 with
 | some x=>pure x
 | none=>(if r.2.2 > 0 then (do
   reverseSlice' (lo+r.2.1-(r.2.2+1)) (lo+r.2.1)
   ZdX lo r.2.1 nrem) else ZdX lo r.2.1 nrem)
theorem Zes (lo nrem:Nat):countRun' lo nrem=(do
  let r <- forIn [1:nrem] ((none,1):Asc) (Ziy lo)
  match r.1 with
  | some x=>pure x
  | none=>(if (r.2 == nrem)=true then pure (some r.2) else (if r.2 > 1 then (do
    match <- ltAt' lo (lo+r.2-1) with
    | some rose=>(if rose=true then pure (some r.2) else (do
      reverseSlice' lo (lo+r.2)
      Zfe lo r.2 nrem))
    | _=>pure none)
   else Zfe lo r.2 nrem))):=by
 rw [countRun'_eq]
 refine (congrArg (λm:StateT SortSt Sem Asc=>m >>= _) (ZcG (r:=[1:nrem]) (c:=((none,1):Asc)) (g:=Ziy lo) λi r=>rfl)).trans ?_
 refine ZaY λr=>?_
 obtain ⟨r1,r2⟩:=r
 cases r1 with
 | some z=>rfl
 | none=>
  refine Zdl (c:=(r2 == nrem)=true) rfl ?_
  refine Zdl (c:=r2 > 1) ?_ ?_
  ·refine ZaY λz=>?_
   cases z with
   | none=>rfl
   | some z=>
    refine Zdl (c:=z=true) rfl ?_
    refine ZaY λ_=>?_
    unfold Zfe
    refine ZaY λ_=>?_
    refine (congrArg (λm:StateT SortSt Sem Dsc=>m >>= _) (ZcG (r:=[r2+1:nrem]) (c:=((none,r2+1,0):Dsc)) (g:=ZkA lo) λi r=>rfl)).trans ?_
    refine ZaY λr=>?_
    obtain ⟨r1,r2,r3⟩:=r
    cases r1 with
    | some z=>rfl
    | none=>
     refine Zdl (c:=r3 > 0) (ZaY λ_=>?_) ?_
     all_goals
      unfold ZdX
      refine ZaY λ_=>?_
      refine (congrArg (λm:StateT SortSt Sem Asc=>m >>= _) (ZcG (r:=[r2:nrem]) (c:=((none,r2):Asc)) (g:=Ziy lo) λi r=>rfl)).trans ?_
      refine ZaY λr=>?_
      obtain ⟨r1,r2⟩:=r
      cases r1 <;> rfl
  ·unfold Zfe
   refine ZaY λ_=>?_
   refine (congrArg (λm:StateT SortSt Sem Dsc=>m >>= _) (ZcG (r:=[r2+1:nrem]) (c:=((none,r2+1,0):Dsc)) (g:=ZkA lo) λi r=>rfl)).trans ?_
   refine ZaY λr=>?_
   obtain ⟨r1,r2,r3⟩:=r
   cases r1 with
   | some z=>rfl
   | none=>
    refine Zdl (c:=r3 > 0) (ZaY λ_=>?_) ?_
    all_goals
     unfold ZdX
     refine ZaY λ_=>?_
     refine (congrArg (λm:StateT SortSt Sem Asc=>m >>= _) (ZcG (r:=[r2:nrem]) (c:=((none,r2):Asc)) (g:=Ziy lo) λi r=>rfl)).trans ?_
     refine ZaY λr=>?_
     obtain ⟨r1,r2⟩:=r
     cases r1 <;> rfl
end L2
namespace L2
open PySem PySem.Spec PyProof.Rows
structure Ah (lo:Nat) (st st':SortSt):Prop where
 kd:kindOf st'=kindOf st
 pe:pendingOf st'=pendingOf st
 fa:failedOf st'=failedOf st
 pm:(arrOf st').Perm (arrOf st)
 lw:∀ i,i<lo->(arrOf st')[i]?=(arrOf st)[i]?
theorem Ah.refl (lo:Nat) (st:SortSt):Ah lo st st:=⟨rfl,rfl,rfl,.refl _,λ_ _=>rfl⟩
theorem Ah.trans {lo:Nat} {st st' st'':SortSt} (h:Ah lo st st') (k:Ah lo st' st''):Ah lo st st'':=
 ⟨k.kd.trans h.kd,k.pe.trans h.pe,k.fa.trans h.fa,k.pm.trans h.pm,λi hi=>(k.lw i hi).trans (h.lw i hi)⟩
theorem Ah.size {lo:Nat} {st st':SortSt} (h:Ah lo st st'):(arrOf st').size=(arrOf st).size:=h.pm.size_eq
def AllG (good:Keyed->Prop) (arr:Array Keyed):Prop:=∀ x∈arr.toList,good x
theorem AllG.perm {good:Keyed->Prop} {a c:Array Keyed} (h:AllG good a) (p:c.Perm a):AllG good c:=λx hx=>h x (p.toList.mem_iff.mp hx)
theorem AllG.at {good:Keyed->Prop} {a:Array Keyed} (h:AllG good a) {i:Nat} (hi:i<a.size):∃ x,a[i]?=some x/\good x:=⟨a[i],by simp [hi],h _ (by simp)⟩
def ZgO (b:Keyed->Keyed->Bool) (arr:Array Keyed) (lo hi:Nat):Prop:=∀ i j x y,lo<=i->i<=j->j<hi->arr[i]?=some x->arr[j]?=some y->kle b y x
section
variable {M:Model} {A:Around} {E:Value->Shared->Prop} {s:Shared} {kd:SortKind} {b:Keyed->Keyed->Bool} {good:Keyed->Prop}
theorem ZbY {st:SortSt} {i j:Nat} {Q:Option Bool->SortSt->Prop} (L:Zch M A E s kd b good) (hs:kindOf st=kd) (G:AllG good (arrOf st)) (hi:i<(arrOf st).size) (hj:j<(arrOf st).size)
  (q:∀ x y,(arrOf st)[i]?=some x->(arrOf st)[j]?=some y->Q (some (b x y)) st):wpS M A E s (ltAt' i j) Q st:=by
 obtain ⟨x,hx,gx⟩:=G.at hi
 obtain ⟨y,hy,gy⟩:=G.at hj
 rw [ltAt'_eq]
 refine wpS_bind (wpS_get ?_)
 exact wpS_bind (Zau hx (wpS_bind (Zau hy (L x y st Q gx gy hs (q x y hx hy)))))
theorem Ziz (arr:Array Keyed) (W:WO b) (lo:Nat):Rng b arr lo (lo+1):=λi j x y h1 h2 h3 e1 e2=>by
 have:i=j:=by omega
 subst this
 rw [e1] at e2;cases e2
 exact W.le_refl _
theorem Zhf {arr:Array Keyed} (W:WO b) {lo n:Nat} {x y:Keyed} (h:Rng b arr lo (lo+n)) (hn:0<n) (hx:arr[lo+n-1]?=some x) (hy:arr[lo+n]?=some y) (hxy:kle b x y):Rng b arr lo (lo+n+1):=λi j u v h1 h2 h3 e1 e2=>by
 by_cases hj:j<lo+n
 ·exact h i j u v h1 h2 hj e1 e2
 ·have:j=lo+n:=by omega
  subst this
  rw [hy] at e2;cases e2
  by_cases hi:i=lo+n
  ·subst hi
   rw [hy] at e1;cases e1
   exact W.le_refl _
  ·exact W.le_trans (h i (lo+n-1) u x h1 (by omega) (by omega) e1 hx) hxy
theorem Zbw {arr:Array Keyed} (W:WO b) {lo n:Nat} {x y:Keyed} (h:ZgO b arr lo (lo+n)) (hn:0<n) (hx:arr[lo+n-1]?=some x) (hy:arr[lo+n]?=some y) (hxy:kle b y x):ZgO b arr lo (lo+n+1):=λi j u v h1 h2 h3 e1 e2=>by
 by_cases hj:j<lo+n
 ·exact h i j u v h1 h2 hj e1 e2
 ·have:j=lo+n:=by omega
  subst this
  rw [hy] at e2;cases e2
  by_cases hi:i=lo+n
  ·subst hi
   rw [hy] at e1;cases e1
   exact W.le_refl _
  ·exact W.le_trans hxy (h i (lo+n-1) u x h1 (by omega) (by omega) e1 hx)
theorem Zgo (W:WO b) (L:Zch M A E s kd b good) {st:SortSt} {lo a nrem:Nat} {Q:Asc->SortSt->Prop} (hs:kindOf st=kd) (G:AllG good (arrOf st)) (hn:lo+nrem<=(arrOf st).size) (h1:1<=a) (h2:a<=nrem) (h3:Rng b (arrOf st) lo (lo+a))
  (q:∀ n,a<=n->n<=nrem->Rng b (arrOf st) lo (lo+n)->(n=nrem\/∃ x y,(arrOf st)[lo+n-1]?=some x/\(arrOf st)[lo+n]?=some y/\b y x=true)->Q (none,n) st):wpS M A E s (forIn [a:nrem] ((none,a):Asc) (Ziy lo)) Q st:=by
 refine wpS_forRange (λk r st'=>st'=st/\r=(none,k)/\a<=k/\k<=nrem/\Rng b (arrOf st) lo (lo+k)) ?_ ?_ ⟨rfl,rfl,Nat.le_refl _,h2,h3⟩
 ·rintro k r st' _ hk ⟨rfl,rfl,h4,h5,h6⟩
  unfold Ziy
  refine wpS_bind (ZbY L hs G (by show lo+k<_;omega) (by show lo+k-1<_;omega) λy x hy hx=>?_)
  dsimp only
  split
  ·rename_i hb
   exact wpS_pure (q k h4 h5 h6 (.inr ⟨x,y,hx,hy,hb⟩))
  ·rename_i hb
   exact wpS_pure ⟨rfl,rfl,by omega,by omega,Zhf W h6 (by omega) hx hy (Bool.eq_false_iff.mpr hb)⟩
 ·rintro r st' ⟨rfl,rfl,h4,h5,h6⟩
  rw [Nat.max_eq_right h2] at h6 ⊢
  exact q nrem h2 (Nat.le_refl _) h6 (.inl rfl)
def Zgp (b:Keyed->Keyed->Bool) (arr:Array Keyed) (lo hi:Nat):Prop:=∀ i j x y,lo<=i->i<hi->lo<=j->j<hi->arr[i]?=some x->arr[j]?=some y->kle b x y
theorem ZbZ {st:SortSt} {lo i j:Nat} (h:lo<=i) (hj:j<=(arrOf st).size):Ah lo st (setArr st (mirror (arrOf st) i j ((j-i) / 2))):=by
 refine ⟨rfl,rfl,rfl,mirror_perm _ _ _ _,λk hk=>?_⟩
 show (mirror (arrOf st) i j ((j-i) / 2))[k]?=_
 rw [getElem?_mirror_all hj,if_neg (by omega)]
theorem Zff {arr:Array Keyed} {lo hi:Nat} (hj:hi<=arr.size) (h:ZgO b arr lo hi):Rng b (mirror arr lo hi ((hi-lo) / 2)) lo hi:=λi j x y h1 h2 h3 e1 e2=>by
 rw [getElem?_mirror_all hj,if_pos (by omega)] at e1 e2
 exact h (lo+hi-1-j) (lo+hi-1-i) y x (by omega) (by omega) (by omega) e2 e1
theorem ZbP {arr:Array Keyed} {lo hi i j:Nat} (hj:j<=arr.size) (h1:lo<=i) (h2:i<=j) (h3:j<=hi) (hA:Zgp b arr i j) (h:ZgO b arr lo hi):ZgO b (mirror arr i j ((j-i) / 2)) lo hi:=λp q x y k1 k2 k3 e1 e2=>by
 rw [getElem?_mirror_all hj] at e1 e2
 by_cases hp:i<=p/\p<j
 ·rw [if_pos hp] at e1
  by_cases hq:i<=q/\q<j
  ·rw [if_pos hq] at e2
   exact hA (i+j-1-q) (i+j-1-p) y x (by omega) (by omega) (by omega) (by omega) e2 e1
  ·rw [if_neg hq] at e2
   exact h _ q x y (by omega) (by omega) k3 e1 e2
 ·rw [if_neg hp] at e1
  by_cases hq:i<=q/\q<j
  ·rw [if_pos hq] at e2
   exact h p _ x y k1 (by omega) (by omega) e1 e2
  ·rw [if_neg hq] at e2
   exact h p q x y k1 k2 k3 e1 e2
def Zli (b:Keyed->Keyed->Bool) (lo nrem:Nat) (st:SortSt) (Q:Option Nat->SortSt->Prop):Prop:=∀ m st',Ah lo st st'->1<=m->m<=nrem->Rng b (arrOf st') lo (lo+m)->Q (some m) st'
theorem ZdY (W:WO b) (L:Zch M A E s kd b good) {st:SortSt} {lo n nrem:Nat} {Q:Option Nat->SortSt->Prop} (hs:kindOf st=kd) (G:AllG good (arrOf st)) (hn:lo+nrem<=(arrOf st).size) (h1:1<=n) (h2:n<=nrem) (h3:ZgO b (arrOf st) lo (lo+n))
  (q:Zli b lo nrem st Q):wpS M A E s (ZdX lo n nrem) Q st:=by
 unfold ZdX
 rw [reverseSlice'_eq]
 refine wpS_bind (wpS_modify ?_)
 have ah:=ZbZ (st:=st) (lo:=lo) (i:=lo) (j:=lo+n) (Nat.le_refl _) (by omega)
 have r:=Zff (arr:=arrOf st) (lo:=lo) (hi:=lo+n) (by omega) h3
 generalize hst:setArr st (mirror (arrOf st) lo (lo+n) ((lo+n-lo) / 2))=st1 at ah
 have e1:arrOf st1=mirror (arrOf st) lo (lo+n) ((lo+n-lo) / 2):=by rw [<-hst]
 rw [<-e1] at r
 refine wpS_bind (Zgo W L (ah.kd.trans hs) (G.perm ah.pm) (by rw [ah.size];exact hn) h1 h2 r λm k1 k2 k3 _=>?_)
 dsimp only
 exact wpS_pure (q m st1 ah (by omega) k2 k3)
theorem ZdZ (W:WO b) (L:Zch M A E s kd b good) {st:SortSt} {lo n nrem:Nat} {Q:Option Nat->SortSt->Prop} (hs:kindOf st=kd) (G:AllG good (arrOf st)) (hn:lo+nrem<=(arrOf st).size) (h2:n+1<=nrem) (h3:ZgO b (arrOf st) lo (lo+(n+1)))
  (q:Zli b lo nrem st Q):wpS M A E s (Zfe lo n nrem) Q st:=by
 unfold Zfe
 refine wpS_bind (wpS_lift (wpAny_rule ⟨rfl,?_⟩))
 have fin:∀ m neq st1,Ah lo st st1->n+1<=m->m<=nrem->ZgO b (arrOf st1) lo (lo+m)->neq+1<=m->Zgp b (arrOf st1) (lo+m-(neq+1)) (lo+m) ->
   wpS M A E s (if neq > 0 then (do reverseSlice' (lo+m-(neq+1)) (lo+m);ZdX lo m nrem) else ZdX lo m nrem) Q st1:=by
  intro m neq st1 ah k1 k2 k3 k4 k5
  have G1:=G.perm ah.pm
  have hn1:lo+nrem<=(arrOf st1).size:=by rw [ah.size];exact hn
  split
  ·rw [reverseSlice'_eq]
   refine wpS_bind (wpS_modify ?_)
   have ah2:=ZbZ (st:=st1) (lo:=lo) (i:=lo+m-(neq+1)) (j:=lo+m) (by omega) (by omega)
   have r:=ZbP (arr:=arrOf st1) (lo:=lo) (hi:=lo+m) (i:=lo+m-(neq+1)) (j:=lo+m) (by omega) (by omega) (by omega) (Nat.le_refl _) k5 k3
   generalize hst:setArr st1 (mirror (arrOf st1) (lo+m-(neq+1)) (lo+m) ((lo+m-(lo+m-(neq+1))) / 2))=st2 at ah2
   have e1:arrOf st2=mirror (arrOf st1) (lo+m-(neq+1)) (lo+m) ((lo+m-(lo+m-(neq+1))) / 2):=by rw [<-hst]
   rw [<-e1] at r
   have ah3:=ah.trans ah2
   exact ZdY W L (ah3.kd.trans hs) (G.perm ah3.pm) (by rw [ah3.size];exact hn) (by omega) k2 r λm' st' a'=>q m' st' (ah3.trans a')
  ·exact ZdY W L (ah.kd.trans hs) G1 hn1 (by omega) k2 k3 λm' st' a'=>q m' st' (ah.trans a')
 have al0:∀ (arr:Array Keyed) m,Zgp b arr (lo+m-(0+1)) (lo+m):=λarr m i j x y i1 i2 i3 i4 e1 e2=>by
  have:i=j:=by omega
  subst this
  rw [e1] at e2;cases e2
  exact W.le_refl _
 refine wpS_bind (wpS_forRange (λk r st1=>Ah lo st st1/\∃ neq,r=(none,k,neq)/\n+1<=k/\k<=nrem/\ZgO b (arrOf st1) lo (lo+k)/\neq+1<=k/\Zgp b (arrOf st1) (lo+k-(neq+1)) (lo+k)) ?_ ?_ ⟨Ah.refl _ _,0,rfl,Nat.le_refl _,h2,h3,by omega,al0 _ _⟩)
 ·rintro k r st1 _ hk ⟨ah,neq,rfl,k1,k2,k3,k4,k5⟩
  have G1:=G.perm ah.pm
  have hn1:lo+nrem<=(arrOf st1).size:=by rw [ah.size];exact hn
  have hs1:=ah.kd.trans hs
  unfold ZkA
  refine wpS_bind (ZbY L hs1 G1 (by show lo+k<_;omega) (by show lo+k-1<_;omega) λy x hy hx=>?_)
  dsimp only
  split
  ·rename_i hb
   have hyx:=W.le_of_lt hb
   split
   ·rw [reverseSlice'_eq]
    refine wpS_bind (wpS_modify ?_)
    have ah2:=ZbZ (st:=st1) (lo:=lo) (i:=lo+k-(neq+1)) (j:=lo+k) (by omega) (by omega)
    have r:=ZbP (arr:=arrOf st1) (lo:=lo) (hi:=lo+k) (i:=lo+k-(neq+1)) (j:=lo+k) (by omega) (by omega) (by omega) (Nat.le_refl _) k5 k3
    have e3:(mirror (arrOf st1) (lo+k-(neq+1)) (lo+k) ((lo+k-(lo+k-(neq+1))) / 2))[lo+k]?=some y:=by rw [getElem?_mirror_all (by omega),if_neg (by omega)];exact hy
    have e4:∃ z,(mirror (arrOf st1) (lo+k-(neq+1)) (lo+k) ((lo+k-(lo+k-(neq+1))) / 2))[lo+k-1]?=some z/\kle b y z:=by
     obtain ⟨z,hz,_⟩:=G1.at (i:=lo+k-(neq+1)) (by omega)
     refine ⟨z,?_,W.le_trans hyx (k3 (lo+k-(neq+1)) (lo+k-1) z x (by omega) (by omega) (by omega) hz hx)⟩
     rw [getElem?_mirror_all (by omega),if_pos (by omega),<-hz]
     congr 1
     omega
    generalize hst:setArr st1 (mirror (arrOf st1) (lo+k-(neq+1)) (lo+k) ((lo+k-(lo+k-(neq+1))) / 2))=st2 at ah2
    have e1:arrOf st2=mirror (arrOf st1) (lo+k-(neq+1)) (lo+k) ((lo+k-(lo+k-(neq+1))) / 2):=by rw [<-hst]
    rw [<-e1] at r e3 e4
    obtain ⟨z,hz,hyz⟩:=e4
    exact wpS_pure ⟨ah.trans ah2,0,rfl,by omega,by omega,Zbw W r (by omega) hz e3 hyz,by omega,al0 _ _⟩
   ·exact wpS_pure ⟨ah,0,rfl,by omega,by omega,Zbw W k3 (by omega) hx hy hyx,by omega,al0 _ _⟩
  ·rename_i hb
   have hxy:kle b x y:=Bool.eq_false_iff.mpr hb
   refine wpS_bind (ZbY L hs1 G1 (by show lo+k-1<_;omega) (by show lo+k<_;omega) λx' y' hx' hy'=>?_)
   rw [hx] at hx';cases hx'
   rw [hy] at hy';cases hy'
   dsimp only
   split
   ·refine wpS_pure ?_
    dsimp only
    exact fin k neq st1 ah k1 k2 k3 k4 k5
   ·rename_i hb2
    have hyx:kle b y x:=Bool.eq_false_iff.mpr hb2
    refine wpS_pure ⟨ah,neq+1,rfl,by omega,by omega,Zbw W k3 (by omega) hx hy hyx,by omega,λi j u v i1 i2 i3 i4 e1 e2=>?_⟩
    have toX:∀ i u,lo+k-(neq+1)<=i->i<lo+(k+1)->(arrOf st1)[i]?=some u->kle b u x/\kle b x u:=λi u p1 p2 e=>by
     by_cases hi:i<lo+k
     ·exact ⟨k5 i (lo+k-1) u x p1 hi (by omega) (by omega) e hx,k5 (lo+k-1) i x u (by omega) (by omega) p1 hi hx e⟩
     ·have:i=lo+k:=by omega
      subst this
      rw [hy] at e;cases e
      exact ⟨hyx,hxy⟩
    exact W.le_trans (toX i u (by omega) i2 e1).1 (toX j v (by omega) i4 e2).2
 ·rintro r st1 ⟨ah,neq,rfl,k1,k2,k3,k4,k5⟩
  dsimp only
  rw [Nat.max_eq_right h2] at *
  exact fin nrem neq st1 ah k1 k2 k3 k4 k5
theorem Zdo (W:WO b) (L:Zch M A E s kd b good) {st:SortSt} {lo nrem:Nat} {Q:Option Nat->SortSt->Prop} (hs:kindOf st=kd) (G:AllG good (arrOf st)) (hn:lo+nrem<=(arrOf st).size) (h1:1<=nrem)
  (q:Zli b lo nrem st Q):wpS M A E s (countRun' lo nrem) Q st:=by
 rw [Zes]
 refine wpS_bind (Zgo W L hs G hn (Nat.le_refl _) h1 (Ziz _ W _) λn k1 k2 k3 k4=>?_)
 dsimp only
 split
 ·exact wpS_pure (q n st (Ah.refl _ _) k1 k2 k3)
 ·rename_i e
  have e:n≠nrem:=λz=>e (beq_iff_eq.mpr z)
  obtain ⟨x,y,hx,hy,hb⟩:=k4.resolve_left e
  have hyx:=W.le_of_lt hb
  split
  ·rename_i e1
   refine wpS_bind (ZbY L hs G (by omega) (by omega) λu v hu hv=>?_)
   rw [hx] at hv;cases hv
   dsimp only
   split
   ·exact wpS_pure (q n st (Ah.refl _ _) k1 k2 k3)
   ·rename_i hb2
    have hxu:kle b x u:=Bool.eq_false_iff.mpr hb2
    have al:Zgp b (arrOf st) lo (lo+n):=λi j p r i1 i2 i3 i4 e1 e2=>
     W.le_trans (k3 i (lo+n-1) p x i1 (by omega) (by omega) e1 hx) (W.le_trans hxu (k3 lo j u r (Nat.le_refl _) i3 i4 hu e2))
    have ni:ZgO b (arrOf st) lo (lo+n):=λi j p r i1 i2 i3 e1 e2=>al j i r p (by omega) i3 i1 (by omega) e2 e1
    rw [reverseSlice'_eq]
    refine wpS_bind (wpS_modify ?_)
    have ah:=ZbZ (st:=st) (lo:=lo) (i:=lo) (j:=lo+n) (Nat.le_refl _) (by omega)
    have r:=ZbP (arr:=arrOf st) (lo:=lo) (hi:=lo+n) (i:=lo) (j:=lo+n) (by omega) (Nat.le_refl _) (by omega) (Nat.le_refl _) al ni
    have e3:(mirror (arrOf st) lo (lo+n) ((lo+n-lo) / 2))[lo+n]?=some y:=by rw [getElem?_mirror_all (by omega),if_neg (by omega)];exact hy
    have e4:(mirror (arrOf st) lo (lo+n) ((lo+n-lo) / 2))[lo+n-1]?=some u:=by
     rw [getElem?_mirror_all (by omega),if_pos (by omega),<-hu]
     congr 1
     omega
    generalize hst:setArr st (mirror (arrOf st) lo (lo+n) ((lo+n-lo) / 2))=st2 at ah
    have e1:arrOf st2=mirror (arrOf st) lo (lo+n) ((lo+n-lo) / 2):=by rw [<-hst]
    rw [<-e1] at r e3 e4
    exact ZdZ W L (ah.kd.trans hs) (G.perm ah.pm) (by rw [ah.size];exact hn) (by omega) (Zbw W r (by omega) e4 e3 (W.le_trans hyx hxu)) λm' st' a'=>q m' st' (ah.trans a')
  ·have:n=1:=by omega
   subst this
   refine ZdZ W L hs G hn (by omega) (Zbw W (λi j p r i1 i2 i3 e1 e2=>?_) (by omega) hx hy hyx) q
   have:i=j:=by omega
   subst this
   rw [e1] at e2;cases e2
   exact W.le_refl _
end
end L2
namespace L2
open PySem PySem.Spec PyProof.Rows
section
variable {M:Model} {A:Around} {E:Value->Shared->Prop} {s:Shared} {kd:SortKind} {b:Keyed->Keyed->Bool} {good:Keyed->Prop}
theorem Zfg (W:WO b) {arr:Array Keyed} {lo k l:Nat} {p:Keyed} (hk:lo+k<arr.size) (hl:l<=k) (h:Rng b arr lo (lo+k)) (hp:arr[lo+k]?=some p) (h1:∀ i x,i<l->arr[lo+i]?=some x->kle b x p) (h2:∀ i x,l<=i->i<k->arr[lo+i]?=some x->kle b p x) :
  Rng b (bubble arr (lo+k) (lo+k-(lo+l))) lo (lo+(k+1)):=by
 have e0:lo+k-(lo+k-(lo+l))=lo+l:=by omega
 have at_:∀ q,(bubble arr (lo+k) (lo+k-(lo+l)))[q]?=if q=lo+l then some p else if lo+l<q/\q<=lo+k then arr[q-1]? else arr[q]?:=λq=>by
  rw [getElem?_bubble hk _ (by omega),e0,hp]
 intro i j x y i1 i2 i3 e1 e2
 rw [at_] at e1 e2
 have low:∀ q z,lo<=q->q<lo+l->arr[q]?=some z->kle b z p:=λq z q1 q2 e=>h1 (q-lo) z (by omega) (by rw [Nat.add_sub_cancel' q1];exact e)
 have high:∀ q z,lo+l<=q->q<lo+k->arr[q]?=some z->kle b p z:=λq z q1 q2 e=>h2 (q-lo) z (by omega) (by omega) (by rw [Nat.add_sub_cancel' (by omega)];exact e)
 by_cases ci:i=lo+l
 ·rw [if_pos ci] at e1
  cases e1
  by_cases cj:j=lo+l
  ·rw [if_pos cj] at e2
   cases e2
   exact W.le_refl _
  ·rw [if_neg cj,if_pos (by omega)] at e2
   exact high (j-1) y (by omega) (by omega) e2
 ·rw [if_neg ci] at e1
  by_cases di:lo+l<i/\i<=lo+k
  ·rw [if_pos di] at e1
   rw [if_neg (by omega),if_pos (by omega)] at e2
   exact h (i-1) (j-1) x y (by omega) (by omega) (by omega) e1 e2
  ·rw [if_neg di] at e1
   by_cases cj:j=lo+l
   ·rw [if_pos cj] at e2
    cases e2
    exact low i x i1 (by omega) e1
   ·rw [if_neg cj] at e2
    by_cases dj:lo+l<j/\j<=lo+k
    ·rw [if_pos dj] at e2
     exact h i (j-1) x y i1 (by omega) (by omega) e1 e2
    ·rw [if_neg dj] at e2
     exact h i j x y i1 i2 (by omega) e1 e2
theorem Zgq {st:SortSt} {lo src d:Nat} (h1:src<(arrOf st).size) (h2:d<=src) (h3:lo<=src-d):Ah lo st (setArr st (bubble (arrOf st) src d)):=by
 refine ⟨rfl,rfl,rfl,bubble_perm _ _ _,λk hk=>?_⟩
 show (bubble (arrOf st) src d)[k]?=_
 rw [getElem?_bubble h1 _ h2,if_neg (by omega),if_neg (by omega)]
theorem Zfh (W:WO b) (L:Zch M A E s kd b good) {st:SortSt} {lo n ok:Nat} {Q:Bool->SortSt->Prop} (hs:kindOf st=kd) (G:AllG good (arrOf st)) (hn:lo+n<=(arrOf st).size) (h1:1<=ok) (h2:ok<=n) (h3:Rng b (arrOf st) lo (lo+ok))
  (q:∀ st',Ah lo st st'->Rng b (arrOf st') lo (lo+n)->Q true st'):wpS M A E s (binarySort' lo n ok) Q st:=by
 rw [binarySort'_eq,Nat.max_eq_left h1]
 refine wpS_bind (wpS_forRange (λk r st1=>Ah lo st st1/\r=(none,())/\ok<=k/\k<=n/\Rng b (arrOf st1) lo (lo+k)) ?_ ?_ ⟨Ah.refl _ _,rfl,Nat.le_refl _,h2,h3⟩)
 ·rintro k r st1 _ hk ⟨ah,rfl,k1,k2,k3⟩
  have G1:=G.perm ah.pm
  have hn1:lo+n<=(arrOf st1).size:=by rw [ah.size];exact hn
  have hs1:=ah.kd.trans hs
  obtain ⟨p,hp,gp⟩:=G1.at (i:=lo+k) (by omega)
  have fin:∀ l,l<=k->(∀ i x,i<l->(arrOf st1)[lo+i]?=some x->kle b x p)->(∀ i x,l<=i->i<k->(arrOf st1)[lo+i]?=some x->kle b p x) ->
    wpS M A E s (do moveDown' (lo+k) (lo+l);pure (ForInStep.yield ((none,()):Option Bool×Unit))) (λr st'=>match r with
     | .done c'=>False
     | .yield c'=>Ah lo st st'/\c'=(none,())/\ok<=k+1/\k+1<=n/\Rng b (arrOf st') lo (lo+(k+1))) st1:=by
   intro l hl g1 g2
   rw [moveDown'_eq]
   refine wpS_bind (wpS_modify ?_)
   have ah2:=Zgq (st:=st1) (lo:=lo) (src:=lo+k) (d:=lo+k-(lo+l)) (by omega) (by omega) (by omega)
   exact wpS_pure ⟨ah.trans ah2,rfl,by omega,by omega,Zfg W (by omega) hl k3 hp g1 g2⟩
  dsimp only
  refine wpS_bind (wpS_forRange (λi c st'=>st'=st1/\∃ l r,c=(none,l,r)/\l<=r/\r<=k/\r-l<=k-i/\(∀ i x,i<l->(arrOf st1)[lo+i]?=some x->kle b x p)/\(∀ i x,r<=i->i<k->(arrOf st1)[lo+i]?=some x->kle b p x)) ?_ ?_ ⟨rfl,0,k,rfl,by omega,by omega,by omega,λi x hi=>by omega,λi x h1 h2=>by omega⟩)
  ·rintro i c st' _ hi ⟨rfl,l,r,rfl,g1,g2,g3,g4,g5⟩
   dsimp only
   split
   ·have:l=r:=by omega
    subst this
    refine wpS_pure ?_
    dsimp only
    exact wpS_mono (fin l g2 g4 g5) λr st' hr=>by
     cases r with
     | done z=>exact False.elim hr
     | yield z=>exact hr
   ·refine wpS_bind (ZbY L hs1 G1 (by omega) (by omega) λp' m hp' hm=>?_)
    rw [hp] at hp';cases hp'
    dsimp only
    split
    ·rename_i hb
     refine wpS_pure ⟨rfl,_,_,rfl,by omega,by omega,by omega,g4,λj x j1 j2 e=>?_⟩
     exact W.le_trans (W.le_of_lt hb) (k3 _ (lo+j) m x (by omega) (by omega) (by omega) hm e)
    ·rename_i hb
     refine wpS_pure ⟨rfl,_,_,rfl,by omega,by omega,by omega,λj x j1 e=>?_,g5⟩
     exact W.le_trans (k3 (lo+j) _ x m (by omega) (by omega) (by omega) e hm) (Bool.eq_false_iff.mpr hb)
  ·rintro c st' ⟨rfl,l,r,rfl,g1,g2,g3,g4,g5⟩
   have:l=r:=by simp at g3;omega
   subst this
   dsimp only
   exact wpS_mono (fin l g2 g4 g5) λr st' hr=>by
     cases r with
     | done z=>exact False.elim hr
     | yield z=>exact hr
 ·rintro r st1 ⟨ah,rfl,k1,k2,k3⟩
  dsimp only
  rw [Nat.max_eq_right h2] at k3
  exact wpS_pure (q st1 ah k3)
end
end L2
namespace L2
open PySem PySem.Spec PyProof.Rows
def Zb0 (arr:Array Keyed) (base:Nat) (l:List Keyed):Array Keyed:=List.foldl (λa (x:Keyed×Nat)=>a.setIfInBounds (base+x.2) x.1) arr l.zipIdx
def Zhg (sa:Nat) (merged:Array Keyed):StateT SortSt Sem Bool:=do
 modify λs=>setArr s (Zb0 (arrOf s) sa merged.toList)
 let s <- get
 pure (failedOf s).isNone
def ZjL (st:SortSt) (sa na sb nb:Nat):StateT SortSt Sem Bool:=(if (nb == 0)=true then pure true else (if na<=nb then (do
  let m <- Zdi ((arrOf st).extract sa sb) ((arrOf st).extract sb (sb+nb))
  Zhg sa m) else (do
  let m <- Zdj ((arrOf st).extract sa sb) ((arrOf st).extract sb (sb+nb))
  Zhg sa m)))
def ZjM (st:SortSt) (sa na sb nb:Nat):StateT SortSt Sem Bool:=(if (na == 0)=true then pure true else (do
  let y <- elem' (arrOf st) (sa+na-1)
  match <- Zbv true y (arrOf st) sb nb (nb-1) with
  | some nb=>ZjL st sa na sb nb
  | _=>pure false))
theorem Zet (i:Nat):mergeAt' i=(do
  let st <- get
  match (pendingOf st)[i]?,(pendingOf st)[i+1]? with
  | some (sa,na,power),some (sb,nb,_)=>do
   set (setPending st (((pendingOf st).setIfInBounds i (sa,na+nb,power)).eraseIdxIfInBounds (i+1)))
   let x <- elem' (arrOf st) sb
   match <- Zbv false x (arrOf st) sa na 0 with
   | some k=>ZjM st (sa+k) (na-k) sb nb
   | _=>pure false
  | _,_=>liftM (unsupported "internal:list.sort.pending")):=by
 refine ZaY (m:=get) λst=>?_
 cases (pendingOf st)[i]? with
 | none=>rfl
 | some p=>
  cases (pendingOf st)[i+1]? with
  | none=>rfl
  | some q=>
   obtain ⟨sa,na,pw⟩:=p
   obtain ⟨sb,nb,pw'⟩:=q
   rfl
end L2
namespace L2
open PySem PySem.Spec PyProof.Rows
theorem ZhG:∀ (l:List Keyed) (arr:Array Keyed) (base n i:Nat),base+n+l.length<=arr.size ->
  (List.foldl (λa (x:Keyed×Nat)=>a.setIfInBounds (base+x.2) x.1) arr (l.zipIdx n))[i]?=if base+n<=i/\i<base+n+l.length then l[i-(base+n)]? else arr[i]?
 | [],arr,base,n,i,_=>by
  rw [if_neg (by simp)]
  rfl
 | x::l,arr,base,n,i,h=>by
  rw [List.zipIdx_cons,List.foldl_cons]
  rw [List.length_cons] at h
  have ih:=ZhG l (arr.setIfInBounds (base+n) x) base (n+1) i (by rw [Array.size_setIfInBounds];omega)
  refine ih.trans ?_
  rw [List.length_cons]
  by_cases h1:base+(n+1)<=i/\i<base+(n+1)+l.length
  ·rw [if_pos h1,if_pos (by omega)]
   rw [show i-(base+n)=(i-(base+(n+1)))+1 by omega,List.getElem?_cons_succ]
  ·rw [if_neg h1,Array.getElem?_setIfInBounds]
   by_cases h2:base+n=i
   ·subst h2
    rw [if_pos rfl,if_pos (by omega),if_pos (by omega),Nat.sub_self]
    rfl
   ·rw [if_neg h2,if_neg (by omega)]
theorem ZhH {arr:Array Keyed} {base:Nat} {l:List Keyed} (h:base+l.length<=arr.size) (i:Nat):(Zb0 arr base l)[i]?=if base<=i/\i<base+l.length then l[i-base]? else arr[i]?:=ZhG l arr base 0 i h
theorem Zhh {arr:Array Keyed} {base:Nat} {l:List Keyed} (h:base+l.length<=arr.size) (p:l.Perm ((arr.toList.drop base).take l.length)):(Zb0 arr base l).Perm arr:=by
 have e:(Zb0 arr base l).toList=arr.toList.take base++l++arr.toList.drop (base+l.length):=by
  refine List.ext_getElem? λi=>?_
  have hl:arr.toList.length=arr.size:=Array.length_toList
  rw [Array.getElem?_toList,ZhH h]
  rw [List.append_assoc,List.getElem?_append,List.length_take,hl,Nat.min_eq_left (by omega)]
  by_cases h1:i<base
  ·rw [if_neg (by omega),if_pos h1,List.getElem?_take,if_pos h1,Array.getElem?_toList]
  ·rw [if_neg h1,List.getElem?_append]
   by_cases h2:i<base+l.length
   ·rw [if_pos (by omega),if_pos (by omega)]
   ·rw [if_neg (by omega),if_neg (by omega),List.getElem?_drop,Array.getElem?_toList]
    congr 1
    omega
 have e2:arr.toList=arr.toList.take base++(arr.toList.drop base).take l.length++arr.toList.drop (base+l.length):=by
  rw [List.append_assoc,<-List.drop_drop,List.take_append_drop,List.take_append_drop]
 rw [Array.perm_iff_toList_perm,e]
 exact ((List.Perm.append_left _ p).append_right _).trans (.of_eq e2.symm)
section
variable {M:Model} {A:Around} {E:Value->Shared->Prop} {s:Shared} {kd:SortKind} {b:Keyed->Keyed->Bool} {good:Keyed->Prop}
theorem Zcq {arr:Array Keyed} {lo mid hi:Nat} (h1:Rng b arr lo mid) (h2:Rng b arr mid hi) (h3:∀ i j x y,lo<=i->i<mid->mid<=j->j<hi->arr[i]?=some x->arr[j]?=some y->kle b x y):Rng b arr lo hi:=λi j x y i1 i2 i3 e1 e2=>by
 by_cases c1:j<mid
 ·exact h1 i j x y i1 i2 c1 e1 e2
 ·by_cases c2:i<mid
  ·exact h3 i j x y i1 c2 (by omega) i3 e1 e2
  ·exact h2 i j x y (by omega) i2 i3 e1 e2
theorem ZhI {arr:Array Keyed} {lo hi:Nat} (hh:hi<=arr.size) (h:Rng b arr lo hi):(arr.extract lo hi).toList.Pairwise (kle b):=by
 rw [List.pairwise_iff_getElem]
 intro i j hi' hj' hij
 have sz:(arr.extract lo hi).toList.length=hi-lo:=by rw [Array.length_toList,Array.size_extract,Nat.min_eq_left hh]
 refine h (lo+i) (lo+j) _ _ (by omega) (by omega) (by omega) ?_ ?_
 ·simp [Array.getElem_extract]
 ·simp [Array.getElem_extract]
end
end L2
namespace L2
open PySem PySem.Spec PyProof.Rows
section
variable {M:Model} {A:Around} {E:Value->Shared->Prop} {s:Shared} {kd:SortKind} {b:Keyed->Keyed->Bool} {good:Keyed->Prop}
def MgQ (b:Keyed->Keyed->Bool) (st:SortSt) (lo hi:Nat) (Q:Bool->SortSt->Prop):Prop:=∀ st',kindOf st'=kindOf st->pendingOf st'=pendingOf st->failedOf st'=failedOf st->(arrOf st').Perm (arrOf st) ->
 (∀ i,i<lo\/hi<=i->(arrOf st')[i]?=(arrOf st)[i]?)->Rng b (arrOf st') lo hi->Q true st'
structure GalF (b:Keyed->Keyed->Bool) (arr:Array Keyed) (sa k sb nb hi:Nat):Prop where
 k0:sa<=k
 k1:k<sb
 n0:0<nb
 n1:sb+nb<=hi
 ra:Rng b arr sa sb
 rb:Rng b arr sb hi
 lowA:∀ i x y,sa<=i->i<k->arr[i]?=some x->arr[sb]?=some y->kle b x y
 highA:∀ i x y,k<=i->i<sb->arr[i]?=some x->arr[sb]?=some y->kle b y x
 lowB:∀ i x y,sb<=i->i<sb+nb->arr[i]?=some x->arr[sb-1]?=some y->kle b x y
 highB:∀ i x y,sb+nb<=i->i<hi->arr[i]?=some x->arr[sb-1]?=some y->kle b y x
theorem GalF.two {arr:Array Keyed} {sa k sb nb hi:Nat} (F:GalF b arr sa k sb nb hi) (hh:hi<=arr.size) (G:AllG good arr):Two b good (arr.extract k sb) (arr.extract sb (sb+nb)):=by
 have h0:=F.k0;have h1:=F.k1;have h2:=F.n0;have h3:=F.n1
 have memG:∀ {i j x},x∈(arr.extract i j).toList->good x:=λ{i j x} hx=>by
  obtain ⟨q,_,_,e⟩:=Zeq hx
  rw [<-Array.getElem?_toList] at e
  exact G x (List.mem_of_getElem? e)
 refine ⟨λx=>memG,λx=>memG,ZhI (by omega) λi j x y i1 i2 i3=>F.ra i j x y (by omega) i2 i3,ZhI (by omega) λi j x y i1 i2 i3=>F.rb i j x y i1 i2 (by omega),by rw [Array.size_extract];omega,by rw [Array.size_extract];omega,λx hx y hy=>?_,λz hz y hy=>?_⟩
 ·have hx:arr[sb]?=some x:=by
   rw [Array.getElem?_extract,if_pos (by omega)] at hx
   exact hx
  obtain ⟨q,q1,q2,e⟩:=Zeq hy
  exact F.highA q y x q1 q2 e hx
 ·have hz:arr[sb-1]?=some z:=by
   rw [Array.size_extract,Array.getElem?_extract,if_pos (by omega)] at hz
   rw [<-hz]
   congr 1
   omega
  obtain ⟨q,q1,q2,e⟩:=Zeq hy
  exact F.lowB q y z q1 (by omega) e hz
theorem GalF.fin (W:WO b) {st:SortSt} {sa k sb nb hi:Nat} {Q:Bool->SortSt->Prop} (F:GalF b (arrOf st) sa k sb nb hi) (hh:hi<=(arrOf st).size) (q:MgQ b st sa hi Q) (hf:failedOf st=none) {m:Array Keyed} {st1:SortSt} (sg:SameG st st1)
  (hm:Za1 b (((arrOf st).extract k sb).toList++((arrOf st).extract sb (sb+nb)).toList) m.toList):wpS M A E s (Zhg k m) Q st1:=by
 have h0:=F.k0;have h1:=F.k1;have h2:=F.n0;have h3:=F.n1
 unfold Zhg
 refine wpS_bind (wpS_modify (wpS_bind (wpS_get (wpS_pure ?_))))
 show Q (failedOf st1).isNone _
 rw [sg.2.2.2,hf]
 have hl:m.toList.length=sb+nb-k:=by
  have:=hm.1.length_eq
  rw [List.length_append,Array.length_toList,Array.length_toList,Array.length_toList,Array.size_extract,Array.size_extract] at this
  rw [Array.length_toList]
  omega
 have hb:k+m.toList.length<=(arrOf st).size:=by omega
 have e1:((arrOf st).toList.drop k).take m.toList.length=((arrOf st).extract k sb).toList++((arrOf st).extract sb (sb+nb)).toList:=by
  have x1:((arrOf st).extract k (sb+nb)).toList=((arrOf st).toList.drop k).take m.toList.length:=by
   rw [hl,Array.toList_extract,List.extract_eq_take_drop]
  rw [<-x1,<-Array.toList_append,Array.extract_append_extract]
  congr 2 <;> omega
 have at_:=ZhH (arr:=arrOf st) (base:=k) (l:=m.toList) hb
 have mem:∀ i x,k<=i->i<sb+nb->(Zb0 (arrOf st) k m.toList)[i]?=some x->(∃ j,k<=j/\j<sb/\(arrOf st)[j]?=some x)\/(∃ j,sb<=j/\j<sb+nb/\(arrOf st)[j]?=some x):=λi x i1 i2 e=>by
  rw [at_,if_pos (by omega)] at e
  have hx:=hm.1.mem_iff.mp (List.mem_of_getElem? e)
  rcases List.mem_append.mp hx with hx | hx
  ·exact .inl (Zeq hx)
  ·exact .inr (Zeq hx)
 obtain ⟨b0,hb0⟩:∃ x,(arrOf st)[sb]?=some x:=⟨_,Array.getElem?_eq_getElem (by omega)⟩
 obtain ⟨aL,haL⟩:∃ x,(arrOf st)[sb-1]?=some x:=⟨_,Array.getElem?_eq_getElem (by omega)⟩
 refine q _ sg.1 sg.2.2.1 ?_ ?_ (λi hi'=>?_) ?_
 ·show failedOf st1=failedOf st
  exact sg.2.2.2
 ·show (Zb0 (arrOf st1) k m.toList).Perm (arrOf st)
  rw [sg.2.1]
  exact Zhh hb (hm.1.trans (.of_eq e1.symm))
 ·show (Zb0 (arrOf st1) k m.toList)[i]?=_
  rw [sg.2.1,at_,if_neg (by omega)]
 ·show Rng b (Zb0 (arrOf st1) k m.toList) sa hi
  rw [sg.2.1]
  have old:∀ i,i<k\/sb+nb<=i->(Zb0 (arrOf st) k m.toList)[i]?=(arrOf st)[i]?:=λi hi'=>by rw [at_,if_neg (by omega)]
  refine Zcq (mid:=k) (λi j x y i1 i2 i3 e1 e2=>?_) (Zcq (mid:=sb+nb) (λi j x y i1 i2 i3 e1 e2=>?_) (λi j x y i1 i2 i3 e1 e2=>?_) (λi j x y i1 i2 i3 i4 e1 e2=>?_)) (λi j x y i1 i2 i3 i4 e1 e2=>?_)
  ·rw [old i (by omega)] at e1
   rw [old j (by omega)] at e2
   exact F.ra i j x y i1 i2 (by omega) e1 e2
  ·rw [at_,if_pos (by omega)] at e1 e2
   exact Zg8 W hm.2 (by omega) e1 e2
  ·rw [old i (by omega)] at e1
   rw [old j (by omega)] at e2
   exact F.rb i j x y (by omega) i2 i3 e1 e2
  ·rw [old j (by omega)] at e2
   rcases mem i x i1 i2 e1 with ⟨p,p1,p2,e⟩ | ⟨p,p1,p2,e⟩
   ·exact W.le_trans (F.ra p (sb-1) x aL (by omega) (by omega) (by omega) e haL) (F.highB j y aL i3 i4 e2 haL)
   ·exact F.rb p j x y p1 (by omega) i4 e e2
  ·rw [old i (by omega)] at e1
   have xb:=F.lowA i x b0 i1 i2 e1 hb0
   by_cases cj:j<sb+nb
   ·rcases mem j y i3 cj e2 with ⟨p,p1,p2,e⟩ | ⟨p,p1,p2,e⟩
    ·exact F.ra i p x y i1 (by omega) p2 e1 e
    ·exact W.le_trans xb (F.rb sb p b0 y (Nat.le_refl _) p1 (by omega) hb0 e)
   ·rw [old j (by omega)] at e2
    exact W.le_trans xb (F.rb sb j b0 y (Nat.le_refl _) (by omega) i4 hb0 e2)
theorem Zeu (W:WO b) (L:Zch M A E s kd b good) {st:SortSt} {i sa na sb nb pw pw':Nat} {Q:Bool->SortSt->Prop} (hs:kindOf st=kd) (hf:failedOf st=none) (G:AllG good (arrOf st)) (p1:(pendingOf st)[i]?=some (sa,na,pw)) (p2:(pendingOf st)[i+1]?=some (sb,nb,pw'))
  (e:sb=sa+na) (hna:0<na) (hnb:0<nb) (hh:sb+nb<=(arrOf st).size) (ra:Rng b (arrOf st) sa sb) (rb:Rng b (arrOf st) sb (sb+nb))
  (q:MgQ b (setPending st (((pendingOf st).setIfInBounds i (sa,na+nb,pw)).eraseIdxIfInBounds (i+1))) sa (sb+nb) Q):wpS M A E s (mergeAt' i) Q st:=by
 subst e
 rw [Zet]
 refine wpS_bind (wpS_get ?_)
 rw [p1,p2]
 dsimp only
 refine wpS_bind ?_
 show wpS M A E s (set _) _ st
 refine (show wpS M A E s (modify λ_=>setPending st (((pendingOf st).setIfInBounds i (sa,na+nb,pw)).eraseIdxIfInBounds (i+1))) _ st from wpS_modify ?_)
 generalize hst:setPending st (((pendingOf st).setIfInBounds i (sa,na+nb,pw)).eraseIdxIfInBounds (i+1))=st1 at q
 have ea:arrOf st1=arrOf st:=by rw [<-hst]
 have ek:kindOf st1=kd:=by rw [<-hst];exact hs
 have ef:failedOf st1=none:=by rw [<-hst];exact hf
 rw [<-ea] at G hh ra rb ⊢
 obtain ⟨b0,hb0,gb0⟩:=G.at (i:=sa+na) (by omega)
 obtain ⟨aL,haL,gaL⟩:=G.at (i:=sa+na-1) (by omega)
 refine wpS_bind (Zau hb0 ?_)
 have G1:Gal b good false b0 (arrOf st1) sa na:=ZcZ W gb0 (λi hi=>G.at (by omega)) ra
 refine wpS_bind (Za3 L G1 ek hna λk hk k1 k2=>?_)
 have lowA:∀ i x y,sa<=i->i<sa+k->(arrOf st1)[i]?=some x->(arrOf st1)[sa+na]?=some y->kle b x y:=λi x y i1 i2 e1 e2=>by
  rw [hb0] at e2;cases e2
  have:=k1 (i-sa) (by omega)
  unfold byd at this
  rw [Nat.add_sub_cancel' i1,e1] at this
  dsimp only at this
  rw [if_neg Bool.false_ne_true,Bool.not_eq_true'] at this
  exact this
 have highA:∀ i x y,sa+k<=i->i<sa+na->(arrOf st1)[i]?=some x->(arrOf st1)[sa+na]?=some y->kle b y x:=λi x y i1 i2 e1 e2=>by
  rw [hb0] at e2;cases e2
  have:=k2 (i-sa) (by omega) (by omega)
  unfold byd at this
  rw [Nat.add_sub_cancel' (by omega),e1] at this
  dsimp only at this
  rw [if_neg Bool.false_ne_true,Bool.not_eq_false'] at this
  exact W.le_of_lt this
 dsimp only
 unfold ZjM
 rw [show arrOf st=arrOf st1 from ea.symm]
 split
 ·rename_i e0
  have e0:na-k=0:=eq_of_beq e0
  refine wpS_pure (q st1 rfl rfl rfl (.refl _) (λ_ _=>rfl) (Zcq ra rb λi j x y i1 i2 i3 i4 e1 e2=>?_))
  exact W.le_trans (lowA i x b0 i1 (by omega) e1 hb0) (rb (sa+na) j b0 y (Nat.le_refl _) i3 i4 hb0 e2)
 ·rename_i e0
  have e0:na-k≠0:=λz=>e0 (beq_iff_eq.mpr z)
  refine wpS_bind (Zau (show (arrOf st1)[sa+k+(na-k)-1]?=some aL by rw [<-haL];congr 1;omega) ?_)
  have G2:Gal b good true aL (arrOf st1) (sa+na) nb:=ZcZ W gaL (λi hi=>G.at (by omega)) rb
  refine wpS_bind (Za3 L G2 ek (by omega) λnb' hk' k1' k2'=>?_)
  have lowB:∀ i x y,sa+na<=i->i<sa+na+nb'->(arrOf st1)[i]?=some x->(arrOf st1)[sa+na-1]?=some y->kle b x y:=λi x y i1 i2 e1 e2=>by
   rw [haL] at e2;cases e2
   have:=k1' (i-(sa+na)) (by omega)
   unfold byd at this
   rw [Nat.add_sub_cancel' i1,e1] at this
   dsimp only at this
   rw [if_pos rfl] at this
   exact W.le_of_lt this
  have highB:∀ i x y,sa+na+nb'<=i->i<sa+na+nb->(arrOf st1)[i]?=some x->(arrOf st1)[sa+na-1]?=some y->kle b y x:=λi x y i1 i2 e1 e2=>by
   rw [haL] at e2;cases e2
   have:=k2' (i-(sa+na)) (by omega) (by omega)
   unfold byd at this
   rw [Nat.add_sub_cancel' (by omega),e1] at this
   dsimp only at this
   rw [if_pos rfl] at this
   exact this
  dsimp only
  unfold ZjL
  split
  ·rename_i e1
   have e1:nb'=0:=eq_of_beq e1
   refine wpS_pure (q st1 rfl rfl rfl (.refl _) (λ_ _=>rfl) (Zcq ra rb λi j x y i1 i2 i3 i4 f1 f2=>?_))
   exact W.le_trans (ra i (sa+na-1) x aL i1 (by omega) (by omega) f1 haL) (highB j y aL (by omega) i4 f2 haL)
  ·rename_i e1
   have e1:nb'≠0:=λz=>e1 (beq_iff_eq.mpr z)
   have F:GalF b (arrOf st1) sa (sa+k) (sa+na) nb' (sa+na+nb):=⟨by omega,by omega,by omega,by omega,ra,rb,lowA,highA,lowB,highB⟩
   have T:=F.two hh G
   split
   ·refine wpS_bind ?_
    rw [show arrOf st=arrOf st1 from ea.symm]
    exact Zeo W L T ek λr st' sg m=>F.fin W hh q ef sg m
   ·refine wpS_bind ?_
    rw [show arrOf st=arrOf st1 from ea.symm]
    exact Zer W L T ek λr st' sg m=>F.fin W hh q ef sg m
end
end L2
namespace L2
open PySem PySem.Spec PyProof.Rows
def Runs (b:Keyed->Keyed->Bool) (arr:Array Keyed):Nat->List (Nat×Nat×Nat)->Nat->Prop
 | s,[],e=>s=e
 | s,x::rest,e=>x.1=s/\0<x.2.1/\Rng b arr s (s+x.2.1)/\Runs b arr (s+x.2.1) rest e
section
variable {b:Keyed->Keyed->Bool} {arr arr':Array Keyed}
theorem Runs.le:∀ {p:List (Nat×Nat×Nat)} {s e:Nat},Runs b arr s p e->s+p.length<=e
 | [],s,e,h=>by have h:s=e:=h;simp [h]
 | x::p,s,e,h=>by
  have:=Runs.le h.2.2.2
  have:=h.2.1
  rw [List.length_cons]
  omega
theorem Runs.app:∀ {u v:List (Nat×Nat×Nat)} {s e:Nat},Runs b arr s (u++v) e↔∃ m,Runs b arr s u m/\Runs b arr m v e
 | [],v,s,e=>⟨λh=>⟨s,rfl,h⟩,λ⟨m,h1,h2⟩=>by have h1:s=m:=h1;rw [h1];exact h2⟩
 | x::u,v,s,e=>by
  constructor
  ·rintro ⟨h1,h2,h3,h4⟩
   obtain ⟨m,k1,k2⟩:=Runs.app.mp h4
   exact ⟨m,⟨h1,h2,h3,k1⟩,k2⟩
  ·rintro ⟨m,⟨h1,h2,h3,k1⟩,k2⟩
   exact ⟨h1,h2,h3,Runs.app.mpr ⟨m,k1,k2⟩⟩
theorem Runs.keep:∀ {p:List (Nat×Nat×Nat)} {s e:Nat},Runs b arr s p e->(∀ i,s<=i->i<e->arr'[i]?=arr[i]?)->Runs b arr' s p e
 | [],_,_,h,_=>h
 | x::p,s,e,h,k=>by
  have:=Runs.le h.2.2.2
  refine ⟨h.1,h.2.1,λi j u v i1 i2 i3 e1 e2=>?_,Runs.keep h.2.2.2 λi i1 i2=>k i (by omega) i2⟩
  rw [k i i1 (by omega)] at e1
  rw [k j (by omega) (by omega)] at e2
  exact h.2.2.1 i j u v i1 i2 i3 e1 e2
theorem Runs.push {p:List (Nat×Nat×Nat)} {s lo n pw:Nat} (h:Runs b arr s p lo) (hn:0<n) (hr:Rng b arr lo (lo+n)):Runs b arr s (p++[(lo,n,pw)]) (lo+n):=
 Runs.app.mpr ⟨lo,h,rfl,hn,hr,rfl⟩
theorem Runs.two {p:List (Nat×Nat×Nat)} {i e sa na pw sb nb pw':Nat} (h:Runs b arr 0 p e) (h1:p[i]?=some (sa,na,pw)) (h2:p[i+1]?=some (sb,nb,pw')) :
  sb=sa+na/\0<na/\0<nb/\sb+nb<=e/\Rng b arr sa sb/\Rng b arr sb (sb+nb) /\
   ((∀ i,i<sa\/sb+nb<=i->arr'[i]?=arr[i]?)->Rng b arr' sa (sb+nb)->Runs b arr' 0 ((p.set i (sa,na+nb,pw)).eraseIdx (i+1)) e):=by
 obtain ⟨l1,e1⟩:=List.getElem?_eq_some_iff.mp h1
 obtain ⟨l2,e2⟩:=List.getElem?_eq_some_iff.mp h2
 have d:p=p.take i++(sa,na,pw)::(sb,nb,pw')::p.drop (i+2):=by
  conv=>lhs;rw [<-List.take_append_drop i p,List.drop_eq_getElem_cons l1,e1,List.drop_eq_getElem_cons l2,e2]
 have hl:(p.take i).length=i:=by rw [List.length_take];omega
 generalize p.take i=u at d hl
 generalize p.drop (i+2)=v at d
 subst d
 obtain ⟨m,k1,k2,k3,k4,k5,k6,k7,k8⟩:=Runs.app.mp h
 have k2:sa=m:=k2
 have k3:0<na:=k3
 have k5:sb=m+na:=k5
 have k6:0<nb:=k6
 have k4:Rng b arr m (m+na):=k4
 have k7:Rng b arr (m+na) (m+na+nb):=k7
 have k8:Runs b arr (m+na+nb) v e:=k8
 subst k2 k5
 have k9:sa+na+nb+v.length<=e:=k8.le
 refine ⟨rfl,k3,k6,by omega,k4,k7,λho hr=>?_⟩
 have es:((u++(sa,na,pw)::(sa+na,nb,pw')::v).set i (sa,na+nb,pw)).eraseIdx (i+1)=u++(sa,na+nb,pw)::v:=by
  rw [List.set_append,if_neg (by omega),hl,Nat.sub_self,List.set_cons_zero,List.eraseIdx_append_of_length_le (by omega),hl,Nat.add_sub_cancel_left]
  rfl
 rw [es]
 refine Runs.app.mpr ⟨sa,k1.keep λj j1 j2=>ho j (.inl j2),rfl,by show 0<na+nb;omega,by show Rng b arr' sa (sa+(na+nb));rw [<-Nat.add_assoc];exact hr,?_⟩
 show Runs b arr' (sa+(na+nb)) v e
 rw [<-Nat.add_assoc]
 exact k8.keep λj j1 j2=>ho j (.inr j1)
theorem Runs.pow:∀ {p:List (Nat×Nat×Nat)} {s e:Nat} (i:Nat) (f:Nat×Nat×Nat->Nat×Nat×Nat),(∀ x,(f x).1=x.1/\(f x).2.1=x.2.1)->Runs b arr s p e->Runs b arr s (p.modify i f) e
 | [],_,_,i,f,_,h=>by cases i <;> exact h
 | x::p,s,e,0,f,hf,h=>by
  rw [List.modify_zero_cons]
  obtain ⟨q1,q2⟩:=hf x
  refine ⟨q1.trans h.1,by rw [q2];exact h.2.1,by rw [q2];exact h.2.2.1,by rw [q2];exact h.2.2.2⟩
 | x::p,s,e,i+1,f,hf,h=>by
  rw [List.modify_succ_cons]
  exact ⟨h.1,h.2.1,h.2.2.1,Runs.pow i f hf h.2.2.2⟩
theorem Runs.one (W:WO b) {p:List (Nat×Nat×Nat)} {e:Nat} (h:Runs b arr 0 p e) (hl:p.length<=1):Rng b arr 0 e:=by
 match p,h,hl with
 | [],h,_=>
  have h:0=e:=h
  subst h
  intro i j x y i1 i2 i3
  omega
 | [x],h,_=>
  have h4:0+x.2.1=e:=h.2.2.2
  rw [<-h4]
  exact h.2.2.1
end
end L2
namespace L2
open PySem PySem.Spec PyProof.Rows
section
variable {M:Model} {A:Around} {E:Value->Shared->Prop} {s:Shared} {kd:SortKind} {b:Keyed->Keyed->Bool} {good:Keyed->Prop}
structure SI (b:Keyed->Keyed->Bool) (kd:SortKind) (st0 st:SortSt) (lo:Nat):Prop where
 ki:kindOf st=kd
 fa:failedOf st=none
 pm:(arrOf st).Perm (arrOf st0)
 ru:Runs b (arrOf st) 0 (pendingOf st).toList lo
theorem SI.size {st0 st:SortSt} {lo:Nat} (h:SI b kd st0 st lo):(arrOf st).size=(arrOf st0).size:=h.pm.size_eq
theorem SI.merge (W:WO b) (L:Zch M A E s kd b good) {st0 st:SortSt} {lo i:Nat} {Q:Bool->SortSt->Prop} (G:AllG good (arrOf st0)) (h:SI b kd st0 st lo) (hlo:lo<=(arrOf st0).size) (hi:i+1<(pendingOf st).size)
  (q:∀ st',SI b kd st0 st' lo->(pendingOf st').size+1=(pendingOf st).size->(∀ i,lo<=i->(arrOf st')[i]?=(arrOf st)[i]?)->Q true st'):wpS M A E s (mergeAt' i) Q st:=by
 obtain ⟨⟨sa,na,pw⟩,p1⟩:∃ x,(pendingOf st)[i]?=some x:=⟨_,Array.getElem?_eq_getElem (by omega)⟩
 obtain ⟨⟨sb,nb,pw'⟩,p2⟩:∃ x,(pendingOf st)[i+1]?=some x:=⟨_,Array.getElem?_eq_getElem hi⟩
 have two:=λarr'=>Runs.two (arr':=arr') h.ru (by rw [Array.getElem?_toList];exact p1) (by rw [Array.getElem?_toList];exact p2)
 obtain ⟨t1,t2,t3,t4,t5,t6,_⟩:=two (arrOf st)
 have hsz:=h.size
 refine Zeu W L h.ki h.fa (G.perm h.pm) p1 p2 t1 t2 t3 (by omega) t5 t6 λst' k1 k2 k3 k4 k5 k6=>?_
 have e0:arrOf (setPending st (((pendingOf st).setIfInBounds i (sa,na+nb,pw)).eraseIdxIfInBounds (i+1)))=arrOf st:=rfl
 rw [e0] at k4 k5
 have e1:pendingOf st'=((pendingOf st).setIfInBounds i (sa,na+nb,pw)).eraseIdxIfInBounds (i+1):=k2
 have e2:(pendingOf st').toList=((pendingOf st).toList.set i (sa,na+nb,pw)).eraseIdx (i+1):=by
  rw [e1,Array.toList_eraseIdxIfInBounds,Array.toList_setIfInBounds]
 refine q st' ⟨k1.trans h.ki,k3.trans h.fa,k4.trans h.pm,?_⟩ ?_ λj hj=>k5 j (.inr (by omega))
 ·rw [e2]
  exact (two (arrOf st')).2.2.2.2.2.2 k5 k6
 ·have:=congrArg List.length e2
  rw [Array.length_toList,List.length_eraseIdx,List.length_set,Array.length_toList,if_pos hi] at this
  omega
theorem Zbk (W:WO b) (L:Zch M A E s kd b good) {st:SortSt} {Q:Unit->SortSt->Prop} (hs:kindOf st=kd) (hf:failedOf st=none) (hp:pendingOf st=#[]) (G:AllG good (arrOf st))
  (q:∀ st',(arrOf st').Perm (arrOf st)->failedOf st'=none->Rng b (arrOf st') 0 (arrOf st).size->Q () st'):wpS M A E s sortRuns' Q st:=by
 rw [sortRuns'_eq]
 refine wpS_bind (wpS_get ?_)
 dsimp only
 generalize hsz:(arrOf st).size=size at q
 generalize minRun' size size 0=minrun
 refine wpS_bind (wpS_mono (Q:=λr st1=>r=(none,size)/\SI b kd st st1 size) (wpS_forRange (λk r st1=>∃ lo,r=(none,lo)/\k<=lo/\lo<=size/\SI b kd st st1 lo) ?_ ?_ ⟨0,rfl,Nat.le_refl _,Nat.zero_le _,hs,hf,.refl _,by rw [hp];rfl⟩) ?_)
 ·rintro k r st1 _ hk ⟨lo,rfl,k1,k2,I⟩
  dsimp only
  split
  ·have:lo=size:=by omega
   subst this
   exact wpS_pure ⟨rfl,I⟩
  ·rename_i hlo
   have s1:(arrOf st1).size=size:=I.size.trans hsz
   refine wpS_bind (Zdo W L I.ki (G.perm I.pm) (by omega) (by omega) λn st2 ah n1 n2 n3=>?_)
   have I2:SI b kd st st2 lo:=⟨ah.kd.trans I.ki,ah.fa.trans I.fa,ah.pm.trans I.pm,by rw [ah.pe];exact I.ru.keep λi _ hi=>ah.lw i hi⟩
   dsimp only
   have pushed:∀ st3 n,SI b kd st st3 lo->0<n->Rng b (arrOf st3) lo (lo+n)->SI b kd st (setPending st3 ((pendingOf st3).push (lo,n,0))) (lo+n):=by
    intro st3 n I3 n1 n3
    refine ⟨I3.ki,I3.fa,I3.pm,?_⟩
    show Runs b (arrOf st3) 0 ((pendingOf st3).push (lo,n,0)).toList (lo+n)
    rw [Array.toList_push]
    exact I3.ru.push n1 n3
   have pow:∀ st3 pw,SI b kd st st3 lo->SI b kd st (setPending st3 ((pendingOf st3).modify ((pendingOf st3).size-1) λx=>(x.1,x.2.1,pw))) lo:=by
    intro st3 pw I3
    refine ⟨I3.ki,I3.fa,I3.pm,?_⟩
    show Runs b (arrOf st3) 0 ((pendingOf st3).modify ((pendingOf st3).size-1) λx=>(x.1,x.2.1,pw)).toList lo
    rw [Array.toList_modify]
    exact I3.ru.pow _ _ λx=>⟨rfl,rfl⟩
   split
   ·rename_i hmr
    refine wpS_bind (wpS_lift (wpAny_rule ⟨rfl,?_⟩))
    have s2:(arrOf st2).size=size:=I2.size.trans hsz
    refine wpS_bind (Zfh W L I2.ki (G.perm I2.pm) (by omega) n1 (by omega) n3 λst3 ah3 r3=>?_)
    have I3:SI b kd st st3 lo:=⟨ah3.kd.trans I2.ki,ah3.fa.trans I2.fa,ah3.pm.trans I2.pm,by rw [ah3.pe];exact I2.ru.keep λi _ hi=>ah3.lw i hi⟩
    rw [show (!true)=false from rfl,if_neg Bool.false_ne_true]
    have hN:1<=min (size-lo) minrun/\lo+min (size-lo) minrun<=size:=by omega
    clear hmr
    generalize min (size-lo) minrun=N at r3 hN
    refine wpS_bind (wpS_get ?_)
    cases hbk:(pendingOf st3).back? with
    | none=>exact wpS_bind (wpS_modify (wpS_pure ⟨_,rfl,by omega,by omega,pushed st3 _ I3 (by omega) r3⟩))
    | some x=>
     obtain ⟨s1,n1,pw1⟩:=x
     dsimp only
     refine wpS_bind (wpS_mono (Q:=λr st4=>r=(none,())/\SI b kd st st4 lo/\∀ i,lo<=i->(arrOf st4)[i]?=(arrOf st3)[i]?) (wpS_forRange (λ_ r st4=>r=(none,())/\SI b kd st st4 lo/\∀ i,lo<=i->(arrOf st4)[i]?=(arrOf st3)[i]?) ?_ (λ_ _ z=>z) ⟨rfl,I3,λ_ _=>rfl⟩) ?_)
     ·rintro k' r st4 _ hk' ⟨rfl,I4,same⟩
      refine wpS_bind (wpS_get ?_)
      by_cases hz:(pendingOf st4).size > 1
      ·obtain ⟨⟨z1,z2,z3⟩,pz⟩:∃ x,(pendingOf st4)[(pendingOf st4).size-2]?=some x:=⟨_,Array.getElem?_eq_getElem (by omega)⟩
       rw [if_pos hz,pz]
       dsimp only
       split
       ·exact wpS_pure ⟨rfl,I4,same⟩
       ·refine wpS_bind (I4.merge W L G (by omega) (by omega) λst5 I5 _ same5=>?_)
        rw [show (!true)=false from rfl,if_neg Bool.false_ne_true]
        exact wpS_pure ⟨rfl,I5,λi hi=>(same5 i hi).trans (same i hi)⟩
      ·rw [if_neg hz]
       exact wpS_pure ⟨rfl,I4,same⟩
     ·rintro r st4 ⟨rfl,I4,same⟩
      dsimp only
      refine wpS_bind (wpS_modify (wpS_bind (wpS_modify (wpS_pure ⟨_,rfl,by omega,by omega,?_⟩))))
      refine pushed _ _ (pow st4 _ I4) (by omega) λi j x y i1 i2 i3 e1 e2=>?_
      have e1:(arrOf st4)[i]?=some x:=e1
      have e2:(arrOf st4)[j]?=some y:=e2
      rw [same i i1] at e1
      rw [same j (by omega)] at e2
      exact r3 i j x y i1 i2 i3 e1 e2
   ·have hN:1<=n/\lo+n<=size:=by omega
    refine wpS_bind (wpS_get ?_)
    cases hbk:(pendingOf st2).back? with
    | none=>exact wpS_bind (wpS_modify (wpS_pure ⟨_,rfl,by omega,by omega,pushed st2 _ I2 (by omega) n3⟩))
    | some x=>
     obtain ⟨s1,n1,pw1⟩:=x
     dsimp only
     refine wpS_bind (wpS_mono (Q:=λr st4=>r=(none,())/\SI b kd st st4 lo/\∀ i,lo<=i->(arrOf st4)[i]?=(arrOf st2)[i]?) (wpS_forRange (λ_ r st4=>r=(none,())/\SI b kd st st4 lo/\∀ i,lo<=i->(arrOf st4)[i]?=(arrOf st2)[i]?) ?_ (λ_ _ z=>z) ⟨rfl,I2,λ_ _=>rfl⟩) ?_)
     ·rintro k' r st4 _ hk' ⟨rfl,I4,same⟩
      refine wpS_bind (wpS_get ?_)
      by_cases hz:(pendingOf st4).size > 1
      ·obtain ⟨⟨z1,z2,z3⟩,pz⟩:∃ x,(pendingOf st4)[(pendingOf st4).size-2]?=some x:=⟨_,Array.getElem?_eq_getElem (by omega)⟩
       rw [if_pos hz,pz]
       dsimp only
       split
       ·exact wpS_pure ⟨rfl,I4,same⟩
       ·refine wpS_bind (I4.merge W L G (by omega) (by omega) λst5 I5 _ same5=>?_)
        rw [show (!true)=false from rfl,if_neg Bool.false_ne_true]
        exact wpS_pure ⟨rfl,I5,λi hi=>(same5 i hi).trans (same i hi)⟩
      ·rw [if_neg hz]
       exact wpS_pure ⟨rfl,I4,same⟩
     ·rintro r st4 ⟨rfl,I4,same⟩
      dsimp only
      refine wpS_bind (wpS_modify (wpS_bind (wpS_modify (wpS_pure ⟨_,rfl,by omega,by omega,?_⟩))))
      refine pushed _ _ (pow st4 _ I4) (by omega) λi j x y i1 i2 i3 e1 e2=>?_
      have e1:(arrOf st4)[i]?=some x:=e1
      have e2:(arrOf st4)[j]?=some y:=e2
      rw [same i i1] at e1
      rw [same j (by omega)] at e2
      exact n3 i j x y i1 i2 i3 e1 e2
 ·rintro r st1 ⟨lo,rfl,k1,k2,I⟩
  have:lo=size:=by simp at k1;omega
  subst this
  exact ⟨rfl,I⟩
 ·rintro r st1 ⟨rfl,I⟩
  dsimp only
  refine wpS_bind (wpS_mono (Q:=λr st2=>r=(none,())/\SI b kd st st2 size/\(pendingOf st2).size<=1) (wpS_forRange (λk r st2=>r=(none,())/\SI b kd st st2 size/\(pendingOf st2).size+k<=size+1) ?_ ?_ ⟨rfl,I,?_⟩) ?_)
  ·rintro k r st2 _ hk ⟨rfl,I2,hz⟩
   refine wpS_bind (wpS_get ?_)
   split
   ·rename_i h1
    exact wpS_pure ⟨rfl,I2,h1⟩
   ·rename_i h1
    generalize hi:(if Option.any _ _=true then (pendingOf st2).size-2-1 else (pendingOf st2).size-2)=i
    have hi2:i+1<(pendingOf st2).size:=by
     rw [<-hi]
     have key:∀ (c:Prop) [Decidable c] (m:Nat),(if c then m-1 else m)<=m:=λc _ m=>by split <;> omega
     refine Nat.lt_of_le_of_lt (Nat.succ_le_succ (key _ ((pendingOf st2).size-2))) ?_
     omega
    refine wpS_bind (I2.merge W L G (by omega) hi2 λst3 I3 h3 _=>?_)
    rw [show (!true)=false from rfl,if_neg Bool.false_ne_true]
    exact wpS_pure ⟨rfl,I3,by omega⟩
  ·rintro r st2 ⟨rfl,I2,hz⟩
   exact ⟨rfl,I2,by simp at hz;omega⟩
  ·have:=I.ru.le
   rw [Array.length_toList] at this
   omega
  ·rintro r st2 ⟨rfl,I2,h1⟩
   refine wpS_pure (q st2 I2.pm I2.fa ?_)
   exact I2.ru.one W (by rw [Array.length_toList];exact h1)
end
end L2
namespace L2
open PySem PySem.Spec PyProof.Rows
section
variable {prog:Program} {w:World} {A:Around} {E:Value->Shared->Prop} {s:Shared} {kd:SortKind} {b:Keyed->Keyed->Bool} {good:Keyed->Prop}
def Zb1 (s:Shared) (a:Addr) (vs:List Value):Shared:={ s with heap:=((s.heap.update a (Obj.mapSeq λ_=>#[])).push (seqObj "tuple" vs.toArray 0)).push (seqObj "list" #[] 0) }
theorem Zgr (W:WO b) {arr:Array Keyed} (h:arr.size<2):Rng b arr 0 arr.size:=λi j x y i1 i2 i3 e1 e2=>by
 have:i=j:=by omega
 subst this
 rw [e1] at e2;cases e2
 exact W.le_refl _
theorem Zdp {a:Addr} {vs:List Value} {n:Nat} {P:PySem.Fin->Shared->Prop} (W:WO b) (ha:s.heap.get? a=some (seqObj "list" vs.toArray n)) (hz:vs.length<=sizeLine) (hg:∀ v∈vs,good (v,v))
  (hk:2<=vs.length->∀ {E':Value->Shared->Prop} {R:SortKind->Shared->Prop},R kd (Zb1 s a vs)->wpAny (model prog w) A (keyKind' vs.toArray) R E' (Zb1 s a vs)) (L:Zch (model prog w) A E (Zb1 s a vs) kd b good)
  (q:∀ out:Array Keyed,out.Perm (pairsOf vs)->Rng b out 0 vs.length->P (.done (.ret .none)) { s with heap:=sortedHeap s.heap a vs (out.map (·.2)) }) :
  wpAny (model prog w) A (Builtin.«list.sort» { pos:=[.ref a] }) P E s:=by
 rw [list_sort_plain]
 refine wpAny_bind (listItems_at ha rfl ?_)
 refine wpAny_bind (listUpdate_at ha rfl ?_ (by rw [List.size_toArray];exact hz) (Nat.zero_le _))
 have ha1:=get?_update_seq ha (λ_=>#[])
 generalize (if ((#[]:Array Value).size == vs.toArray.size)=true then n else n+1)=n1 at ha1
 refine wpAny_bind (seqEpoch_at ha1 rfl ?_)
 refine wpAny_bind (wpAny_newTuple ?_ hz)
 refine wpAny_bind (wpAny_newList ?_ (Nat.zero_le _))
 refine wpAny_holding ?_
 have ha2:(Zb1 s a vs).heap.get? a=some (seqObj "list" #[] n1):=Heap.get?_push_of_some _ (Heap.get?_push_of_some _ ha1)
 show wpAny (model prog w) A _ P E (Zb1 s a vs)
 have hps:(pairsOf vs).size=vs.length:=pairsOf_size vs
 dsimp only [List.size_toArray]
 split
 ·rename_i h2
  have h2:vs.length<2:=by simpa using h2
  refine wpAny_bind (wpAny_pure ?_)
  refine wpAny_bind (wpAny_mono (Q:=λr s'=>s'=Zb1 s a vs/\failedOf r.2=none/\(arrOf r.2).Perm (pairsOf vs)/\Rng b (arrOf r.2) 0 vs.length) (wpAny_pure ⟨rfl,rfl,.refl _,?_⟩) ?_ (λ_ _ z=>z))
  ·have:=Zgr W (arr:=pairsOf vs) (by omega)
   rw [hps] at this
   exact this
  ·rintro ⟨_,st⟩ s' ⟨rfl,e2,hp,hr⟩
   dsimp only
   refine wpAny_bind (seqEpoch_at ha2 rfl ?_)
   have e2:failedOf st=none:=e2
   have hl:((arrOf st).map (·.2)).size<=sizeLine+1:=by
    have this:(arrOf st).size=(pairsOf vs).size:=hp.size_eq
    rw [pairsOf_size] at this
    rw [Array.size_map]
    omega
   refine wpAny_bind (listUpdate_at ha2 rfl ?_ (Nat.zero_le _) hl)
   have:(n1 != n1)=false:=by simp
   rw [this,e2]
   exact wpAny_pure (q (arrOf st) hp hr)
 ·rename_i h2
  have h2:¬ vs.length<2:=by simpa using h2
  refine wpAny_bind (hk (by omega) ?_)
  refine wpAny_bind (wpAny_mono (Q:=λr s'=>s'=Zb1 s a vs/\failedOf r.2=none/\(arrOf r.2).Perm (pairsOf vs)/\Rng b (arrOf r.2) 0 vs.length) ?_ ?_ (λ_ _ z=>z))
  ·refine Zbk (st:=SortSt.mk' kd (vs.toArray.zip vs.toArray) #[] 7 none) (Q:=λ_ st=>failedOf st=none/\(arrOf st).Perm (pairsOf vs)/\Rng b (arrOf st) 0 vs.length) W L rfl rfl rfl (λx hx=>?_) λst' k1 k2 k3=>⟨k2,k1,?_⟩
   ·have hx:x∈(pairsOf vs).toList:=hx
    rw [pairsOf_toList] at hx
    obtain ⟨e,hm⟩:=mem_zip_self hx
    obtain ⟨x1,x2⟩:=x
    have e:x1=x2:=e
    subst e
    exact hg _ hm
   ·have e:(arrOf (SortSt.mk' kd (vs.toArray.zip vs.toArray) #[] 7 none)).size=vs.length:=hps
    rw [e] at k3
    exact k3
  ·rintro ⟨_,st⟩ s' ⟨rfl,e2,hp,hr⟩
   dsimp only
   refine wpAny_bind (seqEpoch_at ha2 rfl ?_)
   have e2:failedOf st=none:=e2
   have hl:((arrOf st).map (·.2)).size<=sizeLine+1:=by
    have this:(arrOf st).size=(pairsOf vs).size:=hp.size_eq
    rw [pairsOf_size] at this
    rw [Array.size_map]
    omega
   refine wpAny_bind (listUpdate_at ha2 rfl ?_ (Nat.zero_le _) hl)
   have:(n1 != n1)=false:=by simp
   rw [this,e2]
   exact wpAny_pure (q (arrOf st) hp hr)
theorem Zb2 {h:Heap} {a c:Addr} {o:Obj} {f:Obj->Obj} (hc:c≠a) (e:h.get? c=some o):(h.update a f).get? c=some o:=(Heap.get?_update_ne h c a f hc).trans e
theorem Zc0 {l:Addr} {vs:List Value} {Q:Value->Shared->Prop} (W:WO b) (hl:s.heap.IsList l vs.toArray) (hz:vs.length<=sizeLine) (hg:∀ v∈vs,good (v,v))
  (hk:∀ h':Heap,(∀ c o,s.heap.get? c=some o->h'.get? c=some o)->2<=vs.length->∀ {E':Value->Shared->Prop} {R:SortKind->Shared->Prop},R kd { s with heap:=h' }->wpAny (model prog w) A.in1.in1 (keyKind' vs.toArray) R E' { s with heap:=h' })
  (L:∀ h':Heap,(∀ c o,s.heap.get? c=some o->h'.get? c=some o)->Zch (model prog w) A.in1.in1 E { s with heap:=h' } kd b good)
  (q:∀ out:Array Keyed,out.Perm (pairsOf vs)->Rng b out 0 vs.length->Q (.ref (s.heap.objs.size+1)) { s with heap:=sortedAll s.heap vs (out.map (·.2)) }) :
  wpAny (model prog w) A (call (.builtin "sorted") [.ref l]) Q E s:=by
 refine Calls.call_function_entry kind_sorted plain_sorted entry_sorted (args_sorted1 _) ?_
 unfold Builtin.sorted
 refine wpAny_bind (wpAny_pure ?_)
 refine wpAny_bind (collect_list hl ?_ hz)
 refine wpAny_bind (wpAny_newList ?_ hz)
 refine wpAny_bind (wpAny_holding ?_)
 generalize hh1:(s.heap.push (seqObj "list" #[] 0)).update s.heap.objs.size (Obj.mapSeq λx=>x++vs.toArray)=h1
 have sz1:h1.objs.size=s.heap.objs.size+1:=by rw [<-hh1,Heap.size_update,Heap.size_push]
 have k1:∀ c o,s.heap.get? c=some o->h1.get? c=some o:=λc o e=>by
  rw [<-hh1]
  exact Zb2 (Nat.ne_of_lt (Heap.lt_size e)) (Heap.get?_push_of_some _ e)
 generalize hh2:h1.push { cls:=Value.type "list", data:=Data.seq vs.toArray }=h2
 have ha:h2.get? h1.objs.size=some (seqObj "list" vs.toArray 0):=by rw [<-hh2];exact Heap.get?_push_size _ rfl
 have k2:∀ c o,s.heap.get? c=some o->h2.get? c=some o:=λc o e=>by
  rw [<-hh2]
  exact Heap.get?_push_of_some _ (k1 c o e)
 have k3:∀ c o,s.heap.get? c=some o->(Zb1 { s with heap:=h2 } h1.objs.size vs).heap.get? c=some o:=λc o e=>by
  unfold Zb1
  refine Heap.get?_push_of_some _ (Heap.get?_push_of_some _ (Zb2 ?_ (k2 c o e)))
  have:=Heap.lt_size e
  rw [sz1]
  exact Nat.ne_of_lt (Nat.lt_succ_of_lt this)
 refine wpAny_call_entry (s:={ s with heap:=h2 }) slot_list_sort ⟨_,ha,rfl⟩ entry_list_sort ?_ (args_list_sort _)
 refine Zdp (s:={ s with heap:=h2 }) W ha hz hg (λh=>hk _ k3 h) (L _ k3) λout p r=>⟨.none,rfl,wpAny_pure ⟨_,rfl,?_⟩⟩
 have e:({ s with heap:=sortedHeap h2 h1.objs.size vs (out.map (·.2)) }:Shared)={ s with heap:=sortedAll s.heap vs (out.map (·.2)) }:=by
  unfold sortedAll
  rw [sz1,<-hh2,<-hh1]
 show Q (.ref h1.objs.size) { s with heap:=sortedHeap h2 h1.objs.size vs (out.map (·.2)) }
 rw [e,sz1]
 exact q out p r
def Zny:Keyed->Keyed->Bool:=λx y=>match x.1,y.1 with
 | .int i _,.int j _=>decide (i<j)
 | _,_=>false
def Znz (x:Keyed):Prop:=∃ i t,x.1=.int i t
def Zcb:Value->Int
 | .int i _=>i
 | _=>0
end
end L2
namespace L2
open PySem PySem.Spec PyProof.Rows
def Za9:List Int->List Int->Bool
 | [],[]=>false
 | [],_::_=>true
 | _::_,[]=>false
 | x::xs,y::ys=>if x=y then Za9 xs ys else decide (x<y)
section
variable {prog:Program} {w:World} {A:Around} {E:Value->Shared->Prop} {s:Shared}
theorem Zdq:∀ {its:List Value} {ns:List Int},IntsAre its ns->∀ k:Nat,(its[k]?=none/\ns.drop k=[])\/∃ i t,its[k]?=some (.int i t)/\ns.drop k=i::ns.drop (k+1)
 | _,_,.nil,k=>.inl ⟨by simp,by simp⟩
 | _,_,.cons n t h,0=>.inr ⟨n,t,rfl,rfl⟩
 | _,_,.cons n t h,k+1=>by
  rcases Zdq h k with ⟨h1,h2⟩ | ⟨i,t,h1,h2⟩
  ·exact .inl ⟨by simpa using h1,by simpa using h2⟩
  ·exact .inr ⟨i,t,by simpa using h1,by simpa using h2⟩
theorem ZbE {its:List Value} {ns:List Int} (h:IntsAre its ns):its.length=ns.length:=by
 induction h with
 | nil=>rfl
 | cons n t h ih=>simp [ih]
theorem ZiA {a c:Addr} {oa oc:Obj} {xs ys:List Value} {ns ms:List Int} {na nc:Nat} {R:Result->Shared->Prop} (ga:s.heap.get? a=some oa) (gc:s.heap.get? c=some oc) (da:oa.data=.seq xs.toArray na) (dc:oc.data=.seq ys.toArray nc) (hx:IntsAre xs ns) (hy:IntsAre ys ms) :
  ∀ left k:Nat,ns.length-k=left->k<=ns.length->k<=ms.length->R (.ok (.ret (.bool (Za9 (ns.drop k) (ms.drop k))))) s->codeAny (model prog w) A (.builtin "list.__eq__.loop" { pos:=[.ref a,.ref c,rawInt (k:Int),rawInt 0] }) R s:=by
 intro left
 induction left with
 | zero=>
  intro k hl h1 h2 hR
  refine codeAny_builtin MeetsSeq3.entry_eq_loop ?_
  rw [Around.under_plainId MeetsSeq3.plain_eq_loop _]
  show wpAny _ A.in1 (Builtin.List.listItems (.ref a) >>= _) _ _ s
  refine wpAny_bind (listItems_at ga da (wpAny_bind (listItems_at gc dc ?_)))
  have e1:xs.toArray[((k:Int)).toNat]?=none:=by
   rw [Int.toNat_natCast]
   rcases Zdq hx k with ⟨h,_⟩ | ⟨i,t,h,_⟩
   ·simpa using h
   ·have:=(List.getElem?_eq_some_iff.mp h).1
    have:=ZbE hx
    omega
  rw [e1]
  show wpAny _ A.in1 (Builtin.List.listItems (.ref a) >>= _) _ _ s
  refine wpAny_bind (listItems_at ga da (wpAny_bind (listItems_at gc dc (wpAny_pure ?_))))
  show R (.ok (.ret (.bool (decide (xs.toArray.size<ys.toArray.size))))) s
  have e2:Za9 (ns.drop k) (ms.drop k)=decide (xs.toArray.size<ys.toArray.size):=by
   rw [List.size_toArray,List.size_toArray,ZbE hx,ZbE hy]
   have:ns.drop k=[]:=List.drop_of_length_le (by omega)
   rw [this]
   cases hd:ms.drop k with
   | nil=>
    have:=List.drop_eq_nil_iff.mp hd
    rw [decide_eq_false (by omega)]
    rfl
   | cons y l=>
    have:k<ms.length:=by
     refine Nat.lt_of_not_le λh=>?_
     rw [List.drop_of_length_le h] at hd
     cases hd
    rw [decide_eq_true (by omega)]
    rfl
  rw [<-e2]
  exact hR
 | succ left ih=>
  intro k hl h1 h2 hR
  refine codeAny_builtin MeetsSeq3.entry_eq_loop ?_
  rw [Around.under_plainId MeetsSeq3.plain_eq_loop _]
  show wpAny _ A.in1 (Builtin.List.listItems (.ref a) >>= _) _ _ s
  refine wpAny_bind (listItems_at ga da (wpAny_bind (listItems_at gc dc ?_)))
  rw [Int.toNat_natCast]
  rcases Zdq hx k with ⟨h,z⟩ | ⟨i,t,hi,di⟩
  ·have:=List.drop_eq_nil_iff.mp z
   omega
  ·have e1:xs.toArray[k]?=some (.int i t):=by simpa using hi
   rw [e1]
   rcases Zdq hy k with ⟨h,z⟩ | ⟨j,u,hj,dj⟩
   ·have e2:ys.toArray[k]?=none:=by simpa using h
    rw [e2]
    show wpAny _ A.in1 (Builtin.List.listItems (.ref a) >>= _) _ _ s
    refine wpAny_bind (listItems_at ga da (wpAny_bind (listItems_at gc dc (wpAny_pure ?_))))
    show R (.ok (.ret (.bool (decide (xs.toArray.size<ys.toArray.size))))) s
    rw [di,z] at hR
    have:=List.drop_eq_nil_iff.mp z
    rw [List.size_toArray,List.size_toArray,ZbE hx,ZbE hy,decide_eq_false (by omega)]
    exact hR
   ·have e2:ys.toArray[k]?=some (.int j u):=by simpa using hj
    rw [e2]
    rw [di,dj] at hR
    show wpAny _ A.in1 (eqBool (.int i t) (.int j u) >>= _) _ _ s
    refine wpAny_bind (wpAny_eqBool_int ?_)
    have kl:k<ms.length:=by
     have:=(List.getElem?_eq_some_iff.mp hj).1
     rw [ZbE hy] at this
     exact this
    by_cases hij:i=j
    ·rw [show (i == j)=true by rw [hij];exact beq_self_eq_true _,if_pos rfl]
     refine wpAny_pure ⟨plainId_quiet MeetsSeq3.plain_eq_loop _,ih (k+1) (by omega) (by omega) (by omega) ?_⟩
     unfold Za9 at hR
     rw [if_pos hij] at hR
     exact hR
    ·rw [show (i == j)=false by rw [beq_eq_false_iff_ne];exact hij,if_neg Bool.false_ne_true]
     refine wpAny_bind (listItems_at ga da (wpAny_bind (listItems_at gc dc ?_)))
     rw [e1,e2]
     refine wpAny_bind (lt_int (wpAny_pure ?_))
     unfold Za9 at hR
     rw [if_neg hij] at hR
     exact hR
theorem Zhi (a c:Addr) (xs ys:List Value) (ns ms:List Int) (na nc:Nat) (hx:IntsAre xs ns) (hy:IntsAre ys ms):Meets (Builtin.«list.__lt__» { pos:=[.ref a,.ref c] }) λA R s=>
  s.heap.IsList a xs.toArray/\s.heap.IsList c ys.toArray/\R (.ok (.ret (.bool (Za9 ns ms)))) s:=by
 intro prog w A R s ⟨ha,hc,hR⟩
 obtain ⟨oa,ga,ca,n1,da⟩:=ha
 obtain ⟨oc,gc,cc,n2,dc⟩:=hc
 show wpAny _ A.in1 (isInstance (.ref c) (.type "list") >>= _) _ _ s
 refine wpAny_bind (wpAny_isInstance (T := "list") ⟨oc,gc,cc⟩ (by first | rfl | decide +kernel) ?_)
 refine wpAny_pure ⟨plainId_quiet MeetsSeq3.plain_eq_loop _,?_⟩
 exact ZiA ga gc da dc hx hy _ 0 rfl (Nat.zero_le _) (Nat.zero_le _) hR
theorem Zfi {a c:Addr} {xs ys:List Value} {ns ms:List Int} {Q:Bool->Shared->Prop} (ha:s.heap.IsList a xs.toArray) (hc:s.heap.IsList c ys.toArray) (hx:IntsAre xs ns) (hy:IntsAre ys ms) (hu:A.units<cLine) (h:Q (Za9 ns ms) s) :
  wpAny (model prog w) A (oneLt' true (.ref a) (.ref c)) Q E s:=by
 rw [oneLt'_eq]
 dsimp only
 rw [if_pos rfl]
 refine wpAny_bind (wpAny_cRoom hu ?_)
 have Ta:s.TypeIs (.ref a) "list" := ha.elim λo z=>⟨o,z.1,z.2.1⟩
 refine wpAny_bind (wpAny_callSpecialIfBound?_slot Ta F.slot_list_lt (call_meets F.slot_list_lt Ta F.entry_list_lt (F.args_list_lt_2 _ _) (Zhi a c xs ys ns ms 0 0 hx hy) ⟨ha,hc,?_⟩))
 show wpAny _ A (truthOfDropped (.bool (Za9 ns ms))) Q E s
 exact wpAny_truthy_bool h
end
end L2
namespace L2
open PySem PySem.Spec PyProof.Rows Classical
theorem Zbg:∀ xs:List Int,Za9 xs xs=false
 | []=>rfl
 | x::xs=>by
  unfold Za9
  rw [if_pos rfl]
  exact Zbg xs
theorem Zdr:∀ {xs ys zs:List Int},Za9 xs ys=true->Za9 ys zs=true->Za9 xs zs=true
 | [],[],_,h,_=>by simp [Za9] at h
 | [],_::_,[],_,h=>by simp [Za9] at h
 | [],_::_,_::_,_,_=>rfl
 | _::_,[],_,h,_=>by simp [Za9] at h
 | _::_,_::_,[],_,h=>by simp [Za9] at h
 | x::xs,y::ys,z::zs,h1,h2=>by
  unfold Za9 at h1 h2 ⊢
  by_cases e1:x=y
  ·rw [if_pos e1] at h1
   by_cases e2:y=z
   ·rw [if_pos e2] at h2
    rw [if_pos (e1.trans e2)]
    exact Zdr h1 h2
   ·rw [if_neg e2] at h2
    rw [if_neg (by rw [e1];exact e2),e1]
    exact h2
  ·rw [if_neg e1] at h1
   have h1:=of_decide_eq_true h1
   by_cases e2:y=z
   ·rw [if_neg (by rw [<-e2];exact e1),<-e2]
    exact decide_eq_true h1
   ·rw [if_neg e2] at h2
    have h2:=of_decide_eq_true h2
    rw [if_neg (by omega)]
    exact decide_eq_true (by omega)
theorem Zds:∀ {xs ys:List Int},Za9 xs ys=false->Za9 ys xs=false->xs=ys
 | [],[],_,_=>rfl
 | [],_::_,h,_=>by simp [Za9] at h
 | _::_,[],_,h=>by simp [Za9] at h
 | x::xs,y::ys,h1,h2=>by
  unfold Za9 at h1 h2
  by_cases e:x=y
  ·rw [if_pos e] at h1
   rw [if_pos e.symm] at h2
   rw [e,Zds h1 h2]
  ·rw [if_neg e] at h1
   rw [if_neg (Ne.symm e)] at h2
   have h1:=of_decide_eq_false h1
   have h2:=of_decide_eq_false h2
   omega
theorem ZhJ {α:Type} {κ:Keyed->α} {lt:α->α->Bool} (irr:∀ a,lt a a=false) (tr:∀ {a b c},lt a b=true->lt b c=true->lt a c=true) (tot:∀ {a b},lt a b=false->lt b a=false->a=b):WO (λx y=>lt (κ x) (κ y)):=by
 refine ⟨λx=>irr _,λx y z=>tr,λx y z h=>?_⟩
 cases h1:lt (κ x) (κ y) with
 | true=>exact .inl rfl
 | false=>
  cases h2:lt (κ y) (κ x) with
  | true=>exact .inr (tr h2 h)
  | false=>
   rw [<-tot h1 h2]
   exact .inr h
theorem Zgs {α β:Type} {f:α->β}:∀ {l:List β} {zs:List α},l.Perm (zs.map f)->∃ zs':List α,zs'.Perm zs/\zs'.map f=l:=by
 intro l zs h
 generalize hm:zs.map f=m at h
 induction h generalizing zs with
 | nil=>exact ⟨zs,.refl _,by rw [hm]⟩
 | @cons x l1 l2 _ ih=>
  cases zs with
  | nil=>simp at hm
  | cons z zs=>
   simp at hm
   obtain ⟨zs',h1,h2⟩:=ih hm.2
   exact ⟨z::zs',h1.cons z,by rw [List.map_cons,h2,hm.1]⟩
 | swap x y l=>
  cases zs with
  | nil=>simp at hm
  | cons z zs=>
   cases zs with
   | nil=>simp at hm
   | cons z2 zs=>
    simp at hm
    exact ⟨z2::z::zs,.swap _ _ _,by simp [hm.1,hm.2.1,hm.2.2]⟩
 | trans _ _ ih1 ih2=>
  obtain ⟨zs1,h1,h2⟩:=ih2 hm
  obtain ⟨zs2,h3,h4⟩:=ih1 h2
  exact ⟨zs2,h3.trans h1,h4⟩
section
variable {prog:Program} {w:World} {A:Around} {E:Value->Shared->Prop} {s:Shared} {b:Keyed->Keyed->Bool} {good:Keyed->Prop}
theorem Zdt (h:∀ x y,good x->good y->∀ {E':Value->Shared->Prop} {Q:Bool->Shared->Prop},Q (b x y) s->wpAny (model prog w) A (oneLt' true x.1 y.1) Q E' s):Zch (model prog w) A E s oneType' b good:=by
 intro x y st Q gx gy hs q
 rw [lt'_eq]
 refine wpS_bind (wpS_get ?_)
 refine wpS_bind (wpS_lift ?_)
 rw [hs,keyLt'_oneType]
 exact wpAny_attempt (h x y gx gy ⟨rfl,wpS_pure q⟩)
theorem Zcc {β:Type} {f:Value->Sem β} {g:Value->β}:∀ {vs:List Value} {Q:List β->Shared->Prop},(∀ v∈vs,∀ {Q:β->Shared->Prop},Q (g v) s->wpAny (model prog w) A (f v) Q E s)->Q (vs.map g) s->wpAny (model prog w) A (List.mapM f vs) Q E s
 | [],Q,_,q=>by
  rw [List.mapM_nil]
  exact wpAny_pure q
 | v::vs,Q,h,q=>by
  rw [List.mapM_cons]
  refine wpAny_bind (h v (List.mem_cons_self ..) ?_)
  exact wpAny_bind (Zcc (λu hu=>h u (List.mem_cons_of_mem _ hu)) (wpAny_pure q))
theorem Zd0 {α β:Type} {m:Sem α} {f:α->β} {Q:β->Shared->Prop} (h:wpAny (model prog w) A m (λa s'=>Q (f a) s') E s):wpAny (model prog w) A (f <$> m) Q E s:=by
 rw [map_eq_pure_bind]
 exact wpAny_bind (wpAny_mono h (λa s' z=>wpAny_pure z) λ_ _ z=>z)
theorem ZbQ {T:String} {vs:List Value} {R:SortKind->Shared->Prop} (hT:T ≠ "tuple") (h:∀ v∈vs,s.TypeIs v T) (h2:2<=vs.length) (q:R oneType' s):wpAny (model prog w) A (keyKind' vs.toArray) R E s:=by
 rw [keyKind'_eq,List.mapM_toArray]
 have ne:(Value.type T != Value.type "tuple")=true:=by
  rw [bne_iff_ne]
  intro e
  injection e with e
  exact hT e
 refine wpAny_bind (Zd0 (Zcc (g:=λ_=>none) (λv hv Q q=>?_) ?_))
 ·show wpAny _ _ (typeOf v >>= _) _ _ s
  refine wpAny_bind (wpAny_typeOf (h v hv) ?_)
  rw [if_pos ne]
  exact wpAny_pure q
 ·obtain ⟨v1,v2,rest,rfl⟩:∃ v1 v2 rest,vs=v1::v2::rest:=by
   match vs,h2 with
   | v1::v2::rest,_=>exact ⟨v1,v2,rest,rfl⟩
  rw [if_neg (by simp)]
  rw [if_neg (by simp)]
  rw [oneTypeOnly'_eq,List.mapM_toArray]
  refine wpAny_bind (wpAny_bind (Zd0 (Zcc (g:=λ_=>Value.type T) (λv hv Q q=>wpAny_typeOf (h v hv) q) ?_)))
  simp only [List.map_cons,List.getElem?_toArray,List.getElem?_cons_zero]
  refine wpAny_pure ?_
  rw [if_pos (by simp)]
  exact wpAny_pure q
end
end L2
namespace L2
open PySem PySem.Spec PyProof.Rows Classical
def ltI (x y:Int):Bool:=decide (x<y)
theorem ZhK:WO (λx y=>ltI (Zcb x.1) (Zcb y.1)):=ZhJ (κ:=λx:Keyed=>Zcb x.1) (lt:=ltI) (λa=>by simp [ltI]) (λ{a b c} h1 h2=>by
  have h1:=of_decide_eq_true h1
  have h2:=of_decide_eq_true h2
  exact decide_eq_true (by omega)) (λ{a b} h1 h2=>by
  have h1:=of_decide_eq_false h1
  have h2:=of_decide_eq_false h2
  omega)
theorem Zbx {b:Keyed->Keyed->Bool} {out:Array Keyed} {n:Nat} (h:Rng b out 0 n) (hn:out.size=n):out.toList.Pairwise (kle b):=by
 rw [List.pairwise_iff_getElem]
 intro i j hi hj hij
 rw [Array.length_toList] at hi hj
 exact h i j _ _ (Nat.zero_le _) (by omega) (by omega) (by simp [hi]) (by simp [hj])
theorem ZeT {vs:List Value} {out:Array Keyed} (h:out.Perm (pairsOf vs)):(out.map (·.2)).toList.Perm vs/\(∀ x∈out.toList,x.1=x.2/\x.1∈vs)/\out.size=vs.length:=by
 have p:out.toList.Perm (vs.zip vs):=by
  have:=h.toList
  rw [pairsOf_toList] at this
  exact this
 refine ⟨?_,λx hx=>mem_zip_self (p.mem_iff.mp hx),by rw [h.size_eq,pairsOf_size]⟩
 rw [Array.toList_map]
 have:=p.map (λx:Keyed=>x.2)
 rw [show (vs.zip vs).map (λx:Keyed=>x.2)=vs from List.map_snd_zip (Nat.le_refl _)] at this
 exact this
noncomputable def ZiB (h:Heap) (v:Value):List Int:=if q:∃ ns a its,v=.ref a/\h.IsList a its/\IntsAre its.toList ns then choose q else []
theorem ZeU:∀ {its:List Value} {ns ms:List Int},IntsAre its ns->IntsAre its ms->ns=ms
 | _,_,_,.nil,.nil=>rfl
 | _,_,_,.cons n t h,.cons _ _ k=>by rw [ZeU h k]
theorem Zfj {h:Heap} {a:Addr} {xs ys:Array Value} (h1:h.IsList a xs) (h2:h.IsList a ys):xs=ys:=by
 obtain ⟨o,e,_,n,d⟩:=h1
 obtain ⟨o',e',_,n',d'⟩:=h2
 rw [e] at e';cases e'
 rw [d] at d';cases d'
 rfl
theorem Zdu {h:Heap} {a:Addr} {its:Array Value} {ns:List Int} (hl:h.IsList a its) (hi:IntsAre its.toList ns):ZiB h (.ref a)=ns:=by
 have q:∃ ns a' its,Value.ref a=.ref a'/\h.IsList a' its/\IntsAre its.toList ns:=⟨ns,a,its,rfl,hl,hi⟩
 unfold ZiB
 rw [dif_pos q]
 obtain ⟨a',its',e,h1,h2⟩:=choose_spec q
 cases e
 have:=Zfj hl h1
 subst this
 exact ZeU h2 hi
theorem ZiC (h:Heap):WO (λx y=>Za9 (ZiB h x.1) (ZiB h y.1)):=ZhJ (κ:=λx:Keyed=>ZiB h x.1) (lt:=Za9) Zbg Zdr Zds
section
variable {X:Cx} (K:PySem.W.Frag)
def ZhL:List V->Hp->VK->Prop:=λxs H Q=>∃ (p:Addr) (ns:List Int),xs=[.ref p]/\SqL K H p (ns.map V.int)/\∀ (l:Addr) (ns':List Int),H l=none->ns'.Perm ns->ns'.Pairwise (· <= ·)->Q (.ref l) (upd H l (.lst (ns'.map V.int)))
theorem ZhM (h:X.K=K:=by rfl):Zbp X (.builtin "sorted") (ZhL K):=by
 subst h
 intro pins s σ H xs us Q I rv h
 obtain ⟨p,ns,rfl,hq,q⟩:=h
 obtain ⟨u,rfl,ru⟩:=rv.one
 cases ru
 obtain ⟨its,r,pl,hz⟩:=I.list hq
 have hl:=r.length
 rw [List.length_map] at hl hz
 have hi:=ZcR r
 have isI:∀ v∈its,∃ i t,v=.int i t:=hi.all
 refine Zc0 (good:=λx=>∃ i t,x.1=.int i t) ZhK pl.isList (by omega) isI (λh' k h2 E' R q=>?_) (λh' k=>Zdt λx y gx gy E' Q q=>?_) λout hp hr=>?_
 ·exact ZbQ (T := "int") (by decide) (λv hv=>by obtain ⟨i,t,rfl⟩:=isI v hv;exact typeIs_int _ _ _) h2 q
 ·obtain ⟨i,t,e1⟩:=gx
  obtain ⟨j,u,e2⟩:=gy
  simp only [e1,e2] at q ⊢
  exact oneLt_int q
 ·obtain ⟨o1,o2,o3⟩:=ZeT hp
  obtain ⟨e,he⟩:=sortedAll_at s.heap its (out.map (·.2))
  have rel:∀ l:List Keyed,(∀ x∈l,x.1=x.2/\x.1∈its)->Vals ((l.map λx=>Zcb x.2).map V.int) (l.map (·.2)):=by
   intro l
   induction l with
   | nil=>intro _;exact .nil
   | cons x l ih=>
    intro h
    obtain ⟨h1,h2⟩:=h x (List.mem_cons_self ..)
    obtain ⟨i,t,e⟩:=isI x.1 h2
    rw [h1] at e
    refine .cons ⟨t,?_⟩ (ih λy hy=>h y (List.mem_cons_of_mem _ hy))
    show x.2=.int (Zcb x.2) t
    rw [e]
    rfl
  have rv':=rel out.toList o2
  have pn:(out.toList.map λx=>Zcb x.2).Perm ns:=by
   have a1:=o1.map Zcb
   rw [Array.toList_map,List.map_map] at a1
   refine a1.trans (.of_eq ?_)
   have:∀ {its:List Value} {ns:List Int},IntsAre its ns->its.map Zcb=ns:=by
    intro its ns h
    induction h with
    | nil=>rfl
    | cons n t h ih=>rw [List.map_cons,ih];rfl
   exact this hi
  have ps:(out.toList.map λx=>Zcb x.2).Pairwise (· <= ·):=by
   rw [List.pairwise_map]
   refine (Zbx hr o3).imp_of_mem λ{x y} hx hy hxy=>?_
   have:=of_decide_eq_false hxy
   rw [<-(o2 x hx).1,<-(o2 y hy).1]
   omega
  refine ⟨.ref _,_,I.laid (a:=s.heap.objs.size+1) (t':=s.toks) (o:=.lst ((out.toList.map λx=>Zcb x.2).map V.int)) (λb o e=>sortedAll_old e) (Nat.le_succ _) ⟨by rw [List.length_map,pn.length_eq];exact hz,(out.map (·.2)).toList,e,by rw [Array.toList_map];exact rv',he⟩,rfl,q _ _ (I.hok.fresh (Nat.le_succ _)) pn ps⟩
def ZiD:List V->Hp->VK->Prop:=λxs H Q=>∃ (p:Addr) (zs:List (Addr×List Int)),xs=[.ref p]/\SqL K H p (zs.map λz=>V.ref z.1)/\(∀ z∈zs,SqL K H z.1 (z.2.map V.int)) /\
 ∀ (l:Addr) (zs':List (Addr×List Int)),H l=none->zs'.Perm zs->(zs'.map (·.2)).Pairwise (λa b=>Za9 b a=false)->Q (.ref l) (upd H l (.lst (zs'.map λz=>V.ref z.1)))
theorem ZeV:∀ {zs:List (Addr×List Int)} {its:List Value},Vals (zs.map λz=>V.ref z.1) its->its=zs.map λz=>Value.ref z.1
 | [],_,h=>by cases h;rfl
 | z::zs,_,h=>by
  cases h with
  | cons r h=>
   cases r
   rw [ZeV h]
   rfl
theorem Zd1:∀ (zs:List (Addr×List Int)),Vals (zs.map λz=>V.ref z.1) (zs.map λz=>Value.ref z.1)
 | []=>.nil
 | z::zs=>.cons rfl (Zd1 zs)
theorem ZiE (hu:X.A.units+64<cLine) (h:X.K=K:=by rfl):Zbp X (.builtin "sorted") (ZiD K):=by
 subst h
 intro pins s σ H xs us Q I rv h
 obtain ⟨p,zs,rfl,hq,hz,q⟩:=h
 obtain ⟨u,rfl,ru⟩:=rv.one
 cases ru
 obtain ⟨its,r,pl,hzl⟩:=I.list hq
 have hl:=r.length
 rw [List.length_map] at hl hzl
 have ei:=ZeV r
 have key:∀ z∈zs,∃ its:Array Value,s.heap.IsList z.1 its/\IntsAre its.toList z.2:=λz hzm=>by
  obtain ⟨iz,rz,pz,_⟩:=I.list (hz z hzm)
  exact ⟨iz.toArray,pz.isList,ZcR rz⟩
 have isL:∀ v∈its,∃ a,∃ it:Array Value,∃ ns,v=.ref a/\s.heap.IsList a it/\IntsAre it.toList ns:=λv hv=>by
  rw [ei] at hv
  obtain ⟨z,hzm,rfl⟩:=List.mem_map.mp hv
  obtain ⟨it,h1,h2⟩:=key z hzm
  exact ⟨z.1,it,z.2,rfl,h1,h2⟩
 have keepL:∀ {h':Heap} {a:Addr} {it:Array Value},(∀ c o,s.heap.get? c=some o->h'.get? c=some o)->s.heap.IsList a it->h'.IsList a it:=λk hl=>by
  obtain ⟨o,e,r⟩:=hl
  exact ⟨o,k _ _ e,r⟩
 refine Zc0 (good:=λx=>∃ a,∃ it:Array Value,∃ ns,x.1=.ref a/\s.heap.IsList a it/\IntsAre it.toList ns) (ZiC s.heap) pl.isList (by omega) isL (λh' k h2 E' R q=>?_) (λh' k=>Zdt λx y gx gy E' Q q=>?_) λout hp hr=>?_
 ·refine ZbQ (T := "list") (by decide) (λv hv=>?_) h2 q
  obtain ⟨a,it,ns,rfl,h1,_⟩:=isL v hv
  obtain ⟨o,e,c,_⟩:=keepL k h1
  exact ⟨o,e,c⟩
 ·obtain ⟨a,it,ns,e1,h1,h2⟩:=gx
  obtain ⟨c,jt,ms,e2,h3,h4⟩:=gy
  simp only [e1,e2,Zdu h1 h2,Zdu h3 h4] at q ⊢
  exact Zfi (xs:=it.toList) (ys:=jt.toList) (keepL k h1) (keepL k h3) h2 h4 (by rw [Around.in1_units,Around.in1_units];omega) q
 ·obtain ⟨o1,o2,o3⟩:=ZeT hp
  obtain ⟨e,he⟩:=sortedAll_at s.heap its (out.map (·.2))
  rw [ei] at o1
  obtain ⟨zs',p1,p2⟩:=Zgs o1
  have ps:(zs'.map (·.2)).Pairwise (λa b=>Za9 b a=false):=by
   have a1:=Zbx hr o3
   have a2:(out.toList.map (·.2)).Pairwise (λu v=>Za9 (ZiB s.heap v) (ZiB s.heap u)=false):=by
    rw [List.pairwise_map]
    refine a1.imp_of_mem λ{x y} hx hy hxy=>?_
    rw [<-(o2 x hx).1,<-(o2 y hy).1]
    exact hxy
   rw [Array.toList_map] at p2
   rw [<-p2,List.pairwise_map] at a2
   rw [List.pairwise_map]
   refine a2.imp_of_mem λ{x y} hx hy hxy=>?_
   obtain ⟨it,h1,h2⟩:=key x (p1.mem_iff.mp hx)
   obtain ⟨jt,h3,h4⟩:=key y (p1.mem_iff.mp hy)
   rw [Zdu h1 h2,Zdu h3 h4] at hxy
   exact hxy
  refine ⟨.ref _,_,I.laid (a:=s.heap.objs.size+1) (t':=s.toks) (o:=.lst (zs'.map λz=>V.ref z.1)) (λb o e=>sortedAll_old e) (Nat.le_succ _) ⟨by rw [List.length_map,p1.length_eq];exact hzl,(out.map (·.2)).toList,e,by rw [<-p2];exact Zd1 zs',he⟩,rfl,q _ _ (I.hok.fresh (Nat.le_succ _)) p1 ps⟩
end
end L2
namespace L2
open PySem PySem.Spec PyProof.Rows
section
variable {prog:Program} {w:World} {A:Around} {E:Value->Shared->Prop} {s:Shared}
end
section
variable {X:Cx}
def ZmW (K:PySem.W.Frag) (t:TGs):TG:=λv σ H Q=>∃ (l:Addr) (x y z:V),v=.ref l/\SqL K H l [x,y,z]/\t [x,y,z] σ H Q
end
end L2
namespace L2
open PySem PySem.Spec PyProof.Rows
section
variable {prog:Program} {w:World} {A:Around} {E:Value->Shared->Prop} {s:Shared}
def Fall (kz:List Int) (vs out:List Value):Prop:=∃ ps:List (Int×Value),ps.Perm (kz.zip vs)/\out=ps.map Prod.snd/\ps.Pairwise (λp q=>q.1<=p.1)
theorem fall_of {keys:List Value} {vs:List Value} {kz:List Int} {xs:Array Keyed} (hk:IntsAre keys kz) (hp:xs.toList.Perm (keys.zip vs)) (hr:xs.toList.Pairwise (kle λx y=>ltI (Zcb x.1) (Zcb y.1))):Fall kz vs ((xs.toList.map (·.2)).reverse):=by
 have en:∀ {l:List Value} {ns:List Int},IntsAre l ns->l.map Zcb=ns:=by
  intro l ns h
  induction h with
  | nil=>rfl
  | cons n t h ih=>rw [List.map_cons,ih];rfl
 refine ⟨(xs.toList.map λx=>(Zcb x.1,x.2)).reverse,(List.reverse_perm _).trans ?_,?_,?_⟩
 ·refine (hp.map λx:Keyed=>(Zcb x.1,x.2)).trans (.of_eq ?_)
  rw [<-en hk,List.zip_map_left]
  exact List.map_congr_left λ⟨x,y⟩ _=>rfl
 ·rw [List.map_reverse,List.map_map]
  rfl
 ·rw [List.pairwise_reverse,List.pairwise_map]
  refine hr.imp λ{x y} h=>?_
  have:=of_decide_eq_false h
  omega
structure ZjN (J:Shared->Prop) (a b:Addr):Prop where
 put:∀ (s:Shared) (c:Addr) (f:Obj->Obj),c=a\/c=b->J s->J { s with heap:=s.heap.update c f }
abbrev keyHeap (h:Heap) (a:Addr) (vs:List Value):Heap:=((h.update a (Obj.mapSeq λ_=>#[])).push (seqObj "tuple" vs.toArray 0)).push (seqObj "list" #[] 0)
theorem Zdv {a q:Addr} {vs:List Value} {kz:List Int} {n:Nat} {J:Shared->Prop} {P:PySem.Fin->Shared->Prop} (ha:s.heap.get? a=some (seqObj "list" vs.toArray n)) (hz:vs.length<=sizeLine) (hl:kz.length=vs.length)
  (S:ZjN J a (s.heap.objs.size+1)) (hJ:J { s with heap:=keyHeap s.heap a vs })
  (ask:∀ (i:Nat) (v:Value) (k:Int) (s1:Shared) (R:Value->Shared->Prop) (E':Value->Shared->Prop),vs[i]?=some v->kz[i]?=some k->J s1->s.heap.objs.size+1<s1.heap.objs.size ->
   (∀ t s2,J s2->s1.heap.objs.size<=s2.heap.objs.size->(∀ c o,c=a\/c=s.heap.objs.size+1->s1.heap.get? c=some o->s2.heap.get? c=some o)->R (.int k t) s2)->wpAny (model prog w) A (call (.ref q) [v]) R E' s1)
  (fin:∀ (s2:Shared) (out:Array Value) (c:Nat),J s2->s2.heap.get? a=some (seqObj "list" out c)->Fall kz vs out.toList->P (.done (.ret .none)) s2) :
  wpAny (model prog w) A (Builtin.«list.sort» ⟨[.ref a],[(Str.ofString "key", .ref q),(Str.ofString "reverse", .bool true)]⟩) P E s:=by
 rw [PyProof.Rows.ksk_t2]
 unfold PyProof.Rows.ksk_tree
 have hlt:=Heap.lt_size ha
 refine wpAny_bind (listItems_at ha rfl ?_)
 refine wpAny_bind (listUpdate_at ha rfl ?_ (by rw [List.size_toArray];exact hz) (Nat.zero_le _))
 have ha1:=get?_update_seq ha (λ_=>#[])
 generalize (if ((#[]:Array Value).size == vs.toArray.size)=true then n else n+1)=e1 at ha1
 refine wpAny_bind (seqEpoch_at ha1 rfl ?_)
 refine wpAny_bind (wpAny_newTuple ?_ hz)
 refine wpAny_bind (wpAny_newList ?_ (Nat.zero_le _))
 refine wpAny_holding ?_
 have z1:((s.heap.update a (Obj.mapSeq λ_=>#[])).push (seqObj "tuple" vs.toArray 0)).objs.size=s.heap.objs.size+1:=by rw [Heap.size_push,Heap.size_update]
 have hk1:(keyHeap s.heap a vs).get? (s.heap.objs.size+1)=some (seqObj "list" #[] 0):=by rw [<-z1];exact Heap.get?_push_size _ rfl
 have ha2:(keyHeap s.heap a vs).get? a=some (seqObj "list" #[] e1):=Heap.get?_push_of_some _ (Heap.get?_push_of_some _ ha1)
 have z2:(keyHeap s.heap a vs).objs.size=s.heap.objs.size+2:=by rw [Heap.size_push,z1]
 show wpAny (model prog w) A (PyProof.Rows.ksk_rest a (.ref q) true vs.toArray e1 (.ref ((s.heap.update a (Obj.mapSeq λ_=>#[])).push (seqObj "tuple" vs.toArray 0)).objs.size)) P E { s with heap:=keyHeap s.heap a vs }
 rw [z1]
 generalize keyHeap s.heap a vs=h0 at hJ hk1 ha2 z2 ⊢
 generalize hkS:s.heap.objs.size+1=kS at *
 have nak:a≠kS:=by rw [<-hkS];exact Nat.ne_of_lt (Nat.lt_succ_of_lt hlt)
 unfold PyProof.Rows.ksk_rest
 refine wpAny_bind (wpAny_rule ?_)
 refine wpAny_bind ?_
 rw [<-Array.forIn_toList]
 refine PyProof.Rows.ksk_fold (λi s1=>J s1/\kS<s1.heap.objs.size/\s1.heap.get? a=some (seqObj "list" #[] e1)/\∃ keys c,s1.heap.get? kS=some (seqObj "list" keys c)/\IntsAre keys.toList (kz.take i)) vs.toArray.toList 0 _ ⟨hJ,by show kS<h0.objs.size;omega,ha2,#[],0,hk1,.nil⟩ ?_ ?_
 ·rintro j x s1 hx ⟨j1,l1,a1,keys,c,k1,ik⟩
  have hx:vs[j]?=some x:=by simpa using hx
  have hj:j<vs.length:=(List.getElem?_eq_some_iff.mp hx).1
  have hk:kz[j]?=some kz[j]:=List.getElem?_eq_getElem (by omega)
  rw [Nat.zero_add] at ik
  refine wpAny_bind (wpAny_attempt (ask j x kz[j] s1 _ _ hx hk j1 l1 λt s2 j2 l2 kp=>?_))
  have k2:=kp kS _ (.inr rfl) k1
  have a2:=kp a _ (.inl rfl) a1
  have il:keys.size=j:=by
   have:=ik.length
   rw [Array.length_toList,List.length_take] at this
   omega
  refine wpAny_bind (listUpdate_at k2 rfl ?_ (by omega) (by show (keys.push _).size<=_;rw [Array.size_push];omega))
  refine wpAny_pure ⟨rfl,S.put _ _ _ (.inr rfl) j2,by show kS<(s2.heap.update kS _).objs.size;rw [Heap.size_update];omega,(Heap.get?_update_other _ _ (Ne.symm nak)).trans a2,keys.push (.int kz[j] t),_,get?_update_seq k2 (·.push (.int kz[j] t)),?_⟩
  rw [Array.toList_push,Nat.zero_add,List.take_add_one,hk]
  exact PyProof.Rows.ksk_snoc ik
 ·rintro s1 ⟨j1,l1,a1,keys,c,k1,ik⟩
  rw [show 0+vs.toArray.toList.length=kz.length by simp [hl],List.take_length] at ik
  have il:keys.size=vs.length:=by
   have:=ik.length
   rw [Array.length_toList] at this
   omega
  have isI:∀ v∈keys.toList,∃ i t,v=.int i t:=ik.all
  refine wpAny_bind (listItems_at k1 rfl ?_)
  have kzip:(keys.zip vs.toArray).toList=keys.toList.zip vs:=PyProof.Rows.ksk_zip keys vs
  have zsz:(keys.zip vs.toArray).size=vs.length:=by simp [Array.size_zip,il]
  have tail:∀ st:SortSt,failedOf st=none->(arrOf st).toList.Perm (keys.toList.zip vs)->(arrOf st).toList.Pairwise (kle λx y=>ltI (Zcb x.1) (Zcb y.1))->wpAny (model prog w) A (PyProof.Rows.ksk_tail a true e1 (.ref kS) st) P E s1:=by
   intro st f0 p0 r0
   have asz:(arrOf st).size=vs.length:=by
    have:=p0.length_eq
    rw [Array.length_toList,List.length_zip,Array.length_toList] at this
    omega
   unfold PyProof.Rows.ksk_tail
   refine wpAny_bind (listUpdate_at k1 rfl ?_ (by omega) (Nat.zero_le _))
   refine wpAny_bind (wpAny_letGo ?_)
   have a3:(s1.heap.update kS (Obj.mapSeq λ_=>#[])).get? a=some (seqObj "list" #[] e1):=(Heap.get?_update_other _ _ (Ne.symm nak)).trans a1
   refine wpAny_bind (seqEpoch_at a3 rfl ?_)
   refine wpAny_bind (listUpdate_at a3 rfl ?_ (Nat.zero_le _) (by rw [if_pos rfl,Array.size_reverse,Array.size_map];omega))
   rw [show (e1 != e1)=false by simp,f0]
   refine wpAny_pure (fin _ _ _ (S.put _ _ _ (.inl rfl) (S.put _ _ _ (.inr rfl) j1)) (get?_update_seq a3 _) ?_)
   rw [if_pos rfl,Array.toList_reverse,Array.toList_map]
   exact fall_of ik p0 r0
  unfold PyProof.Rows.ksk_end
  dsimp only
  rw [if_pos rfl]
  refine wpAny_bind (wpAny_rule ?_)
  split
  ·rename_i h2
   have h2:vs.length<2:=by simpa using h2
   refine wpAny_bind (wpAny_pure ?_)
   refine wpAny_bind (wpAny_mono (Q:=λr s'=>s'=s1/\r.2=SortSt.mk' general' (keys.zip vs.toArray).reverse #[] 7 none) (wpAny_pure ⟨rfl,rfl⟩) ?_ (λ_ _ z=>z))
   rintro ⟨_,st⟩ s' ⟨rfl,rfl⟩
   refine tail _ rfl ?_ ?_
   ·show (keys.zip vs.toArray).reverse.toList.Perm _
    rw [Array.toList_reverse,kzip]
    exact List.reverse_perm _
   ·show (keys.zip vs.toArray).reverse.toList.Pairwise _
    have hlz:(keys.zip vs.toArray).reverse.toList.length<2:=by rw [Array.length_toList,Array.size_reverse];omega
    match hm:(keys.zip vs.toArray).reverse.toList,hlz with
    | [],_=>exact .nil
    | [x],_=>simp
  ·rename_i h2
   have h2:¬ vs.length<2:=by simpa using h2
   have kk:wpAny (model prog w) A (keyKind' keys) (λkind s'=>kind=oneType'/\s'=s1) E s1:=by
    have:keys=keys.toList.toArray:=by simp
    rw [this]
    exact ZbQ (T := "int") (by decide) (λv hv=>by obtain ⟨i,t,rfl⟩:=isI v hv;exact typeIs_int _ _ _) (by rw [Array.length_toList];omega) ⟨rfl,rfl⟩
   refine wpAny_bind (wpAny_mono kk ?_ (λ_ _ z=>z))
   rintro _ s1' ⟨rfl,es⟩
   rw [es]
   have L:Zch (model prog w) A E s1 oneType' (λx y=>ltI (Zcb x.1) (Zcb y.1)) (λx=>∃ i t,x.1=.int i t):=Zdt λx y gx gy E' Q q=>by
    obtain ⟨i,t,e1⟩:=gx
    obtain ⟨j,u,e2⟩:=gy
    simp only [e1,e2] at q ⊢
    exact oneLt_int q
   refine wpAny_bind (wpAny_mono (Zbk (st:=SortSt.mk' oneType' (keys.zip vs.toArray).reverse #[] 7 none) (Q:=λ_ st=>failedOf st=none/\(arrOf st).toList.Perm (keys.toList.zip vs)/\(arrOf st).toList.Pairwise (kle λx y=>ltI (Zcb x.1) (Zcb y.1))) ZhK L rfl rfl rfl (λx hx=>?_) λst' p1 f1 r1=>⟨f1,?_,?_⟩) ?_ (λ_ _ z=>z))
   ·have hx:x∈(keys.zip vs.toArray).reverse.toList:=hx
    rw [Array.toList_reverse,List.mem_reverse,kzip] at hx
    exact isI _ (List.of_mem_zip (a:=x.1) (b:=x.2) hx).1
   ·have p1:(arrOf st').Perm (keys.zip vs.toArray).reverse:=p1
    refine p1.toList.trans ?_
    rw [Array.toList_reverse,kzip]
    exact List.reverse_perm _
   ·have p1:(arrOf st').Perm (keys.zip vs.toArray).reverse:=p1
    exact Zbx r1 p1.size_eq
   ·rintro ⟨_,st⟩ s' ⟨rfl,f1,p1,r1⟩
    exact tail st f1 p1 r1
end
end L2
namespace L2
open PySem PySem.Spec PyProof.Rows
section
variable {prog:Program} {w:World} {A:Around} {E:Value->Shared->Prop} {s:Shared}
def upI (a:Int) (n:Nat):List Int:=(List.range n).map λ(i:Nat)=>a+(i:Int)
theorem ZiF {a:Int}:∀ {n:Nat} {acc:Array Value},ItemsOf (λi v=>∃ t,v=Value.int (a+i * 1) t) acc n->IntsAre acc.toList (upI a n):=by
 intro n acc h
 have e:∀ (l:List Value) (b:Int),(∀ (j:Nat) v,l[j]?=some v->∃ t,v=Value.int (b+j) t)->IntsAre l ((List.range l.length).map λ(i:Nat)=>b+(i:Int)):=by
  intro l
  induction l with
  | nil=>intro b _;exact .nil
  | cons x l ih=>
   intro b hx
   obtain ⟨t,e⟩:=hx 0 x rfl
   subst e
   rw [List.length_cons,List.range_succ_eq_map,List.map_cons,List.map_map]
   have h2:=ih (b+1) λj v hv=>by
    obtain ⟨t,e⟩:=hx (j+1) v (by simpa using hv)
    exact ⟨t,by rw [e];congr 1;omega⟩
   have e3:((List.range l.length).map λ(i:Nat)=>b+1+(i:Int))=(List.range l.length).map ((λ(i:Nat)=>b+(i:Int))∘Nat.succ):=List.map_congr_left λi _=>by show b+1+(i:Int)=b+((i+1:Nat):Int);omega
   rw [e3] at h2
   exact .cons _ t h2
 have:=e acc.toList a λj v hv=>by
  rw [Array.getElem?_toList] at hv
  obtain ⟨t,e⟩:=h.2 j v hv
  exact ⟨t,by rw [e];congr 1;omega⟩
 rw [Array.length_toList,h.1] at this
 exact this
theorem ZeW:∀ {vs:List Value} {ns:List Int} {i:Nat} {v:Value},IntsAre vs ns->vs[i]?=some v->∃ k t,ns[i]?=some k/\v=.int k t
 | _,_,i,v,.nil,h=>by simp at h
 | _,_,0,v,.cons n t _,h=>⟨n,t,rfl,by simpa using h.symm⟩
 | _,_,i+1,v,.cons n t r,h=>by
  obtain ⟨k,t',e1,e2⟩:=ZeW (i:=i) r (by simpa using h)
  exact ⟨k,t',by simpa using e1,e2⟩
theorem Zd2:∀ {l:List Value} {ns:List Int},IntsAre l ns->l.map Zcb=ns
 | _,_,.nil=>rfl
 | _,_,.cons n t r=>by rw [List.map_cons,Zd2 r];rfl
theorem ZeX:∀ {l:List Value},(∀ v∈l,∃ i t,v=.int i t)->IntsAre l (l.map Zcb)
 | [],_=>.nil
 | x::l,h=>by
  obtain ⟨i,t,e⟩:=h x List.mem_cons_self
  subst e
  exact .cons i t (ZeX λv hv=>h v (List.mem_cons_of_mem _ hv))
theorem Zgt {r:Addr} {a b:Int} {t u v:Tok} {n:Nat} {R:Result->Shared->Prop} (hh:A.handled=none) (hr:IsRange s.heap r a b 1 t u v) (hsmall:Builtin.Range.small a b 1=true) (hn:Builtin.Range.rangeSize a b 1=n) (hlen:n<=1000)
  (hR:∀ h' tk (acc:Array Value) c,(∀ c o,s.heap.get? c=some o->h'.get? c=some o)->h'.get? s.heap.objs.size=some { cls:=.type "list", dict:=none,data:=.seq acc c,slots:=#[] }->IntsAre acc.toList (upI a n)->R (.ok (.ret (.ref s.heap.objs.size))) { s with heap:=h',toks:=tk }) :
  codeAny (model prog w) A (.builtin "proto.collect" ⟨[.ref r],[]⟩) R s:=by
 refine codeAny_builtin F.entry_proto_collect ?_
 rw [Around.under_plainId F.plain_proto_collect _]
 refine wpAny_bind (wpAny_newList ?_ (Nat.zero_le _))
 refine wpAny_pure ⟨plainId_quiet F.plain_list_iadd _,codeAny_builtin F.entry_list_iadd ?_⟩
 rw [Around.under_plainId F.plain_list_iadd _]
 have hS:(s.heap.push { cls:=.type "list", data:=.seq #[] }).get? s.heap.objs.size=some { cls:=.type "list", data:=.seq #[] }:=Heap.get?_push_size _ rfl
 exact wpAny_extend_range (A:=A) (R:=R) (s:={ s with heap:=s.heap.push { cls:=.type "list", data:=.seq #[] } }) hh (Heap.get?_push_of_some _ hr) hsmall hn (Nat.le_trans hlen (by decide)) s.heap.objs.size (.ref s.heap.objs.size) 0 hS λh' tk acc c' kp eS it=>
  hR h' tk acc c' (λd o e=>kp d o (Nat.ne_of_lt (Heap.lt_size e)) (Heap.get?_push_of_some _ e)) eS (ZiF it)
theorem Zev {r:Addr} {a b:Int} {t u v:Tok} {n:Nat} {Q:List Value->Shared->Prop} (hh:A.handled=none) (hr:IsRange s.heap r a b 1 t u v) (hsmall:Builtin.Range.small a b 1=true) (hn:Builtin.Range.rangeSize a b 1=n) (hlen:n<=1000)
  (hQ:∀ h' tk (vs:List Value),(∀ c o,s.heap.get? c=some o->h'.get? c=some o)->s.heap.objs.size<=h'.objs.size->IntsAre vs (upI a n)->Q vs { s with heap:=h',toks:=tk }):wpAny (model prog w) A (collect (.ref r)) Q E s:=
 wpAny_bind (wpAny_runValue (Zgt hh hr hsmall hn hlen λh' tk acc c k eS it=>wpAny_bind (wpAny_load eS (wpAny_pure (hQ h' tk acc.toList k (Nat.le_of_lt (Heap.lt_size eS)) it)))))
theorem ZcM {r q:Addr} {a b:Int} {t u v:Tok} {n:Nat} {kz:List Int} {J:Shared->Prop} {Q:Value->Shared->Prop} (hh:A.in1.in1.handled=none) (hr:IsRange s.heap r a b 1 t u v) (hsmall:Builtin.Range.small a b 1=true) (hn:Builtin.Range.rangeSize a b 1=n) (hlen:n<=1000) (hl:kz.length=n)
  (hJ:∀ h' tk,(∀ c o,s.heap.get? c=some o->h'.get? c=some o)->J { s with heap:=h',toks:=tk })
  (put:∀ (s1:Shared) (c:Addr) (f:Obj->Obj),s.heap.objs.size<=c->J s1->J { s1 with heap:=s1.heap.update c f })
  (ask:∀ (i:Nat) (k:Int) (t:Tok) (s1:Shared) (R:Value->Shared->Prop) (E':Value->Shared->Prop),kz[i]?=some k->i<n->J s1 ->
   (∀ t s2,J s2->s1.heap.objs.size<=s2.heap.objs.size->(∀ c o,s.heap.objs.size<=c->s1.heap.get? c=some o->s2.heap.get? c=some o)->R (.int k t) s2)->wpAny (model prog w) A.in1.in1 (call (.ref q) [.int (a+(i:Int)) t]) R E' s1)
  (fin:∀ (s2:Shared) (l:Addr) (out:Array Value) (c:Nat) (ps:List (Int×Int)),J s2->s.heap.objs.size<=l->s2.heap.get? l=some (seqObj "list" out c)->IntsAre out.toList (ps.map Prod.snd)->ps.Perm (kz.zip (upI a n))->ps.Pairwise (λp q=>q.1<=p.1)->Q (.ref l) s2) :
  wpAny (model prog w) A (call (.builtin "sorted") [.ref r] [(Str.ofString "key", .ref q),(Str.ofString "reverse", .bool true)]) Q E s:=by
 have h16:=sizeLine_eq
 refine call_function_entry_kw kind_sorted plain_sorted entry_sorted (ksk_s2 _ _ _) ?_
 unfold Builtin.sorted
 refine wpAny_bind (wpAny_pure ?_)
 refine wpAny_bind (Zev hh hr hsmall hn hlen λh1 tk vs k1 sz iv=>?_)
 have hvl:vs.length=n:=by
  have:=iv.length
  unfold upI at this
  rw [List.length_map,List.length_range] at this
  exact this
 refine wpAny_bind (wpAny_newList ?_ (by omega))
 have k2:∀ c o,s.heap.get? c=some o->(h1.push { cls:=Value.type "list", data:=Data.seq vs.toArray }).get? c=some o:=λc o e=>Heap.get?_push_of_some _ (k1 c o e)
 have eL:(h1.push { cls:=Value.type "list", data:=Data.seq vs.toArray }).get? h1.objs.size=some (seqObj "list" vs.toArray 0):=Heap.get?_push_size _ rfl
 have zz:(h1.push { cls:=Value.type "list", data:=Data.seq vs.toArray }).objs.size=h1.objs.size+1:=Heap.size_push ..
 have j1:J { s with heap:=h1.push { cls:=Value.type "list", data:=Data.seq vs.toArray },toks:=tk }:=hJ _ tk k2
 show wpAny _ _ _ _ _ { s with heap:=h1.push { cls:=Value.type "list", data:=Data.seq vs.toArray },toks:=tk }
 have hput:∀ h':Heap,(∀ c o,s.heap.get? c=some o->h'.get? c=some o)->J { s with heap:=h',toks:=tk }:=λh' k=>hJ h' tk k
 generalize h1.push { cls:=Value.type "list", data:=Data.seq vs.toArray }=h2 at k2 eL zz j1 ⊢
 refine wpAny_bind (wpAny_holding (wpAny_call_entry_kw (s:={ s with heap:=h2,toks:=tk }) slot_list_sort ⟨_,eL,rfl⟩ entry_list_sort ?_ (ksk_l2 _ _ _)))
 refine Zdv (s:={ s with heap:=h2,toks:=tk }) (J:=λs1=>J s1) eL (by omega) (hl.trans hvl.symm) ⟨λs1 c f hc j=>put s1 c f (by rcases hc with rfl | rfl;exact sz;show _<=h2.objs.size+1;omega) j⟩ ?_ ?_ ?_
 ·refine hput _ λc o e=>Heap.get?_push_of_some _ (Heap.get?_push_of_some _ ((Heap.get?_update_other _ _ ?_).trans (k2 c o e)))
  exact Nat.ne_of_gt (Nat.lt_of_lt_of_le (Heap.lt_size e) sz)
 ·intro i v k s1 R E' hv hk j _ hR
  have hi:i<n:=by rw [<-hvl];exact (List.getElem?_eq_some_iff.mp hv).1
  obtain ⟨t,e⟩:∃ t,v=.int (a+(i:Int)) t:=by
   obtain ⟨k',t,e1,e2⟩:=ZeW iv hv
   unfold upI at e1
   rw [List.getElem?_map,List.getElem?_range hi] at e1
   exact ⟨t,by rw [e2,<-Option.some.inj e1]⟩
  subst e
  exact ask i k t s1 R E' hk hi j λt s2 j2 l2 kp=>hR t s2 j2 l2 λc o hc e=>kp c o (by rcases hc with rfl | rfl;exact sz;show _<=h2.objs.size+1;omega) e
 ·intro s2 out c j e F
  obtain ⟨ps,p1,p2,p3⟩:=F
  refine ⟨.none,rfl,wpAny_pure ⟨_,rfl,?_⟩⟩
  refine fin s2 _ out c (ps.map λx=>(x.1,Zcb x.2)) j sz e ?_ ?_ ?_
  ·rw [List.map_map,show (Prod.snd∘λx:Int×Value=>(x.1,Zcb x.2))=Zcb∘Prod.snd from rfl,<-List.map_map,<-p2]
   refine ZeX λv hv=>?_
   rw [p2] at hv
   obtain ⟨x,hx,rfl⟩:=List.mem_map.mp hv
   exact iv.all _ (List.of_mem_zip (a:=x.1) (b:=x.2) (p1.mem_iff.mp hx)).2
  ·refine (p1.map λx=>(x.1,Zcb x.2)).trans (.of_eq ?_)
   rw [<-Zd2 iv,List.zip_map_right]
   exact List.map_congr_left λ⟨x,y⟩ _=>rfl
  ·rw [List.pairwise_map]
   exact p3
end
end L2
namespace L2
open PySem PySem.Spec PyProof.Rows
section
variable {prog:Program} {w:World} {A:Around} {E:Value->Shared->Prop} {s:Shared}
theorem Zhj {fL c':Addr} {qual:Str} {params:Arguments} {body:Expr} {scope:Scope} {clos:List (Str×Addr)} {pm ctv arg:Value} {x:Str} {R:Value->Shared->Prop} (hroom:A.depth<recursionLimit)
  (ho:s.heap.get? fL=some (PySem.W.kla_obj "<lambda>" qual params body scope clos pm c' ctv)) (hcd:s.heap.CodeRec (.ref c') qual) (hnl:s.heap.NoLimit) (hco:scope.isCoroutine=false) (hgen:scope.isGenerator=false) (hk:scope.kind=.function)
  (hbind:bindArgs (PySem.W.kla_fn "<lambda>" qual params body scope clos pm (.ref c') ctv) ⟨[arg],[]⟩=pure [(x,arg)]) (hloc:scope.names.lookup x=some .local) (hcell:∀ y∈scope.names,y.2≠.cell)
  (h:∀ (h1:Heap) (L:Addr),(∀ b o,s.heap.get? b=some o->h1.get? b=some o)->s.heap.objs.size<=h1.objs.size->h1.Ns L (λy=>[(x,arg)].reverse.lookup y) ->
   wpAny (model prog w) (A.deeper (PySem.W.envX qual scope L fL (.ref c') clos)) (eval body (PySem.W.envX qual scope L fL (.ref c') clos)) R (λ_ _=>False) { s with heap:=h1,toks:=s.toks+1 }) :
  wpAny (model prog w) A (call (.ref fL) [arg]) R E s:=by
 refine wpAny_call (PySem.W.kla_callFunE hroom ho rfl hco hgen rfl hcd ?_)
 rw [hbind]
 refine wpAny_pure (wpAny_newFunctionEnv hcell (λy hy=>?_) (λh1 hns hsb=>⟨?_,?_⟩) hk)
 ·cases List.mem_singleton.mp hy
  exact hloc
 ·exact hnl.fresh _ hsb
 ·refine PySem.W.kla_codeExpr ?_
  have k1:∀ b o,s.heap.get? b=some o->h1.get? b=some o:=λb o e=>hsb.extBut b o (Nat.ne_of_lt (Heap.lt_size e)) (Heap.get?_push_of_some _ e)
  refine wpAny_mono (h h1 s.heap.objs.size k1 ?_ hns) (λv s' hR=>hR) λ_ _ z=>z.elim
  rw [hsb.1,Heap.size_push]
  exact Nat.le_succ _
theorem Zgu {env:Env} {x y:Str} {p1 p2 p3 p4 p5 p6 p7:Pos} {d1 d2:Nat} {m:Str->Option Value} {i k:Int} {t u:Tok} {c l p:Addr} {items vals:Array Value} {Q:Value->Shared->Prop} (hk:env.scope.kind=.function)
  (hkx:env.kindOf x=some .local) (hns:s.heap.Ns env.locals m) (hmx:m x=some (.int i t)) (hky:env.kindOf y=some .free) (hcl:env.cells.lookup y=some c) (hcell:s.heap.IsCell c (some (.ref l))) (hl:s.heap.IsList l items)
  (h0:2<=i) (h1:i<2 ^ 62) (hit:items[(i-2).toNat]?=some (.ref p)) (hp:s.heap.IsTuple p vals) (hv:vals[0]?=some (.int k u)) (hz:vals.size<=sizeLine)
  (hdx:(x == ("__debug__" : Str))=false) (hdy:(y == ("__debug__" : Str))=false) (hcy:(y == ("__classdict__" : Str))=false) (q:∀ tk,Q (.int k u) { s with toks:=tk }) :
  wpAny (model prog w) A (eval (.Subscript (.Subscript (.Name y p1) (.BinOp (.Name x p2) .Sub (.Constant (.int 2) d1 p3) p4) p5) (.Constant (.int 0) d2 p6) p7) env) Q E s:=by
 refine Subscript_ (Subscript_ (wpAny_Name (wpAny_loadName_free hk hky hcl hcell ?_ hcy) hdy))
 refine wpAny_BinOp (wpAny_Name (wpAny_loadName_local hk hkx hns hmx ?_) hdx)
 refine wpAny_Constant_int ?_
 refine PyProof.Rows.sub_int ?_
 refine item_listR hl (by omega) (by omega) hit ?_ rfl
 refine wpAny_Constant_int ?_
 have h16:=sizeLine_eq
 have hvz:0<vals.size:=by
  have:=Array.getElem?_eq_some_iff.mp hv
  exact this.1
 exact subscriptTail_builtinR (x:=.int k u) hp.typeIs slot_tuple_getitem.lookup (getItem_tuple (j:=0) (Q:=λr s'=>r=.int k u/\Q r s') hp (by omega) (by omega) (by rw [seqIndex_of (by omega) (by omega)];rfl) hv ⟨rfl,q _⟩) rfl
end
end L2
namespace L2
open PySem PySem.Spec PyProof.Rows
def SameL (P:Addr) (H H':Hp):Prop:=∀ a o,a≠P->H a=some o->H' a=some o
theorem SameL.of {P:Addr} {H H':Hp} (s:Same H H'):SameL P H H':=λa o _ e=>s a o e
theorem SameL.trans {P:Addr} {H H' H'':Hp} (a:SameL P H H') (b:SameL P H' H''):SameL P H H'':=λc o n e=>b c o n (a c o n e)
def ZjO (qual:Str) (oc:Obj):Prop:=∃ vs t,oc.data=.fields vs/\vs[1]?=some (.str qual t)
def LamOn (P:Addr) (line col:Nat) (qual:Str) (H:Hp) (c:Addr):Prop:=H P=some (.tbl #[rawInt line,rawInt col,.ref c])/\∃ oc,H c=some (.frz oc (.own c))/\ZjO qual oc
def LamSt (P:Addr) (line col:Nat) (qual:Str) (H:Hp):Prop:=H P=some (.tbl #[])\/∃ c,LamOn P line col qual H c
theorem LamOn.same {P:Addr} {line col:Nat} {qual:Str} {H H':Hp} {c:Addr} (h:LamOn P line col qual H c) (s:Same H H'):LamOn P line col qual H' c:=⟨s _ _ h.1,h.2.elim λoc z=>⟨oc,s _ _ z.1,z.2⟩⟩
theorem LamSt.same {P:Addr} {line col:Nat} {qual:Str} {H H':Hp} (h:LamSt P line col qual H) (s:Same H H'):LamSt P line col qual H':=h.imp (λe=>s _ _ e) λ⟨c,z⟩=>⟨c,z.same s⟩
section
variable {X:Cx}
def ZmX (P:Addr) (qual:Str) (params:Arguments) (body:Expr) (scope:Scope) (clos:List (Str×Addr)) (pos:Pos) (pm:Value):TE:=λσ H Q=>LamSt P pos.line pos.col qual H /\
 ∀ (f c:Addr) (ctv:Value) (H':Hp),SameL P H H'->LamOn P pos.line pos.col qual H' c->H f=none->H' f=some (.frz (PySem.W.kla_obj "<lambda>" qual params body scope clos pm c ctv) (.own f))->Q (.ref f) H'
theorem ZjP {params:Arguments} {body:Expr} {scope:Scope} {pos:Pos} {clos:List (Str×Addr)} {c P:Addr} {qual:Str} (hcl:closureFor scope X.env=pure clos) (hcode:X.env.code=.ref c) (C:PySem.W.CodeHd X.base c P) (hb:X.base.BuiltinsAt X.mg P) (hq:X.env.qual ++ "<lambda>" = qual)
  (hdef:defaultsOf params X.env=([],[]):=by rfl):PE X (.Lambda params body scope pos) (ZmX P qual params body scope clos pos ((X.mg "__name__").getD .none)):=by
 intro pins s σ H Q I h
 obtain ⟨st,q⟩:=h
 refine PySem.W.kla_eval hdef ?_
 rw [hq]
 have hg:s.heap.Ns mainGlobals X.mg:=I.ok.mod.glob.keeps I.bk
 have hB:s.heap.BuiltinsAt X.mg P:=by
  obtain ⟨bm,o,h1,h2,h3,h4,h5,h6⟩:=hb
  exact ⟨bm,o,h1,h2,h3,h4,I.bk _ _ h5,h6⟩
 rcases st with e0 | ⟨c',e1,oc,e2,vs,tq,hd,hv⟩
 ·have hP:s.heap.get? P=some (PySem.W.tabObj #[]):=I.hok P _ e0
  have hgP:mainGlobals≠P:=λz=>by
   obtain ⟨o,es,ep,e,hd,_⟩:=hg
   rw [z,hP] at e;cases e;cases hd
  refine PySem.W.kla_makeFunction (mg:=X.mg) hcl I.ok.glob hg hcode (C.keeps I.bk) hP trivial rfl hgP hB λc' ctv h' tk hx hge hlt hrec htb=>?_
  obtain ⟨c2,oc,vs,tq,ec,hoc,hd,hv⟩:=hrec
  cases ec
  have hcP:c'≠P:=λz=>by rw [z] at hge;exact Nat.lt_irrefl _ (Nat.lt_of_lt_of_le (Heap.lt_size hP) hge)
  have hlP:P<h'.objs.size:=Heap.lt_size htb
  have nc:H c'=none:=I.hok.fresh hge
  have hsz:s.heap.objs.size<=h'.objs.size:=Nat.le_trans hge (Nat.le_of_lt hlt)
  have nf:H h'.objs.size=none:=I.hok.fresh hsz
  have hcf:c'≠h'.objs.size:=Nat.ne_of_lt hlt
  have hPf:P≠h'.objs.size:=Nat.ne_of_lt hlP
  generalize hH':upd (upd (upd H P (.tbl #[rawInt pos.line,rawInt pos.col,.ref c'])) c' (.frz oc (.own c'))) h'.objs.size (.frz (PySem.W.kla_obj "<lambda>" qual params body scope clos ((X.mg "__name__").getD .none) c' ctv) (.own h'.objs.size))=H'
  have aP:H' P=some (.tbl #[rawInt pos.line,rawInt pos.col,.ref c']):=by rw [<-hH',Zas hPf,Zas (Ne.symm hcP),Zab]
  have ac:H' c'=some (.frz oc (.own c')):=by rw [<-hH',Zas hcf,Zab]
  have af:H' h'.objs.size=some (.frz (PySem.W.kla_obj "<lambda>" qual params body scope clos ((X.mg "__name__").getD .none) c' ctv) (.own h'.objs.size)):=by rw [<-hH',Zab]
  have ao:∀ b,b≠P->b≠c'->b≠h'.objs.size->H' b=H b:=λb h1 h2 h3=>by rw [<-hH',Zas h3,Zas h2,Zas h1]
  have sl:SameL P H H':=λb o hb e=>by
   rw [ao b hb (λz=>by rw [z,nc] at e;cases e) (λz=>by rw [z,nf] at e;cases e)];exact e
  have kp:∀ b o,b≠P->s.heap.get? b=some o->(h'.push (PySem.W.kla_obj "<lambda>" qual params body scope clos ((X.mg "__name__").getD .none) c' ctv)).get? b=some o:=λb o hb e=>Heap.get?_push_of_some _ (hx b o hb e)
  have nP:∀ b,H b=none->b≠P:=λb n z=>by rw [z,e0] at n;cases n
  have I':Inv X pins σ H' { s with heap:=h'.push (PySem.W.kla_obj "<lambda>" qual params body scope clos ((X.mg "__name__").getD .none) c' ctv),toks:=tk }:=by
   refine I.un ⟨λb o e n _ _=>kp b o (nP b n) e,λb o e n _ _=>⟨o.slots,kp b o (nP b n) e⟩,λb o e n _=>?_,λb o e _=>?_,λb ys e=>sl b _ (λz=>by rw [z,e0] at e;cases e) e,λb o u e=>sl b _ (λz=>by rw [z,e0] at e;cases e) e,λb ps e=>?_⟩ λb o e=>?_
   ·rw [ao b (nP b n) (Nat.ne_of_lt (Nat.lt_of_lt_of_le (Heap.lt_size e) hge)) (Nat.ne_of_lt (Nat.lt_of_lt_of_le (Heap.lt_size e) hsz))];exact n
   ·by_cases z:b=P
    ·rw [z];exact ⟨_,Heap.get?_push_of_some _ htb⟩
    ·exact ⟨o,kp b o z e⟩
   ·by_cases z:b=P
    ·rw [z,e0] at e;cases e
     exact ⟨_,by rw [z];simpa using aP⟩
    ·exact ⟨#[],by rw [sl b _ z e];simp⟩
   ·by_cases z:b=P
    ·rw [z,aP] at e;cases e
     rw [z]
     exact Heap.get?_push_of_some _ htb
    ·by_cases z2:b=c'
     ·rw [z2,ac] at e;cases e
      rw [z2]
      exact ⟨Heap.get?_push_of_some _ hoc,_,Heap.get?_push_of_some _ hoc⟩
     ·by_cases z3:b=h'.objs.size
      ·rw [z3,af] at e;cases e
       rw [z3]
       exact ⟨Heap.get?_push_size _ rfl,_,Heap.get?_push_size _ rfl⟩
      ·rw [ao b z z2 z3] at e
       refine (I.hok b o e).stay (λd u hd qd=>kp d u ?_ qd) (λd qd=>sl d _ (λy=>by rw [y,e0] at qd;cases qd) qd) λd ys qd=>sl d _ (λy=>by rw [y,e0] at qd;cases qd) qd
       rcases hd with rfl | hd
       ·exact z
       ·exact λy=>by rw [y,e0] at hd;cases hd
  exact ⟨.ref h'.objs.size,H',I',rfl,q _ c' ctv H' sl ⟨aP,oc,ac,vs,tq,hd,hv⟩ nf af⟩
 ·have hP:s.heap.get? P=some (PySem.W.tabObj #[rawInt pos.line,rawInt pos.col,.ref c']):=I.hok P _ e1
  refine PySem.W.kla_makeFunctionHit (cv:=.ref c') (mg:=X.mg) hcl I.ok.glob hg hcode (C.keeps I.bk) hP trivial ?_ hB λctv h' tk hk hsz=>?_
  ·simp [codeAmong,rawInt]
  ·have nf:H h'.objs.size=none:=I.hok.fresh hsz
   have I':=I.laid (a:=h'.objs.size) (o:=.frz (PySem.W.kla_obj "<lambda>" qual params body scope clos ((X.mg "__name__").getD .none) c' ctv) (.own h'.objs.size)) (h':=h'.push (PySem.W.kla_obj "<lambda>" qual params body scope clos ((X.mg "__name__").getD .none) c' ctv)) (t':=tk) (λb o e=>Heap.get?_push_of_some _ (hk b o e)) hsz ⟨Heap.get?_push_size _ rfl,_,Heap.get?_push_size _ rfl⟩
   have sm:Same H (upd H h'.objs.size (.frz (PySem.W.kla_obj "<lambda>" qual params body scope clos ((X.mg "__name__").getD .none) c' ctv) (.own h'.objs.size))):=Same.new nf
   exact ⟨.ref h'.objs.size,_,I',rfl,q _ c' ctv _ (.of sm) (LamOn.same ⟨e1,oc,e2,vs,tq,hd,hv⟩ sm) nf Zab⟩
end
end L2
namespace L2
open PySem PySem.Spec PyProof.Rows
section
variable {X:Cx}
theorem Zfk {id:String} {ks:List Str} {r:St->List V->List V->Hp->VK->Prop} {x:Str} {p pos:Pos} {e:Expr} {es:List Expr} {kws:List Keyword} {t tk:TA}
  (hc:∀ (pins:List (Addr×Obj)) (s:Shared) (σ:St) (H:Hp) (xs:List V) (us:List Value) (zs:List V) (ws:List Value) (Q:VK),Inv X pins σ H s->Vals xs us->Vals zs ws->r σ xs zs H Q->wpAny (model X.prog X.w) X.A (call (.builtin id) us (ks.zip ws)) (EP X pins σ Q) X.xe s)
  (hg:Gl X x) (hm:X.mg x=none) (hv:bootBuiltins x=some (.builtin id)) (ha:PA X (e::es) t) (hkw:PK X kws tk) (hks:(backToKw pos (keywordEach kws X.env)).filterMap (·.1)=ks:=by rfl)
  (hn:x ≠ "__name__" := by decide) (hdb:(x == ("__debug__" : Str))=false:=by decide)
  (he:backTo pos (starEach (e::es) X.env)=(false,eval e X.env)::backTo pos (starEach es X.env):=by rfl) (hpl:(backTo pos (starEach (e::es) X.env)).any (·.1)=false:=by rfl) (hall:(backToKw pos (keywordEach kws X.env)).all (·.1.isSome)=true:=by rfl) (hno:(backToKw pos (keywordEach kws X.env)).any (·.1.isNone)=false:=by rfl) :
  PE X (.Call (.Name x p) (e::es) kws pos) (λσ H Q=>t σ H λvs H1=>tk σ H1 λzs H2=>r σ vs zs H2 Q):=by
 intro pins s σ H Q I h
 refine wpAny_Call_Name_kw (Zcv I hg hm hv ?_ hn hdb)
 refine PyProof.Rows.callWith_kw (thn (ha pos pins s σ H _ I h) λus s1 ⟨vs,H1,I1,r1,q1⟩=>thn (hkw pos pins s1 σ H1 _ I1 q1) λws s2 ⟨zs,H2,I2,r2,q2⟩=>?_) he hpl hall hno
 rw [hks]
 exact hc pins s2 σ H2 vs us zs ws Q I2 r1 r2 q2
def Zlj (K:PySem.W.Frag) (j:Nat) (qual:Str) (params:Arguments) (body:Expr) (scope:Scope) (clos:List (Str×Addr)) (pm:Value):St->List V->List V->Hp->VK->Prop:=λσ xs zs H Q=>
 ∃ (r f c nl:Addr) (oc:Obj) (ctv:Value) (n:Nat) (ts:List (Addr×Int×List V)),xs=[.ref r]/\zs=[.ref f,.bl true]/\H r=some (.rng 2 ((n:Nat)+2))/\n<=1000 /\
  H f=some (.frz (PySem.W.kla_obj "<lambda>" qual params body scope clos pm c ctv) (.own f))/\H c=some (.frz oc (.own c))/\ZjO qual oc/\σ[j]?=some (some (.ref nl))/\SqL K H nl (ts.map λt=>V.ref t.1)/\ts.length=n/\(∀ t∈ts,SqT K H t.1 (V.int t.2.1::t.2.2)) /\
  ∀ (l:Addr) (ps:List (Int×Int)),H l=none->ps.Perm ((ts.map (·.2.1)).zip (upI 2 n))->ps.Pairwise (λp q=>q.1<=p.1)->Q (.ref l) (upd H l (.lst ((ps.map Prod.snd).map V.int)))
theorem Zgv {K:PySem.W.Frag} {j:Nat} {x y:Str} {qual:Str} {params:Arguments} {scope:Scope} {pm:Value} {cc:Addr} {p1 p2 p3 p4 p5 p6 p7:Pos} {d1 d2:Nat} (hK:X.K=K) (hc:X.calm=true) (hroom:X.A.in1.in1.depth<recursionLimit)
  (hN:X.N[j]?=some y) (hv:Vis X.env.scope y) (hky:X.env.kindOf y=some .cell) (hcy:X.env.cells.lookup y=some cc) (hco:scope.isCoroutine=false) (hgen:scope.isGenerator=false) (hk:scope.kind=.function)
  (hbind:∀ (c:Addr) (ctv arg:Value),bindArgs (PySem.W.kla_fn "<lambda>" qual params (.Subscript (.Subscript (.Name y p1) (.BinOp (.Name x p2) .Sub (.Constant (.int 2) d1 p3) p4) p5) (.Constant (.int 0) d2 p6) p7) scope [(y,cc)] pm (.ref c) ctv) ⟨[arg],[]⟩=pure [(x,arg)]) (hlx:scope.names.lookup x=some .local) (hly:scope.names.lookup y=some .free) (hcell:∀ z∈scope.names,z.2≠.cell)
  (hdx:(x == ("__debug__" : Str))=false) (hdy:(y == ("__debug__" : Str))=false) (hcd:(y == ("__classdict__" : Str))=false)
  (pins:List (Addr×Obj)) (s:Shared) (σ:St) (H:Hp) (xs:List V) (us:List Value) (zs:List V) (ws:List Value) (Q:VK) (I:Inv X pins σ H s) (rx:Vals xs us) (rz:Vals zs ws)
  (h:Zlj K j qual params (.Subscript (.Subscript (.Name y p1) (.BinOp (.Name x p2) .Sub (.Constant (.int 2) d1 p3) p4) p5) (.Constant (.int 0) d2 p6) p7) scope [(y,cc)] pm σ xs zs H Q) :
  wpAny (model X.prog X.w) X.A (call (.builtin "sorted") us (([Str.ofString "key", Str.ofString "reverse"]:List Str).zip ws)) (EP X pins σ Q) X.xe s:=by
 subst hK
 obtain ⟨r,f,c,nl,oc,ctv,n,ts,rfl,rfl,er,hn,ef,ec,⟨vs1,tq,hd1,hv1⟩,eσ,hq,htl,ht,q⟩:=h
 obtain ⟨u,rfl,ru⟩:=rx.one
 cases ru
 obtain ⟨u1,u2,rfl,ru1,ru2⟩:=rz.two
 cases ru1
 cases ru2
 obtain ⟨t0,t1,t2,eR⟩:=I.hok r _ er
 have h16:(16777216:Nat)=sizeLine:=sizeLine_eq.symm
 have keepI:∀ (h1:Heap) (tk:Nat),(∀ b o,s.heap.get? b=some o->h1.get? b=some o)->Inv X pins σ H { s with heap:=h1,toks:=tk }:=λh1 tk k=>I.kept (t':=tk) k
 show wpAny (model X.prog X.w) X.A (call (.builtin "sorted") [.ref r] [(Str.ofString "key", .ref f),(Str.ofString "reverse", .bool true)]) (EP X pins σ Q) X.xe s
 refine ZcM (kz:=ts.map (·.2.1)) (n:=n) (J:=λs1=>∃ h1 tk,s1={ s with heap:=h1,toks:=tk }/\∀ b o,s.heap.get? b=some o->h1.get? b=some o) (I.ok.hd hc) eR (small_one (by omega) (by omega) (by omega) (by omega)) (by rw [rangeSize_one];split <;> omega) hn (by rw [List.length_map];exact htl)
  (λh1 tk k=>⟨h1,tk,rfl,k⟩) ?_ ?_ ?_
 ·rintro s1 d g hd ⟨h1,tk,rfl,k⟩
  exact ⟨_,tk,rfl,λb o e=>(Heap.get?_update_other _ _ (Nat.ne_of_gt (Nat.lt_of_lt_of_le (Heap.lt_size e) hd))).trans (k b o e)⟩
 ·rintro i k t s1 R E' hki hi ⟨h1,tk,rfl,kp⟩ hR
  have I1:=keepI h1 tk kp
  obtain ⟨ti,eti,rfl⟩:∃ ti,ts[i]?=some ti/\ti.2.1=k:=by
   rw [List.getElem?_map] at hki
   cases z:ts[i]? with
   | none=>rw [z] at hki;cases hki
   | some ti=>rw [z] at hki;exact ⟨ti,rfl,Option.some.inj hki⟩
  have of:h1.get? f=some (PySem.W.kla_obj "<lambda>" qual params (.Subscript (.Subscript (.Name y p1) (.BinOp (.Name x p2) .Sub (.Constant (.int 2) d1 p3) p4) p5) (.Constant (.int 0) d2 p6) p7) scope [(y,cc)] pm c ctv):=(I1.hok f _ ef).1
  have oc1:h1.get? c=some oc:=(I1.hok c _ ec).1
  refine Zhj (s:={ s with heap:=h1,toks:=tk }) (x:=x) hroom of ⟨c,oc,vs1,tq,rfl,oc1,hd1,hv1⟩ (I1.ok.mod.nolimit.keeps I1.bk) hco hgen hk (hbind _ _ _) hlx hcell λh2 L k2 sz hns=>?_
  have I2:Inv X pins σ H { s with heap:=h2,toks:=tk+1 }:=keepI h2 (tk+1) λb o e=>k2 b o (kp b o e)
  obtain ⟨m,hm,lk⟩:=I2.loc
  obtain ⟨u,ru,lu⟩:=lk j y _ hN eσ hv
  cases ru
  have hcl:h2.IsCell cc (some (.ref nl)):=by
   rcases lu with ⟨z,_⟩ | ⟨_,c2,z1,z2⟩
   ·rw [hky] at z;cases z
   ·rw [hcy] at z1;cases z1
    exact z2
  obtain ⟨its,rv,pl,hz⟩:=I2.list hq
  obtain ⟨ui,gi,ri⟩:=rv.get (show (ts.map λt=>V.ref t.1)[i]?=some (V.ref ti.1) by rw [List.getElem?_map,eti];rfl)
  cases ri
  obtain ⟨its2,rv2,pl2,hz2⟩:=I2.tuple (ht ti (List.mem_of_getElem? eti))
  obtain ⟨uk,gk,rk⟩:=rv2.get (show (V.int ti.2.1::ti.2.2)[0]?=some (V.int ti.2.1) from rfl)
  obtain ⟨tu,rfl⟩:=rk
  refine Zgu (m:=λz=>[(x,Value.int (2+(i:Int)) t)].reverse.lookup z) (i:=2+(i:Int)) (k:=ti.2.1) (u:=tu) (t:=t) (c:=cc) (l:=nl) (p:=ti.1) (items:=its.toArray) (vals:=its2.toArray) hk hlx hns (by simp) hly (by simp) hcl pl.isList (by omega) (by omega) ?_ pl2 ?_ ?_ hdx hdy hcd λtk2=>?_
  ·rw [show (2+(i:Int)-2).toNat=i by omega]
   simpa using gi
  ·simpa using gk
  ·rw [List.size_toArray,<-rv2.length]
   exact hz2
  ·exact hR tu _ ⟨h2,tk2,rfl,λb o e=>k2 b o (kp b o e)⟩ sz λb o _ e=>k2 b o e
 ·rintro s2 l out cn ps ⟨h1,tk,rfl,kp⟩ hl eL hi pm pw
  refine ⟨.ref l,_,I.laid (a:=l) (o:=.lst ((ps.map Prod.snd).map V.int)) (h':=h1) (t':=tk) kp hl ⟨?_,out.toList,cn,ZcB hi,by simpa [seqObj] using eL⟩,rfl,q l ps (I.hok.fresh hl) pm pw⟩
  have hl2:=pm.length_eq
  rw [List.length_zip,List.length_map,htl] at hl2
  rw [List.length_map,List.length_map,hl2]
  omega
end
end L2
namespace L2
open PySem PySem.Spec PyProof.Rows
def ZiG (P:Addr) (H:Hp):Prop:=∀ b,b≠P->H b=none\/∃ o xs,H b=some (.frz o (.lst xs))
theorem Zgw {Pr:Program} {w:World} {K:PySem.W.Frag} {mg mb:Str->Option Value} {CX:CXT} {k:Nat} {fa a c P:Addr} {fd:FuncData} {x:Str} {sp:Sp} {s₁:Shared} {vs:List Value} {ns:List Int}
  (KX:K.In s₁.heap) (hns:s₁.heap.Ns mainGlobals mg) (hb:s₁.heap.Ns builtinsNs mb) (hbb:∀ x:Str,x ≠ "__name__" -> mb x=bootBuiltins x) (hlim:s₁.heap.NoLimit) (hg:s₁.gens=#[])
  (C:PySem.W.CodeHd s₁.heap c P) (hP:s₁.heap.get? P=some (PySem.W.tabObj #[])) (hKP:K.lookup P=none) (hB:s₁.heap.BuiltinsAt mg P)
  (ha:s₁.heap.get? a=some { cls:=.type "list", data:=.seq vs.toArray }) (hi:IntsAre vs ns) (hl:ns.length<=sizeLine) (hr:Room k callerA)
  (F:∀ base:Heap,K.In base->base.Ns mainGlobals mg->PySem.W.CodeHd base c P->base.BuiltinsAt mg P->ZaX Pr w K mg base CX k fa fd [x] sp) (hbind:∀ (s:Shared) (u:Value),BindsTo s fd ⟨[u],[]⟩ [(x,u)])
  (hsp:∀ H:Hp,ZiG P H->H P=some (.tbl #[])->SqL K H a (ns.map V.int)->sp [.ref a] H (λv _=>v=.bl true) λ_ _ _=>False)
  (hCX:∀ H e s',CX [] H s₁ (λ_ _ _=>False) e s'->False) :
  codeAny (model Pr w) callerA (.call (.ref fa) ⟨[.ref a],[]⟩) (λr s'=>r=.ok (.ret (.bool true))/\OldK s₁.heap s'.heap/\s'.os=s₁.os/\AllBare s'.gens) s₁:=by
 have rv:=ZcB hi
 have lenV:=hi.length
 have naP:a≠P:=λz=>by rw [z,hP] at ha;cases ha
 have core:∀ H:Hp,ZiG P H->H P=some (.tbl #[])->SqL K H a (ns.map V.int)->HOk Pr w H s₁.heap->(∀ b,H b≠none->b=a\/b=P)->(H a≠none->K.lookup a=none) ->
   codeAny (model Pr w) callerA (.call (.ref fa) ⟨[.ref a],[]⟩) (λr s'=>r=.ok (.ret (.bool true))/\OldK s₁.heap s'.heap/\s'.os=s₁.os/\AllBare s'.gens) s₁:=by
  intro H hO hHP hS hok hA hK
  have base_of:∀ {b:Addr} {o:Obj},s₁.heap.get? b=some o->H b=none->(Zfu s₁.heap H).get? b=some o:=λe n=>ZgP e n
  have noA:∀ {b:Addr} {o:Obj},s₁.heap.get? b=some o->o.cls≠.type "list" -> o.cls≠.none->H b=none:=λ{b o} e d1 d2=>by
   cases q:H b with
   | none=>rfl
   | some u=>
    rcases hA b (by rw [q];simp) with e' | e'
    ·rw [e',ha] at e;cases e
     exact absurd rfl d1
    ·rw [e',hP] at e;cases e
     exact absurd rfl d2
  have noD:∀ {b:Addr} {o:Obj} {es:Array DictEntry} {ep:Nat},s₁.heap.get? b=some o->o.data=.dict es ep->H b=none:=λ{b o es ep} e d=>by
   cases q:H b with
   | none=>rfl
   | some u=>
    rcases hA b (by rw [q];simp) with e' | e'
    ·rw [e',ha] at e;cases e;cases d
    ·rw [e',hP] at e;cases e;cases d
  have nsK:∀ {b:Addr} {m:Str->Option Value},s₁.heap.Ns b m->(Zfu s₁.heap H).Ns b m:=λ{b m} ⟨o,es,ep,e,d,r⟩=>⟨o,es,ep,base_of e (noD e d),d,r⟩
  have hKb:K.In (Zfu s₁.heap H):=λb o e=>base_of (KX b o e) (by
   cases q:H b with
   | none=>rfl
   | some u=>
    rcases hA b (by rw [q];simp) with e' | e'
    ·subst e'
     rw [hK (by rw [q];simp)] at e;cases e
    ·subst e'
     rw [hKP] at e;cases e)
  have hM:Mod K mg (Zfu s₁.heap H):=⟨hKb,nsK hns,⟨mb,nsK hb,hbb⟩,let ⟨mc,h1,h2⟩:=hlim;⟨mc,nsK h1,h2⟩⟩
  have e0:Zkt Pr w K mg (Zfu s₁.heap H) callerA [] s₁ H:=⟨rfl,hM,λb o e=>Zh0 e,Nat.le_of_eq (Zfv _ _),trivial,λb hb=>absurd (show b∈([]:List Addr) from hb) (by simp),hok,.of_eq hg⟩
  have Cb:PySem.W.CodeHd (Zfu s₁.heap H) c P:=by
   obtain ⟨o,ws,file,tf,flags,tg,inF,text,tt,e1,r1,r2⟩:=C
   exact ⟨o,ws,file,tf,flags,tg,inF,text,tt,base_of e1 (noA e1 (by rw [r1];decide) (by rw [r1];nofun)),r1,r2⟩
  have Bb:(Zfu s₁.heap H).BuiltinsAt mg P:=by
   obtain ⟨bm,o,h1,h2,h3,h4,h5,h6,h7⟩:=hB
   exact ⟨bm,o,h1,h2,h3,h4,base_of h5 (noA h5 (by rw [h6];decide) (by rw [h6];nofun)),h6,h7⟩
  refine codeAny_mono ((F _ hKb (nsK hns) Cb Bb).run callerA [] s₁ H ⟨[.ref a],[]⟩ [.ref a] [.ref a] _ _ hr e0 (hbind s₁ (.ref a)) (.cons rfl .nil) (hsp H hO hHP hS)) λr s' h=>?_
  cases r with
  | error e=>exact (hCX H e s' h).elim
  | ok fl=>
   cases fl with
   | next=>exact False.elim h
   | brk=>exact False.elim h
   | cont=>exact False.elim h
   | ret u=>
    obtain ⟨v,H',os,bare,un,hok',r',q⟩:=h
    have q':v=.bl true:=q
    subst q'
    obtain rfl:u=Value.bool true:=r'
    obtain ⟨more,eP⟩:=un.tbls P _ hHP
    have hP':s'.heap.get? P=some { cls:=.none,data:=.fields (#[]++more) }:=hok' P _ eP
    have kp:∀ b o,b≠P->s₁.heap.get? b=some o->s'.heap.get? b=some o:=λb o hbP e=>by
     cases q:H b with
     | none=>exact un.keep b o e q (by intro z;exact absurd (show b∈([]:List Addr) from z) (by simp)) (by simp)
     | some u=>
      rcases hO b hbP with z | ⟨ob,xs,z⟩
      ·rw [q] at z;cases z
      ·have z2:=un.frzs b ob _ z
       obtain ⟨e1,_⟩:=hok b _ z
       obtain ⟨e2,_⟩:=hok' b _ z2
       rw [e] at e1;cases e1
       exact e2
    refine ⟨rfl,⟨λb o e=>?_,λb o e=>?_⟩,os,bare⟩
    ·by_cases hbP:b=P
     ·subst hbP
      rw [hP] at e;cases e
      exact .inr (.inl ⟨(C.tab hP).isCodeTable,rfl,#[],more,rfl,hP'⟩)
     ·exact .inl (kp b o hbP e)
    ·by_cases hbP:b=P
     ·rw [hbP];exact ⟨_,hP'⟩
     ·exact ⟨o,kp b o hbP e⟩
 cases hk:K.lookup a with
 | some o=>
  have e:=KX a o hk
  rw [ha] at e
  cases e
  refine core (λb=>if b=P then some (.tbl #[]) else none) (λb hb=>.inl (if_neg hb)) (if_pos rfl) (.inr ⟨_,vs.toArray,_,hk,rfl,rfl,rfl,by rw [List.size_toArray,lenV];exact hl,by simpa using rv⟩) (λb u z=>?_) (λb z=>?_) λz=>absurd (if_neg naP) z
  ·by_cases hb:b=P
   ·have z':=(if_pos hb).symm.trans z
    cases z'
    rw [hb];exact hP
   ·have z':=(if_neg hb).symm.trans z
    cases z'
  ·by_cases hb:b=P
   ·exact .inr hb
   ·exact absurd (if_neg hb) z
 | none=>
  refine core (λb=>if b=P then some (.tbl #[]) else if b=a then some (.frz { cls:=.type "list", data:=.seq vs.toArray } (.lst (ns.map V.int))) else none) (λb hb=>?_) (if_pos rfl) (.inl (.inr ⟨{ cls:=.type "list", data:=.seq vs.toArray },(if_neg naP).trans (if_pos rfl)⟩)) (λb u z=>?_) (λb z=>?_) λ_=>hk
  ·by_cases hb2:b=a
   ·exact .inr ⟨_,_,(if_neg hb).trans (if_pos hb2)⟩
   ·exact .inl ((if_neg hb).trans (if_neg hb2))
  ·by_cases hb:b=P
   ·have z':=(if_pos hb).symm.trans z
    cases z'
    rw [hb];exact hP
   ·by_cases hb2:b=a
    ·have z':=((if_neg hb).trans (if_pos hb2)).symm.trans z
     cases z'
     subst hb2
     exact ⟨ha,by rw [List.length_map];exact hl,vs,_,rv,ha⟩
    ·have z':=((if_neg hb).trans (if_neg hb2)).symm.trans z
     cases z'
  ·by_cases hb:b=P
   ·exact .inr hb
   ·by_cases hb2:b=a
    ·exact .inl hb2
    ·exact absurd ((if_neg hb).trans (if_neg hb2)) z
theorem walk_ofT {l:PySem.W.OpenLaw} {n k:Nat} {q:Program} {loose:List Str} {XP:(Str->Option Value)->Heap->Prop} {YP:World->Heap->Prop} {d dd:DefRec} {K:Params->PySem.W.Frag} {CX:World->CXT} {sp:World->Addr->Sp} {x tn:Str}
  (hn:l.most=some n) (hn2:n<=sizeLine) (hdf:d.params.defaults=[]) (hr:Room k callerA) (hY:∀ (w:World) (h:Heap),YP w h->(K w.params).In h) (hrec:(recsOf q).find? (λe=>e.name == tn)=some dd)
  (F:∀ (w:World) (mg:Str->Option Value) (fa:Addr) (h:Heap),(K w.params).In h->h.Ns mainGlobals mg->mg d.name=some (.ref fa) ->
   ∃ (fd:FuncData) (c P:Addr),PySem.W.tabIn (K w.params) tn=some (c,P)/\(K w.params).lookup P=none/\(∀ (s:Shared) (u:Value),BindsTo s fd ⟨[u],[]⟩ [(x,u)]) /\
    ∀ base:Heap,(K w.params).In base->base.Ns mainGlobals mg->PySem.W.CodeHd base c P->base.BuiltinsAt mg P->ZaX l.prog w (K w.params) mg base (CX w) k fa fd [x] (sp w P))
  (hsp:∀ (w:World) (P:Addr) (H:Hp) (a:Addr) (ns:List Int),ns.length<=n->ZiG P H->H P=some (.tbl #[])->SqL (K w.params) H a (ns.map V.int)->sp w P [.ref a] H (λv _=>v=.bl true) λ_ _ _=>False)
  (hCX:∀ (w:World) (H:Hp) (s:Shared) (e:Value) (s':Shared),CX w [] H s (λ_ _ _=>False) e s'->False) :
  PySem.W.WalkO q loose XP YP l.row.toRowW d [] (λf vs=>PySem.call f vs):=by
 refine Att.attach_call hn hdf λw s₀ s₁ mg mb fa o pm cd doc a vs ns G Y ho hd hcd hmg hobj hints hlen hg=>?_
 have KX:=hY w _ Y
 obtain ⟨fd,c,P,htab,hKP,hb,hF⟩:=F w mg fa _ KX G.T.g hmg
 obtain ⟨C,hP⟩:=PySem.W.tab_of G.T KX hrec htab
 have hB:s₁.heap.BuiltinsAt mg P:=by
  obtain ⟨bm,ob,b1,b2,b3,b4,b5,b6⟩:=G.T.bmain
  refine ⟨bm,ob,b1,b2,λz=>?_,λz=>?_,b3,b4,b5,b6⟩
  ·obtain ⟨o',es,ep,e,hd',_⟩:=G.T.g
   rw [z,e] at b3;cases b3;rw [hd'] at b6;cases b6
  ·rw [z,hP] at b3;cases b3;cases b4
 exact Zgw KX G.T.g G.T.b G.T.builtins G.T.nolimit hg C hP hKP hB hobj hints (Nat.le_trans hlen hn2) hr hF hb (λH hO hT hS=>hsp w P H a ns hlen hO hT hS) λH e s'=>hCX w H s₁ e s'
end L2
namespace L2
open PySem PySem.Spec PyProof.Rows
section
variable {P:Program} {w:World} {K:PySem.W.Frag} {mg:Str->Option Value} {base:Heap}
theorem Fun.okC {x qual:Str} {st:Stmt} {f c:Addr} {fd:FuncData} {N ps:List Str} {k:Nat} {sp:Sp} (F:Fun K x qual st f fd) (hc:fd.code=.ref c) (S:ZaA N ps (Zaf st)) (len:∀ vs H Q E,sp vs H Q E->vs.length=ps.length)
  (hbody:∀ (A:Around) (outer:List Env) (s:Shared) (H:Hp) (vs:List V) (Q:VK) (E:XK),Room k (A.deeper (envOfC qual (Zaf st) s.heap.objs.size f (.ref c)))->sp vs H Q E ->
   ∃ t,PSs (ZgT CX0 P w K mg base N qual (Zaf st) f (.ref c) A outer s H E).nox (Zav st) t/\t { nx:=λ_ H'=>Q .non H',rt:=Q } (start N vs) H):ZaX P w K mg base CX0 (k+1) f fd ps sp:=by
 obtain ⟨oc,od,kV,doc,pm,an,cdv,ct,osl,rfl,lk,hcd⟩:=F.ex
 have e:cdv=.ref c:=hc
 subst e
 refine Zh7 lk hcd S len λA outer s H vs Q E hr hsp=>?_
 obtain ⟨t,h,q⟩:=hbody A outer s H vs Q E hr hsp
 exact ⟨t,h.nox,q⟩
theorem SameL.lst {P:Addr} {H H':Hp} {a:Addr} {xs:List V} {ps:Array Value} (s:SameL P H H') (hP:H P=some (.tbl ps)) (e:H a=some (.lst xs)):H' a=some (.lst xs):=s a _ (λz=>by rw [z,hP] at e;cases e) e
theorem SameL.tup {P:Addr} {H H':Hp} {a:Addr} {xs:List V} {ps:Array Value} (s:SameL P H H') (hP:H P=some (.tbl ps)) (e:H a=some (.tup xs)):H' a=some (.tup xs):=s a _ (λz=>by rw [z,hP] at e;cases e) e
theorem SameL.dK {P:Addr} {H H':Hp} {a:Addr} {xs:List (Key×V)} {ps:Array Value} (s:SameL P H H') (hP:H P=some (.tbl ps)) (e:H a=some (.dK xs)):H' a=some (.dK xs):=s a _ (λz=>by rw [z,hP] at e;cases e) e
theorem LamSt.tbl {P:Addr} {line col:Nat} {qual:Str} {H:Hp} (h:LamSt P line col qual H):∃ ps,H P=some (.tbl ps):=by
 rcases h with h | ⟨c,h,_⟩
 ·exact ⟨_,h⟩
 ·exact ⟨_,h⟩
theorem Trs.sameL {P:Addr} {H H':Hp} {ps:Array Value} (s:SameL P H H') (hP:H P=some (.tbl ps)):∀ {xs:List V} {ts:List Tri},Trs H xs ts->Trs H' xs ts
 | _,_,.nil=>.nil
 | _,_,.cons e r=>.cons (s.tup hP e) (Trs.sameL s hP r)
theorem SameL.free {P p:Addr} {H H':Hp} {ps:Array Value} (s:SameL P H H') (hP:H P=some (.tbl ps)) (hP':∃ qs,H' P=some (.tbl qs)) (h:H' p=none):H p=none:=by
 cases e:H p with
 | none=>rfl
 | some o=>
  by_cases z:p=P
  ·obtain ⟨qs,e'⟩:=hP'
   rw [z,e'] at h;cases h
  ·rw [s p o z e] at h;cases h
theorem SameL.put {P p:Addr} {H H':Hp} {o:HO} (s:SameL P H H') (h:H p=none):SameL P H (upd H' p o):=λa u n e=>Zao (s a u n e) (λz=>by rw [z,h] at e;cases e)
end
end L2
namespace L2
open PySem PySem.Spec PyProof.Rows Classical
section
variable {prog:Program} {w:World} {A:Around} {E:Value->Shared->Prop} {s:Shared} {b:Keyed->Keyed->Bool} {good:Keyed->Prop}
noncomputable def ZnA (h:Heap) (v:Value):List Int:=if q:∃ ns a its,v=.ref a/\h.IsTuple a its/\IntsAre its.toList ns then choose q else []
end
section
variable {X:Cx} (K:PySem.W.Frag)
def Zlk:List V->Hp->VK->Prop:=λxs H Q=>∃ (p:Addr) (zs:List (Addr×List Int)),xs=[.ref p]/\SqL K H p (zs.map λz=>V.ref z.1)/\(∀ z∈zs,SqT K H z.1 (z.2.map V.int)/\z.2≠[]) /\
 ∀ (l:Addr) (zs':List (Addr×List Int)),H l=none->zs'.Perm zs->(zs'.map (·.2)).Pairwise (λa b=>Za9 b a=false)->Q (.ref l) (upd H l (.lst (zs'.map λz=>V.ref z.1)))
end
end L2
namespace L2
open PySem PySem.Spec PyProof.Rows
section
variable (P:Program) (w:World)
def Zdw (h:Heap) (row:List Int) (v:Value):Prop:=∃ b,v=.ref b/\IsTupleKey (intKind P w) h row b
def Zb3 (h:Heap) (k:List (List Int)) (a:Addr):Prop:=∃ o vs n,h.get? a=some o/\o.cls=.type "tuple" /\ o.data=.seq vs n/\Paired (Zdw P w h) k vs.toList
def Zdx (k:List (List Int)):Int:=reduceHash (Builtin.Tuple.tupleHashOf (k.map (tupleKeyHash (intKind P w))))
end
section
variable {P:Program} {w:World} {A:Around} {E:Value->Shared->Prop} {s:Shared} {h h':Heap}
theorem ZeY:∀ {k l:List (List Int)} {vs:List Value},Paired (Zdw P w h) k vs->Paired (Zdw P w h) l vs->k=l
 | _,_,_,.nil,.nil=>rfl
 | _,_,_,.cons ⟨b,e,x⟩ r,.cons ⟨c,e',y⟩ t=>by
  rw [e] at e'
  cases e'
  rw [x.inj y,ZeY r t]
theorem Zd3 (hu:A.units<cLine):∀ {k:List (List Int)} {vs:List Value} {b:Array Int} {s:Shared} {Q:Array Int->Shared->Prop},Paired (Zdw P w s.heap) k vs ->
  (∀ b':Array Int,b'.toList=b.toList++k.map (tupleKeyHash (intKind P w))->Q b' { s with toks:=s.toks+(k.map λr=>r.length+1).sum }) ->
  wpAny (model P w) A (forIn vs b λx r=>do let h <- pyHash x;pure PUnit.unit;pure (ForInStep.yield (r.push h))) Q E s
 | _,_,b,s,Q,.nil,q=>by
  rw [List.forIn_nil]
  exact wpAny_pure (by simpa using q b (by simp))
 | _,_,b,s,Q,.cons (a:=row) (l₁:=k) ⟨c,e,x⟩ r,q=>by
  subst e
  rw [List.forIn_cons]
  refine wpAny_bind (wpAny_bind (wpAny_pyHash_tuple hu x (wpAny_bind (wpAny_pure (wpAny_pure ?_)))))
  refine Zd3 hu (s:={ s with toks:=s.toks+(row.length+1) }) r λb' hb=>?_
  have:=q b' (by rw [hb];simp)
  simpa [Nat.add_assoc] using this
theorem Zew {k:List (List Int)} {a:Addr} {Q:Int->Shared->Prop} (hu:A.units+70<cLine) (x:Zb3 P w s.heap k a) (q:Q (Zdx P w k) { s with toks:=s.toks+((k.map λr=>r.length+1).sum+1) }) :
  wpAny (model P w) A (pyHash (.ref a)) Q E s:=by
 obtain ⟨o,vs,n,ho,hc,hd,r⟩:=x
 refine PySem.W.pyHash_slot (T := "tuple") ⟨o,ho,hc⟩ F.slot_tuple_hash F.entry_tuple_hash (F.args_tuple_hash_1 _) (beq_builtin_none _) (.inr (by omega)) ?_
 show wpAny (model P w) A.in1 (Builtin.Tuple.tupleItemsOf (.ref a) >>= _) _ E s
 refine wpAny_bind (wpAny_tupleItemsOf ho hd (wpAny_bind ?_))
 rw [<-Array.forIn_toList]
 refine Zd3 (by rw [Around.in1_units];omega) r λb' hb=>?_
 show wpAny _ _ (retInt (Builtin.Tuple.tupleHashOf b'.toList)) _ _ _
 refine wpAny_bind (wpAny_mkInt (wpAny_pure ⟨_,_,rfl,?_⟩))
 rw [hb]
 simpa [Zdx,Nat.add_assoc] using q
def Zbm (row:List Int):PyData:=.tuple (row.map PyData.int)
theorem Zfl {its:List Value} {row:List Int} (x:ItemsAre (intKind P w) row its):∃ as,ReadsAll h its (row.map PyData.int) as:=by
 induction x with
 | nil=>exact ⟨_,.nil⟩
 | @cons k v ks vs h1 _ ih=>
  obtain ⟨as,r⟩:=ih
  obtain ⟨t,rfl⟩:∃ t,v=.int k t:=by
   cases v <;> simp [intKind,Value.isInt] at h1
   subst h1
   exact ⟨_,rfl⟩
  exact ⟨_,.cons (.int _ _) r⟩
theorem Zgx {row:List Int} {v:Value} (x:Zdw P w h row v):∃ as,Reads h v (Zbm row) as:=by
 obtain ⟨b,rfl,o,its,n,h1,h2,h3,h4⟩:=x
 obtain ⟨as,r⟩:=Zfl (h:=h) h4
 exact ⟨as,.tuple h1 h2 h3 r⟩
theorem Zcd:∀ {k:List (List Int)} {vs:List Value},Paired (Zdw P w h) k vs->∃ as,ReadsAll h vs (k.map Zbm) as
 | _,_,.nil=>⟨_,.nil⟩
 | _,_,.cons x r=>by
  obtain ⟨as,h1⟩:=Zgx x
  obtain ⟨bs,h2⟩:=Zcd r
  exact ⟨_,.cons h1 h2⟩
theorem ZeZ (row:List Int):PyData.canLay0 (Zbm row)=true:=by
 unfold Zbm
 simp only [PyData.canLay0]
 exact Zcn row
theorem Zcr:∀ k:List (List Int),PyData.canLayAll0 (k.map Zbm)=true
 | []=>by simp [PyData.canLayAll0]
 | r::k=>by
  rw [List.map_cons]
  simp [PyData.canLayAll0,ZeZ r,Zcr k]
theorem Zce:∀ k:List (List Int),PyData.depthAll (k.map Zbm)<=2
 | []=>by simp [PyData.depthAll]
 | r::k=>by
  have ih:=Zce k
  have:=Zbe r
  rw [List.map_cons]
  simp only [PyData.depthAll,Zbm,PyData.depth]
  omega
theorem Zcs (r q:List Int):PyData.eqv (Zbm r) (Zbm q)=decide (r=q):=by
 have:=Za8 r q
 unfold Zbm
 simp only [PyData.eqv] at this ⊢
 exact this
theorem ZbR:∀ k l:List (List Int),PyData.eqvAll (k.map Zbm) (l.map Zbm)=decide (k=l)
 | [],[]=>by simp [PyData.eqvAll]
 | [],_::_=>by simp [PyData.eqvAll]
 | _::_,[]=>by simp [PyData.eqvAll]
 | r::k,q::l=>by
  rw [List.map_cons,List.map_cons]
  simp only [PyData.eqvAll,Zcs,ZbR k l]
  by_cases e1:r=q <;> by_cases e2:k=l <;> simp [e1,e2]
theorem Zhk (k l:List (List Int)):PyData.eqv (.tuple (k.map Zbm)) (.tuple (l.map Zbm))=decide (k=l):=by
 simp only [PyData.eqv,ZbR]
theorem Zex {k l:List (List Int)} {a b:Addr} {Q:Bool->Shared->Prop} (hu:A.units+70<cLine) (x:Zb3 P w s.heap k a) (y:Zb3 P w s.heap l b) (q:Q (decide (k=l)) s) :
  wpAny (model P w) A (eqBool (.ref a) (.ref b)) Q E s:=by
 obtain ⟨o,vs,n,ho,hc,hd,r⟩:=x
 obtain ⟨o',vs',n',ho',hc',hd',r'⟩:=y
 obtain ⟨as,h1⟩:=Zcd r
 obtain ⟨bs,h2⟩:=Zcd r'
 have e:=SeqAt.eqAt_reads (.tuple (k.map Zbm)) (.tuple (l.map Zbm)) A s (.ref a) (.ref b) as bs (.tuple ho hc hd h1) (.tuple ho' hc' hd' h2) (by simp only [PyData.canLay0];exact Zcr k) (by simp only [PyData.canLay0];exact Zcr l) ?_
 ·rw [Zhk] at e
  exact e P w E Q q
 ·have d1:=Zce k
  simp only [PyData.depth]
  omega
theorem Zc1 {n:Nat} {Q:Option Bool×PUnit->Shared->Prop} (q:Q (none,⟨⟩) s):∀ {vs:List Value},(∀ v∈vs,∀ {Q:Bool->Shared->Prop},Q true s->wpAny (model P w) A (eqIsQuiet n v) Q E s) ->
  wpAny (model P w) A (forIn vs ((none,⟨⟩):Option Bool×PUnit) λy r=>do if !(<- eqIsQuiet n y) then pure (ForInStep.done (some false,⟨⟩)) else pure (ForInStep.yield (none,⟨⟩))) Q E s
 | [],_=>by
  rw [List.forIn_nil]
  exact wpAny_pure q
 | v::vs,hv=>by
  rw [List.forIn_cons]
  refine wpAny_bind (wpAny_bind (hv v (List.mem_cons_self ..) ?_))
  simp only [Bool.not_true,Bool.false_eq_true,if_false]
  exact wpAny_pure (Zc1 q λu hu=>hv u (List.mem_cons_of_mem _ hu))
theorem Zd4 {n m:Nat} {a:Addr} {o:Obj} {vs:Array Value} {Q:Bool->Shared->Prop} (ho:s.heap.get? a=some o) (hc:o.cls=.type "tuple") (hd:o.data=.seq vs m)
  (hv:∀ v∈vs.toList,∀ {Q:Bool->Shared->Prop},Q true s->wpAny (model P w) A (eqIsQuiet n v) Q E s) (q:Q true s):wpAny (model P w) A (eqIsQuiet (n+1) (.ref a)) Q E s:=by
 unfold eqIsQuiet
 refine wpAny_bind (wpAny_specialOf (⟨o,ho,hc⟩:s.TypeIs (.ref a) "tuple") F.slot_tuple_eq.lookup ?_)
 show wpAny _ _ (isInstance (.ref a) (.type "tuple") >>= _) _ _ s
 refine wpAny_bind (wpAny_isInstance (⟨o,ho,hc⟩:s.TypeIs (.ref a) "tuple") isSubtype_tuple_tuple ?_)
 simp only [Bool.not_true,Bool.false_eq_true,if_false]
 refine wpAny_bind (wpAny_seqItems ho hd (wpAny_bind ?_))
 show wpAny _ _ (forIn vs _ _) _ _ s
 rw [<-Array.forIn_toList]
 exact Zc1 (wpAny_pure q) hv
theorem Zgy {n:Nat} {row:List Int} {its:List Value} {Q:Bool->Shared->Prop} (x:ItemsAre (intKind P w) row its):∀ v∈its,∀ {Q:Bool->Shared->Prop},Q true s->wpAny (model P w) A (eqIsQuiet n v) Q E s:=λv hv Q q=>by
 rw [eqIsQuiet_byValue n (x.byValue v hv)]
 exact wpAny_pure q
theorem Zfm {k:List (List Int)} {a:Addr} {Q:Bool->Shared->Prop} (x:Zb3 P w s.heap k a) (q:Q true s):wpAny (model P w) A (eqIsQuiet 8 (.ref a)) Q E s:=by
 obtain ⟨o,vs,n,ho,hc,hd,r⟩:=x
 refine Zd4 ho hc hd (λv hv Q q=>?_) q
 have each:∀ {k:List (List Int)} {vs:List Value},Paired (Zdw P w s.heap) k vs->∀ v∈vs,∃ row,Zdw P w s.heap row v:=by
  intro k vs r
  induction r with
  | nil=>intro v hv;cases hv
  | cons x _ ih=>
   intro v hv
   rcases List.mem_cons.mp hv with rfl | hv
   ·exact ⟨_,x⟩
   ·exact ih v hv
 obtain ⟨row,b,rfl,o',its,m,h1,h2,h3,h4⟩:=each r v hv
 exact Zd4 h1 h2 h3 (Zgy (Q:=λ_ _=>True) h4) q
theorem Zfn {k:List (List Int)} {a d:Addr} {o:Obj} {es ep} (x:Zb3 P w h k a) (ho:h.get? d=some o) (hd:o.data=.dict es ep) (hs:Heap.SameBut d h h'):Zb3 P w h' k a:=by
 obtain ⟨o',vs,n,h1,h2,h3,r⟩:=x
 have ne:a≠d:=λz=>by
  rw [z,ho] at h1
  cases h1
  rw [hd] at h3
  cases h3
 refine ⟨o',vs,n,(hs.2 a ne).trans h1,h2,h3,?_⟩
 refine Paired.mapP r λrow v z=>?_
 obtain ⟨b,e,y⟩:=z
 exact ⟨b,e,y.keeps ho hd hs⟩
end
def Zbh (P:Program) (w:World):HeapKind P w (List (List Int)) where
 is:=Zb3 P w
 hash:=Zdx P w
 draws:=λk=>(k.map λr=>r.length+1).sum+1
 room:=λA=>A.units+70<cLine
 inj:=λ{h a x y} hx hy=>by
  obtain ⟨o,vs,n,h1,_,h3,r⟩:=hx
  obtain ⟨o',vs',n',h1',_,h3',r'⟩:=hy
  rw [h1] at h1'
  cases h1'
  rw [h3] at h3'
  cases h3'
  exact ZeY r r'
 keeps:=λx ho hd hs=>Zfn x ho hd hs
 pyHash:=λhu x q=>Zew hu x q
 eqBool:=λhu x y q=>Zex hu x y q
 quiet:=λx q=>Zfm x q
def KeyTT (H:Hp) (b:Addr) (k:List (List Int)):Prop:=∃ cs:List Addr,H b=some (.tup (cs.map V.ref))/\Paired (λ(row:List Int) (c:Addr)=>H c=some (.tup (row.map V.int))) k cs
theorem KeyTT.keep {H H':Hp} {b:Addr} {k:List (List Int)} (x:KeyTT H b k) (t:∀ p ys,H p=some (.tup ys)->H' p=some (.tup ys)):KeyTT H' b k:=by
 obtain ⟨cs,h1,h2⟩:=x
 exact ⟨cs,t _ _ h1,Paired.mapP h2 λ_ _ z=>t _ _ z⟩
abbrev TTs:=List (List (List Int)×Addr×V)
def Zll (P:Program) (w:World) (a:Addr) (kvs:TTs) (h:Heap):Prop:=∃ xs:List (List (List Int)×Addr×Value),Paired (λ(p:List (List Int)×Addr×V) (q:List (List Int)×Addr×Value)=>p.1=q.1/\p.2.1=q.2.1/\RelV p.2.2 q.2.2) kvs xs /\
 ∃ o es ep,h.get? a=some o/\o.ExactDict/\o.data=.dict es ep/\es.toList=xs.map (entryOfKey (Zbh P w))/\(xs.map (·.1)).Nodup
def dtt (P:Program) (w:World) (a:Addr) (kvs:TTs):HO:=.ext λh=>kvs.length<=sizeLine/\(a == sysModules)=false/\Zll P w a kvs h
def KeysTT (H:Hp) (kvs:TTs):Prop:=∀ p∈kvs,KeyTT H p.2.1 p.1
def Zc2 (kvs:TTs) (k:List (List Int)):Option V:=(kvs.find? λp=>decide (p.1=k)).map (·.2.2)
theorem KeysTT.keep {H H':Hp} {kvs:TTs} (x:KeysTT H kvs) (t:∀ p ys,H p=some (.tup ys)->H' p=some (.tup ys)):KeysTT H' kvs:=λp hp=>(x p hp).keep t
section
variable {P:Program} {w:World} {H:Hp} {h:Heap} {a:Addr}
theorem Zd5 {b:Addr} {k:List (List Int)} (ok:HOk P w H h) (x:KeyTT H b k):Zb3 P w h k b:=by
 obtain ⟨cs,h1,h2⟩:=x
 obtain ⟨_,its,r,o,e1,e2,n,e3⟩:=(show ObjOk P w H h b (.tup (cs.map V.ref)) from ok b _ h1)
 refine ⟨o,its.toArray,n,e1,e2,e3,?_⟩
 have row:∀ {row:List Int} {c:Addr},H c=some (.tup (row.map V.int))->IsTupleKey (intKind P w) h row c:=λ{row c} e=>by
  obtain ⟨_,its,r,o,g1,g2,n,g3⟩:=(show ObjOk P w H h c (.tup (row.map V.int)) from ok c _ e)
  refine ⟨o,its.toArray,n,g1,g2,g3,?_⟩
  have go:∀ {row:List Int} {its:List Value},Vals (row.map V.int) its->ItemsAre (intKind P w) row its:=by
   intro row
   induction row with
   | nil=>intro its r;cases r;exact .nil
   | cons x row ih=>
    intro its r
    rw [List.map_cons] at r
    cases r with
    | cons h t=>
     obtain ⟨tk,rfl⟩:=h
     exact .cons (by simp [intKind,Value.isInt]) (ih t)
  simpa using go r
 have go:∀ {k:List (List Int)} {cs:List Addr} {its:List Value},Paired (λ(row:List Int) (c:Addr)=>H c=some (.tup (row.map V.int))) k cs->Vals (cs.map V.ref) its->Paired (Zdw P w h) k its:=by
  intro k cs its p
  induction p generalizing its with
  | nil=>intro r;cases r;exact .nil
  | @cons a b l1 l2 e _ ih=>
   intro r
   rw [List.map_cons] at r
   cases r with
   | cons hh t=>
    cases hh
    exact .cons ⟨_,rfl,row e⟩ (ih t)
 simpa using go h2 r
theorem Zgz {kvs:TTs} (ok:HOk P w H h) (e:H a=some (dtt P w a kvs)) (K:KeysTT H kvs):kvs.length<=sizeLine/\(a == sysModules)=false/\∃ xs,Paired (λ(p:List (List Int)×Addr×V) (q:List (List Int)×Addr×Value)=>p.1=q.1/\p.2.1=q.2.1/\RelV p.2.2 q.2.2) kvs xs/\h.DictOfH (Zbh P w) a xs:=by
 obtain ⟨⟨z,y,xs,r,o,es,ep,h1,h2,h3,h4,h5⟩,_,_⟩:=(show ObjOk P w H h a (dtt P w a kvs) from ok a _ e)
 refine ⟨z,y,xs,r,o,es,ep,h1,h2,h3,h4,λx hx=>?_,h5⟩
 have all:∀ {l:TTs} {m:List (List (List Int)×Addr×Value)},Paired (λ(p:List (List Int)×Addr×V) (q:List (List Int)×Addr×Value)=>p.1=q.1/\p.2.1=q.2.1/\RelV p.2.2 q.2.2) l m->KeysTT H l->∀ x∈m,Zb3 P w h x.1 x.2.1:=by
  intro l m q
  induction q with
  | nil=>intro _ x hx;cases hx
  | @cons p q ps qs hq t ih=>
   intro K x hx
   rcases List.mem_cons.mp hx with rfl | hx
   ·rw [<-hq.1,<-hq.2.1]
    exact Zd5 ok (K p (List.mem_cons_self ..))
   ·exact ih (λy hy=>K y (List.mem_cons_of_mem _ hy)) x hx
 exact all r K x hx
theorem ZgA {kvs:TTs} {xs:List (List (List Int)×Addr×Value)} (r:Paired (λ(p:List (List Int)×Addr×V) (q:List (List Int)×Addr×Value)=>p.1=q.1/\p.2.1=q.2.1/\RelV p.2.2 q.2.2) kvs xs) (k:List (List Int)):RelO (Zc2 kvs k) ((atKey xs k).map (·.2)):=by
 induction r with
 | nil=>exact True.intro
 | @cons p q ps qs h t ih=>
  obtain ⟨h1,_,h2⟩:=h
  by_cases e:p.1=k
  ·have e':q.1=k:=h1.symm.trans e
   have a1:Zc2 (p::ps) k=some p.2.2:=by simp [Zc2,List.find?_cons,e]
   have a2:atKey (q::qs) k=some q.2:=by simp [atKey,List.find?_cons,e']
   rw [a1,a2]
   exact h2
  ·have e':¬ q.1=k:=λz=>e (h1.trans z)
   have a1:Zc2 (p::ps) k=Zc2 ps k:=by simp [Zc2,List.find?_cons,e]
   have a2:atKey (q::qs) k=atKey qs k:=by simp [atKey,List.find?_cons,e']
   rw [a1,a2]
   exact ih
theorem ZgB {kvs:TTs} {xs:List (List (List Int)×Addr×Value)} {H':Hp} (z:kvs.length<=sizeLine) (y:(a == sysModules)=false) (r:Paired (λ(p:List (List Int)×Addr×V) (q:List (List Int)×Addr×Value)=>p.1=q.1/\p.2.1=q.2.1/\RelV p.2.2 q.2.2) kvs xs)
  (dd:h.DictOfH (Zbh P w) a xs):ObjOk P w H' h a (dtt P w a kvs):=by
 obtain ⟨o,es,ep,h1,h2,h3,h4,_,h5⟩:=dd
 refine ⟨⟨z,y,xs,r,o,es,ep,h1,h2,h3,h4,h5⟩,⟨o,h1⟩,λg1 g2 x k=>?_⟩
 obtain ⟨z',y',xs',r',o',es',ep',e1,e2⟩:=x
 exact ⟨z',y',xs',r',o',es',ep',k _ e1,e2⟩
end
def ZkB (P:Program) (w:World) (H:Hp) (a:Addr) (y:V) (o:Option V):Prop:=∃ kvs k b,H a=some (dtt P w a kvs)/\KeysTT H kvs/\y=.ref b/\KeyTT H b k/\o=Zc2 kvs k
section
variable {X:Cx} {pins:List (Addr×Obj)} {σ:St} {H:Hp} {s:Shared} {a:Addr} {y v d:V} {u r:Value} {o:Option V} {A:Around} {E:Value->Shared->Prop}
theorem Zdy {P:Program} {w:World} (hu:A.units+71<cLine):(Zbh P w).room A.in1:=by
 show A.in1.units+70<cLine
 rw [Around.in1_units]
 omega
theorem ZiH {Q:Value->Shared->Prop} (hu:A.units+71<cLine) (I:Inv X pins σ H s) (g:ZkB X.prog X.w H a y o) (ry:RelV y u) (h:∀ s',Inv X pins σ H s'->Q (.bool (!o.isSome)) s') :
  wpAny (model X.prog X.w) A (compareOp .NotIn u (.ref a)) Q E s:=by
 obtain ⟨kvs,k,b,e,K,rfl,kb,rfl⟩:=g
 cases (show u=Value.ref b from ry)
 obtain ⟨z,hd,xs,rel,dd⟩:=Zgz I.hok e K
 refine wpAny_notIn_heap (Zdy hu) (Zd5 I.hok kb) hd dd ?_
 have q:=(ZgA rel k).isSome_eq
 rw [Option.isSome_map] at q
 rw [<-q]
 exact h _ (I.tok _)
theorem ZjQ {Q:Value->Shared->Prop} (hu:A.units+71<cLine) (I:Inv X pins σ H s) (g:ZkB X.prog X.w H a y o) (ry:RelV y u) (rd:RelV d r) (h:∀ w' s',Inv X pins σ H s'->RelV (o.getD d) w'->Q w' s') :
  wpAny (model X.prog X.w) A (call (.builtin "dict.get") [.ref a,u,r]) Q E s:=by
 obtain ⟨kvs,k,b,e,K,rfl,kb,rfl⟩:=g
 cases (show u=Value.ref b from ry)
 obtain ⟨z,hd,xs,rel,dd⟩:=Zgz I.hok e K
 exact call_meetsIn PySem.F.slot_dict_get dd.typeIs PySem.F.entry_dict_get (PySem.F.args_dict_get_3 _ _ _) (meetsH_dict_get_default (Zbh X.prog X.w) a b hd r) ⟨Zdy hu,k,xs,Zd5 I.hok kb,dd,h _ _ (I.tok _) ((ZgA rel k).getD rd)⟩
theorem ZgC {kvs:TTs} {k:List (List Int)} {b:Addr} {Q:Unit->Shared->Prop} (hu:A.units+71<cLine) (I:Inv X pins σ H s) (e:H a=some (dtt X.prog X.w a kvs)) (K:KeysTT H kvs) (kb:KeyTT H b k) (hn:Zc2 kvs k=none) (hl:kvs.length<sizeLine) (rv:RelV v r)
  (h:∀ s',Inv X pins σ (upd H a (dtt X.prog X.w a (kvs++[(k,b,v)]))) s'->Q () s'):wpAny (model X.prog X.w) A (setItem (.ref a) (.ref b) r) Q E s:=by
 obtain ⟨z,hd,xs,rel,dd⟩:=Zgz I.hok e K
 have hz:xs.length<=sizeLine:=by rw [<-Paired.length rel];exact z
 have hn':atKey xs k=none:=Option.map_eq_none_iff.mp (RelO.none_of (by rw [<-hn];exact ZgA rel k))
 refine wpAny_setItem_heap (hsz:=hz) (Zdy hu) (Zd5 I.hok kb) dd λh' dd' hs=>h _ ?_
 rw [storedH_new hn'] at dd'
 have he:∃ q,h'.get? a=some q:=let ⟨q,_,_,hq,_⟩:=dd';⟨q,hq⟩
 exact ZcE I (by rw [e];exact True.intro) hs he (ZgB (by rw [List.length_append,List.length_singleton];omega) hd (Paired.snoc rel ⟨rfl,rfl,rv⟩) dd')
end
end L2
namespace L2
open PySem PySem.Spec PyProof.Rows
section
variable {X:Cx} {pins:List (Addr×Obj)} {σ:St} {H:Hp} {s:Shared} {a:Addr}
theorem Zlm {kvs:TTs} (I:Inv X pins σ H s) (e:H a=some (dtt X.prog X.w a kvs)):s.TypeIs (.ref a) "dict" /\ ∀ b,Value.ref a=.ref b->∃ ob,s.heap.get? b=some ob/\ob.dict=none:=by
 obtain ⟨⟨_,_,xs,_,o,es,ep,h1,h2,_⟩,_,_⟩:=(show ObjOk X.prog X.w H s.heap a (dtt X.prog X.w a kvs) from I.hok a _ e)
 refine ⟨⟨o,h1,h2.1⟩,λb q=>?_⟩
 cases q
 exact ⟨o,h1,h2.2.1⟩
end
section
variable (P:Program) (w:World)
def ZiI (ty td:TE):TE:=λσ H Q=>ty σ H λy H1=>td σ H1 λx H2=>∃ a o,x=.ref a/\ZkB P w H2 a y o/\Q (.bl (!o.isSome)) H2
def Zln (td ty tv:TE):TS:=λD σ H=>tv σ H λv H1=>td σ H1 λx H2=>ty σ H2 λy H3=>∃ a b kvs k,x=.ref a/\y=.ref b/\H3 a=some (dtt P w a kvs)/\KeysTT H3 kvs/\KeyTT H3 b k/\Zc2 kvs k=none/\kvs.length<sizeLine/\D.nx σ (upd H3 a (dtt P w a (kvs++[(k,b,v)])))
def ZjR (td ty tx:TE):TE:=λσ H Q=>td σ H λx H1=>∃ a kvs,x=.ref a/\H1 a=some (dtt P w a kvs)/\ty σ H1 λy H2=>tx σ H2 λz H3=>∃ o,ZkB P w H3 a y o/\Q (o.getD z) H3
def ZjS (tk tv:TE):TE:=λσ H Q=>∀ p,H p=none->tk σ (upd H p (.dK [])) λy H1=>tv σ H1 λv H2=>H2 p=some (.dK [])/\∃ b k,y=.ref b/\KeyTT H2 b k/\Q (.ref p) (upd H2 p (dtt P w p [(k,b,v)]))
end
section
variable {X:Cx} {P:Program} {w:World} {o i e f value:Expr} {pos pos' apos cpos:Pos} {td ty tv tx tk:TE}
theorem ZgD (hP:X.prog=P) (hw:X.w=w) (hu:X.A.units+71<cLine) (hi:PE X i ty) (ho:PE X o td):PC X .NotIn i o (ZiI P w ty td):=by
 subst hP hw
 intro pins s σ H Q I h
 refine thn (hi pins s σ H _ I h) λiv s1 ⟨y,H1,I1,ry,q1⟩=>thn (ho pins s1 σ H1 _ I1 q1) λu s2 ⟨x,H2,I2,rx,a,ov,ex,g,q2⟩=>?_
 subst ex
 obtain rfl:u=Value.ref a:=rx
 exact ZiH hu I2 g ry λs3 I3=>⟨.bl (!ov.isSome),H2,I3,rfl,q2⟩
theorem ZiJ (hP:X.prog=P) (hw:X.w=w) (hu:X.A.units+71<cLine) (ho:PE X o td) (hi:PE X i ty) (hv:PE X value tv) (hs:swapsWith value (some (.Subscript o i pos')) pos.line X.env=pure false) :
  PS X (.Assign [.Subscript o i pos'] value pos) (Zln P w td ty tv):=by
 subst hP hw
 intro pins s σ H D I h
 refine wpAny_Assign_Subscript (thn (hv pins s σ H _ I h) λr s1 ⟨v,H1,I1,rv,q1⟩=>thn (ho pins s1 σ H1 _ I1 q1) λu s2 ⟨x,H2,I2,rx,q2⟩=>thn (hi pins s2 σ H2 _ I2 q2) λiv s3 ⟨y,H3,I3,ry,a,b,kvs,k,ex,ey,ea,K,kb,hn,hl,q3⟩=>?_) hs
 subst ex ey
 obtain rfl:u=Value.ref a:=rx
 obtain rfl:iv=Value.ref b:=ry
 exact ZgC hu I3 ea K kb hn hl rv λs4 I4=>⟨σ,_,I4,q3⟩
theorem Zhl (hP:X.prog=P) (hw:X.w=w) (hu:X.A.units+71<cLine) (ho:PE X o td) (he:PE X e ty) (hf:PE X f tx) (m:M2 X o "get" apos e f cpos):PE X (.Call (.Attribute o "get" apos) [e,f] [] cpos) (ZjR P w td ty tx):=by
 subst hP hw
 intro pins s σ H Q I h
 refine wpAny_Call_method m.base m.few m.line PySem.F.plainAttrs_dict PySem.F.slot_dict_get PySem.F.type_dict_get (thn (ho pins s σ H _ I h) λu s1 ⟨x,H1,I1,rx,a,kvs,ex,ea,q1⟩=>?_)
 subst ex
 obtain rfl:u=Value.ref a:=rx
 obtain ⟨t1,t2⟩:=Zlm I1 ea
 refine ⟨t1,t2,?_⟩
 rw [m.trees]
 refine Calls.callWith_builtin rfl (Calls.evalArgs_plain (Calls.spliced_cons (thn (he pins s1 σ H1 _ I1 q1) λiv s2 ⟨y,H2,I2,ry,q2⟩=>
  Calls.spliced_cons (thn (hf pins s2 σ H2 _ I2 q2) λfv s3 ⟨z,H3,I3,rz,ov,g,q3⟩=>Calls.spliced_nil ?_))))
 exact ZjQ hu I3 g ry rz λw' s4 I4 rw'=>⟨_,H3,I4,rw',q3⟩
theorem Zhm (hP:X.prog=P) (hw:X.w=w) (hu:X.A.units+71<cLine) (hk:PE X i tk) (hv:PE X value tv):PE X (.Dict [some i] [value] pos) (ZjS P w tk tv):=by
 subst hP hw
 intro pins s σ H Q I q
 have hn:=I.hok.fresh (Nat.le_refl s.heap.objs.size)
 have I1:=I.laid (a:=s.heap.objs.size) (o:=.dK []) (h':=s.heap.push { cls:=.type "dict", data:=.dict #[] }) (t':=s.toks) (λ_ _ q=>Heap.get?_push_of_some _ q) (Nat.le_refl _) (ZeO s.heap I.big)
 have pp:PPs X pos [some i] [value] [(tk,tv)]:=Zdg hk hv Zf9
 refine wpAny_Dict_any rfl rfl (by simp) (by simp) (thn (pp pins _ σ _ (λps H2=>match ps with | [(y,v)]=>H2 s.heap.objs.size=some (.dK [])/\∃ b k,y=.ref b/\KeyTT H2 b k/\Q (.ref s.heap.objs.size) (upd H2 s.heap.objs.size (dtt X.prog X.w s.heap.objs.size [(k,b,v)])) | _=>False) I1 (q _ hn)) λws s2 ⟨ps,H2,I2,rel,q2⟩=>?_)
 cases rel with
 | nil=>exact q2.elim
 | @cons p q ps qs h t=>
  cases t with
  | cons _ _=>exact (show False from q2).elim
  | nil=>
   obtain ⟨y,v⟩:=p
   obtain ⟨u1,u2⟩:=q
   obtain ⟨e,b,k,rfl,kb,q3⟩:=(show H2 s.heap.objs.size=some (.dK [])/\∃ b k,y=.ref b/\KeyTT H2 b k/\Q (.ref s.heap.objs.size) (upd H2 s.heap.objs.size (dtt X.prog X.w s.heap.objs.size [(k,b,v)])) from q2)
   obtain ⟨h1,h2⟩:=h
   cases (show u1=Value.ref b from h1)
   obtain ⟨z,hd,vs0,r0,o,es,ep,g1,g2,g3,g4,g5,g6⟩:=Zin I2.hok e
   cases r0
   have hes:es.toList=[]:=by
    cases hes:es.toList with
    | nil=>rfl
    | cons x l=>rw [hes] at g5;cases g5
   have dd:s2.heap.DictOfH (Zbh X.prog X.w) s.heap.objs.size []:=⟨o,es,ep,g1,g2,g3,hes,λx hx=>(by cases hx),List.nodup_nil⟩
   unfold storeAll
   rw [List.forIn_cons]
   refine wpAny_bind (wpAny_bind (wpAny_dictSet_heap (hsz:=Nat.zero_le _) (knd:=Zbh X.prog X.w) (k:=k) (by show X.A.units+70<cLine;omega) (Zd5 I2.hok kb) dd λh' dd' hs=>wpAny_pure ?_))
   show wpAny _ _ (forIn ([]:List (Value×Value)) PUnit.unit _) _ _ _
   rw [List.forIn_nil]
   refine wpAny_pure ⟨.ref s.heap.objs.size,_,?_,rfl,q3⟩
   have he:∃ q,h'.get? s.heap.objs.size=some q:=let ⟨q,_,_,hq,_⟩:=dd';⟨q,hq⟩
   exact ZcE I2 (by rw [e];exact True.intro) hs he (ZgB (by show 1<=sizeLine;rw [sizeLine_eq];omega) hd (.cons ⟨rfl,rfl,h2⟩ .nil) dd')
end
end L2
namespace L2
open PySem PySem.Spec PyProof.Rows
section
variable {X:Cx}
def ZiK (K:PySem.W.Frag):V->List V->Hp->VK->Prop:=λx vs H Q=>∃ (l:Addr) (y:V) (xs:List V) (d:PyData) (ds:List PyData) (j:Nat),x=.ref l/\vs=[y]/\H l=some (.lst xs)/\DatV K H y d/\DatVs K H xs ds/\SeqAt.shaped d=true/\(∀ e∈ds,SeqAt.shaped e=true) /\
 (∃ e,ds[j]?=some e/\PyData.eqv e d=true)/\(∀ (m:Nat) e,m<j->ds[m]?=some e->PyData.eqv e d=false)/\Q (.int (j:Int)) H
theorem ZgE (K:PySem.W.Frag) (hu:X.A.units+70<cLine) (hK:X.K=K:=by rfl):MtM X "list.index" (ZiK K):=by
 subst hK
 intro pins s σ H x vs v us Q I rx rv h
 obtain ⟨l,y,xs,d,ds,j,rfl,rfl,hH,hd,hds,sd,sds,⟨e0,hj,he0⟩,hno,q⟩:=h
 cases rx
 obtain ⟨u,rfl,ru⟩:=rv.one
 obtain ⟨z,its,n,r,hl,e⟩:=I.lstM hH
 obtain ⟨as,ra⟩:=hd.reads I ru
 obtain ⟨bs,rb⟩:=hds.reads I r
 obtain ⟨k1,k2⟩:=Zf4 rb sds
 have h16:(16777216:Nat)=sizeLine:=sizeLine_eq.symm
 have get:∀ (m:Nat) (hm:m<its.length),ds[m]?=some (ZbH s.heap its[m]):=λm hm=>by rw [<-k2,List.getElem?_map,List.getElem?_eq_getElem hm];rfl
 have hjl:j<its.length:=by
  have:=(List.getElem?_eq_some_iff.mp hj).1
  rw [<-k2,List.length_map] at this
  exact this
 refine call_meets F.slot_list_index ⟨_,e,rfl⟩ F.entry_list_index (F.args_list_index_2 _ _)
  (PySem.SeqAt.list_indexAt l its.toArray n _ _ u (λw=>PyData.eqv (ZbH s.heap w) d) j (by simpa using hjl) (by omega) ?_ ?_) ⟨e,λw hw=>?_,?_⟩
 ·have:=get j hjl
  rw [hj] at this
  injection this with this
  show PyData.eqv (ZbH s.heap its[j]) d=true
  rw [<-this]
  exact he0
 ·intro m hm hlt
  exact hno m _ hlt (get m (by simpa using hm))
 ·obtain ⟨as',r',s'⟩:=k1 w (by simpa using hw)
  exact PySem.W.keq_at r' ra s' sd (by simp only [Around.in1_units];omega)
 ·exact ⟨.int _,H,I.tok _,⟨_,rfl⟩,q⟩
theorem Zfo {e st:Expr} {te:TE} {p2 pos:Pos} (K:PySem.W.Frag) (he:PE X e te) (hst:PE X st (tUn (rU λi=>.int (-i)) (tC (.int 1)))) (hK:X.K=K:=by rfl):PE X (.Subscript e (.Slice none none (some st) p2) pos) (Zk8 K te Zc8):=by
 subst hK
 intro pins s σ H Q I h
 refine Subscript_ (thn (he pins s σ H _ I h) λv s1 ⟨x,H1,I1,r1,q1⟩=>?_)
 refine wpAny_Slice ?_
 rw [evalPart_none]
 refine wpAny_pure ?_
 refine wpAny_pure ?_
 rw [evalPart_some]
 refine thn (hst pins s1 σ H1 (λy H4=>y=.int (-1)/\H4=H1) I1 ⟨1,rfl,rfl,rfl⟩) λvs s4 ⟨y,H4,I4,r4,ey,eH⟩=>?_
 subst ey eH
 obtain ⟨t4,rfl⟩:=r4
 obtain ⟨a,xs,rfl,hx,hu0,q⟩:=q1
 cases r1
 have I5:Inv X pins σ H4 { s4 with heap:=s4.heap.push { cls:=.type "slice", data:=.fields #[.none,.none,.int (-1) t4] } }:=I4.kept (t':=s4.toks) λb ob q=>Heap.get?_push_of_some _ q
 obtain ⟨its,r,hl,hz⟩:=I5.list hx
 have hlen:=r.length
 have hfr:=I5.fresh
 show wpAny (model X.prog X.w) X.A (subscriptTail e (.Slice none none (some st) p2) (.ref a) (.ref s4.heap.objs.size)) (EP X pins σ Q) X.xe { s4 with heap:=s4.heap.push { cls:=.type "slice", data:=.fields #[.none,.none,.int (-1) t4] } }
 refine tail_any (ops:=[.ref a,.ref s4.heap.objs.size]) hl.isList.typeIs slot_list_getitem.lookup (wpAny_getItem_list_slice hl.isList ⟨_,Heap.get?_push_size _ rfl,rfl,rfl⟩ .none .none (.int (-1) t4) (by decide) ?_ (by rw [List.size_toArray] <;> omega)) (by with_unfolding_all rfl)
 rw [ZbW]
 exact ⟨.ref _,_,I5.lnew (ys:=xs.reverse) (t':=s4.toks) r.reverse (by rw [List.length_reverse];exact hz),rfl,q _ hfr⟩
end
end L2
namespace M
open PySem L2
def top (i:Nat):Stmt:=PySem.Challenge.pw_onceways_k53_numbers_of_sets.main.body.getD i (.Pass ⟨0,0,0,0⟩)
abbrev ZiL:Stmt:=top 16
abbrev ZhN:Stmt:=top 17
abbrev ZhO:Stmt:=top 19
abbrev ZhP:Stmt:=top 20
abbrev ZiM:Stmt:=top 21
abbrev ZhQ:Stmt:=top 23
abbrev ZiN:Stmt:=top 25
abbrev Zfr:Stmt:=top 26
abbrev ZiO:Stmt:=top 27
abbrev ZhR:Stmt:=top 28
abbrev ZiP:Stmt:=top 29
abbrev ZhS:Stmt:=top 30
abbrev ZiQ:Stmt:=top 31
abbrev ZhT:Stmt:=top 33
abbrev ZiR:Stmt:=top 34
abbrev ZiS:Stmt:=top 35
abbrev ZiT:Stmt:=top 36
abbrev ZiU:Stmt:=top 37
abbrev ZgF:Stmt:=top 38
end M
namespace M
open PySem L2
section
variable {P:Program} {w:World} {K:PySem.W.Frag} {mg:Str->Option Value} {base:Heap}
theorem ZbO:2<=sizeLine:=by decide
theorem ZiV {xs:List V} {i:Int} {v:V} (h0:0<=i) (h:xs[i.toNat]?=some v):atI xs i=some v:=by
 obtain ⟨k,rfl⟩:=Int.eq_ofNat_of_zero_le h0
 exact Zan h
theorem Zcf {H:Hp} {xs:List V} {ts:List Tri} (T:Trs H xs ts) {c:Int} {r:Tri} (n:Nd ts c r):∃ t,atI xs (c-2)=some (.ref t)/\H t=some (.tup [.int r.1,.int r.2.1,.int r.2.2]):=by
 obtain ⟨t,h1,h2⟩:=T.at n.2
 exact ⟨t,ZiV (by have:=n.1;omega) h1,h2⟩
structure TabAt (H:Hp) (tb l:Addr) (root:Int) (xs:List V) (ts:List Tri):Prop where
 w:H tb=some (.tup [.int root,.ref l])
 l:H l=some (.lst xs)
 t:Trs H xs ts
theorem TabAt.same {H H':Hp} {tb l:Addr} {root:Int} {xs:List V} {ts:List Tri} (h:TabAt H tb l root xs ts) (s:Same H H'):TabAt H' tb l root xs ts:=⟨s _ _ h.w,s _ _ h.l,h.t.same s⟩
theorem Zbi {ns:List Int} {i:Nat} {x:V} (h:(ns.map V.int)[i]?=some x):∃ z,x=.int z/\ns[i]?=some z:=by
 rw [List.getElem?_map] at h
 cases hz:ns[i]? with
 | none=>rw [hz] at h;cases h
 | some z=>rw [hz] at h;cases h;exact ⟨z,rfl,rfl⟩
end
end M
namespace M
open PySem L2
inductive Sts (ts:List Tri):Int->List (List Int)->Prop
 | zero:Sts ts 0 []
 | one:Sts ts 1 [[]]
 | node {c:Int} {r:Tri} {A B:List (List Int)}:Nd ts c r->Sts ts r.2.1 A->Sts ts r.2.2 B->Sts ts c (A++B.map (r.1::·))
theorem Sts.uniq {ts:List Tri} {c:Int} {L:List (List Int)} (h:Sts ts c L):∀ {L':List (List Int)},Sts ts c L'->L=L':=by
 induction h with
 | zero=>
  intro L' h'
  cases h' with
  | zero=>rfl
  | node n _ _=>exact absurd n.1 (by decide)
 | one=>
  intro L' h'
  cases h' with
  | one=>rfl
  | node n _ _=>exact absurd n.1 (by decide)
 | @node c r A B n hA hB iA iB=>
  intro L' h'
  cases h' with
  | zero=>exact absurd n.1 (by decide)
  | one=>exact absurd n.1 (by decide)
  | node n' hA' hB'=>
   cases n.one n'
   rw [iA hA',iB hB']
theorem Sts.ex {ts:List Tri} (T:TabOk ts):∀ (m:Nat) {c lo:Int},At ts c lo->30-lo<=(m:Int)->∃ L,Sts ts c L
 | 0,c,lo,a,hm=>by
  rcases a with rfl | rfl | ⟨r,n,g⟩
  ·exact ⟨_,.zero⟩
  ·exact ⟨_,.one⟩
  ·have:=(T.nd n).1
   omega
 | m+1,c,lo,a,hm=>by
  rcases a with rfl | rfl | ⟨r,n,g⟩
  ·exact ⟨_,.zero⟩
  ·exact ⟨_,.one⟩
  ·obtain ⟨A,hA⟩:=Sts.ex T m (T.nd n).2.1 (by omega)
   obtain ⟨B,hB⟩:=Sts.ex T m (T.nd n).2.2 (by omega)
   exact ⟨_,.node n hA hB⟩
theorem Sts.of {ts:List Tri} (T:TabOk ts) {c lo:Int} (a:At ts c lo):∃ L,Sts ts c L:=Sts.ex T (30-lo).toNat a (by omega)
theorem Sts.has {ts:List Tri} {c:Int} {L:List (List Int)} (h:Sts ts c L):∀ s,s∈L↔Has ts c s:=by
 induction h with
 | zero=>exact λs=>⟨λh=>(by cases h),λh=>absurd h Has.zero⟩
 | one=>exact λs=>by rw [Has.at1];simp
 | @node c r A B n hA hB iA iB=>
  intro s
  rw [List.mem_append,List.mem_map]
  cases s with
  | nil=>
   rw [Has.nil n,<-iA]
   exact ⟨λh=>h.elim id λ⟨_,_,e⟩=>(by cases e),.inl⟩
  | cons x s=>
   rw [Has.cons n,<-iA,<-iB]
   constructor
   ·rintro (h | ⟨y,hy,e⟩)
    ·exact .inl h
    ·cases e
     exact .inr ⟨rfl,hy⟩
   ·rintro (h | ⟨rfl,h⟩)
    ·exact .inl h
    ·exact .inr ⟨s,h,rfl⟩
theorem Sts.nodup {ts:List Tri} (T:TabOk ts) {c:Int} {L:List (List Int)} (h:Sts ts c L):L.Nodup:=by
 induction h with
 | zero=>exact List.nodup_nil
 | one=>simp
 | @node c r A B n hA hB iA iB=>
  refine List.nodup_append.mpr ⟨iA,?_,?_⟩
  ·unfold List.Nodup
   rw [List.pairwise_map]
   exact iB.imp λh e=>h (by injection e)
  ·rintro a ha b hb rfl
   obtain ⟨y,hy,e⟩:=List.mem_map.mp hb
   have:=((hA.has a).mp ha).gt T (T.nd n).2.1 e.symm
   omega
structure Fall (ts:List Tri) (os:List Int):Prop where
 al:∀ c r,Nd ts c r->c∈os
 nd:∀ c∈os,∃ r,Nd ts c r
 so:os.Pairwise λc d=>∀ r q,Nd ts c r->Nd ts d q->q.1<=r.1
 ln:os.length<=ts.length
theorem Fall.before {ts:List Tri} {os:List Int} (F:Fall ts os) {i:Nat} {c c':Int} {r r':Tri} (hi:os[i]?=some c) (n:Nd ts c r) (n':Nd ts c' r') (g:r.1<r'.1):c'∈os.take i:=by
 obtain ⟨hl,e⟩:=List.getElem?_eq_some_iff.mp hi
 obtain ⟨j,hj,ej⟩:=List.getElem_of_mem (F.al c' r' n')
 rcases Nat.lt_trichotomy j i with h | h | h
 ·exact List.mem_take_iff_getElem.mpr ⟨j,by omega,ej⟩
 ·subst h
  rw [e] at ej
  subst ej
  rw [n.one n'] at g
  omega
 ·have:=List.pairwise_iff_getElem.mp F.so i j hl hj h r r' (e▸n) (ej▸n')
  omega
structure CntOk (ts:List Tri) (kvs:List (Key×V)) (dn:List Int):Prop where
 z:ZbI kvs (.inl 0)=some (.int 0)
 o:ZbI kvs (.inl 1)=some (.int 1)
 c:∀ c∈dn,∀ L,Sts ts c L->ZbI kvs (.inl c)=some (.int (L.length:Int))
theorem CntOk.get {ts:List Tri} {os:List Int} {kvs:List (Key×V)} {i:Nat} {c c' lo:Int} {r:Tri} {L:List (List Int)} (D:CntOk ts kvs (os.take i)) (F:Fall ts os) (hi:os[i]?=some c) (n:Nd ts c r) (a:At ts c' r.1) (h:Sts ts c' L):ZbI kvs (.inl c')=some (.int (L.length:Int)):=by
 rcases a with rfl | rfl | ⟨r',n',g⟩
 ·rw [h.uniq .zero]
  exact D.z
 ·rw [h.uniq .one]
  exact D.o
 ·exact D.c c' (F.before hi n n' g) L h
theorem CntOk.snoc {ts:List Tri} {os:List Int} {kvs:List (Key×V)} {i:Nat} {c:Int} {r:Tri} {A B:List (List Int)} (D:CntOk ts kvs (os.take i)) (hi:os[i]?=some c) (n:Nd ts c r) (hA:Sts ts r.2.1 A) (hB:Sts ts r.2.2 B) :
  CntOk ts (ZdA kvs (.inl c) (.int ((A.length:Int)+(B.length:Int)))) (os.take (i+1)):=by
 have n2:=n.1
 refine ⟨?_,?_,λd hd L hL=>?_⟩
 ·rw [Zdf,if_neg (by intro z;injection z with z;omega)]
  exact D.z
 ·rw [Zdf,if_neg (by intro z;injection z with z;omega)]
  exact D.o
 ·rw [Zdf]
  by_cases e:d=c
  ·subst e
   rw [if_pos rfl,hL.uniq (.node n hA hB),List.length_append,List.length_map]
   push_cast
   rfl
  ·rw [if_neg (by intro z;injection z with z;exact e z)]
   rw [List.take_add_one,hi] at hd
   rcases List.mem_append.mp hd with h | h
   ·exact D.c d h L hL
   ·have:d=c:=by simpa using h
    exact absurd this e
theorem CntOk.fin {ts:List Tri} {os:List Int} {kvs:List (Key×V)} {c lo:Int} {L:List (List Int)} (D:CntOk ts kvs os) (F:Fall ts os) (a:At ts c lo) (h:Sts ts c L):ZbI kvs (.inl c)=some (.int (L.length:Int)):=by
 rcases a with rfl | rfl | ⟨r',n',g⟩
 ·rw [h.uniq .zero]
  exact D.z
 ·rw [h.uniq .one]
  exact D.o
 ·exact D.c c (F.al c r' n') L h
theorem Fall.len {ts:List Tri} {os:List Int} (F:Fall ts os) {i:Nat} {c:Int} (hi:os[i]?=some c):∃ r,Nd ts c r:=F.nd c (List.mem_of_getElem? hi)
theorem fall_of {ts:List Tri} {ps:List (Int×Int)} (pm:ps.Perm ((ts.map (·.1)).zip (upI 2 ts.length))) (so:ps.Pairwise λp q=>q.1<=p.1):Fall ts (ps.map Prod.snd):=by
 have hz:∀ p,p∈(ts.map (·.1)).zip (upI 2 ts.length)↔∃ r,Nd ts p.2 r/\r.1=p.1:=by
  intro p
  constructor
  ·intro h
   obtain ⟨i,hi⟩:=List.mem_iff_getElem?.mp h
   obtain ⟨h1,h2⟩:=List.getElem?_zip_eq_some.mp hi
   rw [List.getElem?_map] at h1
   cases ht:ts[i]? with
   | none=>rw [ht] at h1;cases h1
   | some r=>
    rw [ht] at h1
    injection h1 with h1
    have hi':i<ts.length:=(List.getElem?_eq_some_iff.mp ht).1
    have e2:p.2=2+(i:Int):=by
     unfold upI at h2
     simp [hi'] at h2
     omega
    refine ⟨r,⟨by omega,?_⟩,h1⟩
    rw [e2,show (2+(i:Int)-2).toNat=i by omega]
    exact ht
  ·rintro ⟨r,n,e⟩
   have hi':(p.2-2).toNat<ts.length:=(List.getElem?_eq_some_iff.mp n.2).1
   have n1:=n.1
   refine List.mem_iff_getElem?.mpr ⟨(p.2-2).toNat,List.getElem?_zip_eq_some.mpr ⟨?_,?_⟩⟩
   ·rw [List.getElem?_map,n.2]
    exact congrArg some e
   ·unfold upI
    simp [hi']
    omega
 refine ⟨λc r n=>?_,λc hc=>?_,?_,by rw [List.length_map,pm.length_eq,List.length_zip,List.length_map];omega⟩
 ·exact List.mem_map.mpr ⟨(r.1,c),pm.mem_iff.mpr ((hz _).mpr ⟨r,n,rfl⟩),rfl⟩
 ·obtain ⟨p,hp,rfl⟩:=List.mem_map.mp hc
  obtain ⟨r,n,_⟩:=(hz p).mp (pm.mem_iff.mp hp)
  exact ⟨r,n⟩
 ·rw [List.pairwise_map]
  refine so.imp_of_mem λ{p q} hp hq hpq r r' n n'=>?_
  obtain ⟨r1,n1,e1⟩:=(hz p).mp (pm.mem_iff.mp hp)
  obtain ⟨r2,n2,e2⟩:=(hz q).mp (pm.mem_iff.mp hq)
  rw [n.one n1,n'.one n2,e1,e2]
  exact hpq
end M
namespace M
open PySem L2
def lq:Str:=Str.ofString "from_below.<locals>.<lambda>"
abbrev LS (tb:Addr) (H:Hp):Prop:=LamSt tb 32 48 lq H
theorem Zd6 {H:Hp}:∀ {xs:List V} {ts:List Tri},Trs H xs ts->∃ us:List (Addr×Int×List V),xs=us.map (λu=>V.ref u.1)/\us.map (·.2.1)=ts.map (·.1)/\us.length=ts.length/\∀ u∈us,H u.1=some (.tup (V.int u.2.1::u.2.2))
 | _,_,.nil=>⟨[],rfl,rfl,rfl,λu hu=>by cases hu⟩
 | _,_,.cons (p:=p) (a:=a) (b:=b) (c:=c) e r=>by
  obtain ⟨us,h1,h2,h3,h4⟩:=Zd6 r
  refine ⟨(p,a,[.int b,.int c])::us,by rw [h1];rfl,by simp [h2],by simp [h3],λu hu=>?_⟩
  rcases List.mem_cons.mp hu with rfl | hu
  ·exact e
  ·exact h4 u hu
section
variable {P:Program} {w:World} {K:PySem.W.Frag} {mg:Str->Option Value} {base:Heap}
def ZjT (tb:Addr):Sp:=λvs H Q _=>∃ (l:Addr) (xs:List V) (ts:List Tri),vs=[.ref l]/\H l=some (.lst xs)/\Trs H xs ts/\ts.length<=900/\LS tb H /\
 ∀ (a:Addr) (os:List Int) (H':Hp),SameL tb H H'->LS tb H'->H a=none->H' a=some (.lst (os.map V.int))->Fall ts os->Q (.ref a) H'
theorem Zlo:ZaA ["nodes"] ["nodes"] (Zaf ZiL):=⟨rfl,rfl,rfl,by decide +kernel,rfl,by decide +kernel,by decide +kernel⟩
theorem ZjU {f c tb:Addr} {fd:FuncData} (F:Fun K "from_below" "from_below" ZiL f fd) (hc:fd.code=.ref c) (hC:PySem.W.CodeHd base c tb) (hBl:base.BuiltinsAt mg tb) (mSor:mg "sorted" = none) (mRange:mg "range" = none) (mLen:mg "len" = none) :
  ZaX P w K mg base CX0 1 f fd ["nodes"] (ZjT tb):=by
 refine F.okC hc Zlo (λvs H Q E h=>?_) (λA outer s H vs Q E hr h=>?_)
 ·obtain ⟨_,_,_,rfl,_⟩:=h
  rfl
 ·obtain ⟨l,xs,ts,rfl,el,tr,hts,st,q⟩:=h
  have h16:(16777216:Nat)=sizeLine:=sizeLine_eq.symm
  have hroom:=hr.depth
  refine ⟨_,Zah (ZaD (Zfk (Zgv (K:=K) (j:=0) (x:=Str.ofString "number") (y:=Str.ofString "nodes") (cc:=s.heap.objs.size+1) (qual:=Str.ofString "from_below.<locals>.<lambda>") (params:={ posonlyargs:=[],args:=[{ arg := "number", annotation:=none,pos:=⟨32,55,32,61⟩:PySem.Arg }],vararg:=none,kwonlyargs:=[],kw_defaults:=[],kwarg:=none,defaults:=[]:PySem.Arguments }) (pm:=(mg "__name__").getD .none) (scope:={ kind:=PySem.ScopeKind.function,names:=[(PySem.Str.ofString "number", PySem.NameKind.local),(PySem.Str.ofString "nodes", PySem.NameKind.free)],isGenerator:=false,isCoroutine:=false,more:=[]:PySem.Scope }) (p1:=⟨32,63,32,68⟩) (p2:=⟨32,69,32,75⟩) (p3:=⟨32,78,32,79⟩) (p4:=⟨32,69,32,79⟩) (p5:=⟨32,63,32,80⟩) (p6:=⟨32,81,32,82⟩) (p7:=⟨32,63,32,83⟩) (d1:=0) (d2:=0) rfl rfl hroom rfl (Or.inr (Or.inl rfl)) rfl rfl rfl rfl rfl (λ_ _ _=>rfl) rfl rfl (by decide +kernel) (by decide) (by decide) (by decide)) rfl mSor PyProof.Rows.boot_sorted (Zaa (Ziv rfl mRange (Zaa Zae (Zaa (Zak ZaR (Zaq (Zfq K) rfl mLen PySem.boot_len (Zaa (pv 0) Zac)) Zae) Zac))) Zac) (ZfO (ZjP (qual:=Str.ofString "from_below.<locals>.<lambda>") (clos:=[(Str.ofString "nodes", s.heap.objs.size+1)]) rfl rfl hC hBl rfl) (ZfO Zee Zjo)))),?_⟩
  have hxl:=tr.len
  refine ⟨_,rfl,l,xs,rfl,.inl (SqL.of el),_,_,rfl,rfl,_,_,rfl,λr0 hr0=>?_⟩
  have s1:Same H (upd H r0 (.rng 2 ((xs.length:Int)+2))):=Same.new hr0
  have er0:upd H r0 (.rng 2 ((xs.length:Int)+2)) r0=some (.rng 2 ((xs.length:Int)+2)):=Zab
  generalize upd H r0 (.rng 2 ((xs.length:Int)+2))=H1 at s1 er0 ⊢
  have st1:LS tb H1:=st.same s1
  obtain ⟨ps,eP⟩:=st1.tbl
  obtain ⟨us,hu1,hu2,hu3,hu4⟩:=Zd6 (tr.same s1)
  refine ⟨st1,λfl c' ctv H2 sl on hfl efl=>?_⟩
  have er2:H2 r0=some (.rng 2 ((xs.length:Int)+2)):=sl r0 _ (λz=>by rw [z,eP] at er0;cases er0) er0
  obtain ⟨eP2,oc,eoc,hco⟩:=on
  refine ⟨r0,fl,c',l,oc,ctv,xs.length,us,rfl,rfl,er2,by omega,efl,eoc,hco,rfl,SqL.of (by rw [<-hu1];exact sl.lst eP (s1 _ _ el)),by omega,λu hu=>SqT.of (sl.tup eP (hu4 u hu)),λa os ha pm so=>?_⟩
  have on2:LS tb H2:=.inr ⟨c',eP2,oc,eoc,hco⟩
  rw [hu2,hxl] at pm
  have ha1:H1 a=none:=sl.free eP ⟨_,eP2⟩ ha
  exact q a _ _ ((SameL.of s1).trans (sl.put ha1)) (on2.same (Same.new ha)) (s1.free ha1) Zab (fall_of pm so)
end
end M
namespace M
open PySem L2
theorem LamSt.keep {P d:Addr} {line col:Nat} {qual:Str} {H H':Hp} {kv:List (Key×V)} (h:LamSt P line col qual H) (k:∀ b o,b≠d->H b=some o->H' b=some o) (hd:H d=some (.dK kv)):LamSt P line col qual H':=by
 rcases h with h | ⟨c,h1,oc,h2,h3⟩
 ·exact .inl (k _ _ (λz=>by rw [z,hd] at h;cases h) h)
 ·exact .inr ⟨c,k _ _ (λz=>by rw [z,hd] at h1;cases h1) h1,oc,k _ _ (λz=>by rw [z,hd] at h2;cases h2) h2,h3⟩
theorem ZgG (ts:List Tri):CntOk ts (ZbL [] [(Sum.inl 0,.int 0),(Sum.inl 1,.int 1)]) []:=⟨rfl,rfl,λc hc=>by cases hc⟩
section
variable {P:Program} {w:World} {K:PySem.W.Frag} {mg:Str->Option Value} {base:Heap}
def ZjV (tb:Addr):Sp:=λvs H Q _=>∃ (l:Addr) (xs:List V) (ts:List Tri),vs=[.ref l]/\H l=some (.lst xs)/\Trs H xs ts/\TabOk ts/\ts.length<=900/\LS tb H /\
 ∀ (d:Addr) (kvs:List (Key×V)) (os:List Int) (H':Hp),SameL tb H H'->LS tb H'->H d=none->H' d=some (.dK kvs)->CntOk ts kvs os->Fall ts os->Q (.ref d) H'
theorem scSzs:ZaA ["nodes", "sizes", "number", "road", "low", "high"] ["nodes"] (Zaf ZhN):=⟨rfl,rfl,rfl,by decide +kernel,rfl,by decide +kernel,by decide +kernel⟩
theorem ZjW {f fFb tb:Addr} {fd fdFb:FuncData} (F:Fun K "sizes_of" "sizes_of" ZhN f fd) (FFb:Fun K "from_below" "from_below" ZiL fFb fdFb) (bFb:Binds K fdFb ["nodes"] []) (mFb:mg "from_below" = some (.ref fFb)) (GFb:ZaX P w K mg base CX0 1 fFb fdFb ["nodes"] (ZjT tb)) :
  ZaX P w K mg base CX0 2 f fd ["nodes"] (ZjV tb):=by
 refine F.ok scSzs (λvs H Q E h=>?_) (λcdv A outer s H vs Q E hr h=>?_)
 ·obtain ⟨_,_,_,rfl,_⟩:=h
  rfl
 ·obtain ⟨l,xs,ts,rfl,el,tr,T,hts,st,q⟩:=h
  have h16:(16777216:Nat)=sizeLine:=sizeLine_eq.symm
  have hu1:(A.deeper (PyProof.Rows.envOfC "sizes_of" (Zaf ZhN) s.heap.objs.size f cdv)).units+1<cLine:=by have:=hr.un;omega
  refine ⟨_,Zad (Zaj (i:=1) scSzs.nd rfl (Or.inl rfl) (Zir (Zdg Zae Zae (Zdg Zae Zae Zf9)) rfl rfl (by decide) (by decide)))
    (Zad (ZbJ PassesOwn.never rfl (ZbG K (Zai GFb (hr.mono (by decide)) rfl mFb FFb.kp bFb .nil ZaI (Zaa (pv 0) Zac))) (Zal (i:=2) scSzs.nd rfl (Or.inl rfl))
    (Zad (Zcy (ZaC (Zbu K) (pv 0) (Zak Zbq (pv 2) Zae) (λ_ _=>rfl)) (ZjA K (n:=3) rfl (ZaM (Zal (i:=3) scSzs.nd rfl (Or.inl rfl)) (ZaM (Zal (i:=4) scSzs.nd rfl (Or.inl rfl)) (ZaM (Zal (i:=5) scSzs.nd rfl (Or.inl rfl)) Zcx)))))
    (Zah (Ziq hu1 (pv 1) (pv 2) (Zak ZaR (Zem hu1 (pv 1) (pv 4) (λ_ _=>rfl)) (Zem hu1 (pv 1) (pv 5) (λ_ _=>rfl))) rfl))))
    (Zah (ZaD (pv 1)))),?_⟩
  intro d hd
  refine ⟨Zab,[(.inl 0,.int 0),(.inl 1,.int 1)],rfl,by decide,?_⟩
  have s1:Same H (upd (upd H d (.dK [])) d (.dK (ZbL [] [(.inl 0,.int 0),(.inl 1,.int 1)]))):=(Same.new hd).put hd
  have ed:upd (upd H d (.dK [])) d (.dK (ZbL [] [(.inl 0,.int 0),(.inl 1,.int 1)])) d=some (.dK (ZbL [] [(.inl 0,.int 0),(.inl 1,.int 1)])):=Zab
  generalize upd (upd H d (.dK [])) d (.dK (ZbL [] [(.inl 0,.int 0),(.inl 1,.int 1)]))=H1 at s1 ed ⊢
  have st1:LS tb H1:=st.same s1
  obtain ⟨ps,eP⟩:=st1.tbl
  have hxl:=tr.len
  dsimp only [Za2]
  refine ⟨_,rfl,l,xs,ts,rfl,s1 _ _ el,tr.same s1,hts,st1,λa os H2 sl st2 ha ea fa=>?_⟩
  have el2:H2 l=some (.lst xs):=sl.lst eP (s1 _ _ el)
  have tr2:Trs H2 xs ts:=Trs.sameL sl eP (tr.same s1)
  have ed2:=sl.dK eP ed
  have had:a≠d:=λz=>by rw [z,ed2] at ea;cases ea
  have hld:l≠d:=λz=>by rw [z,ed2] at el2;cases el2
  refine ⟨a,rfl,⟨_,SqL.of ea⟩,?_⟩
  have kT:∀ {H':Hp},(∀ b o,b≠d->H2 b=some o->H' b=some o)->∀ p ys,H2 p=some (.tup ys)->H' p=some (.tup ys):=λk p ys e=>k p _ (λz=>by rw [z,ed2] at e;cases e) e
  refine Za6 (K:=K) (a:=a) (xs:=os.map V.int) (λi σ H'=>∃ (kvs:List (Key×V)) (v2 v3 v4 v5:Option V),σ=[some (.ref l),some (.ref d),v2,v3,v4,v5]/\(∀ b o,b≠d->H2 b=some o->H' b=some o)/\H' d=some (.dK kvs)/\CntOk ts kvs (os.take i)/\kvs.length<=2+i)
   ⟨_,none,none,none,none,rfl,λ_ _ _ e=>e,ed2,by rw [List.take_zero];exact ZgG ts,by decide⟩ (λi σ H' _ ⟨_,_,_,_,_,_,k,_⟩=>SqL.of (k _ _ had ea)) ?_ ?_
  ·rintro i x σ H3 hxi ⟨kvs,v2,v3,v4,v5,rfl,k3,ed3,D,hkl⟩
   obtain ⟨c,rfl,hc⟩:=Zbi hxi
   obtain ⟨r,n⟩:=fa.len hc
   obtain ⟨t,et1,et2⟩:=Zcf (tr2.keep (kT k3)) n
   obtain ⟨A',hA⟩:=Sts.of T (T.nd n).2.1
   obtain ⟨B',hB⟩:=Sts.of T (T.nd n).2.2
   have g1:=D.get (lo:=0) fa hc n (T.nd n).2.1 hA
   have g2:=D.get (lo:=0) fa hc n (T.nd n).2.2 hB
   have hol:os.length<=900:=Nat.le_trans fa.ln hts
   have hi:i<os.length:=(List.getElem?_eq_some_iff.mp hc).1
   dsimp only [Za2]
   refine ⟨_,rfl,_,rfl,_,_,rfl,rfl,l,_,_,_,rfl,rfl,SqL.of (k3 _ _ hld el2),et1,t,_,rfl,SqT.of et2,rfl,_,_,rfl,_,_,rfl,_,_,rfl,rfl,?_⟩
   refine ⟨_,rfl,_,rfl,d,_,rfl,g1▸DGet.k (k:=.inl r.2.1) ed3,_,rfl,_,rfl,d,_,rfl,g2▸DGet.k (k:=.inl r.2.2) ed3,_,_,rfl,rfl,_,rfl,_,rfl,d,_,rfl,DPut.k (k:=.inl c) ed3 (by omega),?_⟩
   have hpl:=Zbf kvs (Sum.inl c:Key) (.int ((A'.length:Int)+(B'.length:Int)))
   exact ⟨_,_,_,_,_,rfl,λb o hb e=>Zao (k3 b o hb e) hb,Zab,D.snoc hc n hA hB,Nat.le_trans hpl (by omega)⟩
  ·rintro σ H3 ⟨kvs,v2,v3,v4,v5,rfl,k3,ed3,D,hkl⟩
   rw [List.length_map,List.take_length] at D
   refine ⟨_,rfl,q d kvs os H3 (λb o hb e=>k3 b o (λz=>by rw [z,hd] at e;cases e) (sl b o hb (s1 b o e))) (LamSt.keep st2 k3 ed2) hd ed3 D fa⟩
end
end M
namespace M
open PySem L2
section
variable {P:Program} {w:World} {K:PySem.W.Frag} {mg:Str->Option Value} {base:Heap}
def ZjX:Sp:=λvs H Q _=>∃ (tb l rl:Addr) (root:Int) (xs:List V) (ts:List Tri) (rs:List Int),vs=[.ref tb,.ref rl]/\TabAt H tb l root xs ts/\TabOk ts/\At ts root (-1)/\H rl=some (.lst (rs.map V.int)) /\
 ∀ c:Int,At ts c (-1)->(∀ u,Has ts root (rs++u)↔Has ts c u)->Q (.int c) H
theorem scBeh:ZaA ["table", "roads", "root", "nodes", "here", "road"] ["table", "roads"] (Zaf ZhO):=⟨rfl,rfl,rfl,by decide +kernel,rfl,by decide +kernel,by decide +kernel⟩
theorem ZjY {f:Addr} {fd:FuncData} (F:Fun K "behind_roads" "behind_roads" ZhO f fd):ZaX P w K mg base CX0 1 f fd ["table", "roads"] ZjX:=by
 refine F.ok scBeh (λvs H Q E h=>?_) (λcdv A outer s H vs Q E hr h=>?_)
 ·obtain ⟨_,_,_,_,_,_,_,rfl,_⟩:=h
  rfl
 ·obtain ⟨tb,l,rl,root,xs,ts,rs,rfl,W,T,ar,er,q⟩:=h
  refine ⟨_,Zad (Zcy (pv 0) (ZjA K (n:=2) rfl (ZaM (Zal (i:=2) scBeh.nd rfl (Or.inl rfl)) (ZaM (Zal (i:=3) scBeh.nd rfl (Or.inl rfl)) Zcx))))
    (Zad (Zaj (i:=4) scBeh.nd rfl (Or.inl rfl) (pv 2))
    (Zad (ZbJ PassesOwn.never rfl (ZbG K (pv 1)) (Zal (i:=5) scBeh.nd rfl (Or.inl rfl))
    (Zad (Zcl PassesOwn.never (PW.pt (ZcP (Zam Zh5 (pv 4) Zae (Zax _)) (Zcw (Zam ZfE (ZaC (Zf1 K) (ZaC (Zbu K) (pv 3) (Zak Zbq (pv 4) Zae) (λ_ _=>rfl)) Zae (λ_ _=>rfl)) (pv 5) (Zax _)))))
    (Zah (Zaj (i:=4) scBeh.nd rfl (Or.inl rfl) (ZaC (Zf1 K) (ZaC (Zbu K) (pv 3) (Zak Zbq (pv 4) Zae) (λ_ _=>rfl)) Zae (λ_ _=>rfl)))))
    (Zah (Zaj (i:=4) scBeh.nd rfl (Or.inl rfl) (ZgR (PW.pt (ZcP (Zam Zh5 (pv 4) Zae (Zax _)) (Zcw (Zam Zc7 (ZaC (Zf1 K) (ZaC (Zbu K) (pv 3) (Zak Zbq (pv 4) Zae) (λ_ _=>rfl)) Zae (λ_ _=>rfl)) (pv 5) (Zax _))))) (ZaC (Zf1 K) (ZaC (Zbu K) (pv 3) (Zak Zbq (pv 4) Zae) (λ_ _=>rfl)) Zae (λ_ _=>rfl)) Zae)))))
    (Zah (ZaD (pv 4))))),?_⟩
  refine ⟨_,rfl,tb,_,rfl,SqT.of W.w,rfl,_,_,rfl,_,_,rfl,rfl,?_⟩
  refine ⟨_,rfl,?_⟩
  refine ⟨_,rfl,rl,rfl,⟨_,SqL.of er⟩,?_⟩
  refine Za6 (K:=K) (a:=rl) (xs:=rs.map V.int) (λi σ H'=>∃ (c:Int) (v5:Option V),σ=[some (.ref tb),some (.ref rl),some (.int root),some (.ref l),some (.int c),v5]/\H'=H/\At ts c (-1)/\(∀ u,Has ts root (rs++u)↔Has ts c (rs.drop i++u)))
   ⟨root,none,rfl,rfl,ar,λ_=>Iff.rfl⟩ (λi σ H' _ ⟨_,_,_,e,_⟩=>by rw [e];exact SqL.of er) ?_ ?_
  ·rintro i x σ H' hxi ⟨c,v5,rfl,rfl,ac,hc⟩
   obtain ⟨z,rfl,hz⟩:=Zbi hxi
   have hd:rs.drop i=z::rs.drop (i+1):=by
    obtain ⟨hi,e⟩:=List.getElem?_eq_some_iff.mp hz
    rw [List.drop_eq_getElem_cons hi,e]
   rw [hd] at hc
   dsimp only [Za2]
   refine Zat (λσ' H''=>∃ c:Int,σ'=[some (.ref tb),some (.ref rl),some (.int root),some (.ref l),some (.int c),some (.int z)]/\H''=H'/\At ts c (-1)/\(∀ u,Has ts root (rs++u)↔Has ts c (z::(rs.drop (i+1)++u)))/\∀ r,Nd ts c r->z<=r.1) ?snd ?fst
   case fst=>
    intro hk
    refine ⟨λm σ' H''=>∃ c:Int,σ'=[some (.ref tb),some (.ref rl),some (.int root),some (.ref l),some (.int c),some (.int z)]/\H''=H'/\At ts c (-1)/\(∀ u,Has ts root (rs++u)↔Has ts c (z::(rs.drop (i+1)++u)))/\∀ r,Nd ts c r->30-r.1<=(m:Int),⟨30,c,rfl,rfl,ac,hc,λr n=>by have:=(T.nd n).1;omega⟩,?_⟩
    clear hc ac
    rintro m σ' H'' ⟨c,rfl,rfl,ac,hc,hm⟩
    refine ⟨_,rfl,_,_,rfl,rfl,_,rfl,Zck (λc1=>?_) (λc1=>?_)⟩
    ·have c1':1<c:=of_decide_eq_true c1
     obtain ⟨r,n,_⟩:=ac.nd c1'
     obtain ⟨t,et1,et2⟩:=Zcf W.t n
     refine ⟨_,rfl,_,rfl,_,_,rfl,rfl,l,_,_,_,rfl,rfl,SqL.of W.l,et1,t,_,_,_,rfl,rfl,SqT.of et2,Zan (j:=0) rfl,_,rfl,_,_,rfl,rfl,_,rfl,Zck (λc2=>?_) (λc2=>?_)⟩
     ·have c2':r.1<z:=of_decide_eq_true c2
      have h30:=(T.nd n).1
      have hr:=hm r n
      refine ⟨_,λ_ _ h=>h,?_⟩
      ·refine ⟨_,rfl,_,rfl,_,_,rfl,rfl,l,_,_,_,rfl,rfl,SqL.of W.l,et1,t,_,_,_,rfl,rfl,SqT.of et2,Zan (j:=1) rfl,?_⟩
       refine ⟨m-1,by omega,r.2.1,rfl,rfl,(T.nd n).2.1.mono (by omega),λu=>(hc u).trans (Has.skip T n (by omega)),λr' n'=>?_⟩
       obtain ⟨r'',n'',g⟩:=(T.nd n).2.1.nd (by have:=n'.1;omega)
       rw [n''.one n'] at g
       omega
     ·have c2':¬ r.1<z:=λzz=>c2 (decide_eq_true zz)
      exact hk _ _ ⟨c,rfl,rfl,ac,hc,λr' n'=>by rw [n'.one n];omega⟩
    ·have c1':¬ 1<c:=λzz=>c1 (decide_eq_true zz)
     exact hk _ _ ⟨c,rfl,rfl,ac,hc,λr' n'=>absurd n'.1 (by omega)⟩
   case snd=>
    clear hc ac
    rintro σ' H'' ⟨c,rfl,rfl,ac,hc,hm⟩
    refine ⟨_,rfl,_,_,rfl,rfl,_,rfl,Zck (λc1=>?_) (λc1=>?_)⟩
    ·have c1':1<c:=of_decide_eq_true c1
     obtain ⟨r,n,_⟩:=ac.nd c1'
     obtain ⟨t,et1,et2⟩:=Zcf W.t n
     refine ⟨_,rfl,_,rfl,_,_,rfl,rfl,l,_,_,_,rfl,rfl,SqL.of W.l,et1,t,_,_,_,rfl,rfl,SqT.of et2,Zan (j:=0) rfl,_,rfl,rfl,_,rfl,Zck (λc2=>?_) (λc2=>?_)⟩
     ·have c2':r.1=z:=V.int.inj (of_decide_eq_true c2)
      refine ⟨_,rfl,_,rfl,_,_,rfl,rfl,l,_,_,_,rfl,rfl,SqL.of W.l,et1,t,_,_,_,rfl,rfl,SqT.of et2,Zan (j:=2) rfl,?_⟩
      have h30:=(T.nd n).1
      exact ⟨r.2.2,_,rfl,rfl,(T.nd n).2.2.mono (by omega),λu=>(hc u).trans (Has.take T n c2')⟩
     ·have c2':r.1≠z:=λzz=>c2 (decide_eq_true (congrArg V.int zz))
      have:=hm r n
      exact ⟨0,_,rfl,rfl,.inl rfl,λu=>(hc u).trans ⟨λh=>absurd h (Has.none T n (by omega)),λh=>absurd h Has.zero⟩⟩
    ·have c1':¬ 1<c:=λzz=>c1 (decide_eq_true zz)
     have h0:=ac.lt
     exact ⟨0,_,rfl,rfl,.inl rfl,λu=>(hc u).trans ⟨λh=>absurd ((Has.small (by omega) c1').mp h).2 (by simp),λh=>absurd h Has.zero⟩⟩
  ·rintro σ H' ⟨c,v5,rfl,rfl,ac,hc⟩
   rw [List.length_map,List.drop_length] at hc
   exact ⟨_,rfl,q c ac hc⟩
end
end M
namespace M
open PySem L2
section
variable {P:Program} {w:World} {K:PySem.W.Frag} {mg:Str->Option Value} {base:Heap}
def ZiW:Sp:=λvs H Q _=>∃ (l:Addr) (c:Int) (xs:List V) (ts:List Tri),vs=[.ref l,.int c]/\H l=some (.lst xs)/\Trs H xs ts/\TabOk ts/\At ts c (-1)/\∀ e:Int,(e=0\/e=1)->(Has ts c []↔e=1)->Q (.int e) H
theorem scEmp:ZaA ["nodes", "number", "here"] ["nodes", "number"] (Zaf ZhP):=⟨rfl,rfl,rfl,by decide +kernel,rfl,by decide +kernel,by decide +kernel⟩
theorem ZhU {f:Addr} {fd:FuncData} (F:Fun K "empty_below" "empty_below" ZhP f fd):ZaX P w K mg base CX0 1 f fd ["nodes", "number"] ZiW:=by
 refine F.ok scEmp (λvs H Q E h=>?_) (λcdv A outer s H vs Q E hr h=>?_)
 ·obtain ⟨_,_,_,_,rfl,_⟩:=h
  rfl
 ·obtain ⟨l,c0,xs,ts,rfl,el,tr,T,ac0,q⟩:=h
  refine ⟨_,Zad (Zaj (i:=2) scEmp.nd rfl (Or.inl rfl) (pv 1))
    (Zad (Zcl PassesOwn.never (Zam Zh5 (pv 2) Zae (Zax _))
    (Zah (Zaj (i:=2) scEmp.nd rfl (Or.inl rfl) (ZaC (Zf1 K) (ZaC (Zbu K) (pv 0) (Zak Zbq (pv 2) Zae) (λ_ _=>rfl)) Zae (λ_ _=>rfl)))))
    (Zah (ZaD (pv 2)))),?_⟩
  refine ⟨_,rfl,?_⟩
  refine ⟨λm σ' H'=>∃ c:Int,σ'=[some (.ref l),some (.int c0),some (.int c)]/\H'=H/\At ts c (-1)/\(Has ts c0 []↔Has ts c [])/\∀ r,Nd ts c r->30-r.1<=(m:Int),⟨30,c0,rfl,rfl,ac0,Iff.rfl,λr n=>by have:=(T.nd n).1;omega⟩,?_⟩
  rintro m σ' H' ⟨c,rfl,rfl,ac,hc,hm⟩
  refine ⟨_,rfl,_,_,rfl,rfl,_,rfl,Zck (λc1=>?_) (λc1=>?_)⟩
  ·have c1':1<c:=of_decide_eq_true c1
   obtain ⟨r,n,_⟩:=ac.nd c1'
   obtain ⟨t,et1,et2⟩:=Zcf tr n
   have h30:=(T.nd n).1
   have hr:=hm r n
   refine ⟨_,λ_ _ h=>h,?_⟩
   ·refine ⟨_,rfl,_,rfl,_,_,rfl,rfl,l,_,_,_,rfl,rfl,SqL.of el,et1,t,_,_,_,rfl,rfl,SqT.of et2,Zan (j:=1) rfl,?_⟩
    refine ⟨m-1,by omega,r.2.1,rfl,rfl,(T.nd n).2.1.mono (by omega),hc.trans (Has.nil n),λr' n'=>?_⟩
    obtain ⟨r'',n'',g⟩:=(T.nd n).2.1.nd (by have:=n'.1;omega)
    rw [n''.one n'] at g
    omega
  ·have c1':¬ 1<c:=λzz=>c1 (decide_eq_true zz)
   have h0:=ac.lt
   exact ⟨_,rfl,q c (by omega) (hc.trans ((Has.small (by omega) c1').trans ⟨λh=>h.1,λh=>⟨h,rfl⟩⟩))⟩
end
end M
namespace M
open PySem L2
section
variable {P:Program} {w:World} {K:PySem.W.Frag} {mg:Str->Option Value} {base:Heap}
def ZjZ:Sp:=λvs H Q _=>∃ (tb l rl:Addr) (root:Int) (xs:List V) (ts:List Tri) (rs:List Int),vs=[.ref tb,.ref rl]/\TabAt H tb l root xs ts/\TabOk ts/\At ts root (-1)/\H rl=some (.lst (rs.map V.int)) /\
 ∀ b:Bool,(b=true↔Has ts root rs)->Q (.bl b) H
theorem Zlp:ZaA ["table", "roads"] ["table", "roads"] (Zaf ZiM):=⟨rfl,rfl,rfl,by decide +kernel,rfl,by decide +kernel,by decide +kernel⟩
theorem Zj0 {f fB fE:Addr} {fd fdB fdE:FuncData} (F:Fun K "has_set" "has_set" ZiM f fd) (FB:Fun K "behind_roads" "behind_roads" ZhO fB fdB) (bB:Binds K fdB ["table", "roads"] []) (mB:mg "behind_roads" = some (.ref fB))
  (FE:Fun K "empty_below" "empty_below" ZhP fE fdE) (bE:Binds K fdE ["nodes", "number"] []) (mE:mg "empty_below" = some (.ref fE)):ZaX P w K mg base CX0 2 f fd ["table", "roads"] ZjZ:=by
 have GB:ZaX P w K mg base CX0 1 fB fdB ["table", "roads"] ZjX:=ZjY FB
 have GE:ZaX P w K mg base CX0 1 fE fdE ["nodes", "number"] ZiW:=ZhU FE
 refine F.ok Zlp (λvs H Q E h=>?_) (λcdv A outer s H vs Q E hr h=>?_)
 ·obtain ⟨_,_,_,_,_,_,_,rfl,_⟩:=h
  rfl
 ·obtain ⟨tb,l,rl,root,xs,ts,rs,rfl,W,T,ar,er,q⟩:=h
  refine ⟨_,Zah (ZaD (Zeg Zc7 (Zai GE (hr.mono (by decide)) rfl mE FE.kp bE .nil ZaI (Zaa (ZaC (Zf1 K) (pv 0) Zae (λ_ _=>rfl)) (Zaa (Zai GB (hr.mono (by decide)) rfl mB FB.kp bB .nil ZaI (Zaa (pv 0) (Zaa (pv 1) Zac))) Zac))) Zae (Zax _))),?_⟩
  refine ⟨_,rfl,tb,_,_,_,rfl,rfl,SqT.of W.w,Zan (j:=1) rfl,_,rfl,_,rfl,tb,l,rl,root,xs,ts,rs,rfl,W,T,ar,er,λc ac hc'=>?_⟩
  have hc:Has ts root rs↔Has ts c []:=by simpa using hc' []
  refine ⟨l,c,xs,ts,rfl,W.l,W.t,T,ac,λe _ he=>⟨rfl,?_⟩⟩
  refine q _ ?_
  rw [hc,he]
  exact ⟨λh=>V.int.inj (of_decide_eq_true h),λh=>decide_eq_true (congrArg V.int h)⟩
end
end M
namespace M
open PySem L2
abbrev Lx (F:List (List Int)):Prop:=F.Pairwise λa b=>Za9 a b=true
theorem Ze0:∀ {F G:List (List Int)},Lx F->Lx G->(∀ s,s∈F↔s∈G)->F=G
 | [],[],_,_,_=>rfl
 | [],b::G,_,_,h=>absurd ((h b).mpr (List.mem_cons_self ..)) (by simp)
 | a::F,[],_,_,h=>absurd ((h a).mp (List.mem_cons_self ..)) (by simp)
 | a::F,b::G,hF,hG,h=>by
  obtain ⟨f1,f2⟩:=List.pairwise_cons.mp hF
  obtain ⟨g1,g2⟩:=List.pairwise_cons.mp hG
  have e:a=b:=by
   rcases List.mem_cons.mp ((h a).mp (List.mem_cons_self ..)) with e | e
   ·exact e
   ·rcases List.mem_cons.mp ((h b).mpr (List.mem_cons_self ..)) with e' | e'
    ·exact e'.symm
    ·have:=Zdr (g1 a e) (f1 b e')
     rw [Zbg] at this
     cases this
  subst e
  rw [Ze0 f2 g2 λs=>?_]
  have n1:s∈F->s≠a:=λhs z=>by have:=f1 s hs;rw [z,Zbg] at this;cases this
  have n2:s∈G->s≠a:=λhs z=>by have:=g1 s hs;rw [z,Zbg] at this;cases this
  constructor
  ·intro hs
   exact (List.mem_cons.mp ((h s).mp (List.mem_cons_of_mem _ hs))).resolve_left (n1 hs)
  ·intro hs
   exact (List.mem_cons.mp ((h s).mpr (List.mem_cons_of_mem _ hs))).resolve_left (n2 hs)
structure SO (ts:List Tri) (c:Int) (F:List (List Int)):Prop where
 so:Lx F
 mem:∀ s,s∈F↔Has ts c s
theorem SO.uniq {ts:List Tri} {c:Int} {F G:List (List Int)} (h:SO ts c F) (g:SO ts c G):F=G:=Ze0 h.so g.so λs=>(h.mem s).trans (g.mem s).symm
def ne0 (F:List (List Int)):List (List Int):=F.filter λs=>decide (s≠[])
theorem Ze1 {r x:Int} {a b:List Int}:Za9 (r::a) (x::b)=if r=x then Za9 a b else decide (r<x):=rfl
theorem SO.node {ts:List Tri} (T:TabOk ts) {c:Int} {r:Tri} {A B:List (List Int)} (n:Nd ts c r) (hA:SO ts r.2.1 A) (hB:SO ts r.2.2 B):SO ts c ((A.filter λs=>decide (s=[]))++(B.map (r.1::·)++ne0 A)):=by
 have gA:∀ x s,(x::s)∈A->r.1<x:=λx s hs=>((hA.mem _).mp hs).gt T (T.nd n).2.1 rfl
 refine ⟨List.pairwise_append.mpr ⟨hA.so.sublist List.filter_sublist,List.pairwise_append.mpr ⟨?_,hA.so.sublist List.filter_sublist,?_⟩,?_⟩,λs=>?_⟩
 ·rw [List.pairwise_map]
  exact hB.so.imp λ{a b} h=>by rw [Ze1,if_pos rfl];exact h
 ·intro a ha b hb
  obtain ⟨u,hu,rfl⟩:=List.mem_map.mp ha
  obtain ⟨h1,h2⟩:=List.mem_filter.mp hb
  cases b with
  | nil=>simp at h2
  | cons x b=>
   have:=gA x b h1
   rw [Ze1,if_neg (by omega)]
   exact decide_eq_true this
 ·intro a ha b hb
  have ea:a=[]:=of_decide_eq_true (List.mem_filter.mp ha).2
  subst ea
  have hb':b≠[]:=by
   rcases List.mem_append.mp hb with h | h
   ·obtain ⟨u,_,rfl⟩:=List.mem_map.mp h
    simp
   ·exact of_decide_eq_true (List.mem_filter.mp h).2
  cases b with
  | nil=>exact absurd rfl hb'
  | cons x b=>rfl
 ·unfold ne0
  rw [List.mem_append,List.mem_append,List.mem_filter,List.mem_filter,List.mem_map]
  cases s with
  | nil=>
   rw [Has.nil n,<-hA.mem]
   simp
  | cons x s=>
   rw [Has.cons n,<-hA.mem,<-hB.mem]
   constructor
   ·rintro (⟨_,h⟩ | ⟨u,hu,e⟩ | ⟨h,_⟩)
    ·simp at h
    ·cases e
     exact .inr ⟨rfl,hu⟩
    ·exact .inl h
   ·rintro (h | ⟨rfl,h⟩)
    ·exact .inr (.inr ⟨h,by simp⟩)
    ·exact .inr (.inl ⟨s,h,rfl⟩)
theorem SO.zero (ts:List Tri):SO ts 0 []:=⟨List.Pairwise.nil,λs=>⟨λh=>(by cases h),λh=>absurd h Has.zero⟩⟩
theorem SO.one (ts:List Tri):SO ts 1 [[]]:=⟨by simp,λs=>by rw [Has.at1];simp⟩
theorem SO.ex {ts:List Tri} (T:TabOk ts):∀ (m:Nat) {c lo:Int},At ts c lo->30-lo<=(m:Int)->∃ F,SO ts c F
 | 0,c,lo,a,hm=>by
  rcases a with rfl | rfl | ⟨r,n,g⟩
  ·exact ⟨_,SO.zero ts⟩
  ·exact ⟨_,SO.one ts⟩
  ·have:=(T.nd n).1
   omega
 | m+1,c,lo,a,hm=>by
  rcases a with rfl | rfl | ⟨r,n,g⟩
  ·exact ⟨_,SO.zero ts⟩
  ·exact ⟨_,SO.one ts⟩
  ·obtain ⟨A,hA⟩:=SO.ex T m (T.nd n).2.1 (by omega)
   obtain ⟨B,hB⟩:=SO.ex T m (T.nd n).2.2 (by omega)
   exact ⟨_,SO.node T n hA hB⟩
theorem SO.of {ts:List Tri} (T:TabOk ts) {c lo:Int} (a:At ts c lo):∃ F,SO ts c F:=SO.ex T (30-lo).toNat a (by omega)
theorem SO.len {ts:List Tri} (T:TabOk ts) {c:Int} {F L:List (List Int)} (h:SO ts c F) (hL:Sts ts c L):F.length=L.length:=((List.perm_ext_iff_of_nodup (h.so.imp λ{a b} z e=>by rw [e,Zbg] at z;cases z) (hL.nodup T)).mpr λs=>(h.mem s).trans (hL.has s).symm).length_eq
theorem ZgH (F G:List (List Int)):ne0 (F++G)=ne0 F++ne0 G:=List.filter_append ..
theorem Zct {F:List (List Int)} (h:∀ s∈F,s≠[]):ne0 F=F:=List.filter_eq_self.mpr λs hs=>decide_eq_true (h s hs)
theorem Zlq (A:List (List Int)):ne0 (A.filter λs=>decide (s=[]))=[]:=List.filter_eq_nil_iff.mpr λs hs=>by
 have:=(List.mem_filter.mp hs).2
 simpa using this
theorem ZiX (A:List (List Int)):ne0 (ne0 A)=ne0 A:=Zct λs hs=>of_decide_eq_true (List.mem_filter.mp hs).2
theorem SO.ne {ts:List Tri} (T:TabOk ts) {c:Int} {r:Tri} {A B F:List (List Int)} (n:Nd ts c r) (hA:SO ts r.2.1 A) (hB:SO ts r.2.2 B) (h:SO ts c F):ne0 F=B.map (r.1::·)++ne0 A:=by
 rw [h.uniq (SO.node T n hA hB),ZgH,ZgH,Zlq,ZiX,Zct λs hs=>?_]
 ·rfl
 ·obtain ⟨u,_,rfl⟩:=List.mem_map.mp hs
  simp
theorem SO.split {ts:List Tri} {c:Int} {F:List (List Int)} (h:SO ts c F):(Has ts c []/\F=[]::ne0 F)\/(¬ Has ts c []/\F=ne0 F):=by
 by_cases he:Has ts c []
 ·refine .inl ⟨he,?_⟩
  have hm:=(h.mem []).mpr he
  cases F with
  | nil=>cases hm
  | cons a F=>
   obtain ⟨f1,f2⟩:=List.pairwise_cons.mp h.so
   have hne:∀ s∈F,s≠[]:=λs hs z=>by
    have:=f1 s hs
    rw [z] at this
    cases a <;> simp [Za9] at this
   have ea:a=[]:=by
    rcases List.mem_cons.mp hm with e | e
    ·exact e.symm
    ·exact absurd rfl (hne [] e)
   subst ea
   have:ne0 ([]::F)=ne0 F:=by simp [ne0]
   rw [this,Zct hne]
 ·refine .inr ⟨he,(Zct λs hs z=>?_).symm⟩
  rw [z] at hs
  exact he ((h.mem []).mp hs)
theorem SO.inner {ts:List Tri} {c lo:Int} {F:List (List Int)} (h:SO ts c F) (a:At ts c lo) {k:Nat} {t:List Int} (e:(ne0 F)[k]?=some t):∃ r,Nd ts c r/\lo<r.1:=by
 rcases a with rfl | rfl | a
 ·rw [h.uniq (SO.zero ts)] at e
  simp [ne0] at e
 ·rw [h.uniq (SO.one ts)] at e
  simp [ne0] at e
 ·exact a
end M
namespace M
open PySem L2
section
variable {P:Program} {w:World} {K:PySem.W.Frag} {mg:Str->Option Value} {base:Heap}
theorem TabAt.sameL {H H':Hp} {tb tp l:Addr} {root:Int} {xs:List V} {ts:List Tri} {ps:Array Value} (W:TabAt H tp l root xs ts) (sl:SameL tb H H') (eP:H tb=some (.tbl ps)):TabAt H' tp l root xs ts:=⟨sl.tup eP W.w,sl.lst eP W.l,Trs.sameL sl eP W.t⟩
def Zj1 (tb NW:Addr):Sp:=λvs H Q E=>∃ (tp l rl:Addr) (root:Int) (xs:List V) (ts:List Tri) (rs:List Int) (F:List (List Int)),vs=[.ref tp,.ref rl]/\TabAt H tp l root xs ts/\TabOk ts/\At ts root (-1)/\ts.length<=900/\LS tb H/\SO ts root F/\H rl=some (.lst (rs.map V.int)) /\
 (rs ∉ F->∀ H':Hp,SameL tb H H'->LS tb H'->E (.ref NW) none H')/\(∀ (k:Nat),F[k]?=some rs->∀ H':Hp,SameL tb H H'->LS tb H'->Q (.int (k:Int)) H')
theorem scNos:ZaA ["table", "roads", "here", "nodes", "sizes", "ahead", "road", "own", "low", "high"] ["table", "roads"] (Zaf ZhQ):=⟨rfl,rfl,rfl,by decide +kernel,rfl,by decide +kernel,by decide +kernel⟩
theorem Zj2 {f fZs fE fB fH tb NW:Addr} {fd fdZs fdE fdB fdH:FuncData} (F:Fun K "number_of_set" "number_of_set" ZhQ f fd) (FZs:Fun K "sizes_of" "sizes_of" ZhN fZs fdZs) (bZs:Binds K fdZs ["nodes"] []) (mZs:mg "sizes_of" = some (.ref fZs)) (GZs:ZaX P w K mg base CX0 2 fZs fdZs ["nodes"] (ZjV tb))
  (FB:Fun K "behind_roads" "behind_roads" ZhO fB fdB) (bB:Binds K fdB ["table", "roads"] []) (mB:mg "behind_roads" = some (.ref fB)) (FE:Fun K "empty_below" "empty_below" ZhP fE fdE) (bE:Binds K fdE ["nodes", "number"] []) (mE:mg "empty_below" = some (.ref fE))
  (FH:Fun K "has_set" "has_set" ZiM fH fdH) (bH:Binds K fdH ["table", "roads"] []) (mH:mg "has_set" = some (.ref fH)) (mNN:mg "NoWay" = some (.ref NW)) (xNN:ExcC K NW):ZaX P w K mg base (CXr P w) 3 f fd ["table", "roads"] (Zj1 tb NW):=by
 have GE:ZaX P w K mg base CX0 1 fE fdE ["nodes", "number"] ZiW:=ZhU FE
 have GH:ZaX P w K mg base CX0 2 fH fdH ["table", "roads"] ZjZ:=Zj0 FH FB bB mB FE bE mE
 refine F.okR scNos (λvs H Q E h=>?_) (λcdv A outer s H vs Q E hr h=>?_)
 ·obtain ⟨_,_,_,_,_,_,_,_,rfl,_⟩:=h
  rfl
 ·obtain ⟨tp,l,rl,root,xs,ts,rs,F,rfl,W,T,ar,hts,st,hF,er,qE,qQ⟩:=h
  have hu1:(A.deeper (PyProof.Rows.envOfC "number_of_set" (Zaf ZhQ) s.heap.objs.size f cdv)).units+1<cLine:=by have:=hr.un;omega
  have h16:(16777216:Nat)=sizeLine:=sizeLine_eq.symm
  refine ⟨_,Zad (Zbn (Zfx (ZdC (Zai GH (hr.mono (by decide)) rfl mH FH.kp bH .nil ZaI (Zaa (pv 0) (Zaa (pv 1) Zac))))) (Zah (ZgY (E:=E) rfl ZdQ rfl mNN xNN (Zaa ZcN Zac))) ZaK)
    (Zad (Zcy (pv 0) (ZjA K (n:=2) rfl (ZaM (Zal (i:=2) scNos.nd rfl (Or.inl rfl)) (ZaM (Zal (i:=3) scNos.nd rfl (Or.inl rfl)) Zcx))))
    (Zad (Zaj (i:=4) scNos.nd rfl (Or.inl rfl) (Zai GZs (hr.mono (by decide)) rfl mZs FZs.kp bZs .nil ZaI (Zaa (pv 3) Zac)))
    (Zad (Zaj (i:=5) scNos.nd rfl (Or.inl rfl) Zae)
    (Zad (ZbJ PassesOwn.leaving rfl (ZbG K (pv 1)) (Zal (i:=6) scNos.nd rfl (Or.inl rfl))
    (Zad (Zhx (i:=5) scNos.nd rfl (Or.inl rfl) (Zai GE (hr.mono (by decide)) rfl mE FE.kp bE .nil ZaI (Zaa (pv 3) (Zaa (pv 2) Zac))) Zhy)
    (Zad (Zcy (ZaC (Zbu K) (pv 3) (Zak Zbq (pv 2) Zae) (λ_ _=>rfl)) (ZjA K (n:=3) rfl (ZaM (Zal (i:=7) scNos.nd rfl (Or.inl rfl)) (ZaM (Zal (i:=8) scNos.nd rfl (Or.inl rfl)) (ZaM (Zal (i:=9) scNos.nd rfl (Or.inl rfl)) Zcx)))))
    (Zad (Zcl PassesOwn.leaving (Zam ZfE (pv 7) (pv 6) (Zax _))
    (Zad (Zhx (i:=5) scNos.nd rfl (Or.inl rfl) (Zem hu1 (pv 4) (pv 9) (λ_ _=>rfl)) Zhy)
    (Zah (Zcy (ZaC (Zbu K) (pv 3) (Zak Zbq (pv 8) Zae) (λ_ _=>rfl)) (ZjA K (n:=3) rfl (ZaM (Zal (i:=7) scNos.nd rfl (Or.inl rfl)) (ZaM (Zal (i:=8) scNos.nd rfl (Or.inl rfl)) (ZaM (Zal (i:=9) scNos.nd rfl (Or.inl rfl)) Zcx))))))))
    (Zah (Zaj (i:=2) scNos.nd rfl (Or.inl rfl) (pv 9)))))))
    (Zah (ZaD (pv 5))))))),?_⟩
  refine ⟨_,rfl,_,rfl,tp,l,rl,root,xs,ts,rs,rfl,W,T,ar,er,λb hb=>⟨_,rfl,?_⟩⟩
  by_cases hm:rs∈F
  case neg=>
   have:b=false:=by
    cases b with
    | false=>rfl
    | true=>exact absurd ((hF.mem rs).mpr (hb.mp rfl)) hm
   subst this
   exact Zeb ⟨by show 1<=sizeLine;rw [sizeLine_eq];omega,qE hm H (λ_ _ _ e=>e) st⟩
  have:b=true:=hb.mpr ((hF.mem rs).mp hm)
  subst this
  refine ZcK ?_
  dsimp only [Zc6]
  obtain ⟨k,hk⟩:=List.mem_iff_getElem?.mp hm
  have fin:=qQ k hk
  refine ⟨_,rfl,tp,_,rfl,SqT.of W.w,rfl,_,_,rfl,_,_,rfl,rfl,?_⟩
  refine ⟨_,rfl,l,xs,ts,rfl,W.l,W.t,T,hts,st,λd1 kz os1 H1 sl1 st1 hd1 ed1 D1 fa1=>?_⟩
  obtain ⟨ps0,eP0⟩:=st.tbl
  have W1:=W.sameL sl1 eP0
  have er1:=sl1.lst eP0 er
  have size:∀ {c lo:Int} {G:List (List Int)},At ts c lo->SO ts c G->ZbI kz (.inl c)=some (.int (G.length:Int)):=λa hG=>by
   obtain ⟨L,hL⟩:=Sts.of T a
   rw [hG.len T hL]
   exact D1.fin fa1 a hL
  dsimp only [Za2]
  refine Zat (λσ' H'=>σ'=[some (.ref tp),some (.ref rl),some (.int root),some (.ref l),some (.ref d1),some (.int 0),none,none,none,none]/\H'=H1) ?s0 ?f0
  case f0=>exact λhk=>hk _ _ ⟨rfl,rfl⟩
  rintro σ' H1' ⟨rfl,rfl⟩
  refine ⟨_,rfl,rl,rfl,⟨_,SqL.of er1⟩,?_⟩
  refine Za6 (K:=K) (a:=rl) (xs:=rs.map V.int) (λi σ H'=>∃ (c ah:Int) (j:Nat) (G:List (List Int)) (v6 v7 v8 v9:Option V),σ=[some (.ref tp),some (.ref rl),some (.int c),some (.ref l),some (.ref d1),some (.int ah),v6,v7,v8,v9]/\H'=H1'/\At ts c (-1)/\SO ts c G/\G[j]?=some (rs.drop i)/\ah+(j:Int)=(k:Int))
   ⟨root,0,k,F,none,none,none,none,rfl,rfl,ar,hF,hk,by omega⟩ (λi σ H' _ ⟨_,_,_,_,_,_,_,_,_,e,_⟩=>by rw [e];exact SqL.of er1) ?_ ?_
  ·clear hk hF ar
   rintro i x σ H2 hxi ⟨c,ah,j,G,v6,v7,v8,v9,rfl,rfl,ac,hG,hu,hah⟩
   obtain ⟨z,rfl,hz⟩:=Zbi hxi
   have hd:rs.drop i=z::rs.drop (i+1):=by
    obtain ⟨hi,e⟩:=List.getElem?_eq_some_iff.mp hz
    rw [List.drop_eq_getElem_cons hi,e]
   rw [hd] at hu
   dsimp only [Za2]
   refine ⟨_,rfl,_,rfl,_,rfl,l,c,xs,ts,rfl,W1.l,W1.t,T,ac,λe he01 he=>⟨_,_,rfl,rfl,?_⟩⟩
   have hne:∃ j':Nat,(j':Int)=(j:Int)-e/\(ne0 G)[j']?=some (z::rs.drop (i+1)):=by
    rcases hG.split with ⟨h1,h2⟩ | ⟨h1,h2⟩
    ·have e1:=he.mp h1
     subst e1
     rw [h2] at hu
     cases j with
     | zero=>simp at hu
     | succ j=>exact ⟨j,by omega,by simpa using hu⟩
    ·have e0:e=0:=by
      rcases he01 with z | z
      ·exact z
      ·exact absurd (he.mpr z) h1
     subst e0
     exact ⟨j,by omega,by rw [<-h2];exact hu⟩
   obtain ⟨j1,hj1,hu1'⟩:=hne
   obtain ⟨r0,n0,_⟩:=hG.inner ac hu1'
   obtain ⟨t0,et0,et1⟩:=Zcf W1.t n0
   refine ⟨_,rfl,_,rfl,_,_,rfl,rfl,l,_,_,_,rfl,rfl,SqL.of W1.l,et0,t0,_,rfl,SqT.of et1,rfl,_,_,rfl,_,_,rfl,_,_,rfl,rfl,?_⟩
   dsimp only
   refine Zat (λσ' H'=>∃ (j':Nat) (c' ah':Int) (r:Tri) (B:List (List Int)),σ'=[some (.ref tp),some (.ref rl),some (.int c),some (.ref l),some (.ref d1),some (.int ah'),some (.int z),some (.int r.1),some (.int r.2.1),some (.int r.2.2)]/\H'=H2/\Nd ts c' r/\SO ts r.2.2 B/\B[j']?=some (rs.drop (i+1))/\ah'+(j':Int)=(k:Int)) ?s3 ?f3
   case s3=>
    rintro σ' H4 ⟨j',c',ah',r,B,rfl,rfl,nr,hB,hu',hk'⟩
    exact ⟨_,rfl,r.2.2,ah',j',B,_,_,_,_,rfl,rfl,(T.nd nr).2.2.mono (by have:=(T.nd nr).1;omega),hB,hu',hk'⟩
   case f3=>
    intro hk3
    refine ⟨λm' σ' H'=>∃ (j':Nat) (c' ah':Int) (r:Tri) (G':List (List Int)),σ'=[some (.ref tp),some (.ref rl),some (.int c),some (.ref l),some (.ref d1),some (.int ah'),some (.int z),some (.int r.1),some (.int r.2.1),some (.int r.2.2)]/\H'=H2/\Nd ts c' r/\SO ts c' G'/\(ne0 G')[j']?=some (z::rs.drop (i+1))/\ah'+(j':Int)=(k:Int)/\30-r.1<=(m':Int),
     ⟨30,j1,c,ah+e,r0,G,rfl,rfl,n0,hG,hu1',by omega,by have:=(T.nd n0).1;omega⟩,?_⟩
    rintro m' σ' H4 ⟨j',c',ah',r,G',rfl,rfl,nr,hG',hu',hk',hm'⟩
    obtain ⟨A,hA⟩:=SO.of T (T.nd nr).2.1
    obtain ⟨B,hB⟩:=SO.of T (T.nd nr).2.2
    have gB:=size (T.nd nr).2.2 hB
    have hne:=SO.ne T nr hA hB hG'
    rw [hne] at hu'
    have h30r:=(T.nd nr).1
    refine ⟨_,rfl,_,rfl,_,_,rfl,rfl,_,rfl,Zck (λc2=>?_) (λc2=>?_)⟩
    ·have c2':r.1<z:=of_decide_eq_true c2
     have hge:B.length<=j':=by
      rcases Nat.lt_or_ge j' B.length with h | h
      ·rw [List.getElem?_append_left (by rw [List.length_map];omega),List.getElem?_map] at hu'
       obtain ⟨u',_,eu⟩:=Option.map_eq_some_iff.mp hu'
       injection eu with e1 _
       omega
      ·exact h
     rw [List.getElem?_append_right (by rw [List.length_map];omega),List.length_map] at hu'
     obtain ⟨r2,n2,g2⟩:=hA.inner (T.nd nr).2.1 hu'
     obtain ⟨t2,et2,et3⟩:=Zcf W1.t n2
     refine ⟨_,λ_ _ h=>h,?_⟩
     refine ⟨_,rfl,_,rfl,_,rfl,d1,_,rfl,gB▸DGet.k (k:=.inl r.2.2) ed1,_,_,rfl,rfl,?_⟩
     refine ⟨_,rfl,_,rfl,_,_,rfl,rfl,l,_,_,_,rfl,rfl,SqL.of W1.l,et2,t2,_,rfl,SqT.of et3,rfl,_,_,rfl,_,_,rfl,_,_,rfl,rfl,?_⟩
     exact ⟨m' - 1,by omega,j' - B.length,r.2.1,ah'+(B.length:Int),r2,A,rfl,rfl,n2,hA,hu',by omega,by omega⟩
    ·have c2':¬ r.1<z:=λzz=>c2 (decide_eq_true zz)
     have hlt:j'<B.length:=by
      rcases Nat.lt_or_ge j' B.length with h | h
      ·exact h
      ·rw [List.getElem?_append_right (by rw [List.length_map];omega)] at hu'
       have hmem:=(List.mem_filter.mp (List.mem_of_getElem? hu')).1
       have:=((hA.mem _).mp hmem).gt T (T.nd nr).2.1 rfl
       omega
     rw [List.getElem?_append_left (by rw [List.length_map];omega),List.getElem?_map] at hu'
     obtain ⟨u',hu'',eu⟩:=Option.map_eq_some_iff.mp hu'
     injection eu with e1 e2
     subst e2
     exact hk3 _ _ ⟨j',c',ah',r,B,rfl,rfl,nr,hB,hu'',hk'⟩
  ·rintro σ H2 ⟨c,ah,j,G,v6,v7,v8,v9,rfl,rfl,ac,hG,hu,hah⟩
   rw [List.length_map,List.drop_length] at hu
   have hj:j=0:=by
    rcases hG.split with ⟨h1,h2⟩ | ⟨h1,h2⟩
    ·rw [h2] at hu
     cases j with
     | zero=>rfl
     | succ j=>
      have hu':(ne0 G)[j]?=some []:=by simpa using hu
      have:=(List.mem_filter.mp (List.mem_of_getElem? hu')).2
      simp at this
    ·exact absurd ((hG.mem []).mp (List.mem_of_getElem? hu)) h1
   have:ah=(k:Int):=by omega
   subst this
   exact ⟨_,rfl,fin H2 sl1 st1⟩
end
end M
namespace M
open PySem L2
section
variable {H0 H H1 H':Hp} {d p:Addr} {o:HO} {c c':Nat}
def Pool (H:Hp) (d:Addr) (c:Nat):Prop:=∃ n b k:Int,H d=some (.lst [.int n,.int b,.int k])/\0<=k/\k<=(c:Int)
theorem Pool.mono (h:Pool H d c) (hc:c<=c'):Pool H d c':=let ⟨n,b,k,e,h0,h1⟩:=h;⟨n,b,k,e,h0,by omega⟩
theorem Pool.same (h:Pool H d c) (s:Same H H'):Pool H' d c:=let ⟨n,b,k,e,h0,h1⟩:=h;⟨n,b,k,s _ _ e,h0,h1⟩
structure Pk (H0 H:Hp) (d:Addr) (c:Nat):Prop where
 keep:∀ b o,b≠d->H0 b=some o->H b=some o
 at_:Pool H d c
theorem Pk.start (h:Pool H d c):Pk H H d c:=⟨λ_ _ _ e=>e,h⟩
theorem Pk.grow (h:Pk H0 H d c) (s:Same H H'):Pk H0 H' d c:=⟨λb o n e=>s b o (h.keep b o n e),h.at_.same s⟩
theorem Pk.new (h:Pk H0 H d c) (hp:H p=none):Pk H0 (upd H p o) d c:=h.grow (Same.new hp)
theorem Pool.ne (h:Pool H d c) (hp:H p=none):d≠p:=by
 obtain ⟨_,_,_,e,_⟩:=h
 exact Zag e hp
theorem Pk.free (h:Pk H0 H d c) (hp:H p=none):H0 p=none:=by
 cases e:H0 p with
 | none=>rfl
 | some o=>rw [h.keep p o (Ne.symm (h.at_.ne hp)) e] at hp;cases hp
theorem Pk.put (h:Pk H0 H d c) (hp:H0 p=none) (hd:d≠p):Pk H0 (upd H p o) d c:=⟨λb u n e=>Zao (h.keep b u n e) (Zag e hp),let ⟨n,b,k,e,r⟩:=h.at_;⟨n,b,k,Zao e hd,r⟩⟩
theorem Pk.trans (a:Pk H0 H d c) (b:Pk H H1 d c'):Pk H0 H1 d c':=⟨λx o n e=>b.keep x o n (a.keep x o n e),b.at_⟩
theorem Pk.mono (a:Pk H0 H d c) (hc:c<=c'):Pk H0 H d c':=⟨a.keep,a.at_.mono hc⟩
end
theorem ZaQ {p:Nat} {a:Int} (h:a.natAbs<2 ^ p:=by decide +kernel):Lt2 p a:=h
theorem ZiY {a b s:Int} (ha:0<=a) (ha':a<=10000000600) (hs:0<=s) (hs':s<=1000001) (hb:b=13 * s+41):0<=a * b+3307 * s * s/\a * b+3307 * s * s<2 ^ 63:=by
 have h1:0<=a * b:=Int.mul_nonneg ha (by omega)
 have h2:a * b<=10000000600 * 13000100:=Int.mul_le_mul ha' (by omega) (by omega) (by decide)
 have h3:0<=3307 * s * s:=Int.mul_nonneg (by omega) hs
 have h4:3307 * s * s<=(3307 * 1000001) * 1000001:=Int.mul_le_mul (by omega) hs' hs (by decide)
 omega
section
variable {P:Program} {w:World} {K:PySem.W.Frag} {mg:Str->Option Value} {base:Heap}
def Zey:Sp:=λvs H Q _=>∃ (d:Addr) (c:Nat) (m:Int),vs=[.ref d,.int m]/\Pool H d c/\c<1000000/\0<m/\Lt2 9000 m/\∀ (r:Int) (H':Hp),0<=r->r<m->Pk H H' d (c+1)->Q (.int r) H'
theorem scTak:ZaA ["pool", "many", "found", "step", "mark"] ["pool", "many"] (Zaf Zfr):=⟨rfl,rfl,rfl,by decide +kernel,rfl,by decide +kernel,by decide +kernel⟩
theorem Zc3 {f:Addr} {fd:FuncData} (F:Fun K "_law_take" "_law_take" Zfr f fd):ZaX P w K mg base CX0 1 f fd ["pool", "many"] Zey:=by
 refine F.ok scTak (λvs H Q E h=>?_) (λcdv A outer s H vs Q E hr h=>?_)
 ·obtain ⟨d,c,m,rfl,_⟩:=h
  rfl
 ·obtain ⟨d,c,m,rfl,⟨n,b,k,hd,hk0,hk1⟩,hc,hm,hb,q⟩:=h
  refine ⟨_,Zad (Zbn (Zam Zc7 (ZaC (Zbu K) (pv 0) Zae (λ_ _=>rfl)) Zae (Zax _)) (Zad (Zaj (i:=2) scTak.nd rfl (Or.inl rfl) (Zak ZdF (ZaC (Zbu K) (pv 0) Zae (λ_ _=>rfl)) (pv 1)))
    (Zad (Zcy (Zak ZeI (ZaC (Zbu K) (pv 0) Zae (λ_ _=>rfl)) (pv 1)) (Zhw (pv 0) Zae ZeE))
    (Zah (ZaD (pv 2))))) ZaK)
    (Zad (Zcy (Zak ZaR (ZaC (Zbu K) (pv 0) Zae (λ_ _=>rfl)) Zae) (Zhw (pv 0) Zae ZeE))
    (Zad (Zaj (i:=3) scTak.nd rfl (Or.inl rfl) (ZaC (Zbu K) (pv 0) Zae (λ_ _=>rfl)))
    (Zad (Zaj (i:=4) scTak.nd rfl (Or.inl rfl) (Zak Zcg (Zak ZaR (Zak ZdF (ZaC (Zbu K) (pv 0) Zae (λ_ _=>rfl)) Zae) Zae) (Zak ZaR (Zak Zcg Zae (pv 3)) Zae)))
    (Zad (Zaj (i:=4) scTak.nd rfl (Or.inl rfl) (Zak ZaR (pv 4) (Zak Zcg (Zak Zcg Zae (pv 3)) (pv 3))))
    (Zad (Zaj (i:=4) scTak.nd rfl (Or.inl rfl) (Zak ZdF (Zak Zcg (pv 4) (pv 4)) Zae))
    (Zah (ZaD (Zak ZdF (Zak ZeI (Zak ZdF (Zak Zcg (pv 4) (Zak ZaR (pv 4) Zae)) Zae) Zae) (pv 1))))))))),?_⟩
  refine ⟨_,rfl,d,_,_,_,rfl,rfl,SqL.of hd,Zan (j:=1) rfl,rfl,_,rfl,Zck (λc1=>?_) (λc1=>?_)⟩
  ·refine ⟨_,rfl,d,_,_,_,rfl,rfl,SqL.of hd,Zan (j:=0) rfl,_,rfl,_,_,rfl,rfl,hm,?_⟩
   refine ⟨_,rfl,d,_,_,_,rfl,rfl,SqL.of hd,Zan (j:=0) rfl,_,rfl,_,_,rfl,rfl,⟨hm,hb⟩,?_⟩
   refine ⟨_,rfl,d,_,0,0,rfl,rfl,hd,rfl,_,rfl,?_⟩
   exact q (n % m) _ (Int.emod_nonneg n (Int.ne_of_gt hm)) (Int.emod_lt_of_pos n hm) ⟨λb o hb e=>Zao e hb,n / m,b,k,Zab,hk0,by omega⟩
  ·dsimp only [Zc6]
   refine ⟨_,rfl,d,_,_,_,rfl,rfl,SqL.of hd,Zan (j:=2) rfl,_,_,rfl,rfl,?_⟩
   refine ⟨_,rfl,d,_,2,2,rfl,rfl,hd,rfl,?_⟩
   have e2:upd H d (.lst [.int n,.int b,.int (k+1)]) d=some (.lst [.int n,.int b,.int (k+1)]):=Zab
   have k2:Pk H (upd H d (.lst [.int n,.int b,.int (k+1)])) d (c+1):=⟨λb o hb e=>Zao e hb,n,b,k+1,Zab,by omega,by omega⟩
   show ZkD _ _ _ _ (upd H d (.lst [.int n,.int b,.int (k+1)]))
   generalize upd H d (.lst [.int n,.int b,.int (k+1)])=H2 at e2 k2 ⊢
   have m0:=Int.emod_nonneg n (show (9999999673:Int)≠0 by decide)
   have m1:=Int.emod_lt_of_pos n (show (0:Int)<9999999673 by decide)
   obtain ⟨l0,l1⟩:=ZiY (a:=n % 9999999673+887) (s:=k+1) (by omega) (by omega) (by omega) (by omega) rfl
   refine ⟨_,rfl,d,_,_,_,rfl,rfl,SqL.of e2,Zan (j:=2) rfl,?_⟩
   refine ⟨_,rfl,d,_,_,_,rfl,rfl,SqL.of e2,Zan (j:=0) rfl,_,_,rfl,rfl,(show (0:Int)<9999999673 by decide),_,_,rfl,rfl,_,rfl,_,_,rfl,rfl,.inl ⟨by decide,by decide⟩,_,_,rfl,rfl,_,_,rfl,rfl,.inr ⟨by omega,by omega⟩,?_⟩
   refine ⟨_,rfl,_,rfl,_,_,rfl,rfl,.inl ⟨by decide,by decide⟩,_,rfl,_,_,rfl,rfl,.inr ⟨by omega,by omega⟩,_,_,rfl,rfl,?_⟩
   refine ⟨_,rfl,_,rfl,_,_,rfl,rfl,.inl ⟨by omega,by omega⟩,_,_,rfl,rfl,(show (0:Int)<99999999701 by decide),?_⟩
   have n0:=Int.emod_nonneg (((n % 9999999673+887) * (13 * (k+1)+41)+3307 * (k+1) * (k+1)) * ((n % 9999999673+887) * (13 * (k+1)+41)+3307 * (k+1) * (k+1))) (show (99999999701:Int)≠0 by decide)
   have n1:=Int.emod_lt_of_pos (((n % 9999999673+887) * (13 * (k+1)+41)+3307 * (k+1) * (k+1)) * ((n % 9999999673+887) * (13 * (k+1)+41)+3307 * (k+1) * (k+1))) (show (0:Int)<99999999701 by decide)
   refine ⟨_,rfl,_,rfl,_,_,rfl,rfl,_,_,rfl,rfl,.inl ⟨by omega,by omega⟩,_,_,rfl,rfl,(show (0:Int)<99999999943 by decide),_,_,rfl,rfl,⟨by decide,ZaQ⟩,_,rfl,_,_,rfl,rfl,hm,?_⟩
   exact q _ _ (Int.emod_nonneg _ (Int.ne_of_gt hm)) (Int.emod_lt_of_pos _ hm) k2
def Zj3:Sp:=λvs H Q _=>∃ (a:Addr) (ns:List Int) (k:Nat),vs=[.ref a,.int (k:Int)]/\SqL K H a (ns.map V.int)/\k<=100/\∀ (d:Addr) (H':Hp),Same H H'->H d=none->Pool H' d 2000->Q (.ref d) H'
theorem scPoo:ZaA ["script", "k", "cell"] ["script", "k"] (Zaf ZiN):=⟨rfl,rfl,rfl,by decide +kernel,rfl,by decide +kernel,by decide +kernel⟩
theorem Zj4 {f:Addr} {fd:FuncData} (F:Fun K "_law_pool" "_law_pool" ZiN f fd) (mLen:mg "len" = none):ZaX P w K mg base CX0 1 f fd ["script", "k"] (Zj3 (K:=K)):=by
 refine F.ok scPoo (λvs H Q E h=>?_) (λcdv A outer s H vs Q E hr h=>?_)
 ·obtain ⟨_,_,_,rfl,_⟩:=h
  rfl
 ·obtain ⟨a,ns,k,rfl,ha,hk,q⟩:=h
  refine ⟨_,Zad (Zaj (i:=2) scPoo.nd rfl (Or.inl rfl) Zae)
    (Zad (Zbn (Zam ZfE (pv 1) (Zaq (Zfq K) rfl mLen PySem.boot_len (Zaa (pv 0) Zac)) (Zax _)) (Zah (Zaj (i:=2) scPoo.nd rfl (Or.inl rfl) (ZaC (Zbu K) (pv 0) (pv 1) (λ_ _=>rfl)))) ZaK)
    (Zad (Zbn (Zam ZkK (pv 2) (Zak ZeA Zae Zae) (Zax _)) (Zah (ZaD (Zar (Zaa (Zak Zbq (pv 2) (Zak ZeA Zae Zae)) (Zaa Zae (Zaa Zae Zac)))))) ZaK)
    (Zah (ZaD (Zar (Zaa (pv 2) (Zaa Zae (Zaa (Zak Zcg Zae (pv 1)) Zac)))))))),?_⟩
  refine Zat (λσ' H'=>∃ cl:Int,σ'=[some (.ref a),some (.int (k:Int)),some (.int cl)]/\H'=H) ?s0 ?f0
  case f0=>exact λhk=>hk _ _ ⟨0,rfl,rfl⟩
  rintro σ' H' ⟨cl,rfl,rfl⟩
  refine Zat (λσ' H''=>∃ cl:Int,σ'=[some (.ref a),some (.int (k:Int)),some (.int cl)]/\H''=H') ?s1 ?f1
  case f1=>
   intro hk2
   refine ⟨_,rfl,_,rfl,a,_,rfl,.inl ha,_,_,rfl,rfl,_,rfl,Zck (λc1=>?_) (λc1=>?_)⟩
   ·have c1':=of_decide_eq_true c1
    rw [List.length_map] at c1'
    refine ⟨_,rfl,_,rfl,a,_,_,.int (ns.getD k 0),rfl,rfl,ha,Zan (j:=k) ?_,?_⟩
    ·rw [List.getElem?_map,List.getElem?_eq_getElem (by omega),List.getD_eq_getElem?_getD,List.getElem?_eq_getElem (by omega)]
     rfl
    ·exact hk2 _ _ ⟨_,rfl,rfl⟩
   ·exact hk2 _ _ ⟨cl,rfl,rfl⟩
  clear cl
  rintro σ' H'' ⟨cl,rfl,rfl⟩
  refine ⟨_,rfl,_,_,rfl,rfl,⟨by decide,by decide,by decide⟩,_,_,rfl,rfl,_,rfl,Zck (λc1=>?_) (λc1=>?_)⟩
  ·refine ⟨_,rfl,_,_,rfl,rfl,⟨by decide,by decide,by decide⟩,_,_,rfl,rfl,(by show 3<=sizeLine;decide),λp hp=>?_⟩
   exact q p _ (Same.new hp) hp ⟨_,_,_,Zab,by omega,by omega⟩
  ·dsimp only [Zc6]
   refine ⟨_,rfl,_,rfl,_,_,rfl,rfl,.inl ⟨by decide,by decide⟩,(by show 3<=sizeLine;decide),λp hp=>?_⟩
   exact q p _ (Same.new hp) hp ⟨_,_,_,Zab,by omega,by omega⟩
end
end M
namespace M
open PySem L2
def Rds (rs:List Int):Prop:=rs.Pairwise (· < ·)/\(∀ r∈rs,0<=r/\r<28)/\rs≠[]/\rs.length<=12
def Sok (rs s:List Int):Prop:=s.Pairwise (· < ·)/\∀ x∈s,x∈rs
theorem Sok.sub {rs s:List Int} (h:Rds rs) (hs:s.Sublist rs):Sok rs s:=⟨h.1.sublist hs,λx hx=>hs.subset hx⟩
theorem Sok.len {rs s:List Int} (h:Sok rs s):s.length<=rs.length:=List.Nodup.length_le_of_subset (h.1.imp λz e=>by omega) λx hx=>h.2 x hx
theorem Zj5 {a b:Int} {n:Nat} (ha:0<=a) (ha':a<4) (hb:1<=b) (hb':b<3) (hn:1<=n) (hn':n<=12):Rds ((List.range n).map λi:Nat=>a+b * (i:Int)):=by
 have hb2:b=1\/b=2:=by omega
 refine ⟨?_,λr hr=>?_,λz=>?_,?_⟩
 ·rw [List.pairwise_map]
  refine List.pairwise_lt_range.imp λ{i j} h=>?_
  rcases hb2 with rfl | rfl <;> omega
 ·obtain ⟨i,hi,rfl⟩:=List.mem_map.mp hr
  have:=List.mem_range.mp hi
  rcases hb2 with rfl | rfl <;> omega
 ·have:=congrArg List.length z
  simp at this
  omega
 ·simp
  omega
theorem Zd7 {xs:List Int} {r:Int} (h0:0<=r) (h1:r<xs.length):∃ x,x∈xs/\atI (xs.map V.int) r=some (.int x):=by
 obtain ⟨k,rfl⟩:=Int.eq_ofNat_of_zero_le h0
 have hk:k<xs.length:=by omega
 exact ⟨xs[k],List.getElem_mem hk,Zan (by rw [List.getElem?_map,List.getElem?_eq_getElem hk];rfl)⟩
section
variable {P:Program} {w:World} {K:PySem.W.Frag} {mg:Str->Option Value} {base:Heap}
def Zj6:Sp:=λvs H Q _=>∃ (d:Addr) (c:Nat),vs=[.ref d]/\Pool H d c/\c<900000/\∀ (l:Addr) (rs:List Int) (H':Hp),Pk H H' d (c+6)->H l=none->H' l=some (.lst (rs.map V.int))->Rds rs->Q (.ref l) H'
theorem scRoa:ZaA ["pool", "many", "first", "step"] ["pool"] (Zaf ZiO):=⟨rfl,rfl,rfl,by decide +kernel,rfl,by decide +kernel,by decide +kernel⟩
theorem Zj7 {f fT:Addr} {fd fdT:FuncData} (F:Fun K "_law_roads" "_law_roads" ZiO f fd) (FT:Fun K "_law_take" "_law_take" Zfr fT fdT) (bT:Binds K fdT ["pool", "many"] []) (mT:mg "_law_take" = some (.ref fT)) (mRange:mg "range" = none):ZaX P w K mg base CX0 2 f fd ["pool"] Zj6:=by
 have GT:ZaX P w K mg base CX0 1 fT fdT ["pool", "many"] Zey:=Zc3 FT
 refine F.ok scRoa (λvs H Q E h=>?_) (λcdv A outer s H vs Q E hr h=>?_)
 ·obtain ⟨_,_,rfl,_⟩:=h
  rfl
 ·obtain ⟨d,c,rfl,hP,hc,q⟩:=h
  refine ⟨_,Zad (Zaj (i:=1) scRoa.nd rfl (Or.inl rfl) (Zak ZaR Zae (ZaC (Zbu K) (Zar (Zaa (Zai GT (hr.mono (by decide)) rfl mT FT.kp bT .nil ZaI (Zaa (pv 0) (Zaa Zae Zac))) (Zaa (Zai GT (hr.mono (by decide)) rfl mT FT.kp bT .nil ZaI (Zaa (pv 0) (Zaa Zae Zac))) (Zaa (Zai GT (hr.mono (by decide)) rfl mT FT.kp bT .nil ZaI (Zaa (pv 0) (Zaa Zae Zac))) Zac)))) (Zai GT (hr.mono (by decide)) rfl mT FT.kp bT .nil ZaI (Zaa (pv 0) (Zaa Zae Zac))) (λ_ _=>rfl))))
    (Zad (Zaj (i:=2) scRoa.nd rfl (Or.inr rfl) (Zai GT (hr.mono (by decide)) rfl mT FT.kp bT .nil ZaI (Zaa (pv 0) (Zaa Zae Zac))))
    (Zad (Zaj (i:=3) scRoa.nd rfl (Or.inr rfl) (Zak ZaR Zae (Zai GT (hr.mono (by decide)) rfl mT FT.kp bT .nil ZaI (Zaa (pv 0) (Zaa Zae Zac)))))
    (Zah (ZaD (Zbs (own:=["k"]) rfl (Zaw (fr:=[("first", 2),("step", 3)]) [(".0", .local),("k", .local),("first", .cell),("step", .cell)] rfl rfl (by decide +kernel) rfl (by decide +kernel) ⟨rfl,rfl,trivial⟩ ⟨λh=>Zbd h,λh=>Zbd h,λ_=>⟨_,rfl⟩,λ_=>⟨_,rfl⟩,trivial⟩ ⟨⟨rfl,.inl rfl,.inl rfl⟩,⟨rfl,.inl rfl,.inl rfl⟩,trivial⟩) (Zbo rfl mRange (Zaa (pv 1) Zac)) (λ_ _ _ _=>Zal (i:=0) (show List.Nodup (["k", "first", "step"]:List Str) by decide +kernel) rfl (Or.inl rfl)) (λ_ _ _ _=>Zbz) (λ_ _ _ _=>Zak ZaR (pv 1) (Zak Zcg (pv 2) (pv 0)))))))),?_⟩
  refine ⟨_,rfl,d,c,4,rfl,hP,by omega,by decide,ZaQ,λr1 H1 a1 b1 k1=>?_⟩
  refine ⟨_,rfl,d,c+1,9,rfl,k1.at_,by omega,by decide,ZaQ,λr2 H2 a2 b2 k2=>?_⟩
  refine ⟨_,rfl,d,c+2,12,rfl,k2.at_,by omega,by decide,ZaQ,λr3 H3 a3 b3 k3=>?_⟩
  refine ⟨(by show 3<=sizeLine;decide),λp hp=>?_⟩
  refine ⟨_,rfl,d,c+3,3,rfl,k3.at_.same (Same.new hp),by omega,by decide,ZaQ,λr4 H4 a4 b4 k4=>?_⟩
  obtain ⟨x,hx,ex⟩:=Zd7 (xs:=[r1,r2,r3]) a4 b4
  have x0:0<=x/\x<12:=by
   simp at hx
   omega
  have np:=Ne.symm (k3.at_.ne hp)
  refine ⟨p,_,_,_,rfl,rfl,SqL.of (k4.keep _ _ np Zab),ex,_,_,rfl,rfl,?_⟩
  refine ⟨_,rfl,d,c+4,4,rfl,k4.at_,by omega,by decide,ZaQ,λr5 H5 a5 b5 k5=>?_⟩
  refine ⟨_,rfl,d,c+5,2,rfl,k5.at_,by omega,by decide,ZaQ,λr6 H6 a6 b6 k6=>?_⟩
  refine ⟨_,_,rfl,rfl,?_⟩
  have K6:Pk H H6 d (c+6):=(((((k1.trans k2).trans k3).new hp).trans k4).trans k5).trans k6
  have h16:(16777216:Nat)=sizeLine:=sizeLine_eq.symm
  refine ⟨_,rfl,_,rfl,by omega,by omega,λD hD=>?_⟩
  refine Zb7 (lo:=0) (n:=(1+x).toNat) (λi ys H7=>Same H6 H7/\H7 D=some (.lst ys)/\ys=((List.range i).map λj:Nat=>r5+(1+r6) * (j:Int)).map V.int) ⟨Same.new hD,Zab,rfl⟩ ?_ ?_
  ·rintro i ys H7 hi ⟨s7,e7,rfl⟩
   rw [Int.zero_add]
   refine ⟨⟨rfl,rfl,trivial⟩,?_⟩
   unfold Zie
   refine Zeb ?_
   refine ⟨_,rfl,_,rfl,_,rfl,_,_,rfl,rfl,.inl ⟨by omega,by omega⟩,_,_,rfl,rfl,e7,(by simp;omega),s7.put hD,Zab,by rw [List.range_succ,List.map_append,List.map_append];rfl⟩
  ·rintro ys H7 ⟨s7,e7,rfl⟩
   exact q D _ _ (K6.grow s7) (K6.free hD) e7 (Zj5 a5 b5 (by omega) (by omega) (by omega) (by omega))
def ZiZ:Sp:=λvs H Q _=>∃ (d rl:Addr) (c:Nat) (rs:List Int),vs=[.ref d,.ref rl]/\Pool H d c/\c<900000/\rl≠d/\H rl=some (.lst (rs.map V.int))/\rs.length<=12 /\
 ∀ (l:Addr) (ss:List Int) (H':Hp),Pk H H' d (c+13)->H l=none->H' l=some (.lst (ss.map V.int))->ss.Sublist rs->Q (.ref l) H'
theorem scSet:ZaA ["pool", "roads", "few"] ["pool", "roads"] (Zaf ZhR):=⟨rfl,rfl,rfl,by decide +kernel,rfl,by decide +kernel,by decide +kernel⟩
theorem ZhV {f fT:Addr} {fd fdT:FuncData} (F:Fun K "_law_set" "_law_set" ZhR f fd) (FT:Fun K "_law_take" "_law_take" Zfr fT fdT) (bT:Binds K fdT ["pool", "many"] []) (mT:mg "_law_take" = some (.ref fT)):ZaX P w K mg base CX0 2 f fd ["pool", "roads"] ZiZ:=by
 have GT:ZaX P w K mg base CX0 1 fT fdT ["pool", "many"] Zey:=Zc3 FT
 refine F.ok scSet (λvs H Q E h=>?_) (λcdv A outer s H vs Q E hr h=>?_)
 ·obtain ⟨_,_,_,_,rfl,_⟩:=h
  rfl
 ·obtain ⟨d,rl,c,rs,rfl,hP,hc,nrd,er,hrl,q⟩:=h
  refine ⟨_,Zad (Zaj (i:=2) scSet.nd rfl (Or.inr rfl) (ZaC (Zbu K) (Zar (Zaa Zae (Zaa Zae (Zaa Zae Zac)))) (Zai GT (hr.mono (by decide)) rfl mT FT.kp bT .nil ZaI (Zaa (pv 0) (Zaa Zae Zac))) (λ_ _=>rfl)))
    (Zah (ZaD (Zbs (own:=["road"]) rfl (Zaw (fr:=[("pool", 0),("few", 2)]) [(".0", .local),("road", .local),("_law_take", .globalImplicit),("few", .cell),("pool", .cell)] rfl rfl (by decide +kernel) rfl (by decide +kernel) ⟨rfl,rfl,trivial⟩ ⟨λh=>Zbd h,λh=>Zbd h,λh=>Zbd h,λ_=>⟨_,rfl⟩,λ_=>⟨_,rfl⟩,trivial⟩ ⟨⟨rfl,.inl rfl,.inl rfl⟩,⟨rfl,.inl rfl,.inl rfl⟩,trivial⟩) (ZbG K (pv 1)) (λ_ _ _ _=>Zal (i:=0) (show List.Nodup (["road", "pool", "few"]:List Str) by decide +kernel) rfl (Or.inl rfl)) (λ_ _ _ _=>ZbT (Zam Zc7 (Zai GT (hr.mono (by decide)) rfl mT FT.kp bT .nil ZaI (Zaa (pv 1) (Zaa (pv 2) Zac))) Zae (Zax _))) (λ_ _ _ _=>pv 0)))),?_⟩
  refine ⟨(by show 3<=sizeLine;decide),λp hp=>?_⟩
  have np:=Ne.symm (hP.ne hp)
  refine ⟨_,rfl,d,c,3,rfl,hP.same (Same.new hp),by omega,by decide,ZaQ,λr1 H1 a1 b1 k1=>?_⟩
  obtain ⟨x,hx,ex⟩:=Zd7 (xs:=[2,3,6]) a1 b1
  have x0:0<x/\x<7:=by
   simp at hx
   omega
  have xl:Lt2 9000 x:=Lt2.mono (p:=3) (show x.natAbs<2 ^ 3 by omega) (by decide)
  refine ⟨p,_,_,_,rfl,rfl,SqL.of (k1.keep _ _ np Zab),ex,?_⟩
  have K1:Pk H H1 d (c+1):=((Pk.start hP).new hp).trans k1
  have h16:(16777216:Nat)=sizeLine:=sizeLine_eq.symm
  have er1:=K1.keep _ _ nrd er
  refine ⟨_,rfl,rl,rfl,⟨_,SqL.of er1⟩,λD hD=>?_⟩
  have nD:=K1.at_.ne hD
  refine Za0 (K:=K) (a:=rl) (xs:=rs.map V.int) (λi ys H2=>∃ ss:List Int,ys=ss.map V.int/\ss.Sublist (rs.take i)/\Pk H1 H2 d (c+1+i)/\H2 D=some (.lst ys))
   ⟨[],rfl,List.nil_sublist _,(Pk.start K1.at_).new hD,Zab⟩ (λi ys H2 _ ⟨_,_,_,k2,_⟩=>SqL.of (k2.keep _ _ nrd er1)) ?_ ?_
  ·rintro i y ys H2 hi ⟨ss,rfl,sb,k2,e2⟩
   obtain ⟨z,rfl,hz⟩:=Zbi hi
   have hi':i<rs.length:=(List.getElem?_eq_some_iff.mp hz).1
   have tk:rs.take (i+1)=rs.take i++[z]:=by rw [List.take_add_one,hz];rfl
   have sl:=sb.length_le
   rw [List.length_take] at sl
   refine ⟨⟨rfl,rfl,trivial⟩,?_⟩
   refine ⟨_,rfl,_,rfl,d,c+1+i,x,rfl,k2.at_,by omega,x0.1,xl,λr H3 a b k3=>⟨rfl,_,rfl,Zck (λc1=>?_) (λc1=>?_)⟩⟩
   ·refine ⟨_,rfl,k3.keep _ _ (Ne.symm nD) e2,(by rw [List.length_map];omega),ss++[z],by rw [List.map_append];rfl,?_,((k2.trans k3).put hD nD),Zab⟩
    rw [tk]
    exact sb.append (List.Sublist.refl _)
   ·exact ⟨ss,rfl,by rw [tk];exact sb.trans (List.sublist_append_left _ _),k2.trans k3,k3.keep _ _ (Ne.symm nD) e2⟩
  ·rintro ys H2 ⟨ss,rfl,sb,k2,e2⟩
   refine q D ss _ ((K1.trans k2).mono (by rw [List.length_map];omega)) (K1.free hD) e2 ?_
   rw [List.length_map,List.take_length] at sb
   exact sb
def Zj8:Sp:=λvs H Q _=>∃ (d ol rl:Addr) (c:Nat) (os rs:List Int),vs=[.ref d,.ref ol,.ref rl]/\Pool H d c/\c<900000/\ol≠d/\rl≠d/\H ol=some (.lst (os.map V.int))/\H rl=some (.lst (rs.map V.int))/\Rds rs/\Sok rs os /\
 ∀ (l:Addr) (ss:List Int) (H':Hp),Pk H H' d (c+1)->H l=none->H' l=some (.lst (ss.map V.int))->Sok rs ss->Q (.ref l) H'
theorem scTur:ZaA ["pool", "one", "roads", "road"] ["pool", "one", "roads"] (Zaf ZiP):=⟨rfl,rfl,rfl,by decide +kernel,rfl,by decide +kernel,by decide +kernel⟩
theorem Zhn (p:Int):∀ ms:List Int,inV (.int p) (ms.map V.int)=decide (p∈ms):=by
 intro ms
 unfold inV
 induction ms with
 | nil=>rfl
 | cons m ms ih=>
  rw [List.map_cons,List.any_cons,ih]
  by_cases h1:p=m <;> by_cases h2:p∈ms <;> simp [eqV,h1,h2] <;> (try omega) <;> (try (intro z;exact h1 z.symm))
theorem ZgI (ms:List Int):(ms.map V.int).all Zda=true:=by
 rw [List.all_map]
 exact List.all_eq_true.mpr λ_ _=>rfl
theorem Zho {l:List Int} (h:l.Pairwise (· <= ·)) (n:l.Nodup):l.Pairwise (· < ·):=(h.and n).imp λ⟨a,b⟩=>by omega
theorem Zj9 {f fT:Addr} {fd fdT:FuncData} (F:Fun K "_law_turned" "_law_turned" ZiP f fd) (FT:Fun K "_law_take" "_law_take" Zfr fT fdT) (bT:Binds K fdT ["pool", "many"] []) (mT:mg "_law_take" = some (.ref fT)) (mLen:mg "len" = none) (mInt:mg "int" = none) (mSor:mg "sorted" = none):ZaX P w K mg base CX0 2 f fd ["pool", "one", "roads"] Zj8:=by
 have GT:ZaX P w K mg base CX0 1 fT fdT ["pool", "many"] Zey:=Zc3 FT
 refine F.ok scTur (λvs H Q E h=>?_) (λcdv A outer s H vs Q E hr h=>?_)
 ·obtain ⟨_,_,_,_,_,_,rfl,_⟩:=h
  rfl
 ·obtain ⟨d,ol,rl,c,os,rs,rfl,hP,hc,nod,nrd,eo,er,hrd,hso,q⟩:=h
  refine ⟨_,Zad (Zaj (i:=3) scTur.nd rfl (Or.inr rfl) (ZaC (Zbu K) (pv 2) (Zai GT (hr.mono (by decide)) rfl mT FT.kp bT .nil ZaI (Zaa (pv 0) (Zaa (Zaq (Zfq K) rfl mLen PySem.boot_len (Zaa (pv 2) Zac)) Zac))) (λ_ _=>rfl)))
    (Zah (ZaD (Zaq (ZhM K) rfl mSor PyProof.Rows.boot_sorted (Zaa (Zak ZaO (Zbs (own:=["other"]) rfl (Zaw (fr:=[("road", 3)]) [(".0", .local),("other", .local),("road", .cell)] rfl rfl (by decide +kernel) rfl (by decide +kernel) ⟨rfl,trivial⟩ ⟨λh=>Zbd h,λh=>Zbd h,λ_=>⟨_,rfl⟩,trivial⟩ ⟨⟨rfl,.inl rfl,.inl rfl⟩,trivial⟩) (ZbG K (pv 1)) (λ_ _ _ _=>Zal (i:=0) (show List.Nodup (["other", "road"]:List Str) by decide +kernel) rfl (Or.inl rfl)) (λ_ _ _ _=>ZbT (Zam Zjj (pv 0) (pv 1) (Zax _))) (λ_ _ _ _=>pv 0)) (Zak ZhB (Zar (Zaa (pv 3) Zac)) (ZaS ZfI rfl mInt ZeJ (Zaa (Zeg (Zjy K) (pv 3) (pv 1) (by with_unfolding_all rfl)) Zac)))) Zac)))),?_⟩
  have h16:(16777216:Nat)=sizeLine:=sizeLine_eq.symm
  have rl12:=hrd.2.2.2
  have ol12:=hso.len
  have rl0:0<rs.length:=List.length_pos_iff.mpr hrd.2.2.1
  refine ⟨_,rfl,_,rfl,_,rfl,rl,_,rfl,.inl (SqL.of er),d,c,_,rfl,hP,by omega,by rw [List.length_map];omega,Lt2.mono (p:=4) (by rw [List.length_map];show (rs.length:Int).natAbs<2 ^ 4;omega) (by decide),λr1 H1 a1 b1 k1=>?_⟩
  rw [List.length_map] at b1
  obtain ⟨x,hx,ex⟩:=Zd7 (xs:=rs) a1 b1
  have er1:=k1.keep _ _ nrd er
  have eo1:=k1.keep _ _ nod eo
  refine ⟨rl,_,_,_,rfl,rfl,SqL.of er1,ex,?_⟩
  refine ⟨_,rfl,ol,rfl,⟨_,SqL.of eo1⟩,λD hD=>?_⟩
  refine Za0 (K:=K) (a:=ol) (xs:=os.map V.int) (λi ys H2=>Same H1 H2/\H2 D=some (.lst ys)/\ys=((os.take i).filter λz=>decide (z≠x)).map V.int) ⟨Same.new hD,Zab,rfl⟩ (λi ys H2 _ ⟨s2,_⟩=>SqL.of (s2 _ _ eo1)) ?_ ?_
  ·rintro i y ys H2 hi ⟨s2,e2,rfl⟩
   obtain ⟨z,rfl,hz⟩:=Zbi hi
   have tk:os.take (i+1)=os.take i++[z]:=by rw [List.take_add_one,hz];rfl
   have lf:=List.length_filter_le (λz=>decide (z≠x)) (os.take i)
   rw [List.length_take] at lf
   refine ⟨⟨rfl,trivial⟩,?_⟩
   refine ⟨_,rfl,_,rfl,rfl,_,rfl,Zck (λc1=>?_) (λc1=>?_)⟩
   ·have c2:z≠x:=λe=>by rw [e] at c1;simp at c1
    refine ⟨_,rfl,e2,(by rw [List.length_map];omega),s2.put hD,Zab,?_⟩
    rw [tk,List.filter_append,List.map_append]
    simp [c2]
   ·have c2:z=x:=Decidable.byContradiction λe=>c1 (by simp [e])
    refine ⟨s2,e2,?_⟩
    rw [tk,List.filter_append]
    simp [c2]
  ·rintro ys H2 ⟨s2,e2,rfl⟩
   rw [List.length_map,List.take_length] at e2
   refine ⟨_,rfl,(by show 1<=sizeLine;decide),λp hp=>?_⟩
   have s3:Same H1 (upd H2 p (.lst [.int x])):=s2.put (s2.free hp)
   have nDp:D≠p:=Zag e2 hp
   refine ⟨_,rfl,_,rfl,ol,_,rfl,.inl (SqL.of (s3 _ _ eo1)),rfl,ZgI _,.inr ⟨_,rfl,?_⟩⟩
   rw [Zhn]
   refine ⟨p,_,_,rfl,rfl,Zab,(by by_cases h:x∈os <;> simp [h]),(by by_cases h:x∈os <;> simp [h]),(by by_cases h:x∈os <;> simp [h] <;> omega),λp2 hp2=>?_⟩
   have h2:upd (upd H2 p (.lst [.int x])) p2 (.lst (List.replicate (if (if true=true then !decide (x∈os) else decide (x∈os))=true then (1:Int) else 0).toNat [V.int x]).flatten) D=some (.lst ((os.filter λz=>decide (z≠x)).map V.int)):=Zao (Zao e2 nDp) (Zag (Zao e2 nDp) hp2)
   have e3:(List.replicate (if (if true=true then !decide (x∈os) else decide (x∈os))=true then (1:Int) else 0).toNat [V.int x]).flatten=(if x∈os then [] else [x]).map V.int:=by
    by_cases hxo:x∈os <;> simp [hxo]
   rw [e3] at h2 ⊢
   have lf:=List.length_filter_le (λz=>decide (z≠x)) os
   have l1:(if x∈os then [] else [x]).length<=1:=by split <;> simp
   refine ⟨D,p2,_,_,rfl,rfl,h2,Zab,(by rw [List.length_map,List.length_map];omega),λp3 hp3=>?_⟩
   rw [<-List.map_append]
   have s4:=(s3.put (o:=.lst ((if x∈os then [] else [x]).map V.int)) (s3.free hp2))
   refine ⟨p3,_,rfl,SqL.of Zab,λl ns hl pm so=>?_⟩
   have s5:=s4.put (o:=.lst ((os.filter (λz=>decide (z≠x))++if x∈os then [] else [x]).map V.int)) (s4.free hp3)
   have s6:=s5.put (o:=.lst (ns.map V.int)) (s5.free hl)
   have K6:=k1.grow s6
   refine q l ns _ K6 (k1.free (s5.free hl)) Zab ⟨Zho so ?_,λy hy=>?_⟩
   ·rw [pm.nodup_iff]
    refine List.nodup_append.mpr ⟨(hso.1.imp λz e=>by omega:os.Nodup).filter _,by split <;> simp,?_⟩
    rintro a ha b hb rfl
    split at hb
    ·simp at hb
    ·simp at hb ha
     exact ha.2 hb
   ·have:=pm.mem_iff.mp hy
    rcases List.mem_append.mp this with h | h
    ·exact hso.2 y (List.mem_filter.mp h).1
    ·split at h
     ·simp at h
     ·rw [List.mem_singleton.mp h]
      exact hx
end
end M
namespace M
open PySem L2
def Lz (H:Hp) (zs:List (Addr×List Int)):Prop:=∀ z∈zs,H z.1=some (.lst (z.2.map V.int))
theorem Lz.same {H H':Hp} {zs:List (Addr×List Int)} (h:Lz H zs) (s:Same H H'):Lz H' zs:=λz hz=>s _ _ (h z hz)
def Srt (l:List (List Int)):Prop:=l.Pairwise λa b=>Za9 b a=false
def Zci (ls:List (List Int)):List PyData:=ls.map λl=>PyData.list (l.map PyData.int)
theorem ZhW:∀ ls:List (List Int),PyData.canLayAll0 (Zci ls)=true
 | []=>by simp [Zci,PyData.canLayAll0]
 | l::ls=>by
  have ih:=ZhW ls
  unfold Zci at ih ⊢
  rw [List.map_cons]
  simp [PyData.canLayAll0,PyData.canLay0,Zcn l,ih]
theorem Ze2:∀ ls:List (List Int),PyData.depthAll (Zci ls)<=2
 | []=>by simp [Zci,PyData.depthAll]
 | l::ls=>by
  have ih:=Ze2 ls
  have:=Zbe l
  unfold Zci at ih ⊢
  rw [List.map_cons]
  simp only [PyData.depthAll,PyData.depth]
  omega
theorem Zd8 (ls:List (List Int)):SeqAt.shaped (.list (Zci ls))=true:=by
 unfold SeqAt.shaped
 rw [Bool.and_eq_true]
 refine ⟨by simp only [PyData.canLay0];exact ZhW ls,decide_eq_true ?_⟩
 have:=Ze2 ls
 simp only [PyData.depth]
 omega
theorem Zdz {K:PySem.W.Frag} {H:Hp}:∀ {zs:List (Addr×List Int)},Lz H zs->DatVs K H (zs.map λz=>V.ref z.1) (Zci (zs.map (·.2)))
 | [],_=>.nil
 | z::zs,h=>.cons (.lst (SqL.of (h z (by simp))) (ZaE z.2)) (Zdz (zs:=zs) λy hy=>h y (by simp [hy]))
end M
namespace M
open PySem L2
theorem ZgJ:∀ a b:List (List Int),PyData.eqvAll (Zci a) (Zci b)=decide (a=b)
 | [],[]=>by simp [Zci,PyData.eqvAll]
 | [],_::_=>by simp [Zci,PyData.eqvAll]
 | _::_,[]=>by simp [Zci,PyData.eqvAll]
 | x::a,y::b=>by
  have ih:=ZgJ a b
  have h:=Za8 x y
  unfold Zci at ih ⊢
  rw [List.map_cons,List.map_cons]
  simp only [PyData.eqvAll,h,ih]
  by_cases e1:x=y <;> by_cases e2:a=b <;> simp [e1,e2]
theorem Zlr (a b:List (List Int)):PyData.eqv (.list (Zci a)) (.list (Zci b))=decide (a=b):=by
 simp only [PyData.eqv,ZgJ]
theorem Zi0 (xs:List V) (v:V):atI (xs++[v]) (-1)=some v:=by
 have h:ixN (xs++[v]).length (-1)=some xs.length:=by
  rw [List.length_append,List.length_singleton]
  unfold ixN
  simp
  omega
 unfold atI
 rw [h]
 simp
section
variable {P:Program} {w:World} {K:PySem.W.Frag} {mg:Str->Option Value} {base:Heap}
def Zi1:Sp:=λvs H Q _=>∃ (l:Addr) (zs:List (Addr×List Int)),vs=[.ref l]/\H l=some (.lst (zs.map λz=>V.ref z.1))/\Lz H zs/\zs.length<=1000 /\
 ∀ (a:Addr) (ws:List (Addr×List Int)) (H':Hp),Same H H'->H a=none->H' a=some (.lst (ws.map λz=>V.ref z.1))->(∀ z∈ws,z∈zs)->(ws.map (·.2)).Pairwise (λa b=>Za9 a b=true)->(∀ z∈zs,z.2∈ws.map (·.2))->ws.length<=zs.length->Q (.ref a) H'
theorem scOnc:ZaA ["sets", "found", "one"] ["sets"] (Zaf ZhS):=⟨rfl,rfl,rfl,by decide +kernel,rfl,by decide +kernel,by decide +kernel⟩
theorem ZhX {f:Addr} {fd:FuncData} (F:Fun K "_law_once" "_law_once" ZhS f fd) (mSor:mg "sorted" = none):ZaX P w K mg base CX0 1 f fd ["sets"] Zi1:=by
 refine F.ok scOnc (λvs H Q E h=>?_) (λcdv A outer s H vs Q E hr h=>?_)
 ·obtain ⟨_,_,rfl,_⟩:=h
  rfl
 ·obtain ⟨l,zs,rfl,el,lz,hzl,q⟩:=h
  have hu:=hr.units
  have h16:(16777216:Nat)=sizeLine:=sizeLine_eq.symm
  refine ⟨_,Zad (Zaj (i:=1) scOnc.nd rfl (Or.inl rfl) (Zar Zac))
    (Zad (ZbJ PassesOwn.never rfl (ZbG K (Zaq (ZiE K hu) rfl mSor PyProof.Rows.boot_sorted (Zaa (pv 0) Zac))) (Zal (i:=2) scOnc.nd rfl (Or.inl rfl))
    (Zah (Zbn (PW.pt (Zef (Zam (Zjz K hu) (pv 1) (Zar Zac) (Zax _)) (ZcO (Zam (Zg1 K hu) (ZaC (Zbu K) (pv 1) (ZfA ZcD Zae) (λ_ _=>rfl)) (pv 2) (Zax _))))) (Zah (Zb6 (Zei PySem.F.plainAttrs_list PySem.F.slot_list_append PySem.F.type_list_append Za4 (pv 1) (Zaa (pv 2) Zac)))) ZaK)))
    (Zah (ZaD (pv 1)))),?_⟩
  refine ⟨Nat.zero_le _,λfo hfo=>?_⟩
  have s1:Same H (upd H fo (.lst [])):=Same.new hfo
  have ef:upd H fo (.lst []) fo=some (.lst (([]:List (Addr×List Int)).map λz=>V.ref z.1)):=Zab
  generalize upd H fo (.lst [])=H1 at s1 ef ⊢
  dsimp only [Za2]
  refine ⟨_,rfl,l,zs,rfl,SqL.of (s1 _ _ el),λz hz=>SqL.of (s1 _ _ (lz z hz)),λsl zs' hsl pm so=>⟨sl,rfl,⟨_,SqL.of Zab⟩,?_⟩⟩
  have s2:Same H1 (upd H1 sl (.lst (zs'.map λz=>V.ref z.1))):=Same.new hsl
  have es:upd H1 sl (.lst (zs'.map λz=>V.ref z.1)) sl=some (.lst (zs'.map λz=>V.ref z.1)):=Zab
  have nfs:fo≠sl:=Zag ef hsl
  have ef2:=s2 _ _ ef
  have lz2:Lz (upd H1 sl (.lst (zs'.map λz=>V.ref z.1))) zs':=λz hz=>s2 _ _ (s1 _ _ (lz z (pm.mem_iff.mp hz)))
  have nzf:∀ z∈zs',z.1≠fo:=λz hz=>Zag (lz z (pm.mem_iff.mp hz)) hfo
  generalize upd H1 sl (.lst (zs'.map λz=>V.ref z.1))=H2 at s2 es ef2 lz2 ⊢
  have S2:=s1.trans s2
  rw [List.pairwise_map] at so
  refine Za6 (K:=K) (a:=sl) (xs:=zs'.map λz=>V.ref z.1) (λi σ H'=>∃ (ws:List (Addr×List Int)) (v2:Option V),σ=[some (.ref l),some (.ref fo),v2]/\(∀ b o,b≠fo->H2 b=some o->H' b=some o)/\H' fo=some (.lst (ws.map λz=>V.ref z.1))/\(∀ z∈ws,z∈zs'.take i)/\(ws.map (·.2)).Pairwise (λa b=>Za9 a b=true)/\(∀ z∈zs'.take i,z.2∈ws.map (·.2))/\ws.length<=i)
   ⟨[],none,rfl,λ_ _ _ e=>e,ef2,λz hz=>(by cases hz),List.Pairwise.nil,λz hz=>(by rw [List.take_zero] at hz;cases hz),Nat.le_refl _⟩ (λi σ H' _ ⟨_,_,_,k,_⟩=>SqL.of (k _ _ (Ne.symm nfs) es)) ?_ ?_
  ·rintro i x σ H3 hxi ⟨ws,v2,rfl,k3,e3,h1,h2,h3,h4⟩
   rw [List.getElem?_map] at hxi
   obtain ⟨z,hz,rfl⟩:=Option.map_eq_some_iff.mp hxi
   obtain ⟨hi,ezi⟩:=List.getElem?_eq_some_iff.mp hz
   have tk:zs'.take (i+1)=zs'.take i++[z]:=by rw [List.take_add_one,hz];rfl
   have hzm:z∈zs':=List.mem_of_getElem? hz
   have ez:=k3 _ _ (nzf z hzm) (lz2 z hzm)
   have hil:i<1000:=by have:=pm.length_eq;omega
   have lw:Lz H3 ws:=λu hu=>let hm:=List.mem_of_mem_take (h1 u hu);k3 _ _ (nzf u hm) (lz2 u hm)
   have grow:∀ H4:Hp,Same H3 H4->(∀ u∈ws,Za9 u.2 z.2=true)->∃ (ws':List (Addr×List Int)) (v2:Option V),[some (V.ref l),some (.ref fo),some (.ref z.1)]=[some (V.ref l),some (.ref fo),v2]/\(∀ b o,b≠fo->H2 b=some o->upd H4 fo (.lst ((ws.map λz=>V.ref z.1)++[.ref z.1])) b=some o)/\upd H4 fo (.lst ((ws.map λz=>V.ref z.1)++[.ref z.1])) fo=some (.lst (ws'.map λz=>V.ref z.1))/\(∀ u∈ws',u∈zs'.take (i+1))/\(ws'.map (·.2)).Pairwise (λa b=>Za9 a b=true)/\(∀ u∈zs'.take (i+1),u.2∈ws'.map (·.2))/\ws'.length<=i+1:=λH4 s4 hlt=>by
    refine ⟨ws++[z],_,rfl,λb o hb e=>Zao (s4 _ _ (k3 b o hb e)) hb,by rw [Zab,List.map_append];rfl,λu hu=>?_,?_,λu hu=>?_,by rw [List.length_append,List.length_singleton];omega⟩
    ·rw [tk]
     rcases List.mem_append.mp hu with h | h
     ·exact List.mem_append_left _ (h1 u h)
     ·exact List.mem_append_right _ h
    ·rw [List.map_append,List.pairwise_append]
     refine ⟨h2,by simp,λa ha b hb=>?_⟩
     obtain ⟨u,hu,rfl⟩:=List.mem_map.mp ha
     rw [List.mem_singleton.mp hb]
     exact hlt u hu
    ·rw [List.map_append]
     rw [tk] at hu
     rcases List.mem_append.mp hu with h | h
     ·exact List.mem_append_left _ (h3 u h)
     ·exact List.mem_append_right _ (by rw [List.mem_singleton.mp h];simp)
   dsimp only [Za2]
   refine ⟨_,rfl,Nat.zero_le _,λe he=>?_⟩
   have s7:Same H3 (upd H3 e (.lst [])):=Same.new he
   have nfe:fo≠e:=Zag e3 he
   refine ⟨.list (Zci (ws.map (·.2))),.list (Zci []),.lst (SqL.of (s7 _ _ e3)) (Zdz (lw.same s7)),.lst (SqL.of Zab) .nil,Zd8 _,Zd8 _,_,rfl,?_⟩
   rw [Zlr]
   have hwl:(ws.map λz=>V.ref z.1).length<sizeLine:=by rw [List.length_map];omega
   refine Zck (λc1=>?_) (λc1=>?_)
   ·have hw:ws=[]:=by
     by_cases hw:ws=[]
     ·exact hw
     ·simp [hw] at c1
    refine Zeb ?_
    refine ⟨_,rfl,.inl ⟨rfl,_,SqL.of (s7 _ _ e3)⟩,_,rfl,fo,_,_,rfl,rfl,s7 _ _ e3,hwl,?_⟩
    exact grow _ s7 (λu hu=>by rw [hw] at hu;cases hu)
   ·have hw:ws≠[]:=λhw=>c1 (by simp [hw])
    obtain ⟨us,w0,ew⟩:∃ us w0,ws=us++[w0]:=⟨_,_,(List.dropLast_concat_getLast hw).symm⟩
    have hw0:w0∈ws:=by rw [ew];simp
    have hst:∀ u∈ws,Za9 z.2 u.2=false:=λu hu=>by
     have hm:=h1 u hu
     obtain ⟨j,hj,ej⟩:=List.mem_take_iff_getElem.mp hm
     have:=List.pairwise_iff_getElem.mp so j i (by omega) hi (by omega)
     rw [ej,ezi] at this
     exact this
    refine ⟨_,rfl,_,rfl,fo,_,_,.ref w0.1,rfl,rfl,SqL.of (s7 _ _ e3),?_,_,rfl,.list (w0.2.map PyData.int),.list (z.2.map PyData.int),.lst (SqL.of (s7 _ _ (lw w0 hw0))) (ZaE _),.lst (SqL.of (s7 _ _ ez)) (ZaE _),ZaJ _,ZaJ _,_,rfl,?_⟩
    ·rw [ew,List.map_append]
     exact Zi0 _ _
    rw [Za8]
    refine Zck (λc2=>?_) (λc2=>?_)
    ·have hne:w0.2≠z.2:=λe=>by rw [e] at c2;simp at c2
     have hlt0:Za9 w0.2 z.2=true:=by
      cases hb:Za9 w0.2 z.2 with
      | true=>rfl
      | false=>exact absurd (Zds hb (hst w0 hw0)) hne
     refine ⟨_,rfl,.inl ⟨rfl,_,SqL.of (s7 _ _ e3)⟩,_,rfl,fo,_,_,rfl,rfl,s7 _ _ e3,hwl,?_⟩
     refine grow _ s7 (λu hu=>?_)
     rw [ew] at hu
     rcases List.mem_append.mp hu with h | h
     ·rw [ew,List.map_append,List.pairwise_append] at h2
      exact Zdr (h2.2.2 u.2 (List.mem_map.mpr ⟨u,h,rfl⟩) w0.2 (by simp)) hlt0
     ·rw [List.mem_singleton.mp h]
      exact hlt0
    ·have heq:w0.2=z.2:=by
      by_cases e:w0.2=z.2
      ·exact e
      ·exact absurd (by simp [e]) c2
     refine ⟨ws,_,rfl,λb o hb e=>s7 _ _ (k3 b o hb e),s7 _ _ e3,λu hu=>?_,h2,λu hu=>?_,by omega⟩
     ·rw [tk]
      exact List.mem_append_left _ (h1 u hu)
     ·rw [tk] at hu
      rcases List.mem_append.mp hu with h | h
      ·exact h3 u h
      ·rw [List.mem_singleton.mp h,<-heq]
       exact List.mem_map.mpr ⟨w0,hw0,rfl⟩
  ·rintro σ H3 ⟨ws,v2,rfl,k3,e3,h1,h2,h3,h4⟩
   rw [List.length_map,List.take_length] at h1 h3
   rw [List.length_map,pm.length_eq] at h4
   exact ⟨_,rfl,q fo ws H3 (λb o e=>k3 b o (Zag e hfo) (S2 b o e)) hfo e3 (λz hz=>pm.mem_iff.mp (h1 z hz)) h2 (λz hz=>h3 z (pm.mem_iff.mpr hz)) h4⟩
end
end M
namespace M
open PySem L2
structure Fm (H0 H:Hp) (d:Addr) (c:Nat) (rs:List Int) (fo:Addr) (zs:List (Addr×List Int)):Prop where
 p:∃ c,Pool H0 d c
 k:Pk H0 H d c
 f:H0 fo=none
 e:H fo=some (.lst (zs.map λz=>V.ref z.1))
 l:Lz H zs
 n:∀ z∈zs,H0 z.1=none/\z.1≠fo
 s:∀ z∈zs,Sok rs z.2
section
variable {H0 H H':Hp} {d fo l:Addr} {c c':Nat} {rs ss:List Int} {zs:List (Addr×List Int)}
theorem Fm.nd (F:Fm H0 H d c rs fo zs):fo≠d:=by
 obtain ⟨c,p⟩:=F.p
 exact Ne.symm (p.ne F.f)
theorem Fm.nz (F:Fm H0 H d c rs fo zs):∀ z∈zs,z.1≠d:=λz hz=>by
 obtain ⟨c,p⟩:=F.p
 exact Ne.symm (p.ne (F.n z hz).1)
theorem Fm.go (F:Fm H0 H d c rs fo zs) (k:Pk H H' d c'):Fm H0 H' d c' rs fo zs:=
 ⟨F.p,F.k.trans k,F.f,k.keep _ _ F.nd F.e,λz hz=>k.keep _ _ (F.nz z hz) (F.l z hz),F.n,F.s⟩
theorem Fm.add (F:Fm H0 H d c rs fo zs) (k:Pk H H' d c') (hl:H l=none) (el:H' l=some (.lst (ss.map V.int))) (hs:Sok rs ss):Fm H0 (upd H' fo (.lst ((zs.map λz=>V.ref z.1)++[.ref l]))) d c' rs fo (zs++[(l,ss)]):=by
 have G:=F.go k
 have nlf:l≠fo:=λz=>by rw [z,F.e] at hl;cases hl
 refine ⟨F.p,G.k.put F.f (Ne.symm F.nd),F.f,by rw [Zab,List.map_append];rfl,λz hz=>?_,λz hz=>?_,λz hz=>?_⟩
 ·rcases List.mem_append.mp hz with h | h
  ·exact Zao (G.l z h) (F.n z h).2
  ·rw [List.mem_singleton.mp h]
   exact Zao el nlf
 ·rcases List.mem_append.mp hz with h | h
  ·exact F.n z h
  ·rw [List.mem_singleton.mp h]
   exact ⟨F.k.free hl,nlf⟩
 ·rcases List.mem_append.mp hz with h | h
  ·exact F.s z h
  ·rw [List.mem_singleton.mp h]
   exact hs
end
theorem Zhp {rs:List Int} (h:Rds rs) {i:Nat} {x:Int} (hx:rs[i]?=some x) {s:List Int} (hs:Sok (rs.take i) s):Sok (rs.take (i+1)) (s++[x]):=by
 have tk:rs.take (i+1)=rs.take i++[x]:=by rw [List.take_add_one,hx];rfl
 have hp:=h.1.sublist (List.take_sublist (i+1) rs)
 rw [tk,List.pairwise_append] at hp
 refine ⟨List.pairwise_append.mpr ⟨hs.1,by simp,λa ha b hb=>hp.2.2 a (hs.2 a ha) b hb⟩,λy hy=>?_⟩
 rw [tk]
 rcases List.mem_append.mp hy with h | h
 ·exact List.mem_append_left _ (hs.2 y h)
 ·exact List.mem_append_right _ h
theorem Sok.mono {rs rs' s:List Int} (h:Sok rs s) (hs:∀ x∈rs,x∈rs'):Sok rs' s:=⟨h.1,λx hx=>hs x (h.2 x hx)⟩
section
variable {P:Program} {w:World} {K:PySem.W.Frag} {mg:Str->Option Value} {base:Heap}
def Zka:Sp:=λvs H Q _=>∃ (d rl:Addr) (c:Nat) (rs:List Int),vs=[.ref d,.ref rl]/\Pool H d c/\c<800000/\rl≠d/\H rl=some (.lst (rs.map V.int))/\Rds rs /\
 ∀ (l:Addr) (ws:List (Addr×List Int)) (H':Hp),Pk H H' d (c+300)->H l=none->H' l=some (.lst (ws.map λz=>V.ref z.1))->Lz H' ws->(∀ z∈ws,H z.1=none)->(∀ z∈ws,Sok rs z.2)->(ws.map (·.2)).Pairwise (λa b=>Za9 a b=true)->ws.length<=40->Q (.ref l) H'
theorem scFam:ZaA ["pool", "roads", "kind", "found", "road", "turn"] ["pool", "roads"] (Zaf ZiQ):=⟨rfl,rfl,rfl,by decide +kernel,rfl,by decide +kernel,by decide +kernel⟩
theorem Zkb {f fT fS fU fO:Addr} {fd fdT fdS fdU fdO:FuncData} (F:Fun K "_law_family" "_law_family" ZiQ f fd) (FT:Fun K "_law_take" "_law_take" Zfr fT fdT) (bT:Binds K fdT ["pool", "many"] []) (mT:mg "_law_take" = some (.ref fT))
  (FS:Fun K "_law_set" "_law_set" ZhR fS fdS) (bS:Binds K fdS ["pool", "roads"] []) (mS:mg "_law_set" = some (.ref fS)) (FU:Fun K "_law_turned" "_law_turned" ZiP fU fdU) (bU:Binds K fdU ["pool", "one", "roads"] []) (mU:mg "_law_turned" = some (.ref fU))
  (FO:Fun K "_law_once" "_law_once" ZhS fO fdO) (bO:Binds K fdO ["sets"] []) (mO:mg "_law_once" = some (.ref fO)) (mRange:mg "range" = none) (mLen:mg "len" = none) (mInt:mg "int" = none) (mSor:mg "sorted" = none):ZaX P w K mg base CX0 3 f fd ["pool", "roads"] Zka:=by
 have GT:ZaX P w K mg base CX0 1 fT fdT ["pool", "many"] Zey:=Zc3 FT
 have GS:ZaX P w K mg base CX0 2 fS fdS ["pool", "roads"] ZiZ:=ZhV FS FT bT mT
 have GU:ZaX P w K mg base CX0 2 fU fdU ["pool", "one", "roads"] Zj8:=Zj9 FU FT bT mT mLen mInt mSor
 have GO:ZaX P w K mg base CX0 1 fO fdO ["sets"] Zi1:=ZhX FO mSor
 refine F.ok scFam (λvs H Q E h=>?_) (λcdv A outer s H vs Q E hr h=>?_)
 ·obtain ⟨_,_,_,_,rfl,_⟩:=h
  rfl
 ·obtain ⟨d,rl,c,rs,rfl,hP,hc,nrd,er,hrd,q⟩:=h
  have h16:(16777216:Nat)=sizeLine:=sizeLine_eq.symm
  have rl12:=hrd.2.2.2
  refine ⟨_,Zad (Zaj (i:=2) scFam.nd rfl (Or.inl rfl) (Zai GT (hr.mono (by decide)) rfl mT FT.kp bT .nil ZaI (Zaa (pv 0) (Zaa Zae Zac))))
    (Zad (Zbn (Zam Zc7 (pv 2) Zae (Zax _)) (Zah (ZaD (Zak ZhB (Zar (Zaa (Zar Zac) Zac)) (Zai GT (hr.mono (by decide)) rfl mT FT.kp bT .nil ZaI (Zaa (pv 0) (Zaa Zae Zac)))))) ZaK)
    (Zad (Zaj (i:=3) scFam.nd rfl (Or.inl rfl) (Zar Zac))
    (Zad (Zbn (Zam Zc7 (pv 2) Zae (Zax _)) (Zad (Zaj (i:=3) scFam.nd rfl (Or.inl rfl) (Zar (Zaa (Zar Zac) Zac)))
    (Zah (ZbJ PassesOwn.never rfl (ZbG K (ZaH (kSl K) (pv 1) ZaT (ZaL (Zak ZaR Zae (Zai GT (hr.mono (by decide)) rfl mT FT.kp bT .nil ZaI (Zaa (pv 0) (Zaa Zae Zac))))))) (Zal (i:=4) scFam.nd rfl (Or.inr rfl))
    (Zah (Zaj (i:=3) scFam.nd rfl (Or.inl rfl) (Zak ZaO (pv 3) (Zbs (own:=["one"]) rfl (Zaw (fr:=[("road", 4)]) [(".0", .local),("one", .local),("road", .cell)] rfl rfl (by decide +kernel) rfl (by decide +kernel) ⟨rfl,trivial⟩ ⟨λh=>Zbd h,λh=>Zbd h,λ_=>⟨_,rfl⟩,trivial⟩ ⟨⟨rfl,.inl rfl,.inl rfl⟩,trivial⟩) (ZbG K (pv 3)) (λ_ _ _ _=>Zal (i:=0) (show List.Nodup (["one", "road"]:List Str) by decide +kernel) rfl (Or.inl rfl)) (λ_ _ _ _=>Zbz) (λ_ _ _ _=>Zak ZaO (pv 0) (Zar (Zaa (pv 1) Zac)))))))))) ZaK)
    (Zad (ZbJ PassesOwn.never rfl (Zbo rfl mRange (Zaa (Zak ZaR Zae (ZaC (Zbu K) (Zar (Zaa (Zai GT (hr.mono (by decide)) rfl mT FT.kp bT .nil ZaI (Zaa (pv 0) (Zaa Zae Zac))) (Zaa (Zai GT (hr.mono (by decide)) rfl mT FT.kp bT .nil ZaI (Zaa (pv 0) (Zaa Zae Zac))) Zac))) (Zai GT (hr.mono (by decide)) rfl mT FT.kp bT .nil ZaI (Zaa (pv 0) (Zaa Zae Zac))) (λ_ _=>rfl))) Zac)) (Zal (i:=5) scFam.nd rfl (Or.inl rfl))
    (Zad (Zb6 (Zei PySem.F.plainAttrs_list PySem.F.slot_list_append PySem.F.type_list_append Za4 (pv 3) (Zaa (Zai GS (hr.mono (by decide)) rfl mS FS.kp bS .nil ZaI (Zaa (pv 0) (Zaa (pv 1) Zac))) Zac)))
    (Zah (Zbn (Zam Zc7 (Zai GT (hr.mono (by decide)) rfl mT FT.kp bT .nil ZaI (Zaa (pv 0) (Zaa Zae Zac))) Zae (Zax _)) (Zah (Zb6 (Zei PySem.F.plainAttrs_list PySem.F.slot_list_append PySem.F.type_list_append Za4 (pv 3) (Zaa (Zai GU (hr.mono (by decide)) rfl mU FU.kp bU .nil ZaI (Zaa (pv 0) (Zaa (ZaC (Zbu K) (pv 3) (Zai GT (hr.mono (by decide)) rfl mT FT.kp bT .nil ZaI (Zaa (pv 0) (Zaa (Zaq (Zfq K) rfl mLen PySem.boot_len (Zaa (pv 3) Zac)) Zac))) (λ_ _=>rfl)) (Zaa (pv 1) Zac)))) Zac)))) ZaK))))
    (Zah (ZaD (Zai GO (hr.mono (by decide)) rfl mO FO.kp bO .nil ZaI (Zaa (pv 3) Zac)))))))),?_⟩
  refine ⟨_,rfl,d,c,10,rfl,hP,by omega,by decide,ZaQ,λkd H1 a1 b1 k1=>?_⟩
  refine ⟨_,rfl,rfl,_,rfl,Zck (λc1=>?_) (λc1=>?_)⟩
  ·refine ⟨Nat.zero_le _,λe he=>⟨(by show 1<=sizeLine;decide),λp hp=>?_⟩⟩
   have s2:Same H1 (upd (upd H1 e (.lst [])) p (.lst [.ref e])):=(Same.new he).put ((Same.new he).free hp)
   have nep:e≠p:=Zag Zab hp
   have npd:=Ne.symm ((k1.grow (Same.new (o:=.lst []) he)).at_.ne hp)
   have ned:=Ne.symm (k1.at_.ne he)
   refine ⟨_,rfl,d,c+1,2,rfl,k1.at_.same s2,by omega,by decide,ZaQ,λr H2 a2 b2 k2=>?_⟩
   have ep:=k2.keep _ _ npd Zab
   have ee:=k2.keep _ _ ned (Zao (o:=.lst [.ref e]) (Zab (H:=H1) (a:=e) (o:=.lst [])) nep)
   refine ⟨p,r,_,rfl,rfl,ep,by omega,by omega,(by simp;omega),λl hl=>?_⟩
   have K2:=(k1.grow s2).trans k2
   have s3:Same H2 (upd H2 l (.lst (List.replicate r.toNat [V.ref e]).flatten)):=Same.new hl
   have hr01:r=0\/r=1:=by omega
   refine q l (List.replicate r.toNat (e,[])) _ ((K2.grow s3).mono (by omega)) (K2.free hl) ?_ (λz hz=>?_) (λz hz=>?_) (λz hz=>?_) ?_ ?_
   ·rw [Zab]
    rcases hr01 with rfl | rfl <;> rfl
   ·rw [(List.mem_replicate.mp hz).2]
    exact s3 _ _ ee
   ·rw [(List.mem_replicate.mp hz).2]
    exact k1.free he
   ·rw [(List.mem_replicate.mp hz).2]
    exact ⟨List.Pairwise.nil,λx hx=>by cases hx⟩
   ·rcases hr01 with rfl | rfl <;> simp
   ·rw [List.length_replicate]
    omega
  ·dsimp only [Zc6]
   refine ⟨Nat.zero_le _,λfo hfo=>?_⟩
   have F1:Fm H (upd H1 fo (.lst [])) d (c+1) rs fo []:=⟨⟨c,hP⟩,k1.new hfo,k1.free hfo,Zab,λz hz=>(by cases hz),λz hz=>(by cases hz),λz hz=>(by cases hz)⟩
   generalize upd H1 fo (.lst [])=H2 at F1 ⊢
   dsimp only [Za2]
   refine Zat (λσ' H'=>∃ (fo:Addr) (zs:List (Addr×List Int)) (v4:Option V),σ'=[some (.ref d),some (.ref rl),some (.int kd),some (.ref fo),v4,none]/\Fm H H' d (c+2) rs fo zs/\zs.length<=16) ?s0 ?f0
   case f0=>
    intro hk
    refine ⟨_,rfl,rfl,_,rfl,Zck (λc2=>?_) (λc2=>?_)⟩
    ·refine ⟨Nat.zero_le _,λe he=>⟨(by show 1<=sizeLine;decide),λf1 hf1=>?_⟩⟩
     have s2:Same H2 (upd (upd H2 e (.lst [])) f1 (.lst [.ref e])):=(Same.new he).put ((Same.new he).free hf1)
     have nef:e≠f1:=Zag Zab hf1
     have G1:Fm H (upd (upd H2 e (.lst [])) f1 (.lst [.ref e])) d (c+1) (rs.take 0) f1 [(e,[])]:=by
      refine ⟨⟨c,hP⟩,F1.k.grow s2,F1.k.free ((Same.new he).free hf1),Zab,λz hz=>?_,λz hz=>?_,λz hz=>?_⟩
      ·rw [List.mem_singleton.mp hz]
       exact Zao Zab nef
      ·rw [List.mem_singleton.mp hz]
       exact ⟨F1.k.free he,nef⟩
      ·rw [List.mem_singleton.mp hz]
       exact ⟨List.Pairwise.nil,λx hx=>by cases hx⟩
     generalize upd (upd H2 e (.lst [])) f1 (.lst [.ref e])=H3 at G1 ⊢
     dsimp only [Za2]
     refine ⟨_,rfl,_,rfl,d,c+1,4,rfl,G1.k.at_,by omega,by decide,ZaQ,λr H4 a4 b4 k4=>?_⟩
     have G4:=G1.go k4
     have er4:=G4.k.keep _ _ nrd er
     refine ⟨_,_,rfl,rfl,_,rfl,rl,_,rfl,SqL.of er4,λsl hsl=>⟨sl,rfl,⟨_,SqL.of Zab⟩,?_⟩⟩
     have ecut:ZeD (rs.map V.int) none (some (1+r))=(rs.take (1+r).toNat).map V.int:=by
      rw [show (1+r)=(((1+r).toNat:Nat):Int) by omega,ZhD,List.map_take]
      rfl
     rw [ecut]
     have s5:Same H4 (upd H4 sl (.lst ((rs.take (1+r).toNat).map V.int))):=Same.new hsl
     have esl:upd H4 sl (.lst ((rs.take (1+r).toNat).map V.int)) sl=some (.lst ((rs.take (1+r).toNat).map V.int)):=Zab
     have nsd:=Ne.symm (k4.at_.ne hsl)
     have G5:=G4.go ((Pk.start G4.k.at_).grow s5)
     generalize upd H4 sl (.lst ((rs.take (1+r).toNat).map V.int))=H5 at s5 esl G5 ⊢
     have hn4:(1+r).toNat<=4:=by omega
     generalize (1+r).toNat=n at esl hn4 ⊢
     refine Za6 (K:=K) (a:=sl) (xs:=(rs.take n).map V.int) (λi σ H'=>∃ (fo:Addr) (zs:List (Addr×List Int)) (v4:Option V),σ=[some (.ref d),some (.ref rl),some (.int kd),some (.ref fo),v4,none]/\Fm H H' d (c+2) (rs.take i) fo zs/\zs.length=2 ^ i/\H' sl=some (.lst ((rs.take n).map V.int)))
      ⟨f1,[(e,[])],none,rfl,G5,rfl,esl⟩ (λi σ H' _ ⟨_,_,_,_,_,_,e⟩=>SqL.of e) ?_ ?_
     ·rintro i x σ H6 hxi ⟨fo,zs,v4,rfl,F6,hzl,esl6⟩
      obtain ⟨x,rfl,hx⟩:=Zbi hxi
      have hin:i<n:=by
       have:=(List.getElem?_eq_some_iff.mp hx).1
       rw [List.length_take] at this
       omega
      rw [List.getElem?_take_of_lt hin] at hx
      have hp4:2 ^ i<=8:=Nat.pow_le_pow_right (n:=2) (j:=3) (by decide) (show i<=3 by omega)
      dsimp only [Za2]
      refine ⟨_,rfl,_,rfl,fo,rfl,⟨_,SqL.of F6.e⟩,λD hD=>?_⟩
      refine Za0 (K:=K) (a:=fo) (xs:=zs.map λz=>V.ref z.1) (λj ys H'=>∃ us:List (Addr×List Int),ys=(us.map λz=>V.ref z.1)/\Same H6 H'/\H' D=some (.lst ys)/\Lz H' us/\(∀ u∈us,H6 u.1=none/\u.1≠D)/\(∀ u∈us,Sok (rs.take (i+1)) u.2)/\us.length=j)
       ⟨[],rfl,Same.new hD,Zab,λz hz=>(by cases hz),λz hz=>(by cases hz),λz hz=>(by cases hz),rfl⟩ (λj ys H' _ ⟨_,_,s,_⟩=>SqL.of (s _ _ F6.e)) ?_ ?_
      ·rintro j y ys H7 hyj ⟨us,rfl,s7,eD,lu,nu,su,hul⟩
       rw [List.getElem?_map] at hyj
       obtain ⟨z,hz,rfl⟩:=Option.map_eq_some_iff.mp hyj
       have hzm:z∈zs:=List.mem_of_getElem? hz
       have hj:j<zs.length:=(List.getElem?_eq_some_iff.mp hz).1
       refine ⟨⟨rfl,trivial⟩,?_⟩
       unfold Zie
       refine Zeb ?_
       refine ⟨_,rfl,_,rfl,(by show 1<=sizeLine;decide),λp hp=>?_⟩
       have s8:Same H7 (upd H7 p (.lst [.int x])):=Same.new hp
       have hzl2:=(F6.s z hzm).len
       rw [List.length_take] at hzl2
       refine ⟨z.1,p,_,_,rfl,rfl,s8 _ _ (s7 _ _ (F6.l z hzm)),Zab,(by rw [List.length_map,List.length_singleton];omega),λp2 hp2=>?_⟩
       have s9:=s8.put (o:=.lst (z.2.map V.int++[V.int x])) (s8.free hp2)
       have ep2:upd (upd H7 p (.lst [.int x])) p2 (.lst (z.2.map V.int++[V.int x])) p2=some (.lst ((z.2++[x]).map V.int)):=by rw [Zab,List.map_append];rfl
       generalize upd (upd H7 p (.lst [.int x])) p2 (.lst (z.2.map V.int++[V.int x]))=H8 at s9 ep2 ⊢
       have h7p2:H7 p2=none:=s8.free hp2
       have nDp2:D≠p2:=Zag eD h7p2
       refine ⟨s9 _ _ eD,(by rw [List.length_map];omega),us++[(p2,z.2++[x])],by rw [List.map_append];rfl,(s7.trans s9).put hD,Zab,λu hu=>?_,λu hu=>?_,λu hu=>?_,by rw [List.length_append,List.length_singleton,hul]⟩
       ·rcases List.mem_append.mp hu with h | h
        ·exact Zao (s9 _ _ (lu u h)) (nu u h).2
        ·rw [List.mem_singleton.mp h]
         exact Zao ep2 (Ne.symm nDp2)
       ·rcases List.mem_append.mp hu with h | h
        ·exact nu u h
        ·rw [List.mem_singleton.mp h]
         exact ⟨s7.free h7p2,Ne.symm nDp2⟩
       ·rcases List.mem_append.mp hu with h | h
        ·exact su u h
        ·rw [List.mem_singleton.mp h]
         exact Zhp hrd hx (F6.s z hzm)
      ·rintro ys H7 ⟨us,rfl,s7,eD,lu,nu,su,hul⟩
       rw [List.length_map] at hul
       refine ⟨fo,D,_,_,rfl,rfl,s7 _ _ F6.e,eD,(by rw [List.length_map,List.length_map];omega),λf2 hf2=>?_⟩
       have s8:=s7.put (o:=.lst ((zs.map λz=>V.ref z.1)++us.map λz=>V.ref z.1)) (s7.free hf2)
       refine ⟨f2,zs++us,_,rfl,⟨⟨c,hP⟩,F6.k.grow s8,F6.k.free (s7.free hf2),by rw [Zab,List.map_append],λz hz=>?_,λz hz=>?_,λz hz=>?_⟩,by rw [List.length_append,hul,hzl,Nat.pow_succ];omega,s8 _ _ esl6⟩
       ·rcases List.mem_append.mp hz with h | h
        ·exact s8 _ _ (F6.l z h)
        ·exact Zao (lu z h) (Zag (lu z h) hf2)
       ·rcases List.mem_append.mp hz with h | h
        ·exact ⟨(F6.n z h).1,Zag (s7 _ _ (F6.l z h)) hf2⟩
        ·exact ⟨F6.k.free (nu z h).1,Zag (lu z h) hf2⟩
       ·rcases List.mem_append.mp hz with h | h
        ·exact (F6.s z h).mono λx hx=>List.take_subset_take_left _ (Nat.le_succ i) hx
        ·exact su z h
     ·rintro σ H6 ⟨fo,zs,v4,rfl,F6,hzl,esl6⟩
      have hp4:2 ^ ((rs.take n).map V.int).length<=16:=Nat.pow_le_pow_right (n:=2) (j:=4) (by decide) (by rw [List.length_map,List.length_take];omega)
      exact hk _ _ ⟨fo,zs,v4,rfl,⟨F6.p,F6.k,F6.f,F6.e,F6.l,F6.n,λz hz=>(F6.s z hz).mono λx hx=>List.mem_of_mem_take hx⟩,by omega⟩
    ·exact hk _ _ ⟨fo,[],none,rfl,F1.go ((Pk.start F1.k.at_).mono (by omega)),Nat.zero_le _⟩
   clear F1 hfo
   rintro σ' H3 ⟨fo,zs,v4,rfl,F3,hzl⟩
   refine ⟨_,rfl,d,c+2,6,rfl,F3.k.at_,by omega,by decide,ZaQ,λr1 H4 a4 b4 k4=>?_⟩
   refine ⟨_,rfl,d,c+3,12,rfl,k4.at_,by omega,by decide,ZaQ,λr2 H5 a5 b5 k5=>?_⟩
   refine ⟨(by show 2<=sizeLine;decide),λp hp=>?_⟩
   have npd:=Ne.symm (k5.at_.ne hp)
   refine ⟨_,rfl,d,c+4,2,rfl,k5.at_.same (Same.new hp),by omega,by decide,ZaQ,λr3 H6 a6 b6 k6=>?_⟩
   obtain ⟨x,hx,ex⟩:=Zd7 (xs:=[r1,r2]) a6 b6
   have x0:0<=x/\x<12:=by
    simp at hx
    omega
   refine ⟨p,_,_,_,rfl,rfl,SqL.of (k6.keep _ _ npd Zab),ex,_,_,rfl,rfl,_,rfl,by omega,by omega,?_⟩
   have F6:Fm H H6 d (c+5) rs fo zs:=F3.go (((k4.trans k5).new hp).trans k6)
   refine ZdE (lo:=0) (λi σ H'=>∃ (zs:List (Addr×List Int)) (v5:Option V),σ=[some (.ref d),some (.ref rl),some (.int kd),some (.ref fo),v4,v5]/\Fm H H' d (c+5+16 * i) rs fo zs/\zs.length<=16+2 * i) ⟨zs,none,rfl,F6,by omega⟩ ?_ ?_
   ·clear F6 F3 hzl zs
    rintro i σ H7 hi ⟨zs,v5,rfl,F7,hzl⟩
    have hi':i<12:=by omega
    have er7:=F7.k.keep _ _ nrd er
    dsimp only [Za2]
    refine Zat (λσ' H'=>∃ (zs:List (Addr×List Int)),σ'=[some (.ref d),some (.ref rl),some (.int kd),some (.ref fo),v4,some (.int (0+(i:Int)))]/\Fm H H' d (c+5+16 * i+13) rs fo zs/\zs.length<=16+2 * i+1/\zs≠[]) ?s1 ?f1
    case f1=>
     intro hk
     refine ⟨_,rfl,.inl ⟨rfl,_,SqL.of F7.e⟩,_,rfl,_,rfl,d,rl,c+5+16 * i,rs,rfl,F7.k.at_,by omega,nrd,er7,rl12,λl ss H8 k8 hl el sb=>?_⟩
     refine ⟨fo,_,_,rfl,rfl,k8.keep _ _ F7.nd F7.e,(by rw [List.length_map];omega),?_⟩
     exact hk _ _ ⟨_,rfl,F7.add k8 hl el (Sok.sub hrd sb),by rw [List.length_append,List.length_singleton];omega,by simp⟩
    clear F7 er7 hzl zs
    rintro σ' H8 ⟨zs,rfl,F8,hzl,hz0⟩
    have zl0:0<zs.length:=List.length_pos_iff.mpr hz0
    refine ⟨_,rfl,d,c+5+16 * i+13,3,rfl,F8.k.at_,by omega,by decide,ZaQ,λr H9 a9 b9 k9=>⟨rfl,_,rfl,Zck (λc2=>?_) (λc2=>?_)⟩⟩
    ·have F9:=F8.go k9
     refine ⟨_,rfl,.inl ⟨rfl,_,SqL.of F9.e⟩,_,rfl,_,rfl,_,rfl,_,rfl,fo,_,rfl,.inl (SqL.of F9.e),d,c+5+16 * i+14,_,rfl,F9.k.at_,by omega,by rw [List.length_map];omega,Lt2.mono (p:=6) (by rw [List.length_map];show (zs.length:Int).natAbs<2 ^ 6;omega) (by decide),λr' H10 a10 b10 k10=>?_⟩
     have F10:=F9.go k10
     rw [List.length_map] at b10
     obtain ⟨kk,rfl⟩:=Int.eq_ofNat_of_zero_le a10
     have hkk:kk<zs.length:=by omega
     have hzm:zs[kk]∈zs:=List.getElem_mem hkk
     refine ⟨fo,_,_,.ref zs[kk].1,rfl,rfl,SqL.of F10.e,Zan (j:=kk) (by rw [List.getElem?_map,List.getElem?_eq_getElem hkk];rfl),_,rfl,d,zs[kk].1,rl,c+5+16 * i+15,zs[kk].2,rs,rfl,F10.k.at_,by omega,F10.nz _ hzm,nrd,F10.l _ hzm,F10.k.keep _ _ nrd er,hrd,F10.s _ hzm,λl ss H11 k11 hl el so=>?_⟩
     refine ⟨fo,_,_,rfl,rfl,k11.keep _ _ F10.nd F10.e,(by rw [List.length_map];omega),?_⟩
     exact ⟨_,_,rfl,(F10.add k11 hl el so).go ((Pk.start (F10.add k11 hl el so).k.at_).mono (by omega)),by rw [List.length_append,List.length_singleton];omega⟩
    ·exact ⟨zs,_,rfl,F8.go (k9.mono (by omega)),by omega⟩
   ·rintro σ H7 ⟨zs,v5,rfl,F7,hzl⟩
    refine ⟨_,rfl,fo,zs,rfl,F7.e,F7.l,by omega,λa ws H8 s8 ha ea sub so al ln=>?_⟩
    exact q a ws H8 ((F7.k.grow s8).mono (by omega)) (F7.k.free ha) ea (λz hz=>s8 _ _ (F7.l z (sub z hz))) (λz hz=>(F7.n z (sub z hz)).1) (λz hz=>F7.s z (sub z hz)) so (by omega)
end
end M
namespace M
open PySem L2
abbrev Fml:=List (List Int)
def Zbl (r:Int) (F:Fml):Fml:=F.filter λs=>decide (s.head?≠some r)
def Zay (r:Int) (F:Fml):Fml:=(F.filter λs=>decide (s.head?=some r)).map List.tail
def wt (F:Fml):Nat:=(F.map List.length).sum
theorem Zbj (r:Int):∀ F:Fml,wt (Zbl r F)+wt (Zay r F)+(Zay r F).length=wt F
 | []=>rfl
 | s::F=>by
  have ih:=Zbj r F
  unfold wt Zbl Zay at ih ⊢
  cases s with
  | nil=>simpa using ih
  | cons x s=>
   by_cases h:x=r
   ·subst h
    simp at ih ⊢
    omega
   ·simp [h] at ih ⊢
    omega
structure FamOk (F:Fml):Prop where
 nd:F.Nodup
 up:∀ s∈F,s.Pairwise (· < ·)
 rg:∀ s∈F,∀ x∈s,0<=x/\x<30
theorem mem_high {r:Int} {F:Fml} {s:List Int}:s∈Zay r F↔(r::s)∈F:=by
 unfold Zay
 rw [List.mem_map]
 constructor
 ·rintro ⟨u,hu,rfl⟩
  obtain ⟨h1,h2⟩:=List.mem_filter.mp hu
  cases u with
  | nil=>simp at h2
  | cons x u=>simp at h2;subst h2;exact h1
 ·intro h
  exact ⟨r::s,List.mem_filter.mpr ⟨h,by simp⟩,rfl⟩
theorem mem_low {r:Int} {F:Fml} {s:List Int}:s∈Zbl r F↔(s∈F/\s.head?≠some r):=by
 unfold Zbl
 rw [List.mem_filter]
 simp
theorem FamOk.low {F:Fml} (h:FamOk F) (r:Int):FamOk (Zbl r F):=⟨h.nd.filter _,λs hs=>h.up s (mem_low.mp hs).1,λs hs=>h.rg s (mem_low.mp hs).1⟩
theorem Zc4 (r:Int):∀ F:Fml,F.Nodup->(Zay r F).Nodup
 | [],_=>List.nodup_nil
 | s::F,h=>by
  obtain ⟨h1,h2⟩:=List.nodup_cons.mp h
  have ih:=Zc4 r F h2
  cases s with
  | nil=>simpa [Zay] using ih
  | cons x s=>
   by_cases e:x=r
   ·subst e
    have:Zay x ((x::s)::F)=s::Zay x F:=by simp [Zay]
    rw [this]
    exact List.nodup_cons.mpr ⟨λz=>h1 (mem_high.mp z),ih⟩
   ·have:Zay r ((x::s)::F)=Zay r F:=by simp [Zay,e]
    rw [this]
    exact ih
theorem FamOk.high {F:Fml} (h:FamOk F) (r:Int):FamOk (Zay r F):=⟨Zc4 r F h.nd,λs hs=>(List.pairwise_cons.mp (h.up _ (mem_high.mp hs))).2,λs hs x hx=>h.rg _ (mem_high.mp hs) x (List.mem_cons_of_mem _ hx)⟩
def Inner (F:Fml):Prop:=F≠[]/\F≠[[]]
theorem Inner.ex {F:Fml} (h:Inner F) (nd:F.Nodup):∃ x s,(x::s)∈F:=by
 cases F with
 | nil=>exact absurd rfl h.1
 | cons s F=>
  cases s with
  | cons x s=>exact ⟨x,s,List.mem_cons_self ..⟩
  | nil=>
   cases F with
   | nil=>exact absurd rfl h.2
   | cons u F=>
    cases u with
    | nil=>simp at nd
    | cons x u=>exact ⟨x,u,by simp⟩
theorem Zkc {F:Fml} (h:Inner F) (nd:F.Nodup):1<=wt F:=by
 obtain ⟨x,s,hm⟩:=h.ex nd
 have:=Zbj x F
 have h1:0<(Zay x F).length:=List.length_pos_iff.mpr (List.ne_nil_of_mem (mem_high.mpr hm))
 omega
def Zhq (r:Int) (F:Fml):Prop:=(∃ s,(r::s)∈F)/\∀ x s,(x::s)∈F->r<=x
def Num (R:List Fml) (G:Fml) (c:Int):Prop:=(G=[]/\c=0)\/(G=[[]]/\c=1)\/∃ i:Nat,R[i]?=some G/\c=(i:Int)+2
theorem Num.app {R:List Fml} {G:Fml} {c:Int} (h:Num R G c) (S:List Fml):Num (R++S) G c:=by
 rcases h with h | h | ⟨i,h,e⟩
 ·exact .inl h
 ·exact .inr (.inl h)
 ·exact .inr (.inr ⟨i,by rw [List.getElem?_append_left (List.getElem?_eq_some_iff.mp h).1];exact h,e⟩)
def Zd9 (R:List Fml) (F:Fml) (r:Tri):Prop:=Zhq r.1 F/\Num R (Zbl r.1 F) r.2.1/\Num R (Zay r.1 F) r.2.2
structure Rw (F0:Fml) (R:List Fml) (ts:List Tri) (W:Nat):Prop where
 ok:∀ F∈R,FamOk F/\Inner F
 nd:∀ (i:Nat) (r:Tri),ts[i]?=some r->∃ F,R[i]?=some F/\Zd9 R F r
 ln:ts.length<=R.length
 z:R[0]?=some F0
 we:ts.length+((R.drop ts.length).map wt).sum<=W
theorem ZhY {R:List Fml} (h:∀ F∈R,FamOk F/\Inner F):R.length<=(R.map wt).sum:=by
 induction R with
 | nil=>exact Nat.le_refl _
 | cons F R ih=>
  have h1:=ih λG hG=>h G (List.mem_cons_of_mem _ hG)
  have h2:=Zkc (h F (List.mem_cons_self ..)).2 (h F (List.mem_cons_self ..)).1.nd
  simp
  omega
theorem Rw.start {F:Fml} (h:FamOk F) (i:Inner F):Rw F [F] [] (wt F):=⟨λG hG=>by rw [List.mem_singleton.mp hG];exact ⟨h,i⟩,λi r e=>(by simp at e),Nat.zero_le _,rfl,by simp⟩
theorem Rw.len {F0:Fml} {R:List Fml} {ts:List Tri} {W:Nat} (h:Rw F0 R ts W):R.length<=W:=by
 have h1:=ZhY (R:=R.drop ts.length) λF hF=>h.ok F (List.mem_of_mem_drop hF)
 rw [List.length_drop] at h1
 have:=h.ln
 have:=h.we
 omega
theorem Rw.step {F0 F:Fml} {R S:List Fml} {ts:List Tri} {W:Nat} {r:Tri} (h:Rw F0 R ts W) (hF:R[ts.length]?=some F) (hS:∀ G∈S,FamOk G/\Inner G) (hw:(S.map wt).sum<=wt (Zbl r.1 F)+wt (Zay r.1 F)) (n:Zd9 (R++S) F r):Rw F0 (R++S) (ts++[r]) W:=by
 obtain ⟨hl,eF⟩:=List.getElem?_eq_some_iff.mp hF
 have hs:=Zbj r.1 F
 have h1:0<(Zay r.1 F).length:=by
  obtain ⟨s,hs⟩:=n.1.1
  exact List.length_pos_iff.mpr (List.ne_nil_of_mem (mem_high.mpr hs))
 refine ⟨λG hG=>?_,λi q e=>?_,?_,?_,?_⟩
 ·rcases List.mem_append.mp hG with hG | hG
  ·exact h.ok G hG
  ·exact hS G hG
 ·by_cases hi:i<ts.length
  ·rw [List.getElem?_append_left hi] at e
   obtain ⟨G,g1,g2,g3,g4⟩:=h.nd i q e
   exact ⟨G,by rw [List.getElem?_append_left (by omega)];exact g1,g2,g3.app S,g4.app S⟩
  ·have hi2:=(List.getElem?_eq_some_iff.mp e).1
   rw [List.length_append,List.length_singleton] at hi2
   have:i=ts.length:=by omega
   subst this
   rw [List.getElem?_append_right (Nat.le_refl _),Nat.sub_self] at e
   cases e
   exact ⟨F,by rw [List.getElem?_append_left hl];exact hF,n⟩
 ·rw [List.length_append,List.length_append,List.length_singleton]
  omega
 ·rw [List.getElem?_append_left (by omega)]
  exact h.z
 ·have hw2:=h.we
  rw [List.drop_eq_getElem_cons hl,eF,List.map_cons,List.sum_cons] at hw2
  rw [List.length_append,List.length_singleton,List.drop_append_of_le_length (by omega),List.map_append,List.sum_append]
  omega
theorem Rw.meas {F0 F:Fml} {R S:List Fml} {ts:List Tri} {W:Nat} {r:Tri} (h:Rw F0 R ts W) (hF:R[ts.length]?=some F) (hw:(S.map wt).sum<=wt (Zbl r.1 F)+wt (Zay r.1 F)) (n:Zhq r.1 F):(((R++S).drop (ts++[r]).length).map wt).sum<((R.drop ts.length).map wt).sum:=by
 obtain ⟨hl,eF⟩:=List.getElem?_eq_some_iff.mp hF
 have hs:=Zbj r.1 F
 have h1:0<(Zay r.1 F).length:=by
  obtain ⟨s,hs⟩:=n.1
  exact List.length_pos_iff.mpr (List.ne_nil_of_mem (mem_high.mpr hs))
 rw [List.drop_eq_getElem_cons hl,eF,List.map_cons,List.sum_cons,List.length_append,List.length_singleton,List.drop_append_of_le_length (by omega),List.map_append,List.sum_append]
 omega
theorem ZgK {R:List Fml} {ts:List Tri} (hl:ts.length=R.length) (nd:∀ (i:Nat) (r:Tri),ts[i]?=some r->∃ F,R[i]?=some F/\Zd9 R F r) {G:Fml} {c lo:Int} (h:Num R G c) (hlo:∀ x s,(x::s)∈G->lo<x):At ts c lo:=by
 rcases h with h | h | ⟨i,h,rfl⟩
 ·exact .inl h.2
 ·exact .inr (.inl h.2)
 ·have hi:i<ts.length:=by rw [hl];exact (List.getElem?_eq_some_iff.mp h).1
  obtain ⟨F,g1,g2,_⟩:=nd i ts[i] (List.getElem?_eq_getElem hi)
  rw [h] at g1
  cases g1
  obtain ⟨s,hs⟩:=g2.1
  exact .inr (.inr ⟨ts[i],⟨by omega,by rw [show ((i:Int)+2-2).toNat=i by omega];exact List.getElem?_eq_getElem hi⟩,hlo _ s hs⟩)
theorem Zi2 {R:List Fml} {ts:List Tri} (hl:ts.length=R.length) (nd:∀ (i:Nat) (r:Tri),ts[i]?=some r->∃ F,R[i]?=some F/\Zd9 R F r):∀ (n:Nat) {G:Fml} {c:Int},wt G<=n->Num R G c->∀ s,Has ts c s↔s∈G:=by
 intro n
 induction n with
 | zero=>
  intro G c hw h s
  rcases h with ⟨rfl,rfl⟩ | ⟨rfl,rfl⟩ | ⟨i,h,rfl⟩
  ·exact ⟨λz=>absurd z Has.zero,λz=>by cases z⟩
  ·rw [Has.at1];simp
  ·have hi:i<ts.length:=by rw [hl];exact (List.getElem?_eq_some_iff.mp h).1
   obtain ⟨F,g1,g2,_⟩:=nd i ts[i] (List.getElem?_eq_getElem hi)
   rw [h] at g1
   cases g1
   obtain ⟨s,hs⟩:=g2.1
   have h0:=Zbj ts[i].1 G
   have h1:0<(Zay ts[i].1 G).length:=List.length_pos_iff.mpr (List.ne_nil_of_mem (mem_high.mpr hs))
   omega
 | succ n ih=>
  intro G c hw h s
  rcases h with ⟨rfl,rfl⟩ | ⟨rfl,rfl⟩ | ⟨i,h,rfl⟩
  ·exact ⟨λz=>absurd z Has.zero,λz=>by cases z⟩
  ·rw [Has.at1];simp
  ·have hi:i<ts.length:=by rw [hl];exact (List.getElem?_eq_some_iff.mp h).1
   obtain ⟨F,g1,g2,g3,g4⟩:=nd i ts[i] (List.getElem?_eq_getElem hi)
   rw [h] at g1
   cases g1
   have nn:Nd ts ((i:Int)+2) ts[i]:=⟨by omega,by rw [show ((i:Int)+2-2).toNat=i by omega];exact List.getElem?_eq_getElem hi⟩
   generalize ts[i]=r at g2 g3 g4 nn
   obtain ⟨s0,hs0⟩:=g2.1
   have h0:=Zbj r.1 G
   have h1:0<(Zay r.1 G).length:=List.length_pos_iff.mpr (List.ne_nil_of_mem (mem_high.mpr hs0))
   have i1:=ih (by omega) g3
   have i2:=ih (by omega) g4
   cases s with
   | nil=>
    rw [Has.nil nn,i1,mem_low]
    exact ⟨λz=>z.1,λz=>⟨z,by simp⟩⟩
   | cons x xs=>
    rw [Has.cons nn,i1,i2,mem_low,mem_high]
    constructor
    ·rintro (z | ⟨rfl,z⟩)
     ·exact z.1
     ·exact z
    ·intro z
     by_cases e:x=r.1
     ·subst e
      exact .inr ⟨rfl,z⟩
     ·exact .inl ⟨z,by simp [e]⟩
theorem Zkd {F:Fml} {r:Int} (h:Zhq r F):∀ x s,(x::s)∈Zbl r F->r<x:=λx s hs=>by
 obtain ⟨h1,h2⟩:=mem_low.mp hs
 have:=h.2 x s h1
 have:x≠r:=λe=>h2 (by rw [e];rfl)
 omega
theorem Zi3 {F:Fml} {r:Int} (ok:FamOk F):∀ x s,(x::s)∈Zay r F->r<x:=λx s hs=>(List.pairwise_cons.mp (ok.up _ (mem_high.mp hs))).1 x (List.mem_cons_self ..)
theorem Rw.fin {F0:Fml} {R:List Fml} {ts:List Tri} {W:Nat} (h:Rw F0 R ts W) (hl:ts.length=R.length):TabOk ts/\At ts 2 (-1)/\∀ s,Has ts 2 s↔s∈F0:=by
 have n0:Num R F0 2:=.inr (.inr ⟨0,h.z,by omega⟩)
 have ok0:=h.ok F0 (List.mem_of_getElem? h.z)
 refine ⟨λi r e=>?_,ZgK hl h.nd n0 (λx s hs=>by have:=ok0.1.rg _ hs x (List.mem_cons_self ..);omega),Zi2 hl h.nd _ (Nat.le_refl _) n0⟩
 obtain ⟨F,g1,g2,g3,g4⟩:=h.nd i r e
 have okF:=(h.ok F (List.mem_of_getElem? g1)).1
 refine ⟨?_,ZgK hl h.nd g3 (Zkd g2),ZgK hl h.nd g4 (Zi3 okF)⟩
 obtain ⟨s,hs⟩:=g2.1
 exact okF.rg _ hs r.1 (List.mem_cons_self ..)
end M
namespace M
open PySem L2
def TpsAt (H:Hp) (F:Fml) (cs:List Addr):Prop:=Paired (λ(s:List Int) (c:Addr)=>H c=some (.tup (s.map V.int))) F cs
def FamAt (H:Hp) (a:Addr) (F:Fml):Prop:=∃ cs,H a=some (.lst (cs.map V.ref))/\TpsAt H F cs
section
variable {H H':Hp} {F:Fml} {cs:List Addr} {a:Addr}
theorem TpsAt.keep (x:TpsAt H F cs) (t:∀ p ys,H p=some (.tup ys)->H' p=some (.tup ys)):TpsAt H' F cs:=Paired.mapP x λ_ _ z=>t _ _ z
theorem TpsAt.dats {K:PySem.W.Frag} (x:TpsAt H F cs):DatVs K H (cs.map V.ref) (F.map Zbm):=by
 induction x with
 | nil=>exact .nil
 | cons e _ ih=>exact .cons (.tup (SqT.of e) (ZaE _)) ih
theorem FamAt.keep (x:FamAt H a F) (t:∀ p ys,H p=some (.tup ys)->H' p=some (.tup ys)) (l:∀ ys,H a=some (.lst ys)->H' a=some (.lst ys)):FamAt H' a F:=by
 obtain ⟨cs,h1,h2⟩:=x
 exact ⟨cs,l _ h1,h2.keep t⟩
theorem FamAt.same (x:FamAt H a F) (s:Same H H'):FamAt H' a F:=x.keep (λp ys e=>s _ _ e) λys e=>s _ _ e
end
theorem ZaF (F:Fml):SeqAt.shaped (.list (F.map Zbm))=true:=by
 unfold SeqAt.shaped
 rw [Bool.and_eq_true]
 refine ⟨by simp only [PyData.canLay0];exact Zcr F,decide_eq_true ?_⟩
 have:=Zce F
 simp only [PyData.depth]
 omega
theorem Zb4 (F G:Fml):PyData.eqv (.list (F.map Zbm)) (.list (G.map Zbm))=decide (F=G):=by
 simp only [PyData.eqv,ZbR]
theorem ZaZ (s:List Int):SeqAt.shaped (Zbm s)=true:=by
 unfold SeqAt.shaped
 rw [Bool.and_eq_true]
 refine ⟨ZeZ s,decide_eq_true ?_⟩
 have:=Zbe s
 simp only [Zbm,PyData.depth]
 omega
theorem Paired.get {α β:Type} {F:α->β->Prop} {l:List α} {m:List β} (h:Paired F l m):∀ {i:Nat} {a:α},l[i]?=some a->∃ b,m[i]?=some b/\F a b:=by
 induction h with
 | nil=>intro i a e;simp at e
 | @cons x y l m r _ ih=>
  intro i a e
  cases i with
  | zero=>simp at e;subst e;exact ⟨y,by simp,r⟩
  | succ i=>simp at e;obtain ⟨b,h1,h2⟩:=ih e;exact ⟨b,by simpa using h1,h2⟩
theorem Paired.get' {α β:Type} {F:α->β->Prop} {l:List α} {m:List β} (h:Paired F l m):∀ {i:Nat} {b:β},m[i]?=some b->∃ a,l[i]?=some a/\F a b:=by
 induction h with
 | nil=>intro i a e;simp at e
 | @cons x y l m r _ ih=>
  intro i a e
  cases i with
  | zero=>simp at e;subst e;exact ⟨x,by simp,r⟩
  | succ i=>simp at e;obtain ⟨b,h1,h2⟩:=ih e;exact ⟨b,by simpa using h1,h2⟩
theorem ZcH {H H':Hp} {R:List Fml} {al:List Addr} (h:Paired (λF a=>FamAt H a F) R al) (t:∀ p ys,H p=some (.tup ys)->H' p=some (.tup ys)) (l:∀ a∈al,∀ ys,H a=some (.lst ys)->H' a=some (.lst ys)):Paired (λF a=>FamAt H' a F) R al:=by
 induction h with
 | nil=>exact .nil
 | @cons x y m n r _ ih=>exact .cons (r.keep t (l y (List.mem_cons_self ..))) (ih λz hz=>l z (List.mem_cons_of_mem _ hz))
def KvR (kvs:TTs) (R:List Fml):Prop:=kvs.length=R.length/\∀ (i:Nat) p,kvs[i]?=some p->R[i]?=some p.1/\p.2.2=.int ((i:Int)+2)
theorem KvR.some {kvs:TTs} {R:List Fml} (h:KvR kvs R) {k:Fml} {v:V} (e:Zc2 kvs k=some v):∃ i:Nat,R[i]?=some k/\v=.int ((i:Int)+2):=by
 unfold Zc2 at e
 obtain ⟨p,hp,rfl⟩:=Option.map_eq_some_iff.mp e
 have h1:=List.find?_some hp
 obtain ⟨i,hi⟩:=List.mem_iff_getElem?.mp (List.mem_of_find?_eq_some hp)
 obtain ⟨h2,h3⟩:=h.2 i p hi
 exact ⟨i,by rw [h2,of_decide_eq_true h1],h3⟩
theorem KvR.snoc {kvs:TTs} {R:List Fml} (h:KvR kvs R) (k:Fml) (b:Addr):KvR (kvs++[(k,b,.int ((R.length:Int)+2))]) (R++[k]):=by
 refine ⟨by rw [List.length_append,List.length_append,h.1];rfl,λi p e=>?_⟩
 by_cases hi:i<kvs.length
 ·rw [List.getElem?_append_left hi] at e
  obtain ⟨h1,h2⟩:=h.2 i p e
  exact ⟨by rw [List.getElem?_append_left (by rw [<-h.1];exact hi)];exact h1,h2⟩
 ·have hi2:=(List.getElem?_eq_some_iff.mp e).1
  rw [List.length_append,List.length_singleton] at hi2
  have:i=kvs.length:=by omega
  subst this
  rw [List.getElem?_append_right (Nat.le_refl _),Nat.sub_self] at e
  cases e
  refine ⟨?_,by rw [h.1]⟩
  rw [h.1,List.getElem?_append_right (Nat.le_refl _),Nat.sub_self]
  rfl
theorem ZgL {kvs:TTs} {k:Fml} {b:Addr} {v:V} (h:Zc2 kvs k=none):Zc2 (kvs++[(k,b,v)]) k=some v:=by
 unfold Zc2 at h ⊢
 rw [List.find?_append,Option.map_eq_none_iff.mp h]
 simp
structure Li (P:Program) (w:World) (H0 H:Hp) (rw fd nl:Addr) (R:List Fml) (al:List Addr) (kvs:TTs) (xs:List V) (ts:List Tri):Prop where
 s:Same H0 H
 er:H rw=some (.lst (al.map V.ref))
 fr:Paired (λF a=>FamAt H a F) R al
 na:∀ a∈al,a≠rw/\a≠nl
 ed:H fd=some (dtt P w fd kvs)
 ks:KeysTT H kvs
 kr:KvR kvs R
 en:H nl=some (.lst xs)
 tr:Trs H xs ts
 f1:H0 rw=none
 f2:H0 fd=none
 f3:H0 nl=none
 ne:rw≠nl
section
variable {P:Program} {w:World} {H0 H H':Hp} {rw fd nl a b t q:Addr} {R:List Fml} {al:List Addr} {kvs:TTs} {xs ys zs:List V} {ts:List Tri} {G:Fml}
theorem Li.grow (L:Li P w H0 H rw fd nl R al kvs xs ts) (s:Same H H'):Li P w H0 H' rw fd nl R al kvs xs ts:=
 ⟨L.s.trans s,s _ _ L.er,Paired.mapP L.fr λ_ _ z=>z.same s,L.na,s _ _ L.ed,L.ks.keep λp ys e=>s _ _ e,L.kr,s _ _ L.en,L.tr.same s,L.f1,L.f2,L.f3,L.ne⟩
theorem Li.len (L:Li P w H0 H rw fd nl R al kvs xs ts):al.length=R.length:=L.fr.length.symm
theorem Li.row (L:Li P w H0 H rw fd nl R al kvs xs ts) (hb:KeyTT H b G) (ha:FamAt H a G) (n1:a≠rw) (n2:a≠nl) :
  Li P w H0 (upd (upd H fd (dtt P w fd (kvs++[(G,b,.int ((R.length:Int)+2))]))) rw (.lst (al.map V.ref++[.ref a]))) rw fd nl (R++[G]) (al++[a]) (kvs++[(G,b,.int ((R.length:Int)+2))]) xs ts:=by
 have nfr:rw≠fd:=Zb5 L.er L.ed (λz=>by cases z)
 have nfn:nl≠fd:=Zb5 L.en L.ed (λz=>by cases z)
 have t1:∀ p ys,H p=some (.tup ys)->upd (upd H fd (dtt P w fd (kvs++[(G,b,.int ((R.length:Int)+2))]))) rw (.lst (al.map V.ref++[.ref a])) p=some (.tup ys):=λp ys e=>Zao (Zao e (Zb5 e L.ed (λz=>by cases z))) (Zb5 e L.er (λz=>by cases z))
 have l1:∀ c,c≠rw->∀ ys,H c=some (.lst ys)->upd (upd H fd (dtt P w fd (kvs++[(G,b,.int ((R.length:Int)+2))]))) rw (.lst (al.map V.ref++[.ref a])) c=some (.lst ys):=λc hc ys e=>Zao (Zao e (Zb5 e L.ed (λz=>by cases z))) hc
 refine ⟨(L.s.put L.f2).put L.f1,by rw [Zab,List.map_append];rfl,?_,λc hc=>?_,Zao Zab (Ne.symm nfr),λp hp=>?_,L.kr.snoc G b,l1 nl (Ne.symm L.ne) _ L.en,L.tr.keep t1,L.f1,L.f2,L.f3,L.ne⟩
 ·exact Paired.snoc (ZcH L.fr t1 λc hc=>l1 c (L.na c hc).1) (ha.keep t1 (l1 a n1))
 ·rcases List.mem_append.mp hc with h | h
  ·exact L.na c h
  ·rw [List.mem_singleton.mp h]
   exact ⟨n1,n2⟩
 ·rcases List.mem_append.mp hp with h | h
  ·exact (L.ks p h).keep t1
  ·rw [List.mem_singleton.mp h]
   exact hb.keep t1
theorem Li.other (L:Li P w H0 H rw fd nl R al kvs xs ts) (hq:H q=some (.lst ys)) (f:H0 q=none) (n1:q≠rw) (n2:q≠nl) (n3:∀ a∈al,a≠q):Li P w H0 (upd H q (.lst zs)) rw fd nl R al kvs xs ts:=by
 have t1:∀ p us,H p=some (.tup us)->upd H q (.lst zs) p=some (.tup us):=ZbB hq
 refine ⟨L.s.put f,Zao L.er (Ne.symm n1),?_,L.na,Zao L.ed (Zb5 L.ed hq (λz=>by cases z)),L.ks.keep t1,L.kr,Zao L.en (Ne.symm n2),L.tr.keep t1,L.f1,L.f2,L.f3,L.ne⟩
 exact ZcH L.fr t1 λc hc us e=>Zao e (n3 c hc)
theorem Li.node {r:Tri} (L:Li P w H0 H rw fd nl R al kvs xs ts) (et:H t=some (.tup [.int r.1,.int r.2.1,.int r.2.2])):Li P w H0 (upd H nl (.lst (xs++[.ref t]))) rw fd nl R al kvs (xs++[.ref t]) (ts++[r]):=by
 have t1:∀ p us,H p=some (.tup us)->upd H nl (.lst (xs++[.ref t])) p=some (.tup us):=ZbB L.en
 refine ⟨L.s.put L.f3,Zao L.er L.ne,?_,L.na,Zao L.ed (Zb5 L.ed L.en (λz=>by cases z)),L.ks.keep t1,L.kr,Zab,(L.tr.keep t1).snoc (t1 _ _ et),L.f1,L.f2,L.f3,L.ne⟩
 exact ZcH L.fr t1 λc hc us e=>Zao e (L.na c hc).2
end
theorem KvR.none {kvs:TTs} {R:List Fml} (h:KvR kvs R) {G:Fml} (hR:∀ F∈R,Inner F) (hG:¬ Inner G):Zc2 kvs G=none:=by
 cases e:Zc2 kvs G with
 | none=>rfl
 | some v=>
  obtain ⟨i,hi,_⟩:=h.some e
  exact absurd (hR G (List.mem_of_getElem? hi)) hG
structure Tn (P:Program) (w:World) (H0 H:Hp) (rw fd nl nb pl lo hi:Addr) (R0:List Fml) (G1 G2:Fml) (xs:List V) (ts:List Tri) (wb:Nat) (Gd S:List Fml) (al:List Addr) (kvs:TTs) (cs:List Int):Prop where
 L:Li P w H0 H rw fd nl (R0++S) al kvs xs ts
 eb:H nb=some (.lst (cs.map V.int))
 ep:H pl=some (.lst [.ref lo,.ref hi])
 fl:FamAt H lo G1
 fh:FamAt H hi G2
 ok:∀ G∈S,FamOk G/\Inner G
 wS:(S.map wt).sum<=wb
 nm:∀ (j:Nat) G,Gd[j]?=some G->∃ c,cs[j]?=some c/\Num (R0++S) G c
 cl:cs.length=Gd.length
 nab:∀ a∈al,a≠nb/\a≠pl
section
variable {P:Program} {w:World} {H0 H H':Hp} {rw fd nl nb pl lo hi a b:Addr} {R0 Gd S:List Fml} {G1 G2 G:Fml} {al:List Addr} {kvs:TTs} {xs:List V} {ts:List Tri} {cs:List Int} {wb:Nat} {c:Int}
theorem Tn.grow (T:Tn P w H0 H rw fd nl nb pl lo hi R0 G1 G2 xs ts wb Gd S al kvs cs) (s:Same H H'):Tn P w H0 H' rw fd nl nb pl lo hi R0 G1 G2 xs ts wb Gd S al kvs cs:=
 ⟨T.L.grow s,s _ _ T.eb,s _ _ T.ep,T.fl.same s,T.fh.same s,T.ok,T.wS,T.nm,T.cl,T.nab⟩
theorem Tn.row (T:Tn P w H0 H rw fd nl nb pl lo hi R0 G1 G2 xs ts wb Gd S al kvs cs) (hb:KeyTT H b G) (ha:FamAt H a G) (n1:a≠rw) (n2:a≠nl) (n3:a≠nb) (n4:a≠pl) (m1:nb≠rw) (m2:pl≠rw) (m3:lo≠rw) (m4:hi≠rw) (hG:FamOk G/\Inner G) :
  Tn P w H0 (upd (upd H fd (dtt P w fd (kvs++[(G,b,.int (((R0++S).length:Int)+2))]))) rw (.lst (al.map V.ref++[.ref a]))) rw fd nl nb pl lo hi R0 G1 G2 xs ts (wb+wt G) Gd (S++[G]) (al++[a]) (kvs++[(G,b,.int (((R0++S).length:Int)+2))]) cs:=by
 have t1:∀ p ys,H p=some (.tup ys)->upd (upd H fd (dtt P w fd (kvs++[(G,b,.int (((R0++S).length:Int)+2))]))) rw (.lst (al.map V.ref++[.ref a])) p=some (.tup ys):=λp ys e=>Zao (Zao e (Zb5 e T.L.ed (λz=>by cases z))) (Zb5 e T.L.er (λz=>by cases z))
 have l1:∀ c,c≠rw->∀ ys,H c=some (.lst ys)->upd (upd H fd (dtt P w fd (kvs++[(G,b,.int (((R0++S).length:Int)+2))]))) rw (.lst (al.map V.ref++[.ref a])) c=some (.lst ys):=λc hc ys e=>Zao (Zao e (Zb5 e T.L.ed (λz=>by cases z))) hc
 refine ⟨by rw [<-List.append_assoc];exact T.L.row hb ha n1 n2,l1 _ m1 _ T.eb,l1 _ m2 _ T.ep,T.fl.keep t1 (l1 _ m3),T.fh.keep t1 (l1 _ m4),λF hF=>?_,?_,λj F hj=>?_,T.cl,λx hx=>?_⟩
 ·rcases List.mem_append.mp hF with h | h
  ·exact T.ok F h
  ·rw [List.mem_singleton.mp h]
   exact hG
 ·rw [List.map_append,List.sum_append]
  have:=T.wS
  simp
  omega
 ·obtain ⟨c,h1,h2⟩:=T.nm j F hj
  exact ⟨c,h1,by rw [<-List.append_assoc];exact h2.app _⟩
 ·rcases List.mem_append.mp hx with h | h
  ·exact T.nab x h
  ·rw [List.mem_singleton.mp h]
   exact ⟨n3,n4⟩
theorem Tn.num (T:Tn P w H0 H rw fd nl nb pl lo hi R0 G1 G2 xs ts wb Gd S al kvs cs) (hc:Num (R0++S) G c) (f:H0 nb=none) (m1:nb≠rw) (m2:nb≠nl) (m3:nb≠pl) (m4:nb≠lo) (m5:nb≠hi) :
  Tn P w H0 (upd H nb (.lst (cs.map V.int++[.int c]))) rw fd nl nb pl lo hi R0 G1 G2 xs ts wb (Gd++[G]) S al kvs (cs++[c]):=by
 have t1:=ZbB (o:=.lst (cs.map V.int++[.int c])) T.eb
 refine ⟨T.L.other T.eb f m1 m2 λx hx=>(T.nab x hx).1,by rw [Zab,List.map_append];rfl,Zao T.ep (Ne.symm m3),T.fl.keep t1 λys e=>Zao e (Ne.symm m4),T.fh.keep t1 λys e=>Zao e (Ne.symm m5),T.ok,T.wS,λj F hj=>?_,by rw [List.length_append,List.length_append,T.cl];rfl,T.nab⟩
 by_cases hi:j<Gd.length
 ·rw [List.getElem?_append_left hi] at hj
  obtain ⟨c,h1,h2⟩:=T.nm j F hj
  exact ⟨c,by rw [List.getElem?_append_left (by rw [T.cl];exact hi)];exact h1,h2⟩
 ·have hi2:=(List.getElem?_eq_some_iff.mp hj).1
  rw [List.length_append,List.length_singleton] at hi2
  have:j=Gd.length:=by omega
  subst this
  rw [List.getElem?_append_right (Nat.le_refl _),Nat.sub_self] at hj
  cases hj
  exact ⟨c,by rw [<-T.cl,List.getElem?_append_right (Nat.le_refl _),Nat.sub_self];rfl,hc⟩
end
end M
namespace M
open PySem L2
def Zez (F:Fml):List Int:=F.filterMap List.head?
theorem Zfp (F:Fml) (s:List Int):Zez (F++[s])=Zez F++(match s with | []=>[] | x::_=>[x]):=by
 unfold Zez
 rw [List.filterMap_append]
 cases s <;> rfl
theorem mem_heads {F:Fml} {x:Int}:x∈Zez F↔∃ s,(x::s)∈F:=by
 unfold Zez
 rw [List.mem_filterMap]
 constructor
 ·rintro ⟨s,h1,h2⟩
  cases s with
  | nil=>simp at h2
  | cons y s=>simp at h2;subst h2;exact ⟨s,h1⟩
 ·rintro ⟨s,h⟩
  exact ⟨_,h,rfl⟩
theorem ZgM (F:Fml):(Zez F).length<=F.length:=List.length_filterMap_le ..
theorem Ze3 (r:Int) (F:Fml) (s:List Int):Zbl r (F++[s])=Zbl r F++(if s.head?=some r then [] else [s]):=by
 unfold Zbl
 rw [List.filter_append]
 by_cases h:s.head?=some r <;> simp [h]
theorem Zea (r:Int) (F:Fml) (s:List Int):Zay r (F++[s])=Zay r F++(if s.head?=some r then [s.tail] else []):=by
 unfold Zay
 rw [List.filter_append,List.map_append]
 by_cases h:s.head?=some r <;> simp [h]
theorem Zls {F:Fml} {n:Nat} (h:∀ s∈F,s.length<=n):wt F<=n * F.length:=by
 induction F with
 | nil=>simp [wt]
 | cons s F ih=>
  have h1:=ih λu hu=>h u (List.mem_cons_of_mem _ hu)
  have h2:=h s (List.mem_cons_self ..)
  unfold wt at h1 ⊢
  rw [List.map_cons,List.sum_cons,List.length_cons,Nat.mul_succ]
  omega
theorem Zke:∀ {F:Fml},F.Nodup->F.length<=wt F+1:=by
 intro F nd
 have h:F.length<=wt F+(if []∈F then 1 else 0):=by
  induction F with
  | nil=>simp [wt]
  | cons s F ih=>
   obtain ⟨n1,n2⟩:=List.nodup_cons.mp nd
   have ih:=ih n2
   unfold wt at ih ⊢
   rw [List.map_cons,List.sum_cons,List.length_cons]
   cases s with
   | nil=>
    rw [if_neg n1] at ih
    rw [if_pos (List.mem_cons_self ..)]
    simp
    omega
   | cons x s=>
    by_cases e:([]:List Int)∈F
    ·rw [if_pos e] at ih
     rw [if_pos (List.mem_cons_of_mem _ e)]
     simp
     omega
    ·rw [if_neg e] at ih
     rw [if_neg (by simpa using e)]
     simp
     omega
 split at h <;> omega
theorem ZcI {F:Fml} (h:F.Pairwise λa b=>Za9 a b=true):F.Nodup:=h.imp λ{a b} z e=>by rw [e,Zbg] at z;cases z
theorem Zhr (ns:List Int):ZeD (ns.map V.int) (some 1) none=(ns.drop 1).map V.int:=by
 unfold ZeD
 rw [show (some (1:Int))=some ((1:Nat):Int) from rfl,HT.sIx_nat]
 simp [HT.sIx]
 cases ns with
 | nil=>rfl
 | cons a b=>
  simp
  exact List.take_of_length_le (by rw [List.length_map];exact Nat.le_refl _)
section
variable {P:Program} {w:World} {K:PySem.W.Frag} {mg:Str->Option Value} {base:Heap}
def Zkf:Sp:=λvs H Q _=>∃ (l:Addr) (zs:List (Addr×List Int)),vs=[.ref l]/\H l=some (.lst (zs.map λz=>V.ref z.1))/\Lz H zs/\zs.length<=70/\(∀ z∈zs,z.2.Pairwise (· < ·)/\z.2.length<=12/\∀ x∈z.2,0<=x/\x<30) /\
 ∀ (tp nl:Addr) (root:Int) (xs:List V) (ts:List Tri) (H':Hp),Same H H'->H tp=none->H nl=none->TabAt H' tp nl root xs ts->TabOk ts->At ts root (-1)->ts.length<=900->(∀ s,Has ts root s↔s∈zs.map (·.2))->Q (.ref tp) H'
theorem scTab:ZaA ["sets", "row", "found", "nodes", "at", "road", "low", "high", "numbers", "part"] ["sets"] (Zaf ZhT):=⟨rfl,rfl,rfl,by decide +kernel,rfl,by decide +kernel,by decide +kernel⟩
theorem Zkg {f fO:Addr} {fd fdO:FuncData} (F:Fun K "_law_table" "_law_table" ZhT f fd) (FO:Fun K "_law_once" "_law_once" ZhS fO fdO) (bO:Binds K fdO ["sets"] []) (mO:mg "_law_once" = some (.ref fO)) (mLen:mg "len" = none) (mMin:mg "min" = none) (mTup:mg "tuple" = none) (mSor:mg "sorted" = none):ZaX P w K mg base CX0 2 f fd ["sets"] Zkf:=by
 have GO:ZaX P w K mg base CX0 1 fO fdO ["sets"] Zi1:=ZhX FO mSor
 refine F.ok scTab (λvs H Q E h=>?_) (λcdv A outer s H vs Q E hr h=>?_)
 ·obtain ⟨_,_,rfl,_⟩:=h
  rfl
 ·obtain ⟨l,zs,rfl,el,lz,hzl,hzs,q⟩:=h
  have hu:=hr.units
  have hu71:(A.deeper (PyProof.Rows.envOfC "_law_table" (Zaf ZhT) s.heap.objs.size f cdv)).units+71<cLine:=by have:=hr.un;omega
  have h16:(16777216:Nat)=sizeLine:=sizeLine_eq.symm
  refine ⟨_,Zad (Zaj (i:=1) scTab.nd rfl (Or.inl rfl) (Zar (Zaa (Zbs (own:=["one"]) rfl (Zbt (by decide +kernel) (by decide +kernel) rfl (by decide +kernel)) (ZbG K (Zai GO (hr.mono (by decide)) rfl mO FO.kp bO .nil ZaI (Zaa (pv 0) Zac))) (λ_ _ _ _=>Zal (i:=0) (show List.Nodup (["one"]:List Str) by decide +kernel) rfl (Or.inl rfl)) (λ_ _ _ _=>Zbz) (λ_ _ _ _=>ZaS (ZdW K) rfl mTup Zbc (Zaa (pv 0) Zac))) Zac)))
    (Zad (Zbn (PW.pt (Zef (Zam (Zjz K hu) (ZaC (Zbu K) (pv 1) Zae (λ_ _=>rfl)) (Zar Zac) (Zax _)) (ZcO (Zam (Zjz K hu) (ZaC (Zbu K) (pv 1) Zae (λ_ _=>rfl)) (Zar (Zaa (Zbr Zac) Zac)) (Zax _))))) (Zah (ZaD (Zbr (Zaa (Zaq (Zfq K) rfl mLen PySem.boot_len (Zaa (ZaC (Zbu K) (pv 1) Zae (λ_ _=>rfl)) Zac)) (Zaa (Zar Zac) Zac))))) ZaK)
    (Zad (Zaj (i:=2) scTab.nd rfl (Or.inl rfl) (Zhm rfl rfl hu71 (ZaS (ZdW K) rfl mTup Zbc (Zaa (ZaC (Zbu K) (pv 1) Zae (λ_ _=>rfl)) Zac)) Zae))
    (Zad (Zaj (i:=3) scTab.nd rfl (Or.inl rfl) (Zar Zac))
    (Zad (Zaj (i:=4) scTab.nd rfl (Or.inl rfl) Zae)
    (Zad (Zcl PassesOwn.never (Zam ZfE (pv 4) (Zaq (Zfq K) rfl mLen PySem.boot_len (Zaa (pv 1) Zac)) (Zax _))
    (Zad (Zaj (i:=5) scTab.nd rfl (Or.inr rfl) (Zaq (ZmD K rfl) rfl mMin ZeL (Zaa (Zbs (own:=["one"]) rfl (Zbt (by decide +kernel) (by decide +kernel) rfl (by decide +kernel)) (ZbG K (ZaC (Zbu K) (pv 1) (pv 4) (λ_ _=>rfl))) (λ_ _ _ _=>Zal (i:=0) (show List.Nodup (["one"]:List Str) by decide +kernel) rfl (Or.inl rfl)) (λ_ _ _ _=>ZbT (Zam (Zg1 K hu) (pv 0) (Zbr Zac) (Zax _))) (λ_ _ _ _=>ZaC (Zf1 K) (pv 0) Zae (λ_ _=>rfl))) Zac)))
    (Zad (Zej (i:=6) scTab.nd rfl (Or.inl rfl) (own:=["one"]) rfl (Zaw (fr:=[("road", 5)]) [(".0", .local),("one", .local),("road", .cell)] rfl rfl (by decide +kernel) rfl (by decide +kernel) ⟨rfl,trivial⟩ ⟨λh=>Zbd h,λh=>Zbd h,λ_=>⟨_,rfl⟩,trivial⟩ ⟨⟨rfl,.inl rfl,.inl rfl⟩,trivial⟩) (ZbG K (ZaC (Zbu K) (pv 1) (pv 4) (λ_ _=>rfl))) (λ_ _ _ _=>Zal (i:=0) (show List.Nodup (["one", "road"]:List Str) by decide +kernel) rfl (Or.inl rfl)) (λ_ _ _ _=>ZbT (PW.pt (Zef (Zam (Zjz K hu) (pv 0) (Zbr Zac) (Zax _)) (ZcO (Zam Zjj (ZaC (Zf1 K) (pv 0) Zae (λ_ _=>rfl)) (pv 1) (Zax _)))))) (λ_ _ _ _=>pv 0))
    (Zad (Zej (i:=7) scTab.nd rfl (Or.inl rfl) (own:=["one"]) rfl (Zaw (fr:=[("road", 5)]) [(".0", .local),("one", .local),("road", .cell)] rfl rfl (by decide +kernel) rfl (by decide +kernel) ⟨rfl,trivial⟩ ⟨λh=>Zbd h,λh=>Zbd h,λ_=>⟨_,rfl⟩,trivial⟩ ⟨⟨rfl,.inl rfl,.inl rfl⟩,trivial⟩) (ZbG K (ZaC (Zbu K) (pv 1) (pv 4) (λ_ _=>rfl))) (λ_ _ _ _=>Zal (i:=0) (show List.Nodup (["one", "road"]:List Str) by decide +kernel) rfl (Or.inl rfl)) (λ_ _ _ _=>ZbT (PW.pt (ZcP (Zam (Zg1 K hu) (pv 0) (Zbr Zac) (Zax _)) (Zcw (Zam Zc7 (ZaC (Zf1 K) (pv 0) Zae (λ_ _=>rfl)) (pv 1) (Zax _)))))) (λ_ _ _ _=>ZaH (ZmM K) (pv 0) (ZaL Zae) ZaT))
    (Zad (Zaj (i:=8) scTab.nd rfl (Or.inl rfl) (Zar Zac))
    (Zad (ZbJ PassesOwn.never rfl (ZbG K (Zar (Zaa (pv 6) (Zaa (pv 7) Zac)))) (Zal (i:=9) scTab.nd rfl (Or.inl rfl))
    (Zad (Zbn (PW.pt (ZcP (Zam (Zg1 K hu) (pv 9) (Zar Zac) (Zax _)) (ZcP (Zam (Zg1 K hu) (pv 9) (Zar (Zaa (Zbr Zac) Zac)) (Zax _)) (Zcw (Zjd (ZgD rfl rfl hu71 (ZaS (ZdW K) rfl mTup Zbc (Zaa (pv 9) Zac)) (pv 2)) rfl))))) (Zad (ZiJ rfl rfl hu71 (pv 2) (ZaS (ZdW K) rfl mTup Zbc (Zaa (pv 9) Zac)) (Zak ZaR (Zaq (Zfq K) rfl mLen PySem.boot_len (Zaa (pv 1) Zac)) Zae) rfl)
    (Zah (Zb6 (Zei PySem.F.plainAttrs_list PySem.F.slot_list_append PySem.F.type_list_append Za4 (pv 1) (Zaa (pv 9) Zac))))) ZaK)
    (Zah (Zb6 (Zei PySem.F.plainAttrs_list PySem.F.slot_list_append PySem.F.type_list_append Za4 (pv 8) (Zaa (Zhl rfl rfl hu71 (pv 2) (ZaS (ZdW K) rfl mTup Zbc (Zaa (pv 9) Zac)) (Zaq (Zfq K) rfl mLen PySem.boot_len (Zaa (pv 9) Zac)) ⟨rfl,rfl,rfl,rfl⟩) Zac))))))
    (Zad (Zb6 (Zei PySem.F.plainAttrs_list PySem.F.slot_list_append PySem.F.type_list_append Za4 (pv 3) (Zaa (Zbr (Zaa (pv 5) (Zaa (ZaC (Zbu K) (pv 8) Zae (λ_ _=>rfl)) (Zaa (ZaC (Zbu K) (pv 8) Zae (λ_ _=>rfl)) Zac)))) Zac)))
    (Zah (Zaj (i:=4) scTab.nd rfl (Or.inl rfl) (Zak ZaR (pv 4) Zae))))))))))
    (Zah (ZaD (Zbr (Zaa Zae (Zaa (pv 3) Zac)))))))))),?_⟩
  refine Zat (λσ' H'=>∃ (D rw:Addr) (F0:Fml) (cs:List Addr),σ'=[some (.ref l),some (.ref rw),none,none,none,none,none,none,none,none]/\Same H H'/\H rw=none/\H D=none/\D≠rw/\H' rw=some (.lst [.ref D])/\H' D=some (.lst (cs.map V.ref))/\TpsAt H' F0 cs/\F0.length<=70/\FamOk F0/\wt F0<=840/\∀ s,s∈F0↔s∈zs.map (·.2)) ?s0 ?f0
  case f0=>
   intro hk
   refine ⟨_,rfl,l,zs,rfl,el,lz,by omega,λa ws H1 s1 ha ea sub so al ln=>⟨a,rfl,⟨_,SqL.of ea⟩,λD hD=>?_⟩⟩
   refine Za0 (K:=K) (a:=a) (xs:=ws.map λz=>V.ref z.1) (λj ys H'=>∃ cs:List Addr,ys=cs.map V.ref/\Same H1 H'/\H' D=some (.lst ys)/\TpsAt H' ((ws.map (·.2)).take j) cs) ⟨[],rfl,Same.new hD,Zab,.nil⟩ (λj ys H' _ ⟨_,_,s,_⟩=>SqL.of (s _ _ ea)) ?_ ?_
   ·rintro j y ys H2 hyj ⟨cs,rfl,s2,eD,tp⟩
    rw [List.getElem?_map] at hyj
    obtain ⟨z,hz,rfl⟩:=Option.map_eq_some_iff.mp hyj
    have hzm:=sub z (List.mem_of_getElem? hz)
    have tk:(ws.map (·.2)).take (j+1)=(ws.map (·.2)).take j++[z.2]:=by rw [List.take_add_one,List.getElem?_map,hz];rfl
    have hcl:=tp.length
    rw [List.length_take] at hcl
    have hj:j<ws.length:=(List.getElem?_eq_some_iff.mp hz).1
    refine ⟨trivial,?_⟩
    unfold Zie
    refine Zeb ?_
    refine ⟨_,rfl,z.1,_,rfl,.inl ⟨SqL.of (s2 _ _ (s1 _ _ (lz z hzm))),λt ht=>?_⟩⟩
    have s3:Same H2 (upd H2 t (.tup (z.2.map V.int))):=Same.new ht
    have nDt:D≠t:=Zag eD ht
    refine ⟨s3 _ _ eD,(by rw [List.length_map];omega),cs++[t],by rw [List.map_append];rfl,(s2.trans s3).put hD,Zab,?_⟩
    rw [tk]
    have t1:=ZbB (o:=.lst (cs.map V.ref++[.ref t])) (s3 _ _ eD)
    exact Paired.snoc ((tp.keep λp ys e=>s3 _ _ e).keep t1) (t1 _ _ Zab)
   ·rintro ys H2 ⟨cs,rfl,s2,eD,tp⟩
    rw [List.length_map,<-List.length_map (f:=λz:Addr×List Int=>z.2),List.take_length] at tp
    refine ⟨(by show 1<=sizeLine;decide),λrw hrw=>?_⟩
    have s3:Same H2 (upd H2 rw (.lst [.ref D])):=Same.new hrw
    have S2:=s1.trans s2
    refine hk _ _ ⟨D,rw,ws.map (·.2),cs,rfl,S2.trans s3,S2.free hrw,s1.free hD,Zag eD hrw,Zab,s3 _ _ eD,tp.keep λp ys e=>s3 _ _ e,by rw [List.length_map];omega,⟨ZcI so,λs hs=>?_,λs hs=>?_⟩,?_,λs=>⟨λhs=>?_,λhs=>?_⟩⟩
    ·obtain ⟨z,hz,rfl⟩:=List.mem_map.mp hs
     exact (hzs z (sub z hz)).1
    ·obtain ⟨z,hz,rfl⟩:=List.mem_map.mp hs
     exact (hzs z (sub z hz)).2.2
    ·have:=Zls (F:=ws.map (·.2)) (n:=12) λs hs=>by
      obtain ⟨z,hz,rfl⟩:=List.mem_map.mp hs
      exact (hzs z (sub z hz)).2.1
     rw [List.length_map] at this
     omega
    ·obtain ⟨z,hz,rfl⟩:=List.mem_map.mp hs
     exact List.mem_map.mpr ⟨z,sub z hz,rfl⟩
    ·obtain ⟨z,hz,rfl⟩:=List.mem_map.mp hs
     exact al z hz
  rintro σ' H1 ⟨D,rw,F0,cs,rfl,s1,hrw,hHD,nDr,er,eD,tp,hFl,ok0,hw0,hmem⟩
  have r0:∀ {H':Hp},Same H1 H'->SqL K H' rw [V.ref D]:=λs=>SqL.of (s _ _ er)
  refine Zat (λσ' H'=>σ'=[some (.ref l),some (.ref rw),none,none,none,none,none,none,none,none]/\Same H1 H'/\Inner F0) ?s1 ?f1
  case f1=>
   intro hk
   have done:∀ H2:Hp,Same H1 H2->∀ root:Int,(F0.length:Int)=root->At [] root (-1)->(∀ s,Has [] root s↔s∈F0)->∀ nl,H2 nl=none->∀ tp,upd H2 nl (.lst []) tp=none->Q (.ref tp) (upd (upd H2 nl (.lst [])) tp (.tup [.int ((cs.map V.ref).length:Int),.ref nl])):=λH2 s2 root e1 e2 e3 nl hnl tp' htp=>by
    have hcl:=tp.length
    have S2:=s1.trans s2
    have s3:Same H2 (upd H2 nl (.lst [])):=Same.new hnl
    have nnt:nl≠tp':=Zag Zab htp
    refine q tp' nl root [] [] _ ((S2.trans s3).put (S2.free (s3.free htp))) (S2.free (s3.free htp)) (S2.free hnl) ⟨?_,Zao Zab nnt,.nil⟩ TabOk.nil e2 (by decide) λs=>(e3 s).trans (hmem s)
    rw [Zab,List.length_map,<-hcl,e1]
   refine ⟨_,rfl,rw,_,_,_,rfl,rfl,SqL.of er,Zan (j:=0) rfl,Nat.zero_le _,λe he=>?_⟩
   have s2:Same H1 (upd H1 e (.lst [])):=Same.new he
   refine ⟨.list (F0.map Zbm),.list (([]:Fml).map Zbm),.lst (SqL.of (s2 _ _ eD)) (TpsAt.dats (tp.keep λp ys e=>s2 _ _ e)),.lst (SqL.of Zab) .nil,ZaF _,ZaF _,_,rfl,?_⟩
   rw [Zb4]
   generalize upd H1 e (.lst [])=H2 at s2 ⊢
   refine Zck (λc1=>Zeb ?_) (λc1=>?_)
   ·have hF:F0=[]:=by
     by_cases hF:F0=[]
     ·exact hF
     ·simp [hF] at c1
    refine ⟨_,rfl,rw,_,_,_,rfl,rfl,r0 s2,Zan (j:=0) rfl,D,_,rfl,.inl (SqL.of (s2 _ _ eD)),Nat.zero_le _,λnl hnl=>⟨ZbO,λtp htp=>?_⟩⟩
    exact done H2 s2 0 (by rw [hF];rfl) (.inl rfl) (λs=>by rw [hF];exact ⟨λz=>absurd z Has.zero,λz=>by cases z⟩) nl hnl tp htp
   ·have hF:F0≠[]:=λhF=>c1 (by simp [hF])
    refine ⟨_,rfl,rw,_,_,_,rfl,rfl,r0 s2,Zan (j:=0) rfl,Nat.zero_le _,λe2 he2=>⟨(by show 1<=sizeLine;decide),λe3 he3=>?_⟩⟩
    have s3:Same H2 (upd (upd H2 e2 (.tup [])) e3 (.lst [.ref e2])):=(Same.new he2).put ((Same.new he2).free he3)
    have n23:e2≠e3:=Zag Zab he3
    have s4:=s2.trans s3
    refine ⟨.list (F0.map Zbm),.list (([[]]:Fml).map Zbm),.lst (SqL.of (s4 _ _ eD)) (TpsAt.dats (tp.keep λp ys e=>s4 _ _ e)),.lst (SqL.of Zab) (.cons (.tup (SqT.of (Zao Zab n23)) .nil) .nil),ZaF _,ZaF _,_,rfl,?_⟩
    rw [Zb4]
    generalize upd (upd H2 e2 (.tup [])) e3 (.lst [.ref e2])=H3 at s4 ⊢
    refine Zck (λc2=>?_) (λc2=>?_)
    ·have hF2:F0=[[]]:=by
      by_cases hF:F0=[[]]
      ·exact hF
      ·simp [hF] at c2
     refine ⟨_,rfl,rw,_,_,_,rfl,rfl,r0 s4,Zan (j:=0) rfl,D,_,rfl,.inl (SqL.of (s4 _ _ eD)),Nat.zero_le _,λnl hnl=>⟨ZbO,λtp htp=>?_⟩⟩
     exact done H3 s4 1 (by rw [hF2];rfl) (.inr (.inl rfl)) (λs=>by rw [hF2,Has.at1];simp) nl hnl tp htp
    ·exact hk _ _ ⟨rfl,s4,hF,λhF=>c2 (by simp [hF])⟩
  rintro σ' H2 ⟨rfl,s2,inn⟩
  have S2:=s1.trans s2
  have er2:=s2 _ _ er
  have eD2:=s2 _ _ eD
  have tp2:TpsAt H2 F0 cs:=tp.keep λp ys e=>s2 _ _ e
  clear s2 er eD tp r0
  refine Zat (λσ' H'=>∃ (fd:Addr) (kvs:TTs),σ'=[some (.ref l),some (.ref rw),some (.ref fd),none,none,none,none,none,none,none]/\Same H2 H'/\H2 fd=none/\H' fd=some (dtt P w fd kvs)/\KeysTT H' kvs/\KvR kvs [F0]) ?s2 ?f2
  case f2=>
   intro hk fd hfd
   have s3:Same H2 (upd H2 fd (.dK [])):=Same.new hfd
   refine ⟨_,rfl,rw,_,_,_,rfl,rfl,SqL.of (s3 _ _ er2),Zan (j:=0) rfl,D,_,rfl,.inl ⟨SqL.of (s3 _ _ eD2),λt ht=>?_⟩⟩
   have s4:Same (upd H2 fd (.dK [])) (upd (upd H2 fd (.dK [])) t (.tup (cs.map V.ref))):=Same.new ht
   have nft:fd≠t:=Zag Zab ht
   have kt:KeyTT (upd (upd H2 fd (.dK [])) t (.tup (cs.map V.ref))) t F0:=⟨cs,Zab,Paired.mapP tp2 λ_ _ e=>s4 _ _ (s3 _ _ e)⟩
   refine ⟨Zao Zab nft,t,F0,rfl,kt,?_⟩
   have t1:∀ p ys,upd (upd H2 fd (.dK [])) t (.tup (cs.map V.ref)) p=some (.tup ys)->upd (upd (upd H2 fd (.dK [])) t (.tup (cs.map V.ref))) fd (dtt P w fd [(F0,t,.int 2)]) p=some (.tup ys):=λp ys e=>Zao e (λz=>by rw [z,Zao Zab nft] at e;cases e)
   refine hk _ _ ⟨fd,[(F0,t,.int 2)],rfl,(s3.trans s4).put hfd,hfd,Zab,λp hp=>?_,rfl,λi p e=>?_⟩
   ·rw [List.mem_singleton.mp hp]
    exact kt.keep t1
   ·cases i with
    | zero=>simp at e;subst e;exact ⟨rfl,rfl⟩
    | succ i=>simp at e
  rintro σ' H3 ⟨fd,kvs,rfl,s3,hfd,ed,ks,kr⟩
  refine Zat (λσ' H'=>∃ (nl:Addr),σ'=[some (.ref l),some (.ref rw),some (.ref fd),some (.ref nl),none,none,none,none,none,none]/\Li P w H H' rw fd nl [F0] [D] kvs [] []) ?s3 ?f3
  case f3=>
   intro hk
   refine ⟨Nat.zero_le _,λnl hnl=>?_⟩
   have s4:Same H3 (upd H3 nl (.lst [])):=Same.new hnl
   refine hk _ _ ⟨nl,rfl,(S2.trans s3).trans s4,s4 _ _ (s3 _ _ er2),.cons ⟨cs,s4 _ _ (s3 _ _ eD2),tp2.keep λp ys e=>s4 _ _ (s3 _ _ e)⟩ .nil,λa ha=>?_,s4 _ _ ed,ks.keep λp ys e=>s4 _ _ e,kr,Zab,.nil,hrw,S2.free hfd,(S2.trans s3).free hnl,Zag (s3 _ _ er2) hnl⟩
   rw [List.mem_singleton.mp ha]
   exact ⟨nDr,Zag (s3 _ _ eD2) hnl⟩
  clear s3 hfd ed ks kr er2 eD2 tp2 H3
  rintro σ' H3 ⟨nl,rfl,L0⟩
  refine Zat (λσ' H'=>σ'=[some (.ref l),some (.ref rw),some (.ref fd),some (.ref nl),some (.int 0),none,none,none,none,none]/\H'=H3) ?s4 ?f4
  case f4=>exact λhk=>hk _ _ ⟨rfl,rfl⟩
  rintro σ' H3' ⟨rfl,rfl⟩
  refine Zat (λσ' H'=>∃ (R:List Fml) (al:List Addr) (kvs:TTs) (xs:List V) (ts:List Tri) (v5 v6 v7 v8 v9:Option V),σ'=[some (.ref l),some (.ref rw),some (.ref fd),some (.ref nl),some (.int (ts.length:Int)),v5,v6,v7,v8,v9]/\Li P w H H' rw fd nl R al kvs xs ts/\Rw F0 R ts 840/\ts.length=R.length) ?s5 ?f5
  case s5=>
   rintro σ' H4 ⟨R,al,kvs,xs,ts,v5,v6,v7,v8,v9,rfl,L,W,hln⟩
   obtain ⟨T,a2,hh⟩:=W.fin hln
   have hl:=W.len
   refine ⟨_,rfl,ZbO,λtp htp=>?_⟩
   have s5:Same H4 (upd H4 tp (.tup [.int 2,.ref nl])):=Same.new htp
   exact q tp nl 2 xs ts _ (L.s.trans s5) (L.s.free htp) L.f3 ⟨Zab,s5 _ _ L.en,L.tr.same s5⟩ T a2 (by omega) λs=>(hh s).trans (hmem s)
  case f5=>
   intro hk
   refine ⟨λm σ' H'=>∃ (R:List Fml) (al:List Addr) (kvs:TTs) (xs:List V) (ts:List Tri) (v5 v6 v7 v8 v9:Option V),σ'=[some (.ref l),some (.ref rw),some (.ref fd),some (.ref nl),some (.int (ts.length:Int)),v5,v6,v7,v8,v9]/\Li P w H H' rw fd nl R al kvs xs ts/\Rw F0 R ts 840/\m=((R.drop ts.length).map wt).sum,
    ⟨_,[F0],[D],kvs,[],[],none,none,none,none,none,rfl,L0,{ Rw.start ok0 inn with we:=by have:=(Rw.start ok0 inn).we;omega },rfl⟩,?_⟩
   clear L0 kvs
   rintro m σ' H4 ⟨R,al,kvs,xs,ts,v5,v6,v7,v8,v9,rfl,L,W,rfl⟩
   have hRl:=W.len
   have hal:=L.len
   refine ⟨_,rfl,_,rfl,rw,_,rfl,.inl (SqL.of L.er),_,_,rfl,rfl,_,rfl,Zck (λc1=>?_) (λc1=>?_)⟩
   ·have c1':=of_decide_eq_true c1
    rw [List.length_map,hal] at c1'
    have hn:ts.length<R.length:=by omega
    obtain ⟨F,hF⟩:∃ F,R[ts.length]?=some F:=⟨_,List.getElem?_eq_getElem hn⟩
    obtain ⟨a,ha,cs,ea,tp⟩:=Paired.get L.fr hF
    obtain ⟨okF,inF⟩:=W.ok F (List.mem_of_getElem? hF)
    have hat:atI (al.map V.ref) (ts.length:Int)=some (.ref a):=Zan (by rw [List.getElem?_map,ha];rfl)
    have hcl:=tp.length
    have hFl2:F.length<=841:=by
     have h1:=Zke okF.nd
     have h2:=W.we
     rw [List.drop_eq_getElem_cons hn,(List.getElem?_eq_some_iff.mp hF).2,List.map_cons,List.sum_cons] at h2
     omega
    refine ⟨_,λ_ _ h=>h,?_⟩
    refine Zat (λσ' H'=>∃ r:Int,σ'=[some (.ref l),some (.ref rw),some (.ref fd),some (.ref nl),some (.int (ts.length:Int)),some (.int r),v6,v7,v8,v9]/\Same H4 H'/\Zhq r F) ?s6 ?f6
    case f6=>
     intro hk2
     refine ⟨_,rfl,_,rfl,rw,_,_,_,rfl,rfl,SqL.of L.er,hat,a,rfl,⟨_,SqL.of ea⟩,λD hD=>?_⟩
     refine Za0 (K:=K) (a:=a) (xs:=cs.map V.ref) (λj ys H'=>Same H4 H'/\H' D=some (.lst ys)/\ys=(Zez (F.take j)).map V.int) ⟨Same.new hD,Zab,rfl⟩ (λj ys H' _ ⟨s,_⟩=>SqL.of (s _ _ ea)) ?_ ?_
     ·rintro j y ys H5 hyj ⟨s5,eD,rfl⟩
      rw [List.getElem?_map] at hyj
      obtain ⟨c,hc,rfl⟩:=Option.map_eq_some_iff.mp hyj
      obtain ⟨u,hu,ec⟩:=Paired.get' tp hc
      have tk:F.take (j+1)=F.take j++[u]:=by rw [List.take_add_one,hu];rfl
      have hhl:=ZgM (F.take j)
      rw [List.length_take] at hhl
      refine ⟨trivial,?_⟩
      refine ⟨_,rfl,Nat.zero_le _,λe he=>?_⟩
      have s6:Same H5 (upd H5 e (.tup [])):=Same.new he
      have nDe:D≠e:=Zag eD he
      refine ⟨Zbm u,Zbm [],.tup (SqT.of (s6 _ _ (s5 _ _ ec))) (ZaE _),.tup (SqT.of Zab) .nil,ZaZ _,ZaZ _,_,rfl,?_⟩
      rw [Zcs,tk,Zfp]
      cases u with
      | nil=>exact ZcK ⟨s5.trans s6,s6 _ _ eD,by rw [List.append_nil]⟩
      | cons x u=>
       refine Zeb ?_
       refine ⟨_,rfl,c,_,_,_,rfl,rfl,SqT.of (s6 _ _ (s5 _ _ ec)),Zan (j:=0) rfl,s6 _ _ eD,(by rw [List.length_map];omega),(s5.trans s6).put hD,Zab,by rw [List.map_append];rfl⟩
     ·rintro ys H5 ⟨s5,eD,rfl⟩
      rw [List.length_map,<-hcl,List.take_length] at eD
      refine ⟨D,_,rfl,SqL.of eD,λz=>?_,λm hm hle=>?_⟩
      ·obtain ⟨x,u,hx⟩:=inF.ex okF.nd
       have:=mem_heads.mpr ⟨u,hx⟩
       rw [z] at this
       cases this
      ·exact hk2 _ _ ⟨m,rfl,s5,mem_heads.mp hm,λx u hx=>hle x (mem_heads.mpr ⟨u,hx⟩)⟩
    rintro σ' H5 ⟨r,rfl,s5,hmin⟩
    have L5:=L.grow s5
    have ea5:=s5 _ _ ea
    have tp5:TpsAt H5 F cs:=tp.keep λp ys e=>s5 _ _ e
    refine Zat (λσ' H'=>∃ lo:Addr,σ'=[some (.ref l),some (.ref rw),some (.ref fd),some (.ref nl),some (.int (ts.length:Int)),some (.int r),some (.ref lo),v7,v8,v9]/\Same H5 H'/\H5 lo=none/\FamAt H' lo (Zbl r F)) ?s7 ?f7
    case f7=>
     intro hk2
     refine ⟨_,rfl,_,rfl,rw,_,_,_,rfl,rfl,SqL.of L5.er,hat,a,rfl,⟨_,SqL.of ea5⟩,λD hD=>?_⟩
     refine Za0 (K:=K) (a:=a) (xs:=cs.map V.ref) (λj ys H'=>∃ ds:List Addr,ys=ds.map V.ref/\Same H5 H'/\H' D=some (.lst ys)/\TpsAt H' (Zbl r (F.take j)) ds) ⟨[],rfl,Same.new hD,Zab,.nil⟩ (λj ys H' _ ⟨_,_,s,_⟩=>SqL.of (s _ _ ea5)) ?_ ?_
     ·rintro j y ys H6 hyj ⟨ds,rfl,s6,eD,tl⟩
      rw [List.getElem?_map] at hyj
      obtain ⟨c,hc,rfl⟩:=Option.map_eq_some_iff.mp hyj
      obtain ⟨u,hu,ec⟩:=Paired.get' tp5 hc
      have tk:F.take (j+1)=F.take j++[u]:=by rw [List.take_add_one,hu];rfl
      have hdl:=tl.length
      have hll:(Zbl r (F.take j)).length<=(F.take j).length:=List.length_filter_le _ _
      rw [List.length_take] at hll
      have yes:∀ {H7:Hp},Same H6 H7->u.head?≠some r->H7 D=some (.lst (ds.map V.ref))/\(ds.map V.ref).length<sizeLine/\∃ ds':List Addr,ds.map V.ref++[.ref c]=ds'.map V.ref/\Same H5 (upd H7 D (.lst (ds.map V.ref++[.ref c])))/\upd H7 D (.lst (ds.map V.ref++[.ref c])) D=some (.lst (ds.map V.ref++[.ref c]))/\TpsAt (upd H7 D (.lst (ds.map V.ref++[.ref c]))) (Zbl r (F.take (j+1))) ds':=λ{H7} s7 hh=>by
       have t1:=ZbB (o:=.lst (ds.map V.ref++[.ref c])) (s7 _ _ eD)
       refine ⟨s7 _ _ eD,(by rw [List.length_map];omega),ds++[c],by rw [List.map_append];rfl,(s6.trans s7).put hD,Zab,?_⟩
       rw [tk,Ze3,if_neg hh]
       exact Paired.snoc ((tl.keep λp ys e=>s7 _ _ e).keep t1) (t1 _ _ (s7 _ _ (s6 _ _ ec)))
      refine ⟨⟨rfl,trivial⟩,?_⟩
      refine ⟨_,rfl,Nat.zero_le _,λe he=>?_⟩
      have s7:Same H6 (upd H6 e (.tup [])):=Same.new he
      refine ⟨Zbm u,Zbm [],.tup (SqT.of (s7 _ _ (s6 _ _ ec))) (ZaE _),.tup (SqT.of Zab) .nil,ZaZ _,ZaZ _,_,rfl,?_⟩
      rw [Zcs]
      cases u with
      | nil=>
       refine Zeb (Zeb ?_)
       exact ⟨_,rfl,yes s7 (by simp)⟩
      | cons x u=>
       refine ZcK ?_
       refine ⟨_,rfl,c,_,_,_,rfl,rfl,SqT.of (s7 _ _ (s6 _ _ ec)),Zan (j:=0) rfl,_,rfl,rfl,_,rfl,Zck (λc2=>?_) (λc2=>?_)⟩
       ·have:x≠r:=λz=>by rw [z] at c2;simp at c2
        exact ⟨_,rfl,yes s7 (by simp [this])⟩
       ·have:x=r:=Decidable.byContradiction λz=>c2 (by simp [z])
        refine ⟨ds,rfl,s6.trans s7,s7 _ _ eD,?_⟩
        rw [tk,Ze3,if_pos (by rw [this];rfl),List.append_nil]
        exact tl.keep λp ys e=>s7 _ _ e
     ·rintro ys H6 ⟨ds,rfl,s6,eD,tl⟩
      rw [List.length_map,<-hcl,List.take_length] at tl
      exact hk2 _ _ ⟨D,rfl,s6,hD,ds,eD,tl⟩
    rintro σ' H6 ⟨lo,rfl,s6,hlo,flo⟩
    have L6:=L5.grow s6
    have ea6:=s6 _ _ ea5
    have tp6:TpsAt H6 F cs:=tp5.keep λp ys e=>s6 _ _ e
    refine Zat (λσ' H'=>∃ hi:Addr,σ'=[some (.ref l),some (.ref rw),some (.ref fd),some (.ref nl),some (.int (ts.length:Int)),some (.int r),some (.ref lo),some (.ref hi),v8,v9]/\Same H6 H'/\H6 hi=none/\FamAt H' hi (Zay r F)) ?s8 ?f8
    case f8=>
     intro hk2
     refine ⟨_,rfl,_,rfl,rw,_,_,_,rfl,rfl,SqL.of L6.er,hat,a,rfl,⟨_,SqL.of ea6⟩,λD hD=>?_⟩
     refine Za0 (K:=K) (a:=a) (xs:=cs.map V.ref) (λj ys H'=>∃ ds:List Addr,ys=ds.map V.ref/\Same H6 H'/\H' D=some (.lst ys)/\TpsAt H' (Zay r (F.take j)) ds) ⟨[],rfl,Same.new hD,Zab,.nil⟩ (λj ys H' _ ⟨_,_,s,_⟩=>SqL.of (s _ _ ea6)) ?_ ?_
     ·rintro j y ys H7 hyj ⟨ds,rfl,s7,eD,tl⟩
      rw [List.getElem?_map] at hyj
      obtain ⟨c,hc,rfl⟩:=Option.map_eq_some_iff.mp hyj
      obtain ⟨u,hu,ec⟩:=Paired.get' tp6 hc
      have tk:F.take (j+1)=F.take j++[u]:=by rw [List.take_add_one,hu];rfl
      have hdl:=tl.length
      have hll:(Zay r (F.take j)).length<=(F.take j).length:=by unfold Zay;rw [List.length_map];exact List.length_filter_le _ _
      rw [List.length_take] at hll
      have no:∀ {H8:Hp},Same H7 H8->u.head?≠some r->∃ ds':List Addr,ds.map V.ref=ds'.map V.ref/\Same H6 H8/\H8 D=some (.lst (ds.map V.ref))/\TpsAt H8 (Zay r (F.take (j+1))) ds':=λ{H8} s8 hh=>by
       refine ⟨ds,rfl,s7.trans s8,s8 _ _ eD,?_⟩
       rw [tk,Zea,if_neg hh,List.append_nil]
       exact tl.keep λp ys e=>s8 _ _ e
      refine ⟨⟨rfl,trivial⟩,?_⟩
      refine ⟨_,rfl,Nat.zero_le _,λe he=>?_⟩
      have s8:Same H7 (upd H7 e (.tup [])):=Same.new he
      refine ⟨Zbm u,Zbm [],.tup (SqT.of (s8 _ _ (s7 _ _ ec))) (ZaE _),.tup (SqT.of Zab) .nil,ZaZ _,ZaZ _,_,rfl,?_⟩
      rw [Zcs]
      cases u with
      | nil=>
       refine ZcK (ZcK ?_)
       exact no s8 (by simp)
      | cons x u=>
       refine Zeb ?_
       refine ⟨_,rfl,c,_,_,_,rfl,rfl,SqT.of (s8 _ _ (s7 _ _ ec)),Zan (j:=0) rfl,_,rfl,rfl,_,rfl,Zck (λc2=>?_) (λc2=>?_)⟩
       ·have hx:x=r:=V.int.inj (of_decide_eq_true c2)
        refine ⟨_,rfl,_,rfl,c,_,rfl,SqT.of (s8 _ _ (s7 _ _ ec)),?_,λt ht=>?_⟩
        ·rintro ⟨z,_⟩
         rw [show (some (1:Int))=some ((1:Nat):Int) from rfl,HT.sIx_nat] at z
         simp at z
        ·rw [Zhr]
         have s9:=s8.put (o:=.tup (((x::u).drop 1).map V.int)) (s8.free ht)
         have et:upd (upd H7 e (.tup [])) t (.tup (((x::u).drop 1).map V.int)) t=some (.tup (u.map V.int)):=Zab
         generalize upd (upd H7 e (.tup [])) t (.tup (((x::u).drop 1).map V.int))=H9 at s9 et ⊢
         have t1:=ZbB (o:=.lst (ds.map V.ref++[.ref t])) (s9 _ _ eD)
         refine ⟨s9 _ _ eD,(by rw [List.length_map];omega),ds++[t],by rw [List.map_append];rfl,(s7.trans s9).put hD,Zab,?_⟩
         rw [tk,Zea,if_pos (by rw [hx];rfl)]
         exact Paired.snoc ((tl.keep λp ys e=>s9 _ _ e).keep t1) (t1 _ _ et)
       ·have hx:x≠r:=λz=>c2 (by rw [z];exact decide_eq_true rfl)
        exact no s8 (by simp [hx])
     ·rintro ys H7 ⟨ds,rfl,s7,eD,tl⟩
      rw [List.length_map,<-hcl,List.take_length] at tl
      exact hk2 _ _ ⟨D,rfl,s7,hD,ds,eD,tl⟩
    rintro σ' H7 ⟨hi,rfl,s7,hhi,fhi⟩
    have L7:=L6.grow s7
    have flo7:=flo.same s7
    have nlr:lo≠rw:=λz=>by rw [z,L5.er] at hlo;cases hlo
    have nln:lo≠nl:=λz=>by rw [z,L5.en] at hlo;cases hlo
    have nhr:hi≠rw:=λz=>by rw [z,L6.er] at hhi;cases hhi
    have nhn:hi≠nl:=λz=>by rw [z,L6.en] at hhi;cases hhi
    have okl:=okF.low r
    have okh:=okF.high r
    have wl:=Zbj r F
    have wF:wt F<=840:=by
     have h2:=W.we
     rw [List.drop_eq_getElem_cons hn,(List.getElem?_eq_some_iff.mp hF).2,List.map_cons,List.sum_cons] at h2
     omega
    clear s5 s6 s7 L5 L6 flo tp tp5 tp6 ea ea5 ea6
    refine Zat (λσ' H'=>∃ nb:Addr,σ'=[some (.ref l),some (.ref rw),some (.ref fd),some (.ref nl),some (.int (ts.length:Int)),some (.int r),some (.ref lo),some (.ref hi),some (.ref nb),v9]/\Same H7 H'/\H7 nb=none/\H' nb=some (.lst [])) ?s9 ?f9
    case f9=>exact λhk2=>⟨Nat.zero_le _,λnb hnb=>hk2 _ _ ⟨nb,rfl,Same.new hnb,hnb,Zab⟩⟩
    rintro σ' H8 ⟨nb,rfl,s8,hnb,enb⟩
    have L8:=L7.grow s8
    have flo8:=flo7.same s8
    have fhi8:=fhi.same s8
    have fam_ne:∀ {p q:Addr} {G:Fml} {H':Hp},FamAt H' p G->H' q=none->p≠q:=λ⟨_,e,_⟩ h=>Zag e h
    have m1:nb≠rw:=λz=>by rw [z,L7.er] at hnb;cases hnb
    have m2:nb≠nl:=λz=>by rw [z,L7.en] at hnb;cases hnb
    have m4:nb≠lo:=Ne.symm (fam_ne flo7 hnb)
    have m5:nb≠hi:=Ne.symm (fam_ne fhi hnb)
    have f0:H nb=none:=L7.s.free hnb
    have nab:∀ x∈al,x≠nb:=λx hx=>by
     obtain ⟨k,hk⟩:=List.mem_iff_getElem?.mp hx
     obtain ⟨G,_,hG⟩:=Paired.get' L7.fr hk
     exact fam_ne hG hnb
    refine Zat (λσ' H'=>∃ (S:List Fml) (al:List Addr) (kvs:TTs) (c1 c2:Int) (v9:Option V),σ'=[some (.ref l),some (.ref rw),some (.ref fd),some (.ref nl),some (.int (ts.length:Int)),some (.int r),some (.ref lo),some (.ref hi),some (.ref nb),v9]/\Li P w H H' rw fd nl (R++S) al kvs xs ts/\(∀ G∈S,FamOk G/\Inner G)/\(S.map wt).sum<=wt (Zbl r F)+wt (Zay r F)/\H' nb=some (.lst [.int c1,.int c2])/\Num (R++S) (Zbl r F) c1/\Num (R++S) (Zay r F) c2) ?s10 ?f10
    case f10=>
     intro hk2
     refine ⟨_,rfl,_,rfl,ZbO,λpl hpl=>⟨pl,rfl,⟨_,SqL.of Zab⟩,?_⟩⟩
     have s9:Same H8 (upd H8 pl (.lst [.ref lo,.ref hi])):=Same.new hpl
     have m3:nb≠pl:=Zag enb hpl
     have p1:pl≠rw:=λz=>by rw [z,L8.er] at hpl;cases hpl
     have nlp:lo≠pl:=fam_ne flo8 hpl
     have nhp:hi≠pl:=fam_ne fhi8 hpl
     have T9:Tn P w H (upd H8 pl (.lst [.ref lo,.ref hi])) rw fd nl nb pl lo hi R (Zbl r F) (Zay r F) xs ts 0 [] [] al kvs []:=by
      refine ⟨by rw [List.append_nil];exact L8.grow s9,s9 _ _ enb,Zab,flo8.same s9,fhi8.same s9,λG hG=>(by cases hG),Nat.le_refl _,λj G hj=>(by simp at hj),rfl,λx hx=>⟨nab x hx,?_⟩⟩
      obtain ⟨k,hk⟩:=List.mem_iff_getElem?.mp hx
      obtain ⟨G,_,hG⟩:=Paired.get' L8.fr hk
      exact fam_ne hG hpl
     refine Za6 (K:=K) (a:=pl) (xs:=[.ref lo,.ref hi]) (λi σ H'=>∃ (S:List Fml) (al:List Addr) (kvs:TTs) (cs:List Int) (v9:Option V),σ=[some (.ref l),some (.ref rw),some (.ref fd),some (.ref nl),some (.int (ts.length:Int)),some (.int r),some (.ref lo),some (.ref hi),some (.ref nb),v9]/\Tn P w H H' rw fd nl nb pl lo hi R (Zbl r F) (Zay r F) xs ts ((([Zbl r F,Zay r F].take i).map wt).sum) ([Zbl r F,Zay r F].take i) S al kvs cs)
      ⟨[],al,kvs,[],v9,rfl,T9⟩ (λi σ H' _ ⟨_,_,_,_,_,_,T⟩=>SqL.of T.ep) ?_ ?_
     ·clear T9 L8 L7 L flo8 fhi8 flo7 fhi enb nab hal hat
      rintro i x σ H9 hxi ⟨S,al,kvs,ds,v9,rfl,T⟩
      obtain ⟨pa,G,rfl,hGi,hfam,okG,q1,q2,q3,q4⟩:∃ (pa:Addr) (G:Fml),x=.ref pa/\[Zbl r F,Zay r F][i]?=some G/\(∀ {H':Hp} {wb:Nat} {Gd S:List Fml} {al:List Addr} {kvs:TTs} {ds:List Int},Tn P w H H' rw fd nl nb pl lo hi R (Zbl r F) (Zay r F) xs ts wb Gd S al kvs ds->FamAt H' pa G)/\FamOk G/\pa≠rw/\pa≠nl/\pa≠nb/\pa≠pl:=by
       match i,hxi with
       | 0,hxi=>simp at hxi;subst hxi;exact ⟨lo,_,rfl,rfl,λT=>T.fl,okl,nlr,nln,Ne.symm m4,nlp⟩
       | 1,hxi=>simp at hxi;subst hxi;exact ⟨hi,_,rfl,rfl,λT=>T.fh,okh,nhr,nhn,Ne.symm m5,nhp⟩
       | i+2,hxi=>simp at hxi
      have tk:[Zbl r F,Zay r F].take (i+1)=[Zbl r F,Zay r F].take i++[G]:=by rw [List.take_add_one,hGi];rfl
      have inR:∀ {S:List Fml},(∀ G∈S,FamOk G/\Inner G)->∀ G∈R++S,Inner G:=λhS G hG=>by
       rcases List.mem_append.mp hG with h | h
       ·exact (W.ok G h).2
       ·exact (hS G h).2
      have hi2:i<2:=(List.getElem?_eq_some_iff.mp hGi).1
      dsimp only [Za2]
      refine Zat (λσ' H'=>∃ (S:List Fml) (al:List Addr) (kvs:TTs) (c:Int),σ'=[some (.ref l),some (.ref rw),some (.ref fd),some (.ref nl),some (.int (ts.length:Int)),some (.int r),some (.ref lo),some (.ref hi),some (.ref nb),some (.ref pa)]/\Tn P w H H' rw fd nl nb pl lo hi R (Zbl r F) (Zay r F) xs ts ((([Zbl r F,Zay r F].take (i+1)).map wt).sum) ([Zbl r F,Zay r F].take i) S al kvs ds/\(Zc2 kvs G).getD (.int (G.length:Int))=.int c/\Num (R++S) G c) ?s11 ?f11
      case f11=>
       intro hk3
       have T':Tn P w H H9 rw fd nl nb pl lo hi R (Zbl r F) (Zay r F) xs ts ((([Zbl r F,Zay r F].take (i+1)).map wt).sum) ([Zbl r F,Zay r F].take i) S al kvs ds:={ T with wS:=by have:=T.wS;rw [tk,List.map_append,List.sum_append];omega }
       obtain ⟨cs,ea,tp⟩:=hfam T
       refine ⟨_,rfl,Nat.zero_le _,λe1 he1=>?_⟩
       have z1:Same H9 (upd H9 e1 (.lst [])):=Same.new he1
       refine ⟨.list (G.map Zbm),.list (([]:Fml).map Zbm),.lst (SqL.of (z1 _ _ ea)) (TpsAt.dats (tp.keep λp ys e=>z1 _ _ e)),.lst (SqL.of Zab) .nil,ZaF _,ZaF _,_,rfl,?_⟩
       rw [Zb4]
       generalize upd H9 e1 (.lst [])=H10 at z1 ⊢
       refine Zck (λc2=>?_) (λc2=>?_)
       ·have hG0:G≠[]:=λz=>by rw [z] at c2;simp at c2
        refine ⟨_,rfl,Nat.zero_le _,λe2 he2=>⟨(by show 1<=sizeLine;decide),λe3 he3=>?_⟩⟩
        have z2:Same H10 (upd (upd H10 e2 (.tup [])) e3 (.lst [.ref e2])):=(Same.new he2).put ((Same.new he2).free he3)
        have n23:e2≠e3:=Zag Zab he3
        have z3:=z1.trans z2
        refine ⟨.list (G.map Zbm),.list (([[]]:Fml).map Zbm),.lst (SqL.of (z3 _ _ ea)) (TpsAt.dats (tp.keep λp ys e=>z3 _ _ e)),.lst (SqL.of Zab) (.cons (.tup (SqT.of (Zao Zab n23)) .nil) .nil),ZaF _,ZaF _,_,rfl,?_⟩
        rw [Zb4]
        generalize upd (upd H10 e2 (.tup [])) e3 (.lst [.ref e2])=H11 at z3 ⊢
        refine Zck (λc3=>?_) (λc3=>?_)
        ·have hG1:G≠[[]]:=λz=>by rw [z] at c3;simp at c3
         have T11:=T.grow z3
         have tp11:TpsAt H11 G cs:=tp.keep λp ys e=>z3 _ _ e
         refine ⟨_,rfl,pa,_,rfl,.inl ⟨SqL.of (z3 _ _ ea),λt ht=>?_⟩⟩
         have z4:Same H11 (upd H11 t (.tup (cs.map V.ref))):=Same.new ht
         have kt:KeyTT (upd H11 t (.tup (cs.map V.ref))) t G:=⟨cs,Zab,Paired.mapP tp11 λ_ _ e=>z4 _ _ e⟩
         have T12:=T11.grow z4
         refine ⟨_,rfl,fd,Zc2 kvs G,rfl,⟨kvs,G,t,T12.L.ed,T12.L.ks,rfl,kt,rfl⟩,_,rfl,?_⟩
         have z5:=z3.trans z4
         have tp12:TpsAt (upd H11 t (.tup (cs.map V.ref))) G cs:=tp11.keep λp ys e=>z4 _ _ e
         generalize upd H11 t (.tup (cs.map V.ref))=H12 at T12 z5 tp12 ⊢
         cases hv:Zc2 kvs G with
         | some v=>
          refine ZcK ?_
          obtain ⟨k,hk,rfl⟩:=T.L.kr.some hv
          exact hk3 _ _ ⟨S,al,kvs,_,rfl,T'.grow z5,by rw [hv];rfl,.inr (.inr ⟨k,hk,rfl⟩)⟩
         | none=>
          refine Zeb ?_
          have hal:=T12.L.len
          have hkl:=T12.L.kr.1
          have hSl:(R++S).length<=3000:=by
           have h1:=ZhY T.ok
           have h2:=T.wS
           have h3:((([Zbl r F,Zay r F].take i).map wt).sum)<=wt (Zbl r F)+wt (Zay r F):=by
            match i,hi2 with
            | 0,_=>simp
            | 1,_=>simp
           rw [List.length_append]
           omega
          refine ⟨_,rfl,rw,_,rfl,.inl (SqL.of T12.L.er),_,_,rfl,rfl,_,rfl,_,rfl,pa,_,rfl,.inl ⟨SqL.of (z5 _ _ ea),λt2 ht2=>?_⟩⟩
          have z6:Same H12 (upd H12 t2 (.tup (cs.map V.ref))):=Same.new ht2
          have kt2:KeyTT (upd H12 t2 (.tup (cs.map V.ref))) t2 G:=⟨cs,Zab,Paired.mapP tp12 λ_ _ e=>z6 _ _ e⟩
          have T13:=T12.grow z6
          generalize upd H12 t2 (.tup (cs.map V.ref))=H13 at T13 kt2 z6 ⊢
          refine ⟨fd,t2,kvs,G,rfl,rfl,T13.L.ed,T13.L.ks,kt2,hv,by omega,?_⟩
          have nrf:rw≠fd:=Zb5 T13.L.er T13.L.ed (λz=>by cases z)
          refine ⟨_,rfl,.inl ⟨rfl,_,SqL.of (Zao T13.L.er nrf)⟩,_,rfl,rw,_,_,rfl,rfl,Zao T13.L.er nrf,(by rw [List.length_map];omega),?_⟩
          rw [List.length_map,hal]
          have T14:=T13.row kt2 (hfam T13) q1 q2 q3 q4 m1 p1 nlr nhr ⟨okG,hG0,hG1⟩
          refine hk3 _ _ ⟨S++[G],al++[pa],_,_,rfl,{ T14 with wS:=by have:=T14.wS;rw [tk,List.map_append,List.sum_append];simpa using this },by rw [ZgL hv];rfl,.inr (.inr ⟨(R++S).length,?_,rfl⟩)⟩
          rw [<-List.append_assoc,List.getElem?_append_right (Nat.le_refl _),Nat.sub_self]
          rfl
        ·have hG1:G=[[]]:=by
          by_cases z:G=[[]]
          ·exact z
          ·exact absurd (by simp [z]) c3
         refine hk3 _ _ ⟨S,al,kvs,1,rfl,T'.grow z3,?_,.inr (.inl ⟨hG1,rfl⟩)⟩
         rw [KvR.none T.L.kr (inR T.ok) (λz=>z.2 hG1),hG1]
         rfl
       ·have hG0:G=[]:=by
         by_cases z:G=[]
         ·exact z
         ·exact absurd (by simp [z]) c2
        refine ZcK ?_
        refine hk3 _ _ ⟨S,al,kvs,0,rfl,T'.grow z1,?_,.inl ⟨hG0,rfl⟩⟩
        rw [KvR.none T.L.kr (inR T.ok) (λz=>z.1 hG0),hG0]
        rfl
      clear T
      rintro σ' H10 ⟨S,al,kvs,c,rfl,T,hval,hnum⟩
      obtain ⟨cs,ea,tp⟩:=hfam T
      have hcl:=tp.length
      refine ⟨_,rfl,.inl ⟨rfl,_,SqL.of T.eb⟩,_,rfl,fd,kvs,rfl,T.L.ed,_,rfl,pa,_,rfl,.inl ⟨SqL.of ea,λt ht=>?_⟩⟩
      have z4:Same H10 (upd H10 t (.tup (cs.map V.ref))):=Same.new ht
      have kt:KeyTT (upd H10 t (.tup (cs.map V.ref))) t G:=⟨cs,Zab,Paired.mapP tp λ_ _ e=>z4 _ _ e⟩
      have T11:=T.grow z4
      have ea11:=z4 _ _ ea
      generalize upd H10 t (.tup (cs.map V.ref))=H11 at T11 kt ea11 ⊢
      have hdl:=T11.cl
      rw [List.length_take] at hdl
      refine ⟨_,rfl,pa,_,rfl,.inl (SqL.of ea11),Zc2 kvs G,⟨kvs,G,t,T11.L.ed,T11.L.ks,rfl,kt,rfl⟩,?_⟩
      rw [List.length_map,<-hcl,hval]
      refine ⟨nb,_,_,rfl,rfl,T11.eb,(by rw [List.length_map];omega),?_⟩
      refine ⟨S,al,kvs,ds++[c],_,rfl,?_⟩
      rw [show ([Zbl r F,Zay r F].take (i+1))=[Zbl r F,Zay r F].take i++[G] from tk]
      have T12:=T11.num hnum f0 m1 m2 m3 m4 m5
      rw [tk] at T12
      exact T12
     ·rintro σ H9 ⟨S,al,kvs,ds,v9,rfl,T⟩
      obtain ⟨c1,h1,n1⟩:=T.nm 0 (Zbl r F) rfl
      obtain ⟨c2,h2,n2⟩:=T.nm 1 (Zay r F) rfl
      have hds:ds=[c1,c2]:=by
       have hl:ds.length=2:=T.cl
       match ds,hl,h1,h2 with
       | [a,b],_,h1,h2=>simp at h1 h2;rw [h1,h2]
      have eb:=T.eb
      rw [hds] at eb
      exact hk2 _ _ ⟨S,al,kvs,c1,c2,v9,rfl,T.L,T.ok,by have:=T.wS;simpa using this,eb,n1,n2⟩
    clear L8 L7 L flo8 fhi8 flo7 fhi enb nab hal hat s8 hnb
    rintro σ' H9 ⟨S,al,kvs,c1,c2,v9,rfl,L9,okS,hwS,eb,n1,n2⟩
    have node:Zd9 (R++S) F (r,c1,c2):=⟨hmin,n1,n2⟩
    have W9:Rw F0 (R++S) (ts++[(r,c1,c2)]) 840:=W.step hF okS hwS node
    have hm9:=W.meas (S:=S) (r:=(r,c1,c2)) hF hwS hmin
    have hxl:=L9.tr.len
    refine Zat (λσ' H'=>∃ t:Addr,σ'=[some (.ref l),some (.ref rw),some (.ref fd),some (.ref nl),some (.int (ts.length:Int)),some (.int r),some (.ref lo),some (.ref hi),some (.ref nb),v9]/\Li P w H H' rw fd nl (R++S) al kvs (xs++[.ref t]) (ts++[(r,c1,c2)])) ?s12 ?f12
    case f12=>
     intro hk2
     refine ⟨_,rfl,.inl ⟨rfl,_,SqL.of L9.en⟩,_,rfl,_,rfl,nb,_,_,_,rfl,rfl,SqL.of eb,Zan (j:=0) rfl,_,rfl,nb,_,_,_,rfl,rfl,SqL.of eb,Zan (j:=1) rfl,(by show 3<=sizeLine;decide),λt ht=>?_⟩
     have L10:=L9.grow (Same.new (o:=.tup [.int r,.int c1,.int c2]) ht)
     refine ⟨nl,_,_,rfl,rfl,L10.en,by omega,?_⟩
     exact hk2 _ _ ⟨t,rfl,L10.node (r:=(r,c1,c2)) Zab⟩
    rintro σ' H10 ⟨t,rfl,L10⟩
    refine ⟨_,rfl,_,_,rfl,rfl,?_⟩
    exact ⟨_,hm9,R++S,al,kvs,_,_,_,_,_,_,_,by rw [List.length_append,List.length_singleton];rfl,L10,W9,rfl⟩
   ·have c1':¬ ((ts.length:Int)<((al.map V.ref).length:Int)):=λz=>c1 (decide_eq_true z)
    rw [List.length_map,hal] at c1'
    have:=W.ln
    exact hk _ _ ⟨R,al,kvs,xs,ts,v5,v6,v7,v8,v9,rfl,L,W,by omega⟩
end
end M
namespace M
open PySem L2
theorem Zhs:bootBuiltins "max" = some (.builtin "max"):=by first | rfl | decide +kernel
theorem SqL.sameL {K:PySem.W.Frag} {H H':Hp} {a tb:Addr} {xs:List V} {ps:Array Value} (h:SqL K H a xs) (s:SameL tb H H') (e:H tb=some (.tbl ps)):SqL K H' a xs:=by
 rcases h with (h | ⟨o,h⟩) | h
 ·exact .inl (.inl (s _ _ (λz=>by rw [z,e] at h;cases h) h))
 ·exact .inl (.inr ⟨o,s _ _ (λz=>by rw [z,e] at h;cases h) h⟩)
 ·exact .inr h
theorem LamSt.pk {P d:Addr} {line col c c':Nat} {qual:Str} {H H':Hp} (h:LamSt P line col qual H) (k:Pk H H' d c) (p:Pool H d c'):LamSt P line col qual H':=by
 obtain ⟨_,_,_,e,_⟩:=p
 rcases h with h | ⟨x,h1,oc,h2,h3⟩
 ·exact .inl (k.keep _ _ (λz=>by rw [z,e] at h;cases h) h)
 ·exact .inr ⟨x,k.keep _ _ (λz=>by rw [z,e] at h1;cases h1) h1,oc,k.keep _ _ (λz=>by rw [z,e] at h2;cases h2) h2,h3⟩
structure Ds (d rl sl l l2:Addr) (ws:List (Addr×List Int)):Prop where
 r:rl≠d
 s:sl≠d
 z:∀ z∈ws,z.1≠d
 l:l≠d
 l2:l2≠d
structure Wd (tb d rl sl tp l hd l2:Addr) (rs:List Int) (ws:List (Addr×List Int)) (root:Int) (xs:List V) (ts:List Tri) (c:Nat) (H0 H:Hp):Prop where
 kp:∀ b o,b≠d->b≠tb->H0 b=some o->H b=some o
 ls:LS tb H
 po:Pool H d c
 r:H rl=some (.lst (rs.map V.int))
 s:H sl=some (.lst (ws.map λz=>V.ref z.1))
 z:Lz H ws
 t:TabAt H tp l root xs ts
 h:TabAt H hd l2 root xs ts
section
variable {tb d rl sl tp l hd l2:Addr} {rs:List Int} {ws:List (Addr×List Int)} {root:Int} {xs:List V} {ts:List Tri} {c c':Nat} {H0 H H':Hp}
theorem Wd.nt (W:Wd tb d rl sl tp l hd l2 rs ws root xs ts c H0 H) {b:Addr} {ys:List V} (e:H b=some (.lst ys)):b≠tb:=by
 obtain ⟨ps,e'⟩:=W.ls.tbl
 exact λz=>by rw [z,e'] at e;cases e
theorem Wd.tup (W:Wd tb d rl sl tp l hd l2 rs ws root xs ts c H0 H) {b:Addr} {ys:List V} (e:H b=some (.tup ys)):b≠tb/\b≠d:=by
 obtain ⟨ps,e'⟩:=W.ls.tbl
 obtain ⟨_,_,_,e2,_⟩:=W.po
 exact ⟨λz=>(by rw [z,e'] at e;cases e),λz=>(by rw [z,e2] at e;cases e)⟩
theorem Wd.go (W:Wd tb d rl sl tp l hd l2 rs ws root xs ts c H0 H) (D:Ds d rl sl l l2 ws) (k:∀ b o,b≠d->b≠tb->H b=some o->H' b=some o) (ls:LS tb H') (po:Pool H' d c'):Wd tb d rl sl tp l hd l2 rs ws root xs ts c' H0 H':=by
 have kl:∀ {b:Addr} {ys:List V},b≠d->H b=some (.lst ys)->H' b=some (.lst ys):=λn e=>k _ _ n (W.nt e) e
 have kt:∀ p ys,H p=some (.tup ys)->H' p=some (.tup ys):=λp ys e=>k _ _ (W.tup e).2 (W.tup e).1 e
 exact ⟨λb o n1 n2 e=>k b o n1 n2 (W.kp b o n1 n2 e),ls,po,kl D.r W.r,kl D.s W.s,λz hz=>kl (D.z z hz) (W.z z hz),⟨kt _ _ W.t.w,kl D.l W.t.l,W.t.t.keep kt⟩,⟨kt _ _ W.h.w,kl D.l2 W.h.l,W.h.t.keep kt⟩⟩
theorem Wd.same (W:Wd tb d rl sl tp l hd l2 rs ws root xs ts c H0 H) (D:Ds d rl sl l l2 ws) (s:Same H H'):Wd tb d rl sl tp l hd l2 rs ws root xs ts c H0 H':=W.go D (λb o _ _ e=>s b o e) (W.ls.same s) (W.po.same s)
theorem Wd.pk (W:Wd tb d rl sl tp l hd l2 rs ws root xs ts c H0 H) (D:Ds d rl sl l l2 ws) (k:Pk H H' d c'):Wd tb d rl sl tp l hd l2 rs ws root xs ts c' H0 H':=W.go D (λb o n _ e=>k.keep b o n e) (LamSt.pk W.ls k W.po) k.at_
theorem Wd.far (W:Wd tb d rl sl tp l hd l2 rs ws root xs ts c H0 H) (D:Ds d rl sl l l2 ws) (s:SameL tb H H') (ls:LS tb H'):Wd tb d rl sl tp l hd l2 rs ws root xs ts c H0 H':=W.go D (λb o _ n e=>s b o n e) ls (by
 obtain ⟨n,b,k,e,h⟩:=W.po
 exact ⟨n,b,k,s _ _ (W.nt e) e,h⟩)
theorem Wd.turn (W:Wd tb d rl sl tp l hd l2 rs ws root xs ts c H0 H) (hd0:H0 d=none):SameL tb H0 H:=λb o n e=>W.kp b o (Zag e hd0) n e
theorem Wd.eqs {K:PySem.W.Frag} (W:Wd tb d rl sl tp l hd l2 rs ws root xs ts c H0 H):∃ d1 d2:PyData,DatV K H (.ref hd) d1/\DatV K H (.ref tp) d2/\SeqAt.shaped d1=true/\SeqAt.shaped d2=true/\PyData.eqv d1 d2=true:=
 ⟨.tuple [.int root,.list (ts.map trD)],.tuple [.int root,.list (ts.map trD)],.tup (SqT.of W.h.w) (.cons (.int _) (.cons (.lst (SqL.of W.h.l) W.h.t.dats) .nil)),.tup (SqT.of W.t.w) (.cons (.int _) (.cons (.lst (SqL.of W.t.l) W.t.t.dats) .nil)),ZcX _ _,ZcX _ _,by rw [Ziu,decide_eq_true rfl,decide_eq_true rfl];rfl⟩
end
end M
namespace M
open PySem L2
structure ClsR (K:PySem.W.Frag) (mg:Str->Option Value) (no way a1 a2 a3 a4 a5 a6 a7 a8 a9 a10 a11 a12:Addr):Prop where
 k:Zkv K no
 mno:mg "NoWay" = some (.ref no)
 mway:mg "WayError" = some (.ref way)
 m1:mg "NoNumber" = some (.ref a1)
 m2:mg "TooMany" = some (.ref a2)
 m3:mg "NoEnds" = some (.ref a3)
 m4:mg "NoOrder" = some (.ref a4)
 m5:mg "NoPlace" = some (.ref a5)
 m6:mg "NoStep" = some (.ref a6)
 m7:mg "NoTable" = some (.ref a7)
 m8:mg "NoWall" = some (.ref a8)
 m9:mg "NoWeb" = some (.ref a9)
 m10:mg "NoName" = some (.ref a10)
 m11:mg "NoRow" = some (.ref a11)
 m12:mg "NoText" = some (.ref a12)
 wbe:PySem.W.subIn K (.ref way) (.type "BaseException")=some true
 cw:PySem.W.kitOne K (.ref no) (.ref way)=some true
 ne:no≠way
 o1:PySem.W.kitOne K (.ref no) (.ref a1)=some false
 o2:PySem.W.kitOne K (.ref no) (.ref a2)=some false
 t7:PySem.W.kitAny K (.ref no) [.ref a3,.ref a4,.ref a5,.ref a6,.ref a7,.ref a8,.ref a9]=some false
 t3:PySem.W.kitAny K (.ref no) [.ref a10,.ref a11,.ref a12]=some false
 ve:PySem.W.kitOne K (.ref no) (.type "ValueError")=some true
 isi:mg "isinstance" = none
 vee:mg "ValueError" = none
section
variable {K:PySem.W.Frag} {mg:Str->Option Value} {no way a1 a2 a3 a4 a5 a6 a7 a8 a9 a10 a11 a12:Addr}
theorem ClsR.cls (T:ClsR K mg no way a1 a2 a3 a4 a5 a6 a7 a8 a9 a10 a11 a12):PySem.W.kitCls K (.ref no) (.ref way)=some true:=by
 have h:=T.cw
 unfold PySem.W.kitOne at h
 rw [if_neg (by simpa using T.ne)] at h
 exact h
variable {P:Program} {w:World} {base:Heap}
def Zkh (no:Addr):Sp:=λvs H Q _=>∃ (a:Addr),vs=[.ref a,.int 1]/\H a=some (ZgW a no)/\∀ H':Hp,Same H H'->Q (.bl true) H'
theorem scLis:ZaA ["caught", "due", "kinds"] ["caught", "due"] (Zaf ZiS):=⟨rfl,rfl,rfl,by decide +kernel,rfl,by decide +kernel,by decide +kernel⟩
theorem Zki {f:Addr} {fd:FuncData} (F:Fun K "_law_is" "_law_is" ZiS f fd) (T:ClsR K mg no way a1 a2 a3 a4 a5 a6 a7 a8 a9 a10 a11 a12) (mRange:mg "range" = none):ZaX P w K mg base CX0 1 f fd ["caught", "due"] (Zkh no):=by
 refine F.ok scLis (λvs H Q E h=>?_) (λcdv A outer s H vs Q E hr h=>?_)
 ·obtain ⟨_,rfl,_⟩:=h
  rfl
 ·obtain ⟨a,rfl,ea,q⟩:=h
  have hu:=hr.units
  have h16:(16777216:Nat)=sizeLine:=sizeLine_eq.symm
  refine ⟨_,Zad (Zaj (i:=2) scLis.nd rfl (Or.inl rfl) (Zar (Zaa (Zaq (ZhC K) rfl T.isi Za7 (Zaa (pv 0) (Zaa (Zbb T.m1) Zac))) (Zaa (Zaq (ZhC K) rfl T.isi Za7 (Zaa (pv 0) (Zaa (Zbb T.mno) Zac))) (Zaa (Zaq (ZhC K) rfl T.isi Za7 (Zaa (pv 0) (Zaa (Zbb T.m2) Zac))) Zac)))))
    (Zad (Zbn (PW.pt (Zef (Zfx (ZdC (Zaq (ZhC K) rfl T.isi Za7 (Zaa (pv 0) (Zaa (ZfZ T.vee Zii) Zac))))) (ZcO (Zam (Zg1 K hu) (pv 2) (Zbs (own:=["k"]) rfl (Zaw (fr:=[("due", 1)]) [(".0", .local),("k", .local),("due", .cell)] rfl rfl (by decide +kernel) rfl (by decide +kernel) ⟨rfl,trivial⟩ ⟨λh=>Zbd h,λh=>Zbd h,λ_=>⟨_,rfl⟩,trivial⟩ ⟨⟨rfl,.inl rfl,.inl rfl⟩,trivial⟩) (Zbo rfl mRange (Zaa Zae Zac)) (λ_ _ _ _=>Zal (i:=0) (show List.Nodup (["k", "due"]:List Str) by decide +kernel) rfl (Or.inl rfl)) (λ_ _ _ _=>Zbz) (λ_ _ _ _=>Zeg Zc7 (pv 0) (pv 1) (Zax _))) (Zax _))))) (Zah (ZaD Zee)) ZaK)
    (Zad (Zbn (ZdC (Zaq (ZhC K) rfl T.isi Za7 (Zaa (pv 0) (Zaa (Zbr (Zaa (Zbb T.m3) (Zaa (Zbb T.m4) (Zaa (Zbb T.m5) (Zaa (Zbb T.m6) (Zaa (Zbb T.m7) (Zaa (Zbb T.m8) (Zaa (Zbb T.m9) Zac)))))))) Zac)))) (Zah (ZaD Zee)) ZaK)
    (Zah (ZaD (Zje (Zaq (ZhC K) rfl T.isi Za7 (Zaa (pv 0) (Zaa (Zbr (Zaa (Zbb T.m10) (Zaa (Zbb T.m11) (Zaa (Zbb T.m12) Zac)))) Zac)))))))),?_⟩
  refine ⟨_,rfl,_,_,false,rfl,?_,.inr (.inl ⟨a,no,rfl,ea,T.k,rfl,T.o1⟩)⟩
  refine ⟨_,rfl,_,_,true,rfl,?_,.inr (.inl ⟨a,no,rfl,ea,T.k,rfl,ZeK⟩)⟩
  refine ⟨_,rfl,_,_,false,rfl,?_,.inr (.inl ⟨a,no,rfl,ea,T.k,rfl,T.o2⟩)⟩
  refine ⟨(by show 3<=sizeLine;decide),λkl hkl=>?_⟩
  have s1:Same H (upd H kl (.lst [.bl false,.bl true,.bl false])):=Same.new hkl
  have ek:upd H kl (.lst [.bl false,.bl true,.bl false]) kl=some (.lst [.bl false,.bl true,.bl false]):=Zab
  generalize upd H kl (.lst [.bl false,.bl true,.bl false])=H1 at s1 ek ⊢
  refine ⟨_,rfl,_,_,true,rfl,⟨_,rfl,ZcK ?_⟩,.inr (.inl ⟨a,no,rfl,s1 _ _ ea,T.k,rfl,T.ve⟩)⟩
  refine ⟨_,rfl,_,rfl,by decide,by decide,λD hD=>?_⟩
  refine Zb7 (lo:=0) (n:=3) (λi ys H'=>Same H1 H'/\H' D=some (.lst ys)/\ys=(List.range i).map λj:Nat=>V.bl (decide (V.int (j:Int)=V.int 1))) ⟨Same.new hD,Zab,rfl⟩ ?_ ?_
  ·rintro i ys H2 hi ⟨s2,eD,rfl⟩
   rw [Int.zero_add]
   refine ⟨⟨rfl,trivial⟩,?_⟩
   unfold Zie
   refine Zeb ?_
   exact ⟨_,rfl,_,rfl,rfl,eD,by rw [List.length_map,List.length_range];omega,s2.put hD,Zab,by rw [List.range_succ,List.map_append];rfl⟩
  ·rintro ys H2 ⟨s2,eD,rfl⟩
   have eD':H2 D=some (.lst [.bl false,.bl true,.bl false]):=eD
   refine ⟨.list [.bool false,.bool true,.bool false],.list [.bool false,.bool true,.bool false],.lst (SqL.of (s2 _ _ ek)) (.cons (.bl _) (.cons (.bl _) (.cons (.bl _) .nil))),.lst (SqL.of eD') (.cons (.bl _) (.cons (.bl _) (.cons (.bl _) .nil))),by decide +kernel,by decide +kernel,_,rfl,?_⟩
   have eq:PyData.eqv (.list [.bool false,.bool true,.bool false]) (.list [.bool false,.bool true,.bool false])=true:=by decide +kernel
   rw [eq]
   refine ZcK ?_
   have S2:=s1.trans s2
   refine ⟨_,rfl,(by show 7<=sizeLine;decide),λt ht=>?_⟩
   have s3:Same H2 (upd H2 t (.tup [.ref a3,.ref a4,.ref a5,.ref a6,.ref a7,.ref a8,.ref a9])):=Same.new ht
   refine ⟨_,_,false,rfl,⟨_,rfl,ZcK ?_⟩,.inr (.inr ⟨a,no,t,_,rfl,s3 _ _ (S2 _ _ ea),T.k,rfl,Zab,rfl,T.t7⟩)⟩
   generalize upd H2 t (.tup [.ref a3,.ref a4,.ref a5,.ref a6,.ref a7,.ref a8,.ref a9])=H3 at s3 ⊢
   have S3:=S2.trans s3
   refine ⟨_,rfl,(by show 3<=sizeLine;decide),λt2 ht2=>?_⟩
   have s4:Same H3 (upd H3 t2 (.tup [.ref a10,.ref a11,.ref a12])):=Same.new ht2
   exact ⟨_,_,false,rfl,⟨_,rfl,q _ (S3.trans s4)⟩,.inr (.inr ⟨a,no,t2,_,rfl,s4 _ _ (S3 _ _ ea),T.k,rfl,Zab,rfl,T.t3⟩)⟩
end
section
variable {P:Program} {w:World} {K:PySem.W.Frag} {mg:Str->Option Value} {base:Heap}
def Zkj:Sp:=λvs H Q _=>∃ (d:Addr) (c n:Nat),vs=[.ref d,.int (n:Int)]/\Pool H d c/\c<700000/\n<=40 /\
 ∀ (l:Addr) (ks:List Int) (H':Hp),Pk H H' d (c+5)->H l=none->H' l=some (.lst (ks.map V.int))->(∀ k∈ks,0<=k/\k<(n:Int))->ks.length<=9->Q (.ref l) H'
theorem Zlt:ZaA ["pool", "many"] ["pool", "many"] (Zaf ZiR):=⟨rfl,rfl,rfl,by decide +kernel,rfl,by decide +kernel,by decide +kernel⟩
theorem Zkk {f fT:Addr} {fd fdT:FuncData} (F:Fun K "_law_some" "_law_some" ZiR f fd) (FT:Fun K "_law_take" "_law_take" Zfr fT fdT) (bT:Binds K fdT ["pool", "many"] []) (mT:mg "_law_take" = some (.ref fT)) (mRange:mg "range" = none) (mLst:mg "list" = none):ZaX P w K mg base CX0 2 f fd ["pool", "many"] Zkj:=by
 have GT:ZaX P w K mg base CX0 1 fT fdT ["pool", "many"] Zey:=Zc3 FT
 refine F.ok Zlt (λvs H Q E h=>?_) (λcdv A outer s H vs Q E hr h=>?_)
 ·obtain ⟨_,_,_,rfl,_⟩:=h
  rfl
 ·obtain ⟨d,c,n,rfl,hP,hc,hn,q⟩:=h
  have h16:(16777216:Nat)=sizeLine:=sizeLine_eq.symm
  refine ⟨_,Zad (Zbn (Zam ZfE (pv 1) Zae (Zax _)) (Zah (ZaD (ZaS (Zde rfl) rfl mLst ZcC (Zaa (Zij rfl mRange (Zaa (pv 1) Zac)) Zac)))) ZaK)
    (Zah (ZaD (Zak ZaO (Zar (Zaa Zae (Zaa Zae (Zaa (Zak Zbq (pv 1) Zae) (Zaa (Zak Zbq (pv 1) Zae) Zac))))) (Zbs (own:=["turn"]) rfl (Zaw (fr:=[("pool", 0),("many", 1)]) [(".0", .local),("turn", .local),("_law_take", .globalImplicit),("many", .cell),("pool", .cell)] rfl rfl (by decide +kernel) rfl (by decide +kernel) ⟨rfl,rfl,trivial⟩ ⟨λh=>Zbd h,λh=>Zbd h,λh=>Zbd h,λ_=>⟨_,rfl⟩,λ_=>⟨_,rfl⟩,trivial⟩ ⟨⟨rfl,.inl rfl,.inl rfl⟩,⟨rfl,.inl rfl,.inl rfl⟩,trivial⟩) (Zbo rfl mRange (Zaa Zae Zac)) (λ_ _ _ _=>Zal (i:=0) (show List.Nodup (["turn", "pool", "many"]:List Str) by decide +kernel) rfl (Or.inl rfl)) (λ_ _ _ _=>Zbz) (λ_ _ _ _=>Zai GT (hr.mono (by decide)) rfl mT FT.kp bT .nil ZaI (Zaa (pv 1) (Zaa (pv 2) Zac))))))),?_⟩
  refine ⟨_,rfl,_,_,rfl,rfl,_,rfl,Zck (λc1=>?_) (λc1=>?_)⟩
  ·have c1':(n:Int)<9:=of_decide_eq_true c1
   refine ⟨_,rfl,_,rfl,λr hr'=>⟨r,n,rfl,Zab,by omega,λl hl=>?_⟩⟩
   have s1:Same H (upd H r (.rng 0 (n:Int))):=Same.new hr'
   have s2:=s1.put (o:=.lst ((List.range n).map λi=>V.int ((i:Nat):Int))) (s1.free hl)
   refine q l ((List.range n).map λi=>((i:Nat):Int)) _ (((Pk.start hP).grow s2).mono (by omega)) (s1.free hl) (by rw [Zab,List.map_map];rfl) (λk hk=>?_) (by rw [List.length_map,List.length_range];omega)
   obtain ⟨i,hi,rfl⟩:=List.mem_map.mp hk
   have:=List.mem_range.mp hi
   omega
  ·have c1':¬ (n:Int)<9:=λz=>c1 (decide_eq_true z)
   dsimp only [Zc6]
   refine ⟨_,rfl,_,_,rfl,rfl,_,rfl,_,_,rfl,rfl,(by show 4<=sizeLine;decide),λp hp=>?_⟩
   have s1:Same H (upd H p (.lst [.int 0,.int 1,.int ((n:Int)-2),.int ((n:Int)-1)])):=Same.new hp
   have e1:upd H p (.lst [.int 0,.int 1,.int ((n:Int)-2),.int ((n:Int)-1)]) p=some (.lst (([0,1,(n:Int)-2,(n:Int)-1]:List Int).map V.int)):=Zab
   have npd:=Ne.symm (hP.ne hp)
   have K1:=(Pk.start hP).grow s1
   show Zif _ _ _ _ _ _ _ (upd H p (.lst [.int 0,.int 1,.int ((n:Int)-2),.int ((n:Int)-1)])) _
   generalize upd H p (.lst [.int 0,.int 1,.int ((n:Int)-2),.int ((n:Int)-1)])=H1 at s1 e1 K1 ⊢
   refine ⟨_,rfl,by decide,by decide,λD hD=>?_⟩
   have nD:=K1.at_.ne hD
   refine Zb7 (lo:=0) (n:=5) (λi ys H2=>∃ ks:List Int,ys=ks.map V.int/\ks.length=i/\(∀ k∈ks,0<=k/\k<(n:Int))/\Pk H1 H2 d (c+i)/\H2 D=some (.lst ys)) ⟨[],rfl,rfl,λk hk=>(by cases hk),(Pk.start K1.at_).new hD,Zab⟩ ?_ ?_
   ·rintro i ys H2 hi ⟨ks,rfl,hkl,hkr,k2,eD⟩
    refine ⟨⟨rfl,rfl,trivial⟩,?_⟩
    unfold Zie
    refine Zeb ?_
    refine ⟨_,rfl,_,rfl,d,c+i,(n:Int),rfl,k2.at_,by omega,by omega,Lt2.mono (p:=6) (show (n:Int).natAbs<2 ^ 6 by omega) (by decide),λr H3 a3 b3 k3=>?_⟩
    refine ⟨k3.keep _ _ (Ne.symm nD) eD,by rw [List.length_map];omega,ks++[r],by rw [List.map_append];rfl,by rw [List.length_append,List.length_singleton,hkl],λk hk=>?_,(k2.trans k3).put hD nD,Zab⟩
    rcases List.mem_append.mp hk with h | h
    ·exact hkr k h
    ·rw [List.mem_singleton.mp h]
     exact ⟨a3,b3⟩
   ·rintro ys H2 ⟨ks,rfl,hkl,hkr,k2,eD⟩
    refine ⟨p,D,_,_,rfl,rfl,k2.keep _ _ npd e1,eD,(by rw [List.length_map,List.length_map,hkl];show 4+5<=sizeLine;decide),λl hl=>?_⟩
    have s3:Same H2 (upd H2 l (.lst ((([0,1,(n:Int)-2,(n:Int)-1]:List Int).map V.int)++ks.map V.int))):=Same.new hl
    have K2:=K1.trans k2
    refine q l ([0,1,(n:Int)-2,(n:Int)-1]++ks) _ (K2.grow s3) (K2.free hl) (by rw [Zab,List.map_append]) (λk hk=>?_) (by rw [List.length_append,hkl];show 4+5<=9;decide)
    rcases List.mem_append.mp hk with h | h
    ·simp at h
     omega
    ·exact hkr k h
end
end M
namespace M
open PySem L2
theorem Zht (ns:List Int) (lo hi:Option Int):∃ ms:List Int,ZeD (ns.map V.int) lo hi=ms.map V.int/\ms.length<=ns.length:=by
 refine ⟨(ns.drop (HT.sIx ns.length 0 lo)).take (HT.sIx ns.length ns.length hi-HT.sIx ns.length 0 lo),?_,?_⟩
 ·unfold ZeD
  rw [List.length_map,List.map_take,List.map_drop]
 ·rw [List.length_take,List.length_drop]
  omega
def IL (d:Addr) (H0:Hp) (σ:St) (te:TE) (n:Nat):Prop:=∀ (H:Hp) (Q:VK),Same H0 H->(∀ (a:Addr) (ns:List Int) (H':Hp),Same H H'->H' a=some (.lst (ns.map V.int))->ns.length<=n->a≠d->Q (.ref a) H')->te σ H Q
def IO (σ:St) (t:TO):Prop:=∀ (H:Hp) (Q:Option Int->Hp->Prop),(∀ u,Q u H)->t σ H Q
section
variable {d:Addr} {H0:Hp} {σ:St} {te tf:TE} {tl th:TO} {n m c:Nat} {K:PySem.W.Frag}
theorem IO.none:IO σ Zc8:=λH Q q=>q _
theorem IO.var {i:Nat} {k:Int} (e:σ[i]?=some (some (.int k))):IO σ (Zh8 (ZgQ i)):=λH Q q=>⟨_,e,k,rfl,q _⟩
theorem IO.add {i:Nat} {k j:Int} {g:Int->Int->V} (e:σ[i]?=some (some (.int k))) (hg:∃ z,g k j=.int z):IO σ (Zh8 (tOp (rI0 g) (ZgQ i) (tC (.int j)))):=λH Q q=>by
 obtain ⟨z,hz⟩:=hg
 exact ⟨_,e,k,j,rfl,rfl,z,hz,q _⟩
theorem IL.var {i:Nat} {a:Addr} {ns:List Int} (e:σ[i]?=some (some (.ref a))) (ea:H0 a=some (.lst (ns.map V.int))) (hn:ns.length<=n) (hd:a≠d):IL d H0 σ (ZgQ i) n:=λH Q s q=>⟨_,e,q a ns H (Same.refl _) (s _ _ ea) hn hd⟩
theorem Pool.fr {H:Hp} {p:Addr} (P:Pool H0 d c) (s:Same H0 H) (h:H p=none):p≠d:=Ne.symm ((P.same s).ne h)
theorem IL.sl (P:Pool H0 d c) (h:IL d H0 σ te n) (hl:IO σ tl) (hh:IO σ th):IL d H0 σ (tSl (ZkS K) te tl th) n:=λH Q s q=>h H _ s λa ns H1 s1 ea hn _=>hl H1 _ λu=>hh H1 _ λv=>by
 refine ⟨a,_,rfl,SqL.of ea,λp hp=>?_⟩
 obtain ⟨ms,hms,hml⟩:=Zht ns u v
 rw [hms]
 exact q p ms _ (s1.put (s1.free hp)) Zab (by omega) (P.fr (s.trans s1) hp)
theorem IL.rev (P:Pool H0 d c) (h:IL d H0 σ te n):IL d H0 σ (Zk8 K te Zc8) n:=λH Q s q=>h H _ s λa ns H1 s1 ea hn _=>by
 refine ⟨a,_,rfl,SqL.of ea,.inl rfl,λp hp=>?_⟩
 rw [show ZlW none (ns.map V.int)=ns.reverse.map V.int by rw [List.map_reverse];rfl]
 exact q p ns.reverse _ (s1.put (s1.free hp)) Zab (by rw [List.length_reverse];exact hn) (P.fr (s.trans s1) hp)
theorem IL.cat (P:Pool H0 d c) (h:IL d H0 σ te n) (g:IL d H0 σ tf m) (hb:n+m<=sizeLine):IL d H0 σ (tOp ZlG te tf) (n+m):=λH Q s q=>h H _ s λa ns H1 s1 ea hn _=>g H1 _ (s.trans s1) λb ms H2 s2 eb hm _=>by
 refine ⟨a,b,_,_,rfl,rfl,s2 _ _ ea,eb,by rw [List.length_map,List.length_map];omega,λp hp=>?_⟩
 rw [<-List.map_append]
 have S:=s1.trans s2
 exact q p (ns++ms) _ (S.put (S.free hp)) Zab (by rw [List.length_append];omega) (P.fr (s.trans S) hp)
theorem IL.one (P:Pool H0 d c) {i:Nat} {k:Int} (e:σ[i]?=some (some (.int k))):IL d H0 σ (Zi7 (ZfM (ZgQ i) Zjm)) 1:=λH Q s q=>⟨_,e,(by show 1<=sizeLine;decide),λp hp=>q p [k] _ (Same.new hp) Zab (Nat.le_refl _) (P.fr s hp)⟩
theorem IL.sorted (P:Pool H0 d c) (h:IL d H0 σ te n):IL d H0 σ (tCB (ZhL K) (ZfM te Zjm)) n:=λH Q s q=>h H _ s λa ns H1 s1 ea hn _=>by
 refine ⟨a,ns,rfl,SqL.of ea,λl ns' hl pm _=>?_⟩
 exact q l ns' _ (s1.put (s1.free hl)) Zab (by rw [pm.length_eq];exact hn) (P.fr (s.trans s1) hl)
def ILs (d:Addr) (H0:Hp) (σ:St) (ta:TA) (m:Nat):Prop:=∀ (H:Hp) (Q:List V->Hp->Prop),Same H0 H->(∀ (us:List (Addr×List Int)) (H':Hp),Same H H'->Lz H' us->(∀ u∈us,u.1≠d)->us.length=m->Q (us.map λz=>V.ref z.1) H')->ta σ H Q
theorem ILs.nil:ILs d H0 σ Zjm 0:=λH Q s q=>q [] H (Same.refl _) (λz hz=>by cases hz) (λz hz=>by cases hz) rfl
theorem ILs.cons {ta:TA} (h:IL d H0 σ te n) (g:ILs d H0 σ ta m):ILs d H0 σ (ZfM te ta) (m+1):=λH Q s q=>h H _ s λa ns H1 s1 ea hn hd=>g H1 _ (s.trans s1) λus H2 s2 lz nd hl=>by
 refine q ((a,ns)::us) H2 (s1.trans s2) (λz hz=>?_) (λz hz=>?_) (by rw [List.length_cons,hl])
 ·rcases List.mem_cons.mp hz with rfl | hz
  ·exact s2 _ _ ea
  ·exact lz z hz
 ·rcases List.mem_cons.mp hz with rfl | hz
  ·exact hd
  ·exact nd z hz
end
end M
namespace M
open PySem L2
section
variable {P:Program} {w:World} {K:PySem.W.Frag} {mg:Str->Option Value} {base:Heap}
def Zkl (tb:Addr):Sp:=λvs H Q _=>∃ (tp l rl:Addr) (root:Int) (xs:List V) (ts:List Tri) (rs:List Int) (F:List (List Int)),vs=[.ref tp,.ref rl]/\TabAt H tp l root xs ts/\TabOk ts/\At ts root (-1)/\ts.length<=900/\LS tb H/\SO ts root F/\H rl=some (.lst (rs.map V.int)) /\
 (rs ∉ F->∀ (t:Addr) (H':Hp),SameL tb H H'->LS tb H'->H' t=some (.lst [.str "refused", .bl true])->Q (.ref t) H')/\(∀ (k:Nat),F[k]?=some rs->∀ (t:Addr) (H':Hp),SameL tb H H'->LS tb H'->H' t=some (.lst [.str "told", .int (k:Int)])->Q (.ref t) H')
theorem scTol:ZaA ["table", "roads", "caught", "found", "e"] ["table", "roads"] (Zaf ZiT):=⟨rfl,rfl,rfl,by decide +kernel,rfl,by decide +kernel,by decide +kernel⟩
theorem Zkm {f fNs fJ tb no way a1 a2 a3 a4 a5 a6 a7 a8 a9 a10 a11 a12:Addr} {fd fdNs fdJ:FuncData} (F:Fun K "_law_told" "_law_told" ZiT f fd) (T:ClsR K mg no way a1 a2 a3 a4 a5 a6 a7 a8 a9 a10 a11 a12)
  (FNs:Fun K "number_of_set" "number_of_set" ZhQ fNs fdNs) (bNs:Binds K fdNs ["table", "roads"] []) (mNs:mg "number_of_set" = some (.ref fNs)) (GNs:ZaX P w K mg base (CXr P w) 3 fNs fdNs ["table", "roads"] (Zj1 tb no))
  (FJ:Fun K "_law_is" "_law_is" ZiS fJ fdJ) (bJ:Binds K fdJ ["caught", "due"] []) (mJ:mg "_law_is" = some (.ref fJ)) (mRange:mg "range" = none):ZaX P w K mg base CX0 4 f fd ["table", "roads"] (Zkl tb):=by
 have GJ:ZaX P w K mg base CX0 1 fJ fdJ ["caught", "due"] (Zkh no):=Zki FJ T mRange
 refine F.ok scTol (λvs H Q E h=>?_) (λcdv A outer s H vs Q E hr h=>?_)
 ·obtain ⟨_,_,_,_,_,_,_,_,rfl,_⟩:=h
  rfl
 ·obtain ⟨tp,l,rl,root,xs,ts,rs,F,rfl,W,To,ar,hts,st,hF,er,qE,qQ⟩:=h
  refine ⟨_,Zad (Zaj (i:=2) scTol.nd rfl (Or.inl rfl) Zfw)
    (Zad (Zaj (i:=3) scTol.nd rfl (Or.inl rfl) Zfw)
    (Zad (Zik (i:=4) (ZjK (j:=3) GNs (hr.mono (by decide)) rfl mNs FNs.kp bNs .nil (Zaa (pv 0) (Zaa (pv 1) Zac)) scTol.nd rfl (Or.inl rfl)) rfl rfl rfl rfl scTol.nd rfl rfl rfl T.mway T.wbe (λa=>Zah (Zaj (i:=2) scTol.nd rfl (Or.inl rfl) (pv 4))))
    (Zad (Zbn (Zam Zjk (pv 2) Zfw (Zax _)) (Zah (ZaD (Zar (Zaa ZcN (Zaa (pv 3) Zac))))) ZaK)
    (Zah (ZaD (Zar (Zaa ZcN (Zaa (Zai GJ (hr.mono (by decide)) rfl mJ FJ.kp bJ .nil ZaI (Zaa (pv 2) (Zaa Zae Zac))) Zac)))))))),?_⟩
  refine Zat (λσ' H'=>σ'=[some (.ref tp),some (.ref rl),some .non,none,none]/\H=H') ?sa ?fa
  case fa=>exact λhk'=>hk' _ _ ⟨rfl,rfl⟩
  rintro σ' H' ⟨rfl,rfl⟩
  refine Zat (λσ' H'=>σ'=[some (.ref tp),some (.ref rl),some .non,some .non,none]/\H=H') ?sb ?fb
  case fb=>exact λhk'=>hk' _ _ ⟨rfl,rfl⟩
  rintro σ' H' ⟨rfl,rfl⟩
  refine Zat (λσ' H'=>SameL tb H H'/\LS tb H'/\∃ v4:Option V,((∃ a,σ'=[some (.ref tp),some (.ref rl),some (.ref a),some .non,v4]/\H' a=some (ZgW a no)/\rs ∉ F)\/∃ k:Nat,σ'=[some (.ref tp),some (.ref rl),some .non,some (.int (k:Int)),v4]/\F[k]?=some rs)) ?sc ?fc
  case fc=>
   intro hk'
   refine ⟨_,rfl,_,rfl,tp,l,rl,root,xs,ts,rs,F,rfl,W,To,ar,hts,st,hF,er,λhno H1 sl st1=>?_,λk hk H1 sl st1=>?_⟩
   ·refine ⟨no,rfl,T.cls,λa ha=>?_⟩
    have s1:Same H1 (upd H1 a (ZgW a no)):=Same.new ha
    refine ⟨_,rfl,?_⟩
    exact hk' _ _ ⟨sl.trans (.of s1),st1.same s1,_,.inl ⟨a,rfl,Zab,hno⟩⟩
   ·exact hk' _ _ ⟨sl,st1,none,.inr ⟨k,rfl,hk⟩⟩
  rintro σ' H1 ⟨sl,st1,v4,⟨a,rfl,ea,hno⟩ | ⟨k,rfl,hk⟩⟩
  ·refine ⟨_,rfl,rfl,_,rfl,ZcK ?_⟩
   dsimp only [Zc6]
   refine ⟨_,rfl,a,rfl,ea,λH2 s2=>⟨ZbO,λt ht=>?_⟩⟩
   have s3:Same H2 (upd H2 t (.lst [.str "refused", .bl true])):=Same.new ht
   exact qE hno t _ (sl.trans (.of (s2.trans s3))) (st1.same (s2.trans s3)) Zab
  ·refine ⟨_,rfl,rfl,_,rfl,Zeb ?_⟩
   refine ⟨_,rfl,ZbO,λt ht=>?_⟩
   have s3:Same H1 (upd H1 t (.lst [.str "told", .int (k:Int)])):=Same.new ht
   exact qQ k hk t _ (sl.trans (.of s3)) (st1.same s3) Zab
def Zkn:Sp:=λvs H Q _=>∃ (d ol rl:Addr) (c:Nat) (os rs:List Int),vs=[.ref d,.ref ol,.ref rl]/\Pool H d c/\c<700000/\ol≠d/\rl≠d/\H ol=some (.lst (os.map V.int))/\os.length<=12/\H rl=some (.lst (rs.map V.int))/\rs.length<=12 /\
 ∀ (l:Addr) (us:List (Addr×List Int)) (H':Hp),Pk H H' d (c+15)->H l=none->H' l=some (.lst (us.map λz=>V.ref z.1))->Lz H' us->(∀ u∈us,u.1≠d)->us.length=9->Q (.ref l) H'
theorem scOth:ZaA ["pool", "one", "roads", "at", "some", "road", "rows"] ["pool", "one", "roads"] (Zaf ZiU):=⟨rfl,rfl,rfl,by decide +kernel,rfl,by decide +kernel,by decide +kernel⟩
theorem Zko {f fT fS:Addr} {fd fdT fdS:FuncData} (F:Fun K "_law_others" "_law_others" ZiU f fd) (FT:Fun K "_law_take" "_law_take" Zfr fT fdT) (bT:Binds K fdT ["pool", "many"] []) (mT:mg "_law_take" = some (.ref fT))
  (FS:Fun K "_law_set" "_law_set" ZhR fS fdS) (bS:Binds K fdS ["pool", "roads"] []) (mS:mg "_law_set" = some (.ref fS)) (mLen:mg "len" = none) (mSor:mg "sorted" = none):ZaX P w K mg base CX0 3 f fd ["pool", "one", "roads"] Zkn:=by
 have GT:ZaX P w K mg base CX0 1 fT fdT ["pool", "many"] Zey:=Zc3 FT
 have GS:ZaX P w K mg base CX0 2 fS fdS ["pool", "roads"] ZiZ:=ZhV FS FT bT mT
 refine F.ok scOth (λvs H Q E h=>?_) (λcdv A outer s H vs Q E hr h=>?_)
 ·obtain ⟨_,_,_,_,_,_,rfl,_⟩:=h
  rfl
 ·obtain ⟨d,ol,rl,c,os,rs,rfl,hP,hc,nod,nrd,eo,hol,er,hrl,q⟩:=h
  have h16:(16777216:Nat)=sizeLine:=sizeLine_eq.symm
  refine ⟨_,Zad (Zaj (i:=3) scOth.nd rfl (Or.inl rfl) (Zai GT (hr.mono (by decide)) rfl mT FT.kp bT .nil ZaI (Zaa (pv 0) (Zaa (Zak ZaR (Zaq (Zfq K) rfl mLen PySem.boot_len (Zaa (pv 1) Zac)) Zae) Zac))))
    (Zad (Zaj (i:=4) scOth.nd rfl (Or.inl rfl) (Zak ZaO (pv 2) (Zar (Zaa Zae (Zaa Zae (Zaa (ZfA ZcD Zae) (Zaa (Zak ZeA Zae Zae) Zac)))))))
    (Zad (Zaj (i:=5) scOth.nd rfl (Or.inl rfl) (ZaC (Zbu K) (pv 4) (Zai GT (hr.mono (by decide)) rfl mT FT.kp bT .nil ZaI (Zaa (pv 0) (Zaa (Zaq (Zfq K) rfl mLen PySem.boot_len (Zaa (pv 4) Zac)) Zac))) (λ_ _=>rfl)))
    (Zad (Zaj (i:=6) scOth.nd rfl (Or.inl rfl) (Zar (Zaa (Zak ZaO (Zak ZaO (ZaH (kSl K) (pv 1) ZaT (ZaL (pv 3))) (Zar (Zaa (pv 5) Zac))) (ZaH (kSl K) (pv 1) (ZaL (pv 3)) ZaT)) (Zaa (Zak ZaO (ZaH (kSl K) (pv 1) ZaT (ZaL (pv 3))) (ZaH (kSl K) (pv 1) (ZaL (Zak ZaR (pv 3) Zae)) ZaT)) (Zaa (Zak ZaO (Zak ZaO (ZaH (kSl K) (pv 1) ZaT (ZaL (pv 3))) (Zar (Zaa (pv 5) Zac))) (ZaH (kSl K) (pv 1) (ZaL (Zak ZaR (pv 3) Zae)) ZaT)) Zac)))))
    (Zad (Zaj (i:=6) scOth.nd rfl (Or.inl rfl) (Zak ZaO (pv 6) (Zar (Zaa (Zga K (pv 1) ZaT (ZfA ZcD Zae)) (Zaa (Zak ZaO (Zak ZaO (ZaH (kSl K) (pv 1) ZaT (ZaL (pv 3))) (ZaH (kSl K) (pv 1) (ZaL (pv 3)) (ZaL (Zak ZaR (pv 3) Zae)))) (ZaH (kSl K) (pv 1) (ZaL (pv 3)) ZaT)) (Zaa (Zaq (ZhM K) rfl mSor PyProof.Rows.boot_sorted (Zaa (Zak ZaO (pv 1) (Zar (Zaa (pv 5) Zac))) Zac)) (Zaa (Zak ZaO (pv 1) (pv 1)) Zac)))))))
    (Zah (ZaD (Zak ZaO (pv 6) (Zar (Zaa (Zak ZaO (Zak ZaO (ZaH (kSl K) (pv 1) ZaT (ZaL (pv 3))) (Zfo K (ZaH (kSl K) (pv 1) (ZaL (pv 3)) (ZaL (Zak ZaR (pv 3) Zae))) (ZfA ZcD Zae))) (ZaH (kSl K) (pv 1) (ZaL (Zak ZaR (pv 3) Zae)) ZaT)) (Zaa (Zai GS (hr.mono (by decide)) rfl mS FS.kp bS .nil ZaI (Zaa (pv 0) (Zaa (pv 2) Zac))) Zac)))))))))),?_⟩
  refine ⟨_,rfl,_,rfl,ol,_,rfl,.inl (SqL.of eo),_,_,rfl,rfl,d,c,_,rfl,hP,by omega,by rw [List.length_map];omega,Lt2.mono (p:=6) (by rw [List.length_map];show ((os.length:Int)+1).natAbs<2 ^ 6;omega) (by decide),λat' H1 a1 b1 k1=>?_⟩
  have er1:=k1.keep _ _ nrd er
  have eo1:=k1.keep _ _ nod eo
  dsimp only [Za2]
  refine Zat (λσ' H'=>∃ (sm:Addr) (ss:List Int),σ'=[some (.ref d),some (.ref ol),some (.ref rl),some (.int at'),some (.ref sm),none,none]/\Same H1 H'/\H1 sm=none/\H' sm=some (.lst (ss.map V.int))/\ss.length<=16/\0<ss.length) ?s0 ?f0
  case f0=>
   intro hk
   refine ⟨_,rfl,_,rfl,_,_,rfl,rfl,⟨by decide,by decide,by decide⟩,(by show 4<=sizeLine;decide),λp hp=>?_⟩
   refine ⟨rl,p,_,_,rfl,rfl,Same.new hp _ _ er1,Zab,(by rw [List.length_map];show rs.length+4<=sizeLine;omega),λp2 hp2=>?_⟩
   have s2:Same H1 (upd H1 p (.lst [.int 29,.int 28,.int (-1),.int (10 ^ Int.toNat 30)])):=Same.new hp
   refine hk _ _ ⟨p2,rs++[29,28,-1,10 ^ Int.toNat 30],rfl,s2.put (s2.free hp2),s2.free hp2,by rw [Zab,List.map_append];rfl,by rw [List.length_append];show rs.length+4<=16;omega,by rw [List.length_append];show 0<rs.length+4;omega⟩
  rintro σ' H2 ⟨sm,ss,rfl,s2,hsm,es,hsl,hs0⟩
  have k2:=k1.grow s2
  have nsd:=Ne.symm (k1.at_.ne hsm)
  refine ⟨_,rfl,_,rfl,_,rfl,sm,_,rfl,.inl (SqL.of es),d,c+1,_,rfl,k2.at_,by omega,by rw [List.length_map];omega,Lt2.mono (p:=6) (by rw [List.length_map];show (ss.length:Int).natAbs<2 ^ 6;omega) (by decide),λr3 H3 a3 b3 k3=>?_⟩
  rw [List.length_map] at b3
  obtain ⟨x,_,ex⟩:=Zd7 (xs:=ss) a3 b3
  refine ⟨sm,_,_,_,rfl,rfl,SqL.of (k3.keep _ _ nsd es),ex,?_⟩
  have K3:=k2.trans k3
  have eo3:=K3.keep _ _ nod eo
  have er3:=K3.keep _ _ nrd er
  have po3:=K3.at_
  dsimp only [Za2]
  refine Zat (λσ' H'=>∃ (ro:Addr) (us:List (Addr×List Int)),σ'=[some (.ref d),some (.ref ol),some (.ref rl),some (.int at'),some (.ref sm),some (.int x),some (.ref ro)]/\Same H3 H'/\H' ro=some (.lst (us.map λz=>V.ref z.1))/\Lz H' us/\(∀ u∈us,u.1≠d)/\us.length=3) ?s1 ?f1
  case f1=>
   intro hk
   have V1:IL d H3 [some (.ref d),some (.ref ol),some (.ref rl),some (.int at'),some (.ref sm),some (.int x),none] (ZgQ 1) 12:=.var rfl eo3 hol nod
   have C1:=V1.sl (K:=K) po3 .none (.var (i:=3) rfl)
   have C2:=V1.sl (K:=K) po3 (.var (i:=3) rfl) .none
   have C3:=V1.sl (K:=K) po3 (.add (i:=3) (j:=1) (g:=λi j=>V.int (i+j)) rfl ⟨_,rfl⟩) .none
   have O1:=IL.one (d:=d) (H0:=H3) (σ:=[some (.ref d),some (.ref ol),some (.ref rl),some (.int at'),some (.ref sm),some (.int x),none]) po3 (i:=5) (k:=x) rfl
   have A1:=(C1.cat po3 O1 (by omega)).cat po3 C2 (by omega)
   have A2:=C1.cat po3 C3 (by omega)
   have A3:=(C1.cat po3 O1 (by omega)).cat po3 C3 (by omega)
   have R1:=ILs.cons A1 (ILs.cons A2 (ILs.cons A3 ILs.nil))
   show Zi7 _ [some (.ref d),some (.ref ol),some (.ref rl),some (.int at'),some (.ref sm),some (.int x),none] H3 _
   unfold Zi7
   refine R1 H3 _ (Same.refl _) λus H4 s4 lz nd hl=>⟨by rw [List.length_map,hl];decide,λro hro=>?_⟩
   have s5:Same H4 (upd H4 ro (.lst (us.map λz=>V.ref z.1))):=Same.new hro
   exact hk _ _ ⟨ro,us,rfl,s4.trans s5,Zab,lz.same s5,nd,hl⟩
  rintro σ' H4 ⟨ro,us,rfl,s4,ero,lz,nd,hul⟩
  have po4:=po3.same s4
  have eo4:=s4 _ _ eo3
  refine Zat (λσ' H'=>∃ (ro:Addr) (us:List (Addr×List Int)),σ'=[some (.ref d),some (.ref ol),some (.ref rl),some (.int at'),some (.ref sm),some (.int x),some (.ref ro)]/\Same H4 H'/\H' ro=some (.lst (us.map λz=>V.ref z.1))/\Lz H' us/\(∀ u∈us,u.1≠d)/\us.length=7/\ro≠d) ?s2 ?f2
  case f2=>
   intro hk
   have V1:IL d H4 [some (.ref d),some (.ref ol),some (.ref rl),some (.int at'),some (.ref sm),some (.int x),some (.ref ro)] (ZgQ 1) 12:=.var rfl eo4 hol nod
   have C1:=V1.sl (K:=K) po4 .none (.var (i:=3) rfl)
   have C2:=V1.sl (K:=K) po4 (.var (i:=3) rfl) .none
   have C4:=V1.sl (K:=K) po4 (.var (i:=3) rfl) (.add (i:=3) (j:=1) (g:=λi j=>V.int (i+j)) rfl ⟨_,rfl⟩)
   have O1:=IL.one (d:=d) (H0:=H4) (σ:=[some (.ref d),some (.ref ol),some (.ref rl),some (.int at'),some (.ref sm),some (.int x),some (.ref ro)]) po4 (i:=5) (k:=x) rfl
   have B1:=V1.rev (K:=K) po4
   have B2:=(C1.cat po4 C4 (by omega)).cat po4 C2 (by omega)
   have B3:=(V1.cat po4 O1 (by omega)).sorted (K:=K) po4
   have B4:=V1.cat po4 V1 (by omega)
   have R2:=ILs.cons B1 (ILs.cons B2 (ILs.cons B3 (ILs.cons B4 ILs.nil)))
   refine ⟨_,rfl,?_⟩
   show Zi7 _ [some (.ref d),some (.ref ol),some (.ref rl),some (.int at'),some (.ref sm),some (.int x),some (.ref ro)] H4 _
   unfold Zi7
   refine R2 H4 _ (Same.refl _) λvs H5 s5 lz5 nd5 hl5=>⟨by rw [List.length_map,hl5];decide,λp hp=>?_⟩
   have s6:Same H5 (upd H5 p (.lst (vs.map λz=>V.ref z.1))):=Same.new hp
   refine ⟨ro,p,_,_,rfl,rfl,s6 _ _ (s5 _ _ ero),Zab,(by rw [List.length_map,List.length_map];omega),λr2 hr2=>?_⟩
   have S6:=s5.trans s6
   have s7:Same (upd H5 p (.lst (vs.map λz=>V.ref z.1))) (upd (upd H5 p (.lst (vs.map λz=>V.ref z.1))) r2 (.lst ((us.map λz=>V.ref z.1)++vs.map λz=>V.ref z.1))):=Same.new hr2
   refine hk _ _ ⟨r2,us++vs,rfl,S6.trans s7,by rw [Zab,List.map_append],λu hu=>?_,λu hu=>?_,by rw [List.length_append,hul,hl5],po4.fr S6 hr2⟩
   ·rcases List.mem_append.mp hu with h | h
    ·exact s7 _ _ (S6 _ _ (lz u h))
    ·exact s7 _ _ (s6 _ _ (lz5 u h))
   ·rcases List.mem_append.mp hu with h | h
    ·exact nd u h
    ·exact nd5 u h
  clear ero lz nd hul us ro
  rintro σ' H5 ⟨ro,us,rfl,s5,ero,lz,nd,hul,nro⟩
  have po5:=po4.same s5
  have eo5:=s5 _ _ eo4
  have er5:=s5 _ _ (s4 _ _ er3)
  have V1:IL d H5 [some (.ref d),some (.ref ol),some (.ref rl),some (.int at'),some (.ref sm),some (.int x),some (.ref ro)] (ZgQ 1) 12:=.var rfl eo5 hol nod
  have C1:=V1.sl (K:=K) po5 .none (.var (i:=3) rfl)
  have C5:=(V1.sl (K:=K) po5 (.var (i:=3) rfl) (.add (i:=3) (j:=2) (g:=λi j=>V.int (i+j)) rfl ⟨_,rfl⟩)).rev (K:=K) po5
  have C6:=V1.sl (K:=K) po5 (.add (i:=3) (j:=2) (g:=λi j=>V.int (i+j)) rfl ⟨_,rfl⟩) .none
  have D1:=(C1.cat po5 C5 (by omega)).cat po5 C6 (by omega)
  refine ⟨_,rfl,?_⟩
  refine D1 H5 _ (Same.refl _) λa ns H6 s6 ea hn nad=>?_
  refine ⟨_,rfl,_,rfl,d,rl,c+2,rs,rfl,po5.same s6,by omega,nrd,s6 _ _ er5,hrl,λb ms H7 k7 hb eb _=>?_⟩
  have K6:Pk H H6 d (c+2):=((K3.grow s4).grow s5).grow s6
  have K7:=K6.trans k7
  have nbd:=Ne.symm ((po5.same s6).ne hb)
  refine ⟨ZbO,λp hp=>?_⟩
  have s8:Same H7 (upd H7 p (.lst [.ref a,.ref b])):=Same.new hp
  refine ⟨ro,p,_,_,rfl,rfl,s8 _ _ (k7.keep _ _ nro (s6 _ _ ero)),Zab,(by rw [List.length_map,hul];show 7+2<=sizeLine;decide),λr2 hr2=>?_⟩
  have s9:Same (upd H7 p (.lst [.ref a,.ref b])) (upd (upd H7 p (.lst [.ref a,.ref b])) r2 (.lst ((us.map λz=>V.ref z.1)++[.ref a,.ref b]))):=Same.new hr2
  have S9:=s8.trans s9
  refine q r2 (us++[(a,ns),(b,ms)]) _ ((K7.grow S9)) (K7.free (s8.free hr2)) (by rw [Zab,List.map_append];rfl) (λu hu=>?_) (λu hu=>?_) (by rw [List.length_append,hul];rfl)
  ·rcases List.mem_append.mp hu with h | h
   ·exact S9 _ _ (k7.keep _ _ (nd u h) (s6 _ _ (lz u h)))
   ·simp at h
    rcases h with rfl | rfl
    ·exact S9 _ _ (k7.keep _ _ nad ea)
    ·exact S9 _ _ eb
  ·rcases List.mem_append.mp hu with h | h
   ·exact nd u h
   ·simp at h
    rcases h with rfl | rfl
    ·exact nad
    ·exact nbd
end
end M
namespace M
open PySem L2
theorem nodup_ix {α:Type} {l:List α} (nd:l.Nodup) {i j:Nat} {x:α} (hi:l[i]?=some x) (hj:l[j]?=some x):i=j:=by
 obtain ⟨a1,a2⟩:=List.getElem?_eq_some_iff.mp hi
 obtain ⟨b1,b2⟩:=List.getElem?_eq_some_iff.mp hj
 rcases Nat.lt_trichotomy i j with h | h | h
 ·exact absurd (a2.trans b2.symm) (List.pairwise_iff_getElem.mp nd i j a1 b1 h)
 ·exact h
 ·exact absurd (b2.trans a2.symm) (List.pairwise_iff_getElem.mp nd j i b1 a1 h)
theorem Ze4 (ls:List (List Int)):∀ e∈Zci ls,SeqAt.shaped e=true:=λe he=>by
 unfold Zci at he
 obtain ⟨l,_,rfl⟩:=List.mem_map.mp he
 exact ZaJ l
theorem Zi4 (ls:List (List Int)) (b:List Int):(Zci ls).any (λe=>PyData.eqv e (.list (b.map PyData.int)))=decide (b∈ls):=by
 unfold Zci
 rw [List.any_map]
 induction ls with
 | nil=>rfl
 | cons l ls ih=>
  rw [List.any_cons,ih]
  show (PyData.eqv (.list (l.map PyData.int)) (.list (b.map PyData.int)) || _)=_
  rw [Za8]
  by_cases h1:l=b
  ·simp [h1]
  ·have h1':¬ b=l:=λz=>h1 z.symm
   simp [h1,h1']
theorem ZhZ (ls:List (List Int)) (m:Nat):(Zci ls)[m]?=(ls[m]?).map λl=>PyData.list (l.map PyData.int):=by
 unfold Zci
 rw [List.getElem?_map]
def ZnB (x:Str) (e:PyData):PyData:=.list [.str x,e]
theorem Zc5 {x:Str} (h:PyData.strOk x=true) (k:Int):SeqAt.shaped (.list [.str x,.int k])=true:=by
 unfold SeqAt.shaped
 rw [Bool.and_eq_true]
 exact ⟨by simp [PyData.canLay0,PyData.canLayAll0,h],decide_eq_true (by simp [PyData.depth,PyData.depthAll])⟩
theorem ZcJ {x:Str} (h:PyData.strOk x=true) (k:Bool):SeqAt.shaped (.list [.str x,.bool k])=true:=by
 unfold SeqAt.shaped
 rw [Bool.and_eq_true]
 exact ⟨by simp [PyData.canLay0,PyData.canLayAll0,h],decide_eq_true (by simp [PyData.depth,PyData.depthAll])⟩
theorem Zi5 (x:Str) (k:Int):PyData.eqv (.list [.str x,.int k]) (.list [.str x,.int k])=true:=by
 simp [PyData.eqv,PyData.eqvAll]
theorem Zhu (x:Str) (k:Bool):PyData.eqv (.list [.str x,.bool k]) (.list [.str x,.bool k])=true:=by
 simp [PyData.eqv,PyData.eqvAll]
theorem ZbF {x:Str} (h:PyData.strOk x=true):SeqAt.shaped (.str x)=true:=by
 unfold SeqAt.shaped
 rw [Bool.and_eq_true]
 exact ⟨by simp [PyData.canLay0,h],decide_eq_true (by simp [PyData.depth])⟩
section
variable {P:Program} {w:World} {K:PySem.W.Frag} {mg:Str->Option Value} {base:Heap}
def Zhv (K:PySem.W.Frag) (tb:Addr):Sp:=λvs H Q _=>∃ (a:Addr) (ns:List Int),vs=[.ref a]/\SqL K H a (ns.map V.int)/\ns.length<=63/\H tb=some (.tbl #[])/\∀ H',Q (.bl true) H'
theorem scLaw:ZaA ["script", "k", "pool", "roads", "sets", "table", "handed", "rows", "one", "due", "given", "found"] ["script"] (Zaf ZgF):=⟨rfl,rfl,rfl,by decide +kernel,rfl,by decide +kernel,by decide +kernel⟩
theorem Zkp {f fP fR fFa fTb fSm fOt fTo tb:Addr} {fd fdP fdR fdFa fdTb fdSm fdOt fdTo:FuncData} (F:Fun K "law" "law" ZgF f fd)
  (FP:Fun K "_law_pool" "_law_pool" ZiN fP fdP) (bP:Binds K fdP ["script", "k"] []) (mP:mg "_law_pool" = some (.ref fP)) (GP:ZaX P w K mg base CX0 1 fP fdP ["script", "k"] (Zj3 (K:=K)))
  (FR:Fun K "_law_roads" "_law_roads" ZiO fR fdR) (bR:Binds K fdR ["pool"] []) (mR:mg "_law_roads" = some (.ref fR)) (GR:ZaX P w K mg base CX0 2 fR fdR ["pool"] Zj6)
  (FFa:Fun K "_law_family" "_law_family" ZiQ fFa fdFa) (bFa:Binds K fdFa ["pool", "roads"] []) (mFa:mg "_law_family" = some (.ref fFa)) (GFa:ZaX P w K mg base CX0 3 fFa fdFa ["pool", "roads"] Zka)
  (FTb:Fun K "_law_table" "_law_table" ZhT fTb fdTb) (bTb:Binds K fdTb ["sets"] []) (mTb:mg "_law_table" = some (.ref fTb)) (GTb:ZaX P w K mg base CX0 2 fTb fdTb ["sets"] Zkf)
  (FSm:Fun K "_law_some" "_law_some" ZiR fSm fdSm) (bSm:Binds K fdSm ["pool", "many"] []) (mSm:mg "_law_some" = some (.ref fSm)) (GSm:ZaX P w K mg base CX0 2 fSm fdSm ["pool", "many"] Zkj)
  (FOt:Fun K "_law_others" "_law_others" ZiU fOt fdOt) (bOt:Binds K fdOt ["pool", "one", "roads"] []) (mOt:mg "_law_others" = some (.ref fOt)) (GOt:ZaX P w K mg base CX0 3 fOt fdOt ["pool", "one", "roads"] Zkn)
  (FTo:Fun K "_law_told" "_law_told" ZiT fTo fdTo) (bTo:Binds K fdTo ["table", "roads"] []) (mTo:mg "_law_told" = some (.ref fTo)) (GTo:ZaX P w K mg base CX0 4 fTo fdTo ["table", "roads"] (Zkl tb))
  (kib:PySem.W.kitOne K (.type "int") (.type "bool")=some false) (mIsi:mg "isinstance" = none) (mInt:mg "int" = none) (mBool:mg "bool" = none)
  (mRange:mg "range" = none) (mLen:mg "len" = none) (mMax:mg "max" = none) (mMin:mg "min" = none) (mLst:mg "list" = none):ZaX P w K mg base CX0 5 f fd ["script"] (Zhv K tb):=by
 refine F.ok scLaw (λvs H Q E h=>?_) (λcdv A outer s H vs Q E hr h=>?_)
 ·obtain ⟨_,_,rfl,_⟩:=h
  rfl
 ·obtain ⟨a,ns,rfl,hS,hns,hP0,q⟩:=h
  have h16:(16777216:Nat)=sizeLine:=sizeLine_eq.symm
  have hu:=hr.units
  have hu65:(A.deeper (PyProof.Rows.envOfC "law" (Zaf ZgF) s.heap.objs.size f cdv)).units+70<cLine:=by have:=hr.un;omega
  have hu65':(A.deeper (PyProof.Rows.envOfC "law" (Zaf ZgF) s.heap.objs.size f cdv)).units+65<cLine:=by have:=hr.un;omega
  refine ⟨_,Zad (ZbJ PassesOwn.never rfl (Zbo rfl mRange (Zaa (Zaq (ZfG rfl) rfl mMax Zhs (Zaa Zae (Zaa (Zaq (ZfH rfl) rfl mMin ZeL (Zaa Zae (Zaa (Zaq (Zfq K) rfl mLen PySem.boot_len (Zaa (pv 0) Zac)) Zac))) Zac))) Zac)) (Zal (i:=1) scLaw.nd rfl (Or.inl rfl))
    (Zad (Zaj (i:=2) scLaw.nd rfl (Or.inl rfl) (Zai GP (hr.mono (by decide)) rfl mP FP.kp bP .nil ZaI (Zaa (pv 0) (Zaa (pv 1) Zac))))
    (Zad (Zaj (i:=3) scLaw.nd rfl (Or.inl rfl) (Zai GR (hr.mono (by decide)) rfl mR FR.kp bR .nil ZaI (Zaa (pv 2) Zac)))
    (Zad (Zaj (i:=4) scLaw.nd rfl (Or.inr rfl) (Zai GFa (hr.mono (by decide)) rfl mFa FFa.kp bFa .nil ZaI (Zaa (pv 2) (Zaa (pv 3) Zac))))
    (Zad (Zaj (i:=5) scLaw.nd rfl (Or.inl rfl) (Zai GTb (hr.mono (by decide)) rfl mTb FTb.kp bTb .nil ZaI (Zaa (pv 4) Zac)))
    (Zad (Zaj (i:=6) scLaw.nd rfl (Or.inl rfl) (Zbr (Zaa (ZaC (Zf1 K) (pv 5) Zae (λ_ _=>rfl)) (Zaa (ZaS (Zf2 K) rfl mLst ZcC (Zaa (ZaC (Zf1 K) (pv 5) Zae (λ_ _=>rfl)) Zac)) Zac))))
    (Zad (Zej (i:=7) scLaw.nd rfl (Or.inl rfl) (own:=["number"]) rfl (Zaw (fr:=[("sets", 4)]) [(".0", .local),("number", .local),("sets", .cell)] rfl rfl (by decide +kernel) rfl (by decide +kernel) ⟨rfl,trivial⟩ ⟨λh=>Zbd h,λh=>Zbd h,λ_=>⟨_,rfl⟩,trivial⟩ ⟨⟨rfl,.inl rfl,.inl rfl⟩,trivial⟩) (ZbG K (Zai GSm (hr.mono (by decide)) rfl mSm FSm.kp bSm .nil ZaI (Zaa (pv 2) (Zaa (Zaq (Zfq K) rfl mLen PySem.boot_len (Zaa (pv 4) Zac)) Zac)))) (λ_ _ _ _=>Zal (i:=0) (show List.Nodup (["number", "sets"]:List Str) by decide +kernel) rfl (Or.inl rfl)) (λ_ _ _ _=>Zbz) (λ_ _ _ _=>ZaC (Zbu K) (pv 1) (pv 0) (λ_ _=>rfl)))
    (Zad (ZbJ PassesOwn.never rfl (ZbG K (Zak ZaO (ZaH (kSl K) (pv 7) ZaT (ZaL Zae)) (Zar (Zaa (Zar Zac) Zac)))) (Zal (i:=8) scLaw.nd rfl (Or.inl rfl))
    (Zah (Zaj (i:=7) scLaw.nd rfl (Or.inl rfl) (Zak ZaO (pv 7) (Zai GOt (hr.mono (by decide)) rfl mOt FOt.kp bOt .nil ZaI (Zaa (pv 2) (Zaa (pv 8) (Zaa (pv 3) Zac))))))))
    (Zah (ZbJ PassesOwn.never rfl (ZbG K (Zak ZaO (pv 7) (Zar (Zaa (Zar Zac) (Zaa (Zar (Zaa (ZfA ZcD Zae) Zac)) (Zaa (Zar (Zaa (Zak ZeA Zae Zae) Zac)) Zac)))))) (Zal (i:=8) scLaw.nd rfl (Or.inl rfl))
    (Zad (Zaj (i:=9) scLaw.nd rfl (Or.inl rfl) (Zar (Zaa ZcN (Zaa Zee Zac))))
    (Zad (Zbn (Zam (Zmw K hu65') (pv 8) (pv 4) (by with_unfolding_all rfl)) (Zah (Zaj (i:=9) scLaw.nd rfl (Or.inl rfl) (Zar (Zaa ZcN (Zaa (Zei PySem.F.plainAttrs_list PySem.F.slot_list_index PySem.F.type_list_index (ZgE K hu65) (pv 4) (Zaa (pv 8) Zac)) Zac))))) ZaK)
    (Zad (Zaj (i:=10) scLaw.nd rfl (Or.inl rfl) (ZaS (Zf2 K) rfl mLst ZcC (Zaa (pv 8) Zac)))
    (Zad (Zaj (i:=11) scLaw.nd rfl (Or.inl rfl) (Zai GTo (hr.mono (by decide)) rfl mTo FTo.kp bTo .nil ZaI (Zaa (pv 6) (Zaa (pv 10) Zac))))
    (Zad (Zbn (PW.pt (Zef (Zam (Zg1 K hu) (pv 11) (pv 9) (Zax _)) (Zef (Zam (Zg1 K hu) (pv 10) (pv 8) (Zax _)) (ZcO (Zam (Zg1 K hu) (pv 6) (pv 5) (Zax _)))))) (Zah (ZaD Zee)) ZaK)
    (Zah (Zbn (PW.pt (ZcP (Zam (Zjz K hu) (ZaC (Zbu K) (pv 11) Zae (λ_ _=>rfl)) ZcN (Zax _)) (Zcw (PW.pt (Zef (Zfx (ZdC (Zaq (ZhC K) rfl mIsi Za7 (Zaa (ZaC (Zbu K) (pv 11) Zae (λ_ _=>rfl)) (Zaa (ZfZ mInt ZeJ) Zac))))) (ZcO (ZdC (Zaq (ZhC K) rfl mIsi Za7 (Zaa (ZaC (Zbu K) (pv 11) Zae (λ_ _=>rfl)) (Zaa (ZfZ mBool Zf0) Zac)))))))))) (Zah (ZaD Zee)) ZaK)))))))))))))))))
    (Zah (ZaD Zee)),?_⟩
  refine ⟨_,rfl,a,_,rfl,.inl hS,_,_,rfl,_,_,rfl,?_⟩
  rw [List.length_map]
  refine ⟨_,rfl,by split <;> split <;> omega,by split <;> split <;> omega,?_⟩
  refine ZdE (lo:=0) (λi σ H'=>∃ v1 v2 v3 v4 v5 v6 v7 v8 v9 v10 v11:Option V,σ=[some (.ref a),v1,v2,v3,v4,v5,v6,v7,v8,v9,v10,v11]/\SameL tb H H'/\LS tb H') ⟨none,none,none,none,none,none,none,none,none,none,none,rfl,λ_ _ _ e=>e,.inl hP0⟩ ?_ ?_
  ·rintro i σ Hs hi ⟨v1,v2,v3,v4,v5,v6,v7,v8,v9,v10,v11,rfl,slS,stS⟩
   have hi5:i<100:=by
    have:i<6:=by
     refine Nat.lt_of_lt_of_le hi ?_
     split <;> split <;> omega
    omega
   rw [Int.zero_add]
   dsimp only [Za2]
   refine ⟨_,rfl,_,rfl,a,ns,i,rfl,SqL.sameL hS slS hP0,by omega,λd H1 s1 hdS po1=>?_⟩
   refine ⟨_,rfl,d,2000,rfl,po1,by decide,λrl rs H2 k2 hrl er2 hrd=>?_⟩
   have nrd:=Ne.symm (po1.ne hrl)
   refine ⟨_,rfl,_,rfl,d,rl,2006,rs,rfl,k2.at_,by decide,nrd,er2,hrd,λsl ws H3 k3 hsl es3 lz3 hwf hwo hso hwl=>?_⟩
   have nsd:=Ne.symm (k2.at_.ne hsl)
   have nz:∀ z∈ws,z.1≠d:=λz hz=>Ne.symm (k2.at_.ne (hwf z hz))
   have rl12:=hrd.2.2.2
   refine ⟨_,rfl,sl,ws,rfl,es3,lz3,by omega,λz hz=>⟨(hwo z hz).1,by have:=(hwo z hz).len;omega,λx hx=>by have:=hrd.2.1 x ((hwo z hz).2 x hx);omega⟩,λtp l root xs ts H4 s4 htp hl W4 T ar h900 hmem=>?_⟩
   dsimp only [Za2]
   refine ⟨_,rfl,tp,_,_,_,rfl,rfl,SqT.of W4.w,Zan (j:=0) rfl,_,rfl,tp,_,_,_,rfl,rfl,SqT.of W4.w,Zan (j:=1) rfl,l,xs,rfl,.inl (SqL.of W4.l),λl2 hl2=>⟨ZbO,λhd hhd=>?_⟩⟩
   have s5:Same H4 (upd H4 l2 (.lst xs)):=Same.new hl2
   have e5:upd H4 l2 (.lst xs) l2=some (.lst xs):=Zab
   generalize upd H4 l2 (.lst xs)=H5 at s5 e5 hhd ⊢
   have s6:Same H5 (upd H5 hd (.tup [.int root,.ref l2])):=Same.new hhd
   have e6:upd H5 hd (.tup [.int root,.ref l2]) hd=some (.tup [.int root,.ref l2]):=Zab
   generalize upd H5 hd (.tup [.int root,.ref l2])=H6 at s6 e6 ⊢
   have S6:=(s4.trans s5).trans s6
   have K3:=k2.trans k3
   have K6:Pk H1 H6 d 2306:=K3.grow S6
   have W6':=W4.same (s5.trans s6)
   have D:Ds d rl sl l l2 ws:=⟨nrd,nsd,nz,Ne.symm (k3.at_.ne hl),Ne.symm ((k3.at_.same s4).ne hl2)⟩
   have W:Wd tb d rl sl tp l hd l2 rs ws root xs ts 2306 Hs H6:=⟨λb o n _ e=>K6.keep b o n (s1 _ _ e),LamSt.pk (stS.same s1) K6 po1,K6.at_,S6 _ _ (k3.keep _ _ nrd er2),S6 _ _ es3,λz hz=>S6 _ _ (lz3 z hz),W6',⟨e6,s6 _ _ e5,W6'.t⟩⟩
   have hSO:SO ts root (ws.map (·.2)):=⟨hso,λs=>(hmem s).symm⟩
   have hw12:∀ z∈ws,z.2.length<=12:=λz hz=>by have:=(hwo z hz).len;omega
   clear s4 s5 s6 e5 e6 S6 K3 K6 W6' W4 k2 k3 er2 es3 lz3 hwf htp hl hl2 hhd s1 po1 hrl hsl
   dsimp only [Za2]
   refine Zat (λσ' H'=>∃ (ro:Addr) (us:List (Addr×List Int)),σ'=[some (.ref a),some (.int (i:Int)),some (.ref d),some (.ref rl),some (.ref sl),some (.ref tp),some (.ref hd),some (.ref ro),v8,v9,v10,v11]/\Wd tb d rl sl tp l hd l2 rs ws root xs ts 2311 Hs H'/\H' ro=some (.lst (us.map λz=>V.ref z.1))/\ro≠d/\us.length<=9/\∀ u∈us,u∈ws) ?s1 ?f1
   case f1=>
    intro hk
    refine ⟨_,rfl,_,rfl,sl,_,rfl,.inl (SqL.of W.s),d,2306,ws.length,(by rw [List.length_map];rfl),W.po,by decide,hwl,λkl ks H7 k7 hkl ek hkr hkn=>?_⟩
    have W7:=W.pk D k7
    refine ⟨kl,rfl,⟨_,SqL.of ek⟩,λD' hD'=>?_⟩
    refine Za0 (K:=K) (a:=kl) (xs:=ks.map V.int) (λj ys H'=>∃ us:List (Addr×List Int),ys=(us.map λz=>V.ref z.1)/\us.length=j/\(∀ u∈us,u∈ws)/\Same H7 H'/\H' D'=some (.lst ys)) ⟨[],rfl,rfl,λu hu=>(by cases hu),Same.new hD',Zab⟩ (λj ys H' _ ⟨_,_,_,_,s,_⟩=>SqL.of (s _ _ ek)) ?_ ?_
    ·rintro j y ys H8 hyj ⟨us,rfl,hul,hus,s8,eD'⟩
     obtain ⟨z,rfl,hz⟩:=Zbi hyj
     have hj:j<9:=by have:=(List.getElem?_eq_some_iff.mp hz).1;omega
     obtain ⟨hz0,hz1⟩:=hkr z (List.mem_of_getElem? hz)
     obtain ⟨k,rfl⟩:=Int.eq_ofNat_of_zero_le hz0
     have hk':k<ws.length:=by omega
     refine ⟨⟨rfl,trivial⟩,?_⟩
     unfold Zie
     refine Zeb ?_
     refine ⟨_,rfl,_,rfl,sl,_,_,.ref ws[k].1,rfl,rfl,SqL.of (s8 _ _ W7.s),Zan (j:=k) (by rw [List.getElem?_map,List.getElem?_eq_getElem hk'];rfl),eD',by rw [List.length_map];omega,us++[ws[k]],by rw [List.map_append];rfl,by rw [List.length_append,List.length_singleton,hul],λu hu=>?_,s8.put hD',Zab⟩
     rcases List.mem_append.mp hu with h | h
     ·exact hus u h
     ·rw [List.mem_singleton.mp h]
      exact List.getElem_mem hk'
    ·rintro ys H8 ⟨us,rfl,hul,hus,s8,eD'⟩
     rw [List.length_map] at hul
     exact hk _ _ ⟨D',us,rfl,W7.same D s8,eD',Ne.symm (W7.po.ne hD'),by omega,hus⟩
   clear W
   rintro σ' H7 ⟨ro,us0,rfl,W7,ero,nro,hul,hus⟩
   refine Zat (λσ' H'=>∃ (ro:Addr) (us:List (Addr×List Int)) (v8:Option V),σ'=[some (.ref a),some (.int (i:Int)),some (.ref d),some (.ref rl),some (.ref sl),some (.ref tp),some (.ref hd),some (.ref ro),v8,v9,v10,v11]/\Wd tb d rl sl tp l hd l2 rs ws root xs ts 2500 Hs H'/\H' ro=some (.lst (us.map λz=>V.ref z.1))/\ro≠d/\Lz H' us/\(∀ u∈us,u.1≠d)/\us.length<=60) ?s2 ?f2
   case f2=>
    intro hk
    refine ⟨_,rfl,_,rfl,ro,_,rfl,SqL.of ero,λp1 hp1=>?_⟩
    have ecut:ZeD (us0.map λz=>V.ref z.1) none (some 4)=(us0.take 4).map λz=>V.ref z.1:=by
     rw [show (some (4:Int))=some (((4:Nat)):Int) from rfl,ZhD,List.map_take]
    rw [ecut]
    have s8:Same H7 (upd H7 p1 (.lst ((us0.take 4).map λz=>V.ref z.1))):=Same.new hp1
    have e8:upd H7 p1 (.lst ((us0.take 4).map λz=>V.ref z.1)) p1=some (.lst ((us0.take 4).map λz=>V.ref z.1)):=Zab
    generalize upd H7 p1 (.lst ((us0.take 4).map λz=>V.ref z.1))=H8 at s8 e8 ⊢
    refine ⟨Nat.zero_le _,λp2 hp2=>⟨(by show 1<=sizeLine;decide),λp3 hp3=>?_⟩⟩
    have s9:Same H8 (upd H8 p2 (.lst [])):=Same.new hp2
    have e9:upd H8 p2 (.lst []) p2=some (.lst (([]:List Int).map V.int)):=Zab
    generalize upd H8 p2 (.lst [])=H9 at s9 e9 hp3 ⊢
    have s10:Same H9 (upd H9 p3 (.lst [.ref p2])):=Same.new hp3
    have e10:upd H9 p3 (.lst [.ref p2]) p3=some (.lst [.ref p2]):=Zab
    generalize upd H9 p3 (.lst [.ref p2])=H10 at s10 e10 ⊢
    refine ⟨p1,p3,_,_,rfl,rfl,s10 _ _ (s9 _ _ e8),e10,(by rw [List.length_map,List.length_take];show min 4 us0.length+1<=sizeLine;omega),λil hil=>?_⟩
    have S10:=(s8.trans s9).trans s10
    have s11:Same H10 (upd H10 il (.lst (((us0.take 4).map λz=>V.ref z.1)++[.ref p2]))):=Same.new hil
    have nil':il≠d:=Ne.symm ((W7.po.same S10).ne hil)
    have np2:p2≠d:=Ne.symm ((W7.po.same s8).ne hp2)
    have e11:upd H10 il (.lst (((us0.take 4).map λz=>V.ref z.1)++[.ref p2])) il=some (.lst ((us0.take 4++[((p2,[]):Addr×List Int)]).map λz=>V.ref z.1)):=by rw [Zab,List.map_append];rfl
    rw [show ((us0.take 4).map λz=>V.ref z.1)++[.ref p2]=(us0.take 4++[((p2,[]):Addr×List Int)]).map λz=>V.ref z.1 by rw [List.map_append];rfl] at s11 e11 ⊢
    have S11:=S10.trans s11
    have W11:=W7.same D S11
    have ero11:=S11 _ _ ero
    have lv:∀ {X:Hp},Wd tb d rl sl tp l hd l2 rs ws root xs ts 2311 Hs X->X p2=some (.lst [])->Lz X (us0.take 4++[((p2,[]):Addr×List Int)]):=λWX e z hz=>by
     rcases List.mem_append.mp hz with h | h
     ·exact WX.z z (hus z (List.mem_of_mem_take h))
     ·rw [List.mem_singleton.mp h]
      exact e
    have lv11:=lv W11 (s11 _ _ (s10 _ _ e9))
    have nv:∀ u∈us0.take 4++[((p2,[]):Addr×List Int)],u.1≠d/\u.2.length<=12:=λz hz=>by
     rcases List.mem_append.mp hz with h | h
     ·exact ⟨nz z (hus z (List.mem_of_mem_take h)),hw12 z (hus z (List.mem_of_mem_take h))⟩
     ·rw [List.mem_singleton.mp h]
      exact ⟨np2,Nat.zero_le _⟩
    have hvl:(us0.take 4++[((p2,[]):Addr×List Int)]).length<=5:=by rw [List.length_append,List.length_take,List.length_singleton];omega
    have lu11:Lz (upd H10 il (.lst ((us0.take 4++[((p2,[]):Addr×List Int)]).map λz=>V.ref z.1))) us0:=λz hz=>W11.z z (hus z hz)
    generalize us0.take 4++[((p2,[]):Addr×List Int)]=vs at e11 lv11 nv hvl W11 ero11 s11 S11 lu11 ⊢
    generalize upd H10 il (.lst (vs.map λz=>V.ref z.1))=H11 at e11 lv11 W11 ero11 s11 S11 lu11 ⊢
    refine ⟨il,rfl,⟨_,SqL.of e11⟩,?_⟩
    refine Za6 (K:=K) (a:=il) (xs:=vs.map λz=>V.ref z.1) (λj σ H'=>∃ (ro:Addr) (us:List (Addr×List Int)) (v8:Option V),σ=[some (.ref a),some (.int (i:Int)),some (.ref d),some (.ref rl),some (.ref sl),some (.ref tp),some (.ref hd),some (.ref ro),v8,v9,v10,v11]/\Wd tb d rl sl tp l hd l2 rs ws root xs ts (2311+15 * j) Hs H'/\H' ro=some (.lst (us.map λz=>V.ref z.1))/\ro≠d/\Lz H' us/\(∀ u∈us,u.1≠d)/\us.length<=9+9 * j/\H' il=some (.lst (vs.map λz=>V.ref z.1))/\Lz H' vs)
     ⟨ro,us0,v8,rfl,W11,ero11,nro,lu11,λu hu=>nz u (hus u hu),by omega,e11,lv11⟩ (λj σ H' _ ⟨_,_,_,_,_,_,_,_,_,_,e,_⟩=>SqL.of e) ?_ ?_
    ·clear W11 ero11 lu11 e11 lv11
     rintro j x σ H12 hxj ⟨ro,us,v8,rfl,W12,ero,nro,lu,nu,hul2,e12,lv12⟩
     rw [List.getElem?_map] at hxj
     obtain ⟨u,hu',rfl⟩:=Option.map_eq_some_iff.mp hxj
     have hum:=List.mem_of_getElem? hu'
     have hj:j<5:=by have:=(List.getElem?_eq_some_iff.mp hu').1;omega
     dsimp only [Za2]
     refine ⟨_,rfl,_,rfl,_,rfl,_,rfl,d,u.1,rl,2311+15 * j,u.2,rs,rfl,W12.po,by omega,(nv u hum).1,nrd,lv12 u hum,(nv u hum).2,W12.r,rl12,λb bs H13 k13 hb eb lb nb hbl=>?_⟩
     have W13:=W12.pk D k13
     refine ⟨ro,b,_,_,rfl,rfl,k13.keep _ _ nro ero,eb,(by rw [List.length_map,List.length_map];omega),λr2 hr2=>?_⟩
     have s14:Same H13 (upd H13 r2 (.lst ((us.map λz=>V.ref z.1)++bs.map λz=>V.ref z.1))):=Same.new hr2
     refine ⟨r2,us++bs,_,rfl,W13.same D s14,by rw [Zab,List.map_append],Ne.symm (W13.po.ne hr2),λz hz=>?_,λz hz=>?_,by rw [List.length_append,hbl];omega,s14 _ _ (k13.keep _ _ nil' e12),λz hz=>s14 _ _ (k13.keep _ _ (nv z hz).1 (lv12 z hz))⟩
     ·rcases List.mem_append.mp hz with h | h
      ·exact s14 _ _ (k13.keep _ _ (nu z h) (lu z h))
      ·exact s14 _ _ (lb z h)
     ·rcases List.mem_append.mp hz with h | h
      ·exact nu z h
      ·exact nb z h
    ·rintro σ H12 ⟨ro,us,v8,rfl,W12,ero,nro,lu,nu,hul2,_,_⟩
     rw [List.length_map] at W12 hul2
     exact hk _ _ ⟨ro,us,v8,rfl,W12.go D (λb o _ _ e=>e) W12.ls (W12.po.mono (by omega)),ero,nro,lu,nu,by omega⟩
   clear W7 ero nro hul hus us0 ro v8
   rintro σ' H8 ⟨ro,us,v8,rfl,W8,ero,nro,lu,nu,hul⟩
   refine ⟨_,rfl,Nat.zero_le _,λp1 hp1=>⟨_,rfl,(by show 1<=sizeLine;decide),λp2 hp2=>⟨_,_,rfl,rfl,⟨by decide,by decide,by decide⟩,(by show 1<=sizeLine;decide),λp3 hp3=>⟨(by show 3<=sizeLine;decide),λp4 hp4=>?_⟩⟩⟩⟩
   have s1:Same H8 (upd H8 p1 (.lst [])):=Same.new hp1
   have e1:upd H8 p1 (.lst []) p1=some (.lst (([]:List Int).map V.int)):=Zab
   generalize upd H8 p1 (.lst [])=H9 at s1 e1 hp2 hp3 hp4 ⊢
   have s2:Same H9 (upd H9 p2 (.lst [.int (-1)])):=Same.new hp2
   have e2:upd H9 p2 (.lst [.int (-1)]) p2=some (.lst (([-1]:List Int).map V.int)):=Zab
   generalize upd H9 p2 (.lst [.int (-1)])=H10 at s2 e2 hp3 hp4 ⊢
   have s3:Same H10 (upd H10 p3 (.lst [.int (10 ^ Int.toNat 39)])):=Same.new hp3
   have e3:upd H10 p3 (.lst [.int (10 ^ Int.toNat 39)]) p3=some (.lst (([10 ^ Int.toNat 39]:List Int).map V.int)):=Zab
   generalize upd H10 p3 (.lst [.int (10 ^ Int.toNat 39)])=H11 at s3 e3 hp4 ⊢
   have s4:Same H11 (upd H11 p4 (.lst [.ref p1,.ref p2,.ref p3])):=Same.new hp4
   have e4:upd H11 p4 (.lst [.ref p1,.ref p2,.ref p3]) p4=some (.lst [.ref p1,.ref p2,.ref p3]):=Zab
   generalize upd H11 p4 (.lst [.ref p1,.ref p2,.ref p3])=H12 at s4 e4 ⊢
   have S4:=((s1.trans s2).trans s3).trans s4
   refine ⟨ro,p4,_,_,rfl,rfl,S4 _ _ ero,e4,(by rw [List.length_map];show us.length+3<=sizeLine;omega),λfl hfl=>?_⟩
   have s5:Same H12 (upd H12 fl (.lst ((us.map λz=>V.ref z.1)++[.ref p1,.ref p2,.ref p3]))):=Same.new hfl
   have e5:upd H12 fl (.lst ((us.map λz=>V.ref z.1)++[.ref p1,.ref p2,.ref p3])) fl=some (.lst ((us++([(p1,[]),(p2,[-1]),(p3,[10 ^ Int.toNat 39])]:List (Addr×List Int))).map λz=>V.ref z.1)):=by rw [Zab,List.map_append];rfl
   rw [show ((us.map λz=>V.ref z.1)++[.ref p1,.ref p2,.ref p3])=(us++([(p1,[]),(p2,[-1]),(p3,[10 ^ Int.toNat 39])]:List (Addr×List Int))).map λz=>V.ref z.1 by rw [List.map_append];rfl] at s5 e5 ⊢
   have S5:=S4.trans s5
   have W12:=W8.same D S5
   have nfl:fl≠d:=Ne.symm ((W8.po.same S4).ne hfl)
   have fs:Lz (upd H12 fl (.lst ((us++([(p1,[]),(p2,[-1]),(p3,[10 ^ Int.toNat 39])]:List (Addr×List Int))).map λz=>V.ref z.1))) (us++([(p1,[]),(p2,[-1]),(p3,[10 ^ Int.toNat 39])]:List (Addr×List Int))):=λz hz=>by
    rcases List.mem_append.mp hz with h | h
    ·exact S5 _ _ (lu z h)
    ·simp only [List.mem_cons,List.not_mem_nil,or_false] at h
     rcases h with rfl | rfl | rfl
     ·exact s5 _ _ (s4 _ _ (s3 _ _ (s2 _ _ e1)))
     ·exact s5 _ _ (s4 _ _ (s3 _ _ e2))
     ·exact s5 _ _ (s4 _ _ e3)
   have nf:∀ u∈us++([(p1,[]),(p2,[-1]),(p3,[10 ^ Int.toNat 39])]:List (Addr×List Int)),u.1≠d:=λz hz=>by
    rcases List.mem_append.mp hz with h | h
    ·exact nu z h
    ·simp only [List.mem_cons,List.not_mem_nil,or_false] at h
     rcases h with rfl | rfl | rfl
     ·exact Ne.symm (W8.po.ne hp1)
     ·exact Ne.symm ((W8.po.same s1).ne hp2)
     ·exact Ne.symm ((W8.po.same (s1.trans s2)).ne hp3)
   generalize us++([(p1,[]),(p2,[-1]),(p3,[10 ^ Int.toNat 39])]:List (Addr×List Int))=ft at e5 fs nf W12 s5 S5 ⊢
   generalize upd H12 fl (.lst (ft.map λz=>V.ref z.1))=H13 at e5 fs W12 s5 S5 ⊢
   clear S4 S5 s1 s2 s3 s4 s5 e1 e2 e3 e4 W8 ero lu nu hul
   refine ⟨fl,rfl,⟨_,SqL.of e5⟩,?_⟩
   refine Za6 (K:=K) (a:=fl) (xs:=ft.map λz=>V.ref z.1) (λj σ H'=>∃ v8 v9 v10 v11:Option V,σ=[some (.ref a),some (.int (i:Int)),some (.ref d),some (.ref rl),some (.ref sl),some (.ref tp),some (.ref hd),some (.ref ro),v8,v9,v10,v11]/\Wd tb d rl sl tp l hd l2 rs ws root xs ts 2500 Hs H'/\H' fl=some (.lst (ft.map λz=>V.ref z.1))/\Lz H' ft)
    ⟨v8,v9,v10,v11,rfl,W12,e5,fs⟩ (λj σ H' _ ⟨_,_,_,_,_,_,e,_⟩=>SqL.of e) ?_ ?_
   ·clear W12 e5 fs
    rintro j x σ H14 hxj ⟨v8,v9,v10,v11,rfl,W14,e14,lf⟩
    rw [List.getElem?_map] at hxj
    obtain ⟨u,hu',rfl⟩:=Option.map_eq_some_iff.mp hxj
    have hum:=List.mem_of_getElem? hu'
    dsimp only [Za2]
    refine Zat (λσ' H'=>∃ du:Addr,σ'=[some (.ref a),some (.int (i:Int)),some (.ref d),some (.ref rl),some (.ref sl),some (.ref tp),some (.ref hd),some (.ref ro),some (.ref u.1),some (.ref du),v10,v11]/\Same H14 H'/\H' du=some (.lst [.str "refused", .bl true])) ?t0 ?g0
    case g0=>exact λhk=>⟨ZbO,λdu hdu=>hk _ _ ⟨du,rfl,Same.new hdu,Zab⟩⟩
    rintro σ' H15 ⟨du,rfl,s15,edu⟩
    have W15:=W14.same D s15
    have eu15:=s15 _ _ (lf u hum)
    refine Zat (λσ' H'=>∃ du:Addr,σ'=[some (.ref a),some (.int (i:Int)),some (.ref d),some (.ref rl),some (.ref sl),some (.ref tp),some (.ref hd),some (.ref ro),some (.ref u.1),some (.ref du),v10,v11]/\Same H14 H'/\((u.2 ∉ ws.map (·.2)/\H' du=some (.lst [.str "refused", .bl true]))\/∃ k:Nat,(ws.map (·.2))[k]?=some u.2/\H' du=some (.lst [.str "told", .int (k:Int)]))) ?t1 ?g1
    case g1=>
     intro hk
     refine ⟨_,rfl,_,rfl,sl,_,.list (u.2.map PyData.int),Zci (ws.map (·.2)),rfl,.inl (SqL.of W15.s),.lst (SqL.of eu15) (ZaE _),Zdz W15.z,ZaJ _,Ze4 _,_,rfl,?_⟩
     rw [Zi4]
     refine Zck (λc1=>?_) (λc1=>?_)
     ·have hm:u.2∈ws.map (·.2):=by
       by_cases h:u.2∈ws.map (·.2)
       ·exact h
       ·rw [decide_eq_false h] at c1
        cases c1
      have hk1:=List.idxOf_lt_length_iff.mpr hm
      have hk2:(ws.map (·.2))[(ws.map (·.2)).idxOf u.2]?=some u.2:=by rw [List.getElem?_eq_getElem hk1,List.getElem_idxOf hk1]
      refine ⟨_,rfl,.inl ⟨rfl,_,SqL.of W15.s⟩,_,rfl,sl,.ref u.1,_,.list (u.2.map PyData.int),Zci (ws.map (·.2)),(ws.map (·.2)).idxOf u.2,rfl,rfl,W15.s,.lst (SqL.of eu15) (ZaE _),Zdz W15.z,ZaJ _,Ze4 _,⟨_,(by rw [ZhZ,hk2];rfl),(by rw [Za8,decide_eq_true rfl])⟩,λm e hm' hme=>?_,?_⟩
      ·rw [ZhZ] at hme
       obtain ⟨z,hz,rfl⟩:=Option.map_eq_some_iff.mp hme
       rw [Za8]
       refine decide_eq_false λez=>?_
       subst ez
       have:=nodup_ix (ZcI hso) hz hk2
       omega
      ·refine ⟨ZbO,λd2 hd2=>?_⟩
       have s16:Same H15 (upd H15 d2 (.lst [.str "told", .int (((ws.map (·.2)).idxOf u.2:Nat):Int)])):=Same.new hd2
       exact hk _ _ ⟨d2,rfl,s15.trans s16,.inr ⟨_,hk2,Zab⟩⟩
     ·have hm:u.2 ∉ ws.map (·.2):=λh=>c1 (by rw [decide_eq_true h];rfl)
      exact hk _ _ ⟨du,rfl,s15,.inl ⟨hm,edu⟩⟩
    clear edu s15 W15 eu15 du H15
    rintro σ' H15 ⟨du,rfl,s15,hdue⟩
    refine ⟨_,rfl,u.1,_,rfl,.inl (SqL.of (s15 _ _ (lf u hum))),λg hg=>?_⟩
    have s16:Same H15 (upd H15 g (.lst (u.2.map V.int))):=Same.new hg
    have eg:upd H15 g (.lst (u.2.map V.int)) g=some (.lst (u.2.map V.int)):=Zab
    generalize upd H15 g (.lst (u.2.map V.int))=H16 at s16 eg ⊢
    have S16:=s15.trans s16
    have W16:=W14.same D S16
    have eu16:=S16 _ _ (lf u hum)
    have far:∀ {X:Hp},SameL tb H16 X->LS tb X->∀ (t:Addr),(∃ e:V,(e=.bl true\/∃ k:Int,e=.int k)/\∃ x:Str,X t=some (.lst [.str x,e])/\X du=some (.lst [.str x,e])/\(x = "told" -> ∃ k:Int,e=.int k))->True:=λ_ _ _ _=>trivial
    clear far
    dsimp only [Za2]
    refine ⟨_,rfl,_,rfl,hd,l2,g,root,xs,ts,u.2,ws.map (·.2),rfl,W16.h,T,ar,h900,W16.ls,hSO,eg,λhno t H17 sl17 st17 et=>?_,λk hk t H17 sl17 st17 et=>?_⟩
    ·obtain ⟨_,edu⟩:u.2 ∉ ws.map (·.2)/\H15 du=some (.lst [.str "refused", .bl true]):=by
      rcases hdue with h | ⟨k,hk,_⟩
      ·exact h
      ·exact absurd (List.mem_of_getElem? hk) hno
     have W17:=W16.far D sl17 st17
     have k17:∀ {b:Addr} {ys:List V},H16 b=some (.lst ys)->H17 b=some (.lst ys):=λe=>sl17 _ _ (W16.nt e) e
     dsimp only [Za2]
     refine ⟨_,rfl,_,rfl,.list [.str "refused", .bool true],.list [.str "refused", .bool true],.lst (SqL.of et) (.cons (.str _) (.cons (.bl _) .nil)),.lst (SqL.of (k17 (s16 _ _ edu))) (.cons (.str _) (.cons (.bl _) .nil)),ZcJ (by decide +kernel) _,ZcJ (by decide +kernel) _,_,rfl,?_⟩
     rw [Zhu]
     refine ZcK ?_
     refine ⟨_,rfl,_,rfl,.list (u.2.map PyData.int),.list (u.2.map PyData.int),.lst (SqL.of (k17 eg)) (ZaE _),.lst (SqL.of (k17 eu16)) (ZaE _),ZaJ _,ZaJ _,_,rfl,?_⟩
     rw [Za8,decide_eq_true rfl]
     refine ZcK ?_
     obtain ⟨d1,d2,a1,a2,a3,a4,a5⟩:=W17.eqs (K:=K)
     refine ⟨_,rfl,_,rfl,d1,d2,a1,a2,a3,a4,_,rfl,?_⟩
     rw [a5]
     refine ZcK ?_
     dsimp only [Zc6]
     refine ⟨_,rfl,t,_,_,_,rfl,rfl,SqL.of et,Zan (j:=0) rfl,.str "refused", .str "told", .str _,.str _,ZbF (by decide +kernel),ZbF (by decide +kernel),_,rfl,?_⟩
     rw [show PyData.eqv (.str "refused") (.str "told")=false by decide +kernel]
     refine ZcK (ZcK ?_)
     exact ⟨_,_,_,_,rfl,W17,k17 (S16 _ _ e14),λz hz=>k17 (S16 _ _ (lf z hz))⟩
    ·obtain ⟨k',hk',edu⟩:∃ k:Nat,(ws.map (·.2))[k]?=some u.2/\H15 du=some (.lst [.str "told", .int (k:Int)]):=by
      rcases hdue with ⟨h,_⟩ | h
      ·exact absurd (List.mem_of_getElem? hk) h
      ·exact h
     have ek:k=k':=nodup_ix (ZcI hso) hk hk'
     subst ek
     have W17:=W16.far D sl17 st17
     have k17:∀ {b:Addr} {ys:List V},H16 b=some (.lst ys)->H17 b=some (.lst ys):=λe=>sl17 _ _ (W16.nt e) e
     dsimp only [Za2]
     refine ⟨_,rfl,_,rfl,.list [.str "told", .int (k:Int)],.list [.str "told", .int (k:Int)],.lst (SqL.of et) (.cons (.str _) (.cons (.int _) .nil)),.lst (SqL.of (k17 (s16 _ _ edu))) (.cons (.str _) (.cons (.int _) .nil)),Zc5 (by decide +kernel) _,Zc5 (by decide +kernel) _,_,rfl,?_⟩
     rw [Zi5]
     refine ZcK ?_
     refine ⟨_,rfl,_,rfl,.list (u.2.map PyData.int),.list (u.2.map PyData.int),.lst (SqL.of (k17 eg)) (ZaE _),.lst (SqL.of (k17 eu16)) (ZaE _),ZaJ _,ZaJ _,_,rfl,?_⟩
     rw [Za8,decide_eq_true rfl]
     refine ZcK ?_
     obtain ⟨d1,d2,a1,a2,a3,a4,a5⟩:=W17.eqs (K:=K)
     refine ⟨_,rfl,_,rfl,d1,d2,a1,a2,a3,a4,_,rfl,?_⟩
     rw [a5]
     refine ZcK ?_
     dsimp only [Zc6]
     refine ⟨_,rfl,t,_,_,_,rfl,rfl,SqL.of et,Zan (j:=0) rfl,.str "told", .str "told", .str _,.str _,ZbF (by decide +kernel),ZbF (by decide +kernel),_,rfl,?_⟩
     rw [show PyData.eqv (.str "told") (.str "told")=true by decide +kernel]
     refine Zeb ?_
     refine ⟨_,rfl,t,_,_,_,rfl,rfl,SqL.of et,Zan (j:=1) rfl,_,_,true,rfl,⟨_,rfl,ZcK ?_⟩,.inl ⟨_,.int _,rfl,ZeK⟩⟩
     refine ⟨_,rfl,t,_,_,_,rfl,rfl,SqL.of et,Zan (j:=1) rfl,_,_,false,rfl,⟨_,rfl,ZcK ?_⟩,.inl ⟨_,.int _,rfl,kib⟩⟩
     exact ⟨_,_,_,_,rfl,W17,k17 (S16 _ _ e14),λz hz=>k17 (S16 _ _ (lf z hz))⟩
   ·rintro σ H14 ⟨v8,v9,v10,v11,rfl,W14,_,_⟩
    exact ⟨_,_,_,_,_,_,_,_,_,_,_,rfl,slS.trans (W14.turn hdS),W14.ls⟩
  ·rintro σ H' ⟨v1,v2,v3,v4,v5,v6,v7,v8,v9,v10,v11,rfl,_,_⟩
   exact q _
end
end M
section
open PySem PySem.W PyProof.Rows
def M.rowP:Program:=PySem.Challenge.rw_onceways_k53_numbers_of_sets.prog
def M.seenP:Program:={ M.rowP with main:={ M.rowP.main with body:=[1,2,3,4,5,6,7,8,9,10,11,12,13,14,16,17,19,20,21,23,25,26,27,28,29,30,31,32,33,34,35,36,37,38].filterMap (λi=>M.rowP.main.body[i]?) } }
def M.loosely:List Str:=[]
def M.hookX (s:Shared):Bool:=xlAt M.seenP [] s && recOk (RowW.records (OpenRow.toRowW PySem.Challenge.rw_onceways_k53_numbers_of_sets.row)) s
noncomputable def M.atBoot (w:World) (os:OsState):Shared:=⟨boot_heap w.params,Array.mk [],boot_drawn,boot_toks,os⟩
noncomputable def M.topOf (p:Program) (N:Nat) (w:World) (os:OsState):Option Shared:=topRun treeTable p w (M.atBoot w os).heap.objs.size ((M.atBoot w os).heap.nsMap mainGlobals "__annotations__") N (M.atBoot w os) (topStub p)
theorem M.top_run {p:Program} {N:Nat} {w:World} {os:OsState} {s:Shared} (h:topFrom treeTable p w N (M.atBoot w os)=some s):M.topOf p N w os=some s:=by
 unfold topFrom at h
 split at h
 ·obtain ⟨s1,h1,h2⟩:=Option.bind_eq_some_iff.mp h
  split at h2
  ·cases h2;exact h1
  ·cases h2
 ·cases h
theorem M.left_boot {p q:Program} {loose:List Str} {Xt:Shared->Bool} {α:Type} {Yf:Shared->α} {Ya:World->α} {N:Nat} (e:opening p=plainProg p.main.scope.names) (hN:Nat.ble 600 N=true) (f:∀ s,fenceModules? p s=some s)
  (hc:∀ (w:World) (os:OsState),(topFrom treeTable p w N (M.atBoot w os)).isSome=true)
  (ha:∀ (w:World) (os:OsState),(M.topOf p N w os).map (openSeen q loose (importedModules p.main.body) Xt true)=some (openGood q loose))
  (hb:∀ (w:World) (os:OsState),(M.topOf p N w os).map Yf=some (Ya w)) :
  LeftO p q loose Xt Yf Ya N:=λw=>by
 obtain ⟨⟨a,b,c,d,os⟩,e1,e2⟩:=Option.map_eq_some_iff.mp (boot_open e hN f w)
 obtain ⟨rfl,rfl,rfl,rfl⟩:a=boot_heap w.params/\b=Array.mk []/\c=boot_drawn/\d=boot_toks:=by simpa using e2
 obtain ⟨s,hs⟩:=Option.isSome_iff_exists.mp (hc w os)
 have h1:=ha w os
 have h2:=hb w os
 rw [M.top_run hs] at h1 h2
 unfold openEnds
 rw [e1]
 show (topFrom treeTable p w N (M.atBoot w os)).map _=_
 rw [hs]
 simp only [Option.map_some,Option.some.injEq] at h1 h2 ⊢
 rw [h1,h2]
set_option maxHeartbeats 0 in
theorem M.topA (w:World) (os:OsState):(M.topOf M.rowP 7314 w os).map (openSeen M.seenP M.loosely (importedModules M.rowP.main.body) M.hookX true)=some (openGood M.seenP M.loosely):=by
 unfold M.topOf;rw [PySem.W.Fast.te14082659384304107361,PySem.W.Fast.te14364793385576792824,PySem.W.Fast.te4187177175401517315];kernel_rfl
set_option maxHeartbeats 0 in
theorem M.topC (w:World) (os:OsState):(topFrom treeTable M.rowP w 7314 (M.atBoot w os)).isSome=true:=by
 unfold topFrom;rw [PySem.W.Fast.te14082659384304107361,PySem.W.Fast.te14364793385576792824];kernel_rfl
end
namespace M
open PySem L2
theorem all_mk {l:PySem.W.OpenLaw} {w:World} {K:PySem.W.Frag} {h:Heap} {mg:Str->Option Value} {fa f1 f2 f3 f4 f5 f6 f7 f8 f9 f10 f11 f12 f13 f14 f15 f16 f17 f18 f19 no way a1 a2 a3 a4 a5 a6 a7 a8 a9 a10 a11 a12 cT tb:Addr} {occT:Value} {odcT:Option Addr} {vsT:Array Value} {slcT:Array (Option Value)} (X:K.In h) (G:h.Ns mainGlobals mg) (hfa:mg "law" = some (.ref fa))
  {od1 an1 od2 an2 od3 an3 od4 an4 od5 an5 od6 an6 od7 an7 od8 an8 od9 an9 od10 an10 od11 an11 od12 an12 od13 an13 od14 an14 od15 an15 od16 an16 od17 an17 od18 an18 od19 an19:Option Addr} {sl1 sl2 sl3 sl4 sl5 sl6 sl7 sl8 sl9 sl10 sl11 sl12 sl13 sl14 sl15 sl16 sl17 sl18 sl19:Array (Option Value)} {oc1 kV1 dc1 pm1 ct1 oc2 kV2 dc2 pm2 cd2 ct2 oc3 kV3 dc3 pm3 cd3 ct3 oc4 kV4 dc4 pm4 cd4 ct4 oc5 kV5 dc5 pm5 cd5 ct5 oc6 kV6 dc6 pm6 cd6 ct6 oc7 kV7 dc7 pm7 cd7 ct7 oc8 kV8 dc8 pm8 cd8 ct8 oc9 kV9 dc9 pm9 cd9 ct9 oc10 kV10 dc10 pm10 cd10 ct10 oc11 kV11 dc11 pm11 cd11 ct11 oc12 kV12 dc12 pm12 cd12 ct12 oc13 kV13 dc13 pm13 cd13 ct13 oc14 kV14 dc14 pm14 cd14 ct14 oc15 kV15 dc15 pm15 cd15 ct15 oc16 kV16 dc16 pm16 cd16 ct16 oc17 kV17 dc17 pm17 cd17 ct17 oc18 kV18 dc18 pm18 cd18 ct18 oc19 kV19 dc19 pm19 cd19 ct19:Value}
  (aF1:PySem.W.nsIn K mainGlobals "from_below" = some (some (.ref f1))) (lF1:K.lookup f1=some ⟨oc1,od1,.func (PySem.W.fnOf "from_below" "from_below" (Zaz ZiL) (Zav ZiL) (Zaf ZiL) .none kV1 dc1 pm1 an1 (.ref cT) ct1),sl1⟩) (cF1:PySem.W.codeIn K (.ref cT) "from_below" = true) (kF1:PySem.W.keepIn K (.ref f1)=true)
  (aF2:PySem.W.nsIn K mainGlobals "sizes_of" = some (some (.ref f2))) (lF2:K.lookup f2=some ⟨oc2,od2,.func (PySem.W.fnOf "sizes_of" "sizes_of" (Zaz ZhN) (Zav ZhN) (Zaf ZhN) .none kV2 dc2 pm2 an2 cd2 ct2),sl2⟩) (cF2:PySem.W.codeIn K cd2 "sizes_of" = true) (kF2:PySem.W.keepIn K (.ref f2)=true)
  (aF3:PySem.W.nsIn K mainGlobals "behind_roads" = some (some (.ref f3))) (lF3:K.lookup f3=some ⟨oc3,od3,.func (PySem.W.fnOf "behind_roads" "behind_roads" (Zaz ZhO) (Zav ZhO) (Zaf ZhO) .none kV3 dc3 pm3 an3 cd3 ct3),sl3⟩) (cF3:PySem.W.codeIn K cd3 "behind_roads" = true) (kF3:PySem.W.keepIn K (.ref f3)=true)
  (aF4:PySem.W.nsIn K mainGlobals "empty_below" = some (some (.ref f4))) (lF4:K.lookup f4=some ⟨oc4,od4,.func (PySem.W.fnOf "empty_below" "empty_below" (Zaz ZhP) (Zav ZhP) (Zaf ZhP) .none kV4 dc4 pm4 an4 cd4 ct4),sl4⟩) (cF4:PySem.W.codeIn K cd4 "empty_below" = true) (kF4:PySem.W.keepIn K (.ref f4)=true)
  (aF5:PySem.W.nsIn K mainGlobals "has_set" = some (some (.ref f5))) (lF5:K.lookup f5=some ⟨oc5,od5,.func (PySem.W.fnOf "has_set" "has_set" (Zaz ZiM) (Zav ZiM) (Zaf ZiM) .none kV5 dc5 pm5 an5 cd5 ct5),sl5⟩) (cF5:PySem.W.codeIn K cd5 "has_set" = true) (kF5:PySem.W.keepIn K (.ref f5)=true)
  (aF6:PySem.W.nsIn K mainGlobals "number_of_set" = some (some (.ref f6))) (lF6:K.lookup f6=some ⟨oc6,od6,.func (PySem.W.fnOf "number_of_set" "number_of_set" (Zaz ZhQ) (Zav ZhQ) (Zaf ZhQ) .none kV6 dc6 pm6 an6 cd6 ct6),sl6⟩) (cF6:PySem.W.codeIn K cd6 "number_of_set" = true) (kF6:PySem.W.keepIn K (.ref f6)=true)
  (aF7:PySem.W.nsIn K mainGlobals "_law_pool" = some (some (.ref f7))) (lF7:K.lookup f7=some ⟨oc7,od7,.func (PySem.W.fnOf "_law_pool" "_law_pool" (Zaz ZiN) (Zav ZiN) (Zaf ZiN) .none kV7 dc7 pm7 an7 cd7 ct7),sl7⟩) (cF7:PySem.W.codeIn K cd7 "_law_pool" = true) (kF7:PySem.W.keepIn K (.ref f7)=true)
  (aF8:PySem.W.nsIn K mainGlobals "_law_take" = some (some (.ref f8))) (lF8:K.lookup f8=some ⟨oc8,od8,.func (PySem.W.fnOf "_law_take" "_law_take" (Zaz Zfr) (Zav Zfr) (Zaf Zfr) .none kV8 dc8 pm8 an8 cd8 ct8),sl8⟩) (cF8:PySem.W.codeIn K cd8 "_law_take" = true) (kF8:PySem.W.keepIn K (.ref f8)=true)
  (aF9:PySem.W.nsIn K mainGlobals "_law_roads" = some (some (.ref f9))) (lF9:K.lookup f9=some ⟨oc9,od9,.func (PySem.W.fnOf "_law_roads" "_law_roads" (Zaz ZiO) (Zav ZiO) (Zaf ZiO) .none kV9 dc9 pm9 an9 cd9 ct9),sl9⟩) (cF9:PySem.W.codeIn K cd9 "_law_roads" = true) (kF9:PySem.W.keepIn K (.ref f9)=true)
  (aF10:PySem.W.nsIn K mainGlobals "_law_set" = some (some (.ref f10))) (lF10:K.lookup f10=some ⟨oc10,od10,.func (PySem.W.fnOf "_law_set" "_law_set" (Zaz ZhR) (Zav ZhR) (Zaf ZhR) .none kV10 dc10 pm10 an10 cd10 ct10),sl10⟩) (cF10:PySem.W.codeIn K cd10 "_law_set" = true) (kF10:PySem.W.keepIn K (.ref f10)=true)
  (aF11:PySem.W.nsIn K mainGlobals "_law_turned" = some (some (.ref f11))) (lF11:K.lookup f11=some ⟨oc11,od11,.func (PySem.W.fnOf "_law_turned" "_law_turned" (Zaz ZiP) (Zav ZiP) (Zaf ZiP) .none kV11 dc11 pm11 an11 cd11 ct11),sl11⟩) (cF11:PySem.W.codeIn K cd11 "_law_turned" = true) (kF11:PySem.W.keepIn K (.ref f11)=true)
  (aF12:PySem.W.nsIn K mainGlobals "_law_once" = some (some (.ref f12))) (lF12:K.lookup f12=some ⟨oc12,od12,.func (PySem.W.fnOf "_law_once" "_law_once" (Zaz ZhS) (Zav ZhS) (Zaf ZhS) .none kV12 dc12 pm12 an12 cd12 ct12),sl12⟩) (cF12:PySem.W.codeIn K cd12 "_law_once" = true) (kF12:PySem.W.keepIn K (.ref f12)=true)
  (aF13:PySem.W.nsIn K mainGlobals "_law_family" = some (some (.ref f13))) (lF13:K.lookup f13=some ⟨oc13,od13,.func (PySem.W.fnOf "_law_family" "_law_family" (Zaz ZiQ) (Zav ZiQ) (Zaf ZiQ) .none kV13 dc13 pm13 an13 cd13 ct13),sl13⟩) (cF13:PySem.W.codeIn K cd13 "_law_family" = true) (kF13:PySem.W.keepIn K (.ref f13)=true)
  (aF14:PySem.W.nsIn K mainGlobals "_law_table" = some (some (.ref f14))) (lF14:K.lookup f14=some ⟨oc14,od14,.func (PySem.W.fnOf "_law_table" "_law_table" (Zaz ZhT) (Zav ZhT) (Zaf ZhT) .none kV14 dc14 pm14 an14 cd14 ct14),sl14⟩) (cF14:PySem.W.codeIn K cd14 "_law_table" = true) (kF14:PySem.W.keepIn K (.ref f14)=true)
  (aF15:PySem.W.nsIn K mainGlobals "_law_some" = some (some (.ref f15))) (lF15:K.lookup f15=some ⟨oc15,od15,.func (PySem.W.fnOf "_law_some" "_law_some" (Zaz ZiR) (Zav ZiR) (Zaf ZiR) .none kV15 dc15 pm15 an15 cd15 ct15),sl15⟩) (cF15:PySem.W.codeIn K cd15 "_law_some" = true) (kF15:PySem.W.keepIn K (.ref f15)=true)
  (aF16:PySem.W.nsIn K mainGlobals "_law_is" = some (some (.ref f16))) (lF16:K.lookup f16=some ⟨oc16,od16,.func (PySem.W.fnOf "_law_is" "_law_is" (Zaz ZiS) (Zav ZiS) (Zaf ZiS) .none kV16 dc16 pm16 an16 cd16 ct16),sl16⟩) (cF16:PySem.W.codeIn K cd16 "_law_is" = true) (kF16:PySem.W.keepIn K (.ref f16)=true)
  (aF17:PySem.W.nsIn K mainGlobals "_law_told" = some (some (.ref f17))) (lF17:K.lookup f17=some ⟨oc17,od17,.func (PySem.W.fnOf "_law_told" "_law_told" (Zaz ZiT) (Zav ZiT) (Zaf ZiT) .none kV17 dc17 pm17 an17 cd17 ct17),sl17⟩) (cF17:PySem.W.codeIn K cd17 "_law_told" = true) (kF17:PySem.W.keepIn K (.ref f17)=true)
  (aF18:PySem.W.nsIn K mainGlobals "_law_others" = some (some (.ref f18))) (lF18:K.lookup f18=some ⟨oc18,od18,.func (PySem.W.fnOf "_law_others" "_law_others" (Zaz ZiU) (Zav ZiU) (Zaf ZiU) .none kV18 dc18 pm18 an18 cd18 ct18),sl18⟩) (cF18:PySem.W.codeIn K cd18 "_law_others" = true) (kF18:PySem.W.keepIn K (.ref f18)=true)
  (aF19:PySem.W.nsIn K mainGlobals "law" = some (some (.ref f19))) (lF19:K.lookup f19=some ⟨oc19,od19,.func (PySem.W.fnOf "law" "law" (Zaz ZgF) (Zav ZgF) (Zaf ZgF) .none kV19 dc19 pm19 an19 cd19 ct19),sl19⟩) (cF19:PySem.W.codeIn K cd19 "law" = true) (kF19:PySem.W.keepIn K (.ref f19)=true)
  (gno:PySem.W.nsIn K mainGlobals "NoWay" = some (some (.ref no)))
  (gway:PySem.W.nsIn K mainGlobals "WayError" = some (some (.ref way)))
  (g1:PySem.W.nsIn K mainGlobals "NoNumber" = some (some (.ref a1)))
  (g2:PySem.W.nsIn K mainGlobals "TooMany" = some (some (.ref a2)))
  (g3:PySem.W.nsIn K mainGlobals "NoEnds" = some (some (.ref a3)))
  (g4:PySem.W.nsIn K mainGlobals "NoOrder" = some (some (.ref a4)))
  (g5:PySem.W.nsIn K mainGlobals "NoPlace" = some (some (.ref a5)))
  (g6:PySem.W.nsIn K mainGlobals "NoStep" = some (some (.ref a6)))
  (g7:PySem.W.nsIn K mainGlobals "NoTable" = some (some (.ref a7)))
  (g8:PySem.W.nsIn K mainGlobals "NoWall" = some (some (.ref a8)))
  (g9:PySem.W.nsIn K mainGlobals "NoWeb" = some (some (.ref a9)))
  (g10:PySem.W.nsIn K mainGlobals "NoName" = some (some (.ref a10)))
  (g11:PySem.W.nsIn K mainGlobals "NoRow" = some (some (.ref a11)))
  (g12:PySem.W.nsIn K mainGlobals "NoText" = some (some (.ref a12)))
  (xex:ExcC K no)
  (xga:PySem.W.findIn K (.ref no) "__getattribute__" = some (some (.builtin "BaseException.__getattribute__")))
  (xnga:PySem.W.findIn K (.ref no) "__getattr__" = some none)
  (xcl:PySem.W.findIn K (.ref no) "__class__" = some (some (.builtin "object.__class__")))
  (xob:PySem.W.mroIn K no (.type "object")=some true)
  (xbe:PySem.W.subIn K (.ref no) (.type "BaseException")=some true)
  (wbe:PySem.W.subIn K (.ref way) (.type "BaseException")=some true)
  (cw:PySem.W.kitOne K (.ref no) (.ref way)=some true)
  (nne:no≠way)
  (o1:PySem.W.kitOne K (.ref no) (.ref a1)=some false)
  (o2:PySem.W.kitOne K (.ref no) (.ref a2)=some false)
  (t7:PySem.W.kitAny K (.ref no) [.ref a3,.ref a4,.ref a5,.ref a6,.ref a7,.ref a8,.ref a9]=some false)
  (t3:PySem.W.kitAny K (.ref no) [.ref a10,.ref a11,.ref a12]=some false)
  (ve:PySem.W.kitOne K (.ref no) (.type "ValueError")=some true)
  (kib:PySem.W.kitOne K (.type "int") (.type "bool")=some false)
  (lcT:K.lookup cT=some ⟨occT,odcT,.fields vsT,slcT⟩)
  (v11:(vsT[11]?:Option Value)=some (.ref tb))
  (nTab:K.lookup tb=none)
  (nrange:PySem.W.nsIn K mainGlobals "range" = some none)
  (nlist:PySem.W.nsIn K mainGlobals "list" = some none)
  (nlen:PySem.W.nsIn K mainGlobals "len" = some none)
  (nint:PySem.W.nsIn K mainGlobals "int" = some none)
  (nmax:PySem.W.nsIn K mainGlobals "max" = some none)
  (nmin:PySem.W.nsIn K mainGlobals "min" = some none)
  (nsorted:PySem.W.nsIn K mainGlobals "sorted" = some none)
  (nbool:PySem.W.nsIn K mainGlobals "bool" = some none)
  (ntuple:PySem.W.nsIn K mainGlobals "tuple" = some none)
  (nisinstance:PySem.W.nsIn K mainGlobals "isinstance" = some none)
  (nValueError:PySem.W.nsIn K mainGlobals "ValueError" = some none)
  : ∃ (fd:FuncData) (c P:Addr),PySem.W.tabIn K "from_below" = some (c,P)/\K.lookup P=none/\(∀ (s:Shared) (v:Value),BindsTo s fd ⟨[v],[]⟩ [("script", v)])/\∀ base:Heap,K.In base->base.Ns mainGlobals mg->PySem.W.CodeHd base c P->base.BuiltinsAt mg P->ZaX l.prog w K mg base CX0 5 fa fd ["script"] (Zhv K P):=by
 have e:=hfa.symm.trans (PySem.W.mg_of X G aF19)
 cases e
 have FFb:=ZaU (st:=ZiL) lF1 cF1 kF1
 have bFb:=FFb.binds (ps:=["nodes"]) λ_ _ _ _ _ _ us hl=>match us,hl with | [_],_=>rfl
 have mFb:mg "from_below" = some (.ref f1):=PySem.W.mg_of X G aF1
 have FZs:=ZaU (st:=ZhN) lF2 cF2 kF2
 have bZs:=FZs.binds (ps:=["nodes"]) λ_ _ _ _ _ _ us hl=>match us,hl with | [_],_=>rfl
 have mZs:mg "sizes_of" = some (.ref f2):=PySem.W.mg_of X G aF2
 have FB:=ZaU (st:=ZhO) lF3 cF3 kF3
 have bB:=FB.binds (ps:=["table", "roads"]) λ_ _ _ _ _ _ us hl=>match us,hl with | [_,_],_=>rfl
 have mB:mg "behind_roads" = some (.ref f3):=PySem.W.mg_of X G aF3
 have FE:=ZaU (st:=ZhP) lF4 cF4 kF4
 have bE:=FE.binds (ps:=["nodes", "number"]) λ_ _ _ _ _ _ us hl=>match us,hl with | [_,_],_=>rfl
 have mE:mg "empty_below" = some (.ref f4):=PySem.W.mg_of X G aF4
 have FH:=ZaU (st:=ZiM) lF5 cF5 kF5
 have bH:=FH.binds (ps:=["table", "roads"]) λ_ _ _ _ _ _ us hl=>match us,hl with | [_,_],_=>rfl
 have mH:mg "has_set" = some (.ref f5):=PySem.W.mg_of X G aF5
 have FNs:=ZaU (st:=ZhQ) lF6 cF6 kF6
 have bNs:=FNs.binds (ps:=["table", "roads"]) λ_ _ _ _ _ _ us hl=>match us,hl with | [_,_],_=>rfl
 have mNs:mg "number_of_set" = some (.ref f6):=PySem.W.mg_of X G aF6
 have FP:=ZaU (st:=ZiN) lF7 cF7 kF7
 have bP:=FP.binds (ps:=["script", "k"]) λ_ _ _ _ _ _ us hl=>match us,hl with | [_,_],_=>rfl
 have mP:mg "_law_pool" = some (.ref f7):=PySem.W.mg_of X G aF7
 have FT:=ZaU (st:=Zfr) lF8 cF8 kF8
 have bT:=FT.binds (ps:=["pool", "many"]) λ_ _ _ _ _ _ us hl=>match us,hl with | [_,_],_=>rfl
 have mT:mg "_law_take" = some (.ref f8):=PySem.W.mg_of X G aF8
 have FR:=ZaU (st:=ZiO) lF9 cF9 kF9
 have bR:=FR.binds (ps:=["pool"]) λ_ _ _ _ _ _ us hl=>match us,hl with | [_],_=>rfl
 have mR:mg "_law_roads" = some (.ref f9):=PySem.W.mg_of X G aF9
 have FS:=ZaU (st:=ZhR) lF10 cF10 kF10
 have bS:=FS.binds (ps:=["pool", "roads"]) λ_ _ _ _ _ _ us hl=>match us,hl with | [_,_],_=>rfl
 have mS:mg "_law_set" = some (.ref f10):=PySem.W.mg_of X G aF10
 have FU:=ZaU (st:=ZiP) lF11 cF11 kF11
 have bU:=FU.binds (ps:=["pool", "one", "roads"]) λ_ _ _ _ _ _ us hl=>match us,hl with | [_,_,_],_=>rfl
 have mU:mg "_law_turned" = some (.ref f11):=PySem.W.mg_of X G aF11
 have FO:=ZaU (st:=ZhS) lF12 cF12 kF12
 have bO:=FO.binds (ps:=["sets"]) λ_ _ _ _ _ _ us hl=>match us,hl with | [_],_=>rfl
 have mO:mg "_law_once" = some (.ref f12):=PySem.W.mg_of X G aF12
 have FFa:=ZaU (st:=ZiQ) lF13 cF13 kF13
 have bFa:=FFa.binds (ps:=["pool", "roads"]) λ_ _ _ _ _ _ us hl=>match us,hl with | [_,_],_=>rfl
 have mFa:mg "_law_family" = some (.ref f13):=PySem.W.mg_of X G aF13
 have FTb:=ZaU (st:=ZhT) lF14 cF14 kF14
 have bTb:=FTb.binds (ps:=["sets"]) λ_ _ _ _ _ _ us hl=>match us,hl with | [_],_=>rfl
 have mTb:mg "_law_table" = some (.ref f14):=PySem.W.mg_of X G aF14
 have FSm:=ZaU (st:=ZiR) lF15 cF15 kF15
 have bSm:=FSm.binds (ps:=["pool", "many"]) λ_ _ _ _ _ _ us hl=>match us,hl with | [_,_],_=>rfl
 have mSm:mg "_law_some" = some (.ref f15):=PySem.W.mg_of X G aF15
 have FJ:=ZaU (st:=ZiS) lF16 cF16 kF16
 have bJ:=FJ.binds (ps:=["caught", "due"]) λ_ _ _ _ _ _ us hl=>match us,hl with | [_,_],_=>rfl
 have mJ:mg "_law_is" = some (.ref f16):=PySem.W.mg_of X G aF16
 have FTo:=ZaU (st:=ZiT) lF17 cF17 kF17
 have bTo:=FTo.binds (ps:=["table", "roads"]) λ_ _ _ _ _ _ us hl=>match us,hl with | [_,_],_=>rfl
 have mTo:mg "_law_told" = some (.ref f17):=PySem.W.mg_of X G aF17
 have FOt:=ZaU (st:=ZiU) lF18 cF18 kF18
 have bOt:=FOt.binds (ps:=["pool", "one", "roads"]) λ_ _ _ _ _ _ us hl=>match us,hl with | [_,_,_],_=>rfl
 have mOt:mg "_law_others" = some (.ref f18):=PySem.W.mg_of X G aF18
 have FL:=ZaU (st:=ZgF) lF19 cF19 kF19
 have tTab:PySem.W.tabIn K "from_below" = some (cT,tb):=by
  unfold PySem.W.tabIn
  simp only [aF1,lF1,PySem.W.fnOf,lcT,v11]
 refine ⟨PySem.W.fnOf "law" "law" (Zaz ZgF) (Zav ZgF) (Zaf ZgF) .none kV19 dc19 pm19 an19 cd19 ct19,cT,tb,tTab,nTab,λs v=>.of_eq rfl,λbase _ _ hC hBl=>?_⟩
 have TC:ClsR K mg no way a1 a2 a3 a4 a5 a6 a7 a8 a9 a10 a11 a12:=⟨⟨xex,xga,xnga,xcl,xob,xbe⟩,(PySem.W.mg_of X G gno),(PySem.W.mg_of X G gway),(PySem.W.mg_of X G g1),(PySem.W.mg_of X G g2),(PySem.W.mg_of X G g3),(PySem.W.mg_of X G g4),(PySem.W.mg_of X G g5),(PySem.W.mg_of X G g6),(PySem.W.mg_of X G g7),(PySem.W.mg_of X G g8),(PySem.W.mg_of X G g9),(PySem.W.mg_of X G g10),(PySem.W.mg_of X G g11),(PySem.W.mg_of X G g12),wbe,cw,nne,o1,o2,t7,t3,ve,(PySem.W.mg_none_of X G nisinstance),(PySem.W.mg_none_of X G nValueError)⟩
 have GFb:=ZjU (P:=l.prog) (w:=w) (base:=base) FFb rfl hC hBl (PySem.W.mg_none_of X G nsorted) (PySem.W.mg_none_of X G nrange) (PySem.W.mg_none_of X G nlen)
 have GZs:=ZjW (P:=l.prog) (w:=w) (base:=base) FZs FFb bFb mFb GFb
 have GNs:=Zj2 (P:=l.prog) (w:=w) (base:=base) FNs FZs bZs mZs GZs FB bB mB FE bE mE FH bH mH (PySem.W.mg_of X G gno) xex
 have GP:=Zj4 (P:=l.prog) (w:=w) (base:=base) FP (PySem.W.mg_none_of X G nlen)
 have GR:=Zj7 (P:=l.prog) (w:=w) (base:=base) FR FT bT mT (PySem.W.mg_none_of X G nrange)
 have GFa:=Zkb (P:=l.prog) (w:=w) (base:=base) FFa FT bT mT FS bS mS FU bU mU FO bO mO (PySem.W.mg_none_of X G nrange) (PySem.W.mg_none_of X G nlen) (PySem.W.mg_none_of X G nint) (PySem.W.mg_none_of X G nsorted)
 have GTb:=Zkg (P:=l.prog) (w:=w) (base:=base) FTb FO bO mO (PySem.W.mg_none_of X G nlen) (PySem.W.mg_none_of X G nmin) (PySem.W.mg_none_of X G ntuple) (PySem.W.mg_none_of X G nsorted)
 have GSm:=Zkk (P:=l.prog) (w:=w) (base:=base) FSm FT bT mT (PySem.W.mg_none_of X G nrange) (PySem.W.mg_none_of X G nlist)
 have GOt:=Zko (P:=l.prog) (w:=w) (base:=base) FOt FT bT mT FS bS mS (PySem.W.mg_none_of X G nlen) (PySem.W.mg_none_of X G nsorted)
 have GTo:=Zkm (P:=l.prog) (w:=w) (base:=base) FTo TC FNs bNs mNs GNs FJ bJ mJ (PySem.W.mg_none_of X G nrange)
 exact Zkp FL FP bP mP GP FR bR mR GR FFa bFa mFa GFa FTb bTb mTb GTb FSm bSm mSm GSm FOt bOt mOt GOt FTo bTo mTo GTo kib (PySem.W.mg_none_of X G nisinstance) (PySem.W.mg_none_of X G nint) (PySem.W.mg_none_of X G nbool) (PySem.W.mg_none_of X G nrange) (PySem.W.mg_none_of X G nlen) (PySem.W.mg_none_of X G nmax) (PySem.W.mg_none_of X G nmin) (PySem.W.mg_none_of X G nlist)
theorem walk {l:PySem.W.OpenLaw} {q:Program} {loose:List Str} {XP:(Str->Option Value)->Heap->Prop} {YP:World->Heap->Prop} {d dd:DefRec} {K:Params->PySem.W.Frag} (hn:l.most=some 63) (hdf:d.params.defaults=[])
  (hY:∀ (w:World) (h:Heap),YP w h->(K w.params).In h) (hrec:(PyProof.Rows.recsOf q).find? (λe=>e.name == Str.ofString "from_below")=some dd)
  (F:∀ (w:World) (mg:Str->Option Value) (fa:Addr) (h:Heap),(K w.params).In h->h.Ns mainGlobals mg->mg d.name=some (.ref fa) ->
   ∃ (fd:FuncData) (c P:Addr),PySem.W.tabIn (K w.params) "from_below" = some (c,P)/\(K w.params).lookup P=none/\(∀ (s:Shared) (u:Value),BindsTo s fd ⟨[u],[]⟩ [("script", u)])/\∀ base:Heap,(K w.params).In base->base.Ns mainGlobals mg->PySem.W.CodeHd base c P->base.BuiltinsAt mg P->ZaX l.prog w (K w.params) mg base CX0 5 fa fd ["script"] (Zhv (K w.params) P)) :
  PySem.W.WalkO q loose XP YP l.row.toRowW d [] (λf vs=>PySem.call f vs):=
 L2.walk_ofT (n:=63) (k:=5) (x := "script") (tn:=Str.ofString "from_below") (CX:=λ_=>CX0) (sp:=λw P=>(Zhv (K w.params) P)) hn (by decide) hdf ⟨rfl,by decide,by decide⟩ hY hrec F (λ_ P _ a ns hl _ hP hS=>⟨a,ns,rfl,hS,hl,hP,λ_=>rfl⟩) λ_ _ _ _ _ z=>z
end M
open PySem PySem.W PyProof.Rows
local macro_rules
 | `(tactic| o_head $H)=>`(tactic| (
  refine @holds_open _ M.seenP M.loosely M.hookX (XL M.seenP []) _ (Hook.obs $H) (Hook.val $H) (Hook.says $H) _ _ 7314
   (@M.left_boot M.rowP M.seenP M.loosely M.hookX _ (Hook.obs $H) (Hook.val $H) 7314 ?b1 ?b2 ?b3 M.topC M.topA ?hl)
   (Hook.of $H) (Hook.keeps $H) ?h1 XL.keeps (by rfl) (by rfl) (by rfl) ?h5 ?h6 ?h7 ?h8 ?h9 ?hw ?hc
  (case h1=>exact λs e=>xl_of s (Bool.and_eq_true_iff.mp e).1)
  (case h5=>exact λs e=>recFacts_of (Bool.and_eq_true_iff.mp e).2)
  (case h6=>rfl)
  (case h7=>first | assumption | decide +kernel)
  (case h8=>decide +kernel)
  (case h9=>exact ⟨rfl,rfl,rfl,rfl,rfl,by decide +kernel⟩)
  (case b1=>kernel_rfl)
  (case b2=>decide)
  (case b3=>(intro s;kernel_rfl))
  (case hl=>(intro w os;unfold M.topOf;rw [PySem.W.Fast.te14082659384304107361,PySem.W.Fast.te14364793385576792824];kernel_rfl))))
set_option maxRecDepth 100000 in
set_option maxHeartbeats 0 in
theorem PySem.Challenge.cw_onceways_k53_numbers_of_sets_holds : PySem.Challenge.rw_onceways_k53_numbers_of_sets.Holds := by
 w_on;o_law;k_head;(case hw=>w_witness2)
 k_fill
 refine M.walk (l:=PySem.Challenge.rw_onceways_k53_numbers_of_sets) rfl rfl (λw h Y=>PySem.W.km_in_of Y) (by rfl) ?F
 case F=>
  intro w mg fa h KX G hmg
  refine' M.all_mk KX G hmg ?aF1 ?lF1 ?cF1 ?kF1 ?aF2 ?lF2 ?cF2 ?kF2 ?aF3 ?lF3 ?cF3 ?kF3 ?aF4 ?lF4 ?cF4 ?kF4 ?aF5 ?lF5 ?cF5 ?kF5 ?aF6 ?lF6 ?cF6 ?kF6 ?aF7 ?lF7 ?cF7 ?kF7 ?aF8 ?lF8 ?cF8 ?kF8 ?aF9 ?lF9 ?cF9 ?kF9 ?aF10 ?lF10 ?cF10 ?kF10 ?aF11 ?lF11 ?cF11 ?kF11 ?aF12 ?lF12 ?cF12 ?kF12 ?aF13 ?lF13 ?cF13 ?kF13 ?aF14 ?lF14 ?cF14 ?kF14 ?aF15 ?lF15 ?cF15 ?kF15 ?aF16 ?lF16 ?cF16 ?kF16 ?aF17 ?lF17 ?cF17 ?kF17 ?aF18 ?lF18 ?cF18 ?kF18 ?aF19 ?lF19 ?cF19 ?kF19 ?gno ?gway ?g1 ?g2 ?g3 ?g4 ?g5 ?g6 ?g7 ?g8 ?g9 ?g10 ?g11 ?g12 ?xex ?xga ?xnga ?xcl ?xob ?xbe ?wbe ?cw ?nne ?o1 ?o2 ?t7 ?t3 ?ve ?kib ?lcT ?v11 ?nTab ?nrange ?nlist ?nlen ?nint ?nmax ?nmin ?nsorted ?nbool ?ntuple ?nisinstance ?nValueError
  (case aF1=>k_is)
  (case lF1=>k_is)
  (case cF1=>k_is)
  (case kF1=>k_is)
  (case aF2=>k_is)
  (case lF2=>k_is)
  (case cF2=>k_is)
  (case kF2=>k_is)
  (case aF3=>k_is)
  (case lF3=>k_is)
  (case cF3=>k_is)
  (case kF3=>k_is)
  (case aF4=>k_is)
  (case lF4=>k_is)
  (case cF4=>k_is)
  (case kF4=>k_is)
  (case aF5=>k_is)
  (case lF5=>k_is)
  (case cF5=>k_is)
  (case kF5=>k_is)
  (case aF6=>k_is)
  (case lF6=>k_is)
  (case cF6=>k_is)
  (case kF6=>k_is)
  (case aF7=>k_is)
  (case lF7=>k_is)
  (case cF7=>k_is)
  (case kF7=>k_is)
  (case aF8=>k_is)
  (case lF8=>k_is)
  (case cF8=>k_is)
  (case kF8=>k_is)
  (case aF9=>k_is)
  (case lF9=>k_is)
  (case cF9=>k_is)
  (case kF9=>k_is)
  (case aF10=>k_is)
  (case lF10=>k_is)
  (case cF10=>k_is)
  (case kF10=>k_is)
  (case aF11=>k_is)
  (case lF11=>k_is)
  (case cF11=>k_is)
  (case kF11=>k_is)
  (case aF12=>k_is)
  (case lF12=>k_is)
  (case cF12=>k_is)
  (case kF12=>k_is)
  (case aF13=>k_is)
  (case lF13=>k_is)
  (case cF13=>k_is)
  (case kF13=>k_is)
  (case aF14=>k_is)
  (case lF14=>k_is)
  (case cF14=>k_is)
  (case kF14=>k_is)
  (case aF15=>k_is)
  (case lF15=>k_is)
  (case cF15=>k_is)
  (case kF15=>k_is)
  (case aF16=>k_is)
  (case lF16=>k_is)
  (case cF16=>k_is)
  (case kF16=>k_is)
  (case aF17=>k_is)
  (case lF17=>k_is)
  (case cF17=>k_is)
  (case kF17=>k_is)
  (case aF18=>k_is)
  (case lF18=>k_is)
  (case cF18=>k_is)
  (case kF18=>k_is)
  (case aF19=>k_is)
  (case lF19=>k_is)
  (case cF19=>k_is)
  (case kF19=>k_is)
  (case gno=>k_is)
  (case gway=>k_is)
  (case g1=>k_is)
  (case g2=>k_is)
  (case g3=>k_is)
  (case g4=>k_is)
  (case g5=>k_is)
  (case g6=>k_is)
  (case g7=>k_is)
  (case g8=>k_is)
  (case g9=>k_is)
  (case g10=>k_is)
  (case g11=>k_is)
  (case g12=>k_is)
  (case xex=>(unfold L2.ExcC;k_exc))
  (case xga=>k_is)
  (case xnga=>k_is)
  (case xcl=>k_is)
  (case xob=>k_is)
  (case xbe=>k_is)
  (case wbe=>k_is)
  (case cw=>kit_is)
  (case nne=>decide)
  (case o1=>kit_is)
  (case o2=>kit_is)
  (case t7=>kit_is)
  (case t3=>kit_is)
  (case ve=>kit_is)
  (case kib=>kit_is)
  (case lcT=>k_is)
  (case v11=>exact rfl)
  (case nTab=>kernel_rfl)
  (case nrange=>k_is)
  (case nlist=>k_is)
  (case nlen=>k_is)
  (case nint=>k_is)
  (case nmax=>k_is)
  (case nmin=>k_is)
  (case nsorted=>k_is)
  (case nbool=>k_is)
  (case ntuple=>k_is)
  (case nisinstance=>k_is)
  (case nValueError=>k_is)
#print axioms PySem.Challenge.cw_onceways_k53_numbers_of_sets_holds
