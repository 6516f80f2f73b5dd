import PyProof.Rows.All
import Wide.All
import OpenK.AllK
import Wide.FinOn
import Lean
import PyProof.EqAt
import PyProof.EqKinds
import PyProof.TupleCall
import PySem.Challenge.RW_onceways_k11_three_hundred_ways
set_option Elab.async false
set_option linter.all false
set_option maxRecDepth 100000
set_option maxHeartbeats 4000000
namespace L2
open PySem PySem.Spec PyProof.Rows
abbrev Key:=Sum Int Str
def Zf6:Key->Value->Bool
 | .inl k,v=>Value.isInt k v
 | .inr x,v=>Value.isStrOf x v
def Zok (w:World):Key->Int
 | .inl k=>hashInt k
 | .inr x=>hashStr w x
theorem ZaM:∀ {k:Key} {v:Value},Zf6 k v=true->(∃ i t,k=Sum.inl i/\v=Value.int i t)\/(∃ x t,k=Sum.inr x/\v=Value.str x t)
 | .inl i,v,h=>by
  obtain ⟨t,e⟩:=Value.isInt_shape (k:=i) (v:=v) h
  exact .inl ⟨i,t,rfl,e⟩
 | .inr x,v,h=>by
  obtain ⟨t,e⟩:=Value.isStrOf_shape (x:=x) (v:=v) h
  exact .inr ⟨x,t,rfl,e⟩
theorem Zgw (i:Int) (t:Tok):Zf6 (.inl i) (.int i t)=true:=by simp [Zf6,Value.isInt]
theorem Zgx (x:Str) (t:Tok):Zf6 (.inr x) (.str x t)=true:=by simp [Zf6,Value.isStrOf]
theorem Zlb (a b:Int):decide ((Sum.inl a:Key)=Sum.inl b)=(a == b):=by
 by_cases e:a=b
 ·subst e;simp
 ·have h:¬ (Sum.inl a:Key)=Sum.inl b:=λq=>e (Sum.inl.inj q)
  rw [decide_eq_false h]
  exact (beq_eq_false_iff_ne.mpr e).symm
theorem Zlc (a b:Str):decide ((Sum.inr a:Key)=Sum.inr b)=decide (a=b):=by
 by_cases e:a=b
 ·subst e;simp
 ·have h:¬ (Sum.inr a:Key)=Sum.inr b:=λq=>e (Sum.inr.inj q)
  rw [decide_eq_false h,decide_eq_false e]
theorem Zld (a:Int) (b:Str):decide ((Sum.inl a:Key)=Sum.inr b)=false:=decide_eq_false (λq=>nomatch q)
theorem Zle (a:Str) (b:Int):decide ((Sum.inr a:Key)=Sum.inl b)=false:=decide_eq_false (λq=>nomatch q)
def ZaU (prog:Program) (w:World):PySem.KeyKind prog w Key where
 is:=Zf6
 hash:=Zok w
 inj:=λv a b ha hb=>by
  rcases ZaM ha with ⟨i,t,rfl,rfl⟩ | ⟨x,t,rfl,rfl⟩
  ·rcases ZaM hb with ⟨j,u,rfl,e⟩ | ⟨y,u,rfl,e⟩
   ·injection e with e1 _;rw [e1]
   ·exact nomatch e
  ·rcases ZaM hb with ⟨j,u,rfl,e⟩ | ⟨y,u,rfl,e⟩
   ·exact nomatch e
   ·injection e with e1 _;rw [e1]
 byValue:=λk v h=>by
  rcases ZaM h with ⟨i,t,rfl,rfl⟩ | ⟨x,t,rfl,rfl⟩ <;> rfl
 pyHash:=λhv h=>by
  rcases ZaM hv with ⟨i,t,rfl,rfl⟩ | ⟨x,t,rfl,rfl⟩
  ·exact wpAny_pyHash_int h
  ·exact wpAny_pyHash_str h
 eqBool:=λhu hv h=>by
  rcases ZaM hu with ⟨i,t,rfl,rfl⟩ | ⟨x,t,rfl,rfl⟩
  ·rcases ZaM hv with ⟨j,u,rfl,rfl⟩ | ⟨y,u,rfl,rfl⟩
   ·rw [Zlb] at h;exact wpAny_eqBool_int h
   ·rw [Zld] at h;exact SeqAt.EqAt.int_str i t y u _ _ _ _ h
  ·rcases ZaM hv with ⟨j,u,rfl,rfl⟩ | ⟨y,u,rfl,rfl⟩
   ·rw [Zle] at h;exact SeqAt.EqAt.str_int x t j u _ _ _ _ h
   ·rw [Zlc] at h;exact wpAny_eqBool_str h
 «strs»:=λk x t v h=>by
  rcases ZaM h with ⟨i,u,rfl,e⟩ | ⟨y,u,rfl,e⟩
  ·exact nomatch e
  ·injection e with e1 _
   subst e1
   cases v <;> rfl
theorem ZeT (prog:Program) (w:World) (i:Int) (t:Tok):(ZaU prog w).is (.inl i) (.int i t)=true:=Zgw i t
theorem ZeU (prog:Program) (w:World) (x:Str) (t:Tok):(ZaU prog w).is (.inr x) (.str x t)=true:=Zgx x t
end L2
namespace L2
open PySem PySem.Spec PyProof.Rows
inductive V where
 | non | bl (b:Bool) | int (i:Int) | str (x:Str) | byt (b:Array UInt8) | flt (b:UInt64) | ref (a:Addr) | ty (n:String)
 deriving DecidableEq
def RelV:V->Value->Prop
 | .non,u=>u=Value.none
 | .bl b,u=>u=Value.bool b
 | .int i,u=>∃ t,u=Value.int i t
 | .str x,u=>∃ t,u=Value.str x t
 | .byt b,u=>∃ t,u=Value.bytes b t
 | .flt b,u=>∃ t,u=Value.float b t
 | .ref a,u=>u=Value.ref a
 | .ty n,u=>u=Value.type n
abbrev Vals:List V->List Value->Prop:=Paired RelV
theorem Vals.length {xs:List V} {us:List Value} (r:Vals xs us):xs.length=us.length:=Paired.length r
theorem Vals.get:∀ {xs:List V} {us:List Value} {i:Nat} {x:V},Vals xs us->xs[i]?=some x->∃ u,us[i]?=some u/\RelV x u
 | _,_,_,_,.nil,e=>by simp at e
 | _,_,0,_,.cons r _,e=>by simp at e;subst e;exact ⟨_,rfl,r⟩
 | _,_,i+1,x,.cons _ t,e=>by
  obtain ⟨u,h1,h2⟩:=Vals.get (i:=i) (x:=x) t (by simpa using e)
  exact ⟨u,by simpa using h1,h2⟩
theorem Vals.set {x:V} {u:Value} (r:RelV x u):∀ {xs:List V} {us:List Value} (i:Nat),Vals xs us->Vals (xs.set i x) (us.set i u)
 | _,_,_,.nil=>.nil
 | _,_,0,.cons _ t=>.cons r t
 | _,_,i+1,.cons q t=>.cons q (Vals.set r i t)
theorem Vals.append:∀ {xs ys:List V} {us ws:List Value},Vals xs us->Vals ys ws->Vals (xs++ys) (us++ws)
 | _,_,_,_,.nil,s=>s
 | _,_,_,_,.cons r t,s=>.cons r (Vals.append t s)
theorem Vals.take:∀ {xs:List V} {us:List Value} (n:Nat),Vals xs us->Vals (xs.take n) (us.take n)
 | _,_,0,_=>.nil
 | _,_,_+1,.nil=>.nil
 | _,_,n+1,.cons r t=>.cons r (Vals.take n t)
theorem Vals.drop:∀ {xs:List V} {us:List Value} (n:Nat),Vals xs us->Vals (xs.drop n) (us.drop n)
 | _,_,0,r=>r
 | _,_,_+1,.nil=>.nil
 | _,_,n+1,.cons _ t=>Vals.drop n t
def RelO:Option V->Option Value->Prop
 | some v,some u=>RelV v u
 | none,none=>True
 | _,_=>False
def KV {κ:Type}:List (κ×V)->List (κ×Value)->Prop:=Paired λ(p:κ×V) (q:κ×Value)=>p.1=q.1/\RelV p.2 q.2
def kV:Key->V
 | .inl i=>.int i
 | .inr x=>.str x
inductive HO where
  | lst (xs:List V)
  | tup (xs:List V)
  | dK (kvs:List (Key×V)) | dT (kvs:List (List Key×V))
  | set (S:Int->Bool) (n:Nat)
  | ins (C dx:Addr) (fs:List (Str×V))
  | own (x:Addr)
  | xd (fs:List (Str×V))
  | met (f x:Addr)
  | rng (lo hi:Int)
  | frz (o:Obj) (u:HO)
  | tbl (ps:Array Value)
  | ext (φ:Heap->Prop)
abbrev Hp:=Addr->Option HO
def upd (H:Hp) (a:Addr) (o:HO):Hp:=λb=>if b=a then some o else H b
theorem Zab {H:Hp} {a:Addr} {o:HO}:upd H a o a=some o:=by unfold upd;rw [if_pos rfl]
theorem Zam {H:Hp} {a b:Addr} {o:HO} (h:b≠a):upd H a o b=H b:=by unfold upd;rw [if_neg h]
theorem Zgy {H:Hp} {a b:Addr} {o u:HO} (h:H a=some o) (h':H b=some u) (d:o≠u):a≠b:=by
 intro e;subst e;rw [h] at h';exact d (Option.some.inj h')
theorem Zae {H:Hp} {a b:Addr} {o:HO} (h:H a=some o) (h':H b=none):a≠b:=by
 intro e;subst e;rw [h] at h';cases h'
section
variable (P:Program) (w:World)
def ObjOk (H:Hp) (h:Heap) (a:Addr):HO->Prop
 | .lst xs=>xs.length<=sizeLine/\∃ (its:List Value) (n:Nat),Vals xs its/\h.get? a=some { cls:=.type "list", data:=.seq its.toArray n }
 | .tup xs=>xs.length<=sizeLine/\∃ its:List Value,Vals xs its/\IsTup h a its.toArray
 | .dK kvs=>kvs.length<=sizeLine/\(a == sysModules)=false/\∃ vs,KV kvs vs/\h.DictOf (ZaU P w) a vs
 | .dT kvs=>kvs.length<=sizeLine/\(a == sysModules)=false/\∃ xs:List (List Key×Addr×Value),
   Paired (λ(p:List Key×V) (q:List Key×Addr×Value)=>p.1=q.1/\H q.2.1=some (.tup (p.1.map kV))/\RelV p.2 q.2.2) kvs xs /\
   ∃ o es ep,h.get? a=some o/\o.ExactDict/\o.data=.dict es ep/\es.toList=xs.map (entryOfKey (tupleKind (ZaU P w)))/\(xs.map (·.1)).Nodup
 | .set S n=>h.SetOf (intKind P w) a S n
 | .ins C dx fs=>H dx=some (.own a)/\fs.length<=1000/\dx≠a/\h.get? a=some (PySem.W.instObj C dx) /\
   ∃ mA,h.Ns1 dx mA/\(∀ f,RelO (fs.lookup f) (mA f))/\PySem.Within mA (fs.map (·.1))
 | .own _=>∃ o,h.get? a=some o
 | .xd fs=>∃ mA,h.Ns1 a mA/\∀ f,RelO (fs.lookup f) (mA f)
 | .rng lo hi=>∃ t u v,h.get? a=some { cls:=.type "range", data:=.fields #[.int lo t,.int hi u,.int 1 v] }
 | .frz o u=>h.get? a=some o/\ObjOk H h a u
 | .tbl ps=>h.get? a=some { cls:=.none,data:=.fields ps }
 | .met f x=>h.get? a=some (PySem.W.methodObj (.ref f) (.ref x))
 | .ext φ=>φ h/\(∃ o,h.get? a=some o)/\∀ h1 h2:Heap,φ h1->(∀ o,h1.get? a=some o->h2.get? a=some o)->φ h2
def HOk (H:Hp) (h:Heap):Prop:=∀ a o,H a=some o->ObjOk P w H h a o
end
section
variable {P:Program} {w:World} {H H':Hp} {h h':Heap} {a:Addr} {o:HO}
theorem ObjOk.lt (x:ObjOk P w H h a o):a<h.objs.size:=by
 cases o with
 | lst xs=>obtain ⟨_,_,_,_,e⟩:=x;exact Heap.lt_size e
 | tup xs=>obtain ⟨_,_,_,p⟩:=x;exact p.lt
 | dK kvs=>obtain ⟨_,_,_,_,o,_,_,e,_⟩:=x;exact Heap.lt_size e
 | dT kvs=>obtain ⟨_,_,_,_,o,_,_,e,_⟩:=x;exact Heap.lt_size e
 | set S n=>obtain ⟨o,_,_,_,e,_⟩:=x;exact Heap.lt_size e
 | ins C dx fs=>obtain ⟨_,_,_,e,_⟩:=x;exact Heap.lt_size e
 | own y=>obtain ⟨_,e⟩:=x;exact Heap.lt_size e
 | xd fs=>obtain ⟨_,⟨_,_,_,e,_⟩,_⟩:=x;exact Heap.lt_size e
 | rng lo hi=>obtain ⟨_,_,_,e⟩:=x;exact Heap.lt_size e
 | frz ob u=>obtain ⟨e,_⟩:=x;exact Heap.lt_size e
 | tbl ps=>exact Heap.lt_size (show h.get? a=some _ from x)
 | met f y=>exact Heap.lt_size (show h.get? a=some _ from x)
 | ext φ=>obtain ⟨_,⟨_,e⟩,_⟩:=x;exact Heap.lt_size e
theorem Paired.mapP {α β:Type} {F G:α->β->Prop}:∀ {l₁:List α} {l₂:List β},Paired F l₁ l₂->(∀ a b,F a b->G a b)->Paired G l₁ l₂
 | _,_,.nil,_=>.nil
 | _,_,.cons r t,f=>.cons (f _ _ r) (Paired.mapP t f)
theorem ObjOk.stay (x:ObjOk P w H h a o) (k:∀ b u,(b=a\/H b=some (.own a))->h.get? b=some u->h'.get? b=some u)
  (ho:∀ b,H b=some (.own a)->H' b=some (.own a)) (ht:∀ b xs,H b=some (.tup xs)->H' b=some (.tup xs)):ObjOk P w H' h' a o:=by
 induction o with
 | lst xs=>obtain ⟨z,its,n,r,e⟩:=x;exact ⟨z,its,n,r,k _ _ (.inl rfl) e⟩
 | tup xs=>obtain ⟨z,its,r,ob,e,c⟩:=x;exact ⟨z,its,r,ob,k _ _ (.inl rfl) e,c⟩
 | dK kvs=>obtain ⟨z,y,vs,r,ob,es,ep,e,c⟩:=x;exact ⟨z,y,vs,r,ob,es,ep,k _ _ (.inl rfl) e,c⟩
 | dT kvs=>
  obtain ⟨z,y,xs,r,ob,es,ep,e,c⟩:=x
  exact ⟨z,y,xs,Paired.mapP r λp q z=>⟨z.1,ht _ _ z.2.1,z.2.2⟩,ob,es,ep,k _ _ (.inl rfl) e,c⟩
 | set S n=>obtain ⟨ob,es,ep,t,e,c⟩:=x;exact ⟨ob,es,ep,t,k _ _ (.inl rfl) e,c⟩
 | ins C dx fs=>
  obtain ⟨d,z,ne,e,mA,⟨od,es,ep,e2,c⟩,r⟩:=x
  exact ⟨ho _ d,z,ne,k _ _ (.inl rfl) e,mA,⟨od,es,ep,k _ _ (.inr d) e2,c⟩,r⟩
 | own y=>obtain ⟨ob,e⟩:=x;exact ⟨ob,k _ _ (.inl rfl) e⟩
 | xd fs=>obtain ⟨mA,⟨od,es,ep,e,c⟩,r⟩:=x;exact ⟨mA,⟨od,es,ep,k _ _ (.inl rfl) e,c⟩,r⟩
 | rng lo hi=>obtain ⟨t,u,v,e⟩:=x;exact ⟨t,u,v,k _ _ (.inl rfl) e⟩
 | frz ob u ih=>obtain ⟨e,q⟩:=x;exact ⟨k _ _ (.inl rfl) e,ih q⟩
 | tbl ps=>
  have e:h.get? a=some { cls:=.none,data:=.fields ps }:=x
  show h'.get? a=some { cls:=.none,data:=.fields ps }
  exact k a _ (.inl rfl) e
 | met f y=>
  have e:h.get? a=some (PySem.W.methodObj (.ref f) (.ref y)):=x
  show h'.get? a=some (PySem.W.methodObj (.ref f) (.ref y))
  exact k a _ (.inl rfl) e
 | ext φ=>obtain ⟨p,⟨o,e⟩,st⟩:=x;exact ⟨st _ _ p λo q=>k _ _ (.inl rfl) q,⟨o,k _ _ (.inl rfl) e⟩,st⟩
theorem HOk.lt (x:HOk P w H h) (e:H a=some o):a<h.objs.size:=(x a o e).lt
theorem HOk.fresh (x:HOk P w H h) (e:h.objs.size<=a):H a=none:=by
 cases q:H a with
 | none=>rfl
 | some u=>exact absurd (Nat.lt_of_lt_of_le (x.lt q) e) (Nat.lt_irrefl _)
theorem HOk.kept (x:HOk P w H h) (k:∀ b u,h.get? b=some u->h'.get? b=some u):HOk P w H h':=λa o e=>
 (x a o e).stay (λb u _ q=>k b u q) (λ_ q=>q) λ_ _ q=>q
theorem HOk.laid (x:HOk P w H h) (k:∀ b u,h.get? b=some u->h'.get? b=some u) (hp:h.objs.size<=a) (new:ObjOk P w (upd H a o) h' a o):HOk P w (upd H a o) h':=λb u e=>by
 have hn:=x.fresh hp
 by_cases hb:b=a
 ·subst hb;rw [Zab] at e;cases e;exact new
 ·rw [Zam hb] at e
  exact (x b u e).stay (λc v _ q=>k c v q) (λc q=>by rw [Zam (Zae q hn)];exact q) λc xs q=>by rw [Zam (Zae q hn)];exact q
end
def Rd (H:Hp) (a:Addr) (u:HO):Prop:=H a=some u\/∃ o,H a=some (.frz o u)
theorem Rd.ok {P:Program} {w:World} {H:Hp} {h:Heap} {a:Addr} {u:HO} (r:Rd H a u) (x:HOk P w H h):ObjOk P w H h a u:=by
 rcases r with r | ⟨o,r⟩
 ·exact x a u r
 ·obtain ⟨_,q⟩:=x a _ r
  exact q
def Mut:Option HO->Prop
 | some (.lst _)=>True
 | some (.dK _)=>True
 | some (.dT _)=>True
 | some (.set _ _)=>True
 | some (.ins _ _ _)=>True
 | some (.ext _)=>True
 | _=>False
section
variable {P:Program} {w:World} {H:Hp} {h h':Heap} {x e:Addr} {o':HO}
theorem HOk.write (ok:HOk P w H h) (mu:Mut (H x)) (he:e=x\/H e=some (.own x)) (k:∀ b u,b≠e->h.get? b=some u->h'.get? b=some u) (heo:∃ u,h'.get? e=some u)
  (new:ObjOk P w (upd H x o') h' x o'):HOk P w (upd H x o') h':=λb u q=>by
 have nown:∀ c y,H c=some (.own y)->c≠x:=λc y r z=>by subst z;rw [r] at mu;exact mu
 have ntup:∀ c xs,H c=some (.tup xs)->c≠x:=λc xs r z=>by subst z;rw [r] at mu;exact mu
 by_cases hb:b=x
 ·subst hb;rw [Zab] at q;cases q;exact new
 ·rw [Zam hb] at q
  by_cases hbe:b=e
  ·have q':H b=some (.own x):=by
    rcases he with z | z
    ·exact absurd (hbe.trans z) hb
    ·rw [hbe];exact z
   rw [q] at q';cases q'
   obtain ⟨v,hv⟩:=heo
   exact ⟨v,by rw [hbe];exact hv⟩
  ·refine (ok b u q).stay (λc v hc r=>k c v ?_ r) (λc r=>by rw [Zam (nown c b r)];exact r) λc xs r=>by rw [Zam (ntup c xs r)];exact r
   rcases hc with rfl | hc
   ·exact hbe
   ·rintro rfl
    rcases he with z | z
    ·exact nown c b hc z
    ·rw [hc] at z;cases z;exact hb rfl
end
structure Un (fs ex:List Addr) (H H':Hp) (h h':Heap):Prop where
 keep:∀ b o,h.get? b=some o->H b=none->b ∉ fs->b ∉ ex->h'.get? b=some o
 slot:∀ b o,h.get? b=some o->H b=none->b∈fs->b ∉ ex->∃ sl,h'.get? b=some { o with slots:=sl }
 free:∀ b o,h.get? b=some o->H b=none->b ∉ ex->H' b=none
 there:∀ b o,h.get? b=some o->b ∉ ex->∃ o',h'.get? b=some o'
 tups:∀ b xs,H b=some (.tup xs)->H' b=some (.tup xs)
 frzs:∀ b o u,H b=some (.frz o u)->H' b=some (.frz o u)
 tbls:∀ b ps,H b=some (.tbl ps)->∃ more,H' b=some (.tbl (ps++more))
section
variable {fs fs' ex ex':List Addr} {H H1 H2:Hp} {h h1 h2 h':Heap} {a x e:Addr} {o:HO}
theorem Un.any (u:Un fs ex H H1 h h1) {b:Addr} {ob:Obj} (q:h.get? b=some ob) (n:H b=none) (hx:b ∉ ex):∃ sl,h1.get? b=some { ob with slots:=sl }:=by
 by_cases hb:b∈fs
 ·exact u.slot b ob q n hb hx
 ·exact ⟨ob.slots,u.keep b ob q n hb hx⟩
theorem Un.trans (a:Un fs ex H H1 h h1) (b:Un fs ex H1 H2 h1 h2):Un fs ex H H2 h h2 where
 keep:=λc ob q n hc hx=>b.keep c ob (a.keep c ob q n hc hx) (a.free c ob q n hx) hc hx
 slot:=λc ob q n hc hx=>by
  obtain ⟨sl,e1⟩:=a.slot c ob q n hc hx
  obtain ⟨sl',e2⟩:=b.slot c _ e1 (a.free c ob q n hx) hc hx
  exact ⟨sl',e2⟩
 free:=λc ob q n hx=>by
  obtain ⟨o',e1⟩:=a.there c ob q hx
  exact b.free c o' e1 (a.free c ob q n hx) hx
 there:=λc ob q hx=>by
  obtain ⟨o',e1⟩:=a.there c ob q hx
  exact b.there c o' e1 hx
 tups:=λc xs q=>b.tups c xs (a.tups c xs q)
 frzs:=λc ob xs q=>b.frzs c ob xs (a.frzs c ob xs q)
 tbls:=λc ps q=>by
  obtain ⟨m1,e1⟩:=a.tbls c ps q
  obtain ⟨m2,e2⟩:=b.tbls c _ e1
  exact ⟨m1++m2,by rw [e2,Array.append_assoc]⟩
theorem Un.kept (k:∀ b u,h.get? b=some u->h'.get? b=some u):Un fs ex H H h h':=
 ⟨λb ob q _ _ _=>k b ob q,λb ob q _ _ _=>⟨ob.slots,k b ob q⟩,λ_ _ _ n _=>n,λb ob q _=>⟨ob,k b ob q⟩,λ_ _ q=>q,λ_ _ _ q=>q,λ_ ps q=>⟨#[],by rw [q];simp⟩⟩
theorem Un.refl:Un fs ex H H h h:=Un.kept λ_ _ q=>q
theorem Un.laid (k:∀ b u,h.get? b=some u->h'.get? b=some u) (hp:h.objs.size<=a) (hn:H a=none):Un fs ex H (upd H a o) h h' where
 keep:=λb u q _ _ _=>k b u q
 slot:=λb u q _ _ _=>⟨u.slots,k b u q⟩
 free:=λb u q n _=>by rw [Zam (Nat.ne_of_lt (Nat.lt_of_lt_of_le (Heap.lt_size q) hp))];exact n
 there:=λb u q _=>⟨u,k b u q⟩
 tups:=λb xs q=>by rw [Zam (Zae q hn)];exact q
 frzs:=λb u xs q=>by rw [Zam (Zae q hn)];exact q
 tbls:=λb ps q=>⟨#[],by rw [Zam (Zae q hn),q];simp⟩
theorem Un.write (mu:Mut (H x)) (he:e=x\/H e=some (.own x)) (k:∀ b u,b≠e->h.get? b=some u->h'.get? b=some u) (heo:∃ u,h'.get? e=some u):Un fs ex H (upd H x o) h h':=by
 have hx:∀ b,H b=none->b≠x:=λb n z=>by subst z;rw [n] at mu;exact mu
 have hb:∀ b,H b=none->b≠e:=λb n z=>by
  subst z
  rcases he with r | r
  ·exact hx b n r
  ·rw [n] at r;cases r
 have hm:∀ b u,H b=some u->¬ Mut (some u)->b≠x:=λb u q nm z=>by subst z;rw [q] at mu;exact nm mu
 refine ⟨λb u q n _ _=>k b u (hb b n) q,λb u q n _ _=>⟨u.slots,k b u (hb b n) q⟩,λb u q n _=>by rw [Zam (hx b n)];exact n,λb u q _=>?_,
  λb xs q=>by rw [Zam (hm b _ q λz=>z)];exact q,λb u xs q=>by rw [Zam (hm b _ q λz=>z)];exact q,λb ps q=>⟨#[],by rw [Zam (hm b _ q λz=>z),q];simp⟩⟩
 by_cases hbe:b=e
 ·subst hbe;exact heo
 ·exact ⟨u,k b u hbe q⟩
theorem Un.mono (u:Un fs ex H H1 h h1) (hs:∀ b∈fs,b∈fs') (hx:∀ b∈ex,b∈ex'):Un fs' ex' H H1 h h1:=
 ⟨λb ob q n hb he=>u.keep b ob q n (λz=>hb (hs b z)) λz=>he (hx b z),λ_ _ q n _ he=>u.any q n λz=>he (hx _ z),λb ob q n he=>u.free b ob q n λz=>he (hx b z),λb ob q he=>u.there b ob q λz=>he (hx b z),u.tups,u.frzs,u.tbls⟩
end
def trk (h:Heap) (H:Hp):List Addr:=(List.range h.objs.size).filter λa=>(H a).isSome
def Zh4 (h:Heap) (H:Hp):Heap:=PySem.W.hideAll h (trk h H)
theorem Zgz (h:Heap) (H:Hp):(Zh4 h H).objs.size=h.objs.size:=PySem.W.hideAll_size _ _
theorem Zh5 {h:Heap} {H:Hp} {b:Addr} {o:Obj} (e:h.get? b=some o) (n:H b=none):(Zh4 h H).get? b=some o:=
 PySem.W.hideAll_get _ e λhm=>by
  have q:(H b).isSome=true:=(List.mem_filter.mp hm).2
  rw [n] at q;simp at q
theorem ZjH {h:Heap} {H:Hp} {b:Addr} {o:Obj} (e:(Zh4 h H).get? b=some o):h.get? b=some o/\H b=none:=by
 have e':h.get? b=some o:=PySem.W.of_hideAll (trk h H) e
 refine ⟨e',?_⟩
 cases q:H b with
 | none=>rfl
 | some x=>
  have hm:b∈trk h H:=List.mem_filter.mpr ⟨List.mem_range.mpr (Heap.lt_size e'),by simp [q]⟩
  have z:(Zh4 h H).get? b=none:=PySem.W.hideAll_none (trk h H) hm
  rw [z] at e;cases e
def ZjI (g h:Heap) (L:Addr):List (Addr×Obj):=(List.range h.objs.size).filterMap λa=>if a=L\/(g.get? a).isSome=true then none else (h.get? a).map λo=>(a,o)
def rest (g h:Heap) (L d:Addr):List (Addr×Obj):=(ZjI g h L).filter λp=>decide (p.1≠d)
end L2
namespace L2
open PySem PySem.Spec PyProof.Rows
structure Mod (K:PySem.W.Frag) (mg:Str->Option Value) (base:Heap):Prop where
 kin:K.In base
 glob:base.Ns mainGlobals mg
 blt:∃ mb,base.Ns builtinsNs mb/\∀ x:Str,x ≠ "__name__" -> mb x=bootBuiltins x
 nolimit:base.NoLimit
structure Cx where
 prog:Program
 w:World
 K:PySem.W.Frag
 mg:Str->Option Value
 base:Heap
 A:Around
 N:List Str
 s₀:Shared
 H₀:Hp
 env:Env
 outer:List Env
 stack:List Env
 ex:List Addr
 fn:Str->Bool
 calm:Bool
 pn:List (Addr×Obj)
 xe:Value->Shared->Prop
def frs (l:List Env):List Addr:=l.filterMap (·.frame)
abbrev Cx.fs (X:Cx):List Addr:=frs X.outer
def Vis (sc:Scope) (x:Str):Prop:=sc.names.lookup x=some .local\/sc.names.lookup x=some .cell\/sc.names.lookup x=some .free
def Loc (sc:Scope) (x:Str):Prop:=sc.names.lookup x=some .local\/sc.names.lookup x=some .cell
def Zol (env:Env) (h:Heap) (m:Str->Option Value) (x:Str) (u:Value):Prop:=
 (env.kindOf x=some .local/\m x=some u)\/((env.kindOf x=some .cell\/env.kindOf x=some .free)/\∃ c,env.cells.lookup x=some c/\h.IsCell c (some u))
structure Cx.Ok (X:Cx):Prop where
 mod:Mod X.K X.mg X.base
 kind:X.env.scope.kind=.function
 glob:X.env.globals=mainGlobals
 blt:X.env.builtins=builtinsNs
 above:X.s₀.heap.objs.size<=X.env.locals
 inj:∀ x y c,X.env.cells.lookup x=some c->X.env.cells.lookup y=some c->x=y
 has:∀ x,(X.env.kindOf x=some .cell\/X.env.kindOf x=some .free)->∃ c,X.env.cells.lookup x=some c
 cab:∀ x c,X.fn x=true->X.env.cells.lookup x=some c->X.s₀.heap.objs.size<=c
 hd:X.calm=true->X.A.handled=none
 frames:X.A.frames=some X.stack
 stk:X.stack=X.outer\/(X.stack=X.env::X.outer/\X.env.frame=some X.env.locals)
 exf:∀ b∈X.ex,b≠X.env.locals/\∀ x c,X.env.cells.lookup x=some c->c≠b
 bs:∀ b o,X.base.get? b=some o->X.s₀.heap.get? b=some o/\X.H₀ b=none
 bsz:X.base.objs.size<=X.s₀.heap.objs.size
 noex:∀ b o,X.base.get? b=some o->b ∉ X.ex
 exfs:∀ b∈X.ex,b ∉ X.fs
 funs:X.s₀.heap.FunFrames X.base X.outer
 frf:∀ b∈X.fs,X.H₀ b=none
structure Inv (X:Cx) (pins:List (Addr×Obj)) (σ:List (Option V)) (H:Hp) (s:Shared):Prop where
 ok:X.Ok
 os:s.os=X.s₀.os
 bare:AllBare s.gens
 base:Un X.fs X.ex X.H₀ H X.s₀.heap s.heap
 loc:∃ m,s.heap.Ns X.env.locals m/\∀ (i:Nat) (x:Str) (v:V),X.N[i]?=some x->σ[i]?=some (some v)->Vis X.env.scope x->∃ u,RelV v u/\Zol X.env s.heap m x u
 cell:∀ x c,X.env.cells.lookup x=some c->∃ v,s.heap.IsCell c v
 free:H X.env.locals=none
 freeC:∀ x c,X.env.cells.lookup x=some c->H c=none
 pin:∀ p∈X.pn++pins,s.heap.get? p.1=some p.2/\H p.1=none/\p.1≠X.env.locals/\p.1 ∉ X.fs/\∀ v,p.2.data≠.cell v
 hok:HOk X.prog X.w H s.heap
 len:σ.length=X.N.length
section
variable {X:Cx} {pins:List (Addr×Obj)} {σ:List (Option V)} {H H':Hp} {s:Shared} {h':Heap}
theorem Cx.Ok.nofr (ok:X.Ok) {b:Addr} {o:Obj} (e:X.base.get? b=some o):b ∉ X.fs:=λhb=>by
 have:=(ok.funs.mem hb).1
 rw [e] at this;cases this
theorem Inv.bs (I:Inv X pins σ H s):∀ b o,X.base.get? b=some o->s.heap.get? b=some o/\H b=none:=λb o e=>
 ⟨I.base.keep b o (I.ok.bs b o e).1 (I.ok.bs b o e).2 (I.ok.nofr e) (I.ok.noex b o e),I.base.free b o (I.ok.bs b o e).1 (I.ok.bs b o e).2 (I.ok.noex b o e)⟩
theorem Inv.bk (I:Inv X pins σ H s):∀ b o,X.base.get? b=some o->s.heap.get? b=some o:=λb o e=>(I.bs b o e).1
theorem Inv.mod (I:Inv X pins σ H s):Mod X.K X.mg X.base:=I.ok.mod
theorem Inv.kIn (I:Inv X pins σ H s):X.K.In s.heap:=I.ok.mod.kin.keeps I.bk
theorem Inv.lt (I:Inv X pins σ H s):X.env.locals<s.heap.objs.size:=let ⟨_,hn,_⟩:=I.loc;hn.lt
theorem Inv.sz (I:Inv X pins σ H s):X.s₀.heap.objs.size<=s.heap.objs.size:=Nat.le_trans I.ok.above (Nat.le_of_lt I.lt)
theorem Inv.nofs (I:Inv X pins σ H s) {a:Addr} (h:s.heap.objs.size<=a):a ∉ X.fs:=λhb=>by
 obtain ⟨_,o,ho,_⟩:=I.ok.funs.mem hb
 exact absurd (Nat.lt_of_lt_of_le (Heap.lt_size ho) (Nat.le_trans I.sz h)) (Nat.lt_irrefl _)
theorem Inv.cne (I:Inv X pins σ H s):∀ x c,X.env.cells.lookup x=some c->c≠X.env.locals:=λx c e z=>by
 obtain ⟨v,o,ho,hd⟩:=I.cell x c e
 obtain ⟨m,⟨o',es,ep,ho',hd',_⟩,_⟩:=I.loc
 rw [z,ho'] at ho;cases ho;rw [hd'] at hd;cases hd
theorem Inv.funs (I:Inv X pins σ H s):s.heap.FunFrames X.base X.outer:=by
 have all:∀ (l:List Env),(∀ b∈frs l,b∈X.fs)->X.s₀.heap.FunFrames X.base l->s.heap.FunFrames X.base l:=by
  intro l
  induction l with
  | nil=>intro _ _;trivial
  | cons env r ih=>
   intro hs hl
   obtain ⟨hk,⟨L,o,hf,hn,ho,hd⟩,hr⟩:=hl
   have hL:L∈X.fs:=hs L (by unfold frs;rw [List.filterMap_cons,hf];exact List.mem_cons_self)
   obtain ⟨sl,e⟩:=I.base.slot L o ho (I.ok.frf L hL) hL λz=>I.ok.exfs L z hL
   exact ⟨hk,⟨L,_,hf,hn,e,hd⟩,ih (λb hb=>hs b (by unfold frs;rw [List.filterMap_cons,hf];exact List.mem_cons_of_mem _ hb)) hr⟩
 exact all X.outer (λ_ hb=>hb) I.ok.funs
theorem Inv.stack (I:Inv X pins σ H s):s.heap.FunFrames X.base X.stack:=by
 rcases I.ok.stk with e | ⟨e,hf⟩
 ·rw [e];exact I.funs
 ·rw [e]
  obtain ⟨m,hn,_⟩:=I.loc
  refine .cons (by rw [I.ok.kind];decide) hf hn ?_ I.funs
  exact Heap.get?_none_of_le (Nat.le_trans I.ok.bsz I.ok.above)
theorem Inv.stkSub (I:Inv X pins σ H s):∀ b∈frs X.stack,b∈X.env.locals::X.fs:=λb hb=>by
 rcases I.ok.stk with e | ⟨e,hf⟩
 ·rw [e] at hb;exact List.mem_cons_of_mem _ hb
 ·rw [e] at hb
  unfold frs at hb
  rw [List.filterMap_cons,hf] at hb
  exact hb
theorem Inv.stkFree (I:Inv X pins σ H s):∀ b∈frs X.stack,H b=none:=λb hb=>by
 rcases List.mem_cons.mp (I.stkSub b hb) with e | hb
 ·rw [e];exact I.free
 ·obtain ⟨_,o,ho,_⟩:=I.ok.funs.mem hb
  exact I.base.free b o ho (I.ok.frf b hb) λz=>I.ok.exfs b z hb
theorem Inv.step {g':Array GenState} {t':Nat} {d':Drawn} {ch:List Addr} (I:Inv X pins σ H s)
  (hch:∀ b∈ch,(b∈X.ex\/X.s₀.heap.objs.size<=b)/\b≠X.env.locals/\(∀ x c,X.env.cells.lookup x=some c->c≠b)/\∀ p∈X.pn++pins,p.1≠b)
  (keep:∀ b o,b≠X.env.locals->b ∉ X.fs->b ∉ ch->s.heap.get? b=some o->H b=none->h'.get? b=some o)
  (slot:∀ b o,b≠X.env.locals->b∈X.fs->b ∉ ch->s.heap.get? b=some o->H b=none->∃ sl,h'.get? b=some { o with slots:=sl }) (free:∀ b o,b ∉ ch->s.heap.get? b=some o->H b=none->H' b=none)
  (there:∀ b o,b ∉ ch->s.heap.get? b=some o->∃ o',h'.get? b=some o')
  (tups:∀ b xs,H b=some (.tup xs)->H' b=some (.tup xs)) (frzs:∀ b o u,H b=some (.frz o u)->H' b=some (.frz o u)) (tbls:∀ b ps,H b=some (.tbl ps)->∃ more,H' b=some (.tbl (ps++more)))
  (ns:∀ m,s.heap.Ns X.env.locals m->h'.Ns X.env.locals m) (hok:HOk X.prog X.w H' h') (hg:AllBare g') :
  Inv X pins σ H' { s with heap:=h',gens:=g',drawn:=d',toks:=t' }:=by
 have neL:∀ b o,X.s₀.heap.get? b=some o->b≠X.env.locals:=λb o e=>Nat.ne_of_lt (Nat.lt_of_lt_of_le (Heap.lt_size e) I.ok.above)
 have neC:∀ b o,X.s₀.heap.get? b=some o->b ∉ X.ex->b ∉ ch:=λb o e hx hb=>by
  rcases (hch b hb).1 with z | z
  ·exact hx z
  ·exact absurd (Nat.lt_of_lt_of_le (Heap.lt_size e) z) (Nat.lt_irrefl _)
 have cellK:∀ x c,X.env.cells.lookup x=some c->∀ v,s.heap.IsCell c v->h'.IsCell c v:=λx c e v ⟨o,ho,hd⟩=>by
  have nch:c ∉ ch:=λz=>(hch c z).2.2.1 x c e rfl
  by_cases hc:c∈X.fs
  ·obtain ⟨sl,q⟩:=slot c o (I.cne x c e) hc nch ho (I.freeC x c e)
   exact ⟨_,q,hd⟩
  ·exact ⟨o,keep c o (I.cne x c e) hc nch ho (I.freeC x c e),hd⟩
 refine ⟨I.ok,I.os,hg,⟨λb o e n hb hx=>?_,λb o e n hb hx=>?_,λb o e n hx=>?_,λb o e hx=>?_,λb xs e=>tups b xs (I.base.tups b xs e),λb o xs e=>frzs b o xs (I.base.frzs b o xs e),λb ps e=>?_⟩,?_,λx c e=>?_,?_,λx c e=>?_,λp hp=>?_,hok,I.len⟩
 ·exact keep b o (neL b o e) hb (neC b o e hx) (I.base.keep b o e n hb hx) (I.base.free b o e n hx)
 ·obtain ⟨sl,e1⟩:=I.base.slot b o e n hb hx
  obtain ⟨sl',e2⟩:=slot b _ (neL b o e) hb (neC b o e hx) e1 (I.base.free b o e n hx)
  exact ⟨sl',e2⟩
 ·obtain ⟨o',e1⟩:=I.base.there b o e hx
  exact free b o' (neC b o e hx) e1 (I.base.free b o e n hx)
 ·obtain ⟨o',e1⟩:=I.base.there b o e hx
  exact there b o' (neC b o e hx) e1
 ·obtain ⟨m1,e1⟩:=I.base.tbls b ps e
  obtain ⟨m2,e2⟩:=tbls b _ e1
  exact ⟨m1++m2,by rw [e2,Array.append_assoc]⟩
 ·obtain ⟨m,hn,hl⟩:=I.loc
  refine ⟨m,ns m hn,λi x v e1 e2 e3=>?_⟩
  obtain ⟨u,r,l⟩:=hl i x v e1 e2 e3
  refine ⟨u,r,?_⟩
  rcases l with l | ⟨k,c,e,z⟩
  ·exact .inl l
  ·exact .inr ⟨k,c,e,cellK x c e _ z⟩
 ·obtain ⟨v,z⟩:=I.cell x c e
  exact ⟨v,cellK x c e v z⟩
 ·obtain ⟨m,⟨o,_,_,ho,_⟩,_⟩:=I.loc
  exact free _ o (λz=>(hch _ z).2.1 rfl) ho I.free
 ·obtain ⟨v,o,ho,hd⟩:=I.cell x c e
  exact free c o (λz=>(hch c z).2.2.1 x c e rfl) ho (I.freeC x c e)
 ·obtain ⟨e,n,ne,nf,d⟩:=I.pin p hp
  have nch:p.1 ∉ ch:=λz=>(hch p.1 z).2.2.2 p hp rfl
  exact ⟨keep p.1 p.2 ne nf nch e n,free p.1 p.2 nch e n,ne,nf,d⟩
theorem Inv.un {t':Nat} (I:Inv X pins σ H s) (u:Un X.fs [] H H' s.heap h') (hok:HOk X.prog X.w H' h'):Inv X pins σ H' { s with heap:=h',toks:=t' }:=by
 obtain ⟨m,⟨o,es,ep,ho,r⟩,_⟩:=id I.loc
 obtain ⟨sl,hL⟩:=u.any ho I.free (by simp)
 exact I.step (g':=s.gens) (d':=s.drawn) (ch:=[]) (λ_ z=>nomatch z) (λb o _ hb _ e n=>u.keep b o e n hb (by simp)) (λb o _ hb _ e n=>u.slot b o e n hb (by simp)) (λb o _ e n=>u.free b o e n (by simp)) (λb o _ e=>u.there b o e (by simp)) u.tups u.frzs u.tbls (λm' hm=>by
  obtain ⟨o',es',ep',ho',r'⟩:=hm
  rw [ho] at ho';cases ho'
  exact ⟨_,es',ep',hL,r'⟩) hok I.bare
theorem Inv.call {g':Array GenState} {t':Nat} {d':Drawn} {ch:List Addr} (I:Inv X pins σ H s) (u:Un (frs X.stack) ch H H' s.heap h') (hok:HOk X.prog X.w H' h') (hg:AllBare g')
  (hch:∀ b∈ch,(b∈X.ex\/X.s₀.heap.objs.size<=b)/\b≠X.env.locals/\(∀ x c,X.env.cells.lookup x=some c->c≠b)/\∀ p∈X.pn++pins,p.1≠b) :
  Inv X pins σ H' { s with heap:=h',gens:=g',drawn:=d',toks:=t' }:=by
 obtain ⟨m,⟨o,es,ep,ho,r⟩,_⟩:=id I.loc
 obtain ⟨sl,hL⟩:=u.any ho I.free λz=>(hch _ z).2.1 rfl
 exact I.step (ch:=ch) hch (λb o hL hb hc e n=>u.keep b o e n (λz=>(List.mem_cons.mp (I.stkSub b z)).elim hL hb) hc) (λb o _ _ hc e n=>u.any e n hc) (λb o hc e n=>u.free b o e n hc) (λb o hc e=>u.there b o e hc) u.tups u.frzs u.tbls (λm' hm=>by
  obtain ⟨o',es',ep',ho',r'⟩:=hm
  rw [ho] at ho';cases ho'
  exact ⟨_,es',ep',hL,r'⟩) hok hg
theorem Inv.turned {t':Nat} {it:Addr} (I:Inv X pins σ H s) (k:∀ b o,b≠it->s.heap.get? b=some o->h'.get? b=some o) (hn:H it=none) (hL:it≠X.env.locals)
  (h1:it∈X.ex\/X.s₀.heap.objs.size<=it) (h2:∀ x c,X.env.cells.lookup x=some c->c≠it) (h3:∀ p∈X.pn++pins,p.1≠it):Inv X pins σ H { s with heap:=h',toks:=t' }:=by
 have nit:∀ b u,H b=some u->b≠it:=λb u e z=>by rw [z,hn] at e;cases e
 refine I.step (g':=s.gens) (d':=s.drawn) (ch:=[it]) (λb hb=>?_) (λb o _ _ hc e _=>k b o (λz=>hc (by simp [z])) e) (λb o _ _ hc e _=>⟨o.slots,k b o (λz=>hc (by simp [z])) e⟩) (λ_ _ _ _ n=>n)
  (λb o hc e=>⟨o,k b o (λz=>hc (by simp [z])) e⟩) (λ_ _ e=>e) (λ_ _ _ e=>e) (λb ps e=>⟨#[],by rw [e];simp⟩) (λm hm=>?_) (λb u e=>?_) I.bare
 ·have e:b=it:=by simpa using hb
  subst e
  exact ⟨h1,hL,h2,h3⟩
 ·obtain ⟨o,es,ep,ho,r⟩:=hm
  exact ⟨o,es,ep,k _ o (Ne.symm hL) ho,r⟩
 ·refine (I.hok b u e).stay (λc v hc q=>k c v ?_ q) (λ_ q=>q) λ_ _ q=>q
  rcases hc with z | z
  ·rw [z];exact nit b u e
  ·exact nit c _ z
theorem Inv.tok (I:Inv X pins σ H s) (t:Nat):Inv X pins σ H { s with toks:=t }:=I.un (h':=s.heap) (t':=t) Un.refl I.hok
theorem Inv.kept {t':Nat} (I:Inv X pins σ H s) (k:∀ b u,s.heap.get? b=some u->h'.get? b=some u):Inv X pins σ H { s with heap:=h',toks:=t' }:=I.un (Un.kept k) (I.hok.kept k)
theorem Inv.laid {a:Addr} {o:HO} {t':Nat} (I:Inv X pins σ H s) (k:∀ b u,s.heap.get? b=some u->h'.get? b=some u) (hp:s.heap.objs.size<=a) (new:ObjOk X.prog X.w (upd H a o) h' a o) :
  Inv X pins σ (upd H a o) { s with heap:=h',toks:=t' }:=I.un (Un.laid k hp (I.hok.fresh hp)) (I.hok.laid k hp new)
theorem Inv.write {x e:Addr} {o:HO} {t':Nat} (I:Inv X pins σ H s) (mu:Mut (H x)) (he:e=x\/H e=some (.own x)) (k:∀ b u,b≠e->s.heap.get? b=some u->h'.get? b=some u) (heo:∃ u,h'.get? e=some u)
  (new:ObjOk X.prog X.w (upd H x o) h' x o):Inv X pins σ (upd H x o) { s with heap:=h',toks:=t' }:=I.un (Un.write mu he k heo) (I.hok.write mu he k heo new)
theorem Inv.weak {σ':List (Option V)} (I:Inv X pins σ H s) (hl:σ'.length=σ.length) (w:∀ (i:Nat) v,σ'[i]?=some (some v)->σ[i]?=some (some v)):Inv X pins σ' H s:=
 ⟨I.ok,I.os,I.bare,I.base,let ⟨m,hn,hl'⟩:=I.loc;⟨m,hn,λi x v e1 e2 e3=>hl' i x v e1 (w i v e2) e3⟩,I.cell,I.free,I.freeC,I.pin,I.hok,hl.trans I.len⟩
theorem Inv.pins_of {pins':List (Addr×Obj)} (I:Inv X pins σ H s) (h:∀ p∈pins',s.heap.get? p.1=some p.2/\H p.1=none/\p.1≠X.env.locals/\p.1 ∉ X.fs/\∀ v,p.2.data≠.cell v):Inv X pins' σ H s:=
 ⟨I.ok,I.os,I.bare,I.base,I.loc,I.cell,I.free,I.freeC,λp hp=>(List.mem_append.mp hp).elim (λz=>I.pin p (List.mem_append_left _ z)) (h p),I.hok,I.len⟩
theorem ZdI {N:List Str} (hN:N.Nodup) {i j:Nat} {x:Str} (a:N[i]?=some x) (b:N[j]?=some x):i=j:=by
 obtain ⟨h1,e1⟩:=List.getElem?_eq_some_iff.mp a
 obtain ⟨h2,e2⟩:=List.getElem?_eq_some_iff.mp b
 exact (List.getElem_inj hN).mp (e1.trans e2.symm)
theorem Zee {M:Model} {A:Around} {E:Value->Shared->Prop} {i:Nat} {x:Str} {v:V} {u:Value} {Q:Unit->Shared->Prop} (I:Inv X pins σ H s) (hN:X.N.Nodup) (hi:X.N[i]?=some x) (hx:Loc X.env.scope x) (r:RelV v u)
  (h:∀ s',Inv X pins (σ.set i (some v)) H s'->(∃ a,Heap.SameBut a s.heap s'.heap/\(a=X.env.locals\/X.env.cells.lookup x=some a))->Q () s') (hf:X.fn x=true\/X.env.scope.names.lookup x=some .local:=by first | exact .inl rfl | exact .inr rfl | assumption):wpAny M A (storeName X.env x u) Q E s:=by
 obtain ⟨m,hn,hl⟩:=id I.loc
 have hcls:(X.env.scope.kind == .class || (X.env.scope.kind == .module && X.env.locals != X.env.globals))=false:=by rw [I.ok.kind];rfl
 have hiσ:i<σ.length:=by rw [I.len];exact (List.getElem?_eq_some_iff.mp hi).1
 have cne:=I.cne
 have tracked:∀ {a:Addr} {h':Heap},(∃ o,s.heap.get? a=some o/\H a=none)->Heap.SameBut a s.heap h'->HOk X.prog X.w H h':=λ{a h'} ha hs b ob e=>by
  obtain ⟨_,_,hfree⟩:=ha
  refine (I.hok b ob e).stay (λc w' hc q=>(hs.2 c ?_).trans q) (λ_ q=>q) λ_ _ q=>q
  rintro rfl
  rcases hc with rfl | hc
  ·rw [hfree] at e;cases e
  ·rw [hfree] at hc;cases hc
 rcases hx with hk | hk
 ·refine wpAny_storeName_local hk hn (λh' hn' hs=>?_) hcls
  obtain ⟨oL,_,_,hoL,_⟩:=id hn
  refine h _ ⟨I.ok,I.os,I.bare,⟨λb o e n hb hx=>?_,λb o e n hb hx=>?_,I.base.free,λb o e hx=>?_,I.base.tups,I.base.frzs,I.base.tbls⟩,⟨_,hn',λj y v' e1 e2 e3=>?_⟩,λy c e=>?_,I.free,I.freeC,λp hp=>?_,tracked ⟨oL,hoL,I.free⟩ hs,by simpa using I.len⟩ ⟨_,hs,.inl rfl⟩
  ·exact (hs.2 b (Nat.ne_of_lt (Nat.lt_of_lt_of_le (Heap.lt_size e) I.ok.above))).trans (I.base.keep b o e n hb hx)
  ·obtain ⟨sl,e1⟩:=I.base.slot b o e n hb hx
   exact ⟨sl,(hs.2 b (Nat.ne_of_lt (Nat.lt_of_lt_of_le (Heap.lt_size e) I.ok.above))).trans e1⟩
  ·obtain ⟨o',e1⟩:=I.base.there b o e hx
   exact ⟨o',(hs.2 b (Nat.ne_of_lt (Nat.lt_of_lt_of_le (Heap.lt_size e) I.ok.above))).trans e1⟩
  ·by_cases hj:j=i
   ·subst hj
    rw [hi] at e1;cases e1
    rw [List.getElem?_set_self hiσ] at e2
    cases e2
    exact ⟨u,r,.inl ⟨hk,by simp⟩⟩
   ·rw [List.getElem?_set_ne (Ne.symm hj)] at e2
    obtain ⟨u',r',q⟩:=hl j y v' e1 e2 e3
    refine ⟨u',r',?_⟩
    rcases q with ⟨k,e⟩ | ⟨k,c,e,z⟩
    ·refine .inl ⟨k,?_⟩
     have:y≠x:=λe=>hj (ZdI hN e1 (e▸hi))
     simp [this,e]
    ·exact .inr ⟨k,c,e,z.sameBut hs (cne y c e)⟩
  ·obtain ⟨w',z⟩:=I.cell y c e
   exact ⟨w',z.sameBut hs (cne y c e)⟩
  ·obtain ⟨e,n,ne,nf,d⟩:=I.pin p hp
   exact ⟨(hs.2 p.1 ne).trans e,n,ne,nf,d⟩
 ·have hfn:X.fn x=true:=by
   rcases hf with z | z
   ·exact z
   ·rw [z] at hk;cases hk
  obtain ⟨c,hc⟩:=I.ok.has x (.inl hk)
  obtain ⟨w',z⟩:=I.cell x c hc
  refine wpAny_storeName_cell I.ok.kind hk hc z (λh' hc' hs=>?_)
  obtain ⟨oc,hoc,hocd⟩:=id z
  refine h { s with heap:=h' } ⟨I.ok,I.os,I.bare,⟨λb o e n hb hx=>?_,λb o e n hb hx=>?_,I.base.free,λb o e hx=>?_,I.base.tups,I.base.frzs,I.base.tbls⟩,⟨m,hn.sameBut hs (Ne.symm (cne x c hc)),λj y v' e1 e2 e3=>?_⟩,λy c' e=>?_,I.free,I.freeC,λp hp=>?_,tracked ⟨oc,hoc,I.freeC x c hc⟩ hs,by simpa using I.len⟩ ⟨c,hs,.inr hc⟩
  ·exact (hs.2 b (Nat.ne_of_lt (Nat.lt_of_lt_of_le (Heap.lt_size e) (I.ok.cab x c hfn hc)))).trans (I.base.keep b o e n hb hx)
  ·obtain ⟨sl,e1⟩:=I.base.slot b o e n hb hx
   exact ⟨sl,(hs.2 b (Nat.ne_of_lt (Nat.lt_of_lt_of_le (Heap.lt_size e) (I.ok.cab x c hfn hc)))).trans e1⟩
  ·obtain ⟨o',e1⟩:=I.base.there b o e hx
   exact ⟨o',(hs.2 b (Nat.ne_of_lt (Nat.lt_of_lt_of_le (Heap.lt_size e) (I.ok.cab x c hfn hc)))).trans e1⟩
  ·by_cases hj:j=i
   ·subst hj
    rw [hi] at e1;cases e1
    rw [List.getElem?_set_self hiσ] at e2
    cases e2
    exact ⟨u,r,.inr ⟨.inl hk,c,hc,hc'⟩⟩
   ·rw [List.getElem?_set_ne (Ne.symm hj)] at e2
    obtain ⟨u',r',q⟩:=hl j y v' e1 e2 e3
    refine ⟨u',r',?_⟩
    rcases q with q | ⟨k,c',e,z'⟩
    ·exact .inl q
    ·refine .inr ⟨k,c',e,z'.sameBut hs ?_⟩
     rintro rfl
     exact hj (ZdI hN e1 (I.ok.inj _ _ _ e hc▸hi))
  ·by_cases hcc:c'=c
   ·subst hcc;exact ⟨_,hc'⟩
   ·obtain ⟨w2,z2⟩:=I.cell y c' e
    exact ⟨w2,z2.sameBut hs hcc⟩
  ·obtain ⟨e,n,ne,nf,d⟩:=I.pin p hp
   refine ⟨(hs.2 p.1 ?_).trans e,n,ne,nf,d⟩
   intro q
   rw [q,hoc] at e
   have q':oc=p.2:=Option.some.inj e
   exact d w' (by rw [<-q'];exact hocd)
theorem ZcW {M:Model} {A:Around} {E:Value->Shared->Prop} {i:Nat} {x:Str} {v:V} {u:Value} {Q:Unit->Shared->Prop} (I:Inv X pins σ H s) (hN:X.N.Nodup) (hi:X.N[i]?=some x) (hx:Loc X.env.scope x) (r:RelV v u)
  (h:∀ s',Inv X pins (σ.set i (some v)) H s'->Q () s') (hf:X.fn x=true\/X.env.scope.names.lookup x=some .local:=by first | exact .inl rfl | exact .inr rfl | assumption):wpAny M A (storeName X.env x u) Q E s:=
 Zee I hN hi hx r (λs' I' _=>h s' I') hf
theorem Inv.call' {s':Shared} {ch:List Addr} (I:Inv X pins σ H s) (ho:s'.os=s.os) (u:Un (frs X.stack) ch H H' s.heap s'.heap) (hok:HOk X.prog X.w H' s'.heap) (hg:AllBare s'.gens)
  (hch:∀ b∈ch,(b∈X.ex\/X.s₀.heap.objs.size<=b)/\b≠X.env.locals/\(∀ x c,X.env.cells.lookup x=some c->c≠b)/\∀ p∈X.pn++pins,p.1≠b):Inv X pins σ H' s':=by
 obtain ⟨h',g',d',t',o'⟩:=s'
 have e:o'=s.os:=ho
 subst e
 exact I.call (g':=g') (t':=t') (d':=d') u hok hg hch
end
abbrev XK:=Value->Option Addr->Hp->Prop
abbrev St:=List (Option V)
abbrev VK:=V->Hp->Prop
abbrev TE:=St->Hp->VK->Prop
abbrev TT:=St->Hp->(Bool->Hp->Prop)->Prop
abbrev TA:=St->Hp->(List V->Hp->Prop)->Prop
structure Ends where
 nx:St->Hp->Prop
 rt:VK
 bk:St->Hp->Prop:=λ_ _=>False
 ct:St->Hp->Prop:=λ_ _=>False
abbrev TS:=Ends->St->Hp->Prop
def EP (X:Cx) (pins:List (Addr×Obj)) (σ:St) (Q:VK) (u:Value) (s':Shared):Prop:=∃ v H',Inv X pins σ H' s'/\RelV v u/\Q v H'
def TP (X:Cx) (pins:List (Addr×Obj)) (σ:St) (Q:Bool->Hp->Prop) (b:Bool) (s':Shared):Prop:=∃ H',Inv X pins σ H' s'/\Q b H'
def AP (X:Cx) (pins:List (Addr×Obj)) (σ:St) (Q:List V->Hp->Prop) (us:List Value) (s':Shared):Prop:=∃ vs H',Inv X pins σ H' s'/\Vals vs us/\Q vs H'
def SP (X:Cx) (pins:List (Addr×Obj)) (D:Ends) (f:Flow) (s':Shared):Prop:=
 match f with
 | .next=>∃ σ' H',Inv X pins σ' H' s'/\D.nx σ' H'
 | .brk=>∃ σ' H',Inv X pins σ' H' s'/\D.bk σ' H'
 | .cont=>∃ σ' H',Inv X pins σ' H' s'/\D.ct σ' H'
 | .ret u=>∃ v σ' H',Inv X pins σ' H' s'/\RelV v u/\D.rt v H'
def PE (X:Cx) (e:Expr) (t:TE):Prop:=
 ∀ (pins:List (Addr×Obj)) (s:Shared) (σ:St) (H:Hp) (Q:VK),Inv X pins σ H s->t σ H Q->wpAny (model X.prog X.w) X.A (eval e X.env) (EP X pins σ Q) X.xe s
def PT (X:Cx) (e:Expr) (t:TT):Prop:=
 ∀ (pins:List (Addr×Obj)) (s:Shared) (σ:St) (H:Hp) (Q:Bool->Hp->Prop),Inv X pins σ H s->t σ H Q->wpAny (model X.prog X.w) X.A (isTrue e X.env (eval e X.env)) (TP X pins σ Q) X.xe s
def PW (X:Cx) (e:Expr) (t:TT):Prop:=
 ∀ (whole:Sem Value) (pins:List (Addr×Obj)) (s:Shared) (σ:St) (H:Hp) (Q:Bool->Hp->Prop),Inv X pins σ H s->t σ H Q->wpAny (model X.prog X.w) X.A (isTrue e X.env whole) (TP X pins σ Q) X.xe s
theorem PW.pt {X:Cx} {e:Expr} {t:TT} (h:PW X e t):PT X e t:=h _
def PA (X:Cx) (es:List Expr) (t:TA):Prop:=
 ∀ (pos:Pos) (pins:List (Addr×Obj)) (s:Shared) (σ:St) (H:Hp) (Q:List V->Hp->Prop),Inv X pins σ H s->t σ H Q->wpAny (model X.prog X.w) X.A (spliced (backTo pos (starEach es X.env))) (AP X pins σ Q) X.xe s
def PS (X:Cx) (st:Stmt) (t:TS):Prop:=
 ∀ (pins:List (Addr×Obj)) (s:Shared) (σ:St) (H:Hp) (D:Ends),Inv X pins σ H s->t D σ H->wpAny (model X.prog X.w) X.A (exec st X.env) (SP X pins D) X.xe s
def PSs (X:Cx) (st:List Stmt) (t:TS):Prop:=
 ∀ (pins:List (Addr×Obj)) (s:Shared) (σ:St) (H:Hp) (D:Ends),Inv X pins σ H s->t D σ H->wpAny (model X.prog X.w) X.A (execs st X.env) (SP X pins D) X.xe s
theorem thn {α:Type} {t:Sem α} {Q Q':α->Shared->Prop} {M:Model} {A:Around} {E:Value->Shared->Prop} {s:Shared} (h:wpAny M A t Q E s) (hQ:∀ a s,Q a s->Q' a s):wpAny M A t Q' E s:=wpAny_mono h hQ λ_ _ x=>x
end L2
namespace L2
open PySem PySem.Spec PyProof.Rows
section
variable {X:Cx}
def ZnM (i:Nat):TE:=λσ H Q=>∃ v,σ[i]?=some (some v)/\Q v H
def tC (v:V):TE:=λ_ H Q=>Q v H
theorem Zlf {i:Nat} {x:Str} {pos:Pos} (hN:X.N[i]?=some x) (hv:Vis X.env.scope x) (hd:(x == ("__debug__" : Str))=false:=by decide) (hcd:(x == ("__classdict__" : Str))=false:=by decide):PE X (.Name x pos) (ZnM i):=by
 intro pins s σ H Q I h
 obtain ⟨v,e,h⟩:=h
 obtain ⟨m,hn,hl⟩:=I.loc
 obtain ⟨u,r,l⟩:=hl i x v hN e hv
 have fin:EP X pins σ Q u s:=⟨v,H,I,r,h⟩
 rcases l with ⟨hk,hm⟩ | ⟨hk,c,hc,hcell⟩
 ·exact wpAny_Name (wpAny_loadName_local I.ok.kind hk hn hm fin) hd
 ·rcases hk with hk | hk
  ·exact wpAny_Name (wpAny_loadName_cell I.ok.kind hk hc hcell fin) hd
  ·exact wpAny_Name (wpAny_loadName_free I.ok.kind hk hc hcell fin hcd) hd
theorem Zad {i j pos}:PE X (.Constant (.int i) j pos) (tC (.int i)):=λ_ _ _ H _ I h=>wpAny_Constant_int ⟨.int i,H,I.tok _,⟨_,rfl⟩,h⟩
theorem Zbo {b j pos}:PE X (.Constant (.bool b) j pos) (tC (.bl b)):=λ_ _ _ H _ I h=>Constant_bool ⟨.bl b,H,I,rfl,h⟩
theorem ZbA {j pos}:PE X (.Constant .none j pos) (tC .non):=λ_ _ _ H _ I h=>Constant_none ⟨.non,H,I,rfl,h⟩
theorem ZcN {x j pos}:PE X (.Constant (.str x) j pos) (tC (.str x)):=λ_ _ _ H _ I h=>Calls.Constant_str ⟨.str x,H,I.tok _,⟨_,rfl⟩,h⟩
def Gl (X:Cx) (x:Str):Prop:=X.env.kindOf x=some .globalImplicit
theorem Zc4 {E:Value->Shared->Prop} {pins:List (Addr×Obj)} {s:Shared} {σ:St} {H:Hp} {x:Str} {u:Value} {pos:Pos} {Q:Value->Shared->Prop} (I:Inv X pins σ H s) (hg:Gl X x) (hm:X.mg x=some u) (h:Q u s)
  (hd:(x == ("__debug__" : Str))=false:=by decide):wpAny (model X.prog X.w) X.A (eval (.Name x pos) X.env) Q E s:=
 Calls.Name_function_global I.ok.kind hg (Calls.loadGlobal_global (by rw [I.ok.glob];exact I.mod.glob.keeps I.bk) hm h) hd
theorem Zcd {E:Value->Shared->Prop} {pins:List (Addr×Obj)} {s:Shared} {σ:St} {H:Hp} {x:Str} {u:Value} {pos:Pos} {Q:Value->Shared->Prop} (I:Inv X pins σ H s) (hg:Gl X x) (hm:X.mg x=none) (hv:bootBuiltins x=some u) (h:Q u s)
  (hn:x ≠ "__name__" := by decide) (hd:(x == ("__debug__" : Str))=false:=by decide):wpAny (model X.prog X.w) X.A (eval (.Name x pos) X.env) Q E s:=by
 obtain ⟨mb,h1,h2⟩:=I.mod.blt
 exact Calls.Name_function_global I.ok.kind hg (Calls.loadGlobal_builtin (by rw [I.ok.glob];exact I.mod.glob.keeps I.bk) hm (by rw [I.ok.blt];exact h1.keeps I.bk) ((h2 x hn).trans hv) h) hd
theorem ZeV {x:Str} {v:V} {u:Value} {pos:Pos} (hg:Gl X x) (hm:X.mg x=some u) (r:RelV v u) (hd:(x == ("__debug__" : Str))=false:=by decide):PE X (.Name x pos) (tC v):=
 λ_ _ _ H _ I h=>Zc4 I hg hm ⟨v,H,I,r,h⟩ hd
theorem ZjJ {x:Str} {v:V} {u:Value} {pos:Pos} (hg:Gl X x) (hm:X.mg x=none) (hv:bootBuiltins x=some u) (r:RelV v u) (hn:x ≠ "__name__" := by decide) (hd:(x == ("__debug__" : Str))=false:=by decide):PE X (.Name x pos) (tC v):=
 λ_ _ _ H _ I h=>Zcd I hg hm hv ⟨v,H,I,r,h⟩ hn hd
def t2I (ta tb:TE) (k:Int->Int->Hp->Prop):St->Hp->Prop:=λσ H=>ta σ H λx H1=>tb σ H1 λy H2=>∃ i j,x=.int i/\y=.int j/\k i j H2
def Zph (ta tb:TE):TE:=λσ H Q=>t2I ta tb (λi j H2=>Q (.int (i+j)) H2) σ H
def Zpi (ta tb:TE):TE:=λσ H Q=>t2I ta tb (λi j H2=>Q (.int (i-j)) H2) σ H
def Zpj (ta tb:TE):TE:=λσ H Q=>t2I ta tb (λi j H2=>(-(2 ^ 64)<i/\i<2 ^ 64)/\Q (.int (i * j)) H2) σ H
variable {a b:Expr} {ta tb:TE} {pos:Pos}
def PC (X:Cx) (op:CmpOp) (a b:Expr) (t:TE):Prop:=
 ∀ (pins:List (Addr×Obj)) (s:Shared) (σ:St) (H:Hp) (Q:VK),Inv X pins σ H s->t σ H Q ->
  wpAny (model X.prog X.w) X.A (eval a X.env) (λv s₁=>wpAny (model X.prog X.w) X.A (eval b X.env) (λu s₂=>wpAny (model X.prog X.w) X.A (compareOp op v u) (EP X pins σ Q) X.xe s₂) X.xe s₁) X.xe s
def Zk8 (p:Int->Int->Bool) (ta tb:TE):TE:=λσ H Q=>t2I ta tb (λi j H2=>Q (.bl (p i j)) H2) σ H
abbrev tLt:TE->TE->TE:=Zk8 λi j=>decide (i<j)
abbrev tLe:TE->TE->TE:=Zk8 λi j=>decide (i<=j)
abbrev tGt:TE->TE->TE:=Zk8 λi j=>decide (j<i)
abbrev tGe:TE->TE->TE:=Zk8 λi j=>decide (j<=i)
abbrev Zpk:TE->TE->TE:=Zk8 λi j=>decide (i=j)
abbrev Zpl:TE->TE->TE:=Zk8 λi j=>!decide (i=j)
def Zpm (ta:TE):TE:=λσ H Q=>ta σ H λx H1=>Q (.bl (decide (x=.non))) H1
def Zom (ta:TE):TE:=λσ H Q=>ta σ H λx H1=>Q (.bl (!decide (x=.non))) H1
def tB (t:TE):TT:=λσ H Q=>t σ H λx H1=>∃ c,x=.bl c/\Q c H1
theorem Zi7 {op:CmpOp} {t:TE} (h:PC X op a b t) (h1:behindInMarks op b=false:=by first | exact nobehind _ (by decide) (by decide) | rfl):PT X (.Compare a [op] [b] pos) (tB t):=by
 intro pins s σ H Q I hw
 refine wpAny_isTrue_Compare1 (thn (h pins s σ H _ I hw) λv s1 h1=>thn h1 λu s2 h2=>thn h2 λc s3 ⟨x,H1,I1,r1,q1⟩=>?_) h1
 obtain ⟨d,rfl,q⟩:=q1
 cases r1
 exact wpAny_truthy_bool ⟨H1,I1,q⟩
theorem Za3 {e:Expr} {t:TE} (h:PE X e t) (he:∀ whole,isTrue e X.env whole=(do let v <- whole;standAt e.pos;holding [v] (truthy v)):=by intro _;rfl):PT X e (tB t):=by
 intro pins s σ H Q I hw
 refine isTrue_plain (thn (h pins s σ H _ I hw) λv s1 ⟨x,H1,I1,r1,q1⟩=>?_) (he _)
 obtain ⟨d,rfl,q⟩:=q1
 cases r1
 exact wpAny_truthy_bool ⟨H1,I1,q⟩
variable {tA tB':TT} {rest:List Expr}
def Zon (t u:TT):TT:=λσ H Q=>t σ H λc H1=>if c=true then u σ H1 Q else Q false H1
def tOr (t u:TT):TT:=λσ H Q=>t σ H λc H1=>if c=true then Q true H1 else u σ H1 Q
def Zoo (t:TT):TT:=λσ H Q=>t σ H λc H1=>Q (!c) H1
theorem Zb6 (ha:PT X a tA):PW X (.BoolOp .And [a] pos) tA:=by
 intro wh pins s σ H Q I h
 refine isTrue_and (thn (ha pins s σ H Q I h) λc s1 e=>?_)
 cases c with
 | true=>exact isTrue_and_nil e
 | false=>exact e
theorem Zdp (ha:PT X a tA):PW X (.BoolOp .Or [a] pos) tA:=by
 intro wh pins s σ H Q I h
 refine isTrue_or (thn (ha pins s σ H Q I h) λc s1 e=>?_)
 cases c with
 | false=>exact isTrue_or_nil e
 | true=>exact e
theorem Zc5 (ha:PT X a tA) (hb:PW X (.BoolOp .And (b::rest) pos) tB'):PW X (.BoolOp .And (a::b::rest) pos) (Zon tA tB'):=by
 intro wh pins s σ H Q I h
 refine isTrue_and (thn (ha pins s σ H _ I h) λc s1 ⟨H1,I1,q1⟩=>?_)
 cases c with
 | true=>exact hb wh pins s1 σ H1 Q I1 q1
 | false=>exact ⟨H1,I1,q1⟩
theorem Zef (ha:PT X a tA) (hb:PW X (.BoolOp .Or (b::rest) pos) tB'):PW X (.BoolOp .Or (a::b::rest) pos) (tOr tA tB'):=by
 intro wh pins s σ H Q I h
 refine isTrue_or (thn (ha pins s σ H _ I h) λc s1 ⟨H1,I1,q1⟩=>?_)
 cases c with
 | true=>exact ⟨H1,I1,q1⟩
 | false=>exact hb wh pins s1 σ H1 Q I1 q1
theorem Zbw (ha:PT X a tA):PT X (.UnaryOp .Not a pos) (Zoo tA):=by
 intro pins s σ H Q I h
 exact isTrue_not (ha pins s σ H (λc H1=>Q (!c) H1) I h)
def Zop (ta tb:TE):TE:=λσ H Q=>ta σ H λx H1=>∃ c,x=.bl c/\if c=true then tb σ H1 Q else Q (.bl false) H1
def Zoq (ta tb:TE):TE:=λσ H Q=>ta σ H λx H1=>∃ c,x=.bl c/\if c=true then Q (.bl true) H1 else tb σ H1 Q
def Zor (ta:TE):TE:=λσ H Q=>ta σ H λx H1=>∃ c,x=.bl c/\Q (.bl (!c)) H1
theorem Zlg {op} {t:TE} (h:PE X a t):PE X (.BoolOp op [a] pos) t:=λpins s σ H Q I hw=>BoolOp_one (h pins s σ H Q I hw)
theorem ZmV (ha:PE X a ta) (hb:PE X (.BoolOp .Or (b::rest) pos) tb):PE X (.BoolOp .Or (a::b::rest) pos) (Zoq ta tb):=by
 intro pins s σ H Q I h
 refine BoolOp_or (thn (ha pins s σ H _ I h) λv s1 ⟨x,H1,I1,r1,q1⟩=>?_)
 obtain ⟨c,rfl,q1⟩:=q1
 cases r1
 refine wpAny_truthy_bool ?_
 cases c with
 | false=>exact hb pins s1 σ H1 Q I1 q1
 | true=>exact ⟨.bl true,H1,I1,rfl,q1⟩
def tIf (t:TT) (ta tb:TE):TE:=λσ H Q=>t σ H λc H1=>if c=true then ta σ H1 Q else tb σ H1 Q
end
end L2
namespace L2
open PySem PySem.Spec PyProof.Rows
def SqL (K:PySem.W.Frag) (H:Hp) (a:Addr) (xs:List V):Prop:=
 Rd H a (.lst xs) \/
  ∃ (o:Obj) (its:Array Value) (n:Nat),K.lookup a=some o/\o.cls=.type "list" /\ o.dict=none/\o.data=.seq its n/\its.size<=sizeLine/\Vals xs its.toList
def SqT (K:PySem.W.Frag) (H:Hp) (a:Addr) (xs:List V):Prop:=
 Rd H a (.tup xs) \/
  ∃ (o:Obj) (its:Array Value) (n:Nat),K.lookup a=some o/\o.cls=.type "tuple" /\ o.data=.seq its n/\its.size<=sizeLine/\Vals xs its.toList
def Zos:Value->Option V
 | .none=>some .non
 | .bool b=>some (.bl b)
 | .int i _=>some (.int i)
 | .str x _=>some (.str x)
 | .bytes b _=>some (.byt b)
 | .float b _=>some (.flt b)
 | .ref a=>some (.ref a)
 | .type n=>some (.ty n)
 | _=>none
theorem RelV.abs {x:V} {u:Value} (r:RelV x u):Zos u=some x:=by
 cases x with
 | non=>cases r;rfl
 | bl _=>cases r;rfl
 | int _=>obtain ⟨t,rfl⟩:=r;rfl
 | str _=>obtain ⟨t,rfl⟩:=r;rfl
 | byt _=>obtain ⟨t,rfl⟩:=r;rfl
 | flt _=>obtain ⟨t,rfl⟩:=r;rfl
 | ref _=>cases r;rfl
 | ty _=>cases r;rfl
theorem RelV.inj {x y:V} {u:Value} (r:RelV x u) (q:RelV y u):x=y:=Option.some.inj (r.abs.symm.trans q.abs)
theorem Vals.inj:∀ {xs ys:List V} {us:List Value},Vals xs us->Vals ys us->xs=ys
 | _,_,_,.nil,.nil=>rfl
 | _,_,_,.cons r t,.cons r' t'=>by rw [r.inj r',Vals.inj t t']
section
variable {X:Cx} {pins:List (Addr×Obj)} {σ:St} {H:Hp} {s:Shared} {a:Addr} {xs ys:List V}
theorem SqL.of {K:PySem.W.Frag} (h:H a=some (.lst xs)):SqL K H a xs:=.inl (.inl h)
theorem SqT.of {K:PySem.W.Frag} (h:H a=some (.tup xs)):SqT K H a xs:=.inl (.inl h)
theorem Inv.list (I:Inv X pins σ H s) (h:SqL X.K H a xs):∃ its:List Value,Vals xs its/\PlainL s.heap a its.toArray/\xs.length<=sizeLine:=by
 rcases h with h | ⟨o,its,n,hk,hc,hd,hs,hz,r⟩
 ·obtain ⟨z,its,n,r,e⟩:=h.ok I.hok
  exact ⟨its,r,⟨_,n,e,rfl,rfl,rfl⟩,z⟩
 ·refine ⟨its.toList,r,⟨o,n,I.kIn a o hk,hc,hd,by simpa using hs⟩,?_⟩
  have e:=r.length
  simp only [Array.length_toList] at e
  omega
theorem Inv.tuple (I:Inv X pins σ H s) (h:SqT X.K H a xs):∃ its:List Value,Vals xs its/\IsTup s.heap a its.toArray/\xs.length<=sizeLine:=by
 rcases h with h | ⟨o,its,n,hk,hc,hs,hz,r⟩
 ·obtain ⟨z,its,r,p⟩:=h.ok I.hok
  exact ⟨its,r,p,z⟩
 ·refine ⟨its.toList,r,⟨o,I.kIn a o hk,hc,n,by simpa using hs⟩,?_⟩
  have e:=r.length
  simp only [Array.length_toList] at e
  omega
theorem Inv.list_inj (I:Inv X pins σ H s) (h:SqL X.K H a xs) (h':SqL X.K H a ys):xs=ys:=by
 obtain ⟨its,r,⟨o,n,e,_,_,d⟩,_⟩:=I.list h
 obtain ⟨its',r',⟨o',n',e',_,_,d'⟩,_⟩:=I.list h'
 rw [e] at e';cases e'
 rw [d] at d'
 injection d' with d1 _
 have:its=its':=by simpa using congrArg Array.toList d1
 subst this
 exact r.inj r'
end
abbrev Cx.wish (X:Cx) (E:Value->Shared->Prop):Cx:={ X with xe:=E }
abbrev Cx.nox (X:Cx):Cx:=X.wish λ_ _=>False
theorem Cx.Ok.wish {X:Cx} (ok:X.Ok) (E:Value->Shared->Prop):(X.wish E).Ok:=
 ⟨ok.mod,ok.kind,ok.glob,ok.blt,ok.above,ok.inj,ok.has,ok.cab,ok.hd,ok.frames,ok.stk,ok.exf,ok.bs,ok.bsz,ok.noex,ok.exfs,ok.funs,ok.frf⟩
theorem Cx.Ok.unwish {X:Cx} {E:Value->Shared->Prop} (ok:(X.wish E).Ok):X.Ok:=
 ⟨ok.mod,ok.kind,ok.glob,ok.blt,ok.above,ok.inj,ok.has,ok.cab,ok.hd,ok.frames,ok.stk,ok.exf,ok.bs,ok.bsz,ok.noex,ok.exfs,ok.funs,ok.frf⟩
section
variable {X:Cx} {pins:List (Addr×Obj)} {σ:St} {H:Hp} {s:Shared} {E:Value->Shared->Prop}
theorem Inv.wish (I:Inv X pins σ H s) (E:Value->Shared->Prop):Inv (X.wish E) pins σ H s:=⟨I.ok.wish E,I.os,I.bare,I.base,I.loc,I.cell,I.free,I.freeC,I.pin,I.hok,I.len⟩
theorem Inv.unwish (I:Inv (X.wish E) pins σ H s):Inv X pins σ H s:=⟨I.ok.unwish,I.os,I.bare,I.base,I.loc,I.cell,I.free,I.freeC,I.pin,I.hok,I.len⟩
theorem SP.unwish {D:Ends} {f:Flow} {s':Shared} (h:SP (X.wish E) pins D f s'):SP X pins D f s':=by
 cases f with
 | next=>obtain ⟨σ',H',I,q⟩:=h;exact ⟨σ',H',I.unwish,q⟩
 | brk=>obtain ⟨σ',H',I,q⟩:=h;exact ⟨σ',H',I.unwish,q⟩
 | cont=>obtain ⟨σ',H',I,q⟩:=h;exact ⟨σ',H',I.unwish,q⟩
 | ret u=>obtain ⟨v,σ',H',I,r,q⟩:=h;exact ⟨v,σ',H',I.unwish,r,q⟩
theorem PSs.nox {st:List Stmt} {t:TS} (h:PSs X.nox st t):PSs X st t:=λpins s σ H D I hw=>
 wpAny_mono (h pins s σ H D (I.wish _) hw) (λ_ _ q=>q.unwish) λ_ _ z=>False.elim z
end
section
variable {X:Cx} {st:Stmt} {rest:List Stmt} {t u:TS} {e:Expr} {te:TE} {pos:Pos}
def ZgA:TS:=λD σ H=>D.nx σ H
def ZnN (t u:TS):TS:=λD σ H=>t { D with nx:=u D } σ H
theorem ZaC:PSs X [] ZgA:=λ_ _ σ H _ I h=>wpAny_execs_nil ⟨σ,H,I,h⟩
theorem Zag (h1:PS X st t) (h2:PSs X rest u):PSs X (st::rest) (ZnN t u):=by
 intro pins s σ H D I h
 refine wpAny_execs_cons (thn (h1 pins s σ H { D with nx:=u D } I h) λf s1 q=>?_)
 cases f with
 | next=>
  obtain ⟨σ',H',I',q⟩:=q
  exact h2 pins s1 σ' H' D I' q
 | ret v=>exact q
 | brk=>exact q
 | cont=>exact q
theorem Zai (h1:PS X st t):PSs X [st] t:=by
 intro pins s σ H D I h
 refine wpAny_execs_cons (thn (h1 pins s σ H D I h) λf s1 q=>?_)
 cases f with
 | next=>exact wpAny_execs_nil q
 | ret v=>exact q
 | brk=>exact q
 | cont=>exact q
def ZnO:TS:=λD σ H=>D.bk σ H
def Zot:TS:=λD σ H=>D.ct σ H
theorem Inv.quiet {pins:List (Addr×Obj)} {σ:St} {H:Hp} {s:Shared} (I:Inv X pins σ H s):interactive X.env=false:=by simp [interactive,I.ok.kind]
def Zlh (te:TE):TS:=λD σ H=>te σ H λ_ H1=>D.nx σ H1
theorem Za2 (he:PE X e te) (hs:swapsWith e none pos.line X.env=pure false:=by rfl):PS X (.Expr e pos) (Zlh te):=by
 intro pins s σ H D I h
 exact wpAny_Expr_any (thn (he pins s σ H _ I h) λv s1 ⟨x,H1,I1,r1,q1⟩=>⟨σ,H1,I1,q1⟩) I.quiet hs
def Zou (te:TE):TS:=λD σ H=>te σ H D.rt
theorem Zau (he:PE X e te):PS X (.Return (some e) pos) (Zou te):=by
 intro pins s σ H D I h
 exact wpAny_Return_some (thn (he pins s σ H _ I h) λv s1 ⟨x,H1,I1,r1,q1⟩=>⟨x,σ,H1,I1,r1,q1⟩)
def Zov:TS:=λD _ H=>D.rt .non H
def Zow (c:TT) (t u:TS):TS:=λD σ H=>c σ H λb H1=>if b=true then t D σ H1 else u D σ H1
theorem ZaX {c:Expr} {a b:List Stmt} {tc:TT} (hc:PT X c tc) (ha:PSs X a t) (hb:PSs X b u):PS X (.If c a b pos) (Zow tc t u):=by
 intro pins s σ H D I h
 refine wpAny_If (thn (hc pins s σ H _ I h) λd s1 ⟨H1,I1,q1⟩=>?_)
 cases d with
 | true=>exact ha pins s1 σ H1 D I1 q1
 | false=>exact hb pins s1 σ H1 D I1 q1
def ZnP:TS:=λ_ _ _=>False
end
abbrev TG:=V->St->Hp->(St->Hp->Prop)->Prop
abbrev TGs:=List V->St->Hp->(St->Hp->Prop)->Prop
def PG (X:Cx) (target:Expr) (t:TG):Prop:=
 ∀ (pins:List (Addr×Obj)) (s:Shared) (σ:St) (H:Hp) (v:V) (u:Value) (Q:St->Hp->Prop),Inv X pins σ H s->RelV v u->t v σ H Q ->
  wpAny (model X.prog X.w) X.A (assign target X.env u) (λ_ s'=>∃ σ' H',Inv X pins σ' H' s'/\Q σ' H') X.xe s
def PGs (X:Cx) (ts:List Expr) (t:TGs):Prop:=
 ∀ (pins:List (Addr×Obj)) (s:Shared) (σ:St) (H:Hp) (vs:List V) (us:List Value) (Q:St->Hp->Prop),Inv X pins σ H s->Vals vs us->t vs σ H Q ->
  wpAny (model X.prog X.w) X.A (assignInOrder ((assignEach ts X.env).map (·.2)) us) (λ_ s'=>∃ σ' H',Inv X pins σ' H' s'/\Q σ' H') X.xe s
abbrev ZmK:=V->V->V->Hp->(Hp->Prop)->Prop
def ZnQ (X:Cx) (t:ZmK):Prop:=
 ∀ (pins:List (Addr×Obj)) (s:Shared) (σ:St) (H:Hp) (o i v:V) (ov iv u:Value) (Q:Hp->Prop),Inv X pins σ H s->RelV o ov->RelV i iv->RelV v u->t o i v H Q ->
  wpAny (model X.prog X.w) X.A (setItem ov iv u) (λ_ s'=>∃ H',Inv X pins σ H' s'/\Q H') X.xe s
abbrev TIp:=V->V->Hp->VK->Prop
def PIp (X:Cx) (op:Operator) (t:TIp):Prop:=
 ∀ (pins:List (Addr×Obj)) (s:Shared) (σ:St) (H:Hp) (x y:V) (v u:Value) (Q:VK),Inv X pins σ H s->RelV x v->RelV y u->t x y H Q ->
  wpAny (model X.prog X.w) X.A (inplaceOp op v u) (EP X pins σ Q) X.xe s
section
variable {X:Cx} {pos:Pos}
def Za7 (i:Nat):TG:=λv σ H Q=>Q (σ.set i (some v)) H
theorem Zar {i:Nat} {x:Str} (hN:X.N.Nodup) (hi:X.N[i]?=some x) (hx:Loc X.env.scope x) (hf:X.fn x=true\/X.env.scope.names.lookup x=some .local:=by first | exact .inl rfl | exact .inr rfl | assumption):PG X (.Name x pos) (Za7 i):=by
 intro pins s σ H v u Q I r h
 exact wpAny_assign_Name (ZcW I hN hi hx r (λs' I'=>⟨_,H,I',h⟩) hf)
def Zox:TGs:=λvs σ H Q=>vs=[]/\Q σ H
def ZmW (t:TG) (u:TGs):TGs:=λvs σ H Q=>∃ v r,vs=v::r/\t v σ H λσ' H'=>u r σ' H' Q
theorem Zb7:PGs X [] Zox:=by
 intro pins s σ H vs us Q I r h
 obtain ⟨e,h⟩:=h
 subst e
 cases r
 exact assignInOrder_nil ⟨σ,H,I,h⟩
theorem ZaI {e:Expr} {es:List Expr} {t:TG} {u:TGs} (h1:PG X e t) (h2:PGs X es u)
  (hs:(assignEach (e::es) X.env).map (·.2)=assign e X.env::(assignEach es X.env).map (·.2):=by rfl):PGs X (e::es) (ZmW t u):=by
 intro pins s σ H vs us Q I r h
 obtain ⟨v,vr,e1,h⟩:=h
 subst e1
 cases r with
 | cons r rr=>
  rw [hs]
  refine assignInOrder_cons (thn (h1 pins s σ H _ _ _ I r h) λ_ s1 ⟨σ1,H1,I1,q1⟩=>?_)
  exact h2 pins s1 σ1 H1 _ _ Q I1 rr q1
def ZnR (K:PySem.W.Frag) (n:Nat) (t:TGs):TG:=λv σ H Q=>∃ a xs,v=.ref a/\SqT K H a xs/\xs.length=n/\t xs σ H Q
theorem Zli {es:List Expr} {k:Nat} {t:TGs} {n:Nat} (hc:X.calm=true) (h:PGs X es t)
  (hn:(assignEach es X.env).length=n:=by rfl) (hst:(assignEach es X.env).findIdx? (·.1)=none:=by rfl):PG X (.Tuple es k pos) (ZnR X.K n t):=by
 intro pins s σ H v u Q I r hw
 obtain ⟨a,xs,e1,hq,hl,hw⟩:=hw
 subst e1
 cases r
 obtain ⟨its,rv,ht,hz⟩:=I.tuple hq
 refine assign_Tuple_tuple (I.ok.hd hc) ht (by simp [hn,<-hl,rv.length]) hst λh' hx=>?_
 have I1:Inv X pins σ H { s with heap:=h' }:=I.kept (t':=s.toks) λb o e=>hx b o (Nat.ne_of_lt (Heap.lt_size e)) e
 exact h pins _ σ H xs _ Q I1 (by simpa using rv) hw
def Zoy (to ti:TE) (t:ZmK):TG:=λv σ H Q=>to σ H λo H1=>ti σ H1 λi H2=>t o i v H2 λH3=>Q σ H3
theorem Zlj {o i:Expr} {to ti:TE} {t:ZmK} (ho:PE X o to) (hi:PE X i ti) (hs:ZnQ X t)
  (ha:∀ v,assign (.Subscript o i pos) X.env v=(do
   let ov <- holding [v] (eval o X.env)
   let iv <- holding [v,ov] (eval i X.env)
   standAt pos
   holding [v,ov,iv] (setItem ov iv v)
   release [v,ov,iv] []):=by intro _;rfl):PG X (.Subscript o i pos) (Zoy to ti t):=by
 intro pins s σ H v u Q I r h
 rw [ha]
 refine wpAny_bind (wpAny_holding (thn (ho pins s σ H _ I h) λov s1 ⟨x,H1,I1,r1,q1⟩=>?_))
 refine wpAny_bind (wpAny_holding (thn (hi pins s1 σ H1 _ I1 q1) λiv s2 ⟨y,H2,I2,r2,q2⟩=>?_))
 refine wpAny_bind (wpAny_standAt (wpAny_bind (wpAny_holding (thn (hs pins s2 σ H2 x y v ov iv u _ I2 r1 r2 r q2) λ_ s3 ⟨H3,I3,q3⟩=>?_))))
 exact wpAny_release ⟨σ,H3,I3,q3⟩
def ZmX (te:TE) (g:TG):TS:=λD σ H=>te σ H λx H1=>g x σ H1 D.nx
theorem Zfu {tg e:Expr} {te:TE} {g:TG} (he:PE X e te) (hg:PG X tg g) (hs:swapsWithSole [tg] e pos.line X.env=pure false:=by rfl) (hw:swappedStores [tg] e X.env=pure none:=by rfl)
  (h1:(assignEach [tg] X.env).map (·.2)=[assign tg X.env]:=by rfl):PS X (.Assign [tg] e pos) (ZmX te g):=by
 intro pins s σ H D I h
 refine wpAny_Assign_stores (thn (he pins s σ H _ I h) λv s1 ⟨x,H1,I1,r1,q1⟩=>?_) hs hw
 rw [h1]
 exact thn (hg pins s1 σ H1 x v _ I1 r1 q1) λ_ s2 q=>q
theorem Zax {i:Nat} {x:Str} {e:Expr} {te:TE} {pos':Pos} (hN:X.N.Nodup) (hi:X.N[i]?=some x) (hx:Loc X.env.scope x) (he:PE X e te) (hs:swapsWith e (some (.Name x pos')) pos.line X.env=pure false:=by rfl) (hf:X.fn x=true\/X.env.scope.names.lookup x=some .local:=by first | exact .inl rfl | exact .inr rfl | assumption) :
  PS X (.Assign [.Name x pos'] e pos) (ZmX te (Za7 i)):=by
 intro pins s σ H D I h
 refine wpAny_Assign_Name (thn (he pins s σ H _ I h) λv s1 ⟨y,H1,I1,r1,q1⟩=>?_) hs
 exact ZcW I1 hN hi hx r1 (λs2 I2=>⟨_,H1,I2,q1⟩) hf
def Zpn (i j:Nat) (ta:TA):TS:=λD σ H=>ta σ H λvs H1=>∃ v w,vs=[v,w]/\D.nx ((σ.set i (some v)).set j (some w)) H1
def Zpo (i:Nat) (te:TE) (ti:TIp):TS:=λD σ H=>∃ x,σ[i]?=some (some x)/\te σ H λy H1=>ti x y H1 λz H2=>D.nx (σ.set i (some z)) H2
def Zoz (to ti te:TE) (tget:V->V->Hp->VK->Prop) (tip:TIp) (tset:ZmK):TS:=λD σ H=>to σ H λo H1=>ti σ H1 λi H2=>tget o i H2 λx H3=>te σ H3 λy H4=>tip x y H4 λz H5=>tset o i z H5 λH6=>D.nx σ H6
def Zpp (X:Cx) (t:V->V->Hp->VK->Prop):Prop:=
 ∀ (pins:List (Addr×Obj)) (s:Shared) (σ:St) (H:Hp) (o i:V) (ov iv:Value) (Q:VK),Inv X pins σ H s->RelV o ov->RelV i iv->t o i H Q ->
  wpAny (model X.prog X.w) X.A (getItem ov iv) (EP X pins σ Q) X.xe s
def ipI (f:Int->Int->Int):TIp:=λx y H Q=>∃ i j,x=.int i/\y=.int j/\Q (.int (f i j)) H
end
section
variable {X:Cx} {pos:Pos}
def Zlk (c:TT) (tb:TS):TS:=λD σ H=>∃ W:Nat->St->Hp->Prop,(∃ m,W m σ H)/\∀ m σ H,W m σ H ->
 c σ H λb H1=>if b=true then ∃ N:St->Hp->Prop,(∀ σ' H',N σ' H'->∃ m',m'<m/\W m' σ' H')/\tb { D with nx:=N,ct:=N,bk:=D.nx } σ H1 else D.nx σ H1
theorem ZdJ {c:Expr} {body:List Stmt} {tc:TT} {tb:TS} (hp:PassesOwn (model X.prog X.w) X.A X.env X.xe) (hc:PT X c tc) (hb:PSs X body tb):PS X (.While c body [] pos) (Zlk tc tb):=by
 intro pins s σ H D I h
 obtain ⟨W,⟨m0,w0⟩,turn⟩:=h
 refine wpAny_While (codeAny_whileLoop (λn s'=>∃ σ' H',Inv X pins σ' H' s'/\W n σ' H') ?_ m0 ⟨σ,H,I,w0⟩)
 rintro n s1 ⟨σ1,H1,I1,w1⟩
 refine wpAny_passesOwn hp (thn (hc pins s1 σ1 H1 _ I1 (turn n σ1 H1 w1)) λb s2 ⟨H2,I2,q2⟩=>?_)
 cases b with
 | true=>
  obtain ⟨N,hN,q2⟩:=q2
  rw [if_pos rfl]
  refine wpAny_passesOwn hp (thn (hb pins s2 σ1 H2 _ I2 q2) λf s3 q3=>?_)
  cases f with
  | next=>
   obtain ⟨σ3,H3,I3,n3⟩:=q3
   obtain ⟨m',hm,w3⟩:=hN σ3 H3 n3
   exact ⟨m',hm,σ3,H3,I3,w3⟩
  | cont=>
   obtain ⟨σ3,H3,I3,n3⟩:=q3
   obtain ⟨m',hm,w3⟩:=hN σ3 H3 n3
   exact ⟨m',hm,σ3,H3,I3,w3⟩
  | brk=>exact q3
  | ret v=>exact q3
 | false=>
  rw [if_neg Bool.false_ne_true]
  exact wpAny_execs_nil ⟨σ1,H2,I2,q2⟩
end
structure It where
 go:Nat->Hp->Prop
 yld:Nat->Hp->V->Hp->Prop
 stop:Nat->Hp->Prop
def Zh0 (X:Cx) (pins:List (Addr×Obj)) (H:Hp) (b:Addr):Prop:=
 H b=none/\b≠X.env.locals/\b ∉ X.fs/\(b∈X.ex\/X.s₀.heap.objs.size<=b)/\(∀ x c,X.env.cells.lookup x=some c->c≠b)/\∀ p∈X.pn++pins,p.1≠b
theorem Inv.fpOk {X:Cx} {pins:List (Addr×Obj)} {σ:St} {H H':Hp} {s:Shared} {b:Addr} (I:Inv X pins σ H s) (hb:s.heap.objs.size<=b) (hn:H' b=none):Zh0 X pins H' b:=by
 refine ⟨hn,Nat.ne_of_gt (Nat.lt_of_lt_of_le I.lt hb),I.nofs hb,.inr (Nat.le_trans I.sz hb),λx c e z=>?_,λp hp z=>?_⟩
 ·obtain ⟨v,q⟩:=I.cell x c e
  exact absurd (Nat.lt_of_lt_of_le q.lt (by rw [z];exact hb)) (Nat.lt_irrefl _)
 ·exact absurd (Nat.lt_of_lt_of_le (Heap.lt_size (I.pin p hp).1) (by rw [z];exact hb)) (Nat.lt_irrefl _)
structure Zll (P:Program) (w:World) (K:PySem.W.Frag) (tg:Expr) (J:It) (fp:List Addr) (it:Addr) (tn:Nat->Heap->Prop):Prop where
 mem:it∈fp
 obj:∀ i h,tn i h->∀ b∈fp,∃ o,h.get? b=some o/\∀ v,o.data≠.cell v
 keep:∀ i h h',tn i h->(∀ b∈fp,∀ o,h.get? b=some o->h'.get? b=some o)->tn i h'
 item:∀ (X:Cx),X.prog=P->X.w=w->X.K=K->X.calm=true->∀ (i:Nat) (pins:List (Addr×Obj)) (s:Shared) (σ:St) (H:Hp) (E:Value->Shared->Prop),Inv X pins σ H s->(∀ b∈fp,Zh0 X pins H b)->tn i s.heap->J.go i H ->
  wpAny (model P w) X.A (pyNext (.ref it)) (λr s1=>∃ u,r=some u /\
   wpAny (model P w) X.A (letOwnedTupleGo tg (.ref it) u) (λ_ s2=>∃ x H',Inv X pins σ H' s2/\RelV x u/\J.yld i H x H'/\tn (i+1) s2.heap/\∀ b∈fp,H' b=none) E s1) E s
 done:∀ (X:Cx),X.prog=P->X.w=w->X.K=K->X.calm=true->∀ (i:Nat) (pins:List (Addr×Obj)) (s:Shared) (σ:St) (H:Hp) (E:Value->Shared->Prop),Inv X pins σ H s->(∀ b∈fp,Zh0 X pins H b)->tn i s.heap->J.stop i H ->
  wpAny (model P w) X.A (pyNext (.ref it)) (λr s1=>r=none/\Inv X pins σ H s1) E s
 self:∀ (A:Around) (i:Nat) (s:Shared) (Q:Value->Shared->Prop) (E:Value->Shared->Prop),tn i s.heap->Q (.ref it) s->wpAny (model P w) A (pyIter (.ref it)) Q E s
abbrev TI:=St->Hp->(It->Hp->Prop)->Prop
def PIE (X:Cx) (pins:List (Addr×Obj)) (σ:St) (tg:Expr) (R:It->Hp->Prop) (itv:Value) (s2:Shared):Prop:=
 ∃ (it:Addr) (fp:List Addr) (tn:Nat->Heap->Prop) (J:It) (H':Hp),itv=.ref it/\Inv X pins σ H' s2/\Zll X.prog X.w X.K tg J fp it tn/\tn 0 s2.heap/\(∀ b∈fp,Zh0 X pins H' b)/\R J H'
def PI (X:Cx) (tg iter:Expr) (wi:TI):Prop:=
 ∀ (pins:List (Addr×Obj)) (s:Shared) (σ:St) (H:Hp) (R:It->Hp->Prop),Inv X pins σ H s->wi σ H R ->
  wpAny (model X.prog X.w) X.A (eval iter X.env) (λv s1=>wpAny (model X.prog X.w) X.A (pyIter v) (PIE X pins σ tg R) X.xe s1) X.xe s
theorem Zlm {M:Model} {A:Around} {E:Value->Shared->Prop} {s:Shared} {tg:Expr} {it:Addr} {u:Value} {o:Obj} {n:String} {vs:Array Value} {Q:Unit->Shared->Prop} (ho:s.heap.get? it=some o) (hc:o.cls=.type n) (hd:o.data=.fields vs)
  (hn:["enumerate", "zip", "dict_itemiterator", "dict_reverseitemiterator", "odict_iterator", "itertools.zip_longest", "itertools.pairwise"].contains n=false) (hQ:Q () s):wpAny M A (letOwnedTupleGo tg (.ref it) u) Q E s:=by
 unfold letOwnedTupleGo
 cases tg <;> first
  | exact wpAny_pure hQ
  | (cases u <;> first
    | exact wpAny_pure hQ
    | (refine wpAny_bind (wpAny_load ho ?_)
       rw [hc,hd]
       show wpAny M A (if (["enumerate", "zip", "dict_itemiterator", "dict_reverseitemiterator", "odict_iterator", "itertools.zip_longest", "itertools.pairwise"].contains n && vs[0]? == some (rawInt _))=true then _ else _) Q E s
       rw [if_neg (by intro h;rw [hn,Bool.false_and] at h;cases h)]
       exact wpAny_pure hQ))
def Itl (K:PySem.W.Frag) (a:Addr):It:=
 ⟨λi H=>∃ xs x,SqL K H a xs/\xs[i]?=some x,λi H x H'=>H'=H/\∀ xs,SqL K H a xs->xs[i]?=some x,λi H=>∃ xs,SqL K H a xs/\xs.length<=i⟩
def Itt (K:PySem.W.Frag) (a:Addr):It:=
 ⟨λi H=>∃ xs x,SqT K H a xs/\xs[i]?=some x,λi H x H'=>H'=H/\∀ xs,SqT K H a xs->xs[i]?=some x,λi H=>∃ xs,SqT K H a xs/\xs.length<=i⟩
def Itr (lo:Int) (n:Nat):It:=⟨λi _=>i<n,λi H x H'=>H'=H/\x=.int (lo+i),λi _=>n<=i⟩
theorem ZgB {P:Program} {w:World} {K:PySem.W.Frag} {tg:Expr} (a it:Addr):Zll P w K tg (Itl K a) [it] it (λi h=>h.IsListIter it a i) where
 mem:=by simp
 obj:=λi h st b hb=>by
  have e:b=it:=by simpa using hb
  subst e
  obtain ⟨o,e,c,d⟩:=st
  exact ⟨o,e,λv z=>by rw [d] at z;cases z⟩
 keep:=λi h h' st k=>st.at λo e=>k it (by simp) o e
 item:=by
  intro X hP hw hK hc i pins s σ H E I hf st hg
  subst hP hw hK
  obtain ⟨xs,x,hq,hx⟩:=hg
  obtain ⟨its,rv,p,hz⟩:=I.list hq
  obtain ⟨u,hu,ru⟩:=rv.get hx
  obtain ⟨f0,f1,f2,f3,f4,f5⟩:=hf it (by simp)
  refine wpAny_pyNext_list_item st p.isList (x:=u) (by simpa using hu) λh' st' sb=>?_
  have I1:Inv X pins σ H { s with heap:=h' }:=I.turned (t':=s.toks) (λb o hb e=>(sb.2 b hb).trans e) f0 f1 f3 f4 f5
  obtain ⟨o,e,c,d⟩:=id st'
  exact ⟨u,rfl,Zlm (s:={ s with heap:=h' }) e c d (by decide) ⟨x,H,I1,ru,⟨rfl,λys hy=>by rw [I.list_inj hy hq];exact hx⟩,st',λb hb=>(hf b hb).1⟩⟩
 done:=by
  intro X hP hw hK hc i pins s σ H E I hf st hg
  subst hP hw hK
  obtain ⟨xs,hq,hx⟩:=hg
  obtain ⟨its,rv,p,hz⟩:=I.list hq
  obtain ⟨f0,f1,f2,f3,f4,f5⟩:=hf it (by simp)
  have hl:=rv.length
  exact wpAny_pyNext_list_end (I.ok.hd hc) st p.isList (by simp;omega) λh' eb=>⟨rfl,I.turned (t':=s.toks) (λb o hb e=>eb b o hb e) f0 f1 f3 f4 f5⟩
 self:=λ_ _ _ _ _ st h=>wpAny_pyIter_listiter st h
theorem Zf7 {P:Program} {w:World} {K:PySem.W.Frag} {tg:Expr} (it:Addr) (lo:Int) (n:Nat):Zll P w K tg (Itr lo n) [it] it (λi h=>IsRangeIter h it (lo+(i:Nat) * 1) ((n:Int)-(i:Nat)) 1) where
 mem:=by simp
 obj:=λi h st b hb=>by
  have e:b=it:=by simpa using hb
  subst e
  exact ⟨_,st,λv z=>by
   have z':Data.fields _=Data.cell v:=z
   cases z'⟩
 keep:=λi h h' st k=>k it (by simp) _ st
 item:=by
  intro X hP hw hK hc i pins s σ H E I hf st hg
  subst hP hw hK
  obtain ⟨f0,f1,f2,f3,f4,f5⟩:=hf it (by simp)
  have W:=Walks.range (prog:=X.prog) (w:=X.w) (I.ok.hd hc) it lo 1 n
  refine W.item i s _ _ hg st λv h' tk hv st' kk=>?_
  obtain ⟨t,rfl⟩:=hv
  have I1:Inv X pins σ H { s with heap:=h',toks:=tk }:=I.turned (λb o hb e=>kk b o (by simpa using hb) e) f0 f1 f3 f4 f5
  refine ⟨_,rfl,Zlm (s:={ s with heap:=h',toks:=tk }) (n := "range_iterator") st' rfl rfl (by decide) ⟨.int (lo+i),H,I1,⟨t,?_⟩,⟨rfl,rfl⟩,st',λb hb=>(hf b hb).1⟩⟩
  rw [Int.mul_one]
 done:=by
  intro X hP hw hK hc i pins s σ H E I hf st hg
  subst hP hw hK
  obtain ⟨f0,f1,f2,f3,f4,f5⟩:=hf it (by simp)
  exact wpAny_pyNext_range_end (I.ok.hd hc) st (by have:n<=i:=hg;omega) λh' eb=>⟨rfl,I.turned (t':=s.toks) (λb o hb e=>eb b o hb e) f0 f1 f3 f4 f5⟩
 self:=λ_ _ _ _ _ st h=>wpAny_pyIter_rangeiter st h
end L2
namespace L2
open PySem PySem.Spec PyProof.Rows
section
variable {X:Cx} {tg:Expr}
def Zln (K:PySem.W.Frag) (tl:TE):TI:=λσ H R=>tl σ H λx H1=>∃ a,x=.ref a/\(∃ xs,SqL K H1 a xs)/\R (Itl K a) H1
def Zpq (K:PySem.W.Frag) (tl:TE):TI:=λσ H R=>tl σ H λx H1=>∃ a,x=.ref a/\(∃ xs,SqT K H1 a xs)/\R (Itt K a) H1
theorem ZjK {l:Expr} {tl:TE} (hl:PE X l tl):PI X tg l (Zln X.K tl):=by
 intro pins s σ H R I h
 refine thn (hl pins s σ H _ I h) λv s1 ⟨x,H1,I1,r1,q1⟩=>?_
 obtain ⟨a,e,⟨xs,hq⟩,q⟩:=q1
 subst e
 cases r1
 obtain ⟨its,rv,p,hz⟩:=I1.list hq
 refine wpAny_pyIter_list p.isList ?_
 refine ⟨s1.heap.objs.size,[s1.heap.objs.size],_,_,H1,rfl,I1.kept (t':=s1.toks) λb o e=>Heap.get?_push_of_some _ e,ZgB a _,⟨_,Heap.get?_push_size _ rfl,rfl,rfl⟩,λb hb=>?_,q⟩
 have e:b=s1.heap.objs.size:=by simpa using hb
 subst e
 exact I1.fpOk (Nat.le_refl _) (I1.hok.fresh (Nat.le_refl _))
theorem Zfv {pins:List (Addr×Obj)} {σ:St} {H:Hp} {s:Shared} {R:It->Hp->Prop} {E:Value->Shared->Prop} {lo hi:Int} {t u v:Tok} {tk:Nat} (I:Inv X pins σ H s) (h1:-(2 ^ 62)<=lo) (h2:lo<2 ^ 62) (h3:-(2 ^ 62)<=hi) (h4:hi<2 ^ 62)
  (q:R (Itr lo (hi-lo).toNat) H):wpAny (model X.prog X.w) X.A (pyIter (.ref s.heap.objs.size)) (PIE X pins σ tg R) E { s with heap:=s.heap.push { cls:=.type "range", data:=.fields #[.int lo t,.int hi u,.int 1 v] },toks:=tk }:=by
 refine wpAny_pyIter_range (IsRange.new ..) (small_one h1 h2 h3 h4) ?_
 have I1:Inv X pins σ H { s with heap:=s.heap.push { cls:=.type "range", data:=.fields #[.int lo t,.int hi u,.int 1 v] },toks:=tk }:=I.kept λb o e=>Heap.get?_push_of_some _ e
 refine ⟨(s.heap.push { cls:=.type "range", data:=.fields #[.int lo t,.int hi u,.int 1 v] }).objs.size,[(s.heap.push { cls:=.type "range", data:=.fields #[.int lo t,.int hi u,.int 1 v] }).objs.size],_,_,H,rfl,
  I1.kept (t':=tk) λb o e=>Heap.get?_push_of_some _ e,Zf7 _ lo (hi-lo).toNat,?_,λb hb=>?_,q⟩
 ·have e1:lo+((0:Nat):Int) * 1=lo:=by simp
  have e2:(((hi-lo).toNat:Nat):Int)-((0:Nat):Int)=Builtin.Range.rangeSize lo hi 1:=by rw [rangeSize_one];split <;> omega
  show IsRangeIter _ _ (lo+((0:Nat):Int) * 1) ((((hi-lo).toNat:Nat):Int)-((0:Nat):Int)) 1
  rw [e1,e2]
  exact Heap.get?_push_size _ rfl
 ·have e:b=(s.heap.push { cls:=.type "range", data:=.fields #[.int lo t,.int hi u,.int 1 v] }).objs.size:=by simpa using hb
  subst e
  exact I1.fpOk (Nat.le_refl _) (I1.hok.fresh (Nat.le_refl _))
def ZmY (ta:TA):TI:=λσ H R=>ta σ H λvs H1=>∃ j:Int,vs=[.int j]/\-(2 ^ 62)<=j/\j<2 ^ 62/\R (Itr 0 j.toNat) H1
def ZmZ (ta:TA):TI:=λσ H R=>ta σ H λvs H1=>∃ i j:Int,vs=[.int i,.int j]/\(-(2 ^ 62)<=i/\i<2 ^ 62/\-(2 ^ 62)<=j/\j<2 ^ 62)/\R (Itr i (j-i).toNat) H1
theorem Za9 {a:Expr} {ta:TA} {p pos:Pos} (hg:Gl X "range") (hm:X.mg "range" = none) (ha:PA X [a] ta) (hs:starEach [a] X.env=[(false,eval a X.env)]:=by rfl):PI X tg (.Call (.Name "range" p) [a] [] pos) (ZmY ta):=by
 intro pins s σ H R I h
 refine Call_ (Zcd I hg hm boot_range (PyProof.Rows.callWith_type1 (thn (ha pos pins s σ H _ I h) λus s1 ⟨vs,H1,I1,r1,q1⟩=>?_) hs rfl))
 obtain ⟨j,e,q1,q2,q⟩:=q1
 subst e
 cases r1 with
 | cons r rr=>
  cases rr
  obtain ⟨t,rfl⟩:=r
  exact call_range_1 (Zfv I1 (by omega) (by omega) q1 q2 (by simpa using q))
theorem Zc6 {a b:Expr} {ta:TA} {p pos:Pos} (hg:Gl X "range") (hm:X.mg "range" = none) (ha:PA X [a,b] ta) (hs:starEach [a,b] X.env=[(false,eval a X.env),(false,eval b X.env)]:=by rfl) (hs2:starEach [b] X.env=[(false,eval b X.env)]:=by rfl) :
  PI X tg (.Call (.Name "range" p) [a,b] [] pos) (ZmZ ta):=by
 intro pins s σ H R I h
 refine Call_ (Zcd I hg hm boot_range (PyProof.Rows.callWith_type1 (thn (ha pos pins s σ H _ I h) λus s1 ⟨vs,H1,I1,r1,q1⟩=>?_) (by rw [hs,hs2]) (by rw [hs2];rfl)))
 obtain ⟨i,j,e,⟨q1,q2,q3,q4⟩,q⟩:=q1
 subst e
 cases r1 with
 | cons r rr=>
  cases rr with
  | cons r' rr=>
   cases rr
   obtain ⟨t,rfl⟩:=r
   obtain ⟨t',rfl⟩:=r'
   exact call_range_2 (Zfv I1 q1 q2 q3 q4 q)
def ZoA (wi:TI) (g:TG) (tb:TS):TS:=λD σ H=>wi σ H λJ H1=>∃ W:Nat->Nat->St->Hp->Prop,(∃ m,W 0 m σ H1)/\∀ i m σ H,W i m σ H ->
 (J.stop i H/\D.nx σ H)\/(J.go i H/\∃ N:St->Hp->Prop,(∀ σ' H',N σ' H'->∃ m',m'<m/\W (i+1) m' σ' H')/\∀ x H',J.yld i H x H'->g x σ H' λσ2 H2=>tb { D with nx:=N,ct:=N,bk:=D.nx } σ2 H2)
def Zeg (fp:List Addr) (h:Heap):List (Addr×Obj):=fp.filterMap λb=>(h.get? b).map λo=>(b,o)
theorem ZbO {fp:List Addr} {h:Heap} {b:Addr} {o:Obj} (hb:b∈fp) (e:h.get? b=some o):(b,o)∈Zeg fp h:=List.mem_filterMap.mpr ⟨b,hb,by rw [e];rfl⟩
theorem ZgC {fp:List Addr} {h:Heap} {p:Addr×Obj} (hp:p∈Zeg fp h):p.1∈fp/\h.get? p.1=some p.2:=by
 obtain ⟨b,hb,e⟩:=List.mem_filterMap.mp hp
 cases q:h.get? b with
 | none=>rw [q] at e;cases e
 | some o=>
  rw [q] at e
  have e':(b,o)=p:=Option.some.inj e
  subst e'
  exact ⟨hb,q⟩
theorem Inv.pinned {pins:List (Addr×Obj)} {σ:St} {H:Hp} {s:Shared} {fp:List Addr} (I:Inv X pins σ H s) (hf:∀ b∈fp,Zh0 X pins H b) (ho:∀ b∈fp,∃ o,s.heap.get? b=some o/\∀ v,o.data≠.cell v):Inv X (pins++Zeg fp s.heap) σ H s:=
 I.pins_of λp hp=>(List.mem_append.mp hp).elim (λz=>I.pin p (List.mem_append_right _ z)) λz=>by
  obtain ⟨hb,e⟩:=ZgC z
  obtain ⟨f0,f1,f2,_⟩:=hf p.1 hb
  obtain ⟨o,e',d⟩:=ho p.1 hb
  rw [e] at e';cases e'
  exact ⟨e,f0,f1,f2,d⟩
theorem Inv.unpinned {pins pl:List (Addr×Obj)} {σ:St} {H:Hp} {s:Shared} (I:Inv X (pins++pl) σ H s):Inv X pins σ H s:=I.pins_of λp hp=>I.pin p (List.mem_append_right _ (List.mem_append_left _ hp))
theorem Zbf {iter:Expr} {body:List Stmt} {wi:TI} {g:TG} {tb:TS} {pos:Pos} (hp:PassesOwn (model X.prog X.w) X.A X.env X.xe) (hc:X.calm=true) (hi:PI X tg iter wi) (hg:PG X tg g) (hb:PSs X body tb)
  (hs:∀ x,foldedSetIterable iter X.env x=pure x:=by intro _;rfl):PS X (.For tg iter body [] pos) (ZoA wi g tb):=by
 intro pins s σ H D I h
 refine wpAny_For (thn (hi pins s σ H _ I h) λv s1 h1=>thn h1 λitv s2 h2=>?_) hs
 obtain ⟨it,fp,tn,J,H2,e,I2,T,st2,f2,W,⟨m0,w0⟩,turn⟩:=h2
 subst e
 have stat:∀ {H':Hp},(∀ b∈fp,H' b=none)->∀ b∈fp,Zh0 X pins H' b:=λhn b hb=>⟨hn b hb,(f2 b hb).2⟩
 refine codeAny_forLoop_any (λn s'=>∃ i σ' H',Inv X pins σ' H' s'/\tn i s'.heap/\(∀ b∈fp,H' b=none)/\W i n σ' H') ?_ m0 ⟨0,σ,H2,I2,st2,λb hb=>(f2 b hb).1,w0⟩
 rintro n s3 ⟨i,σ3,H3,I3,st3,fr3,w3⟩
 rcases turn i n σ3 H3 w3 with ⟨stop,qn⟩ | ⟨go,N,hN,step⟩
 ·refine wpAny_passesOwn hp (thn (T.done X rfl rfl rfl hc i pins s3 σ3 H3 X.xe I3 (stat fr3) st3 stop) λr s4 ⟨hr,I4⟩=>?_)
  subst hr
  exact wpAny_execs_nil ⟨σ3,H3,I4,qn⟩
 ·refine wpAny_passesOwn hp (thn (T.item X rfl rfl rfl hc i pins s3 σ3 H3 X.xe I3 (stat fr3) st3 go) λr s4 ⟨u,hr,h4⟩=>?_)
  subst hr
  refine wpAny_passesOwn hp (thn h4 λ_ s5 ⟨x,H5,I5,r5,y5,st5,fr5⟩=>?_)
  have I5':=I5.pinned (stat fr5) (T.obj _ _ st5)
  refine wpAny_passesOwn hp (thn (hg _ s5 σ3 H5 x u _ I5' r5 (step x H5 y5)) λ_ s6 ⟨σ6,H6,I6,q6⟩=>?_)
  refine wpAny_passesOwn hp (thn (hb _ s6 σ6 H6 _ I6 q6) λf s7 q7=>?_)
  have again:∀ {σ7:St} {H7:Hp},Inv X (pins++Zeg fp s5.heap) σ7 H7 s7->N σ7 H7->∃ m,m<n/\∃ i σ' H',Inv X pins σ' H' s7/\tn i s7.heap/\(∀ b∈fp,H' b=none)/\W i m σ' H':=λ{σ7 H7} I7 n7=>by
   obtain ⟨m',hm,w7⟩:=hN σ7 H7 n7
   refine ⟨m',hm,i+1,σ7,H7,I7.unpinned,T.keep _ _ _ st5 λb hb o e=>(I7.pin (b,o) (List.mem_append_right _ (List.mem_append_right _ (ZbO hb e)))).1,λb hb=>?_,w7⟩
   obtain ⟨o,e,d⟩:=T.obj _ _ st5 b hb
   exact (I7.pin (b,o) (List.mem_append_right _ (List.mem_append_right _ (ZbO hb e)))).2.1
  cases f with
  | next=>obtain ⟨σ7,H7,I7,n7⟩:=q7;exact again I7 n7
  | cont=>obtain ⟨σ7,H7,I7,n7⟩:=q7;exact again I7 n7
  | brk=>obtain ⟨σ7,H7,I7,q7⟩:=q7;exact ⟨σ7,H7,I7.unpinned,q7⟩
  | ret v=>obtain ⟨x7,σ7,H7,I7,r7,q7⟩:=q7;exact ⟨x7,σ7,H7,I7.unpinned,r7,q7⟩
end
theorem ZbP {K:PySem.W.Frag} {a:Addr} {xs:List V} {g:TG} {tb:TS} {D:Ends} {σ:St} {H:Hp} (Pv:Nat->St->Hp->Prop) (h0:Pv 0 σ H) (hl:∀ i σ H,i<=xs.length->Pv i σ H->SqL K H a xs)
  (hs:∀ i x σ H,xs[i]?=some x->Pv i σ H->g x σ H λσ2 H2=>tb { D with nx:=Pv (i+1),ct:=Pv (i+1),bk:=D.nx } σ2 H2) (hd:∀ σ H,Pv xs.length σ H->D.nx σ H) :
  ∃ W:Nat->Nat->St->Hp->Prop,(∃ m,W 0 m σ H)/\∀ i m σ H,W i m σ H ->
   ((Itl K a).stop i H/\D.nx σ H)\/((Itl K a).go i H/\∃ N:St->Hp->Prop,(∀ σ' H',N σ' H'->∃ m',m'<m/\W (i+1) m' σ' H')/\∀ x H',(Itl K a).yld i H x H'->g x σ H' λσ2 H2=>tb { D with nx:=N,ct:=N,bk:=D.nx } σ2 H2):=by
 refine ⟨λi m σ H=>m=xs.length-i/\i<=xs.length/\Pv i σ H,⟨xs.length,by simp,Nat.zero_le _,h0⟩,?_⟩
 rintro i m σ H ⟨rfl,hi,p⟩
 have q:=hl i σ H hi p
 by_cases hlt:i<xs.length
 ·refine .inr ⟨⟨xs,xs[i],q,by simp [hlt]⟩,Pv (i+1),λσ' H' p'=>⟨xs.length-(i+1),by omega,rfl,hlt,p'⟩,λx H' y=>?_⟩
  obtain ⟨e,y⟩:=y
  subst e
  exact hs i x σ _ (y xs q) p
 ·have e:i=xs.length:=by omega
  subst e
  exact .inl ⟨⟨xs,q,Nat.le_refl _⟩,hd σ H p⟩
theorem Zbj {lo:Int} {n:Nat} {g:TG} {tb:TS} {D:Ends} {σ:St} {H:Hp} (Pv:Nat->St->Hp->Prop) (h0:Pv 0 σ H)
  (hs:∀ i σ H,i<n->Pv i σ H->g (.int (lo+i)) σ H λσ2 H2=>tb { D with nx:=Pv (i+1),ct:=Pv (i+1),bk:=D.nx } σ2 H2) (hd:∀ σ H,Pv n σ H->D.nx σ H) :
  ∃ W:Nat->Nat->St->Hp->Prop,(∃ m,W 0 m σ H)/\∀ i m σ H,W i m σ H ->
   ((Itr lo n).stop i H/\D.nx σ H)\/((Itr lo n).go i H/\∃ N:St->Hp->Prop,(∀ σ' H',N σ' H'->∃ m',m'<m/\W (i+1) m' σ' H')/\∀ x H',(Itr lo n).yld i H x H'->g x σ H' λσ2 H2=>tb { D with nx:=N,ct:=N,bk:=D.nx } σ2 H2):=by
 refine ⟨λi m σ H=>m=n-i/\i<=n/\Pv i σ H,⟨n,by simp,Nat.zero_le _,h0⟩,?_⟩
 rintro i m σ H ⟨rfl,hi,p⟩
 by_cases hlt:i<n
 ·refine .inr ⟨hlt,Pv (i+1),λσ' H' p'=>⟨n-(i+1),by omega,rfl,hlt,p'⟩,λx H' y=>?_⟩
  obtain ⟨e,y⟩:=y
  subst e y
  exact hs i σ _ hlt p
 ·have e:i=n:=by omega
  subst e
  exact .inl ⟨Nat.le_refl _,hd σ H p⟩
end L2
namespace L2
open PySem PySem.Spec PyProof.Rows
abbrev R2:=V->V->Hp->VK->Prop
def OpR (X:Cx) (f:Value->Value->Sem Value) (r:R2):Prop:=
 ∀ (pins:List (Addr×Obj)) (s:Shared) (σ:St) (H:Hp) (x y:V) (v u:Value) (Q:VK),Inv X pins σ H s->RelV x v->RelV y u->r x y H Q ->
  wpAny (model X.prog X.w) X.A (f v u) (EP X pins σ Q) X.xe s
def UnR (X:Cx) (f:Value->Sem Value) (r:V->Hp->VK->Prop):Prop:=
 ∀ (pins:List (Addr×Obj)) (s:Shared) (σ:St) (H:Hp) (x:V) (v:Value) (Q:VK),Inv X pins σ H s->RelV x v->r x H Q ->
  wpAny (model X.prog X.w) X.A (f v) (EP X pins σ Q) X.xe s
def ZbB (X:Cx) (f:Value) (r:List V->Hp->VK->Prop):Prop:=
 ∀ (pins:List (Addr×Obj)) (s:Shared) (σ:St) (H:Hp) (xs:List V) (us:List Value) (Q:VK),Inv X pins σ H s->Vals xs us->r xs H Q ->
  wpAny (model X.prog X.w) X.A (call f us) (EP X pins σ Q) X.xe s
def ZoB (X:Cx) (r:V->Hp->(Bool->Hp->Prop)->Prop):Prop:=
 ∀ (pins:List (Addr×Obj)) (s:Shared) (σ:St) (H:Hp) (x:V) (v:Value) (Q:Bool->Hp->Prop),Inv X pins σ H s->RelV x v->r x H Q ->
  wpAny (model X.prog X.w) X.A (truthy v) (TP X pins σ Q) X.xe s
def tOp (r:R2) (ta tb:TE):TE:=λσ H Q=>ta σ H λx H1=>tb σ H1 λy H2=>r x y H2 Q
def tUn (r:V->Hp->VK->Prop) (ta:TE):TE:=λσ H Q=>ta σ H λx H1=>r x H1 Q
def rI (C:Int->Int->Prop) (g:Int->Int->V):R2:=λx y H Q=>∃ i j,x=.int i/\y=.int j/\C i j/\Q (g i j) H
def rI0 (g:Int->Int->V):R2:=λx y H Q=>∃ i j,x=.int i/\y=.int j/\Q (g i j) H
def rU (g:Int->V):V->Hp->VK->Prop:=λx H Q=>∃ i,x=.int i/\Q (g i) H
section
variable {X:Cx} {a b c:Expr} {ta tb tc:TE} {pos:Pos}
theorem Zm0 (ha:PE X a ta) (hb:PE X b tb) {pins:List (Addr×Obj)} {s:Shared} {σ:St} {H:Hp} {R:V->V->Hp->Prop} (I:Inv X pins σ H s)
  (h:ta σ H λx H1=>tb σ H1 λy H2=>R x y H2) {Q:Value->Shared->Prop} {f:Value->Value->Sem Value}
  (hf:∀ v u s2 x y H2,Inv X pins σ H2 s2->RelV x v->RelV y u->R x y H2->wpAny (model X.prog X.w) X.A (f v u) Q X.xe s2) :
  wpAny (model X.prog X.w) X.A (eval a X.env) (λv s₁=>wpAny (model X.prog X.w) X.A (eval b X.env) (λu s₂=>wpAny (model X.prog X.w) X.A (f v u) Q X.xe s₂) X.xe s₁) X.xe s:=by
 refine thn (ha pins s σ H _ I h) λv s1 ⟨x,H1,I1,r1,q1⟩=>?_
 refine thn (hb pins s1 σ H1 _ I1 q1) λu s2 ⟨y,H2,I2,r2,q2⟩=>?_
 exact hf v u s2 x y H2 I2 r1 r2 q2
theorem Zas {op:Operator} {r:R2} (ho:OpR X (binaryOp op) r) (ha:PE X a ta) (hb:PE X b tb):PE X (.BinOp a op b pos) (tOp r ta tb):=by
 intro pins s σ H Q I h
 exact wpAny_BinOp (Zm0 ha hb I h λv u s2 x y H2 I2 rx ry q=>ho pins s2 σ H2 x y v u Q I2 rx ry q)
theorem ZeW {op:UnaryOp} {r:V->Hp->VK->Prop} (ho:UnR X (unaryOp op) r) (ha:PE X a ta):PE X (.UnaryOp op a pos) (tUn r ta):=by
 intro pins s σ H Q I h
 exact UnaryOp_ (thn (ha pins s σ H _ I h) λv s1 ⟨x,H1,I1,r1,q1⟩=>ho pins s1 σ H1 x v Q I1 r1 q1)
theorem opI {f:Value->Value->Sem Value} {C:Int->Int->Prop} {g:Int->Int->Int}
  (rule:∀ (i j:Int) (t u:Tok) (s:Shared) (Q:Value->Shared->Prop) (E:Value->Shared->Prop),C i j->Q (.int (g i j) s.toks) { s with toks:=s.toks+1 }->wpAny (model X.prog X.w) X.A (f (.int i t) (.int j u)) Q E s) :
  OpR X f (rI C λi j=>.int (g i j)):=by
 intro pins s σ H x y v u Q I rx ry h
 obtain ⟨i,j,rfl,rfl,hc,q⟩:=h
 obtain ⟨t,rfl⟩:=rx
 obtain ⟨t',rfl⟩:=ry
 exact rule i j t t' s _ _ hc ⟨.int (g i j),H,I.tok _,⟨_,rfl⟩,q⟩
theorem ZnS {f:Value->Value->Sem Value} {g:Int->Int->Int}
  (rule:∀ (i j:Int) (t u:Tok) (s:Shared) (Q:Value->Shared->Prop) (E:Value->Shared->Prop),Q (.int (g i j) s.toks) { s with toks:=s.toks+1 }->wpAny (model X.prog X.w) X.A (f (.int i t) (.int j u)) Q E s) :
  OpR X f (rI0 λi j=>.int (g i j)):=by
 intro pins s σ H x y v u Q I rx ry h
 obtain ⟨i,j,rfl,rfl,q⟩:=h
 obtain ⟨t,rfl⟩:=rx
 obtain ⟨t',rfl⟩:=ry
 exact rule i j t t' s _ _ ⟨.int (g i j),H,I.tok _,⟨_,rfl⟩,q⟩
theorem ZmL {f:Value->Value->Sem Value} {g:Int->Int->Bool}
  (rule:∀ (i j:Int) (t u:Tok) (s:Shared) (Q:Value->Shared->Prop) (E:Value->Shared->Prop),Q (.bool (g i j)) s->wpAny (model X.prog X.w) X.A (f (.int i t) (.int j u)) Q E s) :
  OpR X f (rI0 λi j=>.bl (g i j)):=by
 intro pins s σ H x y v u Q I rx ry h
 obtain ⟨i,j,rfl,rfl,q⟩:=h
 obtain ⟨t,rfl⟩:=rx
 obtain ⟨t',rfl⟩:=ry
 exact rule i j t t' s _ _ ⟨.bl (g i j),H,I,rfl,q⟩
def Zpr (i j:Int):Prop:=0<j/\j<1073741824
def ZoC (i j:Int):Prop:=j≠0/\j.natAbs<1073741824
def ZoD (i j:Int):Prop:=0<=j/\j<=1000000/\i.natAbs<2 ^ 64
def CMul (i j:Int):Prop:=(-(2 ^ 64)<i/\i<2 ^ 64)\/(-(2 ^ 64)<j/\j<2 ^ 64)
theorem CMul.ok {i j:Int} (h:CMul i j):IntMulOk i j:=by
 rcases h with ⟨h1,h2⟩ | ⟨h1,h2⟩
 ·exact .of_left (intBits_le_64 h1 h2)
 ·exact .of_right (intBits_le_64 h1 h2)
theorem ZaL:OpR X (binaryOp .Add) (rI0 λi j=>.int (i+j)):=ZnS λ_ _ _ _ _ _ _ q=>add_int q
theorem ZbC:OpR X (binaryOp .Sub) (rI0 λi j=>.int (i-j)):=ZnS λ_ _ _ _ _ _ _ q=>sub_int q
theorem Zeh:OpR X (binaryOp .Mult) (rI CMul λi j=>.int (i * j)):=opI λ_ _ _ _ _ _ _ hc q=>mul_int q hc.ok
theorem ZgD:OpR X (binaryOp .Mod) (rI (λ_ j=>0<j) λi j=>.int (i % j)):=opI λi j _ _ _ _ _ hc q=>by
 have h1:(0:Int)<j:=hc
 exact mod_int' (by omega) (by rw [Int.fmod_eq_emod_of_nonneg i (by omega)];exact q)
theorem ZcO:OpR X (binaryOp .Pow) (rI ZoD λi j=>.int (i ^ j.toNat)):=opI λ_ _ _ _ _ _ _ hc q=>pow_int_small hc.1 hc.2.1 hc.2.2 q
end
def ZnT:V->V->Bool
 | .non,.non=>true | .non,.int _=>true | .int _,.non=>true | .non,.bl _=>true | .bl _,.non=>true | .non,.str _=>true | .str _,.non=>true
 | .int _,.int _=>true | .bl _,.bl _=>true | .str _,.str _=>true | .byt _,.byt _=>true
 | .int _,.str _=>true | .str _,.int _=>true | .bl _,.str _=>true | .str _,.bl _=>true
 | _,_=>false
def rEq:R2:=λx y H Q=>ZnT x y=true/\Q (.bl (decide (x=y))) H
def rNe:R2:=λx y H Q=>ZnT x y=true/\Q (.bl (!decide (x=y))) H
theorem ZgE {i j:Int}:decide (V.int i=V.int j)=(i == j):=by
 rw [Bool.eq_iff_iff]
 simp
theorem Zi8 {i j:Bool}:decide (V.bl i=V.bl j)=(i == j):=by
 rw [Bool.eq_iff_iff]
 simp
theorem ZgF {i j:Str}:decide (V.str i=V.str j)=(i == j):=by
 rw [Bool.eq_iff_iff]
 simp
theorem ZgG {i j:Array UInt8}:decide (V.byt i=V.byt j)=(i.toList == j.toList):=by
 rw [Bool.eq_iff_iff]
 cases i
 cases j
 simp
section
variable {X:Cx} {a b c:Expr} {ta tb tc:TE} {pos:Pos}
theorem ZaG {pins:List (Addr×Obj)} {σ:St} {H:Hp} {s:Shared} {Q:VK} {k k':Bool} (I:Inv X pins σ H s) (q:Q (.bl k) H) (e:k=k'):EP X pins σ Q (.bool k') s:=by
 subst e
 exact ⟨.bl k,H,I,rfl,q⟩
theorem ZdK:OpR X (compareOp .Eq) rEq:=by
 intro pins s σ H x y v u Q I rx ry h
 obtain ⟨hs,q⟩:=h
 cases x with
 | non=>
  cases rx
  cases y with
  | non=>cases ry;exact PySem.EqNone.eq_none_none (ZaG I q (by simp))
  | bl j=>cases ry;exact PySem.EqNone.eq_none_bool (ZaG I q (by simp))
  | int j=>obtain ⟨t',rfl⟩:=ry;exact PySem.EqNone.eq_none_int (ZaG I q (by simp))
  | str j=>obtain ⟨t',rfl⟩:=ry;exact PySem.EqNone.eq_none_str (ZaG I q (by simp))
  | _=>exact absurd (show false=true from hs) Bool.false_ne_true
 | bl i=>
  cases rx
  cases y with
  | non=>cases ry;exact PySem.EqNone.eq_bool_none (ZaG I q (by simp))
  | bl j=>cases ry;exact eq_bool (ZaG I q Zi8)
  | str j=>obtain ⟨t',rfl⟩:=ry;exact PySem.EqMixed.eq_bool_str (ZaG I q (by simp))
  | _=>exact absurd (show false=true from hs) Bool.false_ne_true
 | int i=>
  obtain ⟨t,rfl⟩:=rx
  cases y with
  | non=>cases ry;exact PySem.EqNone.eq_int_none (ZaG I q (by simp))
  | int j=>obtain ⟨t',rfl⟩:=ry;exact eq_int (ZaG I q ZgE)
  | str j=>obtain ⟨t',rfl⟩:=ry;exact PySem.EqMixed.eq_int_str (ZaG I q (by simp))
  | _=>exact absurd (show false=true from hs) Bool.false_ne_true
 | str i=>
  obtain ⟨t,rfl⟩:=rx
  cases y with
  | non=>cases ry;exact PySem.EqNone.eq_str_none (ZaG I q (by simp))
  | bl j=>cases ry;exact PySem.EqMixed.eq_str_bool (ZaG I q (by simp))
  | int j=>obtain ⟨t',rfl⟩:=ry;exact PySem.EqMixed.eq_str_int (ZaG I q (by simp))
  | str j=>obtain ⟨t',rfl⟩:=ry;exact eq_str (ZaG I q ZgF)
  | _=>exact absurd (show false=true from hs) Bool.false_ne_true
 | byt i=>
  obtain ⟨t,rfl⟩:=rx
  cases y with
  | byt j=>obtain ⟨t',rfl⟩:=ry;exact PySem.W.eq_bytes (ZaG I q ZgG)
  | _=>exact absurd (show false=true from hs) Bool.false_ne_true
 | _=>cases y <;> exact absurd (show false=true from hs) Bool.false_ne_true
theorem Zm1:OpR X (compareOp .NotEq) rNe:=by
 intro pins s σ H x y v u Q I rx ry h
 obtain ⟨hs,q⟩:=h
 cases x with
 | non=>
  cases rx
  cases y with
  | non=>cases ry;exact PySem.EqNone.ne_none_none (ZaG I q (by simp))
  | bl j=>cases ry;exact PySem.EqNone.ne_none_bool (ZaG I q (by simp))
  | int j=>obtain ⟨t',rfl⟩:=ry;exact PySem.EqNone.ne_none_int (ZaG I q (by simp))
  | str j=>obtain ⟨t',rfl⟩:=ry;exact PySem.EqNone.ne_none_str (ZaG I q (by simp))
  | _=>exact absurd (show false=true from hs) Bool.false_ne_true
 | bl i=>
  cases rx
  cases y with
  | non=>cases ry;exact PySem.EqNone.ne_bool_none (ZaG I q (by simp))
  | bl j=>cases ry;exact ne_bool (ZaG I q (congrArg not Zi8))
  | str j=>obtain ⟨t',rfl⟩:=ry;exact PySem.EqMixed.ne_bool_str (ZaG I q (by simp))
  | _=>exact absurd (show false=true from hs) Bool.false_ne_true
 | int i=>
  obtain ⟨t,rfl⟩:=rx
  cases y with
  | non=>cases ry;exact PySem.EqNone.ne_int_none (ZaG I q (by simp))
  | int j=>obtain ⟨t',rfl⟩:=ry;exact ne_int (ZaG I q (congrArg not ZgE))
  | str j=>obtain ⟨t',rfl⟩:=ry;exact PySem.EqMixed.ne_int_str (ZaG I q (by simp))
  | _=>exact absurd (show false=true from hs) Bool.false_ne_true
 | str i=>
  obtain ⟨t,rfl⟩:=rx
  cases y with
  | non=>cases ry;exact PySem.EqNone.ne_str_none (ZaG I q (by simp))
  | bl j=>cases ry;exact PySem.EqMixed.ne_str_bool (ZaG I q (by simp))
  | int j=>obtain ⟨t',rfl⟩:=ry;exact PySem.EqMixed.ne_str_int (ZaG I q (by simp))
  | str j=>obtain ⟨t',rfl⟩:=ry;exact ne_str (ZaG I q (congrArg not ZgF))
  | _=>exact absurd (show false=true from hs) Bool.false_ne_true
 | byt i=>
  obtain ⟨t,rfl⟩:=rx
  cases y with
  | byt j=>obtain ⟨t',rfl⟩:=ry;exact PySem.W.ne_bytes (ZaG I q (congrArg not ZgG))
  | _=>exact absurd (show false=true from hs) Bool.false_ne_true
 | _=>cases y <;> exact absurd (show false=true from hs) Bool.false_ne_true
theorem ZjL:OpR X (compareOp .Lt) (rI0 λi j=>.bl (decide (i<j))):=ZmL λ_ _ _ _ _ _ _ q=>lt_int q
theorem Zlo:OpR X (compareOp .LtE) (rI0 λi j=>.bl (decide (i<=j))):=ZmL λ_ _ _ _ _ _ _ q=>le_int q
theorem Zei:OpR X (compareOp .Gt) (rI0 λi j=>.bl (decide (j<i))):=ZmL λ_ _ _ _ _ _ _ q=>gt_int q
theorem ZjM:OpR X (compareOp .GtE) (rI0 λi j=>.bl (decide (j<=i))):=ZmL λ_ _ _ _ _ _ _ q=>ge_int q
theorem ZgH:OpR X (compareOp .Is) (λx y H Q=>y=.non/\Q (.bl (decide (x=.non))) H):=by
 intro pins s σ H x y v u Q I rx ry h
 obtain ⟨rfl,q⟩:=h
 cases ry
 refine is_none_gen (ZaG I q ?_)
 cases x <;> first
  | (cases rx;rfl)
  | (obtain ⟨t,rfl⟩:=rx;rfl)
def ZoE:HO->Bool
 | .lst _=>true
 | .ins _ _ _=>true
 | _=>false
theorem ZaF (b:Expr) {op:CmpOp} (h:op≠.In:=by decide) (h2:op≠.NotIn:=by decide):behindInMarks op b=false:=by
 have e1:(op == CmpOp.In)=false:=by cases op <;> first | rfl | exact absurd rfl h
 have e2:(op == CmpOp.NotIn)=false:=by cases op <;> first | rfl | exact absurd rfl h2
 cases b <;> simp [behindInMarks,e1,e2]
theorem Zb8 {op:CmpOp} {r:R2} (ho:OpR X (compareOp op) r) (ha:PE X a ta) (hb:PE X b tb) (hm:behindInMarks op b=false):PE X (.Compare a [op] [b] pos) (tOp r ta tb):=by
 intro pins s σ H Q I h
 exact wpAny_Compare1 (Zm0 ha hb I h λv u s2 x y H2 I2 rx ry q=>ho pins s2 σ H2 x y v u Q I2 rx ry q) hm
def Zm2 (t:TE):TT:=λσ H Q=>t σ H λx H'=>∃ k,x=.bl k/\Q k H'
theorem Zay {op:CmpOp} {r:R2} (ho:OpR X (compareOp op) r) (ha:PE X a ta) (hb:PE X b tb) (hm:behindInMarks op b=false):PT X (.Compare a [op] [b] pos) (Zm2 (tOp r ta tb)):=by
 intro pins s σ H Q I h
 refine wpAny_isTrue_Compare1 (thn (ha pins s σ H _ I h) λv s1 ⟨x,H1,I1,r1,q1⟩=>thn (hb pins s1 σ H1 _ I1 q1) λu s2 ⟨y,H2,I2,r2,q2⟩=>
  thn (ho pins s2 σ H2 x y v u _ I2 r1 r2 q2) λc s3 ⟨z,H3,I3,r3,k,e,q3⟩=>?_) hm
 subst e
 cases r3
 exact wpAny_truthy_bool ⟨H3,I3,q3⟩
def Zlp (r r':R2) (ta tb tc:TE):TE:=λσ H Q=>ta σ H λx H1=>tb σ H1 λy H2=>r x y H2 λz H3=>∃ k,z=.bl k /\
 (if k=true then tc σ H3 λw' H4=>r' y w' H4 Q else Q (.bl false) H3)
theorem Zh6 {op op':CmpOp} {r r':R2} (ho:OpR X (compareOp op) r) (ho':OpR X (compareOp op') r') (ha:PE X a ta) (hb:PE X b tb) (hc:PE X c tc)
  (hm:lastMarks [op,op'] [b,c]=false:=by with_unfolding_all rfl):PE X (.Compare a [op,op'] [b,c] pos) (Zlp r r' ta tb tc):=by
 intro pins s σ H Q I h
 refine Compare_chain (thn (ha pins s σ H _ I h) λv s1 ⟨x,H1,I1,r1,q1⟩=>chain_link (thn (hb pins s1 σ H1 _ I1 q1) λu s2 ⟨y,H2,I2,r2,q2⟩=>
  thn (ho pins s2 σ H2 x y v u _ I2 r1 r2 q2) λd s3 ⟨z,H3,I3,r3,k,e,q3⟩=>?_)) hm
 subst e
 cases r3
 refine wpAny_truthy_bool ?_
 cases k with
 | false=>exact ite_ff ⟨.bl false,H3,I3,rfl,q3⟩
 | true=>exact ite_tt (chain_last (thn (hc pins s3 σ H3 _ I3 q3) λw' s4 ⟨z',H4,I4,r4,q4⟩=>ho' pins s4 σ H4 y z' u w' Q I4 r2 r4 q4))
def ZnU (K:PySem.W.Frag) (x:V) (H:Hp) (k:Bool):Prop:=
 match x with
 | .non=>k=false
 | .bl b=>k=b
 | .int i=>k=(i != 0)
 | .str y=>y.length<=sizeLine/\k=((y.length:Int) != 0)
 | .byt y=>y.size<=sizeLine/\k=((y.size:Int) != 0)
 | .ref p=>(∃ xs,SqL K H p xs/\k=!xs.isEmpty)\/(∃ xs,SqT K H p xs/\k=!xs.isEmpty)\/∃ kvs,H p=some (.dK kvs)/\k=!kvs.isEmpty
 | _=>False
theorem Zf8 {κ:Type} {kvs:List (κ×V)} {vs:List (κ×Value)} (r:KV kvs vs):(!vs.isEmpty)=!kvs.isEmpty:=by
 cases r <;> rfl
theorem Zdq {xs:List V} {its:List Value} (r:Vals xs its):(!its.toArray.isEmpty)=!xs.isEmpty:=by
 cases r <;> simp
theorem Zej:(sizeLine:Nat)<2 ^ 63:=by rw [sizeLine_eq];decide
theorem Zlq:ZoB X (λx H Q=>∃ k,ZnU X.K x H k/\Q k H):=by
 intro pins s σ H x v Q I rx h
 obtain ⟨k,e,q⟩:=h
 have hl:=Zej
 have hs:sizeLine=16777216:=sizeLine_eq
 cases x with
 | non=>
  cases rx
  have e':k=false:=e
  subst e'
  exact truthy_none ⟨H,I,q⟩
 | bl b=>
  cases rx
  have e':k=b:=e
  subst e'
  exact wpAny_truthy_bool ⟨H,I,q⟩
 | int i=>
  obtain ⟨t,rfl⟩:=rx
  have e':k=(i != 0):=e
  subst e'
  exact PySem.P.truthy_int ⟨H,I,q⟩
 | str y=>
  obtain ⟨t,rfl⟩:=rx
  obtain ⟨hy,e'⟩:y.length<=sizeLine/\k=((y.length:Int) != 0):=e
  subst e'
  exact PySem.P.truthy_str (by omega) ⟨H,I.tok _,q⟩
 | byt y=>
  obtain ⟨t,rfl⟩:=rx
  obtain ⟨hy,e'⟩:y.size<=sizeLine/\k=((y.size:Int) != 0):=e
  subst e'
  exact PySem.W.truthy_bytes (by omega) ⟨H,I.tok _,q⟩
 | ref p=>
  cases rx
  have e':(∃ xs,SqL X.K H p xs/\k=!xs.isEmpty)\/(∃ xs,SqT X.K H p xs/\k=!xs.isEmpty)\/∃ kvs,H p=some (.dK kvs)/\k=!kvs.isEmpty:=e
  rcases e' with ⟨xs,hx,e'⟩ | ⟨xs,hx,e'⟩ | ⟨kvs,hx,e'⟩
  ·subst e'
   obtain ⟨its,r,pl,hz⟩:=I.list hx
   have hlen:=r.length
   exact wpAny_truthy_list pl.isList (by simp only [List.size_toArray];omega) ⟨H,I.tok _,by rw [Zdq r];exact q⟩
  ·subst e'
   obtain ⟨its,r,pl,hz⟩:=I.tuple hx
   have hlen:=r.length
   exact truthy_tuple pl (by simp only [List.size_toArray];omega) ⟨H,I.tok _,by rw [Zdq r];exact q⟩
  ·subst e'
   obtain ⟨hz,hS,vs,r,m⟩:kvs.length<=sizeLine/\(p == sysModules)=false/\∃ vs,KV kvs vs/\s.heap.DictOf (ZaU X.prog X.w) p vs:=I.hok p _ hx
   have hlen:kvs.length=vs.length:=Paired.length r
   exact wpAny_truthy_dict hS m (by omega) ⟨H,I.tok _,by rw [Zf8 r];exact q⟩
 | _=>exact (show False from e).elim
theorem Zfw (ha:PE X a ta) (he:∀ whole,isTrue a X.env whole=(do let v <- whole;standAt a.pos;holding [v] (truthy v))) :
  PT X a (λσ H Q=>ta σ H λx H'=>∃ k,ZnU X.K x H' k/\Q k H'):=by
 intro pins s σ H Q I h
 exact isTrue_plain (thn (ha pins s σ H _ I h) λv s1 ⟨x,H1,I1,r1,q1⟩=>Zlq pins s1 σ H1 x v Q I1 r1 q1) (he _)
def ZmM (b:Expr):Prop:=∀ o i,subscripted b false o i=operate [o,i] (getItem o i)
theorem Zh7 {x:V} {us:List Value} (r:Vals [x] us):∃ u,us=[u]/\RelV x u:=by
 cases r with
 | cons r1 r2=>cases r2;exact ⟨_,rfl,r1⟩
theorem Zlr {x y:V} {us:List Value} (r:Vals [x,y] us):∃ u w',us=[u,w']/\RelV x u/\RelV y w':=by
 cases r with
 | cons r1 r2=>
  cases r2 with
  | cons r3 r4=>cases r4;exact ⟨_,_,rfl,r1,r3⟩
theorem ZgI (hc:X.calm=true):ZbB X (.builtin "max") (λxs H Q=>∃ i j,xs=[.int i,.int j]/\Q (.int (if j > i then j else i)) H):=by
 intro pins s σ H xs us Q I r h
 obtain ⟨i,j,rfl,q⟩:=h
 obtain ⟨u,w',rfl,⟨t,rfl⟩,⟨t',rfl⟩⟩:=Zlr r
 refine max_two_ints (I.ok.hd hc) λh' tk k=>⟨_,H,I.kept k,?_,q⟩
 by_cases hj:j > i
 ·rw [if_pos hj,if_pos hj];exact ⟨_,rfl⟩
 ·rw [if_neg hj,if_neg hj];exact ⟨_,rfl⟩
theorem ZgJ (hc:X.calm=true):ZbB X (.builtin "min") (λxs H Q=>∃ i j,xs=[.int i,.int j]/\Q (.int (if j<i then j else i)) H):=by
 intro pins s σ H xs us Q I r h
 obtain ⟨i,j,rfl,q⟩:=h
 obtain ⟨u,w',rfl,⟨t,rfl⟩,⟨t',rfl⟩⟩:=Zlr r
 refine min_two_ints (I.ok.hd hc) λh' tk k=>⟨_,H,I.kept k,?_,q⟩
 by_cases hj:j<i
 ·rw [if_pos hj,if_pos hj];exact ⟨_,rfl⟩
 ·rw [if_neg hj,if_neg hj];exact ⟨_,rfl⟩
theorem ZbD:ZbB X (.type "int") (λxs H Q=>(∃ i,xs=[.int i]/\Q (.int i) H)\/∃ k,xs=[.bl k]/\Q (.int (if k then 1 else 0)) H):=by
 intro pins s σ H xs us Q I r h
 rcases h with ⟨i,rfl,q⟩ | ⟨k,rfl,q⟩
 ·obtain ⟨u,rfl,t,rfl⟩:=Zh7 r
  exact call_int_int ⟨.int i,H,I,⟨_,rfl⟩,q⟩
 ·obtain ⟨u,rfl,r1⟩:=Zh7 r
  cases r1
  exact call_int_bool ⟨.int (if k then 1 else 0),H,I.tok _,⟨_,rfl⟩,q⟩
def Zps (K:PySem.W.Frag) (x:V) (H:Hp) (n:Nat):Prop:=
 match x with
 | .str y=>y.length<=sizeLine/\n=y.length
 | .byt y=>y.size<=sizeLine/\n=y.size
 | .ref p=>(∃ xs,SqL K H p xs/\n=xs.length)\/∃ xs,SqT K H p xs/\n=xs.length
 | _=>False
end
end L2
namespace L2
open PySem PySem.Spec PyProof.Rows
structure ObjM (h:Heap) (x dx C:Addr) (mA:Str->Option Value):Prop where
 obj:h.get? x=some (PySem.W.instObj C dx)
 ns:h.Ns1 dx mA
 ne:dx≠x
theorem ZgK {h:Heap} {dx:Addr} {mA:Str->Option Value} (n:h.Ns1 dx mA):∃ od,h.get? dx=some od/\∀ name,PySem.W.lookIn name od=some (mA name):=by
 obtain ⟨o,es,ep,ho,hd,hk,_,hm⟩:=n
 refine ⟨o,ho,λname=>?_⟩
 have e:=hm name
 unfold nsFind findBy at e
 rw [<-Array.find?_toList] at e
 unfold PySem.W.lookIn
 rw [hd]
 dsimp only
 split
 ·rename_i y q
  rw [q] at e
  exact congrArg some e
 ·rename_i q
  rw [q] at e
  have a:es.toList.any (·.refKey)=false:=by
   rw [List.any_eq_false]
   intro y hy
   obtain ⟨z,t,hkey⟩:=hk y (Array.mem_toList_iff.mp hy)
   simp [DictEntry.refKey,hkey]
  have a':¬ es.toList.any (·.refKey)=true:=by rw [a];exact Bool.false_ne_true
  rw [if_neg a']
  exact congrArg some e
theorem ObjM.look {h:Heap} {x dx C:Addr} {mA:Str->Option Value} (I:ObjM h x dx C mA):∃ od,PySem.W.InstAt h x (PySem.W.instObj C dx) C (some od)/\∀ name,PySem.W.lookIn name od=some (mA name):=
 let ⟨od,ho,hl⟩:=ZgK I.ns
 ⟨od,⟨I.obj,rfl,rfl,ho⟩,hl⟩
section
variable {prog:Program} {w:World} {A:Around} {E:Value->Shared->Prop} {s:Shared} {K:PySem.W.Frag} {x dx C f:Addr} {mA:Str->Option Value} {name:Str} {v:Value}
end
def Zm3 (f:Str) (v:V):List (Str×V)->List (Str×V)
 | []=>[(f,v)]
 | (g,x)::r=>if g=f then (g,v)::r else (g,x)::Zm3 f v r
theorem RelO.some_of {v:V} {o:Option Value} (r:RelO (some v) o):∃ u,o=some u/\RelV v u:=by
 cases o with
 | none=>exact (show False from r).elim
 | some u=>exact ⟨u,rfl,r⟩
section
variable {P:Program} {w:World} {H H':Hp} {h h':Heap} {a C dx:Addr} {fs fs':List (Str×V)}
theorem ZjN (hok:HOk P w H h) (e:H a=some (.ins C dx fs)):∃ mA,ObjM h a dx C mA/\(∀ f,RelO (fs.lookup f) (mA f))/\PySem.Within mA (fs.map (·.1))/\fs.length<=1000/\H dx=some (.own a):=by
 obtain ⟨d,z,ne,ob,mA,n,r,q⟩:=(show ObjOk P w H h a (.ins C dx fs) from hok a _ e)
 exact ⟨mA,⟨ob,n,ne⟩,r,q,z,d⟩
end
structure Cls (K:PySem.W.Frag) (C:Addr):Prop where
 pg:PySem.W.plainGet K C Str.empty=true
 hd:PySem.W.hasDictIn K C=true
 po:PySem.W.plainOver K C=true
 sa:PySem.W.findIn K (.ref C) "__setattr__" = some (some (.builtin "object.__setattr__"))
theorem Cls.get {K:PySem.W.Frag} {C:Addr} (c:Cls K C) (f:Str):PySem.W.plainGet K C f=true:=c.pg
def ZgL (K:PySem.W.Frag) (C:Addr) (f:Str):Prop:=PySem.W.findIn K (.ref C) f=some none
structure Con (K:PySem.W.Frag) (C:Addr) (f:Str) (v:V) (u:Value):Prop where
 at_:PySem.W.findIn K (.ref C) f=some (some u)
 rel:RelV v u
 get:PySem.W.specialIn K u "__get__" = some none
 cp:PySem.W.copiedNames.contains f=false
structure Zpt (K:PySem.W.Frag) (C:Addr) (m:Str) (f:Addr):Prop where
 at_:PySem.W.findIn K (.ref C) m=some (some (.ref f))
 fn:PySem.W.isFn K (.ref f)=true
 kp:PySem.W.keepIn K (.ref f)=true
section
variable {X:Cx} {pins:List (Addr×Obj)} {σ:St} {H:Hp} {s:Shared} {a C dx:Addr} {fs:List (Str×V)} {f:Str} {v:V} {A:Around} {E:Value->Shared->Prop}
end
def Zpu (K:PySem.W.Frag) (ta:TE) (f:Str):TE:=λσ H Q=>ta σ H λx H1=>∃ a C dx fs v,x=.ref a/\H1 a=some (.ins C dx fs)/\Cls K C/\ZgL K C f/\fs.lookup f=some v/\Q v H1
def Zpv (K:PySem.W.Frag) (ta:TE) (f:Str):TE:=λσ H Q=>ta σ H λx H1=>∃ a C dx fs v u,x=.ref a/\H1 a=some (.ins C dx fs)/\Cls K C/\Con K C f v u/\fs.lookup f=none/\Q v H1
def Zpw (K:PySem.W.Frag) (ta tv:TE) (f:Str):TS:=λD σ H=>tv σ H λy H1=>ta σ H1 λx H2=>∃ a C dx fs,x=.ref a/\H2 a=some (.ins C dx fs)/\Cls K C/\ZgL K C f/\fs.length<1000 /\
 D.nx σ (upd H2 a (.ins C dx (Zm3 f y fs)))
def Zpx (X:Cx) (op:Operator) (rd:V->V->Hp->VK->Prop):Prop:=
 ∀ (pins:List (Addr×Obj)) (s:Shared) (σ:St) (H:Hp) (x y:V) (u v:Value) (Q:VK),Inv X pins σ H s->RelV x u->RelV y v->rd x y H Q->wpAny (model X.prog X.w) X.A (inplaceOp op u v) (EP X pins σ Q) X.xe s
def Zm4 (K:PySem.W.Frag) (ta tv:TE) (rd:V->V->Hp->VK->Prop) (f:Str):TS:=λD σ H=>ta σ H λx H1=>∃ a C dx fs v,x=.ref a/\H1 a=some (.ins C dx fs)/\Cls K C/\ZgL K C f/\fs.lookup f=some v /\
 tv σ H1 λy H2=>rd v y H2 λz H3=>∃ dx' fs',H3 a=some (.ins C dx' fs')/\fs'.length<1000/\D.nx σ (upd H3 a (.ins C dx' (Zm3 f z fs')))
section
variable {X:Cx} {o e value:Expr} {f:Str} {pos pos' tpos:Pos} {ta tv:TE}
def Zpy:V->V->Hp->VK->Prop:=λx y H Q=>∃ i j,x=.int i/\y=.int j/\Q (.int (i+j)) H
def Zpz:V->V->Hp->VK->Prop:=λx y H Q=>∃ i j,x=.int i/\y=.int j/\Q (.int (i-j)) H
end
section
variable {X:Cx} {pins:List (Addr×Obj)} {σ:St} {H:Hp} {s:Shared} {A:Around} {E:Value->Shared->Prop} {Q:Value->Shared->Prop} {c:Value} {b:Bool}
inductive Zf9 (K:PySem.W.Frag) (H:Hp):V->Value->Prop where
 | non:Zf9 K H .non (.type "NoneType")
 | bl (x:Bool):Zf9 K H (.bl x) (.type "bool")
 | int (i:Int):Zf9 K H (.int i) (.type "int")
 | str (x:Str):Zf9 K H (.str x) (.type "str")
 | flt (x:UInt64):Zf9 K H (.flt x) (.type "float")
 | lst {a:Addr} {xs:List V} (e:H a=some (.lst xs)):Zf9 K H (.ref a) (.type "list")
 | frz {a:Addr} {o:Obj} {xs:List V} (e:H a=some (.frz o (.lst xs))):Zf9 K H (.ref a) (.type "list")
 | tup {a:Addr} {xs:List V} (e:H a=some (.tup xs)):Zf9 K H (.ref a) (.type "tuple")
 | dK {a:Addr} {kvs:List (Key×V)} (e:H a=some (.dK kvs)):Zf9 K H (.ref a) (.type "dict")
 | dT {a:Addr} {kvs:List (List Key×V)} (e:H a=some (.dT kvs)):Zf9 K H (.ref a) (.type "dict")
 | ins {a C dx:Addr} {fs:List (Str×V)} (e:H a=some (.ins C dx fs)) (cl:Cls K C) (ha:PySem.W.findIn K (.ref C) "__class__" = some (some (.builtin "object.__class__")))
   (hn:PySem.W.specialIn K (.builtin "object.__class__") "__get__" = some (some (.builtin "getset_descriptor.__get__"))) (htk:PySem.W.takesIn K (.builtin "object.__class__")=some true)
   (hm:PySem.W.mroIn K C (.type "object")=some true):Zf9 K H (.ref a) (.ref C)
theorem ZgM {x:V} {u t:Value} (I:Inv X pins σ H s) (rx:RelV x u) (ty:Zf9 X.K H x t) (e:PySem.W.kitOne X.K t c=some b) (h:∀ tk,Q (.bool b) { s with toks:=tk }) :
  wpAny (model X.prog X.w) A (call (.builtin "isinstance") [u,c]) Q E s:=by
 cases ty with
 | non=>cases (show u=Value.none from rx);exact PySem.W.kia_one PySem.W.kitx_none I.kIn True.intro e (λz=>nomatch z) h
 | bl y=>cases (show u=Value.bool y from rx);exact PySem.W.kia_one PySem.W.kitx_bool I.kIn True.intro e (λz=>nomatch z) h
 | int i=>obtain ⟨t,q⟩:=(show ∃ t,u=Value.int i t from rx);cases q;exact PySem.W.kia_one PySem.W.kitx_int I.kIn True.intro e (λz=>nomatch z) h
 | str y=>obtain ⟨t,q⟩:=(show ∃ t,u=Value.str y t from rx);cases q;exact PySem.W.kia_one PySem.W.kitx_str I.kIn True.intro e (λz=>nomatch z) h
 | flt y=>obtain ⟨t,q⟩:=(show ∃ t,u=Value.float y t from rx);cases q;exact PySem.W.kia_one PySem.W.kitx_float I.kIn True.intro e (λz=>nomatch z) h
 | @lst a xs ea=>
  cases (show u=Value.ref a from rx)
  obtain ⟨_,_,n,_,h1⟩:=(show ObjOk X.prog X.w H s.heap a (.lst xs) from I.hok a _ ea)
  exact PySem.W.kia_one PySem.W.kitx_list I.kIn ⟨_,h1,rfl⟩ e (λz=>nomatch z) h
 | @frz a ob xs ea=>
  cases (show u=Value.ref a from rx)
  obtain ⟨_,_,_,n,_,h1⟩:=(show ObjOk X.prog X.w H s.heap a (.frz ob (.lst xs)) from I.hok a _ ea)
  exact PySem.W.kia_one PySem.W.kitx_list I.kIn ⟨_,h1,rfl⟩ e (λz=>nomatch z) h
 | @tup a xs ea=>
  cases (show u=Value.ref a from rx)
  obtain ⟨_,_,_,p⟩:=(show ObjOk X.prog X.w H s.heap a (.tup xs) from I.hok a _ ea)
  obtain ⟨o,h1,h2,_⟩:=p
  exact PySem.W.kia_one PySem.W.kitx_tuple I.kIn ⟨o,h1,h2⟩ e (λz=>nomatch z) h
 | @dK a kvs ea=>
  cases (show u=Value.ref a from rx)
  obtain ⟨_,_,vs,_,p⟩:=(show ObjOk X.prog X.w H s.heap a (.dK kvs) from I.hok a _ ea)
  obtain ⟨o,es,ep,h1,h2,_⟩:=p
  exact PySem.W.kia_one PySem.W.kitx_dict I.kIn ⟨o,h1,h2.1⟩ e (λz=>nomatch z) h
 | @dT a kvs ea=>
  cases (show u=Value.ref a from rx)
  obtain ⟨_,_,xs,_,o,es,ep,h1,h2,_⟩:=(show ObjOk X.prog X.w H s.heap a (.dT kvs) from I.hok a _ ea)
  exact PySem.W.kia_one PySem.W.kitx_dict I.kIn ⟨o,h1,h2.1⟩ e (λz=>nomatch z) h
 | @ins a C dx fs ea cl ha hn htk hm=>
  cases (show u=Value.ref a from rx)
  obtain ⟨mA,O,_⟩:=ZjN I.hok ea
  obtain ⟨od,J,_⟩:=O.look
  exact PySem.W.kia_one (PySem.W.kitx_own (cl.get _) cl.hd ha hn htk hm) I.kIn J e (λz=>nomatch z) h
end
end L2
namespace L2
open PySem PySem.Spec PyProof.Rows
structure Room (k:Nat) (A:Around):Prop where
 hd:A.handled=none
 dp:A.depth+3 * k+5<recursionLimit
 un:A.units+16 * k+200<cLine
theorem Room.mono {j k:Nat} {A:Around} (r:Room k A) (h:j<=k):Room j A:=⟨r.hd,by have:=r.dp;omega,by have:=r.un;omega⟩
theorem Room.deeper {k:Nat} {A:Around} (r:Room (k+1) A) (env:Env):Room k (A.deeper env):=
 ⟨r.hd,by have:=r.dp;show A.depth+1+3 * k+5<_;omega,by have:=r.un;show A.units+3+16 * k+200<_;omega⟩
theorem Room.depth {k:Nat} {A:Around} (r:Room k A):A.depth<recursionLimit:=by have:=r.dp;omega
theorem Room.units {k:Nat} {A:Around} (r:Room k A):A.units+64<cLine:=by have:=r.un;omega
def Zm5:TA:=λ_ H Q=>Q [] H
def Zm6 (ta:TE) (tr:TA):TA:=λσ H Q=>ta σ H λx H1=>tr σ H1 λxs H2=>Q (x::xs) H2
section
variable {X:Cx} {e:Expr} {es:List Expr} {te:TE} {t:TA} {pos:Pos}
theorem Zac:PA X [] Zm5:=λ_ _ _ _ H Q I h=>Calls.spliced_nil ⟨[],H,I,.nil,h⟩
theorem Zaa (ha:PE X e te) (hr:PA X es t) (hs:starEach (e::es) X.env=(false,eval e X.env)::starEach es X.env:=by rfl):PA X (e::es) (Zm6 te t):=by
 intro pos pins s σ H Q I h
 rw [hs]
 show wpAny _ _ (spliced ((false,eval e X.env)::backTo pos (starEach es X.env))) _ _ s
 refine Calls.spliced_cons (thn (ha pins s σ H _ I h) λu s1 ⟨x,H1,I1,r1,q1⟩=>?_)
 exact thn (hr pos pins s1 σ H1 _ I1 q1) λus s2 ⟨xs,H2,I2,r2,q2⟩=>⟨x::xs,H2,I2,.cons r1 r2,q2⟩
def ZoF (t:TA):TE:=λσ H Q=>t σ H λxs H1=>xs.length<=sizeLine/\∀ p,H1 p=none->Q (.ref p) (upd H1 p (.tup xs))
def ZoG (t:TA):TE:=λσ H Q=>t σ H λxs H1=>xs.length<=sizeLine/\∀ p,H1 p=none->Q (.ref p) (upd H1 p (.lst xs))
theorem ZaR {x1} (h:PA X es t):PE X (.Tuple es x1 pos) (ZoF t):=by
 intro pins s σ H Q I hq
 refine wpAny_Tuple_spliced (thn (h pos pins s σ H _ I hq) λus s1 ⟨xs,H1,I1,r,z,q⟩=>⟨by rw [<-r.length];exact z,?_⟩)
 have hf:H1 s1.heap.objs.size=none:=I1.hok.fresh (Nat.le_refl _)
 refine ⟨.ref s1.heap.objs.size,upd H1 s1.heap.objs.size (.tup xs),I1.laid (t':=s1.toks) (λb u e=>Heap.get?_push_of_some _ e) (Nat.le_refl _) ?_,rfl,q _ hf⟩
 exact ⟨z,us,r,⟨_,Heap.get?_push_size _ rfl,rfl,_,rfl⟩⟩
theorem ZaB (h:PA X es t):PE X (.List es pos) (ZoG t):=by
 intro pins s σ H Q I hq
 refine wpAny_List_spliced (thn (h pos pins s σ H _ I hq) λus s1 ⟨xs,H1,I1,r,z,q⟩=>⟨by rw [<-r.length];exact z,?_⟩)
 have hf:H1 s1.heap.objs.size=none:=I1.hok.fresh (Nat.le_refl _)
 refine ⟨.ref s1.heap.objs.size,upd H1 s1.heap.objs.size (.lst xs),I1.laid (t':=s1.toks) (λb u e=>Heap.get?_push_of_some _ e) (Nat.le_refl _) ?_,rfl,q _ hf⟩
 exact ⟨z,us,0,r,Heap.get?_push_size _ rfl⟩
end
abbrev Sp:=List V->Hp->VK->XK->Prop
abbrev CXT:=List Env->Hp->Shared->XK->Value->Shared->Prop
structure ZmN (P:Program) (w:World) (K:PySem.W.Frag) (mg:Str->Option Value) (base:Heap) (A:Around) (outer:List Env) (s:Shared) (H:Hp):Prop where
 frames:A.frames=some outer
 mod:Mod K mg base
 bs:∀ b o,base.get? b=some o->s.heap.get? b=some o/\H b=none
 bsz:base.objs.size<=s.heap.objs.size
 funs:s.heap.FunFrames base outer
 frf:∀ b∈frs outer,H b=none
 hok:HOk P w H s.heap
 bare:AllBare s.gens
def CE (outer:List Env) (P:Program) (w:World) (H:Hp) (s:Shared) (Q:VK) (u:Value) (s':Shared):Prop:=
 ∃ v H',s'.os=s.os/\AllBare s'.gens/\Un (frs outer) [] H H' s.heap s'.heap/\HOk P w H' s'.heap/\RelV v u/\Q v H'
def CR (CX:CXT) (outer:List Env) (P:Program) (w:World) (H:Hp) (s:Shared) (Q:VK) (E:XK) (r:Result) (s':Shared):Prop:=
 match r with
 | .ok (.ret u)=>CE outer P w H s Q u s'
 | .ok _=>False
 | .error e=>CX outer H s E e s'
structure ZaO (P:Program) (w:World) (K:PySem.W.Frag) (mg:Str->Option Value) (base:Heap) (CX:CXT) (k:Nat) (f:Addr) (fd:FuncData) (ps:List Str) (sp:Sp):Prop where
 len:∀ vs H Q E,sp vs H Q E->vs.length=ps.length
 run:∀ (A:Around) (outer:List Env) (s:Shared) (H:Hp) (args:Args) (us:List Value) (vs:List V) (Q:VK) (E:XK),Room k A->ZmN P w K mg base A outer s H->BindsTo s fd args (ps.zip us)->Vals vs us->sp vs H Q E ->
  codeAny (model P w) A (.call (.ref f) args) (CR CX outer P w H s Q E) s
section
variable {X:Cx} {pins:List (Addr×Obj)} {σ:St} {H:Hp} {s s':Shared}
theorem Inv.env0 (I:Inv X pins σ H s):ZmN X.prog X.w X.K X.mg X.base X.A X.stack s H:=
 ⟨I.ok.frames,I.ok.mod,I.bs,Nat.le_trans I.ok.bsz I.sz,I.stack,I.stkFree,I.hok,I.bare⟩
theorem Inv.after {Q:VK} {u:Value} (I:Inv X pins σ H s) (h:CE X.stack X.prog X.w H s Q u s'):EP X pins σ Q u s':=by
 obtain ⟨v,H',os,bare,un,hok,r,q⟩:=h
 obtain ⟨hh,g,d,t,os'⟩:=s'
 obtain rfl:os'=s.os:=os
 exact ⟨v,H',I.call (h':=hh) (g':=g) (d':=d) (t':=t) (ch:=[]) un hok bare (λb z=>absurd z (by simp)),r,q⟩
end
def Zm7 (sp:Sp) (dvs:List V) (E:XK) (t:TA):TE:=λσ H Q=>t σ H λvs H1=>sp (vs++dvs) H1 Q E
def ZoH (C:Addr) (m:Str) (sp:Sp) (dvs:List V) (E:XK) (ta:TE) (t:TA):TE:=λσ H Q=>ta σ H λx H1=>∃ a dx fs,x=.ref a/\H1 a=some (.ins C dx fs)/\fs.lookup m=none /\
 t σ H1 λvs H2=>sp (x::(vs++dvs)) H2 Q E
def ZoI (C:Addr) (sp:Sp) (dvs:List V) (E:XK) (t:TA):TE:=λσ H Q=>t σ H λvs H1=>∀ x dx,H1 x=none->H1 dx=none->dx≠x ->
 sp (.ref x::(vs++dvs)) (upd (upd H1 dx (.own x)) x (.ins C dx [])) (λv H2=>v=.non/\Q (.ref x) H2) E
def Binds (K:PySem.W.Frag) (fd:FuncData) (ps:List Str) (ds:List Value):Prop:=
 ∀ (s:Shared) (us:List Value),K.In s.heap->(us++ds).length=ps.length->BindsTo s fd ⟨us,[]⟩ (ps.zip (us++ds))
theorem Binds.all {K:PySem.W.Frag} {fd:FuncData} {ps:List Str} (h:∀ us:List Value,us.length=ps.length->bindArgs fd ⟨us,[]⟩=pure (ps.zip us)):Binds K fd ps []:=λs us _ hl=>by
 rw [List.append_nil] at hl ⊢
 exact .of_eq (h us hl)
def Zek (CX:CXT) (X:Cx) (E:XK):Prop:=∀ (pins:List (Addr×Obj)) (σ:St) (H:Hp) (s:Shared) (e:Value) (s':Shared),Inv X pins σ H s->CX X.stack H s E e s'->X.xe e s'
section
variable {X:Cx} {CX:CXT} {k:Nat} {f C:Addr} {fd:FuncData} {ps:List Str} {sp:Sp} {dvs:List V} {ds:List Value} {E:XK} {x m:Str} {p pos apos:Pos} {e o:Expr} {es:List Expr} {ta:TE} {t:TA}
theorem Zls {pins:List (Addr×Obj)} {σ:St} {H:Hp} {s:Shared} {Q:VK} {us:List Value} {vs:List V} (F:ZaO X.prog X.w X.K X.mg X.base CX k f fd ps sp) (hr:Room k X.A) (hb:Binds X.K fd ps ds) (hd:Vals dvs ds) (hx:Zek CX X E)
  (I:Inv X pins σ H s) (r:Vals vs us) (h:sp (vs++dvs) H Q E):wpAny (model X.prog X.w) X.A (call (.ref f) us) (EP X pins σ Q) X.xe s:=by
 have r2:Vals (vs++dvs) (us++ds):=r.append hd
 have hl:(us++ds).length=ps.length:=by rw [<-r2.length];exact F.len _ _ _ _ h
 refine wpAny_call (codeAny_mono (F.run X.A X.stack s H ⟨us,[]⟩ (us++ds) (vs++dvs) Q E hr I.env0 (hb s us I.kIn hl) r2 h) λr s' hq=>?_)
 cases r with
 | error e=>exact hx pins σ H s e s' I hq
 | ok fl=>
  cases fl with
  | ret u=>exact I.after hq
  | next=>exact False.elim hq
  | brk=>exact False.elim hq
  | cont=>exact False.elim hq
theorem Zan (F:ZaO X.prog X.w X.K X.mg X.base CX k f fd ps sp) (hr:Room k X.A) (hg:Gl X x) (hm:X.mg x=some (.ref f)) (hk:PySem.W.keepIn X.K (.ref f)=true) (hb:Binds X.K fd ps ds) (hd:Vals dvs ds) (hx:Zek CX X E)
  (ha:PA X (e::es) t) (hdb:(x == ("__debug__" : Str))=false:=by decide) (he:starEach (e::es) X.env=(false,eval e X.env)::starEach es X.env:=by rfl) (hpl:(backTo pos (starEach es X.env)).any (·.1)=false:=by rfl) :
  PE X (.Call (.Name x p) (e::es) [] pos) (Zm7 sp dvs E t):=by
 intro pins s σ H Q I h
 refine wpAny_Call_Name_kw (Zc4 I hg hm ?_ hdb)
 refine PySem.W.callWith_K (h₀:=X.base) I.ok.mod.kin hk (thn (ha pos pins s σ H _ I h) λus s1 ⟨vs,H1,I1,r,q⟩=>⟨I1.kIn,?_⟩) he hpl
 exact Zls F hr hb hd hx I1 r q
structure Mk (K:PySem.W.Frag) (C f:Addr):Prop where
 makes:PySem.W.makesIn K C=true
 init:PySem.W.findIn K (.ref C) "__init__" = some (some (.ref f))
 fn:PySem.W.isFn K (.ref f)=true
 kp:PySem.W.keepIn K (.ref C)=true
end
def PK (X:Cx) (kws:List Keyword) (t:TA):Prop:=
 ∀ (pos:Pos) (pins:List (Addr×Obj)) (s:Shared) (σ:St) (H:Hp) (Q:List V->Hp->Prop),Inv X pins σ H s->t σ H Q->wpAny (model X.prog X.w) X.A (evalAll ((backToKw pos (keywordEach kws X.env)).map (·.2))) (AP X pins σ Q) X.xe s
section
variable {X:Cx} {CX:CXT} {k:Nat} {f C:Addr} {fd:FuncData} {ps ks:List Str} {sp:Sp} {E:XK} {x m:Str} {p pos apos kpos:Pos} {e o:Expr} {es:List Expr} {kws:List Keyword} {te ta:TE} {t tk:TA} {nm:Option Str}
structure ZnV (K:PySem.W.Frag) (fd:FuncData) (ps ks:List Str) (g:List Value->List Value->List Value) (gV:List V->List V->List V):Prop where
 to:∀ (s:Shared) (us ws:List Value),K.In s.heap->(g us ws).length=ps.length->BindsTo s fd ⟨us,ks.zip ws⟩ (ps.zip (g us ws))
 rel:∀ {vs:List V} {us:List Value} {zs:List V} {ws:List Value},Vals vs us->Vals zs ws->Vals (gV vs zs) (g us ws)
def ZnW (sp:Sp) (gV:List V->List V->List V) (E:XK) (t tk:TA):TE:=λσ H Q=>t σ H λvs H1=>tk σ H1 λzs H2=>sp (gV vs zs) H2 Q E
variable {g:List Value->List Value->List Value} {gV:List V->List V->List V}
end
structure Zav (N P:List Str) (sc:Scope):Prop where
 kind:sc.kind=.function
 co:sc.isCoroutine=false
 gen:sc.isGenerator=false
 nd:N.Nodup
 pre:N.take P.length=P
 par:∀ x∈P,sc.names.lookup x=some .local\/sc.names.lookup x=some .cell
 nofree:∀ y∈sc.names,y.2≠.free
theorem Zel {kindOf:Str->Option NameKind} {x:Str}:∀ {binds:List (Str×Value)} {m:Str->Option Value},(∀ v,(x,v) ∉ binds)->bindL kindOf binds m x=m x
 | [],_,_=>rfl
 | (n,v)::r,m,h=>by
  unfold bindL
  rw [Zel λw hw=>h w (List.mem_cons_of_mem _ hw)]
  split
  ·have:x≠n:=by rintro rfl;exact h v List.mem_cons_self
   simp [this]
  ·rfl
theorem Zem {kindOf:Str->Option NameKind} {x:Str}:∀ {binds:List (Str×Value)} {m:Str->Option Value},(∀ v,(x,v) ∉ binds)->bindC kindOf binds m x=m x
 | [],_,_=>rfl
 | (n,v)::r,m,h=>by
  unfold bindC
  rw [Zem λw hw=>h w (List.mem_cons_of_mem _ hw)]
  split
  ·rfl
  ·have:x≠n:=by rintro rfl;exact h v List.mem_cons_self
   simp [this]
theorem Zen {kindOf:Str->Option NameKind} {x:Str} {v:Value}:∀ {P:List Str} {vs:List Value} {i:Nat} {m:Str->Option Value},P.Nodup->P[i]?=some x->vs[i]?=some v->kindOf x=some .local ->
  bindL kindOf (P.zip vs) m x=some v
 | [],_,_,_,_,h,_,_=>by simp at h
 | _::_,[],_,_,_,_,h,_=>by simp at h
 | p::P,w::vs,0,m,nd,h1,h2,hk=>by
  simp at h1 h2;subst h1;subst h2
  show bindL kindOf ((p,w)::P.zip vs) m p=_
  unfold bindL
  rw [Zel λv hv=>(List.nodup_cons.mp nd).1 (List.of_mem_zip hv).1,if_pos hk]
  simp
 | p::P,w::vs,i+1,m,nd,h1,h2,hk=>by
  show bindL kindOf ((p,w)::P.zip vs) m x=_
  unfold bindL
  exact Zen (i:=i) (List.nodup_cons.mp nd).2 (by simpa using h1) (by simpa using h2) hk
theorem Zeo {kindOf:Str->Option NameKind} {x:Str} {v:Value}:∀ {P:List Str} {vs:List Value} {i:Nat} {m:Str->Option Value},P.Nodup->P[i]?=some x->vs[i]?=some v->kindOf x≠some .local ->
  bindC kindOf (P.zip vs) m x=some v
 | [],_,_,_,_,h,_,_=>by simp at h
 | _::_,[],_,_,_,_,h,_=>by simp at h
 | p::P,w::vs,0,m,nd,h1,h2,hk=>by
  simp at h1 h2;subst h1;subst h2
  show bindC kindOf ((p,w)::P.zip vs) m p=_
  unfold bindC
  rw [Zem λv hv=>(List.nodup_cons.mp nd).1 (List.of_mem_zip hv).1,if_neg hk]
  simp
 | p::P,w::vs,i+1,m,nd,h1,h2,hk=>by
  show bindC kindOf ((p,w)::P.zip vs) m x=_
  unfold bindC
  exact Zeo (i:=i) (List.nodup_cons.mp nd).2 (by simpa using h1) (by simpa using h2) hk
def start (N:List Str) (vs:List V):St:=vs.map some++List.replicate (N.length-vs.length) none
def ZgN (CX:CXT) (P:Program) (w:World) (K:PySem.W.Frag) (mg:Str->Option Value) (base:Heap) (N:List Str) (qual:Str) (scope:Scope) (f:Addr) (cd:Value) (A:Around) (outer:List Env) (s:Shared) (H:Hp) (E:XK):Cx where
 prog:=P
 w:=w
 K:=K
 mg:=mg
 base:=base
 A:=A.deeper (envOfC qual scope s.heap.objs.size f cd)
 N:=N
 s₀:=s
 H₀:=H
 env:=envOfC qual scope s.heap.objs.size f cd
 outer:=outer
 stack:=envOfC qual scope s.heap.objs.size f cd::outer
 ex:=[]
 calm:=true
 fn:=λ_=>true
 pn:=[]
 xe:=λe s'=>wpAny (model P w) (A.deeper (envOfC qual scope s.heap.objs.size f cd)) (leaving (envOfC qual scope s.heap.objs.size f cd) e) (λ_ s''=>CX outer H s E e s'') (λe' s''=>CX outer H s E e' s'') s'
theorem Zfx {sc:Scope} {n:Nat} {x:Str} (h:sc.names.lookup x=some .cell):∃ c,(cellsFrom n sc.names []).lookup x=some c:=by
 have q:=PySem.W.cellsFrom_some sc.names n [] (.inl h)
 exact Option.isSome_iff_exists.mp q
theorem ZgO {CX:CXT} {P:Program} {w:World} {K:PySem.W.Frag} {mg:Str->Option Value} {base:Heap} {N ps:List Str} {qual:Str} {scope:Scope} {f:Addr} {cd:Value} {A:Around} {outer:List Env} {s s1:Shared} {H:Hp} {E:XK} {us:List Value} {vs:List V}
  (S:Zav N ps scope) (hd:A.handled=none) (e0:ZmN P w K mg base A outer s H) (hl:vs.length=ps.length) (r:Vals vs us)
  (x:InCallC s s.heap.objs.size (bindL (envOfC qual scope s.heap.objs.size f cd).kindOf (ps.zip us) λ_=>none) (cellsFrom (s.heap.objs.size+1) scope.names []) (bindC (envOfC qual scope s.heap.objs.size f cd).kindOf (ps.zip us) λ_=>none) s1) :
  Inv (ZgN CX P w K mg base N qual scope f cd A outer s H E) [] (start N vs) H s1:=by
 have hpl:ps.length<=N.length:=by have:=congrArg List.length S.pre;rw [List.length_take] at this;omega
 obtain ⟨h1,tk,rfl,hk⟩:=x.done
 have noA:∀ b:Addr,b ∉ (ZgN CX P w K mg base N qual scope f cd A outer s H E).ex:=λb z=>absurd (show b∈([]:List Addr) from z) (by simp)
 refine ⟨⟨e0.mod,S.kind,rfl,rfl,Nat.le_refl _,λy z c h1 h2=>?_,λy hy=>?_,λy c _ h=>?_,λ_=>hd,Around.frames_deeper e0.frames,.inr ⟨rfl,rfl⟩,λb z=>absurd z (noA b),e0.bs,e0.bsz,λb _ _=>noA b,λb z=>absurd z (noA b),e0.funs,e0.frf⟩,
  rfl,e0.bare,Un.kept hk,⟨_,x.toInCall.ns,λi y v h1 h2 h3=>?_⟩,λy c h=>⟨_,x.cell y c h⟩,e0.hok.fresh (Nat.le_refl _),λy c h=>?_,λp hp=>absurd (show p∈([]:List (Addr×Obj)) from hp) (by simp),e0.hok.kept hk,?_⟩
 ·exact name_of_addr x.apart (PySem.mem_of_lookup h1) (PySem.mem_of_lookup h2)
 ·have hy:scope.names.lookup y=some .cell\/scope.names.lookup y=some .free:=hy
  rcases hy with hy | hy
  ·exact Zfx hy
  ·exact absurd rfl (S.nofree _ (PySem.mem_of_lookup hy))
 ·exact Nat.le_of_lt (x.above y c (PySem.mem_of_lookup h))
 ·have hi:i<vs.length:=by
   unfold start at h2
   by_cases hi:i<vs.length
   ·exact hi
   ·rw [List.getElem?_append_right (by simpa using hi)] at h2
    rw [List.getElem?_replicate] at h2
    split at h2 <;> cases h2
  have ha:vs[i]?=some v:=by
   unfold start at h2
   rw [List.getElem?_append_left (by simpa using hi),List.getElem?_map] at h2
   cases e:vs[i]? with
   | none=>rw [e] at h2;cases h2
   | some a=>rw [e] at h2;cases h2;rfl
  obtain ⟨u,hu,rv⟩:=r.get ha
  have hp:ps[i]?=some y:=by
   rw [<-S.pre,List.getElem?_take_of_lt (by omega)];exact h1
  have ndP:ps.Nodup:=by rw [<-S.pre];exact S.nd.sublist (List.take_sublist _ _)
  refine ⟨u,rv,?_⟩
  rcases S.par y (List.mem_of_getElem? hp) with k | k
  ·exact .inl ⟨k,Zen ndP hp hu k⟩
  ·obtain ⟨c,e⟩:=Zfx (n:=s.heap.objs.size+1) k
   refine .inr ⟨.inl k,c,e,?_⟩
   have q:=x.cell y c e
   rw [Zeo ndP hp hu (by show scope.names.lookup y≠_;rw [k];decide)] at q
   exact q
 ·exact e0.hok.fresh (Nat.le_of_lt (x.above y c (PySem.mem_of_lookup h)))
 ·unfold start
  show _=N.length
  rw [List.length_append,List.length_map,List.length_replicate]
  omega
theorem ZjO {CX:CXT} {P:Program} {w:World} {K:PySem.W.Frag} {mg:Str->Option Value} {base:Heap} {k:Nat} {f:Addr} {name qual:Str} {params:Arguments} {body:List Stmt} {scope:Scope} {dV kV doc pm cdv ct oc:Value} {an od:Option Addr}
  {osl:Array (Option Value)} {N ps:List Str} {sp:Sp} (lk:K.lookup f=some ⟨oc,od,.func (PySem.W.fnOf name qual params body scope dV kV doc pm an cdv ct),osl⟩) (hcd:PySem.W.codeIn K cdv qual=true) (S:Zav N ps scope)
  (len:∀ vs H Q E,sp vs H Q E->vs.length=ps.length)
  (hbody:∀ (A:Around) (outer:List Env) (s:Shared) (H:Hp) (vs:List V) (Q:VK) (E:XK),Room k (A.deeper (envOfC qual scope s.heap.objs.size f cdv))->sp vs H Q E ->
   ∃ t,PSs (ZgN CX P w K mg base N qual scope f cdv A outer s H E) body t/\t { nx:=λ_ H'=>Q .non H',rt:=Q } (start N vs) H) :
  ZaO P w K mg base CX (k+1) f (PySem.W.fnOf name qual params body scope dV kV doc pm an cdv ct) ps sp:=by
 refine ⟨len,λA outer s H args us vs Q E hr e0 hb r hsp=>?_⟩
 have hl:=len _ _ _ _ hsp
 have KX:K.In s.heap:=e0.mod.kin.keeps λb o e=>(e0.bs b o e).1
 have lim:s.heap.NoLimit:=e0.mod.nolimit.keeps λb o e=>(e0.bs b o e).1
 have hkind:∀ y∈ps.zip us,scope.names.lookup y.1=some .local\/(scope.names.lookup y.1=some .cell/\((cellsFrom (s.heap.objs.size+1) scope.names []).lookup y.1).isSome=true):=λ⟨n,v⟩ hy=>by
  rcases S.par n (List.of_mem_zip hy).1 with q | q
  ·exact .inl q
  ·exact .inr ⟨q,PySem.W.cellsFrom_some _ _ _ (.inl q)⟩
 refine codeAny_call_function hr.depth (KX _ _ lk) rfl S.co S.gen rfl (PySem.W.codeRec_of KX hcd) (hb _ _ _ _ ?_)
 refine wpAny_newFunctionEnv_cells S.kind hkind λenv he s1 x=>?_
 subst he
 refine ⟨lim.keeps x.toInCall.keep,codeAny_func ?_⟩
 obtain ⟨t,ht,hq⟩:=hbody A outer s H vs Q E (hr.deeper _) hsp
 have I:Inv (ZgN CX P w K mg base N qual scope f cdv A outer s H E) [] (start N vs) H s1:=ZgO S hr.hd e0 hl r x
 refine wpAny_mono (ht [] s1 (start N vs) H _ I hq) (λfl s' hs=>?_) λe s' hs=>hs
 have fin:∀ {σ':St} {H':Hp} {v:V} {u:Value},Inv (ZgN CX P w K mg base N qual scope f cdv A outer s H E) [] σ' H' s'->RelV v u->Q v H'->CE outer P w H s Q u s':=
  λ{σ' H' v u} J rv q=>⟨v,H',J.os,J.bare,J.base,J.hok,rv,q⟩
 cases fl with
 | ret u=>
  obtain ⟨v,σ',H',J,rv,q⟩:=hs
  exact fin J rv q
 | next=>
  obtain ⟨σ',H',J,q⟩:=hs
  exact fin (v:=V.non) (u:=Value.none) J rfl q
 | brk=>
  obtain ⟨_,_,_,q⟩:=hs
  exact False.elim q
 | cont=>
  obtain ⟨_,_,_,q⟩:=hs
  exact False.elim q
end L2
namespace L2
open PySem PySem.Spec PyProof.Rows
section
variable {X:Cx} {x:Str} {p pos:Pos} {e:Expr} {es:List Expr} {t:TA} {id T:String} {r:List V->Hp->VK->Prop}
def tCB (r:List V->Hp->VK->Prop) (t:TA):TE:=λσ H Q=>t σ H λvs H1=>r vs H1 Q
theorem Zat (hc:ZbB X (.builtin id) r) (hg:Gl X x) (hm:X.mg x=none) (hv:bootBuiltins x=some (.builtin id)) (ha:PA X (e::es) t) (hn:x ≠ "__name__" := by decide) (hdb:(x == ("__debug__" : Str))=false:=by decide)
  (he:starEach (e::es) X.env=(false,eval e X.env)::starEach es X.env:=by rfl) (hpl:(backTo pos (starEach es X.env)).any (·.1)=false:=by rfl):PE X (.Call (.Name x p) (e::es) [] pos) (tCB r t):=by
 intro pins s σ H Q I h
 refine wpAny_Call_Name_kw (Zcd I hg hm hv ?_ hn hdb)
 exact PyProof.Rows.callWith_builtin1 (thn (ha pos pins s σ H _ I h) λus s1 ⟨vs,H1,I1,r1,q1⟩=>hc pins s1 σ H1 vs us Q I1 r1 q1) he hpl
theorem Za4 (hc:ZbB X (.type T) r) (hg:Gl X x) (hm:X.mg x=none) (hv:bootBuiltins x=some (.type T)) (ha:PA X (e::es) t) (hn:x ≠ "__name__" := by decide) (hdb:(x == ("__debug__" : Str))=false:=by decide)
  (he:starEach (e::es) X.env=(false,eval e X.env)::starEach es X.env:=by rfl) (hpl:(backTo pos (starEach es X.env)).any (·.1)=false:=by rfl):PE X (.Call (.Name x p) (e::es) [] pos) (tCB r t):=by
 intro pins s σ H Q I h
 refine wpAny_Call_Name_kw (Zcd I hg hm hv ?_ hn hdb)
 exact PyProof.Rows.callWith_type1 (thn (ha pos pins s σ H _ I h) λus s1 ⟨vs,H1,I1,r1,q1⟩=>hc pins s1 σ H1 vs us Q I1 r1 q1) he hpl
end
end L2
namespace HT
open PySem PyProof.Rows
def lexLt:List Int->List Int->Bool
 | [],[]=>false
 | [],_::_=>true
 | _::_,[]=>false
 | x::xs,y::ys=>if x=y then lexLt xs ys else decide (x<y)
section
open PySem.SeqAt
open PySem.AutoSeq1 (wpAny_loadPart')
open PySem.MeetsSeq PySem.MeetsSeq2 PySem.MeetsSeq3
end
section
variable {prog:Program} {w:World} {A:Around} {E:Value->Shared->Prop} {s:Shared}
def sIx (n d:Nat):Option Int->Nat
 | none=>d
 | some v=>if v<0 then (v+(n:Int)).toNat else min v.toNat n
theorem sIx_none (n d:Nat):sIx n d none=d:=rfl
theorem sIx_nat (n d k:Nat):sIx n d (some (k:Int))=min k n:=by
 show (if (k:Int)<0 then ((k:Int)+(n:Int)).toNat else min (k:Int).toNat n)=min k n
 rw [if_neg (by omega),Int.toNat_natCast]
end
end HT
namespace L2
open PySem PySem.Spec PyProof.Rows
abbrev TO:=St->Hp->(Option Int->Hp->Prop)->Prop
def PO (X:Cx) (e:Option Expr) (t:TO):Prop:=
 ∀ (pins:List (Addr×Obj)) (s:Shared) (σ:St) (H:Hp) (Q:Option Int->Hp->Prop),Inv X pins σ H s->t σ H Q ->
  wpAny (model X.prog X.w) X.A (evalPart e X.env) (λu s'=>∃ o H',Inv X pins σ H' s'/\IsPart u o/\Q o H') X.xe s
def ZjP:TO:=λ_ H Q=>Q none H
def Zm8 (t:TE):TO:=λσ H Q=>t σ H λx H1=>∃ i,x=.int i/\Q (some i) H1
theorem ZbQ {ns:List Int}:∀ {us:List Value},Vals (ns.map V.int) us->IntsAre us ns:=by
 induction ns with
 | nil=>intro us r;rw [List.map_nil] at r;cases r;exact .nil
 | cons n ns ih=>
  intro us r
  rw [List.map_cons] at r
  cases r with
  | cons r1 r2=>
   obtain ⟨t,e⟩:=r1
   subst e
   exact .cons n t (ih r2)
section
variable {X:Cx} {e:Expr} {te:TE} {lo hi:Option Expr} {tl th:TO} {pos p2:Pos}
theorem ZdL:PO X none ZjP:=by
 intro pins s σ H Q I h
 rw [evalPart_none]
 exact wpAny_pure ⟨none,H,I,.none,h⟩
theorem ZdM (h:PE X e te):PO X (some e) (Zm8 te):=by
 intro pins s σ H Q I hw
 rw [evalPart_some]
 refine thn (h pins s σ H _ I hw) λu s1 ⟨x,H1,I1,r1,q1⟩=>?_
 obtain ⟨i,rfl,q⟩:=q1
 obtain ⟨t,rfl⟩:=r1
 exact ⟨some i,H1,I1,.int i t,q⟩
def SlR (X:Cx) (r:V->Option Int->Option Int->Hp->VK->Prop):Prop:=
 ∀ (pins:List (Addr×Obj)) (s:Shared) (σ:St) (H:Hp) (x:V) (v vl vu:Value) (lo hi:Option Int) (sl:Addr) (Q:VK),Inv X pins σ H s->RelV x v->s.heap.IsSliceOf sl vl vu .none->IsPart vl lo->IsPart vu hi->r x lo hi H Q ->
  ∃ T id,typeLookup (.type T) "__getitem__" = pure (some (.builtin id))/\s.TypeIs v T/\wpAny (model X.prog X.w) X.A (getItem v (.ref sl)) (EP X pins σ Q) X.xe s
def tSl (r:V->Option Int->Option Int->Hp->VK->Prop) (te:TE) (tl th:TO):TE:=λσ H Q=>te σ H λx H1=>tl σ H1 λl H2=>th σ H2 λu H3=>r x l u H3 Q
theorem ZcX {r:V->Option Int->Option Int->Hp->VK->Prop} (hr:SlR X r) (he:PE X e te) (hl:PO X lo tl) (hu:PO X hi th):PE X (.Subscript e (.Slice lo hi none p2) pos) (tSl r te tl th):=by
 intro pins s σ H Q I h
 refine Subscript_ (thn (he pins s σ H _ I h) λv s1 ⟨x,H1,I1,r1,q1⟩=>?_)
 refine wpAny_Slice (thn (hl pins s1 σ H1 _ I1 q1) λvl s2 ⟨l,H2,I2,pl,q2⟩=>thn (hu pins s2 σ H2 _ I2 q2) λvu s3 ⟨u,H3,I3,pu,q3⟩=>?_)
 rw [evalPart_none]
 refine wpAny_pure ?_
 have I4:Inv X pins σ H3 { s3 with heap:=s3.heap.push { cls:=.type "slice", data:=.fields #[vl,vu,.none] } }:=I3.kept (t':=s3.toks) λb ob q=>Heap.get?_push_of_some _ q
 obtain ⟨T,id,hT,ht,hg⟩:=hr pins { s3 with heap:=s3.heap.push { cls:=.type "slice", data:=.fields #[vl,vu,.none] } } σ H3 x v vl vu l u s3.heap.objs.size Q I4 r1 (Heap.IsSliceOf.new ..) pl pu q3
 show wpAny (model X.prog X.w) X.A (subscriptTail e (.Slice lo hi none p2) v (.ref s3.heap.objs.size)) (EP X pins σ Q) X.xe { s3 with heap:=s3.heap.push { cls:=.type "slice", data:=.fields #[vl,vu,.none] } }
 exact tail_any (ops:=[.ref s3.heap.objs.size,v]) ht hT hg (by with_unfolding_all rfl)
def Zed (xs:List V) (lo hi:Option Int):List V:=(xs.drop (HT.sIx xs.length 0 lo)).take (HT.sIx xs.length xs.length hi-HT.sIx xs.length 0 lo)
theorem Zc7 (xs:List V) (lo hi:Option Int):(Zed xs lo hi).length<=xs.length:=by
 unfold Zed
 rw [List.length_take,List.length_drop]
 omega
def ZpA (K:PySem.W.Frag):V->Option Int->Option Int->Hp->VK->Prop:=λx lo hi H Q=>∃ a xs,x=.ref a/\SqT K H a xs /\
 ¬ (HT.sIx xs.length 0 lo=0/\HT.sIx xs.length xs.length hi=xs.length)/\∀ p,H p=none->Q (.ref p) (upd H p (.tup (Zed xs lo hi)))
def ZpB (K:PySem.W.Frag):R2:=λx y H Q=>∃ a b ns ms,x=.ref a/\y=.ref b/\SqT K H a (ns.map V.int)/\SqT K H b (ms.map V.int)/\Q (.bl (HT.lexLt ns ms)) H
def ZoJ (K:PySem.W.Frag):R2:=λx y H Q=>∃ a b xs ys,x=.ref a/\y=.ref b/\SqT K H a xs/\SqT K H b ys/\xs≠[]/\xs.length+ys.length<=sizeLine /\
 (ys=[]->Q (.ref a) H)/\(ys≠[]->∀ p,H p=none->Q (.ref p) (upd H p (.tup (xs++ys))))
end
end L2
namespace L2
open PySem PySem.Spec PyProof.Rows
def ixN (n:Nat) (i:Int):Option Nat:=if 0<=i then (if i<n then some i.toNat else none) else if -(n:Int)<=i then some (i+n).toNat else none
def atI {α:Type} (xs:List α) (i:Int):Option α:=(ixN xs.length i).bind λj=>xs[j]?
theorem ZeX {n:Nat} {i:Int} {j:Nat} (h:ixN n i=some j):seqIndex? i n=some j/\j<n/\-(n:Int)<=i/\i<n:=by
 unfold ixN at h
 by_cases h0:0<=i
 ·rw [if_pos h0] at h
  by_cases h1:i<n
  ·rw [if_pos h1] at h
   have e:i.toNat=j:=Option.some.inj h
   exact ⟨by rw [seqIndex_of h0 h1,e],by omega,by omega,h1⟩
  ·rw [if_neg h1] at h;cases h
 ·rw [if_neg h0] at h
  by_cases h1:-(n:Int)<=i
  ·rw [if_pos h1] at h
   have e:(i+n).toNat=j:=Option.some.inj h
   exact ⟨by rw [seqIndex_neg (by omega) h1,e],by omega,h1,by omega⟩
  ·rw [if_neg h1] at h;cases h
theorem ZgP {α:Type} {xs:List α} {i:Int} {v:α} (h:atI xs i=some v):∃ j,seqIndex? i xs.length=some j/\xs[j]?=some v/\j<xs.length/\-(xs.length:Int)<=i/\i<xs.length:=by
 unfold atI at h
 cases e:ixN xs.length i with
 | none=>rw [e] at h;cases h
 | some j=>
  rw [e] at h
  obtain ⟨h1,h2,h3,h4⟩:=ZeX e
  exact ⟨j,h1,h,h2,h3,h4⟩
theorem Zal {α:Type} {xs:List α} {j:Nat} {v:α} (h:xs[j]?=some v):atI xs (j:Int)=some v:=by
 have hj:j<xs.length:=(List.getElem?_eq_some_iff.mp h).1
 have e:ixN xs.length (j:Int)=some j:=by
  unfold ixN
  rw [if_pos (by omega),if_pos (by omega)];simp
 unfold atI;rw [e];exact h
def ZjQ (b:Expr):Prop:=∀ o i,subscripted b false o i=operate [o,i] (getItem o i)
def IxR (X:Cx) (r:R2):Prop:=
 ∀ (value slice:Expr) (pins:List (Addr×Obj)) (s:Shared) (σ:St) (H:Hp) (x y:V) (v u:Value) (Q:VK),Inv X pins σ H s->RelV x v->RelV y u->r x y H Q ->
  subscripted slice false v u=operate [v,u] (getItem v u)->wpAny (model X.prog X.w) X.A (subscriptTail value slice v u) (EP X pins σ Q) X.xe s
def MtR (X:Cx) (id:String) (r:V->List V->Hp->VK->Prop):Prop:=
 ∀ (pins:List (Addr×Obj)) (s:Shared) (σ:St) (H:Hp) (x:V) (xs:List V) (v:Value) (us:List Value) (Q:VK),Inv X pins σ H s->RelV x v->Vals xs us->r x xs H Q ->
  wpAny (model X.prog X.w) X.A (call (.builtin id) (v::us)) (EP X pins σ Q) X.xe s
section
variable {X:Cx} {a b:Expr} {ta tb:TE} {pos:Pos}
theorem Zaw {r:R2} (hr:IxR X r) (ha:PE X a ta) (hb:PE X b tb) (hs:ZjQ b):PE X (.Subscript a b pos) (tOp r ta tb):=by
 intro pins s σ H Q I h
 exact Subscript_ (Zm0 ha hb I h λv u s2 x y H2 I2 rx ry q=>hr a b pins s2 σ H2 x y v u Q I2 rx ry q (hs _ _))
def Zm9 (K:PySem.W.Frag):R2:=λx y H Q=>∃ p xs i v,x=.ref p/\y=.int i/\SqL K H p xs/\atI xs i=some v/\Q v H
def Zna (K:PySem.W.Frag):R2:=λx y H Q=>∃ p xs i v,x=.ref p/\y=.int i/\SqT K H p xs/\atI xs i=some v/\Q v H
def ZoK:R2:=λx y H Q=>∃ z i c,x=.str z/\y=.int i/\z.length<=sizeLine/\atI z.cps.toList i=some c/\Q (.str ⟨#[c]⟩) H
theorem ZeY:IxR X (Zm9 X.K):=by
 intro value slice pins s σ H x y v u Q I rx ry h hs
 obtain ⟨p,xs,i,z,rfl,rfl,hq,he,q⟩:=h
 cases rx
 obtain ⟨t,rfl⟩:=ry
 obtain ⟨its,r,pl,hz⟩:=I.list hq
 obtain ⟨j,h1,h2,h3,h4,h5⟩:=ZgP he
 obtain ⟨w,ew,rw'⟩:=r.get h2
 have hl:=r.length
 have hn:=Zej
 have fin:EP X pins σ Q w s:=⟨z,H,I,rw',q⟩
 by_cases h0:0<=i
 ·have hj:i.toNat=j:=by
   rw [seqIndex_of h0 h5] at h1
   exact Option.some.inj h1
  exact item_listR pl.isList h0 (by omega) (by rw [hj];simpa using ew) fin hs
 ·have hj:(i+(its.toArray.size:Int)).toNat=j:=by
   rw [seqIndex_neg (by omega) h4] at h1
   rw [List.size_toArray,<-hl]
   exact Option.some.inj h1
  exact subscriptTail_builtinR (x:=w) pl.isList.typeIs slot_list_getitem.lookup
   (wpAny_getItem_list_neg (Q:=λr s'=>r=w/\EP X pins σ Q r s') pl.isList (by omega) (by rw [List.size_toArray] <;> omega) (by omega) (by rw [hj];simpa using ew) ⟨rfl,fin⟩) hs
theorem Zlt:IxR X (Zna X.K):=by
 intro value slice pins s σ H x y v u Q I rx ry h hs
 obtain ⟨p,xs,i,z,rfl,rfl,hq,he,q⟩:=h
 cases rx
 obtain ⟨t,rfl⟩:=ry
 obtain ⟨its,r,pl,hz⟩:=I.tuple hq
 obtain ⟨j,h1,h2,h3,h4,h5⟩:=ZgP he
 obtain ⟨w,ew,rw'⟩:=r.get h2
 have hl:=r.length
 have hn:=Zej
 have fin:EP X pins σ Q w s:=⟨z,H,I,rw',q⟩
 exact subscriptTail_builtinR (x:=w) pl.typeIs slot_tuple_getitem.lookup
  (getItem_tuple (j:=j) (Q:=λr s'=>r=w/\EP X pins σ Q r s') pl (by omega) (by omega) (by rw [List.size_toArray,<-hl];exact h1) (by simpa using ew) ⟨rfl,fin⟩) hs
def rIx (K:PySem.W.Frag):R2:=λx y H Q=>Zm9 K x y H Q\/Zna K x y H Q\/ZoK x y H Q
theorem Zga (its:List Value) (n j:Nat) (u:Value):Obj.mapSeq (·.setIfInBounds j u) { cls:=.type "list", data:=.seq its.toArray n }={ cls:=.type "list", data:=.seq (its.set j u).toArray n }:=by
 simp [Obj.mapSeq]
theorem Inv.lst {pins:List (Addr×Obj)} {σ:St} {H:Hp} {s:Shared} {p:Addr} {xs:List V} (I:Inv X pins σ H s) (h:H p=some (.lst xs)) :
  ∃ (its:List Value) (n:Nat),Vals xs its/\s.heap.get? p=some { cls:=.type "list", data:=.seq its.toArray n }/\xs.length<=sizeLine:=by
 obtain ⟨z,its,n,r,e⟩:=I.hok p _ h
 exact ⟨its,n,r,e,z⟩
theorem Inv.lstUpd {pins:List (Addr×Obj)} {σ:St} {H:Hp} {s:Shared} {p:Addr} {xs ys:List V} {its its':List Value} {n n':Nat} {f:Obj->Obj} (I:Inv X pins σ H s) (h:H p=some (.lst xs))
  (ho:s.heap.get? p=some { cls:=.type "list", data:=.seq its.toArray n }) (hf:f { cls:=.type "list", data:=.seq its.toArray n }={ cls:=.type "list", data:=.seq its'.toArray n' }) (r:Vals ys its') (hz:ys.length<=sizeLine) (t:Nat) :
  Inv X pins σ (upd H p (.lst ys)) { s with heap:=s.heap.update p f,toks:=t }:=by
 have e:(s.heap.update p f).get? p=some { cls:=.type "list", data:=.seq its'.toArray n' }:=by
  rw [Heap.get?_update_self f ho (by rw [hf] <;> rfl),hf]
 refine I.write (x:=p) (e:=p) (by rw [h];trivial) (.inl rfl) (λb u hb q=>(Heap.get?_update_other _ _ (Ne.symm hb)).trans q) ⟨_,e⟩ ?_
 exact ⟨hz,its',n',r,e⟩
def Znb:V->V->V->Hp->(Hp->Prop)->Prop:=λo i v H Q=>∃ p xs k j,o=.ref p/\i=.int k/\H p=some (.lst xs)/\ixN xs.length k=some j/\Q (upd H p (.lst (xs.set j v)))
theorem Zh8:ZnQ X Znb:=by
 intro pins s σ H o i v ov iv u Q I ro ri rv h
 obtain ⟨p,xs,k,j,rfl,rfl,hp,hj,q⟩:=h
 cases ro
 obtain ⟨t,rfl⟩:=ri
 obtain ⟨its,n,r,ho,hz⟩:=I.lst hp
 obtain ⟨h1,h2,h3,h4⟩:=ZeX hj
 have hl:=r.length
 have hn:=Zej
 have I':Inv X pins σ (upd H p (.lst (xs.set j v))) { s with heap:=s.heap.update p (Obj.mapSeq (·.setIfInBounds j u)) }:=
  I.lstUpd hp ho (Zga its n j u) (r.set rv j) (by rw [List.length_set];exact hz) s.toks
 by_cases h0:0<=k
 ·have hk:k.toNat=j:=by
   rw [seqIndex_of h0 h4] at h1
   exact Option.some.inj h1
  exact PySem.W.ki_setAt ho h0 (by omega) (by rw [List.size_toArray,<-hl];exact h4) (by rw [hk];exact ⟨_,I',q⟩)
 ·have hk:(k+(its.toArray.size:Int)).toNat=j:=by
   rw [seqIndex_neg (by omega) h3] at h1
   rw [List.size_toArray,<-hl]
   exact Option.some.inj h1
  exact PySem.W.ki_setBack ho (by omega) (by rw [List.size_toArray,<-hl];exact h3) (by omega) (by rw [hk];exact ⟨_,I',q⟩)
theorem Zep (lo hi:Option Int) (n:Nat):(sliceBounds lo hi none n).1=((HT.sIx n 0 lo:Nat):Int)/\(sliceBounds lo hi none n).2.1=((HT.sIx n n hi:Nat):Int)/\(sliceBounds lo hi none n).2.2=1:=by
 refine ⟨?_,?_,rfl⟩
 ·cases lo with
  | none=>simp [sliceBounds,HT.sIx]
  | some i=>
   simp only [sliceBounds,HT.sIx,Option.getD_none,show (1:Int) > 0 by decide,if_true]
   by_cases h:i<0
   ·simp only [h,if_true] <;> omega
   ·simp only [h,if_false] <;> omega
 ·cases hi with
  | none=>simp [sliceBounds,HT.sIx]
  | some i=>
   simp only [sliceBounds,HT.sIx,Option.getD_none,show (1:Int) > 0 by decide,if_true]
   by_cases h:i<0
   ·simp only [h,if_true] <;> omega
   ·simp only [h,if_false] <;> omega
theorem ZdN (its:List Value) (lo hi:Option Int):slicePick its.toArray lo hi none=((its.drop (HT.sIx its.length 0 lo)).take (HT.sIx its.length its.length hi-HT.sIx its.length 0 lo)).toArray:=by
 obtain ⟨h1,h2,h3⟩:=Zep lo hi its.toArray.size
 unfold slicePick
 rw [h1,h2,h3]
 simp only [sliceRange_one,pick_run,List.size_toArray] <;> rfl
def ZnX (K:PySem.W.Frag):V->Option Int->Option Int->Hp->VK->Prop:=λx lo hi H Q=>∃ a xs,x=.ref a/\SqL K H a xs/\∀ p,H p=none->Q (.ref p) (upd H p (.lst (Zed xs lo hi)))
theorem ZjR:SlR X (ZnX X.K):=by
 intro pins s σ H x v vl vu lo hi sl Q I rx hs pl pu h
 obtain ⟨a,xs,rfl,hx,q⟩:=h
 cases rx
 obtain ⟨its,r,ht,hz⟩:=I.list hx
 have hlen:=r.length
 refine ⟨"list", _,slot_list_getitem.lookup,ht.isList.typeIs,?_⟩
 refine wpAny_getItem_list_slice ht.isList hs pl pu .none (by simp) ?_ (by rw [List.size_toArray] <;> omega)
 rw [ZdN,<-hlen]
 refine ⟨.ref s.heap.objs.size,_,I.laid (t':=s.toks) (o:=.lst (Zed xs lo hi)) (λb ob q=>Heap.get?_push_of_some _ q) (Nat.le_refl _) ?_,rfl,q _ (I.hok.fresh (Nat.le_refl _))⟩
 exact ⟨Nat.le_trans (Zc7 xs lo hi) hz,_,0,(r.drop (HT.sIx xs.length 0 lo)).take (HT.sIx xs.length xs.length hi-HT.sIx xs.length 0 lo),Heap.get?_push_size _ rfl⟩
def ZdO:V->Bool
 | .non=>true
 | .bl _=>true
 | .int _=>true
 | .str _=>true
 | _=>false
def eqV:V->V->Bool
 | .non,.non=>true
 | .bl a,.bl b=>a == b
 | .bl a,.int b=>(if a then 1 else 0) == b
 | .int a,.bl b=>a == (if b then 1 else 0)
 | .int a,.int b=>a == b
 | .str a,.str b=>a == b
 | _,_=>false
theorem Zlu {A:Around} {s:Shared} {y x:V} {u v:Value} (ry:RelV y u) (rx:RelV x v) (fy:ZdO y=true) (fx:ZdO x=true):SeqAt.EqAt A s u v (eqV y x):=by
 cases y with
 | non=>
  cases ry
  cases x with
  | non=>cases rx;exact SeqAt.EqAt.same _
  | bl b=>cases rx;exact SeqAt.EqAt.none_bool b
  | int b=>obtain ⟨t,rfl⟩:=rx;exact SeqAt.EqAt.none_int b t
  | str b=>obtain ⟨t,rfl⟩:=rx;exact SeqAt.EqAt.none_str b t
  | _=>exact absurd (show false=true from fx) Bool.false_ne_true
 | bl a=>
  cases ry
  cases x with
  | non=>cases rx;exact SeqAt.EqAt.bool_none a
  | bl b=>cases rx;exact SeqAt.EqAt.bool_bool a b
  | int b=>obtain ⟨t,rfl⟩:=rx;exact SeqAt.EqAt.bool_int a b t
  | str b=>obtain ⟨t,rfl⟩:=rx;exact SeqAt.EqAt.bool_str a b t
  | _=>exact absurd (show false=true from fx) Bool.false_ne_true
 | int a=>
  obtain ⟨t',rfl⟩:=ry
  cases x with
  | non=>cases rx;exact SeqAt.EqAt.int_none a t'
  | bl b=>cases rx;exact SeqAt.EqAt.int_bool a t' b
  | int b=>obtain ⟨t,rfl⟩:=rx;exact SeqAt.EqAt.int_int a t' b t
  | str b=>obtain ⟨t,rfl⟩:=rx;exact SeqAt.EqAt.int_str a t' b t
  | _=>exact absurd (show false=true from fx) Bool.false_ne_true
 | str a=>
  obtain ⟨t',rfl⟩:=ry
  cases x with
  | non=>cases rx;exact SeqAt.EqAt.str_none a t'
  | bl b=>cases rx;exact SeqAt.EqAt.str_bool a t' b
  | int b=>obtain ⟨t,rfl⟩:=rx;exact SeqAt.EqAt.str_int a t' b t
  | str b=>obtain ⟨t,rfl⟩:=rx;exact SeqAt.EqAt.str_str a t' b t
  | _=>exact absurd (show false=true from fx) Bool.false_ne_true
 | _=>exact absurd (show false=true from fy) Bool.false_ne_true
def eqU (x:V) (u:Value):Bool:=match u with
 | .none=>eqV .non x
 | .bool b=>eqV (.bl b) x
 | .int i _=>eqV (.int i) x
 | .str z _=>eqV (.str z) x
 | _=>false
theorem Zi9 {x y:V} {u:Value} (r:RelV y u) (f:ZdO y=true):eqU x u=eqV y x:=by
 cases y with
 | non=>cases r;rfl
 | bl b=>cases r;rfl
 | int i=>obtain ⟨t,rfl⟩:=r;rfl
 | str z=>obtain ⟨t,rfl⟩:=r;rfl
 | _=>exact absurd (show false=true from f) Bool.false_ne_true
theorem Zc8 {x:V}:∀ {xs:List V} {us:List Value},Vals xs us->xs.all ZdO=true->us.any (eqU x)=xs.any λy=>eqV y x
 | _,_,.nil,_=>rfl
 | y::xs,u::us,.cons r t,f=>by
  rw [List.all_cons,Bool.and_eq_true] at f
  rw [List.any_cons,List.any_cons,Zi9 r f.1,Zc8 t f.2]
theorem Zce {A:Around} {s:Shared} {x:V} {v:Value} (rx:RelV x v) (fx:ZdO x=true):∀ {xs:List V} {us:List Value},Vals xs us->xs.all ZdO=true->∀ u∈us,SeqAt.EqAt A s u v (eqU x u)
 | _,_,.nil,_=>λu hu=>by cases hu
 | y::xs,u::us,.cons r t,f=>λu' hu=>by
  rw [List.all_cons,Bool.and_eq_true] at f
  rcases List.mem_cons.mp hu with rfl | hu
  ·rw [Zi9 r f.1];exact Zlu r rx f.1 fx
  ·exact Zce rx fx t f.2 u' hu
def inV (x:V) (xs:List V):Bool:=xs.any λy=>eqV y x
def rIn (K:PySem.W.Frag) (neg:Bool):R2:=λx y H Q=>∃ p xs,y=.ref p/\(SqL K H p xs\/SqT K H p xs)/\ZdO x=true/\xs.all ZdO=true/\Q (.bl (if neg then !inV x xs else inV x xs)) H
theorem ZgQ:OpR X (compareOp .In) (rIn X.K false):=by
 intro pins s σ H x y v u Q I rx ry h
 obtain ⟨p,xs,rfl,hq,fx,fs,q⟩:=h
 cases ry
 rcases hq with hq | hq
 ·obtain ⟨its,r,pl,hz⟩:=I.list hq
  refine SeqAt.in_listAt (eqU x) pl.isList (λw hw=>Zce rx fx r fs w (by simpa using hw)) ⟨.bl _,H,I,rfl,?_⟩
  rw [show its.toArray.any (eqU x)=its.any (eqU x) by simp,Zc8 r fs]
  exact q
 ·obtain ⟨its,r,pl,hz⟩:=I.tuple hq
  refine SeqAt.in_tupleAt (eqU x) pl (λw hw=>Zce rx fx r fs w (by simpa using hw)) ⟨.bl _,H,I,rfl,?_⟩
  rw [show its.toArray.any (eqU x)=its.any (eqU x) by simp,Zc8 r fs]
  exact q
theorem Zeq:OpR X (compareOp .NotIn) (rIn X.K true):=by
 intro pins s σ H x y v u Q I rx ry h
 obtain ⟨p,xs,rfl,hq,fx,fs,q⟩:=h
 cases ry
 rcases hq with hq | hq
 ·obtain ⟨its,r,pl,hz⟩:=I.list hq
  refine SeqAt.notIn_listAt (eqU x) pl.isList (λw hw=>Zce rx fx r fs w (by simpa using hw)) ⟨.bl _,H,I,rfl,?_⟩
  rw [show its.toArray.any (eqU x)=its.any (eqU x) by simp,Zc8 r fs]
  exact q
 ·obtain ⟨its,r,pl,hz⟩:=I.tuple hq
  refine SeqAt.notIn_tupleAt (eqU x) pl (λw hw=>Zce rx fx r fs w (by simpa using hw)) ⟨.bl _,H,I,rfl,?_⟩
  rw [show its.toArray.any (eqU x)=its.any (eqU x) by simp,Zc8 r fs]
  exact q
theorem Zer:ZbB X (.builtin "len") (λxs H Q=>∃ p ys,xs=[.ref p]/\(SqL X.K H p ys\/SqT X.K H p ys)/\Q (.int ys.length) H):=by
 intro pins s σ H xs us Q I r h
 obtain ⟨p,ys,rfl,hq,q⟩:=h
 obtain ⟨u,rfl,rx⟩:=Zh7 r
 cases rx
 have hn:=Zej
 rcases hq with hq | hq
 ·obtain ⟨its,r',pl,hz⟩:=I.list hq
  have hlen:=r'.length
  exact Calls.call_len_list pl.isList (by simp only [List.size_toArray] <;> omega) ⟨.int ys.length,H,I.tok _,⟨s.toks+1,by rw [List.size_toArray,hlen]⟩,q⟩
 ·obtain ⟨its,r',pl,hz⟩:=I.tuple hq
  have hlen:=r'.length
  exact len_tuple pl (by simp only [List.size_toArray] <;> omega) ⟨.int ys.length,H,I.tok _,⟨s.toks+1,by rw [List.size_toArray,hlen]⟩,q⟩
theorem Zes:ZbB X (.type "list") (λxs H Q=>∃ p ys,xs=[.ref p]/\(SqL X.K H p ys\/SqT X.K H p ys)/\∀ l,H l=none->Q (.ref l) (upd H l (.lst ys))):=by
 intro pins s σ H xs us Q I r h
 obtain ⟨p,ys,rfl,hq,q⟩:=h
 obtain ⟨u,rfl,rx⟩:=Zh7 r
 cases rx
 have fin:∀ (its:List Value),Vals ys its->ys.length<=sizeLine->∀ (h':Heap) (c':Nat),(∀ b o',s.heap.get? b=some o'->h'.get? b=some o') ->
   h'.get? s.heap.objs.size=some { cls:=.type "list", dict:=none,data:=.seq its.toArray c',slots:=#[] }->EP X pins σ Q (.ref s.heap.objs.size) { s with heap:=h' }:=λits r' hz h' c' kp e=>
  ⟨.ref s.heap.objs.size,_,I.laid (t':=s.toks) kp (Nat.le_refl _) (show ObjOk X.prog X.w _ h' _ (.lst ys) from ⟨hz,its,c',r',e⟩),rfl,q _ (I.hok.fresh (Nat.le_refl _))⟩
 rcases hq with hq | hq
 ·obtain ⟨its,r',pl,hz⟩:=I.list hq
  have hlen:=r'.length
  obtain ⟨o,ho,hc,n,hd⟩:=pl.isList
  exact call_list_seq p (.inl rfl) ho hc hd (λh' c' kp e=>fin its r' hz h' c' kp e) (by simp only [List.size_toArray] <;> omega)
 ·obtain ⟨its,r',pl,hz⟩:=I.tuple hq
  have hlen:=r'.length
  obtain ⟨o,ho,hc,n,hd⟩:=pl
  exact call_list_seq p (.inr rfl) ho hc hd (λh' c' kp e=>fin its r' hz h' c' kp e) (by simp only [List.size_toArray] <;> omega)
def tyV (K:PySem.W.Frag) (T:String) (x:V) (H:Hp):Prop:=match x with
 | .str _=>T = "str"
 | .int _=>T = "int"
 | .ref p=>(T = "list" /\ ∃ xs,SqL K H p xs)\/(T = "tuple" /\ ∃ o,K.lookup p=some o/\o.cls=.type "tuple" /\ o.dict=none) \/
   (T = "dict" /\ ((∃ kvs,H p=some (.dK kvs))\/∃ kvs,H p=some (.dT kvs)))\/(T = "set" /\ ∃ S n,H p=some (.set S n))
 | _=>False
theorem Zja {pins:List (Addr×Obj)} {σ:St} {H:Hp} {s:Shared} {T:String} {x:V} {v:Value} (I:Inv X pins σ H s) (r:RelV x v) (ty:tyV X.K T x H) :
  s.TypeIs v T/\∀ a,v=.ref a->∃ ob,s.heap.get? a=some ob/\ob.dict=none:=by
 cases x with
 | str z=>
  obtain ⟨t,rfl⟩:=r
  cases (show T = "str" from ty)
  exact ⟨typeIs_str s z t,λ_ e=>nomatch e⟩
 | int i=>
  obtain ⟨t,rfl⟩:=r
  cases (show T = "int" from ty)
  exact ⟨typeIs_int s i t,λ_ e=>nomatch e⟩
 | ref p=>
  cases r
  rcases ty with ⟨rfl,xs,hq⟩ | ⟨rfl,o,hk,hc,hd⟩ | ⟨rfl,hk⟩ | ⟨rfl,S,n,hk⟩
  ·obtain ⟨its,_,pl,_⟩:=I.list hq
   refine ⟨pl.isList.typeIs,λa e=>?_⟩
   cases e
   obtain ⟨o,n,e,c,hd,_⟩:=pl
   exact ⟨o,e,hd⟩
  ·refine ⟨⟨o,I.kIn p o hk,hc⟩,λa e=>?_⟩
   cases e
   exact ⟨o,I.kIn _ o hk,hd⟩
  ·have z:∃ o,s.heap.get? p=some o/\o.ExactDict:=by
    rcases hk with ⟨kvs,hk⟩ | ⟨kvs,hk⟩
    ·obtain ⟨_,_,_,_,o,_,_,e,ex,_⟩:=I.hok p _ hk
     exact ⟨o,e,ex⟩
    ·obtain ⟨_,_,_,_,o,_,_,e,ex,_⟩:=I.hok p _ hk
     exact ⟨o,e,ex⟩
   obtain ⟨o,e,ex⟩:=z
   refine ⟨⟨o,e,ex.1⟩,λa e2=>?_⟩
   cases e2
   exact ⟨o,e,ex.2.1⟩
  ·obtain ⟨o,_,_,_,e,ex,_⟩:=I.hok p _ hk
   refine ⟨⟨o,e,ex.1⟩,λa e2=>?_⟩
   cases e2
   exact ⟨o,e,ex.2.1⟩
 | _=>exact False.elim ty
def ZoL (K:PySem.W.Frag) (T:String) (r:V->List V->Hp->VK->Prop) (to:TE):TE:=λσ H Q=>to σ H λx H1=>tyV K T x H1/\r x [] H1 Q
def tBM (K:PySem.W.Frag) (T:String) (r:V->List V->Hp->VK->Prop) (to:TE) (t:TA):TE:=λσ H Q=>to σ H λx H1=>tyV K T x H1/\t σ H1 λxs H2=>r x xs H2 Q
variable {o e:Expr} {es:List Expr} {to:TE} {t:TA} {name:Str} {apos cpos:Pos} {T id:String} {r:V->List V->Hp->VK->Prop}
theorem Zjb (pa:PlainAttrs T) (slot:Slot T name id) (hty:typeOf (.builtin id)=pure (.type "method_descriptor")) (hm:MtR X id r) (ho:PE X o to)
  (hbase:attributeBase o name X.env (eval o X.env)=eval o X.env:=by rfl) (hline:(apos.endLine == cpos.line)=true:=by rfl):PE X (.Call (.Attribute o name apos) [] [] cpos) (ZoL X.K T r to):=by
 intro pins s σ H Q I h
 refine wpAny_Call_method0_late hbase hline (thn (ho pins s σ H _ I h) λv s1 ⟨x,H1,I1,r1,ty,q1⟩=>?_)
 obtain ⟨h1,h2⟩:=Zja I1 r1 ty
 exact ⟨T,id,pa,slot,hty,h1,h2,Calls.callWith_builtin rfl (PySem.evalArgs_none (hm pins s1 σ H1 x [] v [] Q I1 r1 .nil q1))⟩
theorem ZcT (pa:PlainAttrs T) (slot:Slot T name id) (hty:typeOf (.builtin id)=pure (.type "method_descriptor")) (hm:MtR X id r) (ho:PE X o to) (ha:PA X (e::es) t)
  (hbase:attributeBase o name X.env (eval o X.env)=eval o X.env:=by rfl)
  (hfew:((backTo cpos (starEach (e::es) X.env)).all (λx=>!x.1) && (backToKw cpos (keywordEach [] X.env)).all (λx=>x.1.isSome)
   && decide ((e::es).length+([]:List Keyword).length+(if ([]:List Keyword).isEmpty then 0 else 1)<30))=true:=by rfl)
  (hline:(apos.endLine == cpos.line)=true:=by rfl) (hs:starEach (e::es) X.env=(false,eval e X.env)::starEach es X.env:=by rfl) (hplain:(backTo cpos (starEach es X.env)).any (·.1)=false:=by rfl) :
  PE X (.Call (.Attribute o name apos) (e::es) [] cpos) (tBM X.K T r to t):=by
 intro pins s σ H Q I h
 refine wpAny_Call_method_late hbase hfew hline rfl (thn (ho pins s σ H _ I h) λv s1 ⟨x,H1,I1,r1,ty,q1⟩=>?_)
 obtain ⟨h1,h2⟩:=Zja I1 r1 ty
 refine ⟨T,id,pa,slot,hty,h1,h2,?_⟩
 have hA:=ha cpos pins s1 σ H1 _ I1 q1
 rw [hs] at hA ⊢
 refine Calls.callWith_builtin (by show (false || (backTo cpos (starEach es X.env)).any (·.1))=false;rw [hplain] <;> rfl) (Calls.evalArgs_plain ?_)
 exact thn hA λus s2 ⟨vs,H2,I2,r2,q2⟩=>hm pins s2 σ H2 x vs v us Q I2 r1 r2 q2
/- xs.append(e),list.index on a module's tuple .. are MtR facts of 06m -/
end
end L2
namespace L2
open PySem PySem.Spec PyProof.Rows
def MtM (X:Cx) (id:String) (r:V->List V->Hp->VK->Prop):Prop:=
 ∀ (pins:List (Addr×Obj)) (s:Shared) (σ:St) (H:Hp) (x:V) (xs:List V) (v:Value) (us:List Value) (Q:VK),Inv X pins σ H s->RelV x v->Vals xs us->r x xs H Q ->
  wpAny (model X.prog X.w) X.A (call (.builtin id) (v::us)) (EP X pins σ Q) X.xe s
theorem Vals.one:∀ {x:V} {us:List Value},Vals [x] us->∃ u,us=[u]/\RelV x u
 | _,_,.cons r .nil=>⟨_,rfl,r⟩
theorem Vals.two:∀ {x y:V} {us:List Value},Vals [x,y] us->∃ u v,us=[u,v]/\RelV x u/\RelV y v
 | _,_,_,.cons r (.cons q .nil)=>⟨_,_,rfl,r,q⟩
theorem Vals.zero:∀ {us:List Value},Vals [] us->us=[]
 | _,.nil=>rfl
theorem Vals.dropLast {xs:List V} {us:List Value} (h:Vals xs us):Vals xs.dropLast us.dropLast:=by
 induction h with
 | nil=>exact .nil
 | cons r t ih=>
  cases t with
  | nil=>exact .nil
  | cons q t'=>exact .cons r ih
theorem Vals.eraseIdx:∀ {xs:List V} {us:List Value} (i:Nat),Vals xs us->Vals (xs.eraseIdx i) (us.eraseIdx i)
 | _,_,_,.nil=>.nil
 | _,_,0,.cons _ t=>t
 | _,_,i+1,.cons r t=>.cons r (Vals.eraseIdx i t)
theorem Zgb {α:Type} (l:List α):l.eraseIdx (l.length-1)=l.dropLast:=by
 induction l with
 | nil=>rfl
 | cons a r ih=>
  cases r with
  | nil=>rfl
  | cons b r=>
   have e:(a::b::r).length-1=((b::r).length-1)+1:=by
    have h1:(a::b::r).length=r.length+2:=rfl
    have h2:(b::r).length=r.length+1:=rfl
    omega
   rw [e,List.eraseIdx_cons_succ,ih]
   all_goals rfl
theorem Zcf {α:Type}:∀ (l:List α) (i:Nat),(l.eraseIdx i).length<=l.length
 | [],_=>Nat.le_refl _
 | _::_,0=>Nat.le_succ _
 | _::r,i+1=>Nat.succ_le_succ (Zcf r i)
section
variable {X:Cx} {pins:List (Addr×Obj)} {σ:St} {H:Hp} {s:Shared} {l b:Addr} {xs ys zs:List V}
theorem Inv.lset {its its':List Value} {n:Nat} {f:Array Value->Array Value} {t':Nat} (I:Inv X pins σ H s) (hH:H l=some (.lst xs))
  (e:s.heap.get? l=some { cls:=.type "list", data:=.seq its.toArray n }) (hf:f its.toArray=its'.toArray) (hv:Vals ys its') (hz:ys.length<=sizeLine) :
  Inv X pins σ (upd H l (.lst ys)) { s with heap:=s.heap.update l (Obj.mapSeq f),toks:=t' }:=by
 have q:=PySem.IsL.update e f
 rw [hf] at q
 refine I.write (x:=l) (e:=l) (by rw [hH];exact trivial) (.inl rfl) (λb' u hb hu=>(Heap.get?_update_other s.heap (Obj.mapSeq f) (Ne.symm hb)).trans hu) ⟨_,q⟩ ?_
 exact ⟨hz,its',_,hv,q⟩
theorem Inv.lnew {its:List Value} {t':Nat} (I:Inv X pins σ H s) (hv:Vals ys its) (hz:ys.length<=sizeLine) :
  Inv X pins σ (upd H s.heap.objs.size (.lst ys)) { s with heap:=s.heap.push { cls:=.type "list", data:=.seq its.toArray },toks:=t' }:=
 I.laid (λ_ _ q=>Heap.get?_push_of_some _ q) (Nat.le_refl _) ⟨hz,its,0,hv,Heap.get?_push_size _ rfl⟩
theorem Inv.fresh (I:Inv X pins σ H s):H s.heap.objs.size=none:=I.hok.fresh (Nat.le_refl _)
theorem Inv.lstM (I:Inv X pins σ H s) (hH:H l=some (.lst xs)):xs.length<=sizeLine/\∃ (its:List Value) (n:Nat),Vals xs its/\xs.length=its.length/\s.heap.get? l=some { cls:=.type "list", data:=.seq its.toArray n }:=by
 obtain ⟨z,its,n,r,e⟩:=I.hok l _ hH
 exact ⟨z,its,n,r,r.length,e⟩
theorem Zh9 {n:Nat} (h:n<=sizeLine):Builtin.List.listTooLong n=false:=by
 unfold Builtin.List.listTooLong
 exact decide_eq_false (by omega)
end
section
variable {X:Cx}
def ZjS:V->List V->Hp->VK->Prop:=λx vs H Q=>∃ l xs y,x=.ref l/\vs=[y]/\H l=some (.lst xs)/\xs.length<sizeLine/\Q .non (upd H l (.lst (xs++[y])))
theorem Za5:MtM X "list.append" ZjS:=by
 intro pins s σ H x vs v us Q I rx rv h
 obtain ⟨l,xs,y,rfl,rfl,hH,hz,q⟩:=h
 cases rx
 obtain ⟨u,rfl,ru⟩:=rv.one
 obtain ⟨z,its,n,r,hl,e⟩:=I.lstM hH
 refine call_meets F.slot_list_append ⟨_,e,rfl⟩ F.entry_list_append (F.args_list_append_2 _ _) (PySem.list_append l its.toArray n u (by rw [List.size_toArray];omega)) ⟨e,?_⟩
 refine ⟨.non,_,I.lset (its':=its++[u]) hH e (by simp) (r.append (.cons ru .nil)) ?_,rfl,q⟩
 rw [List.length_append,List.length_singleton]
 omega
def ZjT:V->List V->Hp->VK->Prop:=λx vs H Q=>∃ l b xs zs,x=.ref l/\vs=[.ref b]/\H l=some (.lst xs)/\H b=some (.lst zs)/\xs.length+zs.length<=sizeLine/\Q .non (upd H l (.lst (xs++zs)))
theorem ZgR:MtM X "list.extend" ZjT:=by
 intro pins s σ H x vs v us Q I rx rv h
 obtain ⟨l,b,xs,zs,rfl,rfl,hH,hB,hz,q⟩:=h
 cases rx
 obtain ⟨u,rfl,ru⟩:=rv.one
 cases ru
 obtain ⟨z,its,n,r,hl,e⟩:=I.lstM hH
 obtain ⟨z2,its2,n2,r2,hl2,e2⟩:=I.lstM hB
 have hsz:its.toArray.size+its2.toArray.size<=sizeLine:=by rw [List.size_toArray,List.size_toArray];omega
 have hlong:¬ (!its.toArray.isEmpty && Builtin.List.listTooLong (its.toArray.size+its2.toArray.size))=true:=by
  rw [Zh9 hsz,Bool.and_false]
  exact Bool.false_ne_true
 refine call_meets F.slot_list_extend ⟨_,e,rfl⟩ F.entry_list_extend (F.args_list_extend_2 _ _)
  (AutoSeq1.list_extend_list_list_0 l its.toArray n b its2.toArray n2 hlong (by rw [List.size_toArray];omega) (by omega)) ⟨e,e2,?_⟩
 refine ⟨.non,_,I.lset (its':=its++its2) hH e (by simp) (r.append r2) ?_,rfl,q⟩
 rw [List.length_append]
 omega
def ZoM:V->List V->Hp->VK->Prop:=λx vs H Q=>∃ l xs y,x=.ref l/\vs=[]/\H l=some (.lst xs)/\xs[xs.length-1]?=some y/\Q y (upd H l (.lst xs.dropLast))
theorem Zjc:MtM X "list.pop" ZoM:=by
 intro pins s σ H x vs v us Q I rx rv h
 obtain ⟨l,xs,y,rfl,rfl,hH,hy,q⟩:=h
 cases rx
 have hus:=rv.zero
 subst hus
 obtain ⟨z,its,n,r,hl,e⟩:=I.lstM hH
 obtain ⟨u,hu,ru⟩:=r.get hy
 have hy':its.toArray[its.toArray.size-1]?=some u:=by
  show its.toArray[its.length-1]?=some u
  rw [<-Array.getElem?_toList,<-hl]
  exact hu
 refine call_meets F.slot_list_pop ⟨_,e,rfl⟩ F.entry_list_pop (F.args_list_pop_1 _) (MeetsSeq.list_pop_last l its.toArray n u hy' (by rw [List.size_toArray];omega)) ⟨e,?_⟩
 refine ⟨y,_,I.lset (its':=its.dropLast) hH e ?_ r.dropLast ?_,ru,q⟩
 ·show its.toArray.eraseIdxIfInBounds (its.toArray.size-1)=its.dropLast.toArray
  rw [List.size_toArray,List.eraseIdxIfInBounds_toArray,Zgb]
 ·rw [List.length_dropLast]
  omega
def Zlv:V->List V->Hp->VK->Prop:=λx vs H Q=>∃ l xs i k y,x=.ref l/\vs=[.int i]/\H l=some (.lst xs)/\-(2 ^ 63)<=i/\i<2 ^ 63/\seqIndex? i xs.length=some k/\xs[k]?=some y/\Q y (upd H l (.lst (xs.eraseIdx k)))
theorem Zia:MtM X "list.pop" Zlv:=by
 intro pins s σ H x vs v us Q I rx rv h
 obtain ⟨l,xs,i,k,y,rfl,rfl,hH,h1,h2,hk,hy,q⟩:=h
 cases rx
 obtain ⟨u,rfl,ru⟩:=rv.one
 obtain ⟨t,rfl⟩:=ru
 obtain ⟨z,its,n,r,hl,e⟩:=I.lstM hH
 obtain ⟨w,hw,rw'⟩:=r.get hy
 refine call_meets F.slot_list_pop ⟨_,e,rfl⟩ F.entry_list_pop (F.args_list_pop_2 _ _)
  (MeetsSeq.list_pop_at l its.toArray n i t k w (fitsIndex_both h1 h2) (by rw [List.size_toArray,<-hl];exact hk) (by rw [<-Array.getElem?_toList];exact hw) (by rw [List.size_toArray];omega)) ⟨e,?_⟩
 refine ⟨y,_,I.lset (its':=its.eraseIdx k) hH e ?_ (r.eraseIdx k) ?_,rw',q⟩
 ·show its.toArray.eraseIdxIfInBounds k=(its.eraseIdx k).toArray
  rw [List.eraseIdxIfInBounds_toArray]
 ·have:=Zcf xs k
  omega
def ZmO:V->List V->Hp->VK->Prop:=λx vs H Q=>∃ l xs,x=.ref l/\vs=[]/\H l=some (.lst xs)/\Q .non (upd H l (.lst xs.reverse))
def ZnY:V->List V->Hp->VK->Prop:=λx vs H Q=>∃ l xs,x=.ref l/\vs=[]/\H l=some (.lst xs)/\Q .non (upd H l (.lst []))
def ZoN:R2:=λx y H Q=>∃ l b xs zs,x=.ref l/\y=.ref b/\H l=some (.lst xs)/\H b=some (.lst zs)/\xs.length+zs.length<=sizeLine/\∀ p,H p=none->Q (.ref p) (upd H p (.lst (xs++zs)))
theorem ZcP:OpR X (binaryOp .Add) ZoN:=by
 intro pins s σ H x y v u Q I rx ry h
 obtain ⟨l,b,xs,zs,rfl,rfl,hH,hB,hz,q⟩:=h
 cases rx
 cases ry
 obtain ⟨z,its,n,r,hl,e⟩:=I.lstM hH
 obtain ⟨z2,its2,n2,r2,hl2,e2⟩:=I.lstM hB
 refine PySem.P.add_list e e2 ?_ (by rw [List.size_toArray,List.size_toArray];omega)
 have ea:its.toArray++its2.toArray=(its++its2).toArray:=by simp
 rw [ea]
 exact ⟨.ref _,_,I.lnew (t':=s.toks) (r.append r2) (by rw [List.length_append];omega),rfl,q _ I.fresh⟩
def ZpC:R2:=λx y H Q=>∃ l k xs,x=.ref l/\y=.int k/\H l=some (.lst xs)/\-(2 ^ 63)<=k/\k<2 ^ 63/\xs.length * k.toNat<=sizeLine /\
 ∀ p,H p=none->Q (.ref p) (upd H p (.lst (List.replicate k.toNat xs).flatten))
end
section
variable {prog:Program} {w:World} {A:Around} {E:Value->Shared->Prop} {s:Shared}
end
section
variable {X:Cx}
end
end L2
namespace Att
open PySem PySem.W PySem.Calls PyProof.Rows
theorem Zc9 {P:Params} {h:Heap}:∀ (ns:List Int) (vs:List Value),WellAll P h vs (ns.map WData.int)->IntsAre vs ns:=by
 intro ns
 induction ns with
 | nil=>
  intro vs w
  rw [List.map_nil] at w
  cases w
  exact .nil
 | cons n ns ih=>
  intro vs w
  rw [List.map_cons] at w
  cases w with
  | cons a b=>
   cases a
   exact .cons _ _ (ih _ b)
theorem ZgS {l:OpenLaw} {n:Nat} (hn:l.most=some n) {P:Params} {h:Heap} {args:List WData} {vals:List Value}
  (hpre:l.row.toRowW.claim.pre args=true) (hwl:WellAll P h vals args) :
  ∃ a vs ns,vals=[Value.ref a]/\args=[WData.list (ns.map WData.int)]/\h.get? a=some { cls:=.type "list", data:=.seq vs.toArray }/\IntsAre vs ns/\ns.length<=n:=by
 have hsh:WShape.hasAll [] args [.list .int]=true:=(pre_splitW hpre).1
 have hc:l.pre.holds [] { args:=args }=true:=(pre_splitW hpre).2
 obtain ⟨d,r,rfl,h1,h2⟩:=hasAllW_cons hsh
 obtain rfl:=hasAllW_nil h2
 obtain ⟨xs,rfl,h3⟩:=hasW_list h1
 obtain ⟨ns,rfl⟩:=items_int h3
 have hlen:ns.length<=n:=by
  unfold OpenLaw.pre at hc
  have h4:(WTm.not (.lt (.lit (.int (n:Int))) (.len (.arg 0)))).holds [] { args:=[.list (ns.map .int)] }=true:=by
   have h4:=(holds_andW hc).1
   rw [hn] at h4
   exact h4
  have h5:=condW_of h4 (w_not (w_lt w_lit (w_len_list (w_arg rfl))))
  rw [List.length_map] at h5
  refine Nat.le_of_not_lt λq=>?_
  have q':(n:Int)<((ns.length:Nat):Int):=by omega
  first
   | (rw [decide_eq_true q'] at h5;exact absurd h5 (by decide))
   | (simp at h5;omega)
 cases hwl with
 | cons w1 w2=>
  cases w2
  cases w1 with
  | list ho hall=>exact ⟨_,_,ns,rfl,rfl,ho,Zc9 ns _ hall,hlen⟩
theorem ZgT (l:OpenLaw) (args:List WData):l.row.toRowW.claim.post args (.bool true) args=true:=
 postW_of (r:=l.row.toRowW) (X:=(true == true))
  (show WShape.has [] (.bool true) .bool=true by first | rfl | decide | simp [WShape.has,WShape.arms,WShape.armsAll])
  (show (WTm.eq .res (.lit (.bool true))).value [] { args:=args,res:=some (.bool true),after:=args }=some (.bool (true == true)) from w_eq_bool (w_res rfl) w_lit) rfl
theorem attach_call {l:OpenLaw} {n:Nat} {q:Program} {loose:List Str} {XP:(Str->Option Value)->Heap->Prop} {YP:World->Heap->Prop} {d:DefRec}
  (hn:l.most=some n) (hdf:d.params.defaults=[])
  (call:∀ (w:World) (s₀ s₁:Shared) (mg mb:Str->Option Value) (fa:Addr) (o:Obj) (pm cd doc:Value) (a:Addr) (vs:List Value) (ns:List Int),
   Ground q loose [] XP w s₀ mg mb s₁.heap->YP w s₁.heap ->
   s₁.heap.get? fa=some o->o.data=.func (docDef d.name d.params d.body d.scope pm cd doc)->s₁.heap.CodeRec cd d.name->mg d.name=some (.ref fa) ->
   s₁.heap.get? a=some { cls:=.type "list", data:=.seq vs.toArray }->IntsAre vs ns->ns.length<=n->s₁.gens=#[] ->
   codeAny (model l.prog w) callerA (.call (.ref fa) ⟨[.ref a],[]⟩) (λr s'=>r=.ok (.ret (.bool true))/\OldK s₁.heap s'.heap/\s'.os=s₁.os/\AllBare s'.gens) s₁) :
  WalkO q loose XP YP l.row.toRowW d [] (λf vs=>PySem.call f vs):=by
 intro w s₀ s₁ mg mb G Y fa o pm cd doc dV kV ho hd hcd hD hmg hg args vals as hpre hlay hrd hwl hlo
 obtain rfl:dV=.none:=Dflts.none hD hdf
 obtain rfl:kV=.none:=Dflts.noKw hD
 obtain ⟨a,vs,ns,rfl,rfl,hobj,hints,hlen⟩:=ZgS hn hpre hwl
 refine enter_call (codeAny_mono (call w s₀ s₁ mg mb fa o pm cd doc a vs ns G Y ho (fd_plain hd) hcd hmg hobj hints hlen hg) λr s' hq=>?_)
 obtain ⟨rfl,h2,h3,h4⟩:=hq
 exact ⟨.inl ⟨.bool true,.bool true,[],rfl,λ_=>rfl,.bool true,ZgT l _,λ_=>⟨List.Pairwise.nil,λ_ hm=>(nomatch hm)⟩⟩,h2,h3,h4⟩
section
variable {prog:Program} {w:World} {A:Around} {E:Value->Shared->Prop} {s:Shared} {K:Frag}
def ZnZ (h:Heap):Heap:={ h with objs:=#[] }
def Zn0 (h:Heap) (L d:Addr):List (Addr×Obj):=(List.range h.objs.size).filterMap λa=>if a=L\/a=d then none else (h.get? a).map λo=>(a,o)
end
end Att
namespace L2
open PySem PySem.Spec PyProof.Rows
theorem Zda:∀ {vs:List Value} {ns:List Int},IntsAre vs ns->Vals (ns.map V.int) vs
 | _,_,.nil=>.nil
 | _,_,.cons n t h=>.cons ⟨t,rfl⟩ (Zda h)
def Znc (H:Hp):Prop:=∀ b,H b=none\/∃ o xs,H b=some (.frz o (.lst xs))
theorem Zib {P:Program} {w:World} {K:PySem.W.Frag} {mg mb:Str->Option Value} {CX:CXT} {k:Nat} {fa a:Addr} {fd:FuncData} {x:Str} {sp:Sp} {s₁:Shared} {vs:List Value} {ns:List Int}
  (KX:K.In s₁.heap) (hns:s₁.heap.Ns mainGlobals mg) (hb:s₁.heap.Ns builtinsNs mb) (hbb:∀ x:Str,x ≠ "__name__" -> mb x=bootBuiltins x) (hlim:s₁.heap.NoLimit) (hg:s₁.gens=#[])
  (ha:s₁.heap.get? a=some { cls:=.type "list", data:=.seq vs.toArray }) (hi:IntsAre vs ns) (hl:ns.length<=sizeLine) (hr:Room k callerA)
  (F:∀ base:Heap,K.In base->base.Ns mainGlobals mg->ZaO P w K mg base CX k fa fd [x] sp) (hbind:∀ (s:Shared) (u:Value),BindsTo s fd ⟨[u],[]⟩ [(x,u)])
  (hsp:∀ H:Hp,Znc H->SqL K H a (ns.map V.int)->sp [.ref a] H (λv _=>v=.bl true) λ_ _ _=>False)
  (hCX:∀ H e s',CX [] H s₁ (λ_ _ _=>False) e s'->False) :
  codeAny (model P w) callerA (.call (.ref fa) ⟨[.ref a],[]⟩) (λr s'=>r=.ok (.ret (.bool true))/\OldK s₁.heap s'.heap/\s'.os=s₁.os/\AllBare s'.gens) s₁:=by
 have rv:=Zda hi
 have lenV:=hi.length
 have core:∀ H:Hp,Znc H->SqL K H a (ns.map V.int)->HOk P w H s₁.heap->(∀ b,H b≠none->b=a)->(H a≠none->K.lookup a=none) ->
   codeAny (model P w) callerA (.call (.ref fa) ⟨[.ref a],[]⟩) (λr s'=>r=.ok (.ret (.bool true))/\OldK s₁.heap s'.heap/\s'.os=s₁.os/\AllBare s'.gens) s₁:=by
  intro H hO hS hok hA hK
  have base_of:∀ {b:Addr} {o:Obj},s₁.heap.get? b=some o->H b=none->(Zh4 s₁.heap H).get? b=some o:=λe n=>Zh5 e n
  have noA:∀ {b:Addr} {o:Obj} {es:Array DictEntry} {ep:Nat},s₁.heap.get? b=some o->o.data=.dict es ep->H b=none:=λ{b o es ep} e d=>by
   cases q:H b with
   | none=>rfl
   | some u=>
    have e':b=a:=hA b (by rw [q];simp)
    subst e'
    rw [ha] at e;cases e
    have d':Data.seq vs.toArray _=Data.dict es ep:=d
    cases d'
  have nsK:∀ {b:Addr} {m:Str->Option Value},s₁.heap.Ns b m->(Zh4 s₁.heap H).Ns b m:=λ{b m} ⟨o,es,ep,e,d,r⟩=>⟨o,es,ep,base_of e (noA e d),d,r⟩
  have hKb:K.In (Zh4 s₁.heap H):=λb o e=>base_of (KX b o e) (by
   cases q:H b with
   | none=>rfl
   | some u=>
    have e':b=a:=hA b (by rw [q];simp)
    subst e'
    rw [hK (by rw [q];simp)] at e;cases e)
  have hM:Mod K mg (Zh4 s₁.heap H):=⟨hKb,nsK hns,⟨mb,nsK hb,hbb⟩,let ⟨mc,h1,h2⟩:=hlim;⟨mc,nsK h1,h2⟩⟩
  have e0:ZmN P w K mg (Zh4 s₁.heap H) callerA [] s₁ H:=⟨rfl,hM,λb o e=>ZjH e,Nat.le_of_eq (Zgz _ _),trivial,λb hb=>absurd (show b∈([]:List Addr) from hb) (by simp),hok,.of_eq hg⟩
  refine codeAny_mono ((F _ hKb (nsK hns)).run callerA [] s₁ H ⟨[.ref a],[]⟩ [.ref a] [.ref a] _ _ hr e0 (hbind s₁ (.ref a)) (.cons rfl .nil) (hsp H hO hS)) λr s' h=>?_
  cases r with
  | error e=>exact (hCX H e s' h).elim
  | ok fl=>
   cases fl with
   | next=>exact False.elim h
   | brk=>exact False.elim h
   | cont=>exact False.elim h
   | ret u=>
    obtain ⟨v,H',os,bare,un,hok',r',q⟩:=h
    have q':v=.bl true:=q
    subst q'
    obtain rfl:u=Value.bool true:=r'
    refine ⟨rfl,OldK.of_keep λb o e=>?_,os,bare⟩
    cases q:H b with
    | none=>exact un.keep b o e q (by intro z;exact absurd (show b∈([]:List Addr) from z) (by simp)) (by simp)
    | some u=>
     rcases hO b with z | ⟨ob,xs,z⟩
     ·rw [q] at z;cases z
     ·have z2:=un.frzs b ob _ z
      obtain ⟨e1,_⟩:=hok b _ z
      obtain ⟨e2,_⟩:=hok' b _ z2
      rw [e] at e1;cases e1
      exact e2
 cases hk:K.lookup a with
 | some o=>
  have e:=KX a o hk
  rw [ha] at e
  cases e
  refine core (λ_=>none) (λ_=>.inl rfl) (.inr ⟨_,vs.toArray,_,hk,rfl,rfl,rfl,by rw [List.size_toArray,lenV];exact hl,by simpa using rv⟩) (λb u z=>by have z':(none:Option HO)=some u:=z;cases z') (λb z=>absurd rfl z) λz=>absurd rfl z
 | none=>
  refine core (λb=>if b=a then some (.frz { cls:=.type "list", data:=.seq vs.toArray } (.lst (ns.map V.int))) else none) (λb=>?_) (.inl (.inr ⟨{ cls:=.type "list", data:=.seq vs.toArray },if_pos rfl⟩)) (λb u z=>?_) (λb z=>?_) λ_=>hk
  ·by_cases hb:b=a
   ·exact .inr ⟨_,_,if_pos hb⟩
   ·exact .inl (if_neg hb)
  ·by_cases hb:b=a
   ·have z':=(if_pos hb).symm.trans z
    cases z'
    subst hb
    exact ⟨ha,by rw [List.length_map];exact hl,vs,_,rv,ha⟩
   ·have z':=(if_neg hb).symm.trans z
    cases z'
  ·by_cases hb:b=a
   ·exact hb
   ·exact absurd (if_neg hb) z
end L2
namespace L2
open PySem PySem.Spec PyProof.Rows
abbrev KOf {K:PySem.W.Frag} {h:Heap} (_:K.In h):PySem.W.Frag:=K
theorem walk_of {l:PySem.W.OpenLaw} {n k:Nat} {q:Program} {loose:List Str} {XP:(Str->Option Value)->Heap->Prop} {YP:World->Heap->Prop} {d:DefRec} {K:Params->PySem.W.Frag} {CX:World->CXT} {sp:World->Sp} {x:Str}
  (hn:l.most=some n) (hn2:n<=sizeLine) (hdf:d.params.defaults=[]) (hr:Room k callerA)
  (hY:∀ (w:World) (h:Heap),YP w h->(K w.params).In h)
  (F:∀ (w:World) (mg:Str->Option Value) (fa:Addr) (h:Heap),(K w.params).In h->h.Ns mainGlobals mg->mg d.name=some (.ref fa) ->
   ∃ fd:FuncData,(∀ (s:Shared) (u:Value),BindsTo s fd ⟨[u],[]⟩ [(x,u)]) /\
    ∀ base:Heap,(K w.params).In base->base.Ns mainGlobals mg->ZaO l.prog w (K w.params) mg base (CX w) k fa fd [x] (sp w))
  (hsp:∀ (w:World) (H:Hp) (a:Addr) (ns:List Int),ns.length<=n->Znc H->SqL (K w.params) H a (ns.map V.int)->sp w [.ref a] H (λv _=>v=.bl true) λ_ _ _=>False)
  (hCX:∀ (w:World) (H:Hp) (s:Shared) (e:Value) (s':Shared),CX w [] H s (λ_ _ _=>False) e s'->False) :
  PySem.W.WalkO q loose XP YP l.row.toRowW d [] (λf vs=>PySem.call f vs):=by
 refine Att.attach_call hn hdf λw s₀ s₁ mg mb fa o pm cd doc a vs ns G Y ho hd hcd hmg hobj hints hlen hg=>?_
 have KX:=hY w _ Y
 obtain ⟨fd,hb,hF⟩:=F w mg fa _ KX G.T.g hmg
 exact Zib KX G.T.g G.T.b G.T.builtins G.T.nolimit hg hobj hints (Nat.le_trans hlen hn2) hr hF hb (λH hO hS=>hsp w H a ns hlen hO hS) λH e s'=>hCX w H s₁ e s'
end L2
/- THE LAST THEOREM (shape;LID,My.* are yours):
  My.Adr: a structure of the addresses that your layer names (classes,functions);My.Txt K t: a structure (Prop) of the equations over K;
  My.txt_mk:{K} {implicit addresses ..} (e1:nsIn K mainGlobals "law" = some (some (.ref f))) (e2:K.lookup f=some ⟨oc,od,.func (fnOf "law" "law" params body scope dV kV doc pm an cdv ct),sl⟩) (e3:codeIn K cdv "law" = true) ..:∃ t,My.Txt K t
set_option maxRecDepth 100000 in
set_option maxHeartbeats 0 in
theorem PySem.Challenge.cw_LID_holds:PySem.Challenge.rw_LID.Holds:=by
 w_on;o_law;k_head;(case hw=>w_witness2)
 k_fill
 refine L2.walk_of (l:=PySem.Challenge.rw_LID) (n:=63) (k:=40) (x := "script") (CX:=λw=>..) (sp:=λ_=>My.sp_law) rfl (by decide) rfl ⟨rfl,by decide,by decide⟩ (λw h Y=>PySem.W.kIn_of Y) ?F ?S ?C
 case F=>
  intro w mg fa h KX G hmg
  have T:∃ t,My.Txt (L2.KOf KX) t:=by
   dsimp only [L2.KOf]                          -- K must stand as «<heap const> w.params» for k_is
   refine' My.txt_mk ?e1 ?e2 ?e3 ..
   (case e1=>PySem.W.k_is)                    -- in the order: a name->its address->its object->its parts
   (case e2=>PySem.W.k_is)
   ..
  obtain ⟨t,T⟩:=T
  have e0:=hmg.symm.trans (PySem.W.mg_of KX G T.law)
  cases e0                                       -- fa is the law's own address
  exact ⟨_,λs u=>.of_eq rfl,λbase kb nb=>My.law_fn T kb nb⟩     -- if «.of_eq rfl» comes too early: refine' ⟨_,?b,λbase kb nb=>My.law_fn T kb nb⟩;exact λs u=>.of_eq rfl
 case S=>exact λw H a ns hl hO hS=>..
 case C=>exact ..
(the tactic k_is has no namespace: write k_is) -/
namespace L2
open PySem PySem.Spec PyProof.Rows
def Znd (s:Stmt) (j:Nat):Stmt:=match s with
 | .ClassDef _ _ _ body _ _ _ _ _ _ _=>body.getD j (.Pass ⟨0,0,0,0⟩)
 | _=>.Pass ⟨0,0,0,0⟩
def Zaq (s:Stmt):Arguments:=match s with
 | .FunctionDef _ a _ _ _ _ _ _ _ _=>a
 | _=>{ posonlyargs:=[],args:=[],vararg:=none,kwonlyargs:=[],kw_defaults:=[],kwarg:=none,defaults:=[] }
def Zao (s:Stmt):List Stmt:=match s with
 | .FunctionDef _ _ b _ _ _ _ _ _ _=>b
 | _=>[]
def Zaf (s:Stmt):Scope:=match s with
 | .FunctionDef _ _ _ _ _ _ sc _ _ _=>sc
 | _=>{ kind:=.function,names:=[],isGenerator:=false,isCoroutine:=false }
abbrev CX0:CXT:=λ_ _ _ _ _ _=>False
abbrev E0:XK:=λ_ _ _=>False
theorem ZaQ {X:Cx}:Zek CX0 X E0:=λ_ _ _ _ _ _ _ h=>h.elim
structure Fun (K:PySem.W.Frag) (x qual:Str) (st:Stmt) (f:Addr) (fd:FuncData):Prop where
 ex:∃ (oc:Value) (od:Option Addr) (kV doc pm:Value) (an:Option Addr) (cdv ct:Value) (osl:Array (Option Value)),
  fd=PySem.W.fnOf x qual (Zaq st) (Zao st) (Zaf st) .none kV doc pm an cdv ct/\K.lookup f=some ⟨oc,od,.func fd,osl⟩/\PySem.W.codeIn K cdv qual=true
 kp:PySem.W.keepIn K (.ref f)=true
section
variable {P:Program} {w:World} {K:PySem.W.Frag} {mg:Str->Option Value} {base:Heap}
theorem Fun.ok {x qual:Str} {st:Stmt} {f:Addr} {fd:FuncData} {N ps:List Str} {k:Nat} {sp:Sp} (F:Fun K x qual st f fd) (S:Zav N ps (Zaf st)) (len:∀ vs H Q E,sp vs H Q E->vs.length=ps.length)
  (hbody:∀ (cdv:Value) (A:Around) (outer:List Env) (s:Shared) (H:Hp) (vs:List V) (Q:VK) (E:XK),Room k (A.deeper (envOfC qual (Zaf st) s.heap.objs.size f cdv))->sp vs H Q E ->
   ∃ t,PSs (ZgN CX0 P w K mg base N qual (Zaf st) f cdv A outer s H E).nox (Zao st) t/\t { nx:=λ_ H'=>Q .non H',rt:=Q } (start N vs) H):ZaO P w K mg base CX0 (k+1) f fd ps sp:=by
 obtain ⟨oc,od,kV,doc,pm,an,cdv,ct,osl,rfl,lk,hcd⟩:=F.ex
 refine ZjO lk hcd S len λA outer s H vs Q E hr hsp=>?_
 obtain ⟨t,h,q⟩:=hbody cdv A outer s H vs Q E hr hsp
 exact ⟨t,h.nox,q⟩
theorem Fun.binds {x qual:Str} {st:Stmt} {f:Addr} {fd:FuncData} {ps:List Str} (F:Fun K x qual st f fd)
  (h:∀ (kV doc pm:Value) (an:Option Addr) (cdv ct:Value) (us:List Value),us.length=ps.length->bindArgs (PySem.W.fnOf x qual (Zaq st) (Zao st) (Zaf st) .none kV doc pm an cdv ct) ⟨us,[]⟩=pure (ps.zip us)):Binds K fd ps []:=by
 obtain ⟨oc,od,kV,doc,pm,an,cdv,ct,osl,rfl,lk,hcd⟩:=F.ex
 exact .all (h kV doc pm an cdv ct)
theorem ZaJ {x qual:Str} {st:Stmt} {f:Addr} {oc:Value} {od an:Option Addr} {osl:Array (Option Value)} {kV doc pm cdv ct:Value} (l:K.lookup f=some ⟨oc,od,.func (PySem.W.fnOf x qual (Zaq st) (Zao st) (Zaf st) .none kV doc pm an cdv ct),osl⟩)
  (c:PySem.W.codeIn K cdv qual=true) (k:PySem.W.keepIn K (.ref f)=true):Fun K x qual st f (PySem.W.fnOf x qual (Zaq st) (Zao st) (Zaf st) .none kV doc pm an cdv ct):=⟨⟨oc,od,kV,doc,pm,an,cdv,ct,osl,rfl,l,c⟩,k⟩
end
section
variable {X:Cx}
theorem pv (i:Nat) {x:Str} {pos:Pos} (hN:X.N[i]?=some x:=by rfl) (hv:Vis X.env.scope x:=by first | exact Or.inl rfl | exact Or.inr (Or.inl rfl) | exact Or.inr (Or.inr rfl)) (hd:(x == ("__debug__" : Str))=false:=by decide)
  (hcd:(x == ("__classdict__" : Str))=false:=by decide):PE X (.Name x pos) (ZnM i):=Zlf hN hv hd hcd
end
theorem Zb0 {A B:Prop} (h:B):if false=true then A else B:=by
 rw [if_neg Bool.false_ne_true]
 exact h
theorem Zcg {A B:Prop} (h:A):if true=true then A else B:=by
 rw [if_pos rfl]
 exact h
theorem ZcQ {c A B:Prop} [Decidable c] (h1:c->A) (h2:¬ c->B):if c then A else B:=by
 by_cases h:c
 ·rw [if_pos h]
  exact h1 h
 ·rw [if_neg h]
  exact h2 h
def Same (H H':Hp):Prop:=∀ b o,H b=some o->H' b=some o
theorem Same.refl (H:Hp):Same H H:=λ_ _ h=>h
theorem Same.trans {H H1 H2:Hp} (a:Same H H1) (b:Same H1 H2):Same H H2:=λc o h=>b c o (a c o h)
theorem Same.free {H H':Hp} (e:Same H H') {l:Addr} (h:H' l=Option.none):H l=Option.none:=by
 cases q:H l with
 | none=>rfl
 | some o=>
  rw [e l o q] at h
  cases h
theorem Same.seq {K:PySem.W.Frag} {H H':Hp} {a:Addr} {xs:List V} (e:Same H H') (h:SqL K H a xs):SqL K H' a xs:=by
 rcases h with (h | ⟨o,h⟩) | h
 ·exact .inl (.inl (e _ _ h))
 ·exact .inl (.inr ⟨o,e _ _ h⟩)
 ·exact .inr h
end L2
namespace L2
open PySem PySem.Spec PyProof.Rows
section
variable {prog:Program} {w:World} {A:Around} {R:Result->Shared->Prop} {s:Shared}
theorem Zet {elt target iter:Expr} {ifs:List Expr} {scope:Scope} {pos:Pos} {it acc:Value} {env:Env} (I:Nat->Shared->Prop)
  (turn:∀ n s,I n s->wpAny (model prog w) A (pyNext it) (λr s1=>match r with
   | none=>R (.ok .next) s1
   | some v=>wpAny (model prog w) A (letOwnedTupleGo target it v) (λ_ s1'=>wpAny (model prog w) A (assign target env v) (λ_ s2=>
     wpAny (model prog w) A (forIn ifs true λc r=>if r=true then do let ok <- isTrue c env (eval c env);pure (ForInStep.yield ok) else pure (ForInStep.yield r)) (λok s3=>
      if ok=true then wpAny (model prog w) A (eval elt env) (λx s4=>
       wpAny (model prog w) A (call (.builtin "list.append") [acc,x]) (λ_ s5=>∃ m,m<n/\I m s5) (λ_ _=>False) s4) (λ_ _=>False) s3
      else ∃ m,m<n/\I m s3) (λ_ _=>False) s2) (λ_ _=>False) s1') (λ_ _=>False) s1) (λ_ _=>False) s)
  (n:Nat) (h:I n s) :
  codeAny (model prog w) A (.compLoop (.ListComp elt [⟨target,iter,ifs,0⟩] scope pos) 0 it acc env) R s:=by
 have ff:∀ {E:Value->Shared->Prop},∀ (x:Value) (s:Shared),(λ(_:Value) (_:Shared)=>False) x s->E x s:=λ_ _ z=>False.elim z
 refine codeAny_loop rfl I (λn s hI=>?_) n h
 show wpAny _ A ((compTurn (.ListComp elt [⟨target,iter,ifs,0⟩] scope pos) 0 it acc env).onRaise (λx=>do noteFrame x env;theTreesLotGoes x)) _ _ s
 refine wpAny_noted ?_
 rw [compTurn_list]
 refine wpAny_bind (wpAny_standAt (wpAny_bind (wpAny_mono (turn n s hI) (λr s1 h1=>?_) ff)))
 cases r with
 | none=>exact wpAny_pure h1
 | some v=>
  refine wpAny_bind (wpAny_mono h1 (λ_ s1' h1'=>?_) ff)
  refine wpAny_bind (wpAny_mono h1' (λ_ s2 h2=>wpAny_bind (wpAny_mono h2 (λok s3 h3=>?_) ff)) ff)
  cases ok with
  | false=>exact wpAny_pure ⟨rfl,h3⟩
  | true=>
   exact wpAny_bind (wpAny_bind (wpAny_mono h3 (λx s4 h4=>wpAny_bind (wpAny_mono h4 (λ_ s5 h5=>wpAny_pure (wpAny_pure ⟨rfl,h5⟩)) ff)) ff))
end
def Cx.comp (X:Cx) (scope:Scope) (cl:List (Str×Addr)) (N:List Str) (C:Addr) (s:Shared) (H:Hp) (fp:List Addr):Cx:=
 { X with N:=N,s₀:=s,H₀:=H,env:=compEnvC scope cl C X.env,outer:=X.stack,ex:=fp,fn:=λ_=>false,pn:=[],xe:=λ_ _=>False }
def Zlw (X:Cx) (ifs:List Expr) (t:TT):Prop:=
 ∀ (pins:List (Addr×Obj)) (s:Shared) (σ:St) (H:Hp) (Q:Bool->Hp->Prop),Inv X pins σ H s->t σ H Q ->
  wpAny (model X.prog X.w) X.A (forIn ifs true λc r=>if r=true then do let ok <- isTrue c X.env (eval c X.env);pure (ForInStep.yield ok) else pure (ForInStep.yield r)) (TP X pins σ Q) X.xe s
def Zjd:TT:=λ_ H Q=>Q true H
theorem Zbp {X:Cx}:Zlw X [] Zjd:=λ_ _ _ H _ I h=>wpAny_tests_nil ⟨H,I,h⟩
theorem ZcY {X:Cx} {c:Expr} {t:TT} (h:PT X c t):Zlw X [c] t:=λpins s σ H Q I hw=>wpAny_tests_one (h pins s σ H Q I hw)
structure ZbE (X:Cx) (scope:Scope) (cl:List (Str×Addr)) (own:List Str) (fr:List (Str×Nat)):Prop where
 clos:closureFor scope X.env=pure cl
 nocell:∀ y∈scope.names,y.2≠.cell
 kind:scope.kind=.function
 names:∀ y∈scope.names,y.2=.local->scope.names.lookup y.1=some .local
 cls:∀ y c,cl.lookup y=some c->X.env.cells.lookup y=some c
 has:∀ y,((relabel scope X.env).names.lookup y=some .cell\/(relabel scope X.env).names.lookup y=some .free)->∃ c,cl.lookup y=some c
 free:∀ p∈fr,X.N[p.2]?=some p.1/\(X.env.kindOf p.1=some .cell\/X.env.kindOf p.1=some .free)/\((relabel scope X.env).names.lookup p.1=some .cell\/(relabel scope X.env).names.lookup p.1=some .free)
def Zb2 (own:List Str) (fr:List (Str×Nat)) (σ:St):St:=own.map (λ_=>none)++fr.map λp=>(σ[p.2]?).join
def Zdr:St->St->Prop
 | [],[]=>True
 | none::r,_::r'=>Zdr r r'
 | some v::r,some v'::r'=>v=v'/\Zdr r r'
 | _,_=>False
theorem ZbR:∀ {a b:St},Zdr a b->∀ (i:Nat) (v:V),a[i]?=some (some v)->b[i]?=some (some v)
 | [],[],_,i,v,h=>by simp at h
 | [],_::_,z,_,_,_=>z.elim
 | none::r,[],z,_,_,_=>z.elim
 | some _::r,[],z,_,_,_=>z.elim
 | some _::r,none::_,z,_,_,_=>z.elim
 | none::r,_::r',z,0,v,h=>by simp at h
 | none::r,_::r',z,i+1,v,h=>by
  have:=ZbR (a:=r) (b:=r') z i v (by simpa using h)
  simpa using this
 | some x::r,some x'::r',z,0,v,h=>by
  obtain ⟨e,_⟩:=z
  subst e
  simpa using h
 | some x::r,some x'::r',z,i+1,v,h=>by
  have:=ZbR (a:=r) (b:=r') z.2 i v (by simpa using h)
  simpa using this
def Zch (J:It) (D:Addr) (g:TG) (tc:TT) (te:TE) (σ0:St) (W:Nat->Nat->List V->Hp->Prop) (R:Hp->Prop):Prop:=
 ∀ i m ys H2,W i m ys H2->(J.stop i H2/\R H2)\/(J.go i H2/\∃ N:List V->Hp->Prop,(∀ ys' H',N ys' H'->∃ m',m'<m/\W (i+1) m' ys' H')/\∀ x H3,J.yld i H2 x H3->g x σ0 H3 λσ4 H4=>Zdr σ0 σ4/\tc σ4 H4 λb H5=>
  if b=true then te σ4 H5 λy H6=>H6 D=some (.lst ys)/\ys.length<sizeLine/\N (ys++[y]) (upd H6 D (.lst (ys++[y])))
  else N ys H5)
def Zlx (wi:TI) (g:TG) (tc:TT) (te:TE) (own:List Str) (fr:List (Str×Nat)):TE:=λσ H Q=>wi σ H λJ H1=>∀ D,H1 D=none ->
 ∃ W:Nat->Nat->List V->Hp->Prop,(∃ m,W 0 m [] (upd H1 D (.lst [])))/\Zch J D g tc te (Zb2 own fr σ) W λH2=>Q (.ref D) H2
section
variable {X:Cx} {target iter elt:Expr} {ifs:List Expr} {scope:Scope} {cl:List (Str×Addr)} {own:List Str} {fr:List (Str×Nat)} {pos:Pos} {wi:TI} {g:TG} {tc:TT} {te:TE}
theorem Inv.sub_pins {pins pins':List (Addr×Obj)} {σ:St} {H:Hp} {s:Shared} (I:Inv X pins σ H s) (h:∀ p∈pins',p∈pins):Inv X pins' σ H s:=I.pins_of λp hp=>I.pin p (List.mem_append_right _ (h p hp))
theorem ZjU {pins:List (Addr×Obj)} {σ:St} {H:Hp} {s:Shared} {C:Addr} {fp:List Addr} (S:ZbE X scope cl own fr) (I:Inv X pins σ H s) (hf:∀ b∈fp,Zh0 X pins H b) (hC:s.heap.objs.size<=C) (hfl:∀ b∈fp,b<s.heap.objs.size) :
  (X.comp scope cl (own++fr.map (·.1)) C s H fp).Ok:=by
 refine ⟨I.ok.mod,?_,I.ok.glob,I.ok.blt,hC,λx y c h1 h2=>I.ok.inj x y c (S.cls x c h1) (S.cls y c h2),S.has,λx c z=>absurd z (by simp [Cx.comp]),I.ok.hd,I.ok.frames,.inl rfl,
  λb hb=>⟨Nat.ne_of_lt (Nat.lt_of_lt_of_le (hfl b hb) hC),λx c h=>(hf b hb).2.2.2.2.1 x c (S.cls x c h)⟩,I.bs,Nat.le_trans I.ok.bsz I.sz,λb o e hb=>?_,λb hb z=>?_,I.stack,I.stkFree⟩
 ·show (relabel scope X.env).kind=.function
  exact S.kind
 ·rcases (hf b hb).2.2.2.1 with z | z
  ·exact I.ok.noex b o e z
  ·exact absurd (Nat.lt_of_lt_of_le (Heap.lt_size e) (Nat.le_trans I.ok.bsz z)) (Nat.lt_irrefl _)
 ·rcases List.mem_cons.mp (I.stkSub b z) with q | q
  ·exact (hf b hb).2.1 q
  ·exact (hf b hb).2.2.1 q
theorem Zds (own:List Str) (fr:List (Str×Nat)) (σ:St):(Zb2 own fr σ).length=(own++fr.map (·.1)).length:=by
 unfold Zb2
 simp
theorem Zdt {pins:List (Addr×Obj)} {σ:St} {H:Hp} {s:Shared} {it:Addr} {fp:List Addr} {tn:Nat->Heap->Prop} {J:It} {E:Value->Shared->Prop} {RR:Value->Addr->Result->Shared->Prop} {Rf:Addr->Hp->Prop}
  (hc:X.calm=true) (S:ZbE X scope cl own fr) (I:Inv X pins σ H s) (T:Zll X.prog X.w X.K target J fp it tn) (st:tn 0 s.heap) (hf:∀ b∈fp,Zh0 X pins H b)
  (hg:∀ C s H fp,PG (X.comp scope cl (own++fr.map (·.1)) C s H fp) target g) (ht:∀ C s H fp,Zlw (X.comp scope cl (own++fr.map (·.1)) C s H fp) ifs tc) (he:∀ C s H fp,PE (X.comp scope cl (own++fr.map (·.1)) C s H fp) elt te)
  (hw:∀ D,H D=none->∃ W:Nat->Nat->List V->Hp->Prop,(∃ m,W 0 m [] (upd H D (.lst [])))/\Zch J D g tc te (Zb2 own fr σ) W (Rf D))
  (hRR:∀ D C s' H',s.heap.objs.size<=C->C≠D->(∃ m,s'.heap.Ns C m)->H' C=none->Un (frs X.stack) fp H H' s.heap s'.heap->HOk X.prog X.w H' s'.heap->AllBare s'.gens->s'.os=s.os->Rf D H'->RR (.ref D) C (.ok .next) s') :
  wpAny (model X.prog X.w) X.A (newList []) (λacc s3=>wpAny (model X.prog X.w) X.A (newFunctionEnv scope X.env.globals cl [] X.env.qual none .none (some X.env)) (λcenv s4=>
   codeAny (model X.prog X.w) X.A (.compStart (.ListComp elt [⟨target,iter,ifs,0⟩] scope pos) 0 (.ref it) acc { cenv with scope:=relabel scope X.env }) (RR acc cenv.locals) s4) E s3) E s:=by
 have hfl:∀ b∈fp,b<s.heap.objs.size:=λb hb=>by
  obtain ⟨o,e,_⟩:=T.obj 0 s.heap st b hb
  exact Heap.lt_size e
 have hD:H s.heap.objs.size=none:=I.fresh
 obtain ⟨W,⟨m0,w0⟩,turns⟩:=hw s.heap.objs.size hD
 have I1:Inv X pins σ (upd H s.heap.objs.size (.lst [])) { s with heap:=s.heap.push { cls:=.type "list", data:=.seq ([]:List Value).toArray },toks:=s.toks }:=I.lnew .nil (Nat.zero_le _)
 refine wpAny_newObj_type (wpAny_newFunctionEnv S.nocell (by intro y hy;simp at hy) (λh1 hns1 hsb1=>?_) S.kind)
 dsimp only at hns1 hsb1 ⊢
 generalize hH2:s.heap.push { cls:=.type "list", dict:=none,data:=.seq ([]:List Value).toArray }=H2 at hns1 hsb1 ⊢ I1
 have hCs:H2.objs.size=s.heap.objs.size+1:=by rw [<-hH2,Heap.size_push]
 have hCle:s.heap.objs.size<=H2.objs.size:=by omega
 have hDC:s.heap.objs.size≠H2.objs.size:=by omega
 have up1:∀ b o,H2.get? b=some o->h1.get? b=some o:=λb o e=>hsb1.extBut b o (Nat.ne_of_lt (Heap.lt_size e)) (Heap.get?_push_of_some _ e)
 have up:∀ b o,s.heap.get? b=some o->h1.get? b=some o:=λb o e=>up1 b o (hH2▸Heap.get?_push_of_some _ e)
 have okY:=ZjU (C:=H2.objs.size) S I hf hCle hfl
 have I0:∀ tk,Inv (X.comp scope cl (own++fr.map (·.1)) H2.objs.size s H fp) [] (Zb2 own fr σ) (upd H s.heap.objs.size (.lst [])) { s with heap:=h1,toks:=tk }:=by
  intro tk
  have hok1:HOk X.prog X.w (upd H s.heap.objs.size (.lst [])) h1:=I1.hok.kept up1
  refine ⟨okY,rfl,I.bare,⟨λb o e n _ _=>up b o e,λb o e n _ _=>⟨o.slots,up b o e⟩,λb o e n _=>?_,λb o e _=>⟨o,up b o e⟩,λb xs q=>?_,λb o u q=>?_,λb ps q=>⟨#[],?_⟩⟩,
   ⟨_,hns1,λi x v e1 e2 e3=>?_⟩,λx c e=>?_,?_,λx c e=>?_,λp hp=>?_,hok1,Zds own fr σ⟩
  ·have e':s.heap.get? b=some o:=e
   show upd H s.heap.objs.size (.lst []) b=none
   rw [Zam (Nat.ne_of_lt (Heap.lt_size e'))];exact n
  ·rw [Zam (Zae q hD)];exact q
  ·rw [Zam (Zae q hD)];exact q
  ·have q':H b=some (.tbl ps):=q
   rw [Zam (Zae q' hD),q'];simp
  ·-- the free names
   have e2':(Zb2 own fr σ)[i]?=some (some v):=e2
   have e1':(own++fr.map (·.1))[i]?=some x:=e1
   unfold Zb2 at e2'
   by_cases hi:i<own.length
   ·rw [List.getElem?_append_left (by simpa using hi),List.getElem?_map] at e2'
    cases q:own[i]? with
    | none=>rw [q] at e2';cases e2'
    | some y=>rw [q] at e2';cases e2'
   ·rw [List.getElem?_append_right (by simpa using hi),List.length_map,List.getElem?_map] at e2'
    rw [List.getElem?_append_right (by omega),List.getElem?_map] at e1'
    cases q:fr[i-own.length]? with
    | none=>rw [q] at e2';cases e2'
    | some p=>
     rw [q] at e1' e2'
     have ex:p.1=x:=Option.some.inj e1'
     have ev:(σ[p.2]?).join=some v:=Option.some.inj e2'
     have ev':σ[p.2]?=some (some v):=by
      cases z:σ[p.2]? with
      | none=>rw [z] at ev;cases ev
      | some o=>rw [z] at ev;cases o with
       | none=>cases ev
       | some v'=>have:v'=v:=Option.some.inj ev;rw [this]
     obtain ⟨f1,f2,f3⟩:=S.free p (List.mem_of_getElem? q)
     subst ex
     obtain ⟨m,hn,hl⟩:=I.loc
     have vis:Vis X.env.scope p.1:=by
      rcases f2 with f2 | f2
      ·exact .inr (.inl f2)
      ·exact .inr (.inr f2)
     obtain ⟨u,ru,lk⟩:=hl p.2 p.1 v f1 ev' vis
     refine ⟨u,ru,?_⟩
     rcases lk with ⟨k,_⟩ | ⟨k,c,e,z⟩
     ·rcases f2 with f2 | f2 <;> (rw [f2] at k;cases k)
     ·obtain ⟨c',hc'⟩:=S.has p.1 f3
      have e':=S.cls _ _ hc'
      rw [e] at e';cases e'
      obtain ⟨oc,ho,hd⟩:=z
      exact .inr ⟨f3,c,hc',⟨oc,up _ _ ho,hd⟩⟩
  ·obtain ⟨v,oc,ho,hd⟩:=I.cell x c (S.cls x c e)
   exact ⟨v,oc,up _ _ ho,hd⟩
  ·show upd H s.heap.objs.size (.lst []) H2.objs.size=none
   rw [Zam (Ne.symm hDC)]
   exact I.hok.fresh hCle
  ·obtain ⟨v,z⟩:=I.cell x c (S.cls x c e)
   show upd H s.heap.objs.size (.lst []) c=none
   rw [Zam (Nat.ne_of_lt z.lt)]
   exact I.freeC x c (S.cls x c e)
  ·exact absurd (show p∈([]:List (Addr×Obj)) from hp) (by simp)
 have fpf:∀ b∈fp,upd H s.heap.objs.size (.lst []) b=none:=λb hb=>by rw [Zam (Nat.ne_of_lt (hfl b hb))];exact (hf b hb).1
 have st1:tn 0 h1:=T.keep 0 _ _ st λb hb o e=>up b o e
 have stat:∀ {H':Hp},(∀ b∈fp,H' b=none)->∀ b∈fp,Zh0 (X.comp scope cl (own++fr.map (·.1)) H2.objs.size s H fp) [] H' b:=λhn b hb=>
  ⟨hn b hb,(okY.exf b hb).1,okY.exfs b hb,.inl hb,(okY.exf b hb).2,λp hp=>absurd (show p∈([]:List (Addr×Obj)) from hp) (by simp)⟩
 have loop:∀ s3:Shared,(∃ tk,s3={ s with heap:=h1,toks:=tk }) ->
   codeAny (model X.prog X.w) X.A (.compLoop (.ListComp elt [⟨target,iter,ifs,0⟩] scope pos) 0 (.ref it) (.ref s.heap.objs.size) (compEnvC scope cl H2.objs.size X.env)) (RR (.ref s.heap.objs.size) H2.objs.size) s3:=by
  rintro s3 ⟨tk,rfl⟩
  refine Zet (λn s'=>∃ i ys H',Inv (X.comp scope cl (own++fr.map (·.1)) H2.objs.size s H fp) [] (Zb2 own fr σ) H' s'/\tn i s'.heap/\(∀ b∈fp,H' b=none)/\W i n ys H') ?_ m0 ⟨0,[],_,I0 tk,st1,fpf,w0⟩
  rintro n s4 ⟨i,ys,H4,I4,st4,fr4,w4⟩
  rcases turns i n ys H4 w4 with ⟨stop,q⟩ | ⟨go,N,hN,step⟩
  ·refine thn (T.done (X.comp scope cl (own++fr.map (·.1)) H2.objs.size s H fp) rfl rfl rfl hc i [] s4 _ H4 _ I4 (stat fr4) st4 stop) λr s5 ⟨hr,I5⟩=>?_
   subst hr
   exact hRR _ _ s5 H4 hCle (Ne.symm hDC) ⟨_,I5.loc.choose_spec.1⟩ I5.free I5.base I5.hok I5.bare I5.os q
  ·refine thn (T.item (X.comp scope cl (own++fr.map (·.1)) H2.objs.size s H fp) rfl rfl rfl hc i [] s4 _ H4 _ I4 (stat fr4) st4 go) λr s5 ⟨u,hr,h5⟩=>?_
   subst hr
   refine thn h5 λ_ s6 ⟨x,H6,I6,r6,y6,st6,fr6⟩=>?_
   have I6':=I6.pinned (stat fr6) (T.obj _ _ st6)
   refine thn (hg H2.objs.size s H fp _ s6 _ H6 x u _ I6' r6 (step x H6 y6)) λ_ s7 ⟨σ7,H7,I7,k7,q7⟩=>?_
   refine thn (ht H2.objs.size s H fp _ s7 σ7 H7 _ I7 q7) λok s8 ⟨H8,I8,q8⟩=>?_
   have again:∀ {s9:Shared} {σ9:St} {H9:Hp} {zs:List V},Inv (X.comp scope cl (own++fr.map (·.1)) H2.objs.size s H fp) ([]++Zeg fp s6.heap) σ9 H9 s9->(∀ (i:Nat) v,(Zb2 own fr σ)[i]?=some (some v)->σ9[i]?=some (some v))->(∃ m',m'<n/\W (i+1) m' zs H9) ->
     ∃ m,m<n/\∃ i ys H',Inv (X.comp scope cl (own++fr.map (·.1)) H2.objs.size s H fp) [] (Zb2 own fr σ) H' s9/\tn i s9.heap/\(∀ b∈fp,H' b=none)/\W i m ys H':=by
    intro s9 σ9 H9 zs I9 hσ ⟨m',hm,w9⟩
    refine ⟨m',hm,i+1,zs,H9,(I9.sub_pins (λp hp=>absurd (show p∈([]:List (Addr×Obj)) from hp) (by simp))).weak ?_ hσ,T.keep _ _ _ st6 λb hb o e=>(I9.pin (b,o) (List.mem_append_right _ (List.mem_append_right _ (ZbO hb e)))).1,λb hb=>?_,w9⟩
    ·rw [I9.len];exact Zds own fr σ
    ·obtain ⟨o,e,d⟩:=T.obj _ _ st6 b hb
     exact (I9.pin (b,o) (List.mem_append_right _ (List.mem_append_right _ (ZbO hb e)))).2.1
   cases ok with
   | false=>exact (if_neg Bool.false_ne_true).mpr (again I8 (ZbR k7) (hN _ _ ((if_neg Bool.false_ne_true).mp q8)))
   | true=>
    refine (if_pos rfl).mpr ?_
    have q8':=(if_pos rfl).mp q8
    refine thn (he H2.objs.size s H fp _ s8 σ7 H8 _ I8 q8') λy s9 ⟨yv,H9,I9,r9,hD9,hz,q9⟩=>?_
    refine thn (Za5 _ s9 σ7 H9 (.ref s.heap.objs.size) [yv] (.ref s.heap.objs.size) [y] (λ_ H'=>H'=upd H9 s.heap.objs.size (.lst (ys++[yv]))) I9 rfl (.cons r9 .nil) ⟨_,ys,yv,rfl,rfl,hD9,hz,rfl⟩) λ_ s10 ⟨_,H10,I10,_,e10⟩=>?_
    subst e10
    exact again I10 (ZbR k7) (hN _ _ q9)
 exact codeAny_compStart_list (loop _ ⟨_,rfl⟩) (T.self _ 0 _ _ _ st1 (loop _ ⟨_,rfl⟩))
theorem Zdu {pins:List (Addr×Obj)} {σ:St} {H H':Hp} {s s':Shared} {fp:List Addr} (I:Inv X pins σ H s) (hf:∀ b∈fp,Zh0 X pins H b) (un:Un (frs X.stack) fp H H' s.heap s'.heap)
  (hok:HOk X.prog X.w H' s'.heap) (bare:AllBare s'.gens) (os:s'.os=s.os):Inv X pins σ H' s':=
 I.call' os un hok bare λb hb=>⟨(hf b hb).2.2.2.1,(hf b hb).2.1,(hf b hb).2.2.2.2.1,(hf b hb).2.2.2.2.2⟩
theorem Zfy {pins:List (Addr×Obj)} {σ σ':St} {H H':Hp} {s s':Shared} {C:Addr} {h':Heap} (I:Inv X pins σ H s) (hC:s.heap.objs.size<=C) (hn:H' C=none) (I':Inv X pins σ' H' s') (sb:Heap.SameBut C s'.heap h') :
  Inv X pins σ' H' { s' with heap:=h' }:=by
 obtain ⟨f0,f1,f2,f3,f4,f5⟩:=I.fpOk hC hn
 exact I'.turned (t':=s'.toks) (λb o hb e=>(sb.2 b hb).trans e) f0 f1 f3 f4 f5
theorem Zbi (hc:X.calm=true) (S:ZbE X scope cl own fr) (hi:PI X target iter wi)
  (hg:∀ C s H fp,PG (X.comp scope cl (own++fr.map (·.1)) C s H fp) target g) (ht:∀ C s H fp,Zlw (X.comp scope cl (own++fr.map (·.1)) C s H fp) ifs tc) (he:∀ C s H fp,PE (X.comp scope cl (own++fr.map (·.1)) C s H fp) elt te)
  (hs:∀ x,foldedSetIterable iter X.env x=pure x:=by intro _;rfl):PE X (.ListComp elt [⟨target,iter,ifs,0⟩] scope pos) (Zlx wi g tc te own fr):=by
 intro pins s σ H Q I h
 rw [eval_ListComp]
 refine wpAny_comprehension_free (use:=none) rfl hs S.clos S.kind S.names (thn (hi pins s σ H _ I h) λv s1 h1=>thn h1 λitv s2 h2=>?_)
 obtain ⟨it,fp,tn,J,H2,e,I2,T,st2,f2,hw⟩:=h2
 subst e
 refine Zdt (RR:=λacc C=>compPost (model X.prog X.w) X.A X.xe none (EP X pins σ Q) acc C) hc S I2 T st2 f2 hg ht he hw ?_
 rintro D C s' H' hC hDC ⟨m,hn⟩ hCf un hok bare os q
 refine ⟨m,hn,λh' hs'=>⟨.ref D,H',?_,rfl,q⟩⟩
 exact Zfy (C:=C) (σ:=σ) I2 hC hCf (Zdu I2 f2 un hok bare os) hs'
theorem ZjV {i:Nat} {y:Str} {py spos:Pos} (hN:X.N.Nodup) (hi':X.N[i]?=some y) (hx:Loc X.env.scope y) (hc:X.calm=true) (S:ZbE X scope cl own fr) (hi:PI X target iter wi)
  (hg:∀ C s H fp,PG (X.comp scope cl (own++fr.map (·.1)) C s H fp) target g) (ht:∀ C s H fp,Zlw (X.comp scope cl (own++fr.map (·.1)) C s H fp) ifs tc) (he:∀ C s H fp,PE (X.comp scope cl (own++fr.map (·.1)) C s H fp) elt te)
  (hf:X.fn y=true\/X.env.scope.names.lookup y=some .local:=by first | exact .inl rfl | exact .inr rfl | assumption)
  (hsw:swapsWith (.ListComp elt [⟨target,iter,ifs,0⟩] scope pos) (some (.Name y py)) spos.line X.env=pure true:=by rfl)
  (hs:∀ x,foldedSetIterable iter X.env x=pure x:=by intro _;rfl):PS X (.Assign [.Name y py] (.ListComp elt [⟨target,iter,ifs,0⟩] scope pos) spos) (ZmX (Zlx wi g tc te own fr) (Za7 i)):=by
 intro pins s σ H Dn I h
 rw [exec_Assign_Name_used _ _ _ _ hsw]
 refine wpAny_bind (wpAny_standAt (wpAny_bind ?_))
 show wpAny _ X.A (do let _ <- comprehension (.ListComp elt [⟨target,iter,ifs,0⟩] scope pos) scope X.env _ (newList []) false (eval iter X.env) (some (assign (.Name y py) X.env))) _ _ s
 refine wpAny_bind (wpAny_mono (wpAny_comprehension_free (use:=some (assign (.Name y py) X.env)) (Q:=λ_ s'=>SP X pins Dn .next s') rfl hs S.clos S.kind S.names (thn (hi pins s σ H _ I h) λv s1 h1=>thn h1 λitv s2 h2=>?_))
  (λ_ s' hq=>wpAny_pure (wpAny_pure hq)) λ_ _ e=>e)
 obtain ⟨it,fp,tn,J,H2,e,I2,T,st2,f2,hw⟩:=h2
 subst e
 refine Zdt (RR:=λacc C=>compPost (model X.prog X.w) X.A X.xe (some (assign (.Name y py) X.env)) (λ_ s'=>SP X pins Dn .next s') acc C) hc S I2 T st2 f2 hg ht he hw ?_
 rintro D C s' H' hC hDC ⟨m,hn⟩ hCf un hok bare os q
 have I3:Inv X pins σ H' s':=Zdu I2 f2 un hok bare os
 show wpAny _ X.A (assign (.Name y py) X.env (.ref D)) _ _ s'
 refine wpAny_assign_Name (Zee I3 hN hi' hx (v:=.ref D) rfl (λs4 I4 ⟨a,hsa,ha⟩=>?_) hf)
 have hCa:C≠a:=by
  rcases ha with z | z
  ·rw [z];exact Nat.ne_of_gt (Nat.lt_of_lt_of_le I2.lt hC)
  ·obtain ⟨v,q⟩:=I2.cell y a z
   exact Nat.ne_of_gt (Nat.lt_of_lt_of_le q.lt hC)
 refine ⟨m,hn.sameBut hsa hCa,λh' hs'=>⟨_,H',Zfy (C:=C) (σ:=σ) I2 hC hCf I4 hs',q⟩⟩
end
theorem Zba {K:PySem.W.Frag} {a D:Addr} {xs:List V} {g:TG} {tc:TT} {te:TE} {σ0:St} {R:Hp->Prop} {H1:Hp} (Pv:Nat->List V->Hp->Prop) (h0:Pv 0 [] (upd H1 D (.lst []))) (hl:∀ i ys H,i<=xs.length->Pv i ys H->SqL K H a xs)
  (hs:∀ i x ys H,xs[i]?=some x->Pv i ys H->g x σ0 H λσ4 H4=>Zdr σ0 σ4/\tc σ4 H4 λb H5=>if b=true then te σ4 H5 λy H6=>H6 D=some (.lst ys)/\ys.length<sizeLine/\Pv (i+1) (ys++[y]) (upd H6 D (.lst (ys++[y]))) else Pv (i+1) ys H5)
  (hd:∀ ys H,Pv xs.length ys H->R H):∃ W:Nat->Nat->List V->Hp->Prop,(∃ m,W 0 m [] (upd H1 D (.lst [])))/\Zch (Itl K a) D g tc te σ0 W R:=by
 refine ⟨λi m ys H=>m=xs.length-i/\i<=xs.length/\Pv i ys H,⟨_,rfl,Nat.zero_le _,h0⟩,?_⟩
 rintro i m ys H ⟨rfl,hi,p⟩
 have q:=hl i ys H hi p
 by_cases hlt:i<xs.length
 ·refine .inr ⟨⟨xs,xs[i],q,by simp [hlt]⟩,Pv (i+1),λys' H' p'=>⟨xs.length-(i+1),by omega,rfl,hlt,p'⟩,λx H' y=>?_⟩
  obtain ⟨e,y⟩:=y
  subst e
  exact hs i x ys _ (y xs q) p
 ·have e:i=xs.length:=by omega
  subst e
  exact .inl ⟨⟨xs,q,Nat.le_refl _⟩,hd ys H p⟩
theorem ZbS {lo:Int} {n:Nat} {D:Addr} {g:TG} {tc:TT} {te:TE} {σ0:St} {R:Hp->Prop} {H1:Hp} (Pv:Nat->List V->Hp->Prop) (h0:Pv 0 [] (upd H1 D (.lst [])))
  (hs:∀ i ys H,i<n->Pv i ys H->g (.int (lo+i)) σ0 H λσ4 H4=>Zdr σ0 σ4/\tc σ4 H4 λb H5=>if b=true then te σ4 H5 λy H6=>H6 D=some (.lst ys)/\ys.length<sizeLine/\Pv (i+1) (ys++[y]) (upd H6 D (.lst (ys++[y]))) else Pv (i+1) ys H5)
  (hd:∀ ys H,Pv n ys H->R H):∃ W:Nat->Nat->List V->Hp->Prop,(∃ m,W 0 m [] (upd H1 D (.lst [])))/\Zch (Itr lo n) D g tc te σ0 W R:=by
 refine ⟨λi m ys H=>m=n-i/\i<=n/\Pv i ys H,⟨_,rfl,Nat.zero_le _,h0⟩,?_⟩
 rintro i m ys H ⟨rfl,hi,p⟩
 by_cases hlt:i<n
 ·refine .inr ⟨hlt,Pv (i+1),λys' H' p'=>⟨n-(i+1),by omega,rfl,hlt,p'⟩,λx H' y=>?_⟩
  obtain ⟨e,y⟩:=y
  subst e y
  exact hs i ys _ hlt p
 ·have e:i=n:=by omega
  subst e
  exact .inl ⟨Nat.le_refl _,hd ys H p⟩
end L2
namespace L2
open PySem PySem.Spec PyProof.Rows
def Zgc (a C:Addr) (h:Heap):Prop:=∃ ob vs,h.get? a=some ob/\ob.cls=.ref C/\ob.data=.fields vs
def ZjW (a C:Addr):HO:=.ext (Zgc a C)
theorem ZjX {P:Program} {w:World} {H:Hp} {h:Heap} {a C:Addr} (x:Zgc a C h):ObjOk P w H h a (ZjW a C):=by
 refine ⟨x,?_,λh1 h2 p k=>?_⟩
 ·obtain ⟨ob,_,e,_⟩:=x
  exact ⟨ob,e⟩
 ·obtain ⟨ob,vs,e,c,d⟩:=p
  exact ⟨ob,vs,k ob e,c,d⟩
theorem ObjOk.there {P:Program} {w:World} {H:Hp} {h:Heap} {a:Addr} {u:HO} (ok:ObjOk P w H h a u):∃ v,h.get? a=some v:=by
 cases u with
 | lst xs=>obtain ⟨_,_,_,_,e⟩:=ok;exact ⟨_,e⟩
 | tup xs=>obtain ⟨_,_,_,o,e,_⟩:=ok;exact ⟨_,e⟩
 | dK kvs=>obtain ⟨_,_,_,_,o,_,_,e,_⟩:=ok;exact ⟨_,e⟩
 | dT kvs=>obtain ⟨_,_,_,_,o,_,_,e,_⟩:=ok;exact ⟨_,e⟩
 | set S n=>obtain ⟨o,_,_,_,e,_⟩:=ok;exact ⟨_,e⟩
 | ins C dx fs=>obtain ⟨_,_,_,e,_⟩:=ok;exact ⟨_,e⟩
 | own y=>obtain ⟨_,e⟩:=ok;exact ⟨_,e⟩
 | xd fs=>obtain ⟨_,⟨_,_,_,e,_⟩,_⟩:=ok;exact ⟨_,e⟩
 | rng lo hi=>obtain ⟨_,_,_,e⟩:=ok;exact ⟨_,e⟩
 | frz ob u=>obtain ⟨e,_⟩:=ok;exact ⟨_,e⟩
 | tbl ps=>exact ⟨_,show h.get? a=some _ from ok⟩
 | met f y=>exact ⟨_,show h.get? a=some _ from ok⟩
 | ext φ=>obtain ⟨_,⟨_,e⟩,_⟩:=ok;exact ⟨_,e⟩
def Zne (P:Program) (w:World) (outer:List Env) (H H':Hp) (s:Shared) (a C:Addr) (s':Shared):Prop:=
 ∃ (t:Addr) (B:Heap),s'.os=s.os/\AllBare s'.gens/\Un (frs outer) [] H H' s.heap s'.heap/\HOk P w H' s'.heap/\Heap.FlyingW B outer a (.ref C) (.ref t) s'.heap /\
  (∀ b o,s'.heap.get? b=some o->H' b≠none->B.get? b=some o)/\(∀ b o0 o,s.heap.get? b=some o0->s'.heap.get? b=some o->b ∉ frs outer->B.get? b=some o)
def CXr (P:Program) (w:World):CXT:=λouter H s E e s'=>∃ (a C:Addr) (H':Hp),e=.ref a/\Zne P w outer H H' s a C s'/\E (.ref C) none H'
section
variable {X:Cx} {pins:List (Addr×Obj)} {σ:St} {H:Hp} {s:Shared}
def Zfz (X:Cx) (E:XK):Prop:=∀ (pins:List (Addr×Obj)) (σ:St) (H:Hp) (s:Shared) (h':Heap) (a C:Addr) (vs:List Value),Inv X pins σ H s->Heap.MadeExcOf s.heap h' a (.ref C) vs->E (.ref C) none H->X.xe (.ref a) { s with heap:=h' }
theorem ZbF {P:Program} {w:World} {K:PySem.W.Frag} {mg:Str->Option Value} {base:Heap} {N:List Str} {qual:Str} {scope:Scope} {f:Addr} {cd:Value} {A:Around} {outer:List Env} {s:Shared} {H:Hp} {E:XK} :
  Zfz (ZgN (CXr P w) P w K mg base N qual scope f cd A outer s H E) E:=by
 intro pins σ H1 s1 h' a C vs I hx hE
 have hfr:=I.ok.frames
 have hst:s1.heap.FunFrames base (envOfC qual scope s.heap.objs.size f cd::outer):=I.stack
 have hin:∀ env∈(envOfC qual scope s.heap.objs.size f cd::outer),∀ b,env.frame=some b->b∈frs (envOfC qual scope s.heap.objs.size f cd::outer):=λenv he b hb=>List.mem_filterMap.mpr ⟨env,he,hb⟩
 have inB:∀ b o,s1.heap.get? b=some o->b ∉ frs (envOfC qual scope s.heap.objs.size f cd::outer)->(PySem.W.hideAll s1.heap (frs (envOfC qual scope s.heap.objs.size f cd::outer))).get? b=some o:=λb o e n=>PySem.W.hideAll_get _ e n
 refine wpAny_leaves_madeW (base:=PySem.W.hideAll s1.heap (frs (envOfC qual scope s.heap.objs.size f cd::outer))) hfr rfl (λb o q=>PySem.W.of_hideAll _ q) (PySem.W.funFrames_hide hst hin) hx λh2 t fl tu tn sm=>?_
 refine ⟨a,C,H1,rfl,⟨t,_,I.os,I.bare,⟨λb o e n hb _=>?_,λb o e n hb _=>?_,λb o e n _=>?_,λb o e _=>?_,I.base.tups,I.base.frzs,I.base.tbls⟩,λb u e=>?_,fl,λb o e n=>?_,λb o0 o e0 e nb=>?_⟩,hE⟩
 ·have e1:s1.heap.get? b=some o:=I.base.keep b o e n hb (by intro z;exact absurd (show b∈([]:List Addr) from z) (by simp))
  refine fl.1 b o (inB b o e1 λz=>?_)
  rcases List.mem_cons.mp (I.stkSub b z) with q | q
  ·exact absurd (Nat.lt_of_lt_of_le (Heap.lt_size e) I.ok.above) (by rw [q];exact Nat.lt_irrefl _)
  ·exact hb q
 ·obtain ⟨sl,e1⟩:=I.base.slot b o e n hb (by intro z;exact absurd (show b∈([]:List Addr) from z) (by simp))
  have nf:∀ vs,o.data≠.fields vs:=by
   obtain ⟨_,o',ho',hnf⟩:=I.funs.mem (show b∈(outer.filterMap (·.frame)) from hb)
   rw [e1] at ho';cases ho'
   exact hnf
  obtain ⟨sl',e2⟩:=sm b { o with slots:=sl } (hx.keeps b _ e1) nf
  exact ⟨sl',e2⟩
 ·exact I.base.free b o e n (by intro z;exact absurd (show b∈([]:List Addr) from z) (by simp))
 ·obtain ⟨o1,e1⟩:=I.base.there b o e (by intro z;exact absurd (show b∈([]:List Addr) from z) (by simp))
  by_cases hb:b∈frs (envOfC qual scope s.heap.objs.size f cd::outer)
  ·obtain ⟨_,o',ho',hnf⟩:=hst.mem hb
   rw [e1] at ho';cases ho'
   obtain ⟨sl',e2⟩:=sm b o1 (hx.keeps b _ e1) hnf
   exact ⟨_,e2⟩
  ·exact ⟨o1,fl.1 b o1 (inB b o1 e1 hb)⟩
 ·have trk:∀ c v,s1.heap.get? c=some v->H1 c≠none->h2.get? c=some v:=λc v q hc=>fl.1 c v (inB c v q λz=>hc (I.stkFree c z))
  refine (I.hok b u e).stay (λc v hc q=>trk c v q ?_) (λ_ q=>q) λ_ _ q=>q
  rcases hc with z | z
  ·rw [z,e];simp
  ·rw [z];simp
 ·cases q':H1 b with
  | none=>exact absurd q' n
  | some u=>
   obtain ⟨v,q⟩:=(I.hok b u q').there
   have nb:b ∉ frs (envOfC qual scope s.heap.objs.size f cd::outer):=λz=>n (I.stkFree b z)
   have e2:=fl.1 b v (inB b v q nb)
   rw [e] at e2;cases e2
   exact inB b _ q nb
 ·obtain ⟨o1,e1⟩:=I.base.there b o0 e0 (by intro z;exact absurd (show b∈([]:List Addr) from z) (by simp))
  have nb':b ∉ frs (envOfC qual scope s.heap.objs.size f cd::outer):=λz=>by
   rcases List.mem_cons.mp (I.stkSub b z) with q | q
   ·exact absurd (Nat.lt_of_lt_of_le (Heap.lt_size e0) I.ok.above) (by rw [q];exact Nat.lt_irrefl _)
   ·exact nb q
  have e2:=fl.1 b o1 (inB b o1 e1 nb')
  have e':h2.get? b=some o:=e
  rw [e'] at e2;cases e2
  exact inB b _ e1 nb'
theorem ZfA {P:Program} {w:World} {outer:List Env} {H H':Hp} {s s':Shared} {a C t:Addr} {B h2:Heap} (un:Un (frs outer) [] H H' s.heap s'.heap) (hok:HOk P w H' s'.heap) (fr:s'.heap.FunFrames B outer)
  (trk:∀ b o,s'.heap.get? b=some o->H' b≠none->B.get? b=some o) (old:∀ b o0 o,s.heap.get? b=some o0->s'.heap.get? b=some o->b ∉ frs outer->B.get? b=some o) (st:B.StaysIn h2) (sm:s'.heap.UpToSlots h2) :
  Un (frs outer) [] H H' s.heap h2/\HOk P w H' h2:=by
 refine ⟨⟨λb o e n hb hx=>st b o (old b o o e (un.keep b o e n hb hx) hb),λb o e n hb hx=>?_,un.free,λb o e hx=>?_,un.tups,un.frzs,un.tbls⟩,λb u e=>?_⟩
 ·obtain ⟨sl,e1⟩:=un.slot b o e n hb hx
  obtain ⟨_,o',ho',hnf⟩:=fr.mem hb
  rw [e1] at ho';cases ho'
  obtain ⟨sl',e2⟩:=sm b _ e1 hnf
  exact ⟨sl',e2⟩
 ·obtain ⟨o1,e1⟩:=un.there b o e hx
  by_cases hb:b∈frs outer
  ·obtain ⟨_,o',ho',hnf⟩:=fr.mem hb
   rw [e1] at ho';cases ho'
   obtain ⟨sl',e2⟩:=sm b _ e1 hnf
   exact ⟨_,e2⟩
  ·exact ⟨o1,st b o1 (old b o o1 e e1 hb)⟩
 ·refine (hok b u e).stay (λc v hc q=>st c v (trk c v q ?_)) (λ_ q=>q) λ_ _ q=>q
  rcases hc with z | z
  ·rw [z,e];simp
  ·rw [z];simp
theorem Inv.track {a:Addr} {u:HO} (I:Inv X pins σ H s) (hn:H a=none) (f1:a≠X.env.locals) (f4:∀ x c,X.env.cells.lookup x=some c->c≠a) (f5:∀ p∈X.pn++pins,p.1≠a) (hs:X.s₀.heap.get? a=none)
  (ok:∀ H',ObjOk X.prog X.w H' s.heap a u):Inv X pins σ (upd H a u) s:=by
 refine ⟨I.ok,I.os,I.bare,⟨I.base.keep,I.base.slot,λb o e n z=>?_,I.base.there,λb xs e=>?_,λb o x e=>?_,λb ps e=>?_⟩,I.loc,I.cell,?_,λx c e=>?_,λp hp=>?_,λb v e=>?_,I.len⟩
 ·rw [Zam (show b≠a from λq=>by rw [q,hs] at e;cases e)]
  exact I.base.free b o e n z
 ·have:=I.base.tups b xs e
  rw [Zam (Zae this hn)];exact this
 ·have:=I.base.frzs b o x e
  rw [Zam (Zae this hn)];exact this
 ·obtain ⟨more,this⟩:=I.base.tbls b ps e
  exact ⟨more,by rw [Zam (Zae this hn)];exact this⟩
 ·rw [Zam (Ne.symm f1)];exact I.free
 ·rw [Zam (f4 x c e)];exact I.freeC x c e
 ·obtain ⟨e,n,r⟩:=I.pin p hp
  exact ⟨e,by rw [Zam (f5 p hp)];exact n,r⟩
 ·by_cases hb:b=a
  ·subst hb
   rw [Zab] at e;cases e
   exact ok _
  ·rw [Zam hb] at e
   exact (I.hok b v e).stay (λ_ _ _ q=>q) (λc q=>by rw [Zam (Zae q hn)];exact q) λc xs q=>by rw [Zam (Zae q hn)];exact q
end
end L2
namespace L2
open PySem PySem.Spec PyProof.Rows
abbrev Zn1:List Value:=[.type "ValueError", .type "Exception", .type "BaseException", .type "object"]
abbrev ExcC (K:PySem.W.Frag) (C:Addr):Prop:=PySem.W.excIn K C Zn1 "ValueError.__new__" = true
theorem ZeZ {K:PySem.W.Frag} {h:Heap} {C:Addr} (KX:K.In h) (ex:ExcC K C):∃ mro' ns' mN',(∃ nm' qn' bs' hd' sn' sub' ab' col' dd' j0 j1 j2 j3 j5,
  h.get? C=some (excClassObj nm' qn' C ns' bs' mro' hd' sn' sub' ab' col' dd' j0 j1 j2 j3 j5 "ValueError.__new__"))/\h.Ns ns' mN'/\mN' "__init__" = none/\OwnTail h Zn1 mro':=by
 have ex':=ex
 unfold ExcC PySem.W.excIn at ex'
 split at ex'
 ·rename_i dd' cd' sl' lk
  have lk':=KX _ _ lk
  split at ex'
  ·rename_i C' rest' j0 j1 j2 j3 n' j5 hm hs
   rw [Bool.and_eq_true,Bool.and_eq_true,Bool.and_eq_true,Bool.and_eq_true,Bool.and_eq_true,beq_iff_eq,beq_iff_eq,beq_iff_eq] at ex'
   obtain ⟨⟨⟨⟨⟨z1,z2⟩,z3⟩,z4⟩,z5⟩,z6⟩:=ex'
   have z3':cd'.hasDel=false:=by simpa using z3
   subst z1 z2
   cases cd' with
   | mk a1 a2 a3 a4 a5 a6 a7 a8 a9 a10 a11=>
    have hm':a3=.ref C'::rest':=hm
    have h11:a11=false:=z3'
    subst hm' h11
    have es:sl'=#[j0,j1,j2,j3,some (.builtin "ValueError.__new__"),j5]:=by
     cases sl' with
     | mk l=>exact congrArg Array.mk hs
    subst es
    exact ⟨rest',a4,_,⟨_,_,_,_,_,_,_,_,_,_,_,_,_,_,lk'⟩,.of_isNs (PySem.W.isNs_of_in KX z5),PySem.W.nsMap_none_of_in KX z5 z6,PySem.W.tail_of_in KX z4⟩
  ·cases ex'
 ·cases ex'
section
variable {X:Cx}
def Zly (C:Addr) (E:XK) (t:TA):TS:=λ_ σ H=>t σ H λvs H1=>vs.length<=sizeLine/\E (.ref C) none H1
theorem ZdP {C:Addr} {E:XK} {x:Str} {np cpos pos:Pos} {e:Expr} {es:List Expr} {t:TA} (hc:X.calm=true) (hR:Zfz X E) (hg:Gl X x) (hm:X.mg x=some (.ref C)) (ex:ExcC X.K C) (ha:PA X (e::es) t)
  (hdb:(x == ("__debug__" : Str))=false:=by decide) (he:starEach (e::es) X.env=(false,eval e X.env)::starEach es X.env:=by rfl) (hpl:(backTo cpos (starEach es X.env)).any (·.1)=false:=by rfl) :
  PS X (.Raise (some (.Call (.Name x np) (e::es) [] cpos)) none pos) (Zly C E t):=by
 intro pins s σ H D I h
 obtain ⟨mro',ns',mN',⟨nm',qn',bs',hd',sn',sub',ab',col',dd',j0,j1,j2,j3,j5,hC⟩,hN,hni,T⟩:=ZeZ I.mod.kin ex
 refine wpAny_Raise_call_subT (C:=C) (nm:=nm') (q:=qn') (N:=ns') (bs:=bs') (bm:=mro') (hdct:=hd') (sn:=sn') (sub:=sub') (ab:=ab') (col:=col') (dd:=dd') (k0:=j0) (k1:=j1) (k2:=j2) (k3:=j3) (k5:=j5)
  PySem.F.excBase_ValueError (mN:=mN') (T.hasType PySem.F.excBase_ValueError.hasBase) (I.ok.hd hc) (by rw [he];show (false || (backTo cpos (starEach es X.env)).any (·.1))=false;rw [hpl];rfl) hni (Zc4 I hg hm ⟨rfl,?_⟩ hdb)
 have hA:=ha cpos pins s σ H _ I h
 rw [he] at hA ⊢
 refine Calls.evalArgs_plain (thn hA λus s2 ⟨vs,H2,I2,r2,hl,q2⟩=>?_)
 exact ⟨rfl,by rw [<-r2.length];exact hl,I2.bk _ _ hC,hN.keeps I2.bk,T.keeps I2.bk,λh' a hm=>hR pins σ H2 s2 h' a C us I2 hm q2⟩
def Cx.inExc (X:Cx) (a:Addr):Cx:={ X with A:=X.A.mark (some (.ref a)),calm:=false,xe:=λ_ _=>False }
theorem Cx.Ok.inExc {X:Cx} (ok:X.Ok) (a:Addr):(X.inExc a).Ok:=
 ⟨ok.mod,ok.kind,ok.glob,ok.blt,ok.above,ok.inj,ok.has,ok.cab,(λz=>nomatch z),ok.frames,ok.stk,ok.exf,ok.bs,ok.bsz,ok.noex,ok.exfs,ok.funs,ok.frf⟩
variable {pins:List (Addr×Obj)} {σ:St} {H:Hp} {s:Shared}
theorem Inv.inExc (I:Inv X pins σ H s) (a:Addr):Inv (X.inExc a) pins σ H s:=⟨I.ok.inExc a,I.os,I.bare,I.base,I.loc,I.cell,I.free,I.freeC,I.pin,I.hok,I.len⟩
theorem Inv.outExc {a:Addr} (ok:X.Ok) (I:Inv (X.inExc a) pins σ H s):Inv X pins σ H s:=⟨ok,I.os,I.bare,I.base,I.loc,I.cell,I.free,I.freeC,I.pin,I.hok,I.len⟩
theorem ZcZ {M:Model} {A:Around} {E:Value->Shared->Prop} {i:Nat} {n:Str} {pos:Pos} {Q:Unit->Shared->Prop} (I:Inv X pins σ H s) (hN:X.N.Nodup) (hi:X.N[i]?=some n) (hl:X.env.scope.names.lookup n=some .local)
  (h:∀ s',Inv X pins (σ.set i none) H s'->Q () s'):wpAny M A (do bindName X.env n .none;unbindBehindTheSuite X.env n pos) Q E s:=by
 obtain ⟨m,hn,hlk⟩:=id I.loc
 refine wpAny_nameGoes_keeps hl hn (by rw [I.ok.kind];rfl) λh' v hn' sb=>h _ ?_
 have old:∀ b o,X.s₀.heap.get? b=some o->b≠X.env.locals:=λb o e=>Nat.ne_of_lt (Nat.lt_of_lt_of_le (Heap.lt_size e) I.ok.above)
 have hLn:∀ b u,H b=some u->b≠X.env.locals:=λb u e z=>by rw [z,I.free] at e;cases e
 refine ⟨I.ok,I.os,I.bare,⟨λb o e z hb hx=>(sb.2 b (old b o e)).trans (I.base.keep b o e z hb hx),λb o e z hb hx=>?_,I.base.free,λb o e hx=>?_,I.base.tups,I.base.frzs,I.base.tbls⟩,
  ⟨_,hn',λj y v' e1 e2 e3=>?_⟩,λy c e=>?_,I.free,I.freeC,λp hp=>?_,λb u e=>?_,by simpa using I.len⟩
 ·obtain ⟨sl,q⟩:=I.base.slot b o e z hb hx
  exact ⟨sl,(sb.2 b (old b o e)).trans q⟩
 ·obtain ⟨o',q⟩:=I.base.there b o e hx
  exact ⟨o',(sb.2 b (old b o e)).trans q⟩
 ·by_cases hj:j=i
  ·subst hj
   have hiσ:j<σ.length:=by rw [I.len];exact (List.getElem?_eq_some_iff.mp hi).1
   rw [List.getElem?_set_self hiσ] at e2
   cases e2
  ·rw [List.getElem?_set_ne (Ne.symm hj)] at e2
   obtain ⟨u,ru,lk⟩:=hlk j y v' e1 e2 e3
   refine ⟨u,ru,?_⟩
   have hyn:y≠n:=λz=>hj (ZdI hN e1 (z▸hi))
   rcases lk with ⟨k,e⟩ | ⟨k,c,e,z⟩
   ·exact .inl ⟨k,by simp [hyn,e]⟩
   ·exact .inr ⟨k,c,e,z.sameBut sb (I.cne y c e)⟩
 ·obtain ⟨v',z⟩:=I.cell y c e
  exact ⟨v',z.sameBut sb (I.cne y c e)⟩
 ·obtain ⟨e,z,ne,nf,d⟩:=I.pin p hp
  exact ⟨(sb.2 p.1 ne).trans e,z,ne,nf,d⟩
 ·refine (I.hok b u e).stay (λc v' hc q=>(sb.2 c ?_).trans q) (λ_ q=>q) λ_ _ q=>q
  rcases hc with z | z
  ·rw [z];exact hLn b u e
  ·exact hLn c _ z
end
end L2
namespace L2
open PySem PySem.Spec PyProof.Rows
theorem ZdQ {M:Model} {h:Heap} {a C:Addr} (hx:Zgc a C h):PySem.W.Looks M h (typeOf (.ref a)) (.ref C):=by
 obtain ⟨ob,vs,e,c,d⟩:=hx
 exact c▸(PySem.W.Looks.ld e).andThen .now
theorem ZgU {K:PySem.W.Frag} {M:Model} {A:Around} {E:Value->Shared->Prop} {Q:Bool->Shared->Prop} {s:Shared} {a C W:Addr} {b:Bool} (KX:K.In s.heap) (hx:Zgc a C s.heap)
  (hk:PySem.W.kitCls K (.ref C) (.ref W)=some b) (hb:PySem.W.subIn K (.ref W) (.type "BaseException")=some true) (h:Q b s):wpAny M A (excMatches (.ref a) (.ref W)) Q E s:=by
 obtain ⟨hty,his,hsub⟩:=PySem.W.kit_cls (M:=M) KX hk
 have hB:=PySem.W.looks_subIn (M:=M) KX hb
 have LT:=ZdQ (M:=M) hx
 obtain ⟨h0,g,dd,tk,os⟩:=s
 have f:=tc_notTuple
 unfold excMatches isInstance isExcClass
 refine wpAny_bind (wpAny_bind (hty.at (wpAny_of_eq f ?_)))
 simp only [Bool.false_eq_true,if_false]
 refine wpAny_bind (wpAny_pure ?_)
 simp only [List.forIn_cons,List.forIn_nil]
 refine wpAny_bind (wpAny_bind (wpAny_bind (wpAny_bind (his.at ?_))))
 simp only [if_true]
 refine hB.at ?_
 simp only [Bool.not_true,Bool.false_eq_true,if_false]
 refine wpAny_pure (wpAny_pure ?_)
 refine wpAny_bind (LT.at ?_)
 refine wpAny_bind (wpAny_bind (wpAny_bind (hsub.at ?_)))
 cases b with
 | true=>simp only [if_true];first | exact wpAny_pure (wpAny_pure (wpAny_pure h)) | exact wpAny_pure (wpAny_pure h) | exact wpAny_pure h
 | false=>simp only [Bool.false_eq_true,if_false];first | exact wpAny_pure (wpAny_pure (wpAny_pure h)) | exact wpAny_pure (wpAny_pure h) | exact wpAny_pure h
section
variable {X:Cx} {k:Nat} {f:Addr} {fd:FuncData} {ps:List Str} {sp:Sp} {dvs:List V} {ds:List Value} {fx:Str} {fp cpos bpos np hpos pos:Pos} {e:Expr} {es:List Expr} {t:TA}
def ZgV (K:PySem.W.Frag) (W:Addr) (i:Nat) (ts:TS) (D:Ends) (σ:St):XK:=λcls _ H2=>∃ C,cls=.ref C/\PySem.W.kitCls K (.ref C) (.ref W)=some true /\
 ∀ a,H2 a=none->ts { nx:=λσ' H'=>D.nx (σ'.set i none) H',rt:=D.rt,bk:=λσ' H'=>D.bk (σ'.set i none) H',ct:=λσ' H'=>D.ct (σ'.set i none) H' } (σ.set i (some (.ref a))) (upd H2 a (ZjW a C))
theorem handled {pins:List (Addr×Obj)} {σ:St} {H:Hp} {s s':Shared} {D:Ends} {W:Addr} {wx n:Str} {i:Nat} {b0:Stmt} {suite:List Stmt} {rest:List ExceptHandler} {ts:TS} {ev:Value}
  (hc:X.calm=true) (hst:X.stack=X.env::X.outer) (hfr:X.env.frame=some X.env.locals) (hex:X.ex=[]) (hN:X.N.Nodup) (hi:X.N[i]?=some n) (hl:X.env.scope.names.lookup n=some .local)
  (hgW:Gl X wx) (hmW:X.mg wx=some (.ref W)) (hbE:PySem.W.subIn X.K (.ref W) (.type "BaseException")=some true) (hsu:∀ a,PSs (X.inExc a) (b0::suite) ts) (I:Inv X pins σ H s)
  (h:CXr X.prog X.w X.stack H s (ZgV X.K W i ts D σ) ev s') (hdb:(wx == ("__debug__" : Str))=false:=by decide) :
  wpAny (model X.prog X.w) X.A (noteFrame ev X.env) (λ_ s2=>wpAny (model X.prog X.w) X.A (setFlight ev none) (λ_ s3=>
   wpAny (model X.prog X.w) X.A (handleBy ev X.env (.ExceptHandler (some (.Name wx np)) (some n) (b0::suite) hpos::rest)) (SP X pins D) X.xe s3) X.xe s2) X.xe s':=by
 obtain ⟨a,C,H',rfl,⟨t,B,os,bare,un,hok,fl,trk,old⟩,C',eC,hk,q⟩:=h
 cases eC
 have ff:∀ {E:Value->Shared->Prop},∀ (x:Value) (s:Shared),(λ(_:Value) (_:Shared)=>False) x s->E x s:=λ_ _ z=>False.elim z
 have flX:=fl
 rw [hst] at flX
 have afr:=I.ok.frames
 rw [hst] at afr
 have new:s.heap.get? a=none:=by
  cases z:s.heap.get? a with
  | none=>rfl
  | some o0=>
   exfalso
   obtain ⟨ob,vs,e1,c1,d1,_⟩:=fl.first
   by_cases hb:a∈frs X.stack
   ·obtain ⟨_,o',ho',hnf⟩:=fl.2.2.1.mem hb
    rw [e1] at ho';cases ho'
    exact hnf vs d1
   ·have:=old a o0 ob z e1 hb
    rw [fl.2.1] at this;cases this
 have hna:H' a=none:=by
  cases z:H' a with
  | none=>rfl
  | some u=>
   exfalso
   obtain ⟨ob,vs,e1,_⟩:=fl.first
   have:=trk a ob e1 (by rw [z];simp)
   rw [fl.2.1] at this;cases this
 have na1:a≠X.env.locals:=λz=>by
  obtain ⟨m,⟨o,_,_,ho,_⟩,_⟩:=I.loc
  rw [<-z,new] at ho;cases ho
 have na2:∀ x c,X.env.cells.lookup x=some c->c≠a:=λx c e z=>by
  obtain ⟨v,o,ho,_⟩:=I.cell x c e
  rw [z,new] at ho;cases ho
 have na3:∀ p∈X.pn++pins,p.1≠a:=λp hp z=>by
  have:=(I.pin p hp).1
  rw [z,new] at this;cases this
 have na4:X.s₀.heap.get? a=none:=by
  cases z:X.s₀.heap.get? a with
  | none=>rfl
  | some o=>
   obtain ⟨o',e'⟩:=I.base.there a o z (by rw [hex];simp)
   rw [new] at e';cases e'
 have at_:∀ {h2:Heap} {tk:Nat},B.StaysIn h2->s'.heap.UpToSlots h2->Inv X pins σ H' { s' with heap:=h2,toks:=tk }:=λ{h2 tk} st sm=>by
  obtain ⟨u2,k2⟩:=ZfA (t:=t) (a:=a) (C:=C) un hok fl.2.2.1 trk old st sm
  exact I.call' (ch:=[]) os u2 k2 bare (λb z=>absurd z (by simp))
 refine wpAny_looks_onW afr hfr flX λh4 held4 sm4=>?_
 refine wpAny_landsW held4 λh5 fl5 sm5=>?_
 have I5:Inv X pins σ H' { s' with heap:=h5 }:=at_ (tk:=s'.toks) fl5.1 (sm4.trans sm5)
 refine wpAny_handleBy_cons (codeAny_handlers_test ?_) (by intro q;cases q)
 refine Zc4 (X:=X.inExc a) (I5.inExc a) hgW hmW ?_ hdb
 obtain ⟨ob,vs,e1,c1,d1,_⟩:=fl5.first
 refine ZgU (b:=true) I5.kIn ⟨ob,vs,e1,c1,d1⟩ hk hbE ?_
 refine codeAny_handlers_suite_as ?_
 refine lands_againW fl5 λh6 fl6 sm6=>?_
 have I6:Inv X pins σ H' { s' with heap:=h6 }:=at_ (tk:=s'.toks) fl6.1 ((sm4.trans sm5).trans sm6)
 obtain ⟨ob6,vs6,e6,c6,d6,_⟩:=fl6.first
 have I7:=I6.track (u:=ZjW a C) hna na1 na2 na3 na4 λH2=>ZjX ⟨ob6,vs6,e6,c6,d6⟩
 refine ZcW (X:=X.inExc a) (I7.inExc a) hN hi (.inl hl) (v:=.ref a) rfl (λs8 I8=>?_) (.inr hl)
 refine wpAny_mono (hsu a pins s8 _ _ _ I8 (q a hna)) (λfl s9 q9=>?_) ff
 show wpAny _ _ (do bindName X.env n .none;unbindBehindTheSuite X.env n hpos) _ _ s9
 cases fl with
 | next=>
  obtain ⟨σ9,H9,I9,q9⟩:=q9
  exact ZcZ (I9.outExc I.ok) hN hi hl λs10 I10=>⟨_,_,I10,q9⟩
 | brk=>
  obtain ⟨σ9,H9,I9,q9⟩:=q9
  exact ZcZ (I9.outExc I.ok) hN hi hl λs10 I10=>⟨_,_,I10,q9⟩
 | cont=>
  obtain ⟨σ9,H9,I9,q9⟩:=q9
  exact ZcZ (I9.outExc I.ok) hN hi hl λs10 I10=>⟨_,_,I10,q9⟩
 | ret u=>
  obtain ⟨v,σ9,H9,I9,r9,q9⟩:=q9
  exact ZcZ (I9.outExc I.ok) hN hi hl λs10 I10=>⟨v,_,_,I10,r9,q9⟩
theorem Zic {pins:List (Addr×Obj)} {σ:St} {H:Hp} {s:Shared} {Q:VK} {E:XK} {QQ:Value->Shared->Prop} {EE:Value->Shared->Prop} (F:ZaO X.prog X.w X.K X.mg X.base (CXr X.prog X.w) k f fd ps sp) (hr:Room k X.A) (hg:Gl X fx) (hm:X.mg fx=some (.ref f)) (hk:PySem.W.keepIn X.K (.ref f)=true)
  (hb:Binds X.K fd ps ds) (hd:Vals dvs ds) (ha:PA X.nox (e::es) t) (I:Inv X pins σ H s) (h:t σ H λvs H1=>sp (vs++dvs) H1 Q E)
  (hQ:∀ u s',EP X pins σ Q u s'->QQ u s') (hE:∀ ev H1 s1 s',Inv X pins σ H1 s1->CXr X.prog X.w X.stack H1 s1 E ev s'->EE ev s')
  (hdb:(fx == ("__debug__" : Str))=false:=by decide) (he:starEach (e::es) X.env=(false,eval e X.env)::starEach es X.env:=by rfl) (hpl:(backTo cpos (starEach es X.env)).any (·.1)=false:=by rfl) :
  wpAny (model X.prog X.w) X.A (eval (.Call (.Name fx fp) (e::es) [] cpos) X.env) QQ EE s:=by
 refine wpAny_Call_Name_kw (Zc4 I hg hm ?_ hdb)
 refine PySem.W.callWith_K (h₀:=X.base) I.ok.mod.kin hk (wpAny_mono (ha cpos pins s σ H _ (I.wish _) h) (λus s1 ⟨vs,H1,I1,r,q⟩=>⟨I1.unwish.kIn,?_⟩) (λ_ _ z=>False.elim z)) he hpl
 have I1:=I1.unwish
 have r2:Vals (vs++dvs) (us++ds):=r.append hd
 have hl:(us++ds).length=ps.length:=by rw [<-r2.length];exact F.len _ _ _ _ q
 refine wpAny_call (codeAny_mono (F.run X.A X.stack s1 H1 ⟨us,[]⟩ (us++ds) (vs++dvs) Q E hr I1.env0 (hb s1 us I1.kIn hl) r2 q) λr s' hq=>?_)
 cases r with
 | error ev=>exact hE ev H1 s1 s' I1 hq
 | ok fl=>
  cases fl with
  | ret u=>exact hQ u s' (I1.after hq)
  | next=>exact False.elim hq
  | brk=>exact False.elim hq
  | cont=>exact False.elim hq
def ZpD (K:PySem.W.Frag) (W:Addr) (i:Nat) (sp:Sp) (dvs:List V) (t:TA) (ts:TS):TS:=λD σ H=>t σ H λvs H1=>sp (vs++dvs) H1 (λ_ H2=>D.nx σ H2) (ZgV K W i ts D σ)
end
end L2
namespace L2
open PySem PySem.Spec PyProof.Rows
theorem ZgW {K:PySem.W.Frag} {prog:Program} {w:World} {A:Around} {E:Value->Shared->Prop} {Q:Option Value->Shared->Prop} {s:Shared} {a C:Addr} (KX:K.In s.heap) (hx:Zgc a C s.heap)
  (hga:PySem.W.findIn K (.ref C) "__getattribute__" = some (some (.builtin "BaseException.__getattribute__"))) (hnga:PySem.W.findIn K (.ref C) "__getattr__" = some none)
  (hcl:PySem.W.findIn K (.ref C) "__class__" = some (some (.builtin "object.__class__"))) (hm:PySem.W.mroIn K C (.type "object")=some true) (hB:PySem.W.subIn K (.ref C) (.type "BaseException")=some true)
  (h:Q (some (.ref C)) { s with toks:=s.toks+1 }):wpAny (model prog w) A (getAttr? (.ref a) "__class__") Q E s:=by
 have L0:=ZdQ (M:=model prog w) hx
 have L1:=PySem.W.looks_findIn (M:=model prog w) KX hga
 have L2:=PySem.W.looks_findIn (M:=model prog w) KX hnga
 have L3:=PySem.W.looks_findIn (M:=model prog w) KX hcl
 have L4:=PySem.W.looks_subIn (M:=model prog w) KX hB
 obtain ⟨h0,g,d,t,os⟩:=s
 have f3:=PySem.F.attr_ValueError.ga.bind (.ref a)
 unfold getAttr? getAttrBy? getAttrBy
 refine wpAny_bind (wpAny_mkText (wpAny_bind (wpAny_attempt (wpAny_holding (wpAny_bind (L0.at (wpAny_bind (L1.at ?_))))))))
 dsimp only
 have hx2:(onTheHeap (Value.ref C) && Value.builtin "BaseException.__getattribute__" == Value.builtin "object.__getattribute__")=false:=by
  have z:(Value.builtin "BaseException.__getattribute__" == Value.builtin "object.__getattribute__")=false:=by decide +kernel
  rw [z,Bool.and_false]
 rw [hx2]
 simp only [Bool.false_eq_true,if_false]
 unfold getAttrByItsOwn
 repeat (any_goals (first | assumption | with_reducible refine L0.at ?_ | with_reducible refine L2.at ?_ | wp_step))
 have hsp:splitId "BaseException.__getattribute__" = some ("BaseException", "__getattribute__"):=by decide +kernel
 have hkd:builtinKind "BaseException.__getattribute__" = some .slot:=by decide +kernel
 have har:=PySem.F.args_bexc_ga (.ref a) (.str (Str.ofString "__class__") t)
 refine codeAny_call_builtin PySem.F.attr_ValueError.ga.plain PySem.F.entry_bexc_ga ?_
 show wpAny _ _ (checkBuiltinCall "BaseException.__getattribute__" ⟨[.ref a,.str (Str.ofString "__class__") t],[]⟩) _ _ _
 simp only [checkBuiltinCall,hkd,hsp]
 refine wpAny_bind ?_
 unfold isInstance
 have f5:=PySem.F.typeOf_object_class
 have f6:=PySem.F.slot_gs_get.lookup
 have f7:=PySem.F.slot_gs_set.lookup
 have hT5:(⟨h0,g,d,t+1,os⟩:Shared).TypeIs (.builtin "object.__class__") "getset_descriptor" := PySem.F.typeOf_object_class
 refine wpAny_bind (L0.at (L4.at ?_))
 repeat (any_goals (first | assumption | with_reducible refine L0.at ?_ | with_reducible refine L3.at ?_ | wp_step))
 have Lo:PySem.W.Looks (model prog w) h0 (isSubtype (.ref C) (.type (".".intercalate ("object.__class__".cutAt '.').dropLast))) true:=by
  rw [PySem.F.owner_object_class]
  exact PySem.W.looks_mroIn KX hm
 have hT6:(⟨h0,g,d,t+1,os⟩:Shared).TypeIs (.builtin "object.__class__") "getset_descriptor" := PySem.F.typeOf_object_class
 refine codeAny_call_builtin PySem.F.slot_gs_get.plain PySem.F.entry_gs_get (PySem.F.slot_gs_get.check _ _ _ _ _ _ _ _ hT6 (PySem.F.args_gs_get _ _ _) ?_)
 repeat (any_goals (first | assumption | with_reducible refine L0.at ?_ | with_reducible refine Lo.at ?_ | wp_step))
 refine ⟨Code.quiet_builtin _ (by decide +kernel),codeAny_builtin PySem.F.entry_object_class ?_⟩
 repeat (any_goals (first | assumption | with_reducible refine L0.at ?_ | wp_step))
end L2
namespace L2
open PySem PySem.Spec PyProof.Rows
structure ZmP (K:PySem.W.Frag) (C:Addr):Prop where
 ex:ExcC K C
 ga:PySem.W.findIn K (.ref C) "__getattribute__" = some (some (.builtin "BaseException.__getattribute__"))
 nga:PySem.W.findIn K (.ref C) "__getattr__" = some none
 cl:PySem.W.findIn K (.ref C) "__class__" = some (some (.builtin "object.__class__"))
 ob:PySem.W.mroIn K C (.type "object")=some true
 be:PySem.W.subIn K (.ref C) (.type "BaseException")=some true
theorem ZfB {K:PySem.W.Frag} {a C:Addr} (k:ZmP K C):PySem.W.KitX K (.ref a) (.ref C) (Zgc a C) where
 ty:=λ_ _ _ p=>ZdQ p
 it:=λM h KX _=>by
  obtain ⟨_,_,_,⟨_,_,_,_,_,_,_,_,_,_,_,_,_,_,hC⟩,_⟩:=ZeZ KX k.ex
  intro A Q E s kk q
  unfold isType loadHead
  exact wpAny_bind (wpAny_loadPart (kk _ _ hC) (wpAny_pure q))
 ne:=λh tp dd its n sl KX htp=>by
  obtain ⟨_,_,_,⟨_,_,_,_,_,_,_,_,_,_,_,_,_,_,hC⟩,_⟩:=ZeZ KX k.ex
  refine Bool.eq_false_iff.mpr λq=>?_
  have e:C=tp:=Value.ref.inj (beq_iff_eq.mp q)
  rw [<-e,hC] at htp
  have z:=congrArg Obj.data (Option.some.inj htp)
  unfold excClassObj at z
  cases z
 ca:=λKX p q=>ZgW KX p k.ga k.nga k.cl k.ob k.be q
def Zeu:V->Value
 | .ty n=>.type n
 | .ref a=>.ref a
 | _=>.none
def ZgX:V->Bool
 | .ty _=>true
 | .ref _=>true
 | _=>false
theorem RelV.cls {c:V} {u:Value} (r:RelV c u) (h:ZgX c=true):u=Zeu c:=by
 cases c with
 | ty n=>exact r
 | ref a=>exact r
 | _=>cases h
theorem Vals.cls:∀ {cs:List V} {us:List Value},Vals cs us->cs.all ZgX=true->us=cs.map Zeu
 | _,_,.nil,_=>rfl
 | _,_,.cons r t,h=>by
  rw [List.all_cons,Bool.and_eq_true] at h
  rw [List.map_cons,r.cls h.1,Vals.cls t h.2]
def Zn2 (K:PySem.W.Frag):List V->Hp->VK->Prop:=λxs H Q=>∃ x c b,xs=[x,c]/\Q (.bl b) H /\
 ((∃ t,Zf9 K H x t/\ZgX c=true/\PySem.W.kitOne K t (Zeu c)=some b) \/
  (∃ a C,x=.ref a/\H a=some (ZjW a C)/\ZmP K C/\ZgX c=true/\PySem.W.kitOne K (.ref C) (Zeu c)=some b) \/
  (∃ a C tp cs,x=.ref a/\H a=some (ZjW a C)/\ZmP K C/\c=.ref tp/\H tp=some (.tup cs)/\cs.all ZgX=true/\PySem.W.kitAny K (.ref C) (cs.map Zeu)=some b))
theorem Zid {X:Cx}:ZbB X (.builtin "isinstance") (Zn2 X.K):=by
 intro pins s σ H xs us Q I rv h
 obtain ⟨x,c,b,rfl,q,h⟩:=h
 obtain ⟨u,cv,rfl,ru,rc⟩:=rv.two
 have fin:∀ tk,EP X pins σ Q (.bool b) { s with toks:=tk }:=λtk=>⟨.bl b,H,I.tok tk,rfl,q⟩
 rcases h with ⟨t,ty,hc,e⟩ | ⟨a,C,rfl,ha,k,hc,e⟩ | ⟨a,C,tp,cs,rfl,ha,k,rfl,ht,hc,e⟩
 ·rw [rc.cls hc]
  exact ZgM I ru ty e fin
 ·rw [rc.cls hc]
  cases (show u=Value.ref a from ru)
  obtain ⟨p,_⟩:=I.hok a _ ha
  exact PySem.W.kia_one (ZfB k) I.kIn p e (λz=>nomatch z) fin
 ·cases (show u=Value.ref a from ru)
  cases (show cv=Value.ref tp from rc)
  obtain ⟨p,_⟩:=I.hok a _ ha
  obtain ⟨_,its,r,o,eo,co,n,dn⟩:=I.hok tp _ ht
  obtain ⟨ocl,odi,oda,osl⟩:=o
  cases (show ocl=.type "tuple" from co)
  cases (show oda=.seq its.toArray n from dn)
  exact PySem.W.kia_tup (its:=its) (ZfB k) I.kIn p eo (by rw [r.cls hc];exact e) (λz=>nomatch z) fin
mutual
inductive DatV (K:PySem.W.Frag) (H:Hp):V->PyData->Prop
 | non:DatV K H .non .none
 | bl (b:Bool):DatV K H (.bl b) (.bool b)
 | int (i:Int):DatV K H (.int i) (.int i)
 | str (x:Str):DatV K H (.str x) (.str x)
 | lst {a:Addr} {xs:List V} {ds:List PyData}:SqL K H a xs->DatVs K H xs ds->DatV K H (.ref a) (.list ds)
 | tup {a:Addr} {xs:List V} {ds:List PyData}:SqT K H a xs->DatVs K H xs ds->DatV K H (.ref a) (.tuple ds)
inductive DatVs (K:PySem.W.Frag) (H:Hp):List V->List PyData->Prop
 | nil:DatVs K H [] []
 | cons {x:V} {d:PyData} {xs:List V} {ds:List PyData}:DatV K H x d->DatVs K H xs ds->DatVs K H (x::xs) (d::ds)
end
section
variable {X:Cx} {pins:List (Addr×Obj)} {σ:St} {H:Hp} {s:Shared}
mutual
theorem DatV.reads (I:Inv X pins σ H s):∀ {x:V} {d:PyData} {u:Value},DatV X.K H x d->RelV x u->∃ as,Reads s.heap u d as
 | _,_,_,.non,r=>by cases r;exact ⟨_,.none⟩
 | _,_,_,.bl b,r=>by cases r;exact ⟨_,.bool b⟩
 | _,_,_,.int i,r=>by obtain ⟨t,rfl⟩:=r;exact ⟨_,.int i t⟩
 | _,_,_,.str x,r=>by obtain ⟨t,rfl⟩:=r;exact ⟨_,.str x t⟩
 | _,_,_,.lst hq hs,r=>by
  cases r
  obtain ⟨its,rv,⟨o,n,e,c,dd,dt⟩,_⟩:=I.list hq
  obtain ⟨as,ra⟩:=DatVs.reads I hs rv
  exact ⟨_,.list e c dt (by simpa using ra)⟩
 | _,_,_,.tup hq hs,r=>by
  cases r
  obtain ⟨its,rv,⟨o,e,c,n,dt⟩,_⟩:=I.tuple hq
  obtain ⟨as,ra⟩:=DatVs.reads I hs rv
  exact ⟨_,.tuple e c dt (by simpa using ra)⟩
theorem DatVs.reads (I:Inv X pins σ H s):∀ {xs:List V} {ds:List PyData} {us:List Value},DatVs X.K H xs ds->Vals xs us->∃ as,ReadsAll s.heap us ds as
 | _,_,_,.nil,.nil=>⟨_,.nil⟩
 | _,_,_,.cons h hs,.cons r rs=>by
  obtain ⟨as,ra⟩:=DatV.reads I h r
  obtain ⟨bs,rb⟩:=DatVs.reads I hs rs
  exact ⟨_,.cons ra rb⟩
end
end
def ZjY (K:PySem.W.Frag) (neg:Bool):R2:=λx y H Q=>∃ d1 d2,DatV K H x d1/\DatV K H y d2/\SeqAt.shaped d1=true/\SeqAt.shaped d2=true/\Q (.bl (neg != PyData.eqv d1 d2)) H
theorem Zlz {X:Cx} (hu:X.A.units+64<cLine):OpR X (compareOp .Eq) (ZjY X.K false):=by
 intro pins s σ H x y v u Q I rx ry h
 obtain ⟨d1,d2,h1,h2,s1,s2,q⟩:=h
 obtain ⟨as,r1⟩:=h1.reads I rx
 obtain ⟨bs,r2⟩:=h2.reads I ry
 exact eq_dataH r1 r2 s1 s2 hu ⟨.bl _,H,I,by cases PyData.eqv d1 d2 <;> rfl,q⟩
theorem ZlA {X:Cx} (hu:X.A.units+64<cLine):OpR X (compareOp .NotEq) (ZjY X.K true):=by
 intro pins s σ H x y v u Q I rx ry h
 obtain ⟨d1,d2,h1,h2,s1,s2,q⟩:=h
 obtain ⟨as,r1⟩:=h1.reads I rx
 obtain ⟨bs,r2⟩:=h2.reads I ry
 exact ne_dataH r1 r2 s1 s2 hu ⟨.bl _,H,I,by cases PyData.eqv d1 d2 <;> rfl,q⟩
def Lt2 (p:Nat) (a:Int):Prop:=a.natAbs<2 ^ p
theorem Lt2.bits {a:Int} {n:Nat} (h:Lt2 n a):Builtin.Int.intBits a<=n:=by
 unfold Builtin.Int.intBits
 by_cases z:a=0
 ·subst z
  exact Nat.zero_le _
 ·have hp:a.natAbs≠0:=by omega
  have hz:¬ ((a == 0)=true):=by simpa using z
  rw [if_neg hz]
  exact Nat.succ_le_of_lt ((Nat.log2_lt hp).mpr h)
theorem Lt2.mul {a b:Int} {p q:Nat} (h1:Lt2 p a) (h2:Lt2 q b):Lt2 (p+q) (a * b):=by
 show (a * b).natAbs<2 ^ (p+q)
 rw [Int.natAbs_mul,Nat.pow_add]
 exact Nat.mul_lt_mul_of_lt_of_lt h1 h2
theorem Lt2.add {a b:Int} {p:Nat} (h1:Lt2 p a) (h2:Lt2 p b):Lt2 (p+1) (a+b):=by
 have h1':a.natAbs<2 ^ p:=h1
 have h2':b.natAbs<2 ^ p:=h2
 show (a+b).natAbs<2 ^ (p+1)
 rw [Nat.pow_succ]
 omega
theorem Lt2.mono {a:Int} {p q:Nat} (h:Lt2 p a) (hp:p<=q):Lt2 q a:=Nat.lt_of_lt_of_le h (Nat.pow_le_pow_right (by decide) hp)
theorem Lt2.mod {a b:Int} {p:Nat} (hb:0<b) (h:Lt2 p b):Lt2 p (a % b):=by
 have h1:=Int.emod_nonneg a (Int.ne_of_gt hb)
 have h2:=Int.emod_lt_of_pos a hb
 have h':b.natAbs<2 ^ p:=h
 show (a % b).natAbs<2 ^ p
 omega
theorem Lt2.div {a b:Int} {p:Nat} (ha:0<=a) (hb:0<=b) (h:Lt2 p a):Lt2 p (a / b):=by
 have h':a.natAbs<2 ^ p:=h
 have h1:=Int.ediv_nonneg ha hb
 have h2:=Int.ediv_le_self b ha
 show (a / b).natAbs<2 ^ p
 omega
def Znf (i j:Int):Prop:=∃ p q,Lt2 p i/\Lt2 q j/\p<=100000/\q<=100000
theorem ZbG {X:Cx}:OpR X (binaryOp .Mult) (rI Znf λi j=>.int (i * j)):=opI λi j _ _ _ _ _ hc q=>by
 obtain ⟨p,r,h1,h2,hp,hr⟩:=hc
 have e:(2:Nat) ^ 20=1048576:=by decide
 exact mul_int q (.of_bits (by have:=h1.bits;omega) (by have:=h2.bits;omega))
def Zng (i j:Int):Prop:=0<j/\Lt2 9000 j
theorem ZfC {X:Cx}:OpR X (binaryOp .FloorDiv) (rI Zng λi j=>.int (i / j)):=opI λi j _ _ _ _ _ hc q=>by
 have h1:(0:Int)<j:=hc.1
 have h2:j.natAbs<2 ^ 9000:=hc.2
 refine floordiv_int (by omega) (by rw [Int.fdiv_eq_ediv_of_nonneg i (by omega)];exact q) (.inl (PyProof.noPylong_of_log2 ?_))
 exact (Nat.log2_lt (by omega)).mpr h2
theorem Same.new {H:Hp} {p:Addr} {o:HO} (h:H p=none):Same H (upd H p o):=λb u e=>by rw [Zam (Zae e h)];exact e
theorem Same.put {H H1:Hp} {p:Addr} {o:HO} (s:Same H H1) (h:H p=none):Same H (upd H1 p o):=λb u e=>by rw [Zam (Zae e h)];exact s b u e
theorem Zak {H:Hp} {p b:Addr} {o u:HO} (h:H b=some u) (n:b≠p):upd H p o b=some u:=by rw [Zam n];exact h
inductive Prs (H:Hp):List V->List (Int×Int)->Prop
 | nil:Prs H [] []
 | cons {p:Addr} {a b:Int} {xs:List V} {rs:List (Int×Int)}:H p=some (.tup [.int a,.int b])->Prs H xs rs->Prs H (.ref p::xs) ((a,b)::rs)
theorem Prs.len {H:Hp} {xs:List V} {rs:List (Int×Int)} (h:Prs H xs rs):xs.length=rs.length:=by
 induction h with
 | nil=>rfl
 | cons _ _ ih=>rw [List.length_cons,List.length_cons,ih]
theorem Prs.snoc {H:Hp} {xs:List V} {rs:List (Int×Int)} (h:Prs H xs rs) {p:Addr} {a b:Int} (e:H p=some (.tup [.int a,.int b])):Prs H (xs++[.ref p]) (rs++[(a,b)]):=by
 induction h with
 | nil=>exact .cons e .nil
 | cons e1 _ ih=>exact .cons e1 ih
theorem Prs.keep {H H':Hp} {xs:List V} {rs:List (Int×Int)} (h:Prs H xs rs) (k:∀ p ys,H p=some (.tup ys)->H' p=some (.tup ys)):Prs H' xs rs:=by
 induction h with
 | nil=>exact .nil
 | cons e1 _ ih=>exact .cons (k _ _ e1) ih
theorem Prs.same {H H':Hp} {xs:List V} {rs:List (Int×Int)} (h:Prs H xs rs) (k:Same H H'):Prs H' xs rs:=h.keep λp ys e=>k p _ e
theorem Zbq {H:Hp} {l:Addr} {zs:List V} {o:HO} (h:H l=some (.lst zs)):∀ p ys,H p=some (.tup ys)->upd H l o p=some (.tup ys):=λp ys e=>Zak e (Zgy e h (λz=>by cases z))
theorem ZaA {H:Hp} {l:Addr} {o:HO} (h:H l=none):∀ p ys,H p=some (.tup ys)->upd H l o p=some (.tup ys):=λp ys e=>Zak e (Zae e h)
def prD (r:Int×Int):PyData:=.tuple [.int r.1,.int r.2]
theorem Prs.dats {K:PySem.W.Frag} {H:Hp} {xs:List V} {rs:List (Int×Int)} (h:Prs H xs rs):DatVs K H xs (rs.map prD):=by
 induction h with
 | nil=>exact .nil
 | cons e _ ih=>exact .cons (.tup (SqT.of e) (.cons (.int _) (.cons (.int _) .nil))) ih
theorem Ze0 (r q:Int×Int):PyData.eqv (prD r) (prD q)=decide (r=q):=by
 obtain ⟨a,b⟩:=r
 obtain ⟨c,d⟩:=q
 simp only [prD,PyData.eqv,PyData.eqvAll,Prod.mk.injEq]
 by_cases h1:a=c <;> by_cases h2:b=d <;> simp [h1,h2]
theorem Ze1:∀ rs qs:List (Int×Int),PyData.eqvAll (rs.map prD) (qs.map prD)=decide (rs=qs)
 | [],[]=>by simp [PyData.eqvAll]
 | [],_::_=>by simp [PyData.eqvAll]
 | _::_,[]=>by simp [PyData.eqvAll]
 | r::rs,q::qs=>by
  rw [List.map_cons,List.map_cons]
  simp only [PyData.eqvAll,Ze0,Ze1 rs qs]
  by_cases h1:r=q <;> by_cases h2:rs=qs <;> simp [h1,h2]
theorem Ze2:∀ rs:List (Int×Int),PyData.canLayAll0 (rs.map prD)=true
 | []=>by simp [PyData.canLayAll0]
 | r::rs=>by
  rw [List.map_cons]
  simp [PyData.canLayAll0,prD,PyData.canLay0,Ze2 rs]
theorem Zdb:∀ rs:List (Int×Int),PyData.depthAll (rs.map prD)<=2
 | []=>by simp [PyData.depthAll]
 | r::rs=>by
  have ih:=Zdb rs
  rw [List.map_cons]
  simp only [PyData.depthAll,prD,PyData.depth]
  omega
theorem Zdv (rs:List (Int×Int)):SeqAt.shaped (.list (rs.map prD))=true:=by
 unfold SeqAt.shaped
 rw [Bool.and_eq_true]
 refine ⟨by simp only [PyData.canLay0];exact Ze2 rs,decide_eq_true ?_⟩
 have:=Zdb rs
 simp only [PyData.depth]
 omega
theorem Zdw (n:Int) (rs:List (Int×Int)):SeqAt.shaped (.tuple [.int n,.list (rs.map prD)])=true:=by
 unfold SeqAt.shaped
 rw [Bool.and_eq_true]
 have:=Zdb rs
 refine ⟨by simp only [PyData.canLay0,PyData.canLayAll0,Ze2 rs,Bool.and_self],decide_eq_true ?_⟩
 simp only [PyData.depth,PyData.depthAll]
 omega
theorem ZjZ (n m:Int) (rs qs:List (Int×Int)):PyData.eqv (.tuple [.int n,.list (rs.map prD)]) (.tuple [.int m,.list (qs.map prD)])=(decide (n=m) && decide (rs=qs)):=by
 simp only [PyData.eqv,PyData.eqvAll,Ze1,Bool.and_true]
 by_cases h:n=m <;> simp [h]
end L2
namespace L2
open PySem PySem.Spec PyProof.Rows
section
variable {P:Program} {w:World} {K:PySem.W.Frag} {mg:Str->Option Value} {base:Heap}
theorem Fun.okR {x qual:Str} {st:Stmt} {f:Addr} {fd:FuncData} {N ps:List Str} {k:Nat} {sp:Sp} (F:Fun K x qual st f fd) (S:Zav N ps (Zaf st)) (len:∀ vs H Q E,sp vs H Q E->vs.length=ps.length)
  (hbody:∀ (cdv:Value) (A:Around) (outer:List Env) (s:Shared) (H:Hp) (vs:List V) (Q:VK) (E:XK),Room k (A.deeper (envOfC qual (Zaf st) s.heap.objs.size f cdv))->sp vs H Q E ->
   ∃ t,PSs (ZgN (CXr P w) P w K mg base N qual (Zaf st) f cdv A outer s H E) (Zao st) t/\t { nx:=λ_ H'=>Q .non H',rt:=Q } (start N vs) H):ZaO P w K mg base (CXr P w) (k+1) f fd ps sp:=by
 obtain ⟨oc,od,kV,doc,pm,an,cdv,ct,osl,rfl,lk,hcd⟩:=F.ex
 refine ZjO lk hcd S len λA outer s H vs Q E hr hsp=>?_
 obtain ⟨t,h,q⟩:=hbody cdv A outer s H vs Q E hr hsp
 exact ⟨t,h,q⟩
theorem Znh {X:Cx}:Zek (CXr X.prog X.w) X E0:=λ_ _ _ _ _ _ _ ⟨_,_,_,_,_,h⟩=>h.elim
end
section
variable {X:Cx}
theorem Zbk {x:Str} {a:Addr} {pos:Pos} (hm:X.mg x=some (.ref a)) (hg:Gl X x:=by rfl) (hd:(x == ("__debug__" : Str))=false:=by decide):PE X (.Name x pos) (tC (.ref a)):=ZeV hg hm rfl hd
theorem Zje {x:Str} {T:String} {pos:Pos} (hm:X.mg x=none) (hv:bootBuiltins x=some (.type T)) (hg:Gl X x:=by rfl) (hn:x ≠ "__name__" := by decide) (hd:(x == ("__debug__" : Str))=false:=by decide):PE X (.Name x pos) (tC (.ty T)):=ZjJ hg hm hv rfl hn hd
end
theorem Zci:bootBuiltins "isinstance" = some (.builtin "isinstance"):=by first | rfl | decide +kernel
theorem Zj0:bootBuiltins "ValueError" = some (.type "ValueError"):=by first | rfl | decide +kernel
theorem ZbH:bootBuiltins "list" = some (.type "list"):=by first | rfl | decide +kernel
theorem Zcj:bootBuiltins "int" = some (.type "int"):=by first | rfl | decide +kernel
theorem ZfD {K:PySem.W.Frag} {t:Value}:PySem.W.kitOne K t t=some true:=by
 unfold PySem.W.kitOne
 rw [if_pos (beq_self_eq_true t)]
section
variable {X:Cx} (K:PySem.W.Frag)
theorem ZlB (h:X.K=K:=by rfl):ZbB X (.builtin "isinstance") (Zn2 K):=h▸Zid
theorem Zbz (h:X.K=K:=by rfl):IxR X (Zm9 K):=h▸ZeY
theorem Zck (h:X.K=K:=by rfl):IxR X (Zna K):=h▸Zlt
theorem kIn (h:X.K=K:=by rfl):OpR X (compareOp .In) (rIn K false):=h▸ZgQ
theorem ZgY (h:X.K=K:=by rfl):OpR X (compareOp .NotIn) (rIn K true):=h▸Zeq
theorem Zgd (h:X.K=K:=by rfl):ZbB X (.builtin "len") (λxs H Q=>∃ p ys,xs=[.ref p]/\(SqL K H p ys\/SqT K H p ys)/\Q (.int ys.length) H):=h▸Zer
theorem ZgZ (h:X.K=K:=by rfl):ZbB X (.type "list") (λxs H Q=>∃ p ys,xs=[.ref p]/\(SqL K H p ys\/SqT K H p ys)/\∀ l,H l=none->Q (.ref l) (upd H l (.lst ys))):=h▸Zes
theorem ZoO (hu:X.A.units+64<cLine) (h:X.K=K:=by rfl):OpR X (compareOp .Eq) (ZjY K false):=h▸Zlz hu
theorem ZmQ (hu:X.A.units+64<cLine) (h:X.K=K:=by rfl):OpR X (compareOp .NotEq) (ZjY K true):=h▸ZlA hu
theorem kSl (h:X.K=K:=by rfl):SlR X (ZnX K):=h▸ZjR
theorem ZlC {es:List Expr} {k:Nat} {t:TGs} {n:Nat} {pos:Pos} (hc:X.calm=true) (h:PGs X es t) (hK:X.K=K:=by rfl)
  (hn:(assignEach es X.env).length=n:=by rfl) (hst:(assignEach es X.env).findIdx? (·.1)=none:=by rfl):PG X (.Tuple es k pos) (ZnR K n t):=hK▸Zli hc h hn hst
theorem ZcF {tg l:Expr} {tl:TE} (hl:PE X l tl) (h:X.K=K:=by rfl):PI X tg l (Zln K tl):=h▸ZjK hl
end
end L2
namespace L2
open PySem
def Zni (r c:Nat) (p:Nat):List (Int×Int):=
 (if ((p:Int)+1) % (c:Int)=0 then [] else [((p:Int),(p:Int)+1)])++(if (p:Int)+(c:Int)<(r:Int) * (c:Int) then [((p:Int),(p:Int)+(c:Int))] else [])
def Zn3 (r c i:Nat):List (Int×Int):=(List.range i).flatMap (Zni r c)
def Znj (r c i j:Nat):List (Int×Int):=
 (if (j:Int)<(c:Int)-1 then [((i:Int) * (c:Int)+(j:Int),(i:Int) * (c:Int)+(j:Int)+1)] else []) ++
 (if (i:Int)<(r:Int)-1 then [((i:Int) * (c:Int)+(j:Int),((i:Int)+1) * (c:Int)+(j:Int))] else [])
def ZoP (r c i j:Nat):List (Int×Int):=(List.range j).flatMap (Znj r c i)
def Zn4 (r c i:Nat):List (Int×Int):=(List.range i).flatMap λk=>ZoP r c k c
theorem ZdR {H H2:Hp} {l t:Addr} {xs:List V} {rs:List (Int×Int)} {a b:Int} (s:Same H H2) (hl:H l=none) (h2:H2 l=some (.lst xs)) (hp:Prs H2 xs rs) (ht:H2 t=none) :
  Same H (upd (upd H2 t (.tup [.int a,.int b])) l (.lst (xs++[.ref t])))/\upd (upd H2 t (.tup [.int a,.int b])) l (.lst (xs++[.ref t])) l=some (.lst (xs++[.ref t])) /\
   Prs (upd (upd H2 t (.tup [.int a,.int b])) l (.lst (xs++[.ref t]))) (xs++[.ref t]) (rs++[(a,b)]):=by
 have hne:t≠l:=λz=>by rw [z,h2] at ht;cases ht
 have s1:Same H (upd H2 t (.tup [.int a,.int b])):=s.put (s.free ht)
 refine ⟨s1.put hl,Zab,?_⟩
 have k1:=hp.keep (ZaA (o:=.tup [.int a,.int b]) ht)
 have k2:=k1.keep (Zbq (H:=upd H2 t (.tup [.int a,.int b])) (l:=l) (zs:=xs) (o:=.lst (xs++[.ref t])) (Zak h2 (Ne.symm hne)))
 exact k2.snoc (by rw [Zam hne,Zab])
end L2
namespace L2
open PySem PySem.Spec PyProof.Rows
def AllP {α:Type} (P:α->Prop):List α->Prop
 | []=>True
 | x::r=>P x/\AllP P r
theorem AllP.mem {α:Type} {P:α->Prop}:∀ {l:List α},AllP P l->∀ x∈l,P x
 | _::_,h,_,.head _=>h.1
 | _::_,h,x,.tail _ m=>AllP.mem h.2 x m
theorem Zaz {X:Cx} {scope:Scope} {cl:List (Str×Addr)} {own:List Str} {fr:List (Str×Nat)} (L:List (Str×NameKind)) (hcl:closureFor scope X.env=pure cl) (hL:(relabel scope X.env).names=L)
  (hc:∀ y∈scope.names,y.2≠.cell) (hk:scope.kind=.function) (hn:∀ y∈scope.names,y.2=.local->scope.names.lookup y.1=some .local)
  (hcs:AllP (λp=>X.env.cells.lookup p.1=some p.2) cl) (hall:AllP (λp=>(p.2=.cell\/p.2=.free)->∃ c,cl.lookup p.1=some c) L)
  (hfr:AllP (λp=>X.N[p.2]?=some p.1/\(X.env.kindOf p.1=some .cell\/X.env.kindOf p.1=some .free)/\(L.lookup p.1=some .cell\/L.lookup p.1=some .free)) fr):ZbE X scope cl own fr:=
 ⟨hcl,hc,hk,hn,λy c h=>hcs.mem (y,c) (PySem.mem_of_lookup h),λy h=>by
  rw [hL] at h
  rcases h with h | h
  ·exact hall.mem _ (PySem.mem_of_lookup h) (.inl rfl)
  ·exact hall.mem _ (PySem.mem_of_lookup h) (.inr rfl),λp hp=>by
  rw [hL]
  exact hfr.mem p hp⟩
theorem Za0 {k:NameKind} {P:Prop} (h:k=.cell\/k=.free) (h1:(k == .cell)=false:=by rfl) (h2:(k == .free)=false:=by rfl):P:=by
 rcases h with z | z
 ·subst z;exact absurd h1 (by decide)
 ·subst z;exact absurd h2 (by decide)
theorem Zie:bootBuiltins "min" = some (.builtin "min"):=by first | rfl | decide +kernel
def Zah (n:Int) (rs:List (Int×Int)):Prop:=1<=n/\n<=16/\rs.length<=30/\(∀ p∈rs,0<=p.1/\p.1<p.2/\p.2<n)/\rs.Nodup
instance (n:Int) (rs:List (Int×Int)):Decidable (Zah n rs):=by unfold Zah;infer_instance
structure Dk (H0 H:Hp) (d:Addr):Prop where
 keep:∀ b o,b≠d->H0 b=some o->H b=some o
 at_:∃ n:Int,H d=some (.lst [.int n])
section
variable {H0 H H':Hp} {d p:Addr} {o:HO}
theorem Dk.start {n:Int} (h:H d=some (.lst [.int n])):Dk H H d:=⟨λ_ _ _ e=>e,n,h⟩
theorem Dk.take (h:Dk H0 H d) (n':Int):Dk H0 (upd H d (.lst [.int n'])) d:=⟨λb o n e=>by rw [Zam n];exact h.keep b o n e,n',Zab⟩
theorem Dk.grow (h:Dk H0 H d) (s:Same H H'):Dk H0 H' d:=⟨λb o n e=>s b o (h.keep b o n e),h.at_.elim λn e=>⟨n,s _ _ e⟩⟩
theorem Dk.new (h:Dk H0 H d) (hp:H p=none):Dk H0 (upd H p o) d:=h.grow (Same.new hp)
theorem Dk.free (h:Dk H0 H d) (hp:H p=none):H0 p=none:=by
 cases q:H0 p with
 | none=>rfl
 | some u=>
  by_cases z:p=d
  ·obtain ⟨n,e⟩:=h.at_
   rw [<-z,hp] at e;cases e
  ·rw [h.keep p u z q] at hp;cases hp
theorem Dk.ne (h:Dk H0 H d) (hp:H p=none):d≠p:=by
 obtain ⟨n,e⟩:=h.at_
 exact Zae e hp
theorem Dk.put (h:Dk H0 H d) (hp:H0 p=none) (hd:d≠p):Dk H0 (upd H p o) d:=⟨λb u n e=>Zak (h.keep b u n e) (Zae e hp),h.at_.elim λn e=>⟨n,Zak e hd⟩⟩
theorem Dk.tups (h:Dk H0 H d) {n:Int} (h0:H0 d=some (.lst [.int n])):∀ q ys,H0 q=some (.tup ys)->H q=some (.tup ys):=λq ys e=>h.keep q _ (Zgy e h0 (λz=>by cases z)) e
end
theorem Prs.get {H:Hp}:∀ {xs:List V} {rs:List (Int×Int)},Prs H xs rs->∀ {i:Nat} {x:V},xs[i]?=some x->∃ t r,x=.ref t/\H t=some (.tup [.int r.1,.int r.2])/\rs[i]?=some r
 | _,_,.nil,_,_,h=>by simp at h
 | _,_,.cons (a:=a) (b:=b) e _,0,_,h=>by
  simp at h
  subst h
  exact ⟨_,(a,b),rfl,e,rfl⟩
 | _,_,.cons _ r,i+1,x,h=>by
  obtain ⟨t,q,h1,h2,h3⟩:=Prs.get r (i:=i) (x:=x) (by simpa using h)
  exact ⟨t,q,h1,h2,by simpa using h3⟩
theorem Prs.app {H:Hp} {xs ys:List V} {rs qs:List (Int×Int)} (h:Prs H xs rs) (k:Prs H ys qs):Prs H (xs++ys) (rs++qs):=by
 induction h with
 | nil=>exact k
 | cons e _ ih=>exact .cons e ih
theorem Prs.erase {H:Hp}:∀ {xs:List V} {rs:List (Int×Int)},Prs H xs rs->∀ i:Nat,Prs H (xs.eraseIdx i) (rs.eraseIdx i)
 | _,_,.nil,_=>.nil
 | _,_,.cons _ r,0=>r
 | _,_,.cons e r,i+1=>.cons e (Prs.erase r i)
theorem ZaV {t u:TS} {D:Ends} {σ:St} {H:Hp} (Pm:St->Hp->Prop) (h2:∀ σ' H',Pm σ' H'->u D σ' H') (h1:(∀ σ' H',Pm σ' H'->u D σ' H')->t { D with nx:=u D } σ H):ZnN t u D σ H:=h1 h2
theorem Znk {n:Nat} {r:Int} (h0:0<=r) (h1:r<n):seqIndex? r n=some r.toNat:=by
 have h:ixN n r=some r.toNat:=by
  unfold ixN
  rw [if_pos h0,if_pos h1]
 exact (ZeX h).1
theorem ZfE {α:Type}:∀ (ps rs:List α) (k:Nat) (y:α),ps[k]?=some y->((rs++[y])++ps.eraseIdx k).Perm (rs++ps)
 | [],_,k,y,h=>by simp at h
 | x::r,rs,0,y,h=>by
  simp at h
  subst h
  rw [List.append_assoc]
  exact List.Perm.refl _
 | x::r,rs,k+1,y,h=>by
  have ih:=ZfE r [] k y (by simpa using h)
  rw [List.eraseIdx_cons_succ,List.append_assoc]
  refine List.Perm.append_left rs ?_
  have ih':(y::r.eraseIdx k).Perm r:=by simpa using ih
  exact (List.Perm.swap x y _).trans (ih'.cons x)
end L2
namespace L2
open PySem PySem.Spec PyProof.Rows
theorem ZfF:∀ {xs:List V} {us:List Value},xs.length=us.length->(∀ (i:Nat) x u,xs[i]?=some x->us[i]?=some u->RelV x u)->Vals xs us
 | [],[],_,_=>.nil
 | [],_::_,h,_=>by simp at h
 | _::_,[],h,_=>by simp at h
 | x::xs,u::us,h,k=>.cons (k 0 x u rfl rfl) (ZfF (by simpa using h) λi y v e1 e2=>k (i+1) y v (by simpa using e1) (by simpa using e2))
section
variable {X:Cx} (K:PySem.W.Frag)
def Zj1:List V->Hp->VK->Prop:=λxs H Q=>∃ (p:Addr) (ns:List Int),xs=[.ref p]/\SqL K H p (ns.map V.int)/\ns.length<64/\∀ (l:Addr) (ns':List Int),H l=none->ns'.Perm ns->ns'.Pairwise (· <= ·)->Q (.ref l) (upd H l (.lst (ns'.map V.int)))
theorem Zg0 (h:X.K=K:=by rfl):ZbB X (.builtin "sorted") (Zj1 K):=by
 subst h
 intro pins s σ H xs us Q I rv h
 obtain ⟨p,ns,rfl,hq,h64,q⟩:=h
 obtain ⟨u,rfl,ru⟩:=rv.one
 cases ru
 obtain ⟨its,r,pl,hz⟩:=I.list hq
 have hl:=r.length
 rw [List.length_map] at hl
 refine sorted_ints pl.isList (ZbQ r) (by omega) λout ns' h1 h2 h3=>?_
 obtain ⟨e,he⟩:=sortedAll_at s.heap its out
 have rv':=Zda h1
 have hlen:(ns'.map V.int).length<=sizeLine:=by
  have:=h2.length_eq
  rw [List.length_map] at hz ⊢
  omega
 refine ⟨.ref _,_,I.laid (a:=s.heap.objs.size+1) (t':=s.toks) (o:=.lst (ns'.map V.int)) (λb o e=>sortedAll_old e) (Nat.le_succ _) ⟨hlen,out.toList,e,rv',he⟩,rfl,q _ ns' (I.hok.fresh (Nat.le_succ _)) h2 h3⟩
end
section
variable {X:Cx}
theorem Zj2 {a:Expr} {ta:TA} {p pos:Pos} (hg:Gl X "range") (hm:X.mg "range" = none) (ha:PA X [a] ta) (hs:starEach [a] X.env=[(false,eval a X.env)]:=by rfl) :
  PE X (.Call (.Name "range" p) [a] [] pos) (λσ H Q=>ta σ H λvs H1=>∃ j:Int,vs=[.int j]/\∀ r,H1 r=none->Q (.ref r) (upd H1 r (.rng 0 j))):=by
 intro pins s σ H Q I h
 refine Call_ (Zcd I hg hm boot_range (PyProof.Rows.callWith_type1 (thn (ha pos pins s σ H _ I h) λus s1 ⟨vs,H1,I1,r1,q1⟩=>?_) hs rfl))
 obtain ⟨j,rfl,q⟩:=q1
 obtain ⟨u,rfl,ru⟩:=r1.one
 obtain ⟨t,rfl⟩:=ru
 refine call_range_1 ?_
 exact ⟨.ref _,_,I1.laid (o:=.rng 0 j) (λb o e=>Heap.get?_push_of_some _ e) (Nat.le_refl _) ⟨_,_,_,Heap.get?_push_size _ rfl⟩,rfl,q _ I1.fresh⟩
theorem ZdS (hc:X.calm=true):ZbB X (.type "list") (λxs H Q=>∃ r n,xs=[.ref r]/\H r=some (.rng 0 (n:Nat))/\n<=1000/\∀ l,H l=none->Q (.ref l) (upd H l (.lst ((List.range n).map λi=>V.int ((i:Nat):Int))))):=by
 intro pins s σ H xs us Q I rv h
 obtain ⟨r,n,rfl,hr,hn,q⟩:=h
 obtain ⟨u,rfl,ru⟩:=rv.one
 cases ru
 obtain ⟨t,u,v,e⟩:=I.hok r _ hr
 have h16:(16777216:Nat)=sizeLine:=sizeLine_eq.symm
 refine call_list_range (n:=n) (I.ok.hd hc) e (small_one (by omega) (by omega) (by omega) (by omega)) (by rw [rangeSize_one];split <;> omega) (by omega) λh' tk acc' c' hk hS hit=>?_
 refine ⟨.ref _,_,I.laid (o:=.lst ((List.range n).map λi=>V.int ((i:Nat):Int))) hk (Nat.le_refl _) ⟨by rw [List.length_map,List.length_range];omega,acc'.toList,c',?_,hS⟩,rfl,q _ I.fresh⟩
 refine ZfF (by rw [List.length_map,List.length_range,Array.length_toList];exact hit.1.symm) λi x u e1 e2=>?_
 rw [Array.getElem?_toList] at e2
 obtain ⟨tk',rfl⟩:=hit.2 i u e2
 rw [List.getElem?_map] at e1
 cases z:(List.range n)[i]? with
 | none=>rw [z] at e1;cases e1
 | some k=>
  rw [z] at e1
  have hk:k=i:=by
   obtain ⟨h1,h2⟩:=List.getElem?_eq_some_iff.mp z
   rw [List.getElem_range] at h2
   exact h2.symm
  subst hk
  cases e1
  exact ⟨tk',by rw [Int.mul_one,Int.zero_add]⟩
end
section
variable {X:Cx}
theorem Zb9:UnR X (unaryOp .USub) (rU λi=>.int (-i)):=by
 intro pins s σ H x v Q I rx h
 obtain ⟨i,rfl,q⟩:=h
 obtain ⟨t,rfl⟩:=rx
 exact neg_int ⟨.int (-i),H,I.tok _,⟨_,rfl⟩,q⟩
end
theorem ZfG {xs:List V} {k:Nat}:Zed xs (some (k:Int)) none=xs.drop k:=by
 unfold Zed
 rw [HT.sIx_none,HT.sIx_nat]
 by_cases h:k<=xs.length
 ·rw [Nat.min_eq_left h,List.take_of_length_le (by rw [List.length_drop];exact Nat.le_refl _)]
 ·rw [Nat.min_eq_right (by omega),List.drop_length,List.drop_of_length_le (by omega),List.take_nil]
theorem Zcl {K:PySem.W.Frag} {H:Hp}:∀ ns:List Int,DatVs K H (ns.map V.int) (ns.map PyData.int)
 | []=>.nil
 | n::ns=>.cons (.int n) (Zcl ns)
theorem ZfH:∀ ns:List Int,PyData.canLayAll0 (ns.map PyData.int)=true
 | []=>by simp [PyData.canLayAll0]
 | n::ns=>by
  rw [List.map_cons]
  simp [PyData.canLayAll0,PyData.canLay0,ZfH ns]
theorem Zdx:∀ ns:List Int,PyData.depthAll (ns.map PyData.int)<=1
 | []=>by simp [PyData.depthAll]
 | n::ns=>by
  have ih:=Zdx ns
  rw [List.map_cons]
  simp only [PyData.depthAll,PyData.depth]
  omega
theorem Zbr (ns:List Int):SeqAt.shaped (.list (ns.map PyData.int))=true:=by
 unfold SeqAt.shaped
 rw [Bool.and_eq_true]
 have:=Zdx ns
 refine ⟨by simp only [PyData.canLay0];exact ZfH ns,decide_eq_true ?_⟩
 simp only [PyData.depth]
 omega
theorem ZfI (ns ms:List Int):PyData.eqv (.list (ns.map PyData.int)) (.list (ms.map PyData.int))=decide (ns=ms):=by
 rw [<-PySem.W.ked_eqvAll]
 simp only [PyData.eqv]
end L2
namespace L2
open PySem PySem.Spec PyProof.Rows
theorem Zif {P:Program} {w:World} {K:PySem.W.Frag} {mg:Str->Option Value} {base:Heap} {N:List Str} {qual:Str} {scope:Scope} {f:Addr} {cd:Value} {A:Around} {outer:List Env} {s:Shared} {H:Hp} {E:XK} :
  Zek (CXr P w) (ZgN (CXr P w) P w K mg base N qual scope f cd A outer s H E) E:=by
 intro pins σ H1 s1 ev s' I h
 obtain ⟨a,C,H',rfl,⟨t,B,os,bare,un,hok,fl,trk,old⟩,hE⟩:=h
 have hfr:=I.ok.frames
 have nox:∀ b:Addr,b ∉ (ZgN (CXr P w) P w K mg base N qual scope f cd A outer s H E).ex:=λb z=>absurd (show b∈([]:List Addr) from z) (by simp)
 refine wpAny_leaves_onW hfr rfl fl λh2 fl2 sm=>?_
 obtain ⟨u2,k2⟩:=ZfA (t:=t) (a:=a) (C:=C) un hok fl.2.2.1 trk old fl2.1 sm
 have u1:Un (frs (envOfC qual scope s.heap.objs.size f cd::outer)) [] H H1 s.heap s1.heap:=Un.mono I.base (λb hb=>by
  have hb':b∈frs outer:=hb
  obtain ⟨env,he,q⟩:=List.mem_filterMap.mp hb'
  exact List.mem_filterMap.mpr ⟨env,List.mem_cons_of_mem _ he,q⟩) (λb hb=>absurd hb (nox b))
 have u3:=u1.trans u2
 have nst:∀ b o,s.heap.get? b=some o->b ∉ frs outer->b ∉ frs (envOfC qual scope s.heap.objs.size f cd::outer):=λb o e hb z=>by
  rcases List.mem_cons.mp (I.stkSub b z) with q | q
  ·exact absurd (Nat.lt_of_lt_of_le (Heap.lt_size e) I.ok.above) (by rw [q];exact Nat.lt_irrefl _)
  ·exact hb q
 have inst:∀ b,b∈frs outer->b∈frs (envOfC qual scope s.heap.objs.size f cd::outer):=λb hb=>by
  obtain ⟨env,he,q⟩:=List.mem_filterMap.mp hb
  exact List.mem_filterMap.mpr ⟨env,List.mem_cons_of_mem _ he,q⟩
 refine ⟨a,C,H',rfl,⟨t,B,os.trans I.os,bare,⟨λb o e n hb hx=>u3.keep b o e n (nst b o e hb) hx,λb o e n hb hx=>u3.slot b o e n (inst b hb) hx,u3.free,u3.there,u3.tups,u3.frzs,u3.tbls⟩,k2,fl2,λb o e n=>?_,λb o0 o e0 e nb=>?_⟩,hE⟩
 ·cases q':H' b with
  | none=>exact absurd q' n
  | some u=>
   obtain ⟨v,q⟩:=(hok b u q').there
   have e1:=trk b v q n
   have e2:=fl2.1 b v e1
   have e':h2.get? b=some o:=e
   rw [e'] at e2;cases e2
   exact e1
 ·obtain ⟨o1,e1⟩:=u1.there b o0 e0 (by simp)
  obtain ⟨o2,e2⟩:=un.there b o1 e1 (by simp)
  have e3:=old b o1 o2 e1 e2 (nst b o0 e0 nb)
  have e4:=fl2.1 b o2 e3
  have e':h2.get? b=some o:=e
  rw [e'] at e4;cases e4
  exact e3
section
variable {X:Cx}
def ZpE (K:PySem.W.Frag) (neg:Bool):R2:=λx y H Q=>∃ p xs d ds,y=.ref p/\(SqL K H p xs\/SqT K H p xs)/\DatV K H x d/\DatVs K H xs ds/\SeqAt.shaped d=true/\(∀ e∈ds,SeqAt.shaped e=true)/\Q (.bl (neg != ds.any λe=>PyData.eqv e d)) H
open Classical in
noncomputable def Ze3 (h:Heap) (u:Value):PyData:=if q:∃ d as,Reads h u d as/\SeqAt.shaped d=true then choose q else .none
theorem Zig {h:Heap} {u:Value} {d:PyData} {as:List Addr} (r:Reads h u d as) (hs:SeqAt.shaped d=true):Ze3 h u=d:=by
 have q:∃ d as,Reads h u d as/\SeqAt.shaped d=true:=⟨d,as,r,hs⟩
 unfold Ze3
 rw [dif_pos q]
 obtain ⟨as',r',s'⟩:=Classical.choose_spec q
 exact SeqAt.Reads.unique _ _ _ _ _ (SeqAt.canLay_of_shaped s') r' r
theorem Zjf {h:Heap}:∀ {us:List Value} {ds:List PyData} {as:List Addr},ReadsAll h us ds as->(∀ e∈ds,SeqAt.shaped e=true)->(∀ u∈us,∃ as',Reads h u (Ze3 h u) as'/\SeqAt.shaped (Ze3 h u)=true)/\us.map (Ze3 h)=ds
 | _,_,_,.nil,_=>⟨λu hu=>by simp at hu,rfl⟩
 | _,_,_,.cons r rs,hs=>by
  obtain ⟨i1,i2⟩:=Zjf rs λe he=>hs e (List.mem_cons_of_mem _ he)
  have h0:=hs _ (List.mem_cons_self ..)
  have e0:=Zig r h0
  refine ⟨λu hu=>?_,by rw [List.map_cons,e0,i2]⟩
  rcases List.mem_cons.mp hu with rfl | hu
  ·rw [e0];exact ⟨_,r,h0⟩
  ·exact i1 u hu
theorem Zdy (r:Int×Int):SeqAt.shaped (prD r)=true:=by
 unfold SeqAt.shaped prD
 simp [PyData.canLay0,PyData.canLayAll0,PyData.depth,PyData.depthAll]
theorem Zih (rs:List (Int×Int)):∀ e∈rs.map prD,SeqAt.shaped e=true:=λe he=>by
 obtain ⟨r,_,rfl⟩:=List.mem_map.mp he
 exact Zdy r
def ZmR:V->List V->Hp->VK->Prop:=λx vs H Q=>∃ l xs y,x=.ref l/\vs=[.int 0,y]/\H l=some (.lst xs)/\xs.length<sizeLine/\Q .non (upd H l (.lst (y::xs)))
end
end L2
namespace L2
open PySem PySem.Spec PyProof.Rows
section
variable {X:Cx}
def Zj3:V->List V->Hp->VK->Prop:=λx vs H Q=>∃ l xs i y,x=.ref l/\vs=[.int i,y]/\H l=some (.lst xs)/\0<=i/\i<=xs.length/\xs.length<sizeLine/\Q .non (upd H l (.lst (xs.take i.toNat++y::xs.drop i.toNat)))
theorem Vals.take' {xs:List V} {us:List Value} (h:Vals xs us):∀ k:Nat,Vals (xs.take k) (us.take k):=by
 induction h with
 | nil=>intro k;rw [List.take_nil,List.take_nil];exact .nil
 | cons r _ ih=>
  intro k
  cases k with
  | zero=>exact .nil
  | succ k=>rw [List.take_succ_cons,List.take_succ_cons];exact .cons r (ih k)
theorem Vals.drop' {xs:List V} {us:List Value} (h:Vals xs us):∀ k:Nat,Vals (xs.drop k) (us.drop k):=by
 induction h with
 | nil=>intro k;rw [List.drop_nil,List.drop_nil];exact .nil
 | cons r t ih=>
  intro k
  cases k with
  | zero=>exact .cons r t
  | succ k=>rw [List.drop_succ_cons,List.drop_succ_cons];exact ih k
theorem Zg1:MtM X "list.insert" Zj3:=by
 intro pins s σ H x vs v us Q I rx rv h
 obtain ⟨l,xs,i,y,rfl,rfl,hH,hi,hk,hz,q⟩:=h
 cases rx
 obtain ⟨u0,u,rfl,ru0,ru⟩:=rv.two
 obtain ⟨t,rfl⟩:=ru0
 obtain ⟨z,its,n,r,hl,e⟩:=I.lstM hH
 have h16:(16777216:Nat)=sizeLine:=sizeLine_eq.symm
 have hfit:=fitsIndex_both (k:=i) (by omega) (by omega)
 have hsz:its.toArray.size<=sizeLine:=by rw [List.size_toArray];omega
 have hM:=AutoListH.list_insert_list_int_val_1 l its.toArray n i t u (by rw [hfit];decide) hsz
 have hA:=F.args_list_insert_3 (.ref l) (.int i t) u
 refine call_meets F.slot_list_insert ⟨_,e,rfl⟩ F.entry_list_insert hA hM ⟨e,?_⟩
 refine ⟨.non,_,I.lset (its':=its.take i.toNat++u::its.drop i.toNat) hH e ?_ ((Vals.take' r _).append (.cons ru (Vals.drop' r _))) ?_,rfl,q⟩
 ·have h0:¬ i<0:=by omega
  have h1:min i.toNat its.toArray.size=i.toNat:=by
   rw [List.size_toArray];omega
  dsimp only
  rw [if_neg h0,h1]
  simp only [List.extract_toArray,List.push_toArray,List.append_toArray,List.size_toArray,List.extract_eq_drop_take,List.drop_zero,Nat.sub_zero,List.append_assoc,List.singleton_append]
  rw [List.take_of_length_le (l:=its.drop i.toNat) (by rw [List.length_drop];exact Nat.le_refl _)]
 ·rw [List.length_append,List.length_take,List.length_cons,List.length_drop]
  omega
def Ite (K:PySem.W.Frag) (a:Addr):It:=
 ⟨λi H=>∃ xs x,SqL K H a xs/\xs[i]?=some x,λi H x H'=>∃ T y,x=.ref T/\H T=none/\H'=upd H T (.tup [.int (i:Nat),y])/\∀ xs,SqL K H a xs->xs[i]?=some y,λi H=>∃ xs,SqL K H a xs/\xs.length<=i⟩
theorem Zg2 {P:Program} {w:World} {K:PySem.W.Frag} {elts:List Expr} {k:Nat} {pos:Pos} (a e it:Addr) (hne:e≠it) :
  Zll P w K (.Tuple elts k pos) (Ite K a) [e,it] e (λi h=>(∃ old,IsEnum h e it ((i:Nat):Int) old)/\h.IsListIter it a i) where
 mem:=by simp
 obj:=λi h st b hb=>by
  obtain ⟨⟨old,he⟩,⟨o,ei,c,d⟩⟩:=st
  rcases List.mem_cons.mp hb with rfl | hb
  ·exact ⟨_,he,λv z=>by
    have z':Data.fields _=Data.cell v:=z
    cases z'⟩
  ·have eb:b=it:=by simpa using hb
   subst eb
   exact ⟨o,ei,λv z=>by rw [d] at z;cases z⟩
 keep:=λi h h' st q=>by
  obtain ⟨⟨old,he⟩,hi⟩:=st
  exact ⟨⟨old,q e (by simp) _ he⟩,hi.at λo ho=>q it (by simp) o ho⟩
 item:=by
  intro X hP hw hK hc i pins s σ H E I hf st hg
  subst hP hw hK
  obtain ⟨xs,x,hq,hx⟩:=hg
  obtain ⟨its,rv,p,hz⟩:=I.list hq
  obtain ⟨u,hu,ru⟩:=rv.get hx
  obtain ⟨⟨old,he⟩,hit⟩:=st
  refine wpAny_pyNext_enum_item he hit p.isList (x:=u) (by simpa using hu) hne λh1 heo hit1 ht1 hz1 hk1=>?_
  refine ⟨_,rfl,wpAny_letOwnedTupleGo_enum (s:={ s with heap:=h1,toks:=s.toks+1 }) heo λh2 he2 hs2=>?_⟩
  have hs2':Heap.SameBut e h1 h2:=hs2
  have hfr:H s.heap.objs.size=none:=I.fresh
  have hel:e<s.heap.objs.size:=Heap.lt_size he
  have kk:∀ b o,b ∉ [e,it]->s.heap.get? b=some o->h2.get? b=some o:=λb o hb q=>by
   have n1:b≠e:=λz=>hb (by simp [z])
   have n2:b≠it:=λz=>hb (by simp [z])
   exact (hs2'.2 b n1).trans (hk1 b o n1 n2 q)
  have nT:∀ b o,s.heap.get? b=some o->b≠s.heap.objs.size:=λb o q=>Nat.ne_of_lt (Heap.lt_size q)
  have trk:∀ c u,H c=some u->c ∉ [e,it]:=λc u q z=>by
   rw [(hf c z).1] at q;cases q
  refine ⟨.ref s.heap.objs.size,upd H s.heap.objs.size (.tup [.int (i:Nat),x]),I.call' (ch:=[e,it]) rfl ⟨λb o q _ _ hb=>kk b o hb q,λb o q _ _ hb=>⟨o.slots,kk b o hb q⟩,λb o q n _=>by rw [Zam (nT b o q)];exact n,
   λb o q hb=>⟨o,kk b o hb q⟩,λb ys q=>by rw [Zam (Zae q hfr)];exact q,λb o u q=>by rw [Zam (Zae q hfr)];exact q,λb ps q=>⟨#[],by rw [Zam (Zae q hfr),q];simp⟩⟩ (λb v q=>?_) I.bare (λb hb=>?_),
   rfl,⟨_,x,rfl,hfr,rfl,λys hy=>by rw [I.list_inj hy hq];exact hx⟩,⟨⟨_,by rw [Int.natCast_add];exact he2⟩,hit1.extBut hs2'.extBut (Ne.symm hne)⟩,λb hb=>?_⟩
  ·by_cases hb:b=s.heap.objs.size
   ·subst hb
    rw [Zab] at q;cases q
    refine ⟨by have h16:(16777216:Nat)=sizeLine:=sizeLine_eq.symm;rw [<-h16];show 2<=16777216;omega,[.int (i:Nat) s.toks,u],.cons ⟨_,rfl⟩ (.cons ru .nil),⟨_,(hs2'.2 _ (Nat.ne_of_gt hel)).trans ht1,rfl,_,rfl⟩⟩
   ·rw [Zam hb] at q
    refine (I.hok b v q).stay (λc v' hc z=>kk c v' ?_ z) (λc z=>by rw [Zam (Zae z hfr)];exact z) λc ys z=>by rw [Zam (Zae z hfr)];exact z
    rcases hc with rfl | hc
    ·exact trk _ _ q
    ·exact trk _ _ hc
  ·obtain ⟨f0,f1,f2,f3,f4,f5⟩:=hf b hb
   exact ⟨f3,f1,f4,f5⟩
  ·have ho:∃ o,s.heap.get? b=some o:=by
    rcases List.mem_cons.mp hb with rfl | hb
    ·exact ⟨_,he⟩
    ·have eb:b=it:=by simpa using hb
     subst eb
     obtain ⟨o,ei,_⟩:=hit
     exact ⟨o,ei⟩
   obtain ⟨o,ho⟩:=ho
   rw [Zam (nT b o ho)]
   exact (hf b hb).1
 done:=by
  intro X hP hw hK hc i pins s σ H E I hf st hg
  subst hP hw hK
  obtain ⟨xs,hq,hx⟩:=hg
  obtain ⟨its,rv,p,hz⟩:=I.list hq
  obtain ⟨⟨old,he⟩,hit⟩:=st
  obtain ⟨f0,f1,f2,f3,f4,f5⟩:=hf it (by simp)
  have hl:=rv.length
  exact wpAny_pyNext_enum_end (I.ok.hd hc) he hit p.isList (by simp;omega) λh' eb=>⟨rfl,I.turned (t':=s.toks) (λb o hb q=>eb b o hb q) f0 f1 f3 f4 f5⟩
 self:=λ_ _ _ _ _ ⟨⟨_,he⟩,_⟩ h=>wpAny_pyIter_enum he h
def ZlD (K:PySem.W.Frag) (ta:TA):TI:=λσ H R=>ta σ H λvs H1=>∃ a xs,vs=[.ref a]/\SqL K H1 a xs/\R (Ite K a) H1
theorem Zj4 {elts:List Expr} {k:Nat} {p0:Pos} {l:Expr} {ta:TA} {p pos:Pos} (hg:Gl X "enumerate") (hm:X.mg "enumerate" = none) (ha:PA X [l] ta) (hs:starEach [l] X.env=[(false,eval l X.env)]:=by rfl) :
  PI X (.Tuple elts k p0) (.Call (.Name "enumerate" p) [l] [] pos) (ZlD X.K ta):=by
 intro pins s σ H R I h
 refine Call_ (Zcd I hg hm boot_enumerate (PyProof.Rows.callWith_type1 (thn (ha pos pins s σ H _ I h) λus s1 ⟨vs,H1,I1,r1,q1⟩=>?_) hs rfl))
 obtain ⟨a,xs,e,hq,q⟩:=q1
 subst e
 obtain ⟨u,rfl,ru⟩:=r1.one
 cases ru
 obtain ⟨its,rv,pl,hz⟩:=I1.list hq
 refine call_enumerate_list pl.isList λh' hE hI hsz hk=>?_
 refine wpAny_pyIter_enum hE ?_
 refine ⟨s1.heap.objs.size+1,[s1.heap.objs.size+1,s1.heap.objs.size],_,_,H1,rfl,I1.kept (t':=s1.toks) hk,Zg2 a _ _ (Nat.succ_ne_self _),⟨⟨_,hE⟩,hI⟩,λb hb=>?_,q⟩
 have e:s1.heap.objs.size<=b:=by
  rcases List.mem_cons.mp hb with rfl | hb
  ·exact Nat.le_succ _
  ·have eb:b=s1.heap.objs.size:=by simpa using hb
   rw [eb];exact Nat.le_refl _
 exact I1.fpOk e (I1.hok.fresh e)
theorem ZlE (K:PySem.W.Frag) {elts:List Expr} {k:Nat} {p0:Pos} {l:Expr} {ta:TA} {p pos:Pos} (hg:Gl X "enumerate") (hm:X.mg "enumerate" = none) (ha:PA X [l] ta) (h:X.K=K:=by rfl) (hs:starEach [l] X.env=[(false,eval l X.env)]:=by rfl) :
  PI X (.Tuple elts k p0) (.Call (.Name "enumerate" p) [l] [] pos) (ZlD K ta):=h▸Zj4 hg hm ha hs
end
abbrev TB:=Ends->(St->XK)->St->Hp->Prop
def PB (X:Cx) (body:List Stmt) (tb:TB):Prop:=∀ (pins:List (Addr×Obj)) (s:Shared) (σ:St) (H:Hp) (D:Ends) (Eσ:St->XK) (QQ:Flow->Shared->Prop) (EE:Value->Shared->Prop),Inv X pins σ H s->tb D Eσ σ H ->
 (∀ fl s',SP X pins D fl s'->QQ fl s')->(∀ σ1 ev H1 s1 s',Inv X pins σ1 H1 s1->CXr X.prog X.w X.stack H1 s1 (Eσ σ1) ev s'->EE ev s')->wpAny (model X.prog X.w) X.A (execs body X.env) QQ EE s
section
variable {X:Cx} {k:Nat} {f:Addr} {fd:FuncData} {ps:List Str} {sp:Sp} {dvs:List V} {ds:List Value} {fx:Str} {fp cpos bpos np hpos pos:Pos} {e:Expr} {es:List Expr} {t:TA}
theorem Znl {c:Expr} {a b:List Stmt} {tc:TT} {ta tb:TB} (hc:PT X.nox c tc) (ha:PB X a ta) (hb:PB X b tb):PB X [.If c a b pos] (λD Eσ σ H=>tc σ H λd H1=>if d=true then ta D Eσ σ H1 else tb D Eσ σ H1):=by
 intro pins s σ H D Eσ QQ EE I h hQ hE
 refine wpAny_execs_cons (wpAny_If (wpAny_mono (hc pins s σ H _ (I.wish _) h) (λd s1 ⟨H1,I1,q1⟩=>?_) (λ_ _ z=>False.elim z)))
 have I1:=I1.unwish
 have fin:∀ fl s',SP X pins D fl s'->(match (generalizing:=false) fl with
   | .next=>wpAny (model X.prog X.w) X.A (execs [] X.env) QQ EE s'
   | other=>QQ other s'):=λfl s' hs=>by
  cases fl with
  | next=>exact wpAny_execs_nil (hQ _ _ hs)
  | brk=>exact hQ _ _ hs
  | cont=>exact hQ _ _ hs
  | ret u=>exact hQ _ _ hs
 cases d with
 | true=>exact ha pins s1 σ H1 D Eσ _ _ I1 ((if_pos rfl).mp q1) fin hE
 | false=>exact hb pins s1 σ H1 D Eσ _ _ I1 ((if_neg Bool.false_ne_true).mp q1) fin hE
theorem Zj5 {body:List Stmt} {tb:TB} {W:Addr} {wx n:Str} {i:Nat} {b0:Stmt} {suite:List Stmt} {ts:TS} (hB:PB X body tb) (hc:X.calm=true) (hst:X.stack=X.env::X.outer) (hfr:X.env.frame=some X.env.locals) (hex:X.ex=[]) (hN:X.N.Nodup) (hi:X.N[i]?=some n)
  (hl:X.env.scope.names.lookup n=some .local) (hgW:Gl X wx) (hmW:X.mg wx=some (.ref W)) (hbE:PySem.W.subIn X.K (.ref W) (.type "BaseException")=some true) (hsu:∀ a,PSs (X.inExc a) (b0::suite) ts) (hdb2:(wx == ("__debug__" : Str))=false:=by decide) :
  PS X (.Try body [.ExceptHandler (some (.Name wx np)) (some n) (b0::suite) hpos] [] [] pos) (λD σ H=>tb D (λσ1=>ZgV X.K W i ts D σ1) σ H):=by
 intro pins s σ H D I h
 refine wpAny_Try_except (hB pins s σ H D _ _ _ I h (λfl s' hq=>?_) (λσ1 ev H1 s1 s' I1 hq=>handled hc hst hfr hex hN hi hl hgW hmW hbE hsu I1 hq hdb2))
 cases fl with
 | next=>exact wpAny_execs_nil hq
 | brk=>exact hq
 | cont=>exact hq
 | ret u=>exact hq
end
end L2
namespace L2
open PySem PySem.Spec PyProof.Rows
section
variable {X:Cx} {a b c d:Expr} {ta tb tc td:TE} {pos:Pos}
def Znm (r1 r2 r3:R2) (ta tb tc td:TE):TE:=λσ H Q=>ta σ H λx H1=>tb σ H1 λy H2=>r1 x y H2 λz H3=>∃ k,z=.bl k /\
 (if k=true then tc σ H3 λw' H4=>r2 y w' H4 λz' H5=>∃ k',z'=.bl k'/\(if k'=true then td σ H5 λu' H6=>r3 w' u' H6 Q else Q (.bl false) H5) else Q (.bl false) H3)
end
end L2
namespace L2
open PySem PySem.Spec PyProof.Rows
section
variable {κ:Type} [DecidableEq κ]
def ZbT (kvs:List (κ×V)) (k:κ):Option V:=(kvs.find? λkv=>decide (kv.1=k)).map (·.2)
def Zc0 (kvs:List (κ×V)) (k:κ) (v:V):List (κ×V):=
 if (kvs.any λkv=>decide (kv.1=k))=true then kvs.map (λkv=>if kv.1=k then (kv.1,v) else kv) else kvs++[(k,v)]
def Zj6 (kvs:List (κ×V)) (k:κ):List (κ×V):=kvs.filter λkv=>decide (kv.1≠k)
theorem ZaY {p:κ×V} {r:List (κ×V)} {k:κ} (e:p.1=k):ZbT (p::r) k=some p.2:=by simp [ZbT,List.find?_cons,e]
theorem ZaZ {p:κ×V} {r:List (κ×V)} {k:κ} (e:¬ p.1=k):ZbT (p::r) k=ZbT r k:=by simp [ZbT,List.find?_cons,e]
theorem ZbU (k:κ):∀ kvs:List (κ×V),(kvs.any λkv=>decide (kv.1=k))=(ZbT kvs k).isSome
 | []=>rfl
 | p::r=>by
  rw [List.any_cons]
  by_cases e:p.1=k
  ·simp only [ZaY e,decide_eq_true e,Bool.true_or,Option.isSome_some]
  ·rw [ZaZ e,decide_eq_false e,Bool.false_or];exact ZbU k r
theorem ZfJ (k j:κ) (y:V):∀ kvs:List (κ×V),ZbT (kvs.map λkv=>if kv.1=k then (kv.1,y) else kv) j=(ZbT kvs j).map λx=>if j=k then y else x
 | []=>rfl
 | p::r=>by
  have ih:=ZfJ k j y r
  rw [List.map_cons]
  by_cases h:p.1=k
  ·rw [if_pos h]
   by_cases e:p.1=j
   ·rw [ZaY (p:=(p.1,y)) e,ZaY e,Option.map_some,if_pos (e.symm.trans h)]
   ·rw [ZaZ (p:=(p.1,y)) e,ZaZ e,ih]
  ·rw [if_neg h]
   by_cases e:p.1=j
   ·rw [ZaY (p:=p) e,ZaY e,Option.map_some,if_neg (λz=>h (e.trans z))]
   ·rw [ZaZ (p:=p) e,ZaZ e,ih]
theorem Zev (k j:κ) (y:V):∀ kvs:List (κ×V),ZbT kvs k=none->ZbT (kvs++[(k,y)]) j=if j=k then some y else ZbT kvs j
 | [],_=>by
  by_cases e:k=j
  ·rw [if_pos e.symm];exact ZaY (p:=(k,y)) e
  ·rw [if_neg (λz=>e z.symm)];exact ZaZ (p:=(k,y)) e
 | p::r,hn=>by
  rw [List.cons_append]
  have hk:¬ p.1=k:=λz=>by rw [ZaY z] at hn;cases hn
  rw [ZaZ hk] at hn
  have ih:=Zev k j y r hn
  by_cases e:p.1=j
  ·rw [ZaY e,ZaY e,if_neg (λz=>hk (e.trans z))]
  ·rw [ZaZ e,ZaZ e,ih]
theorem ZfK (kvs:List (κ×V)) (k j:κ) (y:V):ZbT (Zc0 kvs k y) j=if j=k then some y else ZbT kvs j:=by
 unfold Zc0
 by_cases a:(kvs.any λkv=>decide (kv.1=k))=true
 ·rw [if_pos a,ZfJ]
  rw [ZbU] at a
  by_cases e:j=k
  ·obtain ⟨x,hx⟩:=Option.isSome_iff_exists.mp a
   rw [if_pos e,e,hx,Option.map_some,if_pos rfl]
  ·rw [if_neg e]
   cases ZbT kvs j with
   | none=>rfl
   | some x=>rw [Option.map_some,if_neg e]
 ·rw [if_neg a]
  refine Zev k j y kvs ?_
  rw [ZbU] at a
  cases q:ZbT kvs k with
  | none=>rfl
  | some x=>rw [q] at a;exact (a rfl).elim
theorem Zbb (kvs:List (κ×V)) (k:κ) (v:V):(Zc0 kvs k v).length<=kvs.length+1:=by
 unfold Zc0
 split
 ·rw [List.length_map];omega
 ·rw [List.length_append,List.length_cons,List.length_nil];omega
theorem Zii {kvs:List (κ×V)} {k:κ} (v:V) (h:ZbT kvs k=none):Zc0 kvs k v=kvs++[(k,v)]:=by
 unfold Zc0
 rw [ZbU,h]
 exact if_neg (by decide)
theorem RelO.isSome_eq {o:Option V} {u:Option Value} (r:RelO o u):o.isSome=u.isSome:=by
 cases o with
 | none=>cases u with
  | none=>rfl
  | some _=>exact (show False from r).elim
 | some _=>cases u with
  | none=>exact (show False from r).elim
  | some _=>rfl
theorem KV.val {kvs:List (κ×V)} {vs:List (κ×Value)} (r:KV kvs vs) (k:κ):RelO (ZbT kvs k) (valueAt vs k):=by
 unfold KV at r
 induction r with
 | nil=>exact True.intro
 | @cons p q ps qs h t ih=>
  obtain ⟨h1,h2⟩:=h
  by_cases e:p.1=k
  ·have e':q.1=k:=h1.symm.trans e
   have b:valueAt (q::qs) k=some q.2:=by simp [valueAt,List.find?_cons,e']
   rw [ZaY e,b];exact h2
  ·have e':¬ q.1=k:=λz=>e (h1.trans z)
   have b:valueAt (q::qs) k=valueAt qs k:=by simp [valueAt,List.find?_cons,e']
   rw [ZaZ e,b];exact ih
theorem KV.any {kvs:List (κ×V)} {vs:List (κ×Value)} (r:KV kvs vs) (k:κ):(kvs.any λkv=>decide (kv.1=k))=vs.any λkv=>decide (kv.1=k):=by
 unfold KV at r
 induction r with
 | nil=>rfl
 | cons h t ih=>rw [List.any_cons,List.any_cons,ih,h.1]
theorem KV.repl {kvs:List (κ×V)} {vs:List (κ×Value)} (r:KV kvs vs) (k:κ) {y:V} {u:Value} (ry:RelV y u) :
  KV (kvs.map λkv=>if kv.1=k then (kv.1,y) else kv) (vs.map λkv=>if kv.1=k then (kv.1,u) else kv):=by
 unfold KV at r ⊢
 induction r with
 | nil=>exact .nil
 | @cons p q ps qs h t ih=>
  rw [List.map_cons,List.map_cons]
  refine .cons ?_ ih
  obtain ⟨h1,h2⟩:=h
  by_cases e:p.1=k
  ·rw [if_pos e,if_pos (h1.symm.trans e)];exact ⟨h1,ry⟩
  ·rw [if_neg e,if_neg (λz=>e (h1.trans z))];exact ⟨h1,h2⟩
theorem KV.put {kvs:List (κ×V)} {vs:List (κ×Value)} (r:KV kvs vs) (k:κ) {y:V} {u:Value} (ry:RelV y u):KV (Zc0 kvs k y) (stored vs k u):=by
 unfold Zc0 stored
 rw [r.any k]
 by_cases e:(vs.any λkv=>decide (kv.1=k))=true
 ·rw [if_pos e,if_pos e];exact r.repl k ry
 ·rw [if_neg e,if_neg e];exact Paired.snoc r ⟨rfl,ry⟩
theorem KV.length {kvs:List (κ×V)} {vs:List (κ×Value)} (r:KV kvs vs):kvs.length=vs.length:=Paired.length r
end
theorem Zge {P:Program} {w:World} {k:Key} {u:Value} (r:RelV (kV k) u):(ZaU P w).is k u=true:=by
 cases k with
 | inl i=>obtain ⟨t,e⟩:=(show ∃ t,u=Value.int i t from r);subst e;exact ZeT P w i t
 | inr x=>obtain ⟨t,e⟩:=(show ∃ t,u=Value.str x t from r);subst e;exact ZeU P w x t
theorem Zew {P:Program} {w:World}:∀ {ks:List Key} {us:List Value},Vals (ks.map kV) us->ItemsAre (ZaU P w) ks us
 | [],_,r=>by rw [List.map_nil] at r;cases r;exact .nil
 | k::ks,_,r=>by
  rw [List.map_cons] at r
  cases r with
  | cons h t=>exact .cons (Zge h) (Zew t)
abbrev KT (H:Hp):List (List Key×V)->List (List Key×Addr×Value)->Prop:=Paired λp q=>p.1=q.1/\H q.2.1=some (.tup (p.1.map kV))/\RelV p.2 q.2.2
theorem KT.val {H:Hp} {kvs:List (List Key×V)} {xs:List (List Key×Addr×Value)} (r:KT H kvs xs) (k:List Key):RelO (ZbT kvs k) ((atKey xs k).map (·.2)):=by
 induction r with
 | nil=>exact True.intro
 | @cons p q ps qs h t ih=>
  obtain ⟨h1,_,h2⟩:=h
  by_cases e:p.1=k
  ·have e':q.1=k:=h1.symm.trans e
   have b:atKey (q::qs) k=some q.2:=by simp [atKey,List.find?_cons,e']
   rw [ZaY e,b];exact h2
  ·have e':¬ q.1=k:=λz=>e (h1.trans z)
   have b:atKey (q::qs) k=atKey qs k:=by simp [atKey,List.find?_cons,e']
   rw [ZaZ e,b];exact ih
theorem KT.repl {H:Hp} {kvs:List (List Key×V)} {xs:List (List Key×Addr×Value)} (r:KT H kvs xs) (k:List Key) {y:V} {u:Value} (ry:RelV y u) :
  KT H (kvs.map λkv=>if kv.1=k then (kv.1,y) else kv) (xs.map (putAt k u)):=by
 induction r with
 | nil=>exact .nil
 | @cons p q ps qs h t ih=>
  rw [List.map_cons,List.map_cons]
  refine .cons ?_ ih
  obtain ⟨h1,h2,h3⟩:=h
  unfold putAt
  by_cases e:p.1=k
  ·rw [if_pos e,if_pos (h1.symm.trans e)];exact ⟨h1,h2,ry⟩
  ·rw [if_neg e,if_neg (λz=>e (h1.trans z))];exact ⟨h1,h2,h3⟩
theorem KT.put {H:Hp} {kvs:List (List Key×V)} {xs:List (List Key×Addr×Value)} (r:KT H kvs xs) (k:List Key) {b:Addr} {y:V} {u:Value} (hb:H b=some (.tup (k.map kV))) (ry:RelV y u) :
  KT H (Zc0 kvs k y) (storedH xs k b u):=by
 have e:(kvs.any λkv=>decide (kv.1=k))=(atKey xs k).isSome:=by
  rw [ZbU,(r.val k).isSome_eq,Option.isSome_map]
 unfold Zc0 storedH
 rw [e]
 by_cases q:(atKey xs k).isSome=true
 ·rw [if_pos q,if_pos q];exact r.repl k ry
 ·rw [if_neg q,if_neg q];exact Paired.snoc r ⟨rfl,hb,ry⟩
theorem KT.keeps {H H':Hp} {kvs:List (List Key×V)} {xs:List (List Key×Addr×Value)} (r:KT H kvs xs) (ht:∀ b ys,H b=some (.tup ys)->H' b=some (.tup ys)):KT H' kvs xs:=
 Paired.mapP r λ_ _ z=>⟨z.1,ht _ _ z.2.1,z.2.2⟩
section
variable {P:Program} {w:World} {H:Hp} {h:Heap} {a:Addr}
theorem ZlF {u:HO} (ok:HOk P w H h) (e:Rd H a u):ObjOk P w H h a u:=e.ok ok
theorem Zg3 {kvs:List (Key×V)} (ok:HOk P w H h) (e:Rd H a (.dK kvs)):kvs.length<=sizeLine/\(a == sysModules)=false/\∃ vs,KV kvs vs/\h.DictOf (ZaU P w) a vs:=
 show ObjOk P w H h a (.dK kvs) from ZlF ok e
theorem ZlG {kvs:List (Key×V)} (ok:HOk P w H h) (e:H a=some (.dK kvs)):kvs.length<=sizeLine/\(a == sysModules)=false/\∃ vs,KV kvs vs/\h.DictOf (ZaU P w) a vs:=Zg3 ok (.inl e)
theorem Zex {ks:List Key} (ok:HOk P w H h) (e:H a=some (.tup (ks.map kV))):(tupleKind (ZaU P w)).is h ks a:=by
 obtain ⟨_,its,r,o,h1,h2,n,h3⟩:=(show ObjOk P w H h a (.tup (ks.map kV)) from ok a _ e)
 exact ⟨o,its.toArray,n,h1,h2,h3,by simpa using Zew r⟩
theorem Zg4 {kvs:List (List Key×V)} (ok:HOk P w H h) (e:Rd H a (.dT kvs)):kvs.length<=sizeLine/\(a == sysModules)=false /\
  ∃ xs,KT H kvs xs/\h.DictOfH (tupleKind (ZaU P w)) a xs:=by
 obtain ⟨z,y,xs,r,o,es,ep,h1,h2,h3,h4,h5⟩:=(show ObjOk P w H h a (.dT kvs) from ZlF ok e)
 refine ⟨z,y,xs,r,o,es,ep,h1,h2,h3,h4,λx hx=>?_,h5⟩
 have all:∀ {l:List (List Key×V)} {m:List (List Key×Addr×Value)},KT H l m->∀ x∈m,(tupleKind (ZaU P w)).is h x.1 x.2.1:=by
  intro l m q
  induction q with
  | nil=>intro x hx;exact nomatch hx
  | @cons p q ps qs hq t ih=>
   intro x hx
   rcases List.mem_cons.mp hx with e | hx
   ·subst e
    exact Zex ok (by rw [<-hq.1];exact hq.2.1)
   ·exact ih x hx
 exact all r x hx
theorem Znn {kvs:List (List Key×V)} (ok:HOk P w H h) (e:H a=some (.dT kvs)):kvs.length<=sizeLine/\(a == sysModules)=false /\
  ∃ xs,KT H kvs xs/\h.DictOfH (tupleKind (ZaU P w)) a xs:=Zg4 ok (.inl e)
end
def DGet (H:Hp) (a:Addr) (y:V) (r:Option V):Prop:=
 (∃ kvs k,Rd H a (.dK kvs)/\y=kV k/\r=ZbT kvs k)\/∃ kvs k b,Rd H a (.dT kvs)/\y=.ref b/\H b=some (.tup (k.map kV))/\r=ZbT kvs k
def DPut (H:Hp) (a:Addr) (y v:V) (H':Hp):Prop:=
 (∃ kvs k,H a=some (.dK kvs)/\y=kV k/\kvs.length<sizeLine/\H'=upd H a (.dK (Zc0 kvs k v))) \/
 ∃ kvs k b,H a=some (.dT kvs)/\y=.ref b/\H b=some (.tup (k.map kV))/\kvs.length<sizeLine/\H'=upd H a (.dT (Zc0 kvs k v))
theorem DGet.k {H:Hp} {a:Addr} {kvs:List (Key×V)} {k:Key} (e:H a=some (.dK kvs)):DGet H a (kV k) (ZbT kvs k):=.inl ⟨kvs,k,.inl e,rfl,rfl⟩
theorem DGet.t {H:Hp} {a b:Addr} {kvs:List (List Key×V)} {k:List Key} (e:H a=some (.dT kvs)) (eb:H b=some (.tup (k.map kV))):DGet H a (.ref b) (ZbT kvs k):=.inr ⟨kvs,k,b,.inl e,rfl,eb,rfl⟩
theorem DPut.k {H:Hp} {a:Addr} {kvs:List (Key×V)} {k:Key} {v:V} (e:H a=some (.dK kvs)) (hl:kvs.length<sizeLine):DPut H a (kV k) v (upd H a (.dK (Zc0 kvs k v))):=.inl ⟨kvs,k,e,rfl,hl,rfl⟩
theorem DPut.t {H:Hp} {a b:Addr} {kvs:List (List Key×V)} {k:List Key} {v:V} (e:H a=some (.dT kvs)) (eb:H b=some (.tup (k.map kV))) (hl:kvs.length<sizeLine) :
  DPut H a (.ref b) v (upd H a (.dT (Zc0 kvs k v))):=.inr ⟨kvs,k,b,e,rfl,eb,hl,rfl⟩
section
variable {X:Cx} {pins:List (Addr×Obj)} {σ:St} {H:Hp} {s:Shared} {a:Addr} {y v:V} {u r:Value} {o:Option V} {A:Around} {E:Value->Shared->Prop}
theorem Inv.big (I:Inv X pins σ H s):sysModules<s.heap.objs.size:=by
 have h:mainGlobals<s.heap.objs.size:=(I.mod.glob.keeps I.bk).lt
 exact Nat.lt_trans (by decide) h
theorem Zg5 {Q:Value->Shared->Prop} (hu:A.units+1<cLine) (I:Inv X pins σ H s) (g:DGet H a y (some v)) (ry:RelV y u) (h:∀ w' s',Inv X pins σ H s'->RelV v w'->Q w' s') :
  wpAny (model X.prog X.w) A (getItem (.ref a) u) Q E s:=by
 rcases g with ⟨kvs,k,e,ey,l⟩ | ⟨kvs,k,b,e,ey,eb,l⟩
 ·subst ey
  obtain ⟨z,hd,vs,rel,dd⟩:=Zg3 I.hok e
  obtain ⟨w',hw,rw'⟩:=RelO.some_of (v:=v) (o:=valueAt vs k) (by rw [l];exact rel.val k)
  exact wpAny_getItem_of (Zge ry) dd.mapOf hw (h w' _ (I.tok _) rw')
 ·subst ey
  cases (show u=Value.ref b from ry)
  obtain ⟨z,hd,xs,rel,dd⟩:=Zg4 I.hok e
  obtain ⟨w',hw,rw'⟩:=RelO.some_of (v:=v) (o:=(atKey xs k).map (·.2)) (by rw [l];exact rel.val k)
  obtain ⟨p,hp,hp2⟩:=Option.map_eq_some_iff.mp hw
  refine wpAny_getItem_heap (tupleKind_room_in1 hu) (Zex I.hok eb) dd hp ?_
  rw [hp2]
  exact h w' _ (I.tok _) rw'
theorem ZoQ {Q:Value->Shared->Prop} (hu:A.units+1<cLine) (I:Inv X pins σ H s) (g:DGet H a y o) (ry:RelV y u) (h:∀ s',Inv X pins σ H s'->Q (.bool o.isSome) s') :
  wpAny (model X.prog X.w) A (compareOp .In u (.ref a)) Q E s:=by
 rcases g with ⟨kvs,k,e,ey,l⟩ | ⟨kvs,k,b,e,ey,eb,l⟩
 ·subst ey
  obtain ⟨z,hd,vs,rel,dd⟩:=Zg3 I.hok e
  refine wpAny_in_of (Zge ry) hd dd.mapOf ?_
  rw [<-(rel.val k).isSome_eq,<-l]
  exact h _ (I.tok _)
 ·subst ey
  cases (show u=Value.ref b from ry)
  obtain ⟨z,hd,xs,rel,dd⟩:=Zg4 I.hok e
  refine wpAny_in_heap (tupleKind_room_in1 hu) (Zex I.hok eb) hd dd ?_
  have q:=(rel.val k).isSome_eq
  rw [Option.isSome_map] at q
  rw [<-q,<-l]
  exact h _ (I.tok _)
theorem Zj7 {Q:Value->Shared->Prop} (hu:A.units+1<cLine) (I:Inv X pins σ H s) (g:DGet H a y o) (ry:RelV y u) (h:∀ s',Inv X pins σ H s'->Q (.bool (!o.isSome)) s') :
  wpAny (model X.prog X.w) A (compareOp .NotIn u (.ref a)) Q E s:=by
 rcases g with ⟨kvs,k,e,ey,l⟩ | ⟨kvs,k,b,e,ey,eb,l⟩
 ·subst ey
  obtain ⟨z,hd,vs,rel,dd⟩:=Zg3 I.hok e
  refine wpAny_notIn_of (Zge ry) hd dd.mapOf ?_
  rw [<-(rel.val k).isSome_eq,<-l]
  exact h _ (I.tok _)
 ·subst ey
  cases (show u=Value.ref b from ry)
  obtain ⟨z,hd,xs,rel,dd⟩:=Zg4 I.hok e
  refine wpAny_notIn_heap (tupleKind_room_in1 hu) (Zex I.hok eb) hd dd ?_
  have q:=(rel.val k).isSome_eq
  rw [Option.isSome_map] at q
  rw [<-q,<-l]
  exact h _ (I.tok _)
theorem Ze4 {h':Heap} {t':Nat} {ob:HO} (I:Inv X pins σ H s) (mu:Mut (H a)) (hs:Heap.SameBut a s.heap h') (he:∃ q,h'.get? a=some q) (new:ObjOk X.prog X.w (upd H a ob) h' a ob) :
  Inv X pins σ (upd H a ob) { s with heap:=h',toks:=t' }:=
 I.write (x:=a) (e:=a) mu (.inl rfl) (λb q hb z=>(hs.2 b hb).trans z) he new
theorem Zjg {P:Program} {w:World} {H':Hp} {h':Heap} {kvs:List (Key×V)} {vs:List (Key×Value)} (z:kvs.length<=sizeLine) (hd:(a == sysModules)=false) (rel:KV kvs vs) (dd:h'.DictOf (ZaU P w) a vs) :
  ObjOk P w H' h' a (.dK kvs):=⟨z,hd,vs,rel,dd⟩
theorem Zg6 {H':Hp} {Q:Unit->Shared->Prop} (hu:A.units+1<cLine) (I:Inv X pins σ H s) (g:DPut H a y v H') (ry:RelV y u) (rv:RelV v r) (h:∀ s',Inv X pins σ H' s'->Q () s') :
  wpAny (model X.prog X.w) A (setItem (.ref a) u r) Q E s:=by
 rcases g with ⟨kvs,k,e,ey,l,eH⟩ | ⟨kvs,k,b,e,ey,eb,l,eH⟩
 ·subst ey eH
  obtain ⟨z,hd,vs,rel,dd⟩:=ZlG I.hok e
  have hz:vs.length<=sizeLine:=by rw [<-rel.length];exact z
  have hl:(Zc0 kvs k v).length<=sizeLine:=by have:=Zbb kvs k v;omega
  refine wpAny_setItem_pairs (hsz:=hz) (Zge ry) dd λh' dd' hs=>h _ ?_
  have he:∃ q,h'.get? a=some q:=let ⟨q,_,_,hq,_⟩:=dd';⟨q,hq⟩
  exact Ze4 I (by rw [e];exact True.intro) hs he (Zjg hl hd (rel.put k rv) dd')
 ·subst ey eH
  cases (show u=Value.ref b from ry)
  obtain ⟨z,hd,xs,rel,dd⟩:=Znn I.hok e
  have hz:xs.length<=sizeLine:=by rw [<-Paired.length rel];exact z
  have hl:(Zc0 kvs k v).length<=sizeLine:=by have:=Zbb kvs k v;omega
  refine wpAny_setItem_heap (hsz:=hz) (tupleKind_room_in1 hu) (Zex I.hok eb) dd λh' dd' hs=>h _ ?_
  obtain ⟨q,es,ep,hq,h2,h3,h4,_,h5⟩:=dd'
  refine Ze4 I (by rw [e];exact True.intro) hs ⟨q,hq⟩ ⟨hl,hd,_,(rel.put k eb rv).keeps λc ys ec=>?_,q,es,ep,hq,h2,h3,h4,h5⟩
  rw [Zam (Zgy ec e (λz=>nomatch z))]
  exact ec
end
section
variable {X:Cx} {pins:List (Addr×Obj)} {σ:St} {H:Hp} {s:Shared} {a:Addr} {kvs:List (Key×V)} {k:Key} {u:Value} {A:Around} {E:Value->Shared->Prop}
end
def Zn5 (i:Expr):Prop:=∀ ov iv,subscripted i false ov iv=operate [ov,iv] (getItem ov iv)
theorem Zj8 {prog:Program} {w:World} {A:Around} {E:Value->Shared->Prop} {s:Shared} {env:Env} {value slice:Expr} {pos:Pos} {T id:String} {Q:Value->Shared->Prop}
  (hl:typeLookup (.type T) "__getitem__" = pure (some (.builtin id))) (hs:Zn5 slice)
  (h:wpAny (model prog w) A (eval value env) (λo s₁=>wpAny (model prog w) A (eval slice env) (λi s₂=>s₂.TypeIs o T/\wpAny (model prog w) A (getItem o i) Q E s₂) E s₁) E s) :
  wpAny (model prog w) A (eval (.Subscript value slice pos) env) Q E s:=by
 refine Subscript_ (wpAny_mono h (λo s₁ h₁=>wpAny_mono h₁ (λi s₂ h₂=>?_) λ_ _ x=>x) λ_ _ x=>x)
 obtain ⟨hT,h₂⟩:=h₂
 unfold subscriptTail
 refine wpAny_bind ?_
 rw [getitemInPython_of_ne hT.not_modules]
 refine wpAny_bind (wpAny_specialOf hT hl ?_)
 have fin:wpAny (model prog w) A (subscripted slice false o i) (λr s₃=>wpAny (model prog w) A (letTemporaryGo value o r >>= λ_=>pure r) Q E s₃) E s₂:=by
  rw [hs o i]
  exact wpAny_operating (wpAny_mono h₂ (λr s₃ h₃=>wpAny_bind (wpAny_letTemporaryGo (wpAny_pure h₃))) λ_ _ x=>x)
 first
  | exact wpAny_pure (wpAny_bind fin)
  | exact wpAny_bind (wpAny_pure (wpAny_bind fin))
  | exact wpAny_bind fin
theorem Ze5 {X:Cx} {pins:List (Addr×Obj)} {σ:St} {H:Hp} {s:Shared} {a:Addr} {y:V} {o:Option V} (I:Inv X pins σ H s) (g:DGet H a y o):s.TypeIs (.ref a) "dict" := by
 rcases g with ⟨kvs,k,e,_,_⟩ | ⟨kvs,k,b,e,_,_,_⟩
 ·obtain ⟨_,_,vs,_,dd⟩:=Zg3 I.hok e
  exact dd.typeIs
 ·obtain ⟨_,_,xs,_,dd⟩:=Zg4 I.hok e
  exact dd.typeIs
def Zno (td ty:TE):TE:=λσ H Q=>td σ H λx H1=>ty σ H1 λy H2=>∃ a v,x=.ref a/\DGet H2 a y (some v)/\Q v H2
def ZoR (ty td:TE):TE:=λσ H Q=>ty σ H λy H1=>td σ H1 λx H2=>∃ a o,x=.ref a/\DGet H2 a y o/\Q (.bl o.isSome) H2
def Zj9 (ty td:TE):TE:=λσ H Q=>ty σ H λy H1=>td σ H1 λx H2=>∃ a o,x=.ref a/\DGet H2 a y o/\Q (.bl (!o.isSome)) H2
def Znp (td ty tv:TE):TS:=λD σ H=>tv σ H λv H1=>td σ H1 λx H2=>ty σ H2 λy H3=>∃ a H4,x=.ref a/\DPut H3 a y v H4/\D.nx σ H4
def ZoS (td ty tv:TE) (rd:V->V->Hp->VK->Prop):TS:=λD σ H=>td σ H λx H1=>ty σ H1 λy H2=>∃ a v,x=.ref a/\DGet H2 a y (some v) /\
 tv σ H2 λy2 H3=>rd v y2 H3 λz H4=>∃ H5,DPut H4 a y z H5/\D.nx σ H5
def ZoT (td ty:TE):TS:=λD σ H=>td σ H λx H1=>ty σ H1 λy H2=>∃ a kvs k,x=.ref a/\H2 a=some (.dK kvs)/\y=kV k/\(ZbT kvs k).isSome=true/\D.nx σ (upd H2 a (.dK (Zj6 kvs k)))
section
variable {X:Cx} {o i e value:Expr} {pos pos' tpos:Pos} {td ty tv:TE}
theorem Zka (hu:X.A.units+1<cLine) (ho:PE X o td) (hi:PE X i ty) (hs:Zn5 i):PE X (.Subscript o i pos) (Zno td ty):=by
 intro pins s σ H Q I h
 refine Zj8 PySem.F.slot_dict_getitem.lookup hs (thn (ho pins s σ H _ I h) λu s1 ⟨x,H1,I1,rx,q1⟩=>thn (hi pins s1 σ H1 _ I1 q1) λiv s2 ⟨y,H2,I2,ry,a,v,ex,g,q2⟩=>?_)
 subst ex
 obtain rfl:u=Value.ref a:=rx
 exact ⟨Ze5 I2 g,Zg5 hu I2 g ry λw' s3 I3 rw'=>⟨v,H2,I3,rw',q2⟩⟩
theorem ZlH (hu:X.A.units+1<cLine) (hi:PE X i ty) (ho:PE X o td):PC X .In i o (ZoR ty td):=by
 intro pins s σ H Q I h
 refine thn (hi pins s σ H _ I h) λiv s1 ⟨y,H1,I1,ry,q1⟩=>thn (ho pins s1 σ H1 _ I1 q1) λu s2 ⟨x,H2,I2,rx,a,ov,ex,g,q2⟩=>?_
 subst ex
 obtain rfl:u=Value.ref a:=rx
 exact ZoQ hu I2 g ry λs3 I3=>⟨.bl ov.isSome,H2,I3,rfl,q2⟩
theorem Zg7 (hu:X.A.units+1<cLine) (hi:PE X i ty) (ho:PE X o td):PC X .NotIn i o (Zj9 ty td):=by
 intro pins s σ H Q I h
 refine thn (hi pins s σ H _ I h) λiv s1 ⟨y,H1,I1,ry,q1⟩=>thn (ho pins s1 σ H1 _ I1 q1) λu s2 ⟨x,H2,I2,rx,a,ov,ex,g,q2⟩=>?_
 subst ex
 obtain rfl:u=Value.ref a:=rx
 exact Zj7 hu I2 g ry λs3 I3=>⟨.bl (!ov.isSome),H2,I3,rfl,q2⟩
theorem Ze6 (hu:X.A.units+1<cLine) (ho:PE X o td) (hi:PE X i ty) (hv:PE X value tv) (hs:swapsWith value (some (.Subscript o i pos')) pos.line X.env=pure false) :
  PS X (.Assign [.Subscript o i pos'] value pos) (Znp td ty tv):=by
 intro pins s σ H D I h
 refine wpAny_Assign_Subscript (thn (hv pins s σ H _ I h) λr s1 ⟨v,H1,I1,rv,q1⟩=>thn (ho pins s1 σ H1 _ I1 q1) λu s2 ⟨x,H2,I2,rx,q2⟩=>thn (hi pins s2 σ H2 _ I2 q2) λiv s3 ⟨y,H3,I3,ry,a,H4,ex,g,q3⟩=>?_) hs
 subst ex
 obtain rfl:u=Value.ref a:=rx
 exact Zg6 hu I3 g ry rv λs4 I4=>⟨σ,H4,I4,q3⟩
end
theorem Zij {P:Program} {w:World} {H:Hp} (h:Heap) (hb:sysModules<h.objs.size):ObjOk P w H (h.push { cls:=.type "dict", data:=.dict #[] }) h.objs.size (.dK []):=
 ⟨Nat.zero_le _,beq_eq_false_iff_ne.mpr (Ne.symm (Nat.ne_of_lt hb)),[],.nil,Heap.DictOf.new h⟩
theorem Zik {P:Program} {w:World} {H:Hp} (h:Heap) (hb:sysModules<h.objs.size):ObjOk P w H (h.push { cls:=.type "dict", data:=.dict #[] }) h.objs.size (.dT []):=
 ⟨Nat.zero_le _,beq_eq_false_iff_ne.mpr (Ne.symm (Nat.ne_of_lt hb)),[],.nil,_,#[],0,Heap.get?_push_size _ rfl,⟨rfl,rfl,rfl⟩,rfl,rfl,List.nodup_nil⟩
def Zn6:TE:=λ_ H Q=>∀ p,H p=none->Q (.ref p) (upd H p (.dK []))
def ZlI:TE:=λ_ H Q=>∀ p,H p=none->Q (.ref p) (upd H p (.dT []))
section
variable {X:Cx} {pos:Pos}
theorem Zil:PE X (.Dict [] [] pos) ZlI:=λpins s σ H Q I h=>
 wpAny_Dict_empty ⟨.ref s.heap.objs.size,_,I.laid (a:=s.heap.objs.size) (o:=.dT []) (t':=s.toks) (λ_ _ q=>Heap.get?_push_of_some _ q) (Nat.le_refl _) (Zik s.heap I.big),rfl,h _ (I.hok.fresh (Nat.le_refl _))⟩
end
def Zg8:List (TE×TE)->St->Hp->(List (V×V)->Hp->Prop)->Prop
 | [],_,H,Q=>Q [] H
 | (tk,tv)::r,σ,H,Q=>tk σ H λx H1=>tv σ H1 λy H2=>Zg8 r σ H2 λps H3=>Q ((x,y)::ps) H3
abbrev VV:List (V×V)->List (Value×Value)->Prop:=Paired λp q=>RelV p.1 q.1/\RelV p.2 q.2
def PPs (X:Cx) (pos:Pos) (keys:List (Option Expr)) (values:List Expr) (trs:List (TE×TE)):Prop:=
 ∀ (pins:List (Addr×Obj)) (s:Shared) (σ:St) (H:Hp) (Q:List (V×V)->Hp->Prop),Inv X pins σ H s->Zg8 trs σ H Q ->
  wpAny (model X.prog X.w) X.A (evalPairs (pairTrees keys values X.env pos)) (λvs s'=>∃ ps H',Inv X pins σ H' s'/\VV ps vs/\Q ps H') X.xe s
theorem Zkb {X:Cx} {pos:Pos}:PPs X pos [] [] []:=λpins s σ H Q I h=>pairTrees_nil_walk ⟨[],H,I,.nil,h⟩
theorem Zim {X:Cx} {pos:Pos} {k v:Expr} {ks:List (Option Expr)} {vs:List Expr} {tk tv:TE} {trs:List (TE×TE)} (hk:PE X k tk) (hv:PE X v tv) (hr:PPs X pos ks vs trs) :
  PPs X pos (some k::ks) (v::vs) ((tk,tv)::trs):=λpins s σ H Q I h=>
 pairTrees_cons_walk (thn (hk pins s σ H _ I h) λu s1 ⟨x,H1,I1,rx,q1⟩=>thn (hv pins s1 σ H1 _ I1 q1) λw2 s2 ⟨y,H2,I2,ry,q2⟩=>
  thn (hr pins s2 σ H2 _ I2 q2) λws s3 ⟨ps,H3,I3,rel,q3⟩=>⟨(x,y)::ps,H3,I3,.cons ⟨rx,ry⟩ rel,q3⟩)
def ZcR (kvs more:List (Key×V)):List (Key×V):=more.foldl (λacc kv=>Zc0 acc kv.1 kv.2) kvs
theorem KV.merge:∀ {more:List (Key×V)} {rs:List (Key×Value)} {kvs:List (Key×V)} {vs:List (Key×Value)},KV more rs->KV kvs vs->KV (ZcR kvs more) (merged vs rs):=by
 intro more rs kvs vs r
 unfold KV at r
 induction r generalizing kvs vs with
 | nil=>intro q;exact q
 | @cons p q ps qs h t ih=>
  intro r0
  have e:KV (Zc0 kvs p.1 p.2) (stored vs q.1 q.2):=by
   have:=r0.put p.1 h.2
   rw [<-h.1];exact this
  exact ih e
theorem Zcm:∀ (more kvs:List (Key×V)),(ZcR kvs more).length<=kvs.length+more.length
 | [],kvs=>by show kvs.length<=kvs.length+0;omega
 | p::r,kvs=>by
  have h1:=Zcm r (Zc0 kvs p.1 p.2)
  have h2:=Zbb kvs p.1 p.2
  show (ZcR (Zc0 kvs p.1 p.2) r).length<=_
  rw [List.length_cons];omega
theorem Zdz {P:Program} {w:World}:∀ {kvs:List (Key×V)} {ws:List (Value×Value)},VV (kvs.map λkv=>(kV kv.1,kv.2)) ws->∃ rs,Carries (ZaU P w) ws rs/\KV kvs rs
 | [],_,r=>by rw [List.map_nil] at r;cases r;exact ⟨[],True.intro,.nil⟩
 | p::kvs,_,r=>by
  rw [List.map_cons] at r
  cases r with
  | @cons a b as bs h t=>
   obtain ⟨rs,c,q⟩:=Zdz (P:=P) (w:=w) t
   obtain ⟨b1,b2⟩:=b
   exact ⟨(p.1,b2)::rs,⟨Zge h.1,rfl,c⟩,.cons ⟨rfl,h.2⟩ q⟩
def Znq (trs:List (TE×TE)):TE:=λσ H Q=>∀ p,H p=none->Zg8 trs σ (upd H p (.dK [])) λps H2=>H2 p=some (.dK [])/\∃ kvs:List (Key×V),ps=kvs.map (λkv=>(kV kv.1,kv.2))/\kvs.length<=15/\Q (.ref p) (upd H2 p (.dK (ZcR [] kvs)))
theorem Zkc {X:Cx} {pos:Pos} {keys:List (Option Expr)} {values:List Expr} {trs:List (TE×TE)} (h:PPs X pos keys values trs) (hall:keys.all (·.isSome)=true) (hl:keys.length=values.length) (h0:keys≠[])
  (h15:keys.length<=15):PE X (.Dict keys values pos) (Znq trs):=by
 intro pins s σ H Q I q
 have hn:=I.hok.fresh (Nat.le_refl s.heap.objs.size)
 have I1:=I.laid (a:=s.heap.objs.size) (o:=.dK []) (h':=s.heap.push { cls:=.type "dict", data:=.dict #[] }) (t':=s.toks) (λ_ _ q=>Heap.get?_push_of_some _ q) (Nat.le_refl _) (Zij s.heap I.big)
 refine wpAny_Dict_walk (knd:=ZaU X.prog X.w) hall hl h0 h15 (thn (h pins _ σ _ _ I1 (q _ hn)) λws s2 ⟨ps,H2,I2,rel,e,kvs,ep,lk,q2⟩=>?_)
 subst ep
 obtain ⟨rs,c,rk⟩:=Zdz (P:=X.prog) (w:=X.w) rel
 obtain ⟨z,hd,vs0,r0,dd⟩:=ZlG I2.hok e
 cases r0
 refine ⟨rs,c,dd,λh' dd' hs=>⟨.ref s.heap.objs.size,_,?_,rfl,q2⟩⟩
 have hz:(ZcR [] kvs).length<=sizeLine:=by
  have h1:=Zcm kvs []
  rw [List.length_nil] at h1
  rw [sizeLine_eq];omega
 have he:∃ q,h'.get? s.heap.objs.size=some q:=let ⟨q,_,_,hq,_⟩:=dd';⟨q,hq⟩
 exact Ze4 I2 (by rw [e];exact True.intro) hs he (Zjg hz hd (rk.merge .nil) dd')
structure M1 (X:Cx) (o:Expr) (m:Str) (apos:Pos) (e:Expr) (cpos:Pos):Prop where
 base:attributeBase o m X.env (eval o X.env)=eval o X.env
 few:((backTo cpos (starEach [e] X.env)).all (λx=>!x.1) && (backToKw cpos (keywordEach [] X.env)).all (λx=>x.1.isSome)
  && decide (([e]:List Expr).length+([]:List Keyword).length+(if ([]:List Keyword).isEmpty then 0 else 1)<30))=true
 line:(apos.endLine == cpos.line)=true
 trees:backTo cpos (starEach [e] X.env)=[(false,eval e X.env)]
structure M2 (X:Cx) (o:Expr) (m:Str) (apos:Pos) (e f:Expr) (cpos:Pos):Prop where
 base:attributeBase o m X.env (eval o X.env)=eval o X.env
 few:((backTo cpos (starEach [e,f] X.env)).all (λx=>!x.1) && (backToKw cpos (keywordEach [] X.env)).all (λx=>x.1.isSome)
  && decide (([e,f]:List Expr).length+([]:List Keyword).length+(if ([]:List Keyword).isEmpty then 0 else 1)<30))=true
 line:(apos.endLine == cpos.line)=true
 trees:backTo cpos (starEach [e,f] X.env)=[(false,eval e X.env),(false,eval f X.env)]
def IsD (H:Hp) (a:Addr):Prop:=(∃ kvs,Rd H a (.dK kvs))\/∃ kvs,Rd H a (.dT kvs)
section
variable {X:Cx} {pins:List (Addr×Obj)} {σ:St} {H:Hp} {s:Shared} {a:Addr} {y d:V} {u r:Value} {o:Option V} {A:Around} {E:Value->Shared->Prop}
end
def Zn7 (td ty:TE):TE:=λσ H Q=>td σ H λx H1=>∃ a,x=.ref a/\IsD H1 a/\ty σ H1 λy H2=>∃ o,DGet H2 a y o/\Q (o.getD .non) H2
def Zn8 (td ty tx:TE):TE:=λσ H Q=>td σ H λx H1=>∃ a,x=.ref a/\IsD H1 a/\ty σ H1 λy H2=>tx σ H2 λz H3=>∃ o,DGet H3 a y o/\Q (o.getD z) H3
def Zn9 (td ty:TE):TE:=λσ H Q=>td σ H λx H1=>∃ a,x=.ref a/\IsD H1 a/\ty σ H1 λy H2=>∃ kvs k v,H2 a=some (.dK kvs)/\y=kV k/\ZbT kvs k=some v/\Q v (upd H2 a (.dK (Zj6 kvs k)))
def Zoa (td ty tx:TE):TE:=λσ H Q=>td σ H λx H1=>∃ a,x=.ref a/\IsD H1 a/\ty σ H1 λy H2=>tx σ H2 λz H3=>∃ kvs k,H3 a=some (.dK kvs)/\y=kV k /\
 (∀ v,ZbT kvs k=some v->Q v (upd H3 a (.dK (Zj6 kvs k))))/\(ZbT kvs k=none->Q z H3)
section
variable {X:Cx} {o e f:Expr} {apos cpos:Pos} {td ty tx:TE}
end
section
variable {X:Cx} {pins:List (Addr×Obj)} {σ:St} {H:Hp} {s:Shared} {a:Addr} {kvs:List (Key×V)} {A:Around} {E:Value->Shared->Prop}
end
section
variable {X:Cx} {pins:List (Addr×Obj)} {σ:St} {H:Hp} {s:Shared} {a:Addr} {y:V} {u:Value} {A:Around} {E:Value->Shared->Prop}
end
end L2
namespace L2
open PySem PySem.Spec PyProof.Rows
section
variable {X:Cx}
def Zob:V->List V->Hp->VK->Prop:=λx vs H Q=>∃ (l:Addr) (ns:List Int) (i:Int),x=.ref l/\vs=[.int i]/\H l=some (.lst (ns.map V.int))/\i∈ns/\Q (.int ((ns.idxOf i:Nat):Int)) H
end
end L2
namespace L2
open PySem PySem.Spec PyProof.Rows
structure Lane where
 it:Addr
 l:Addr
 xs:Array Value
def Lane.On (r:Lane) (k:Nat) (h:Heap):Prop:=h.IsListIter r.it r.l k/\h.IsList r.l r.xs
theorem Lane.On.keep {r:Lane} {k:Nat} {h h':Heap} (x:r.On k h) (e:∀ c,c=r.it\/c=r.l->∀ o,h.get? c=some o->h'.get? c=some o):r.On k h':=
 ⟨x.1.at (e _ (.inl rfl)),x.2.at (e _ (.inr rfl))⟩
structure ZlJ (rs:List Lane):Prop where
 nd:(rs.map Lane.it).Nodup
 ls:∀ r∈rs,∀ q∈rs,q.l≠r.it
abbrev Ze7 (h:Heap) (z TI TO:Addr) (f0:Value) (f1:Bool):Prop:=
 h.get? z=some { cls:=.type "zip", dict:=none,data:=.fields #[f0,.bool f1,.bool false,.ref TI,.ref TO],slots:=#[] }
section
variable {prog:Program} {w:World} {A:Around} {E:Value->Shared->Prop} {s:Shared}
theorem Zg9 {z TI TO T:Addr} {f1:Bool} {o:Obj} {Q:Bool->Shared->Prop} (hz:Ze7 s.heap z TI TO (rawInt T) f1) (hT:s.heap.get? T=some o)
  (h:∀ h',Ze7 h' z TI TO (rawInt T) true->Heap.SameBut z s.heap h'->Q false { s with heap:=h' }):wpAny (model prog w) A (Builtin.SmallTypes.ownedTupleIsFree (.ref z)) Q E s:=by
 wp_walk using wpAny_field hz rfl rfl
 refine PySem.W.kdx_alive (a:=T) hT ?_
 cases f1
 ·wp_walk using wpAny_field hz rfl rfl
  exact h _ (Heap.get?_update_self _ hz rfl) (Heap.SameBut.update ..)
 ·wp_walk using wpAny_field hz rfl rfl
  exact h s.heap hz ⟨rfl,λ_ _=>rfl⟩
theorem Zin {z TI TO T:Addr} {f1:Bool} {o:Obj} {rs:List Lane} {k:Nat} {Q:Value->Shared->Prop} (hh:A.handled=none) (ap:ZlJ rs) (hz:Ze7 s.heap z TI TO (rawInt T) f1) (hT:s.heap.get? T=some o) (hr:∀ r∈rs,r.it≠z/\r.l≠z)
  (hTI:s.heap.get? TI=some { cls:=.type "tuple", data:=.seq (rs.map λr=>Value.ref r.it).toArray }) (h0:rs≠[]) (hl:rs.length<=64) (on:∀ r∈rs,r.On k s.heap)
  (hQ:∀ (vs:List Value) h',rs.map (λr=>r.xs[k]?)=vs.map some->Ze7 h' z TI TO (rawInt T) true->(∀ r∈rs,r.On (k+1) h')->h'.get? s.heap.objs.size=some { cls:=.type "tuple", data:=.seq vs.toArray }->h'.objs.size=s.heap.objs.size+1 ->
   (∀ c o,c≠z->c ∉ rs.map Lane.it->s.heap.get? c=some o->h'.get? c=some o)->Q (.ref s.heap.objs.size) { s with heap:=h' })
  (hE:∀ h' e,(∃ r∈rs,r.xs[k]?=none)->(∀ c o,c≠z->c ∉ rs.map Lane.it->s.heap.get? c=some o->h'.get? c=some o)->(∃ o,h'.get? e=some o/\o.cls=.type "StopIteration")->E (.ref e) { s with heap:=h' }) :
  wpAny (model prog w) A (Builtin.«zip.__next__» ⟨[.ref z],[]⟩) (λfin s'=>∃ v,fin=.done (.ret v)/\Q v s') E s:=by
 have hne:(rs.map λr=>Value.ref r.it).toArray.isEmpty=false:=by cases rs with
  | nil=>exact absurd rfl h0
  | cons=>rfl
 wp_walk using wpAny_field hz rfl rfl,wpAny_seqItems hTI rfl,Zg9 hz hT
 intro h1 z1 s1
 wp_walk
 refine MeetsSeq2.wpAny_forIn_array _ (λrest b s'=>∃ dn rm h',rs=dn++rm/\rest=rm.map (λr=>Value.ref r.it)/\b.1=none/\dn.map (λr=>r.xs[k]?)=b.2.toList.map some/\s'={ s with heap:=h' }/\h'.objs.size=s.heap.objs.size /\
   (∀ r∈dn,r.On (k+1) h')/\(∀ r∈rm,r.On k h')/\∀ c o,c ∉ rs.map Lane.it->h1.get? c=some o->h'.get? c=some o) _ ?_ ?_ _ _ ?_
 ·rintro x rest ⟨b1,b2⟩ s' ⟨dn,rm,h',hd,hx,hb,hv,rfl,hsz,on1,on0,kp⟩
  cases rm with
  | nil=>cases hx
  | cons r rm=>
   obtain ⟨rfl,rfl⟩:x=Value.ref r.it/\rest=rm.map (λr=>Value.ref r.it):=by cases hx;exact ⟨rfl,rfl⟩
   have mr:r∈rs:=by rw [hd];simp
   have nd:=ap.nd
   rw [hd,List.map_append,List.map_cons,List.nodup_append] at nd
   obtain ⟨-,nd2,nd3⟩:=nd
   have nr:∀ q,q∈dn\/q∈rm->q.it≠r.it/\q.l≠r.it:=λq hq=>⟨hq.elim (λy=>nd3 _ (List.mem_map_of_mem y) _ List.mem_cons_self) (λy e=>(List.nodup_cons.1 nd2).1 (e▸List.mem_map_of_mem y)),ap.ls r mr q (by rw [hd];rcases hq with y | y <;> simp [y])⟩
   have o0:=on0 r List.mem_cons_self
   refine wpAny_bind (wpAny_holding (?_:wpAny _ _ (Builtin.SmallTypes.nextOf (.ref r.it) >>= λv=>pure (some v)) _ _ _))
   cases e:r.xs[k]? with
   | none=>
    refine wpAny_bind (wpAny_nextOf_list_end hh o0.1 o0.2 e λh2 e2 x2 c2=>?_)
    exact hE h2 e2 ⟨r,mr,e⟩ (λc o c1 c3 q=>x2 c o (λy=>c3 (y▸List.mem_map_of_mem mr)) (kp c o c3 (by rw [s1.2 c c1];exact q))) c2
   | some v=>
    refine wpAny_bind (wpAny_nextOf_list_item o0.1 o0.2 e λh2 on2 x2=>?_)
    wp_walk
    have ot:∀ q,q∈dn\/q∈rm->∀ c,c=q.it\/c=q.l->∀ o,h'.get? c=some o->h2.get? c=some o:=λq hq c hc o y=>by
     rw [x2.2 c (hc.elim (λy=>y▸(nr q hq).1) (λy=>y▸(nr q hq).2))];exact y
    refine ⟨dn++[r],rm,h2,by rw [hd];simp,rfl,rfl,?_,rfl,x2.1.trans hsz,λq hq=>?_,λq hq=>(on0 q (List.mem_cons_of_mem _ hq)).keep (ot q (.inr hq)),λc o c1 q=>?_⟩
    ·rw [List.map_append,hv];simp [e]
    ·rcases List.mem_append.1 hq with y | y
     ·exact (on1 q y).keep (ot q (.inl y))
     ·cases List.mem_singleton.1 y
      exact ⟨on2,o0.2.at λo y=>by rw [x2.2 _ (ap.ls r mr r mr)];exact y⟩
    ·rw [x2.2 c (λy=>c1 (y▸List.mem_map_of_mem mr))];exact kp c o c1 q
 ·rintro ⟨b1,b2⟩ s' ⟨dn,rm,h',hd,hx,hb,hv,rfl,hsz,on1,on0,kp⟩
  cases rm with
  | cons=>cases hx
  | nil=>
   cases hb
   rw [List.append_nil] at hd
   subst hd
   have hlv:b2.toList.length<=sizeLine:=by
    have:=congrArg List.length hv
    rw [List.length_map,List.length_map] at this
    rw [<-this,sizeLine_eq];omega
   wp_walk using wpAny_newTuple (hsz:=hlv)
   have pu:∀ c o,h'.get? c=some o->(h'.push { cls:=.type "tuple", data:=.seq b2.toList.toArray }).get? c=some o:=λc o=>Heap.get?_push_of_some _
   refine ⟨_,rfl,?_⟩
   rw [hsz]
   refine hQ b2.toList _ hv (pu _ _ (kp _ _ (λy=>?_) z1)) (λr y=>(on1 r y).keep λc _=>pu c) ?_ (by rw [Heap.size_push,hsz]) λc o c1 c2 q=>pu _ _ (kp _ _ c2 (by rw [s1.2 c c1];exact q))
   ·obtain ⟨r,y,e⟩:=List.mem_map.1 y
    exact (hr r y).1 e
   ·rw [<-hsz];exact Heap.get?_push_size _ rfl
 ·exact ⟨[],rs,h1,rfl,rfl,rfl,rfl,rfl,s1.1,λ_ y=>absurd y (List.not_mem_nil),λr y=>(on r y).keep λc hc o q=>by rw [s1.2 c (hc.elim (λe=>e▸(hr r y).1) (λe=>e▸(hr r y).2))];exact q,λ_ _ _ q=>q⟩
theorem Zio {z TI TO T:Addr} {f1:Bool} {o:Obj} {rs:List Lane} {k:Nat} {Q:Option Value->Shared->Prop} (hh:A.in1.handled=none) (ap:ZlJ rs) (hz:Ze7 s.heap z TI TO (rawInt T) f1) (hT:s.heap.get? T=some o) (hr:∀ r∈rs,r.it≠z/\r.l≠z)
  (hTI:s.heap.get? TI=some { cls:=.type "tuple", data:=.seq (rs.map λr=>Value.ref r.it).toArray }) (h0:rs≠[]) (hl:rs.length<=64) (on:∀ r∈rs,r.On k s.heap)
  (hQ:∀ (vs:List Value) h',rs.map (λr=>r.xs[k]?)=vs.map some->Ze7 h' z TI TO (rawInt T) true->(∀ r∈rs,r.On (k+1) h')->h'.get? s.heap.objs.size=some { cls:=.type "tuple", data:=.seq vs.toArray }->h'.objs.size=s.heap.objs.size+1 ->
   (∀ c o,c≠z->c ∉ rs.map Lane.it->s.heap.get? c=some o->h'.get? c=some o)->Q (some (.ref s.heap.objs.size)) { s with heap:=h' })
  (hN:∀ h',(∃ r∈rs,r.xs[k]?=none)->(∀ c o,c≠z->c ∉ rs.map Lane.it->s.heap.get? c=some o->h'.get? c=some o)->Q none { s with heap:=h' }):wpAny (model prog w) A (pyNext (.ref z)) Q E s:=by
 have ty:s.TypeIs (.ref z) "zip" := ⟨_,hz,rfl⟩
 refine wpAny_bind (wpAny_attempt (wpAny_callSpecial?_slot ty F.slot_zip_next (wpAny_call_entry F.slot_zip_next ty F.entry_zip_next (Zin hh ap hz hT hr hTI h0 hl on ?_ ?_) (F.args_zip_next_1 _))))
 ·intro vs h' a1 a2 a3 a4 a5 a6
  wp_walk
  exact hQ vs h' a1 a2 a3 a4 a5 a6
 ·rintro h' e a1 a2 ⟨o',e1,e2⟩
  exact wpAny_bind (wpAny_isInstance ⟨o',e1,e2⟩ isSubtype_stop (wpAny_pure (hN h' a1 a2)))
def ZipSt (S z TI TO:Addr) (a b:Lane) (i:Nat) (h:Heap):Prop:=
 ((IsZip h z TI TO .none/\∃ x y,IsPair h TO x y)\/∃ (T:Addr) (f1:Bool) (o:Obj),Ze7 h z TI TO (rawInt T) f1/\h.get? T=some o/\T≠z/\T≠a.it/\T≠b.it/\T≠S)/\IsPair h TI (.ref a.it) (.ref b.it)/\a.On i h/\b.On i h/\S<h.objs.size
abbrev Zap (z TI TO:Addr) (a b:Lane):Prop:=ZipApart z TI TO a.it b.it a.l b.l
theorem ZipSt.next {S z TI TO:Addr} {a b:Lane} {i:Nat} {Q:Option Value->Shared->Prop} (hh:A.in1.handled=none) (D:Zap z TI TO a b) (st:ZipSt S z TI TO a b i s.heap)
  (hQ:∀ x y h',a.xs[i]?=some x->b.xs[i]?=some y->ZipSt S z TI TO a b (i+1) h'->IsPair h' s.heap.objs.size x y->h'.objs.size=s.heap.objs.size+1->(∀ c o,c ∉ [z,TO,a.it,b.it]->s.heap.get? c=some o->h'.get? c=some o)->Q (some (.ref s.heap.objs.size)) { s with heap:=h' })
  (hN:∀ h',a.xs[i]?=none\/b.xs[i]?=none->(∀ c o,c ∉ [z,TO,a.it,b.it]->s.heap.get? c=some o->h'.get? c=some o)->Q none { s with heap:=h' }) :
  wpAny (model prog w) A (pyNext (.ref z)) Q E s:=by
 obtain ⟨st,hTI,oa,ob,lS⟩:=st
 have new:∀ c,(∃ o,s.heap.get? c=some o)->s.heap.objs.size≠c:=λc ⟨o,y⟩ e=>Nat.lt_irrefl _ (e▸Heap.lt_size y)
 have na:=new a.it ⟨_,oa.1.choose_spec.1⟩
 have nb:=new b.it ⟨_,ob.1.choose_spec.1⟩
 have four:∀ {c},c≠z->c≠TO->c≠a.it->c≠b.it->c ∉ [z,TO,a.it,b.it]:=λh1 h2 h3 h4 h=>by simp [h1,h2,h3,h4] at h
 have not4:∀ {c},c ∉ [z,TO,a.it,b.it]->c≠z/\c≠TO/\c≠a.it/\c≠b.it:=λh=>by simpa using h
 rcases st with ⟨hz,p,q,hTO⟩ | ⟨T,f1,o,hz,hT,t1,t2,t3,t4⟩
 ·have nz:=new z ⟨_,hz⟩
  cases ea:a.xs[i]? with
  | none=>exact wpAny_pyNext_zip_end hh D hz hTI hTO oa.1 ob.1 oa.2 ob.2 (.inl ea) λh' k1=>hN h' (.inl ea) λc o y=>k1 c o (not4 y).1 (not4 y).2.1 (not4 y).2.2.1 (not4 y).2.2.2
  | some x=>
   cases eb:b.xs[i]? with
   | none=>exact wpAny_pyNext_zip_end hh D hz hTI hTO oa.1 ob.1 oa.2 ob.2 (.inr eb) λh' k1=>hN h' (.inr eb) λc o y=>k1 c o (not4 y).1 (not4 y).2.1 (not4 y).2.2.1 (not4 y).2.2.2
   | some y=>
    refine wpAny_pyNext_zip_item D hz hTI hTO oa.1 ob.1 oa.2 ob.2 ea eb λh' b1 b2 b3 b4 b5 b6 k1=>hQ x y h' ea eb ⟨.inr ⟨_,_,_,b1,b5,nz,na,nb,Nat.ne_of_gt lS⟩,?_,⟨b3,oa.2.at λo=>?_⟩,⟨b4,ob.2.at λo=>?_⟩,by rw [b6];exact Nat.lt_succ_of_lt lS⟩ b5 b6 λc o y=>k1 c o (not4 y).1 (not4 y).2.1 (not4 y).2.2.1 (not4 y).2.2.2
    ·exact k1 _ _ D.TIz D.TITO D.TIi1 D.TIi2 hTI
    ·exact k1 _ o D.l1z D.l1TO D.l1i1 D.l1i2
    ·exact k1 _ o D.l2z D.l2TO D.l2i1 D.l2i2
 ·refine Zio (rs:=[a,b]) hh ⟨?_,?_⟩ hz hT ?_ hTI (by simp) (by simp) (k:=i) (λr hr=>?_) ?_ ?_
  ·simpa using D.i12
  ·simpa using ⟨⟨D.l1i1,D.l2i1⟩,D.l1i2,D.l2i2⟩
  ·simpa using ⟨⟨D.i1z,D.l1z⟩,D.i2z,D.l2z⟩
  ·simp only [List.mem_cons,List.not_mem_nil,or_false] at hr
   rcases hr with rfl | rfl
   ·exact oa
   ·exact ob
  ·intro vs h' e b1 on b5 b6 k1
   match vs,e with
   | [x,y],e=>
    simp only [List.map_cons,List.map_nil,List.cons.injEq,and_true] at e
    refine hQ x y h' e.1 e.2 ⟨.inr ⟨T,true,o,b1,k1 _ _ t1 (by simp [t2,t3]) hT,t1,t2,t3,t4⟩,k1 _ _ D.TIz (by simp [D.TIi1,D.TIi2]) hTI,on a (by simp),on b (by simp),by rw [b6];exact Nat.lt_succ_of_lt lS⟩ b5 b6 λc o y=>k1 c o (not4 y).1 (by simp [(not4 y).2.2.1,(not4 y).2.2.2])
   | [],e=>simp at e
   | [_],e=>simp at e
   | _::_::_::_,e=>simp at e
  ·intro h' e k1
   refine hN h' (by simpa using e) λc o y=>k1 c o (not4 y).1 (by simp [(not4 y).2.2.1,(not4 y).2.2.2])
theorem ZipSt.aside {S z TI TO:Addr} {a b:Lane} {i:Nat} {h:Heap} (f:Obj->Obj) (hS:S ∉ [z,TI,TO,a.it,b.it,a.l,b.l]) (st:ZipSt S z TI TO a b i h):ZipSt S z TI TO a b i (h.update S f):=by
 obtain ⟨st,hTI,oa,ob,lS⟩:=st
 have kp:∀ c o,c≠S->h.get? c=some o->(h.update S f).get? c=some o:=λc o hc y=>(Heap.get?_update_other _ _ (Ne.symm hc)).trans y
 have k1:∀ c,c∈[z,TI,TO,a.it,b.it,a.l,b.l]->∀ o,h.get? c=some o->(h.update S f).get? c=some o:=λc hc o=>kp c o λe=>hS (e▸hc)
 refine ⟨st.imp (λ⟨hz,x,y,p⟩=>⟨k1 z (by simp) _ hz,x,y,k1 TO (by simp) _ p⟩) λ⟨T,f1,o,hz,hT,t1,t2,t3,t4⟩=>⟨T,f1,o,k1 z (by simp) _ hz,kp T o t4 hT,t1,t2,t3,t4⟩,k1 TI (by simp) _ hTI,oa.keep λc hc=>k1 c (by rcases hc with rfl | rfl <;> simp),
  ob.keep λc hc=>k1 c (by rcases hc with rfl | rfl <;> simp),by rw [Heap.size_update];exact lS⟩
end
end L2
namespace L2
open PySem PySem.Spec PyProof.Rows
theorem HOk.stayOn {P:Program} {w:World} {H:Hp} {h h':Heap} (x:HOk P w H h) (k:∀ b u o,H b=some u->h.get? b=some o->h'.get? b=some o):HOk P w H h':=λa o e=>
 (x a o e).stay (λb u hb q=>hb.elim (λz=>k b o u (by rw [z];exact e) q) (λz=>k b _ u z q)) (λ_ q=>q) λ_ _ q=>q
def ZL (P:Program) (w:World) (H0:Hp) (h0:Heap) (z TO i1 i2 S:Addr) (ns ms:List Int) (i:Nat) (h:Heap) (acc:Array Value):Prop:=
 ∃ (Hj:Hp) (vs:List V),Same H0 Hj/\(∀ b o,Hj b=some o->H0 b=none->h0.objs.size<=b)/\(Hj z=none/\Hj TO=none/\Hj i1=none/\Hj i2=none/\Hj S=none)/\HOk P w Hj h/\Vals vs acc.toList/\Prs Hj vs ((ns.zip ms).take i) /\
  (∀ b o,h0.get? b=some o->h.get? b=some o)/\h0.objs.size<=h.objs.size
section
variable {P:Program} {w:World} {H0:Hp} {h0:Heap} {z TO i1 i2 S:Addr} {ns ms:List Int} {i:Nat} {h h':Heap} {acc:Array Value}
theorem ZL.put (L:ZL P w H0 h0 z TO i1 i2 S ns ms i h acc) (hS:h0.objs.size<=S) (hk:∀ b o,b≠S->h.get? b=some o->h'.get? b=some o) (hsz:h.objs.size<=h'.objs.size):ZL P w H0 h0 z TO i1 i2 S ns ms i h' acc:=by
 obtain ⟨Hj,vs,a1,a2,a3,a4,a5,a6,a7,a8⟩:=L
 refine ⟨Hj,vs,a1,a2,a3,a4.stayOn λb u o e q=>hk b o (λy=>?_) q,a5,a6,λb o e=>hk b o (Nat.ne_of_lt (Nat.lt_of_lt_of_le (Heap.lt_size e) hS)) (a7 b o e),Nat.le_trans a8 hsz⟩
 rw [y,a3.2.2.2.2] at e
 cases e
theorem ZL.next {a b:Int} {x y:Value} (L:ZL P w H0 h0 z TO i1 i2 S ns ms i h acc) (hlt:z<h.objs.size/\TO<h.objs.size/\i1<h.objs.size/\i2<h.objs.size/\S<h.objs.size) (hge:h0.objs.size<=z/\h0.objs.size<=TO/\h0.objs.size<=i1/\h0.objs.size<=i2)
  (ha:ns[i]?=some a) (hb:ms[i]?=some b) (rx:RelV (.int a) x) (ry:RelV (.int b) y) (hT:IsPair h' h.objs.size x y) (hsz:h'.objs.size=h.objs.size+1)
  (hk:∀ c o,c≠z->c≠TO->c≠i1->c≠i2->h.get? c=some o->h'.get? c=some o):ZL P w H0 h0 z TO i1 i2 S ns ms (i+1) h' (acc.push (.ref h.objs.size)):=by
 obtain ⟨Hj,vs,a1,a2,⟨f1,f2,f3,f4,f5⟩,a4,a5,a6,a7,a8⟩:=L
 obtain ⟨l1,l2,l3,l4,l5⟩:=hlt
 obtain ⟨g1,g2,g3,g4⟩:=hge
 have hn:Hj h.objs.size=none:=a4.fresh (Nat.le_refl _)
 have nn:∀ c o,Hj c=some o->c≠z/\c≠TO/\c≠i1/\c≠i2:=λc o e=>⟨λq=>(by rw [q,f1] at e;cases e),λq=>(by rw [q,f2] at e;cases e),λq=>(by rw [q,f3] at e;cases e),λq=>(by rw [q,f4] at e;cases e)⟩
 have b1:HOk P w Hj h':=a4.stayOn λc u o e q=>hk c o (nn c u e).1 (nn c u e).2.1 (nn c u e).2.2.1 (nn c u e).2.2.2 q
 have sm:Same Hj (upd Hj h.objs.size (.tup [.int a,.int b])):=Same.new hn
 refine ⟨upd Hj h.objs.size (.tup [.int a,.int b]),vs++[.ref h.objs.size],a1.trans sm,λc o e n=>?_,⟨?_,?_,?_,?_,?_⟩,λc o e=>?_,?_,?_,λc o e=>?_,by omega⟩
 ·by_cases hc:c=h.objs.size
  ·rw [hc];exact a8
  ·rw [Zam hc] at e;exact a2 c o e n
 ·rw [Zam (Nat.ne_of_lt l1)];exact f1
 ·rw [Zam (Nat.ne_of_lt l2)];exact f2
 ·rw [Zam (Nat.ne_of_lt l3)];exact f3
 ·rw [Zam (Nat.ne_of_lt l4)];exact f4
 ·rw [Zam (Nat.ne_of_lt l5)];exact f5
 ·by_cases hc:c=h.objs.size
  ·subst hc
   rw [Zab] at e;cases e
   exact ⟨by show 2<=sizeLine;decide,[x,y],.cons rx (.cons ry .nil),⟨_,hT,rfl,_,rfl⟩⟩
  ·rw [Zam hc] at e
   exact (b1 c o e).stay (λ_ _ _ q=>q) (λd q=>sm _ _ q) λd xs q=>sm _ _ q
 ·rw [Array.toList_push]
  exact a5.append (.cons rfl .nil)
 ·have e:(ns.zip ms)[i]?=some (a,b):=by
   rw [List.getElem?_zip_eq_some]
   exact ⟨ha,hb⟩
  rw [List.take_add_one,e]
  exact (a6.same sm).snoc Zab
 ·have hc:=Heap.lt_size e
  exact hk c o (Nat.ne_of_lt (Nat.lt_of_lt_of_le hc g1)) (Nat.ne_of_lt (Nat.lt_of_lt_of_le hc g2)) (Nat.ne_of_lt (Nat.lt_of_lt_of_le hc g3)) (Nat.ne_of_lt (Nat.lt_of_lt_of_le hc g4)) (a7 c o e)
end
abbrev Zip (h:Heap) (S:Addr) (acc:Array Value) (c:Nat):Prop:=h.get? S=some { cls:=.type "list", dict:=none,data:=.seq acc c,slots:=#[] }
structure Fed (prog:Program) (w:World) (A:Around) (I S:Addr) (n:Nat) (St:Nat->Heap->Array Value->Prop) (Fi:Heap->Array Value->Prop):Prop where
 give:∀ i (s:Shared) acc (Q:Option Value->Shared->Prop) E,i<n->St i s.heap acc ->
  (∀ v h',(∀ o,s.heap.get? S=some o->h'.get? S=some o)->St (i+1) h' (acc.push v)->Q (some v) { s with heap:=h' })->wpAny (model prog w) A (pyNext (.ref I)) Q E s
 stop:∀ (s:Shared) acc (o:Obj) (Q:Option Value->Shared->Prop) E,s.heap.get? S=some o->St n s.heap acc->(∀ h',(∀ o,s.heap.get? S=some o->h'.get? S=some o)->Fi h' acc->Q none { s with heap:=h' })->wpAny (model prog w) A (pyNext (.ref I)) Q E s
 aside:∀ i h f acc,St i h acc->St i (h.update S f) acc
section
variable {prog:Program} {w:World} {A:Around} {I S:Addr} {n:Nat} {St:Nat->Heap->Array Value->Prop} {Fi:Heap->Array Value->Prop}
theorem Fed.loop (W:Fed prog w A.in1 I S n St Fi) (hn:n<=1000) (res:Value) {R:Result->Shared->Prop}:∀ (k:Nat) (s:Shared) (acc:Array Value) (c:Nat),acc.size+k=n->St acc.size s.heap acc->Zip s.heap S acc c ->
  (∀ h' acc' c',acc'.size=n->Fi h' acc'->Zip h' S acc' c'->R (.ok (.ret res)) { s with heap:=h' })->codeAny (model prog w) A (.builtin "list.extend.loop" ⟨[.ref S,.ref I,res],[]⟩) R s
 | 0,s,acc,c,e,st,hS,hR=>codeAny_builtin F.entry_extend_loop <| (Around.under_plainId F.plain_extend_loop _)▸wpAny_bind (W.stop s acc _ _ _ hS (by rw [Nat.add_zero] at e;exact e▸st) λh' k1 f=>wpAny_pure (hR h' acc c e f (k1 _ hS)))
 | k+1,s,acc,c,e,st,hS,hR=>codeAny_builtin F.entry_extend_loop <| (Around.under_plainId F.plain_extend_loop _)▸wpAny_bind (W.give _ s acc _ _ (by omega) st λv h' k1 st1=>by
   have h16:=sizeLine_eq
   have hS1:=k1 _ hS
   refine wpAny_bind (wpAny_updateSeq (s:={ s with heap:=h' }) (f:=(·.push v)) hS1 rfl (wpAny_pure ⟨plainId_quiet F.plain_extend_loop _,?_⟩) (by omega) (by rw [Array.size_push];omega))
   have es:acc.size+1=(acc.push v).size:=(Array.size_push ..).symm
   exact W.loop hn res k _ (acc.push v) _ (by omega) (W.aside _ _ _ _ (es▸st1)) (Heap.get?_update_self _ hS1 rfl) hR)
end
section
variable {prog:Program} {w:World} {A:Around} {E:Value->Shared->Prop} {s:Shared}
namespace ZF
theorem no_len:typeLookup (.type "zip") "__len__" = pure none:=by rw [typeLookup_type,builtinLookup_eq_fast];kernel_rfl
theorem no_hint:typeLookup (.type "zip") "__length_hint__" = pure none:=by rw [typeLookup_type,builtinLookup_eq_fast];kernel_rfl
end ZF
theorem Ziq {z TI TO:Addr} {f0:Value} {n:Nat} {St:Nat->Heap->Array Value->Prop} {Fi:Heap->Array Value->Prop} {Q:Value->Shared->Prop} (hz:IsZip s.heap z TI TO f0) (W:Fed prog w A.in1.in1 z s.heap.objs.size n St Fi) (hn:n<=1000)
  (st:St 0 (s.heap.push { cls:=.type "list", data:=.seq #[] }) #[])
  (hQ:∀ h' acc c,acc.size=n->Fi h' acc->Zip h' s.heap.objs.size acc c->Q (.ref s.heap.objs.size) { s with heap:=h' }):wpAny (model prog w) A (call (.type "list") [.ref z]) Q E s:=by
 have hS:Zip (s.heap.push { cls:=.type "list", data:=.seq #[] }) s.heap.objs.size #[] 0:=Heap.get?_push_size _ rfl
 have hz1:IsZip (s.heap.push { cls:=.type "list", data:=.seq #[] }) z TI TO f0:=Heap.get?_push_of_some _ hz
 have nz:s.heap.objs.size≠z:=λe=>Nat.lt_irrefl _ (e▸Heap.lt_size hz)
 refine callType_codes F.called_list (F.typeCall_list_1 _) F.entry_list_init (code_list_new (.ref z) (Q₁:=λv t=>v=.ref s.heap.objs.size/\t.heap=s.heap.push { cls:=.type "list", data:=.seq #[] }/\t={ s with heap:=t.heap }) ⟨rfl,rfl,rfl⟩) ?_
 rintro _ t ⟨rfl,ht,he⟩
 rw [he,ht]
 clear he ht t
 refine ⟨⟨_,hS,rfl⟩,F.args_list_init_2 _ _,?_⟩
 generalize s.heap.push { cls:=.type "list", data:=.seq #[] }=h1 at *
 generalize s.heap.objs.size=S at *
 wp_walk
 rw [if_neg (by simp [Builtin.List.listSameRef,nz])]
 have hz2:IsZip (h1.update S (Obj.mapSeq λ_=>#[])) z TI TO f0:=(Heap.get?_update_other _ _ nz).trans hz1
 have hS2:=Heap.get?_update_self (Obj.mapSeq λ_=>(#[]:Array Value)) hS rfl
 have st2:=W.aside 0 h1 (Obj.mapSeq λ_=>#[]) _ st
 generalize h1.update S (Obj.mapSeq λ_=>#[])=h2 at *
 refine wpAny_bind (wpAny_pyIter_zip hz2 ?_)
 have nl:=ZF.no_len
 have nh:=ZF.no_hint
 have ty:Shared.TypeIs { s with heap:=h2 } (.ref z) "zip" := ⟨_,hz2,rfl⟩
 wp_walk
 exact ⟨plainId_quiet F.plain_extend_loop _,W.loop hn .none n _ #[] _ (by simp) (W.aside _ _ _ _ (W.aside _ _ _ _ st2)) (Heap.get?_update_self _ (Heap.get?_update_self _ hS2 rfl) rfl) λh' acc c e f l=>⟨rfl,hQ h' acc c e f l⟩⟩
theorem Zkd {P:Program} {H0:Hp} {h0:Heap} {z TI TO S:Addr} {a b:Lane} {ns ms:List Int} (hh:A.in1.handled=none) (D:Zap z TI TO a b) (hS:S ∉ [z,TI,TO,a.it,b.it,a.l,b.l]) (hlt:z<S/\TO<S/\a.it<S/\b.it<S)
  (hge:h0.objs.size<=z/\h0.objs.size<=TO/\h0.objs.size<=a.it/\h0.objs.size<=b.it) (hgS:h0.objs.size<=S) (vx:Vals (ns.map V.int) a.xs.toList) (vy:Vals (ms.map V.int) b.xs.toList) :
  Fed prog w A z S (min ns.length ms.length) (λi h acc=>ZipSt S z TI TO a b i h/\ZL P w H0 h0 z TO a.it b.it S ns ms i h acc) (ZL P w H0 h0 z TO a.it b.it S ns ms (min ns.length ms.length)):=by
 have S4:S ∉ [z,TO,a.it,b.it]:=λh=>hS (by simp only [List.mem_cons,List.not_mem_nil,or_false] at h ⊢;rcases h with h | h | h | h <;> simp [h])
 have item:∀ {ls:List Int} {r:Lane} {i:Nat},Vals (ls.map V.int) r.xs.toList->(hi:i<ls.length)->∃ u,r.xs[i]?=some u/\RelV (.int ls[i]) u:=λ{ls r i} v hi=>by
  obtain ⟨u,g,x⟩:=v.get (show (ls.map V.int)[i]?=some (.int ls[i]) by rw [List.getElem?_map,List.getElem?_eq_getElem hi];rfl)
  exact ⟨u,by simpa using g,x⟩
 have last:∀ {ls:List Int} {r:Lane} {i:Nat} {u:Value},Vals (ls.map V.int) r.xs.toList->r.xs[i]?=some u->i<ls.length:=λ{ls r i u} v e=>by
  have l:=v.length
  rw [List.length_map] at l
  rw [l,Array.length_toList]
  exact (Array.getElem?_eq_some_iff.1 e).1
 have out:∀ {c},c≠z->c≠TO->c≠a.it->c≠b.it->c ∉ [z,TO,a.it,b.it]:=λh1 h2 h3 h4 h=>by simp [h1,h2,h3,h4] at h
 refine ⟨λi s acc Q E hi ⟨st,L⟩ hQ=>?_,λs acc oS Q E eS ⟨st,L⟩ hQ=>?_,λi h f acc ⟨st,L⟩=>⟨st.aside f hS,L.put hgS (λc o hc y=>(Heap.get?_update_other _ _ (Ne.symm hc)).trans y) (Nat.le_of_eq (Heap.size_update ..).symm)⟩⟩
 ·obtain ⟨x,ex,rx⟩:=item (i:=i) vx (by omega)
  obtain ⟨y,ey,ry⟩:=item (i:=i) vy (by omega)
  have lS:=st.2.2.2.2
  refine st.next hh D (λx' y' h' fx fy st' p sz k1=>?_) λh' e=>?_
  ·rw [ex] at fx;rw [ey] at fy
   cases fx;cases fy
   exact hQ _ h' (λo=>k1 S o S4) ⟨st',L.next ⟨Nat.lt_trans hlt.1 lS,Nat.lt_trans hlt.2.1 lS,Nat.lt_trans hlt.2.2.1 lS,Nat.lt_trans hlt.2.2.2 lS,lS⟩ hge (List.getElem?_eq_getElem (by omega)) (List.getElem?_eq_getElem (by omega)) rx ry p sz λc o h1 h2 h3 h4=>k1 c o (out h1 h2 h3 h4)⟩
  ·rw [ex,ey] at e;simp at e
 ·refine st.next hh D (λx' y' h' fx fy=>?_) λh' e k1=>hQ h' (λo=>k1 S o S4) ?_
  ·have:=last vx fx;have:=last vy fy;omega
  ·obtain ⟨Hj,vs,a1,a2,a3,a4,a5,a6,a7,a8⟩:=L
   have old:∀ c,h0.objs.size > c->c ∉ [z,TO,a.it,b.it]:=λc hc=>out (Nat.ne_of_lt (Nat.lt_of_lt_of_le hc hge.1)) (Nat.ne_of_lt (Nat.lt_of_lt_of_le hc hge.2.1)) (Nat.ne_of_lt (Nat.lt_of_lt_of_le hc hge.2.2.1)) (Nat.ne_of_lt (Nat.lt_of_lt_of_le hc hge.2.2.2))
   have ours:∀ c o,Hj c=some o->c ∉ [z,TO,a.it,b.it]:=λc o y h=>by
    simp only [List.mem_cons,List.not_mem_nil,or_false] at h
    rcases h with rfl | rfl | rfl | rfl <;> simp [a3] at y
   exact ⟨Hj,vs,a1,a2,a3,a4.stayOn λc u o e y=>k1 c o (ours c u e) y,a5,a6,λc o y=>k1 c o (old c (Heap.lt_size y)) (a7 c o y),Nat.le_of_lt (Nat.lt_of_le_of_lt hgS (Heap.lt_size (k1 S oS S4 eS)))⟩
end
section
variable {X:Cx}
theorem Zha:bootBuiltins "zip" = some (.type "zip"):=by first | rfl | decide +kernel
def Zir (K:PySem.W.Frag) (ta:TA):TE:=λσ H Q=>ta σ H λvs H1=>∃ (l1 l2:Addr) (ns ms:List Int),vs=[.ref l1,.ref l2]/\SqL K H1 l1 (ns.map V.int)/\SqL K H1 l2 (ms.map V.int)/\ns.length<=1000 /\
 ∀ (S:Addr) (ws:List V) (H':Hp),Same H1 H'->H1 S=none->H' S=some (.lst ws)->Prs H' ws (ns.zip ms)->Q (.ref S) H'
theorem Zgf {a b:Expr} {ta:TA} {p p2 pos pos2:Pos} (K:PySem.W.Frag) (hc:X.calm=true) (hg:Gl X "list") (hm:X.mg "list" = none) (hg2:Gl X "zip") (hm2:X.mg "zip" = none) (ha:PA X [a,b] ta) (hK:X.K=K:=by rfl)
  (hs:starEach [Expr.Call (.Name "zip" p2) [a,b] [] pos2] X.env=[(false,eval (.Call (.Name "zip" p2) [a,b] [] pos2) X.env)]:=by rfl)
  (hs2:starEach [a,b] X.env=(false,eval a X.env)::starEach [b] X.env:=by rfl) (hp2:(backTo pos2 (starEach [b] X.env)).any (·.1)=false:=by rfl) :
  PE X (.Call (.Name "list" p) [.Call (.Name "zip" p2) [a,b] [] pos2] [] pos) (Zir K ta):=by
 subst hK
 intro pins s σ H Q I h
 refine wpAny_Call_Name_kw (Zcd I hg hm ZbH (PyProof.Rows.callWith_type1 ?_ hs rfl) (by decide) (by decide))
 rw [hs]
 refine Calls.spliced_cons ?_
 refine wpAny_Call_Name_kw (Zcd I hg2 hm2 Zha (PyProof.Rows.callWith_type1 (thn (ha pos2 pins s σ H _ I h) λus s1 ⟨vs,H1,I1,r1,q1⟩=>?_) hs2 hp2) (by decide) (by decide))
 obtain ⟨l1,l2,ns,ms,rfl,hq1,hq2,hn,q⟩:=q1
 obtain ⟨u1,u2,rfl,ru1,ru2⟩:=r1.two
 cases ru1
 cases ru2
 obtain ⟨xs,v1,p1,hz1⟩:=I1.list hq1
 obtain ⟨ys,v2,p2',hz2⟩:=I1.list hq2
 refine call_zip_2 p1.isList p2'.isList λh' hz hTI hTO hi1 hi2 hsz hk=>?_
 refine Calls.spliced_nil ?_
 have lt1:l1<s1.heap.objs.size:=by obtain ⟨_,e,_⟩:=p1.isList;exact Heap.lt_size e
 have lt2:l2<s1.heap.objs.size:=by obtain ⟨_,e,_⟩:=p2'.isList;exact Heap.lt_size e
 have D:ZipApart (s1.heap.objs.size+4) (s1.heap.objs.size+2) (s1.heap.objs.size+3) s1.heap.objs.size (s1.heap.objs.size+1) l1 l2:=by
  constructor <;> (first | exact Nat.ne_of_lt (by omega) | exact Nat.ne_of_gt (by omega) | (apply Nat.ne_of_lt;exact Nat.lt_of_lt_of_le (by assumption) (by omega)))
 have l1x:=v1.length
 rw [List.length_map] at l1x
 have fr:∀ b,s1.heap.objs.size<=b->H1 b=none:=λb hb=>I1.hok.fresh hb
 have hS:h'.objs.size ∉ [s1.heap.objs.size+4,s1.heap.objs.size+2,s1.heap.objs.size+3,s1.heap.objs.size,s1.heap.objs.size+1,l1,l2]:=by
  simp only [List.mem_cons,List.not_mem_nil,or_false]
  have g1:l1<h'.objs.size:=by rw [hsz];exact Nat.lt_of_lt_of_le lt1 (by omega)
  have g2:l2<h'.objs.size:=by rw [hsz];exact Nat.lt_of_lt_of_le lt2 (by omega)
  rintro (e | e | e | e | e | e | e) <;> first | omega | exact Nat.ne_of_gt g1 e | exact Nat.ne_of_gt g2 e
 have up:∀ b o,s1.heap.get? b=some o->(h'.push { cls:=.type "list", data:=.seq #[] }).get? b=some o:=λb o e=>Heap.get?_push_of_some _ (hk b o e)
 have pu:∀ b o,h'.get? b=some o->(h'.push { cls:=.type "list", data:=.seq #[] }).get? b=some o:=λb o e=>Heap.get?_push_of_some _ e
 have l2x:=v2.length
 rw [List.length_map] at l2x
 refine Ziq hz (Zkd (P:=X.prog) (H0:=H1) (h0:=s1.heap) (a:=⟨s1.heap.objs.size,l1,xs.toArray⟩) (b:=⟨s1.heap.objs.size+1,l2,ys.toArray⟩) (I1.ok.hd hc) D hS ⟨by show _<h'.objs.size;omega,by show _<h'.objs.size;omega,by show s1.heap.objs.size<h'.objs.size;omega,by show s1.heap.objs.size+1<h'.objs.size;omega⟩
  ⟨by omega,by omega,Nat.le_refl _,by show _<=s1.heap.objs.size+1;omega⟩ (by show _<=h'.objs.size;omega) v1 v2) (by omega)
  ⟨⟨.inl ⟨pu _ _ hz,_,_,pu _ _ hTO⟩,pu _ _ hTI,⟨hi1.at λo=>pu _ o,p1.isList.at λo=>up _ o⟩,⟨hi2.at λo=>pu _ o,p2'.isList.at λo=>up _ o⟩,by rw [Heap.size_push];exact Nat.lt_succ_self _⟩,
   H1,[],Same.refl _,λb o e n=>(by rw [n] at e;cases e),⟨fr _ (by omega),fr _ (by omega),fr _ (Nat.le_refl _),fr _ (by show _<=s1.heap.objs.size+1;omega),fr _ (by show _<=h'.objs.size;omega)⟩,I1.hok.kept λb u e=>up b u e,.nil,.nil,up,by rw [Heap.size_push];show _<=h'.objs.size+1;omega⟩ ?_
 ·intro h2 acc c z2 L e2
  obtain ⟨Hj,ws,a1,a2,⟨f1,f2,f3,f4,f5⟩,a4,a5,a6,a7,a8⟩:=L
  have h16:(16777216:Nat)=sizeLine:=sizeLine_eq.symm
  have hzl:(ns.zip ms).take (min ns.length ms.length)=ns.zip ms:=List.take_of_length_le (by rw [List.length_zip];omega)
  rw [hzl] at a6
  have hwl:ws.length<=sizeLine:=by rw [a5.length,Array.length_toList,z2];omega
  have sm:Same Hj (upd Hj h'.objs.size (.lst ws)):=Same.new f5
  have S1:=a1.trans sm
  refine ⟨.ref h'.objs.size,upd Hj h'.objs.size (.lst ws),I1.un (h':=h2) (t':=s1.toks) ⟨λb o e _ _ _=>a7 b o e,λb o e _ _ _=>⟨o.slots,a7 b o e⟩,λb o e n _=>?_,λb o e _=>⟨o,a7 b o e⟩,λb ys e=>S1 _ _ e,λb o u e=>S1 _ _ e,λb ps e=>⟨#[],by rw [S1 _ _ e];simp⟩⟩ (λb o e=>?_),rfl,?_⟩
  ·have hb:=Heap.lt_size e
   rw [Zam (Nat.ne_of_lt (Nat.lt_of_lt_of_le hb (show s1.heap.objs.size<=h'.objs.size by omega)))]
   cases z:Hj b with
   | none=>rfl
   | some u=>exact absurd (Nat.lt_of_lt_of_le hb (a2 b u z n)) (Nat.lt_irrefl _)
  ·by_cases hb:b=h'.objs.size
   ·subst hb
    rw [Zab] at e;cases e
    exact ⟨hwl,acc.toList,c,a5,e2⟩
   ·rw [Zam hb] at e
    exact (a4 b o e).stay (λ_ _ _ q=>q) (λd q=>sm _ _ q) λd xs q=>sm _ _ q
  ·refine q _ ws _ S1 ?_ Zab (a6.same sm)
   exact I1.hok.fresh (by omega)
end
end L2
namespace L2
open PySem PySem.Spec PyProof.Rows
theorem Zcn:bootBuiltins "min" = some (.builtin "min"):=by first | rfl | decide +kernel
section
variable {X:Cx}
theorem ZoU (K:PySem.W.Frag) (hc:X.calm=true) (h:X.K=K:=by rfl):ZbB X (.builtin "min") (λxs H Q=>∃ (p:Addr) (ns:List Int),xs=[.ref p]/\SqL K H p (ns.map V.int)/\ns≠[]/\∀ m,m∈ns->(∀ n∈ns,m<=n)->Q (.int m) H):=by
 subst h
 intro pins s σ H xs us Q I rv h
 obtain ⟨p,ns,rfl,hq,hne,q⟩:=h
 obtain ⟨u,rfl,ru⟩:=rv.one
 cases ru
 obtain ⟨its,r,pl,hz⟩:=I.list hq
 have hh:X.A.in1.handled=none:=I.ok.hd hc
 have hl:=r.length
 rw [List.length_map] at hl
 have hpos:0<ns.length:=List.length_pos_iff.mpr hne
 obtain ⟨o,eo,_⟩:=id pl.isList
 have hlt:p<s.heap.objs.size:=Heap.lt_size eo
 have hval:∀ (i:Nat) (v:Value),its.toArray[i]?=some v->∃ t,v=Value.int (ns.getD i 0) t:=λi v hv=>by
  have hv':its[i]?=some v:=by simpa using hv
  have hi:i<its.length:=(List.getElem?_eq_some_iff.mp hv').1
  have ex:(ns.map V.int)[i]?=some (.int (ns[i]'(by omega))):=by rw [List.getElem?_map,List.getElem?_eq_getElem (by omega)];rfl
  obtain ⟨u,gu,ru⟩:=r.get ex
  rw [gu] at hv'
  cases hv'
  obtain ⟨t,rfl⟩:=ru
  exact ⟨t,by rw [List.getD_eq_getElem?_getD,List.getElem?_eq_getElem (by omega)];rfl⟩
 refine call_min_walk (wpAny_pyIter_list pl.isList ?_)
 refine ⟨s.heap.objs.size,_,_,_,_,_,_,rfl,Walks.list hh s.heap.objs.size p (Nat.ne_of_lt hlt) its.toArray,⟨⟨_,Heap.get?_push_size _ rfl,rfl,rfl⟩,pl.isList.at λo e=>Heap.get?_push_of_some _ e⟩,?_,by rw [List.size_toArray];omega,CmpOf.ints_lt (λi=>ns.getD i 0) hval,λv h' tk hv hk=>?_⟩
 ·intro b hb
  have e:b=s.heap.objs.size\/b=p:=by simpa using hb
  have hsz:(s.heap.push { cls:=.type "list_iterator", data:=.fields #[.ref p,.int 0 0] }).objs.size=s.heap.objs.size+1:=Heap.size_push ..
  show b<(s.heap.push { cls:=.type "list_iterator", data:=.fields #[.ref p,.int 0 0] }).objs.size
  rw [hsz]
  rcases e with e | e
  ·rw [e];exact Nat.lt_succ_self _
  ·rw [e];exact Nat.lt_succ_of_lt hlt
 ·obtain ⟨t,rfl⟩:=hval _ v hv
  have hA:=argBest_lt (λi=>ns.getD i 0) (its.toArray.size-1)
  have hsz:its.toArray.size=ns.length:=by rw [List.size_toArray];exact hl.symm
  generalize hg:argBest (λi j=>decide (ns.getD i 0<ns.getD j 0)) (its.toArray.size-1)=g at hA ⊢
  have hg1:g<ns.length:=by omega
  have eg:ns.getD g 0=ns[g]:=by rw [List.getD_eq_getElem?_getD,List.getElem?_eq_getElem hg1];rfl
  refine ⟨.int (ns.getD g 0),H,I.kept λb o e'=>hk b o ?_ (Heap.get?_push_of_some _ e'),⟨t,rfl⟩,q _ (by rw [eg];exact List.getElem_mem hg1) λn hn=>?_⟩
  ·intro z
   have:b=s.heap.objs.size:=by simpa using z
   exact absurd (Heap.lt_size e') (by rw [this];exact Nat.lt_irrefl _)
  ·obtain ⟨j,hj,rfl⟩:=List.getElem_of_mem hn
   have:=hA.2 j (by omega)
   have ej:ns.getD j 0=ns[j]:=by rw [List.getD_eq_getElem?_getD,List.getElem?_eq_getElem hj];rfl
   rw [<-ej]
   exact this
end
theorem ZfL {K:PySem.W.Frag} {a:Addr} {xs:List V} {g:TG} {tb:TS} {D:Ends} {σ:St} {H:Hp} (Pv:Nat->St->Hp->Prop) (h0:Pv 0 σ H) (hl:∀ i σ H,i<=xs.length->Pv i σ H->SqL K H a xs)
  (hs:∀ i x σ H T,xs[i]?=some x->Pv i σ H->H T=none->g (.ref T) σ (upd H T (.tup [.int (i:Nat),x])) λσ2 H2=>tb { D with nx:=Pv (i+1),ct:=Pv (i+1),bk:=D.nx } σ2 H2) (hd:∀ σ H,Pv xs.length σ H->D.nx σ H) :
  ∃ W:Nat->Nat->St->Hp->Prop,(∃ m,W 0 m σ H)/\∀ i m σ H,W i m σ H ->
   ((Ite K a).stop i H/\D.nx σ H)\/((Ite K a).go i H/\∃ N:St->Hp->Prop,(∀ σ' H',N σ' H'->∃ m',m'<m/\W (i+1) m' σ' H')/\∀ x H',(Ite K a).yld i H x H'->g x σ H' λσ2 H2=>tb { D with nx:=N,ct:=N,bk:=D.nx } σ2 H2):=by
 refine ⟨λi m σ H=>m=xs.length-i/\i<=xs.length/\Pv i σ H,⟨xs.length,by simp,Nat.zero_le _,h0⟩,?_⟩
 rintro i m σ H ⟨rfl,hi,p⟩
 have q:=hl i σ H hi p
 by_cases hlt:i<xs.length
 ·refine .inr ⟨⟨xs,xs[i],q,by simp [hlt]⟩,Pv (i+1),λσ' H' p'=>⟨xs.length-(i+1),by omega,rfl,hlt,p'⟩,λx H' y=>?_⟩
  obtain ⟨T,y',rfl,hT,rfl,hy⟩:=y
  exact hs i y' σ H T (hy xs q) p hT
 ·have e:i=xs.length:=by omega
  subst e
  exact .inl ⟨⟨xs,q,Nat.le_refl _⟩,hd σ H p⟩
def ZoV (lo:Int) (n:Nat):It:=⟨λi _=>i<n,λi H x H'=>H'=H/\x=.int (lo-i),λi _=>n<=i⟩
section
variable {X:Cx} {tg:Expr}
def ZoW (ta:TA):TI:=λσ H R=>ta σ H λvs H1=>∃ i j:Int,vs=[.int i,.int j,.int (-1)]/\(-1000<=i/\i<1000/\-1000<=j/\j<1000)/\R (ZoV i (i-j).toNat) H1
end
section
variable {X:Cx}
def ZoX (hi:Option Int) (xs:List V):List V:=match hi with
 | none=>xs.reverse
 | some _=>(xs.drop 1).reverse
def ZpF (K:PySem.W.Frag) (te:TE) (th:TO):TE:=λσ H Q=>te σ H λx H1=>th σ H1 λu H2=>∃ a xs,x=.ref a/\SqL K H2 a xs/\(u=none\/u=some 0)/\∀ p,H2 p=none->Q (.ref p) (upd H2 p (.lst (ZoX u xs)))
end
end L2
namespace L2
open PySem PySem.Spec PyProof.Rows
structure FunD (K:PySem.W.Frag) (x qual:Str) (st:Stmt) (dV:Value) (f:Addr) (fd:FuncData):Prop where
 ex:∃ (oc:Value) (od:Option Addr) (kV doc pm:Value) (an:Option Addr) (cdv ct:Value) (osl:Array (Option Value)),
  fd=PySem.W.fnOf x qual (Zaq st) (Zao st) (Zaf st) dV kV doc pm an cdv ct/\K.lookup f=some ⟨oc,od,.func fd,osl⟩/\PySem.W.codeIn K cdv qual=true
 kp:PySem.W.keepIn K (.ref f)=true
section
variable {P:Program} {w:World} {K:PySem.W.Frag} {mg:Str->Option Value} {base:Heap}
theorem FunD.ok {x qual:Str} {st:Stmt} {dV:Value} {f:Addr} {fd:FuncData} {N ps:List Str} {k:Nat} {sp:Sp} (F:FunD K x qual st dV f fd) (S:Zav N ps (Zaf st)) (len:∀ vs H Q E,sp vs H Q E->vs.length=ps.length)
  (hbody:∀ (cdv:Value) (A:Around) (outer:List Env) (s:Shared) (H:Hp) (vs:List V) (Q:VK) (E:XK),Room k (A.deeper (envOfC qual (Zaf st) s.heap.objs.size f cdv))->sp vs H Q E ->
   ∃ t,PSs (ZgN CX0 P w K mg base N qual (Zaf st) f cdv A outer s H E).nox (Zao st) t/\t { nx:=λ_ H'=>Q .non H',rt:=Q } (start N vs) H):ZaO P w K mg base CX0 (k+1) f fd ps sp:=by
 obtain ⟨oc,od,kV,doc,pm,an,cdv,ct,osl,rfl,lk,hcd⟩:=F.ex
 refine ZjO lk hcd S len λA outer s H vs Q E hr hsp=>?_
 obtain ⟨t,h,q⟩:=hbody cdv A outer s H vs Q E hr hsp
 exact ⟨t,h.nox,q⟩
theorem Zke {x qual:Str} {st:Stmt} {f:Addr} {oc:Value} {od an:Option Addr} {osl:Array (Option Value)} {dV kV doc pm cdv ct:Value} (l:K.lookup f=some ⟨oc,od,.func (PySem.W.fnOf x qual (Zaq st) (Zao st) (Zaf st) dV kV doc pm an cdv ct),osl⟩)
  (c:PySem.W.codeIn K cdv qual=true) (k:PySem.W.keepIn K (.ref f)=true):FunD K x qual st dV f (PySem.W.fnOf x qual (Zaq st) (Zao st) (Zaf st) dV kV doc pm an cdv ct):=⟨⟨oc,od,kV,doc,pm,an,cdv,ct,osl,rfl,l,c⟩,k⟩
end
end L2
namespace L2
open PySem PySem.Spec PyProof.Rows
end L2
namespace L2
open PySem
def itf (M:Nat):Nat->Nat->Nat
 | 0,x=>x
 | k+1,x=>itf M k ((x * 5+1) % M)
def orb (M:Nat):Nat->Nat->List Nat
 | 0,_=>[]
 | n+1,x=>x::orb M n ((x * 5+1) % M)
def ZpG (M:Nat):Bool:=(List.range M).all (λj=>(orb M M 0).contains j) && itf M M 0 == 0
def adv (mask:Nat) (p:SetTable.Probe):SetTable.Probe:=
 if p.more > 0 then { p with j:=p.j+1,more:=p.more-1 }
 else { p with j:=(SetTable.leap mask p.i p.perturb).1,more:=SetTable.runEnd mask (SetTable.leap mask p.i p.perturb).1-(SetTable.leap mask p.i p.perturb).1,i:=(SetTable.leap mask p.i p.perturb).1,perturb:=(SetTable.leap mask p.i p.perturb).2 }
def Zkf (mask:Nat):Nat->SetTable.Probe->SetTable.Probe
 | 0,p=>p
 | n+1,p=>Zkf mask n (adv mask p)
def rs (mask i pt:Nat):SetTable.Probe:={ j:=i,more:=SetTable.runEnd mask i-i,i:=i,perturb:=pt,dummy:=none }
def st0 (mask:Nat) (h:Int):SetTable.Probe:=rs mask (SetTable.bits h % (mask+1)) (SetTable.bits h)
def lps (mask:Nat):Nat->Nat×Nat->Nat×Nat
 | 0,x=>x
 | m+1,x=>lps mask m (SetTable.leap mask x.1 x.2)
def Zoc (xs:Array Nat):Prop:=xs.toList.Pairwise (· < ·)
section
variable {t:SetTable} {ha:Nat->Int} {h:Int}
end
end L2
namespace L2
open PySem
def Zod (mask:Nat) (acc:Option (Array (Option Nat)×Nat)) (h:Int):Option (Array (Option Nat)×Nat):=
 acc.bind λx=>(SetTable.layClean.free mask x.1 (SetTable.turns mask) (SetTable.bits h % (mask+1)) (SetTable.bits h)).bind λj=>some (x.1.setIfInBounds j (some x.2),x.2+1)
structure Lc (mask:Nat) (ow:Array (Option Nat)) (js:List Nat) (hs:List Int):Prop where
 sz:ow.size=mask+1
 len:js.length=hs.length
 at_:∀ (q j:Nat),js[q]?=some j↔ow[j]?=some (some q)
 rch:∀ (q:Nat) (h:Int) (j:Nat),hs[q]?=some h->js[q]?=some j->∃ n,(Zkf mask n (st0 mask h)).j=j/\∀ r,r<n->ow[(Zkf mask r (st0 mask h)).j]?≠some none
structure ZpH (t:SetTable) (od:Array Nat) (mask finger moves:Nat) (led plain:Bool) (hashes:Array Int):Prop where
 tm:t.mask=mask
 tl:t.led=led
 tp:t.plain=plain
 td:t.dummies=#[]
 rise:Zoc t.place
 le:∀ j∈t.place.toList,j<=mask
 perm:od.toList.Perm (List.range hashes.size)
 sz:t.place.size=hashes.size
 rch:∀ (r q j:Nat) (h:Int),od[r]?=some q->t.place[r]?=some j->hashes[q]?=some h->∃ n,(Zkf mask n (st0 mask h)).j=j/\∀ r',r'<n->(Zkf mask r' (st0 mask h)).j∈t.place.toList
end L2
namespace L2
open PySem
def ins {α:Type} (l:List α) (p:Nat) (x:α):List α:=l.take p++x::l.drop p
structure TOk (t:SetTable) (hs:List Int):Prop where
 mask:t.mask=7\/t.mask=31\/t.mask=127
 dum:t.dummies=#[]
 len:t.place.size=hs.length
 rise:Zoc t.place
 le:∀ j∈t.place.toList,j<=t.mask
 rch:∀ (i:Nat) (h:Int) (j:Nat),hs[i]?=some h->t.place[i]?=some j->∃ n,(Zkf t.mask n (st0 t.mask h)).j=j/\∀ q,q<n->(Zkf t.mask q (st0 t.mask h)).j∈t.place.toList
abbrev ZoY (es:Array (Int×Value)):List Int:=es.toList.map (·.1)
structure SOk (t:SetTable) (es:Array (Int×Value)):Prop where
 T:TOk t (ZoY es)
 room:es.size * 5<t.mask * 3
end L2
namespace L2
open PySem PySem.Spec PyProof.Rows
end L2
namespace L2
open PySem PySem.Spec PyProof.Rows
def Zey (w:World):Bool:=w.params.followText "set-order"
section
variable {P:Program} {w:World} {A:Around} {E:Value->Shared->Prop} {s:Shared}
def ZoZ (P:Program) (w:World) (e:Int×Value) (n:Int):Prop:=e.1=(intKind P w).hash n/\∃ tk,e.2=Value.int n tk
def Zo0 (P:Program) (w:World) (o:Obj) (σ:List Int):Prop:=∃ es ep t,o.ExactSet/\o.data=.set es ep t/\Paired (ZoZ P w) es.toList σ/\σ.Nodup/\SOk t es/\t.plain=true/\t.led=!Zey w
end
end L2
namespace L2
open PySem PySem.Spec PyProof.Rows
def Znr (w:World):Obj:={ cls:=.type "set", dict:=none,data:=.set #[] 0 (.fresh 0 0 (!Zey w)) }
section
variable {P:Program} {w:World} {A:Around} {E:Value->Shared->Prop} {s:Shared}
end
end L2
namespace L2
open PySem PySem.Spec PyProof.Rows
def ZlK (t:SetTable):Nat->Nat
 | 0=>0
 | i+1=>t.place.getD i 0+1
section
variable {P:Program} {w:World} {A:Around} {E:Value->Shared->Prop} {s:Shared}
def SAt (w:World) (h:Heap) (a:Addr) (es:Array (Int×Value)) (ep:Nat) (t:SetTable):Prop:=
 (∃ o,h.get? a=some o/\o.ExactSet/\o.data=.set es ep t)/\SOk t es/\t.plain=true/\t.led=!Zey w
def Zoe (w:World) (a:Addr) (es:Array (Int×Value)) (ep:Nat):List (Int×Value):=if Zey w then (pickOrder (w.params.setOrder a ep) es).toList else es.toList
def Zns (w:World) (t:SetTable) (i:Nat):Nat:=if Zey w then 0 else ZlK t i
def ZlL (w:World) (h:Heap) (it a:Addr) (t:SetTable) (i n ep:Nat):Prop:=
 ∃ o,h.get? it=some o/\o.cls=.type "set_iterator" /\ o.data=.fields #[.int (Zns w t i) 0,.int i 0,.ref a,.int n 0,.int ep 0]
end
end L2
namespace L2
open PySem PySem.Spec PyProof.Rows
section
variable {P:Program} {w:World} {A:Around} {E:Value->Shared->Prop} {s:Shared}
end
def ZpI (P:Program) (w:World) (a:Addr) (ms:List Int):HO:=.ext λh=>∃ o σ,h.get? a=some o/\Zo0 P w o σ/\σ.Perm ms
section
variable {X:Cx} (K:PySem.W.Frag)
end
end L2
namespace L2
open PySem PySem.Spec PyProof.Rows
section
variable {P:Program} {w:World} {A:Around} {E:Value->Shared->Prop} {s:Shared}
end
section
variable {X:Cx}
end
end L2
namespace L2
open PySem PySem.Spec PyProof.Rows
section
variable {X:Cx} (P:Program) (w:World) (K:PySem.W.Frag)
end
end L2
namespace L2
open PySem PySem.Spec PyProof.Rows
section
variable {X:Cx}
def Zof:V->List V->Hp->VK->Prop:=λx vs H Q=>∃ (l:Addr) (ns:List Int) (i:Int),x=.ref l/\vs=[.int i]/\H l=some (.lst (ns.map V.int))/\Q (.int ((ns.count i:Nat):Int)) H
end
end L2
namespace L2
open PySem PySem.Spec PyProof.Rows
section
variable {P:Program} {w:World} {A:Around} {E:Value->Shared->Prop} {s:Shared}
abbrev Znt (P:Program) (w:World) (r:Int×Int):Int:=tupleKeyHash (intKind P w) [r.1,r.2]
def Zo1 (P:Program) (w:World) (h:Heap) (r:Int×Int) (a:Addr):Prop:=IsTupleKey (intKind P w) h [r.1,r.2] a
def Zo2 (P:Program) (w:World) (h:Heap) (e:Int×Value) (r:Int×Int):Prop:=e.1=Znt P w r/\∃ a,e.2=.ref a/\Zo1 P w h r a
def hAt (es:Array (Int×Value)) (i:Nat):Int:=(es[i]?.map (·.1)).getD 0
section
variable {a b:Addr} {o:Obj} {es:Array (Int×Value)} {ep:Nat} {t:SetTable} {ps:List (Int×Int)} {r:Int×Int} {Q:SetFound->Shared->Prop}
end
end
end L2
namespace L2
open PySem PySem.Spec PyProof.Rows
section
variable {P:Program} {w:World} {A:Around} {E:Value->Shared->Prop} {s:Shared}
def Zo3 (P:Program) (w:World) (h0:Heap) (o:Obj) (ps:List (Int×Int)):Prop:=∃ es ep t,o.ExactSet/\o.data=.set es ep t/\Paired (Zo2 P w h0) es.toList ps/\ps.Nodup/\SOk t es
end
def ZpJ (a:Addr) (m:Nat):HO:=.ext λh=>∃ o es ep t,h.get? a=some o/\o.ExactSet/\o.data=.set es ep t/\t.fits es.size=true/\es.size=m/\m<=76
section
variable {X:Cx} (K:PySem.W.Frag)
end
end L2
namespace L2
open PySem PySem.Spec PyProof.Rows
abbrev Tri:=Int×Int×Int
inductive Trs (H:Hp):List V->List Tri->Prop
 | nil:Trs H [] []
 | cons {p:Addr} {a b c:Int} {xs:List V} {rs:List Tri}:H p=some (.tup [.int a,.int b,.int c])->Trs H xs rs->Trs H (.ref p::xs) ((a,b,c)::rs)
def trD (r:Tri):PyData:=.tuple [.int r.1,.int r.2.1,.int r.2.2]
section
variable {X:Cx} (K:PySem.W.Frag)
end
end L2
namespace L2
open PySem PySem.Spec PyProof.Rows
def Nd (ts:List Tri) (c:Int) (r:Tri):Prop:=2<=c/\ts[(c-2).toNat]?=some r
def At (ts:List Tri) (c lo:Int):Prop:=c=0\/c=1\/∃ r,Nd ts c r/\lo<r.1
def Zo4 (ts:List Tri):Prop:=∀ (i:Nat) (r:Tri),ts[i]?=some r->(0<=r.1/\r.1<30)/\At ts r.2.1 r.1/\At ts r.2.2 r.1
inductive Has (ts:List Tri):Int->List Int->Prop
 | one:Has ts 1 []
 | low {c:Int} {r:Tri} {rs:List Int}:Nd ts c r->Has ts r.2.1 rs->Has ts c rs
 | high {c:Int} {r:Tri} {rs:List Int}:Nd ts c r->Has ts r.2.2 rs->Has ts c (r.1::rs)
def ZlM (fs:List Int) (n:Int):Option Int:=if n=0 then some 0 else if n=1 then some 1 else (fs.idxOf? n).map λ(i:Nat)=>(i:Int)+2
end L2
namespace L2
open PySem PySem.Spec PyProof.Rows
structure Fnd (ks:List Tri) (root:Int) (fs:List Int) (kvs:List (Key×V)) (k:Nat):Prop where
 num:∀ n:Int,ZbT kvs (.inl n)=(ZlM fs n).map V.int
 nd:fs.Nodup
 nod:∀ x∈fs,∃ r,Nd ks x r
 kle:k<=fs.length
 cl:∀ (i:Nat),i<k->∀ (x:Int) (r:Tri),fs[i]?=some x->Nd ks x r->(ZlM fs r.2.1).isSome/\(ZlM fs r.2.2).isSome
 kl:kvs.length<=fs.length+2
def ZpK (ks:List Tri) (fs:List Int) (us:List Tri) (i:Nat):Prop:=∀ (j:Nat) (x:Int),j<i->fs[j]?=some x->∃ (r:Tri) (a b:Int),Nd ks x r/\ZlM fs r.2.1=some a/\ZlM fs r.2.2=some b/\us[j]?=some (r.1,a,b)
def Bk (ts:List Tri):Prop:=∀ (i:Nat) (r:Tri),ts[i]?=some r->r.2.1<(i:Int)+2/\r.2.2<(i:Int)+2
structure Zo5 (ts ks:List Tri) (sm:List Int) (i:Nat):Prop where
 len:sm.length=i+2
 at_:∀ c lo:Int,c<(i:Int)+2->At ts c lo->At ks (sm.getD c.toNat 0) lo
def Zo6 (r:Tri):List Key:=[.inl r.1,.inl r.2.1,.inl r.2.2]
def Zog (kvs:List (List Key×V)) (ks:List Tri):Prop:=∀ r:Tri,∀ v:V,ZbT kvs (Zo6 r)=some v->∃ c:Int,v=.int c/\Nd ks c r
end L2
namespace L2
open PySem PySem.Spec PyProof.Rows
section
variable {P:Program} {w:World} {A:Around} {E:Value->Shared->Prop} {s:Shared}
abbrev Znu (P:Program) (w:World) (r:List Int):Int:=tupleKeyHash (intKind P w) r
def Zo7 (P:Program) (w:World) (h:Heap) (r:List Int) (a:Addr):Prop:=IsTupleKey (intKind P w) h r a
def Zo8 (P:Program) (w:World) (h:Heap) (e:Int×Value) (r:List Int):Prop:=e.1=Znu P w r/\∃ a,e.2=.ref a/\Zo7 P w h r a
section
variable {a b:Addr} {o:Obj} {es:Array (Int×Value)} {ep:Nat} {t:SetTable} {ps:List (List Int)} {r:List Int} {Q:SetFound->Shared->Prop}
end
end
end L2
namespace L2
open PySem PySem.Spec PyProof.Rows
section
variable {P:Program} {w:World} {A:Around} {E:Value->Shared->Prop} {s:Shared}
def Zo9 (P:Program) (w:World) (h0:Heap) (o:Obj) (ps:List (List Int)):Prop:=∃ es ep t,o.ExactSet/\o.data=.set es ep t/\Paired (Zo8 P w h0) es.toList ps/\ps.Nodup/\SOk t es
end
section
variable {X:Cx} (K:PySem.W.Frag)
inductive Tus (H:Hp):List V->List (List Int)->Prop
 | nil:Tus H [] []
 | cons {p:Addr} {r:List Int} {xs:List V} {rs:List (List Int)}:H p=some (.tup (r.map V.int))->Tus H xs rs->Tus H (.ref p::xs) (r::rs)
end
end L2
namespace L2
open PySem PySem.Spec PyProof.Rows
def tl3 (r:Tri):List Int:=[r.1,r.2.1,r.2.2]
section
variable {X:Cx} (K:PySem.W.Frag)
end
end L2
namespace L2
open PySem PySem.Spec PyProof.Rows
def chT (ks:List Tri) (x:Int):List Int:=match ks[(x-2).toNat]? with | some r=>[r.2.1,r.2.2] | none=>[]
def Znv (ks:List Tri) (root:Int) (f:List Int):List Int:=root::f.flatMap (chT ks)
def New (f:List Int) (x:Int):Prop:=x≠0/\x≠1/\x ∉ f
def Ext (ks:List Tri) (root:Int) (f:List Int) (x:Int):Prop:=∃ p q,Znv ks root f=p++x::q/\New f x/\∀ y∈p,¬ New f y
inductive Rch (ks:List Tri) (root:Int):List Int->Prop
 | nil:Rch ks root []
 | snoc {f:List Int} {x:Int}:Rch ks root f->Ext ks root f x->Rch ks root (f++[x])
def Fin (ks:List Tri) (root:Int) (f:List Int):Prop:=∀ y∈Znv ks root f,¬ New f y
def ZpL (n:Nat):List Int:=(List.range n).map λ(i:Nat)=>(i:Int)+2
end L2
namespace L2
open PySem PySem.Spec PyProof.Rows
section
variable {X:Cx}
def ZmS:V->List V->Hp->VK->Prop:=λx vs H Q=>∃ l b xs zs,x=.ref l/\vs=[.ref b]/\H l=some (.lst xs)/\H b=some (.tup zs)/\xs.length+zs.length<=sizeLine/\Q .non (upd H l (.lst (xs++zs)))
end
end L2
namespace L2
open PySem PySem.Spec PyProof.Rows
section
variable {X:Cx}
end
structure Wk (ks:List Tri) (root:Int) (fs:List Int) (kvs:List (Key×V)) (pr ah:List Int):Prop where
 e:Znv ks root fs=pr++ah
 old:∀ y∈pr,¬ New fs y
 seen:∀ n:Int,ZbT kvs (.inl n)=none↔New fs n
 nd:fs.Nodup
 nod:∀ x∈fs,∃ r,Nd ks x r
 rch:Rch ks root fs
 kl:kvs.length<=fs.length+2
 ok:∀ y∈ah,At ks y (-1)
structure Zoh (ts:List Tri) (many:Int) (r:Tri):Prop where
 road:0<=r.1/\r.1<many
 low:0<=r.2.1/\r.2.1<(ts.length:Int)+2
 high:0<r.2.2/\r.2.2<(ts.length:Int)+2
 lo:∀ q,Nd ts r.2.1 q->r.1<q.1
 hi:∀ q,Nd ts r.2.2 q->r.1<q.1
end L2
namespace L2
open PySem PySem.Spec PyProof.Rows
end L2
namespace L2
open PySem PySem.Spec PyProof.Rows
open AutoSeq1 (wpAny_loadPart') in
theorem Ze8 (L:Addr) (its:Array Value) (c:Nat) (y:Value) (ev:Value->Bool) (at_:Nat) (ha:at_<its.size) (yes:ev its[at_]=true) (room:its.size<=sizeLine):∀ (left i:Nat),at_-i=left->i<=at_ ->
  (∀ m (hm:m<its.size),i<=m->m<at_->ev its[m]=false)->Meets (Builtin.«list.remove.loop» ⟨[.ref L,y,rawInt i],[]⟩)
   (λA R s=>s.heap.get? L=some { cls:=.type "list", dict:=none,data:=.seq its c,slots:=#[] }/\(∀ z,z∈its->SeqAt.EqAt A.in1 s z y (ev z))/\R (.ok (.ret .none)) { s with heap:=s.heap.update L (Obj.mapSeq λzs=>zs.eraseIdxIfInBounds at_) }):=by
 intro left
 induction left with
 | zero=>
  intro i hk hle no prog w A R s ⟨hl,he,h⟩
  obtain ⟨hp,g,d,tk,os⟩:=s
  have e:i=at_:=by omega
  subst e
  wp_walk using wpAny_loadPart' hl
  have g1:its[((i:Nat):Int).toNat]?=some its[i]:=by simp [ha]
  rw [g1]
  refine wpAny_bind (he _ (Array.getElem_mem ha) prog w _ _ ?_)
  rw [yes]
  have g2:(its.eraseIdxIfInBounds i).size<=sizeLine+1:=Nat.le_trans (MeetsSeq.size_erased its _) (Nat.le_succ_of_le room)
  wp_walk using (wpAny_updateSeq hl rfl (hz:=room) (_hz':=g2)),wpAny_loadPart' hl
  simpa using h
 | succ left ih=>
  intro i hk hle no prog w A R s ⟨hl,he,h⟩
  obtain ⟨hp,g,d,tk,os⟩:=s
  have hi:i<its.size:=by omega
  wp_walk using wpAny_loadPart' hl
  have g1:its[((i:Nat):Int).toNat]?=some its[i]:=by simp [hi]
  have g2:((i:Int)+1)=((i+1:Nat):Int):=by omega
  rw [g1]
  refine wpAny_bind (he _ (Array.getElem_mem hi) prog w _ _ ?_)
  rw [no i hi (Nat.le_refl _) (by omega)]
  wp_walk
  rw [g2]
  refine ⟨plainId_quiet MeetsSeq.plain_remove_loop _,codeAny_builtin MeetsSeq.entry_remove_loop ?_⟩
  rw [Around.under_plainId MeetsSeq.plain_remove_loop _]
  exact ih (i+1) (by omega) (by omega) (λm hm m1 m2=>no m hm (by omega) m2) prog w A R _ ⟨hl,he,h⟩
open AutoSeq1 (wpAny_loadPart') in
theorem Zgg (L:Addr) (its:Array Value) (c:Nat) (y:Value) (ev:Value->Bool) (at_:Nat) (ha:at_<its.size) (yes:ev its[at_]=true) (no:∀ m (hm:m<its.size),m<at_->ev its[m]=false) (room:its.size<=sizeLine):Meets (Builtin.«list.remove» ⟨[.ref L,y],[]⟩)
   (λA R s=>s.heap.get? L=some { cls:=.type "list", dict:=none,data:=.seq its c,slots:=#[] }/\(∀ z,z∈its->SeqAt.EqAt A.in1 s z y (ev z))/\R (.ok (.ret .none)) { s with heap:=s.heap.update L (Obj.mapSeq λzs=>zs.eraseIdxIfInBounds at_) }):=by
 intro prog w A R s ⟨hl,he,h⟩
 obtain ⟨hp,g,d,tk,os⟩:=s
 wp_walk using wpAny_loadPart' hl
 refine ⟨plainId_quiet MeetsSeq.plain_remove_loop _,codeAny_builtin MeetsSeq.entry_remove_loop ?_⟩
 rw [Around.under_plainId MeetsSeq.plain_remove_loop _]
 exact Ze8 L its c y ev at_ ha yes room _ 0 rfl (Nat.zero_le _) (λm hm _ m2=>no m hm m2) prog w A R _ ⟨hl,he,h⟩
section
variable {X:Cx}
def Zkg (K:PySem.W.Frag):V->List V->Hp->VK->Prop:=λx vs H Q=>∃ l xs y d ds j,x=.ref l/\vs=[y]/\H l=some (.lst xs)/\DatV K H y d/\DatVs K H xs ds/\SeqAt.shaped d=true/\(∀ e∈ds,SeqAt.shaped e=true) /\
 j<xs.length/\(∀ e,ds[j]?=some e->PyData.eqv e d=true)/\(∀ m,m<j->∀ e,ds[m]?=some e->PyData.eqv e d=false)/\Q .non (upd H l (.lst (xs.eraseIdx j)))
theorem ZlN (K:PySem.W.Frag) (hu:X.A.units+65<cLine) (hK:X.K=K:=by rfl):MtM X "list.remove" (Zkg K):=by
 subst hK
 intro pins s σ H x vs v us Q I rx rv h
 obtain ⟨l,xs,y,d,ds,j,rfl,rfl,hH,hd,hds,sd,sds,hj,yes,no,q⟩:=h
 cases rx
 obtain ⟨u,rfl,ru⟩:=rv.one
 obtain ⟨z,its,n,r,hl,e⟩:=I.lstM hH
 obtain ⟨as,ra⟩:=hd.reads I ru
 obtain ⟨bs,rb⟩:=hds.reads I r
 obtain ⟨k1,k2⟩:=Zjf rb sds
 have hu1:X.A.in1.units+64<cLine:=by rw [Around.in1_units];omega
 have hlen:its.length=xs.length:=hl.symm
 have at_:∀ m (hm:m<its.length),ds[m]?=some (Ze3 s.heap its[m]):=λm hm=>by
  rw [<-k2,List.getElem?_map,List.getElem?_eq_getElem hm]
  rfl
 have room:its.toArray.size<=sizeLine:=by rw [List.size_toArray];omega
 refine call_meets PySem.F.slot_list_remove ⟨_,e,rfl⟩ PySem.F.entry_list_remove (PySem.F.args_list_remove_2 _ _) (Zgg l its.toArray n u (λw=>PyData.eqv (Ze3 s.heap w) d) j (by rw [List.size_toArray];omega) (yes _ (at_ j (by omega))) (λm hm hlt=>no m hlt _ (at_ m (by simpa using hm))) room) ⟨e,λw hw=>?_,?_⟩
 ·obtain ⟨as',r',s'⟩:=k1 w (by simpa using hw)
  exact PySem.W.keq_at r' ra s' sd hu1
 ·refine ⟨.non,_,I.lset (its':=its.eraseIdx j) hH e ?_ (r.eraseIdx j) ?_,rfl,q⟩
  ·show its.toArray.eraseIdxIfInBounds j=(its.eraseIdx j).toArray
   rw [List.eraseIdxIfInBounds_toArray]
  ·have:=Zcf xs j
   omega
theorem Zez {α β:Type} (f:α->β):∀ (l:List α) (k:Nat),(l.map f).eraseIdx k=(l.eraseIdx k).map f
 | [],_=>rfl
 | _::_,0=>rfl
 | x::l,k+1=>by
  show f x::(l.map f).eraseIdx k=f x::(l.eraseIdx k).map f
  rw [Zez f l k]
theorem Zpa {K:PySem.W.Frag} {H:Hp} {l p:Addr} {xs:List V} {rs:List (Int×Int)} {t:Int×Int} {Q:VK} (hl:H l=some (.lst xs)) (pr:Prs H xs rs) (hp:H p=some (.tup [.int t.1,.int t.2])) (hm:t∈rs)
  (q:∀ xs':List V,xs'.length<=xs.length->Prs H xs' (rs.erase t)->Q .non (upd H l (.lst xs'))):Zkg K (.ref l) [.ref p] H Q:=by
 have hj:rs.idxOf t<rs.length:=List.idxOf_lt_length_iff.mpr hm
 have hx:=pr.len
 refine ⟨l,xs,.ref p,prD t,rs.map prD,rs.idxOf t,rfl,rfl,hl,.tup (SqT.of hp) (.cons (.int _) (.cons (.int _) .nil)),pr.dats,Zdy t,Zih rs,by omega,λe he=>?_,λm hlt e he=>?_,?_⟩
 ·rw [List.getElem?_map,List.getElem?_eq_getElem hj] at he
  cases he
  rw [Ze0]
  exact decide_eq_true (List.getElem_idxOf hj)
 ·rw [List.getElem?_map,List.getElem?_eq_getElem (by omega)] at he
  cases he
  rw [Ze0]
  refine decide_eq_false λz=>?_
  have:=List.not_of_lt_findIdx hlt
  rw [z] at this
  simp at this
 ·have:=Zcf xs (rs.idxOf t)
  refine q _ (by omega) ?_
  rw [List.erase_eq_eraseIdx_of_idxOf (i:=rs.idxOf t) rfl]
  exact pr.erase _
theorem Zpb {K:PySem.W.Frag} {H:Hp} {l:Addr} {ns:List Int} {k:Int} {Q:VK} (hl:H l=some (.lst (ns.map V.int))) (hm:k∈ns) (q:Q .non (upd H l (.lst ((ns.erase k).map V.int)))):Zkg K (.ref l) [.int k] H Q:=by
 have hj:ns.idxOf k<ns.length:=List.idxOf_lt_length_iff.mpr hm
 have ee:∀ a b:Int,PyData.eqv (.int a) (.int b)=decide (a=b):=λa b=>by simp only [PyData.eqv];rfl
 refine ⟨l,_,.int k,.int k,ns.map PyData.int,ns.idxOf k,rfl,rfl,hl,.int k,Zcl ns,rfl,λe he=>?_,by rw [List.length_map];exact hj,λe he=>?_,λm hlt e he=>?_,?_⟩
 ·obtain ⟨z,_,rfl⟩:=List.mem_map.mp he
  rfl
 ·rw [List.getElem?_map,List.getElem?_eq_getElem hj] at he
  cases he
  rw [ee]
  exact decide_eq_true (List.getElem_idxOf hj)
 ·rw [List.getElem?_map,List.getElem?_eq_getElem (by omega)] at he
  cases he
  rw [ee]
  refine decide_eq_false λz=>?_
  have:=ne_of_lt_idxOf hlt (show m<ns.length by omega)
  rw [z] at this
  simp at this
 ·rw [List.erase_eq_eraseIdx_of_idxOf (i:=ns.idxOf k) rfl] at q
  rw [Zez]
  exact q
end
end L2
namespace L2
open PySem PySem.Spec PyProof.Rows
def ltP (x y:Int×Int):Bool:=decide (x.1<y.1) || (decide (x.1=y.1) && decide (x.2<y.2))
section
variable {prog:Program} {w:World} {A:Around} {E:Value->Shared->Prop} {s:Shared}
theorem lt_int {x y:Int} {t u:Tok} {Q:Value->Shared->Prop} (h:Q (.bool (decide (x<y))) s):wpAny (model prog w) A (richCompare .Lt (.int x t) (.int y u)) Q E s:=
 CmpOf.ints_lt (P:=λi v=>∃ t,v=.int (if i=0 then x else y) t) (λi=>if i=0 then x else y) (λ_ _ p=>p) 0 1 _ _ s Q E ⟨t,rfl⟩ ⟨u,rfl⟩ h
theorem Zkh {a b:Addr} {x y:Int×Int} {t1 t2 u1 u2:Tok} {P:PySem.Fin->Shared->Prop} (ha:s.heap.IsTuple a #[.int x.1 t1,.int x.2 t2]) (hb:s.heap.IsTuple b #[.int y.1 u1,.int y.2 u2]) (h:P (.done (.ret (.bool (ltP x y)))) s) :
  wpAny (model prog w) A (Builtin.«tuple.__lt__» ⟨[.ref a,.ref b],[]⟩) P E s:=by
 obtain ⟨oa,ga,ca,na,da⟩:=ha
 obtain ⟨ob,gb,cb,nb,db⟩:=hb
 show wpAny _ _ (isInstance (.ref b) (.type "tuple") >>= _) _ _ s
 refine wpAny_bind (wpAny_isInstance (T := "tuple") ⟨ob,gb,cb⟩ isSubtype_tuple_tuple ?_)
 simp only [Bool.not_true,Bool.false_eq_true,if_false]
 refine wpAny_bind (wpAny_tupleItemsOf ga da (wpAny_bind (wpAny_tupleItemsOf gb db (wpAny_bind ?_))))
 show wpAny _ _ (forIn [(Value.int x.1 t1,Value.int y.1 u1),(Value.int x.2 t2,Value.int y.2 u2)] _ _) _ _ s
 rw [List.forIn_cons]
 refine wpAny_bind (wpAny_bind (wpAny_eqBool_int ?_))
 by_cases h1:x.1=y.1
 ·rw [show (x.1 == y.1)=true by rw [h1];exact beq_self_eq_true _]
  simp only [Bool.not_true,Bool.false_eq_true,if_false]
  refine wpAny_pure ?_
  show wpAny _ _ (forIn [(Value.int x.2 t2,Value.int y.2 u2)] _ _) _ _ s
  rw [List.forIn_cons]
  refine wpAny_bind (wpAny_bind (wpAny_eqBool_int ?_))
  by_cases h2:x.2=y.2
  ·rw [show (x.2 == y.2)=true by rw [h2];exact beq_self_eq_true _]
   simp only [Bool.not_true,Bool.false_eq_true,if_false]
   refine wpAny_pure ?_
   show wpAny _ _ (forIn [] _ _) _ _ s
   rw [List.forIn_nil]
   refine wpAny_pure (wpAny_pure ?_)
   have e:ltP x y=false:=by unfold ltP;rw [h1,h2];simp
   rw [e] at h
   exact h
  ·rw [show (x.2 == y.2)=false by rw [beq_eq_false_iff_ne];exact h2]
   simp only [Bool.not_false,if_true]
   refine wpAny_bind (wpAny_rule (wpAny_bind (lt_int ?_)))
   have e:ltP x y=decide (x.2<y.2):=by unfold ltP;rw [h1];simp
   rw [e] at h
   exact wpAny_bind (wpAny_pure (wpAny_pure (wpAny_pure (wpAny_pure h))))
 ·rw [show (x.1 == y.1)=false by rw [beq_eq_false_iff_ne];exact h1]
  simp only [Bool.not_false,if_true]
  refine wpAny_bind (wpAny_rule (wpAny_bind (lt_int ?_)))
  have e:ltP x y=decide (x.1<y.1):=by unfold ltP;rw [decide_eq_false h1];simp
  rw [e] at h
  exact wpAny_bind (wpAny_pure (wpAny_pure (wpAny_pure (wpAny_pure h))))
theorem Zki {a b:Addr} {x y:Int×Int} {t1 t2 u1 u2:Tok} {Q:Value->Shared->Prop} (ha:s.heap.IsTuple a #[.int x.1 t1,.int x.2 t2]) (hb:s.heap.IsTuple b #[.int y.1 u1,.int y.2 u2]) (hu:A.units<cLine) (h:Q (.bool (ltP x y)) s):wpAny (model prog w) A (richCompare .Lt (.ref a) (.ref b)) Q E s:=by
 have Ta:s.TypeIs (.ref a) "tuple" := ha.elim λo z=>⟨o,z.1,z.2.1⟩
 have Tb:s.TypeIs (.ref b) "tuple" := hb.elim λo z=>⟨o,z.1,z.2.1⟩
 exact wpAny_richCompare_same_room (op:=.Lt) Ta Tb F.slot_tuple_lt (wpAny_call_entry F.slot_tuple_lt Ta F.entry_tuple_lt (Zkh ha hb ⟨_,rfl,(λe=>nomatch e),h⟩) (F.args_tuple_lt_2 _ _)) hu
end
def ZlO (prog:Program) (w:World) (A:Around) (op:CmpOp) (J:Heap->Prop) (P:Nat->Value->Prop) (bt:Nat->Nat->Bool):Prop:=
 ∀ (s:Shared) (i j:Nat) (vi vj:Value) (Q E:Value->Shared->Prop),J s.heap->P i vi->P j vj->Q (.bool (bt i j)) s->wpAny (model prog w) A (richCompare op vi vj) Q E s
section
variable {prog:Program} {w:World} {A:Around} {R:Result->Shared->Prop} {I:Addr} {fp wr:List Addr} {n:Nat} {P:Nat->Value->Prop} {St:Nat->Heap->Prop} {J:Heap->Prop} {kw:List (Str×Value)}
theorem Zhb (W:Walks prog w A.in1 I fp wr n P St) (bt:Nat->Nat->Bool) (cmp:ZlO prog w A.in1 .Lt J P bt) (D:Addr) (hD:D ∉ fp) (keepJ:∀ h h':Heap,J h->(∀ b o,b ∉ wr->b≠D->h.get? b=some o->h'.get? b=some o)->J h') :
  ∀ (left m:Nat) (s:Shared) (best:Value) (c:Nat),n-(m+1)=left->m+1<=n->St (m+1) s.heap->J s.heap->P (argBest bt m) best ->
  s.heap.get? D=some { cls:=.type "list", dict:=none,data:=.seq #[best,best] c,slots:=#[] } ->
  (∀ v h' tk,P (argBest bt (n-1)) v->(∀ b o,b ∉ wr->b≠D->s.heap.get? b=some o->h'.get? b=some o)->R (.ok (.ret v)) { s with heap:=h',toks:=tk }) ->
  codeAny (model prog w) A (.builtin "min.loop" ⟨[.ref I,.none,.ref D],kw⟩) R s:=by
 have hDw:D ∉ wr:=λz=>hD (W.sub _ z)
 have nm:(toString "min" ++ toString ".loop" : String) = "min.loop" := by decide
 intro left
 induction left with
 | zero=>
  intro m s best c hl hm st j pb gD hR
  have en:m+1=n:=by omega
  refine codeAny_builtin F.entry_min_loop ?_;rw [Around.under_plainId F.plain_min_loop _]
  show wpAny _ A.in1 (seqItems? (.ref D) >>= _) _ _ s
  refine wpAny_bind (wpAny_seqItems gD rfl (show wpAny _ A.in1 (tryCatch (pyNext (.ref I)) _ >>= _) _ _ s from wpAny_bind (wpAny_tryCatch (W.done s _ _ (en▸st) λh' tk kept=>?_))))
  show wpAny _ A.in1 (updateSeq D (λ_=>#[]) >>= _) _ _ _
  refine wpAny_bind (wpAny_updateSeq (kept D _ hDw gD) rfl (wpAny_bind (wpAny_letGo (wpAny_pure (hR best _ tk (by rw [<-en];exact pb) λb o nw nD e=>?_)))))
  exact (Heap.get?_update_other _ _ (Ne.symm nD)).trans (kept b o nw e)
 | succ left ih=>
  intro m s best c hl hm st j pb gD hR
  refine codeAny_builtin F.entry_min_loop ?_;rw [Around.under_plainId F.plain_min_loop _]
  show wpAny _ A.in1 (seqItems? (.ref D) >>= _) _ _ s
  refine wpAny_bind (wpAny_seqItems gD rfl (show wpAny _ A.in1 (tryCatch (pyNext (.ref I)) _ >>= _) _ _ s from wpAny_bind (wpAny_tryCatch (W.item (m+1) s _ _ (by omega) st λv h' tk pv st' kept=>?_))))
  have gD':=kept D _ hDw gD
  have j':J h':=keepJ _ _ j λb o nw _ e=>kept b o nw e
  show wpAny _ A.in1 (tryCatch (holding [v,v] (richCompare .Lt v best >>= _)) _ >>= _) _ _ _
  refine wpAny_bind (wpAny_tryCatch (wpAny_holding (wpAny_bind (cmp _ (m+1) (argBest bt m) v best _ _ j' pv pb (wpAny_bind (wpAny_holding (wpAny_truthy_bool (wpAny_bind (wpAny_letGo (wpAny_pure ?_))))))))))
  cases hb:bt (m+1) (argBest bt m) with
  | true=>
   simp only [if_true]
   refine wpAny_bind (wpAny_updateSeq gD' rfl (wpAny_bind (wpAny_letGo ?_)));rw [nm]
   refine wpAny_pure ⟨plainId_quiet F.plain_min_loop _,ih (m+1) _ v _ (by omega) (by omega) (W.frame _ _ _ st' λb bf o e=>?_) (keepJ _ _ j' λb o _ nD e=>(Heap.get?_update_other _ _ (Ne.symm nD)).trans e) (by simp only [argBest,hb,if_true];exact pv) (Heap.get?_update_self _ gD' rfl) λv' h2 tk2 pv' k2=>?_⟩
   ·exact (Heap.get?_update_other _ _ (λz:D=b=>hD (by rw [z];exact bf))).trans e
   ·exact hR v' h2 tk2 pv' λb o nw nD e=>k2 b o nw nD ((Heap.get?_update_other _ _ (Ne.symm nD)).trans (kept b o nw e))
  | false=>
   simp only [Bool.false_eq_true,if_false]
   refine wpAny_bind (wpAny_letGo ?_);rw [nm]
   refine wpAny_pure ⟨plainId_quiet F.plain_min_loop _,ih (m+1) _ best c (by omega) (by omega) st' j' (by simp only [argBest,hb,Bool.false_eq_true,if_false];exact pb) gD' λv' h2 tk2 pv' k2=>?_⟩
   exact hR v' h2 tk2 pv' λb o nw nD e=>k2 b o nw nD (kept b o nw e)
theorem Zgh (W:Walks prog w A.in1 I fp wr n P St) (bt:Nat->Nat->Bool) (cmp:ZlO prog w A.in1 .Lt J P bt) (D:Addr) (hD:D ∉ fp) (keepJ:∀ h h':Heap,J h->(∀ b o,b ∉ wr->b≠D->h.get? b=some o->h'.get? b=some o)->J h') (hn:0<n) {s:Shared} {c:Nat} (st:St 0 s.heap) (j:J s.heap)
  (gD:s.heap.get? D=some { cls:=.type "list", dict:=none,data:=.seq #[] c,slots:=#[] })
  (hR:∀ v h' tk,P (argBest bt (n-1)) v->(∀ b o,b ∉ wr->b≠D->s.heap.get? b=some o->h'.get? b=some o)->R (.ok (.ret v)) { s with heap:=h',toks:=tk }) :
  codeAny (model prog w) A (.builtin "min.loop" ⟨[.ref I,.none,.ref D],kw⟩) R s:=by
 have hDw:D ∉ wr:=λz=>hD (W.sub _ z)
 have nm:(toString "min" ++ toString ".loop" : String) = "min.loop" := by decide
 refine codeAny_builtin F.entry_min_loop ?_;rw [Around.under_plainId F.plain_min_loop _]
 show wpAny _ A.in1 (seqItems? (.ref D) >>= _) _ _ s
 refine wpAny_bind (wpAny_seqItems gD rfl (show wpAny _ A.in1 (tryCatch (pyNext (.ref I)) _ >>= _) _ _ s from wpAny_bind (wpAny_tryCatch (W.item 0 s _ _ hn st λv h' tk pv st' kept=>?_))))
 have gD':=kept D _ hDw gD
 have j':J h':=keepJ _ _ j λb o nw _ e=>kept b o nw e
 show wpAny _ A.in1 (updateSeq D (λ_=>#[v,v]) >>= _) _ _ _
 refine wpAny_bind (wpAny_updateSeq gD' rfl ?_);rw [nm]
 refine wpAny_pure ⟨plainId_quiet F.plain_min_loop _,Zhb W bt cmp D hD keepJ _ 0 _ v _ rfl hn (W.frame _ _ _ st' λb bf o e=>?_) (keepJ _ _ j' λb o _ nD e=>(Heap.get?_update_other _ _ (Ne.symm nD)).trans e) pv (Heap.get?_update_self _ gD' rfl) λv' h2 tk2 pv' k2=>?_⟩
 ·exact (Heap.get?_update_other _ _ (λz:D=b=>hD (by rw [z];exact bf))).trans e
 ·exact hR v' h2 tk2 pv' λb o nw nD e=>k2 b o nw nD ((Heap.get?_update_other _ _ (Ne.symm nD)).trans (kept b o nw e))
end
theorem ltP_iff {x y:Int×Int}:ltP x y=true↔x.1<y.1\/(x.1=y.1/\x.2<y.2):=by
 unfold ltP
 rw [Bool.or_eq_true,Bool.and_eq_true,decide_eq_true_iff,decide_eq_true_iff,decide_eq_true_iff]
theorem ZeA (f:Nat->Int×Int):∀ k,argBest (λi j=>ltP (f i) (f j)) k<=k/\∀ j,j<=k->ltP (f j) (f (argBest (λi j=>ltP (f i) (f j)) k))=false
 | 0=>⟨Nat.le_refl _,λj hj=>by
  have:j=0:=by omega
  subst this
  rw [<-Bool.not_eq_true]
  intro z
  have:=ltP_iff.mp z
  have e:argBest (λi j=>ltP (f i) (f j)) 0=0:=rfl
  rw [e] at this
  omega⟩
 | k+1=>by
  obtain ⟨i1,i2⟩:=ZeA f k
  have e:argBest (λi j=>ltP (f i) (f j)) (k+1)=if ltP (f (k+1)) (f (argBest (λi j=>ltP (f i) (f j)) k))=true then k+1 else argBest (λi j=>ltP (f i) (f j)) k:=rfl
  rw [e]
  generalize argBest (λi j=>ltP (f i) (f j)) k=g at i1 i2
  by_cases z:ltP (f (k+1)) (f g)=true
  ·rw [if_pos z]
   refine ⟨Nat.le_refl _,λj hj=>?_⟩
   rw [<-Bool.not_eq_true]
   intro y
   have z1:=ltP_iff.mp z
   have y1:=ltP_iff.mp y
   by_cases hk:j=k+1
   ·subst hk;omega
   ·have:=i2 j (by omega)
    rw [<-Bool.not_eq_true,ltP_iff] at this
    omega
  ·rw [if_neg z]
   refine ⟨by omega,λj hj=>?_⟩
   by_cases hk:j=k+1
   ·rw [hk];exact Bool.eq_false_iff.mpr z
   ·exact i2 j (by omega)
section
variable {X:Cx}
def ZfM (xs:List V) (rs:List (Int×Int)) (t:Addr) (r:Int×Int):Prop:=(∃ i:Nat,xs[i]?=some (.ref t)/\rs[i]?=some r)/\∀ r'∈rs,ltP r' r=false
def Znw (K:PySem.W.Frag):List V->Hp->VK->Prop:=λvs H Q=>∃ (p:Addr) (xs:List V) (rs:List (Int×Int)),vs=[.ref p]/\SqL K H p xs/\Prs H xs rs/\rs≠[]/\∀ t r,ZfM xs rs t r->Q (.ref t) H
theorem Zis {pins:List (Addr×Obj)} {s:Shared} {σ:St} {H:Hp} {Q:VK} {p:Addr} {xs:List V} {rs:List (Int×Int)} {its:List Value} {kw:List (Str×Value)} (hc:X.calm=true) (hu:X.A.units+1<cLine) (I:Inv X pins σ H s) (r:Vals xs its) (pl:PlainL s.heap p its.toArray) (pr:Prs H xs rs) (hne:rs≠[]) (q:∀ t r,ZfM xs rs t r->Q (.ref t) H)
  {R:Result->Shared->Prop} (hR:∀ v s',EP X pins σ Q v s'->R (.ok (.ret v)) s'):∀ c:Nat,
  codeAny (model X.prog X.w) X.A (.builtin "min.loop" ⟨[.ref s.heap.objs.size,.none,.ref (s.heap.objs.size+1)],kw⟩) R { s with heap:=(s.heap.push { cls:=.type "list_iterator", data:=.fields #[.ref p,.int 0 0] }).push { cls:=.type "list", dict:=none,data:=.seq #[] c,slots:=#[] } }:=by
 intro c
 have hl:=r.length
 have hx:=pr.len
 have hpos:0<rs.length:=List.length_pos_iff.mpr hne
 have hh:X.A.in1.handled=none:=I.ok.hd hc
 obtain ⟨o,eo,_⟩:=id pl.isList
 have hlt:p<s.heap.objs.size:=Heap.lt_size eo
 have e1:(s.heap.push { cls:=.type "list_iterator", data:=.fields #[.ref p,.int 0 0] }).objs.size=s.heap.objs.size+1:=Heap.size_push ..
 have at_:∀ i v,its[i]?=some v->∃ t u1 u2,v=.ref t/\xs[i]?=some (.ref t)/\rs[i]?=some (rs.getD i (0,0))/\s.heap.IsTuple t #[.int (rs.getD i (0,0)).1 u1,.int (rs.getD i (0,0)).2 u2]:=λi v hv=>by
  have hi:i<its.length:=(List.getElem?_eq_some_iff.mp hv).1
  have hxi:xs[i]?=some xs[i]:=List.getElem?_eq_getElem (by omega)
  obtain ⟨t,q',et,eh,er⟩:=pr.get hxi
  obtain ⟨u,gu,ru⟩:=r.get hxi
  rw [gu] at hv
  cases hv
  rw [et] at ru
  cases ru
  have eg:rs.getD i (0,0)=q':=by rw [List.getD_eq_getElem?_getD,er];rfl
  obtain ⟨its2,r2,pl2,_⟩:=I.tuple (SqT.of eh)
  cases r2 with
  | cons a1 r3=>
   cases r3 with
   | cons a2 r4=>
    cases r4
    obtain ⟨u1,rfl⟩:=a1
    obtain ⟨u2,rfl⟩:=a2
    exact ⟨t,u1,u2,rfl,by rw [hxi,et],by rw [eg];exact er,by rw [eg];exact pl2⟩
 have kept0:∀ b o,s.heap.get? b=some o->((s.heap.push { cls:=.type "list_iterator", data:=.fields #[.ref p,.int 0 0] }).push { cls:=.type "list", dict:=none,data:=.seq #[] c,slots:=#[] }).get? b=some o:=λb o e=>Heap.get?_push_of_some _ (Heap.get?_push_of_some _ e)
 have W:=Walks.list (prog:=X.prog) (w:=X.w) hh s.heap.objs.size p (Nat.ne_of_lt hlt) its.toArray
 have hsz:its.toArray.size=rs.length:=by rw [List.size_toArray];omega
 refine Zgh (J:=λh=>∀ i t u1 u2,its[i]?=some (.ref t)->s.heap.IsTuple t #[.int (rs.getD i (0,0)).1 u1,.int (rs.getD i (0,0)).2 u2]->h.IsTuple t #[.int (rs.getD i (0,0)).1 u1,.int (rs.getD i (0,0)).2 u2]) W (λi j=>ltP (rs.getD i (0,0)) (rs.getD j (0,0))) ?cmp (s.heap.objs.size+1) ?hD ?kJ (by rw [hsz];exact hpos) ?st ?j (by rw [<-e1];exact Heap.get?_push_size _ rfl) ?fin
 case cmp=>
  intro s' i j vi vj Q' E' hJ hi hj hq
  obtain ⟨a,u1,u2,rfl,_,_,ha⟩:=at_ i vi (by simpa using hi)
  obtain ⟨b,w1,w2,rfl,_,_,hb⟩:=at_ j vj (by simpa using hj)
  exact Zki (hJ i a u1 u2 (by simpa using hi) ha) (hJ j b w1 w2 (by simpa using hj) hb) (by rw [Around.in1_units];exact hu) hq
 case hD=>
  intro z
  have:s.heap.objs.size+1=s.heap.objs.size\/s.heap.objs.size+1=p:=by simpa using z
  rcases this with e | e
  ·exact absurd e (Nat.succ_ne_self _)
  ·exact absurd hlt (by rw [<-e];exact Nat.not_lt.mpr (Nat.le_succ _))
 case kJ=>
  intro h h' hJ kp i t u1 u2 hi hT
  obtain ⟨o',g',rest⟩:=hJ i t u1 u2 hi hT
  obtain ⟨o0,g0,_⟩:=hT
  have ht:t<s.heap.objs.size:=Heap.lt_size g0
  refine ⟨o',kp t o' (λz=>?_) (Nat.ne_of_lt (Nat.lt_succ_of_lt ht)) g',rest⟩
  have:t=s.heap.objs.size:=by simpa using z
  exact absurd ht (by rw [this];exact Nat.lt_irrefl _)
 case st=>
  refine ⟨⟨_,Heap.get?_push_of_some _ (Heap.get?_push_size _ rfl),rfl,rfl⟩,pl.isList.at λo e=>kept0 _ _ e⟩
 case j=>
  intro i t u1 u2 hi hT
  obtain ⟨o0,g0,rest⟩:=hT
  exact ⟨o0,kept0 _ _ g0,rest⟩
 case fin=>
  intro v h' tk hv hk
  obtain ⟨b1,b2⟩:=ZeA (λi=>rs.getD i (0,0)) (its.toArray.size-1)
  generalize argBest (λi j=>ltP (rs.getD i (0,0)) (rs.getD j (0,0))) (its.toArray.size-1)=g at hv b1 b2
  obtain ⟨t,u1,u2,rfl,ex,er,_⟩:=at_ g v (by simpa using hv)
  refine hR _ _ ⟨.ref t,H,I.kept λb o e'=>hk b o ?_ ?_ (kept0 b o e'),rfl,q t _ ⟨⟨g,ex,er⟩,λr' hr'=>?_⟩⟩
  ·intro z
   have:b=s.heap.objs.size:=by simpa using z
   exact absurd (Heap.lt_size e') (by rw [this];exact Nat.lt_irrefl _)
  ·exact Nat.ne_of_lt (Nat.lt_succ_of_lt (Heap.lt_size e'))
  ·obtain ⟨j,hj,rfl⟩:=List.getElem_of_mem hr'
   have:=b2 j (by omega)
   rw [List.getD_eq_getElem?_getD,List.getElem?_eq_getElem hj] at this
   exact this
theorem ZlP (K:PySem.W.Frag) (hc:X.calm=true) (hu:X.A.units+1<cLine) (h:X.K=K:=by rfl):ZbB X (.builtin "min") (Znw K):=by
 subst h
 intro pins s σ H xs us Q I rv h
 obtain ⟨p,xs,rs,rfl,hq,pr,hne,q⟩:=h
 obtain ⟨u,rfl,ru⟩:=rv.one
 cases ru
 obtain ⟨its,r,pl,hz⟩:=I.list hq
 have nm:(toString "min" ++ toString ".loop" : String) = "min.loop" := by decide
 refine call_function_tree F.kind_min F.plain_min F.entry_min (F.args_min1 _) ?_
 refine wpAny_bind (wpAny_of_eq (show Builtin.Builtins.bindParams "min" ["key", "default"] 0 ⟨[],[]⟩=pure [none,none] from rfl) (wpAny_bind (wpAny_pure (wpAny_bind (wpAny_pyIter_list pl.isList (wpAny_bind (wpAny_newObj_type ?_)))))))
 rw [nm]
 have e1:(s.heap.push { cls:=.type "list_iterator", data:=.fields #[.ref p,.int 0 0] }).objs.size=s.heap.objs.size+1:=Heap.size_push ..
 refine wpAny_pure ⟨plainId_quiet F.plain_min_loop _,?_⟩
 show codeAny _ _ (.builtin "min.loop" ⟨[.ref s.heap.objs.size,.none,.ref (s.heap.push { cls:=.type "list_iterator", data:=.fields #[.ref p,.int 0 0] }).objs.size],[]⟩) _ _
 rw [e1]
 exact Zis hc hu I r pl pr hne q (λv s' h=>h) 0
def Zoi (X:Cx) (f:Value) (ks:List Str) (r:List V->List V->Hp->VK->Prop):Prop:=∀ (pins:List (Addr×Obj)) (s:Shared) (σ:St) (H:Hp) (xs:List V) (us:List Value) (zs:List V) (ws:List Value) (Q:VK),Inv X pins σ H s->Vals xs us->Vals zs ws->r xs zs H Q->wpAny (model X.prog X.w) X.A (call f us (ks.zip ws)) (EP X pins σ Q) X.xe s
def ZpM (r:List V->List V->Hp->VK->Prop) (t tk:TA):TE:=λσ H Q=>t σ H λvs H1=>tk σ H1 λzs H2=>r vs zs H2 Q
theorem Znx (K:PySem.W.Frag) (hc:X.calm=true) (h:X.K=K:=by rfl):ZbB X (.builtin "min") (λxs H Q=>∃ (p:Addr) (ns:List Int),xs=[.ref p]/\SqT K H p (ns.map V.int)/\ns≠[]/\∀ m,m∈ns->(∀ n∈ns,m<=n)->Q (.int m) H):=by
 subst h
 intro pins s σ H xs us Q I rv h
 obtain ⟨p,ns,rfl,hq,hne,q⟩:=h
 obtain ⟨u,rfl,ru⟩:=rv.one
 cases ru
 obtain ⟨its,r,pl,hz⟩:=I.tuple hq
 have hh:X.A.in1.handled=none:=I.ok.hd hc
 have hl:=r.length
 rw [List.length_map] at hl
 have hpos:0<ns.length:=List.length_pos_iff.mpr hne
 obtain ⟨o,eo,_⟩:=id pl
 have hlt:p<s.heap.objs.size:=Heap.lt_size eo
 have hval:∀ (i:Nat) (v:Value),its.toArray[i]?=some v->∃ t,v=Value.int (ns.getD i 0) t:=λi v hv=>by
  have hv':its[i]?=some v:=by simpa using hv
  have hi:i<its.length:=(List.getElem?_eq_some_iff.mp hv').1
  have ex:(ns.map V.int)[i]?=some (.int (ns[i]'(by omega))):=by rw [List.getElem?_map,List.getElem?_eq_getElem (by omega)];rfl
  obtain ⟨u,gu,ru⟩:=r.get ex
  rw [gu] at hv'
  cases hv'
  obtain ⟨t,rfl⟩:=ru
  exact ⟨t,by rw [List.getD_eq_getElem?_getD,List.getElem?_eq_getElem (by omega)];rfl⟩
 refine call_min_walk (wpAny_pyIter_tuple pl ?_)
 refine ⟨s.heap.objs.size,_,_,_,_,_,_,rfl,Walks.tuple hh s.heap.objs.size p (Nat.ne_of_lt hlt) its.toArray,⟨⟨_,Heap.get?_push_size _ rfl,rfl,rfl⟩,pl.elim λo z=>⟨o,Heap.get?_push_of_some _ z.1,z.2⟩⟩,?_,by rw [List.size_toArray];omega,CmpOf.ints_lt (λi=>ns.getD i 0) hval,λv h' tk hv hk=>?_⟩
 ·intro b hb
  have e:b=s.heap.objs.size\/b=p:=by simpa using hb
  have hsz:(s.heap.push { cls:=.type "tuple_iterator", data:=.fields #[.ref p,.int 0 0] }).objs.size=s.heap.objs.size+1:=Heap.size_push ..
  show b<(s.heap.push { cls:=.type "tuple_iterator", data:=.fields #[.ref p,.int 0 0] }).objs.size
  rw [hsz]
  rcases e with e | e
  ·rw [e];exact Nat.lt_succ_self _
  ·rw [e];exact Nat.lt_succ_of_lt hlt
 ·obtain ⟨t,rfl⟩:=hval _ v hv
  have hA:=argBest_lt (λi=>ns.getD i 0) (its.toArray.size-1)
  have hsz:its.toArray.size=ns.length:=by rw [List.size_toArray];exact hl.symm
  generalize hg:argBest (λi j=>decide (ns.getD i 0<ns.getD j 0)) (its.toArray.size-1)=g at hA ⊢
  have hg1:g<ns.length:=by omega
  have eg:ns.getD g 0=ns[g]:=by rw [List.getD_eq_getElem?_getD,List.getElem?_eq_getElem hg1];rfl
  refine ⟨.int (ns.getD g 0),H,I.kept λb o e'=>hk b o ?_ (Heap.get?_push_of_some _ e'),⟨t,rfl⟩,q _ (by rw [eg];exact List.getElem_mem hg1) λn hn=>?_⟩
  ·intro z
   have:b=s.heap.objs.size:=by simpa using z
   exact absurd (Heap.lt_size e') (by rw [this];exact Nat.lt_irrefl _)
  ·obtain ⟨j,hj,rfl⟩:=List.getElem_of_mem hn
   have:=hA.2 j (by omega)
   have ej:ns.getD j 0=ns[j]:=by rw [List.getD_eq_getElem?_getD,List.getElem?_eq_getElem hj];rfl
   rw [<-ej]
   exact this
end
section
variable {X:Cx} {k:Nat} {f:Addr} {fd:FuncData} {ps:List Str} {sp:Sp} {dvs:List V} {ds:List Value} {fx:Str} {fp cpos bpos np:Pos} {e:Expr} {es:List Expr} {t:TA}
theorem Zjh {j:Nat} {y:Str} (F:ZaO X.prog X.w X.K X.mg X.base (CXr X.prog X.w) k f fd ps sp) (hr:Room k X.A) (hg:Gl X fx) (hm:X.mg fx=some (.ref f)) (hk:PySem.W.keepIn X.K (.ref f)=true) (hb:Binds X.K fd ps ds) (hd:Vals dvs ds) (ha:PA X.nox (e::es) t) (hN:X.N.Nodup) (hj:X.N[j]?=some y) (hx:Loc X.env.scope y)
  (hdb:(fx == ("__debug__" : Str))=false:=by decide) (he:starEach (e::es) X.env=(false,eval e X.env)::starEach es X.env:=by rfl) (hpl:(backTo cpos (starEach es X.env)).any (·.1)=false:=by rfl)
  (hs:swapsWith (.Call (.Name fx fp) (e::es) [] cpos) (some (.Name y np)) bpos.line X.env=pure false:=by rfl) (hf:X.fn y=true\/X.env.scope.names.lookup y=some .local:=by first | exact .inl rfl | exact .inr rfl | assumption) :
  PB X [.Assign [.Name y np] (.Call (.Name fx fp) (e::es) [] cpos) bpos] (λD Eσ σ H=>t σ H λvs H1=>sp (vs++dvs) H1 (λv H2=>D.nx (σ.set j (some v)) H2) (Eσ σ)):=by
 intro pins s σ H D Eσ QQ EE I h hQ hE
 refine wpAny_execs_cons (wpAny_Assign_Name (Zic F hr hg hm hk hb hd ha I h (λu s' hq=>?_) (λev H1 s1 s' I1 hq=>hE σ ev H1 s1 s' I1 hq) hdb he hpl) hs)
 obtain ⟨v,H2,I2,rv,q⟩:=hq
 exact ZcW I2 hN hj hx rv (λs2 I3=>wpAny_execs_nil (hQ .next s2 ⟨_,H2,I3,q⟩)) hf
end
end L2
namespace L2
open PySem PySem.Spec PyProof.Rows
section
variable {X:Cx} {k:Nat} {f:Addr} {fd:FuncData} {ps:List Str} {sp:Sp} {dvs:List V} {ds:List Value} {fx:Str} {fp cpos bpos np hpos pos:Pos} {e:Expr} {es:List Expr} {t:TA}
def Zny (K:PySem.W.Frag) (W:Addr) (ts:TS) (D:Ends) (σ:St):XK:=λcls _ H2=>∃ C,cls=.ref C/\PySem.W.kitCls K (.ref C) (.ref W)=some true/\∀ a,H2 a=none->ts D σ (upd H2 a (ZjW a C))
end
end L2
namespace L2
open PySem PySem.Spec PyProof.Rows
def ZbI:Bool->Keyed->Array Keyed->Nat->Nat->Nat->StateT SortSt Sem (Option Nat):=sortPriv% PySem.Builtin.gallop
def ZdT:Array Keyed->Array Keyed->StateT SortSt Sem (Array Keyed):=sortPriv% PySem.Builtin.mergeLo
def ZdU:Array Keyed->Array Keyed->StateT SortSt Sem (Array Keyed):=sortPriv% PySem.Builtin.mergeHi
def Zdc:Nat->StateT SortSt Sem Unit:=sortPriv% PySem.Builtin.setMinGallop
def ZcG (left:Bool) (key:Keyed) (arr:Array Keyed) (base i:Nat):StateT SortSt Sem (Option Bool):=do
 let x <- elem' arr (base+i)
 if left then lt' x key else return (<- lt' key x).map (!·)
def Zco (left:Bool) (key:Keyed) (arr:Array Keyed) (base n lo hi:Nat):StateT SortSt Sem (Option Nat):=do
 let mut lo:=lo
 let mut hi:=hi
 for _ in [:n] do
  if lo>=hi then break
  let m:=lo+(hi-lo) / 2
  let some more <- ZcG left key arr base m | return none
  if more then lo:=m+1
  else hi:=m
 return some hi
def ZdV (left:Bool) (key:Keyed) (arr:Array Keyed) (base n hint:Nat):StateT SortSt Sem (Option Nat):=do
 let mut lastofs:=0
 let mut ofs:=1
 let maxofs:=n-hint
 for _ in [:n] do
  if ofs>=maxofs then break
  let some more <- ZcG left key arr base (hint+ofs) | return none
  if !more then break
  lastofs:=ofs
  ofs:=2 * ofs+1
 Zco left key arr base n (hint+lastofs+1) (hint+min ofs maxofs)
def ZcH (left:Bool) (key:Keyed) (arr:Array Keyed) (base n hint:Nat):StateT SortSt Sem (Option Nat):=do
 let mut lastofs:=0
 let mut ofs:=1
 let maxofs:=hint+1
 for _ in [:n] do
  if ofs>=maxofs then break
  let some found <- ZcG left key arr base (hint-ofs) | return none
  if found then break
  lastofs:=ofs
  ofs:=2 * ofs+1
 Zco left key arr base n (hint+1-min ofs maxofs) (hint-lastofs)
theorem Zgi (left:Bool) (key:Keyed) (arr:Array Keyed) (base n hint:Nat):ZbI left key arr base n hint=(do
  let some right <- ZcG left key arr base hint | return none
  if right then ZdV left key arr base n hint else ZcH left key arr base n hint):=rfl
section
variable {M:Model} {A:Around} {E:Value->Shared->Prop} {s:Shared} {kd:SortKind} {b:Keyed->Keyed->Bool} {good:Keyed->Prop}
structure WO (b:Keyed->Keyed->Bool):Prop where
 irr:∀ x,b x x=false
 tr:∀ x y z,b x y=true->b y z=true->b x z=true
 neg:∀ x y z,b x z=true->b x y=true\/b y z=true
def ZcU (M:Model) (A:Around) (E:Value->Shared->Prop) (s:Shared) (kd:SortKind) (b:Keyed->Keyed->Bool) (good:Keyed->Prop):Prop:=
 ∀ (x y:Keyed) (st:SortSt) (Q:Option Bool->SortSt->Prop),good x->good y->kindOf st=kd->Q (some (b x y)) st->wpS M A E s (lt' x y) Q st
theorem ZaD {arr:Array Keyed} {i:Nat} {x:Keyed} {st:SortSt} {Q:Keyed->SortSt->Prop} (h:arr[i]?=some x) (q:Q x st):wpS M A E s (elem' arr i) Q st:=by
 rw [elem'_eq,h]
 exact wpS_pure q
def byd (b:Keyed->Keyed->Bool) (left:Bool) (key:Keyed) (arr:Array Keyed) (base i:Nat):Bool:=match arr[base+i]? with
 | some x=>if left then b x key else !b key x
 | none=>false
theorem ZbV {left:Bool} {key:Keyed} {arr:Array Keyed} {base i:Nat} {x:Keyed} {st:SortSt} {Q:Option Bool->SortSt->Prop} (L:ZcU M A E s kd b good) (hk:good key) (hx:arr[base+i]?=some x) (gx:good x) (hs:kindOf st=kd)
  (q:Q (some (byd b left key arr base i)) st):wpS M A E s (ZcG left key arr base i) Q st:=by
 unfold ZcG
 refine wpS_bind (ZaD hx ?_)
 unfold byd at q
 rw [hx] at q
 cases left with
 | true=>exact L x key st Q gx hk hs q
 | false=>exact wpS_bind (L key x st _ hk gx hs (wpS_pure q))
section
variable {left:Bool} {key:Keyed} {arr:Array Keyed} {base n hint:Nat} {st:SortSt} {Q:Option Nat->SortSt->Prop}
structure Gal (b:Keyed->Keyed->Bool) (good:Keyed->Prop) (left:Bool) (key:Keyed) (arr:Array Keyed) (base n:Nat):Prop where
 gk:good key
 it:∀ i,i<n->∃ x,arr[base+i]?=some x/\good x
 mono:∀ i j,i<=j->j<n->byd b left key arr base j=true->byd b left key arr base i=true
theorem ZaT {lo hi:Nat} (L:ZcU M A E s kd b good) (G:Gal b good left key arr base n) (hs:kindOf st=kd) (h1:lo<=hi) (h2:hi<=n) (h3:∀ i,i<lo->byd b left key arr base i=true) (h4:∀ i,hi<=i->i<n->byd b left key arr base i=false)
  (q:∀ k,k<=n->(∀ i,i<k->byd b left key arr base i=true)->(∀ i,k<=i->i<n->byd b left key arr base i=false)->Q (some k) st):wpS M A E s (Zco left key arr base n lo hi) Q st:=by
 unfold Zco
 refine wpS_bind (wpS_forRange (λk c st'=>st'=st/\∃ lo hi,c=(none,lo,hi)/\lo<=hi/\hi<=n/\hi-lo<=n-k/\(∀ i,i<lo->byd b left key arr base i=true)/\(∀ i,hi<=i->i<n->byd b left key arr base i=false)) ?_ ?_ ⟨rfl,lo,hi,rfl,h1,h2,by omega,h3,h4⟩)
 ·rintro k c st' _ hk ⟨rfl,lo,hi,rfl,h1,h2,h5,h3,h4⟩
  dsimp only
  split
  ·rename_i h6
   have:lo=hi:=by omega
   subst this
   refine wpS_pure ?_
   dsimp only
   exact wpS_pure (q lo h2 h3 h4)
  ·rename_i h6
   obtain ⟨x,hx,gx⟩:=G.it (lo+(hi-lo) / 2) (by omega)
   refine wpS_bind (ZbV L G.gk hx gx hs ?_)
   dsimp only
   cases hb:byd b left key arr base (lo+(hi-lo) / 2) with
   | true=>
    refine wpS_pure ⟨rfl,_,_,rfl,by omega,h2,by omega,λi hi'=>G.mono i (lo+(hi-lo) / 2) (by omega) (by omega) hb,h4⟩
   | false=>
    refine wpS_pure ⟨rfl,_,_,rfl,by omega,by omega,by omega,h3,λi h8 h9=>?_⟩
    cases hc:byd b left key arr base i with
    | false=>rfl
    | true=>rw [G.mono _ i h8 h9 hc] at hb;cases hb
 ·rintro c st' ⟨rfl,lo,hi,rfl,h1,h2,h5,h3,h4⟩
  have:lo=hi:=by simp at h5;omega
  subst this
  exact wpS_pure (q lo h2 h3 h4)
theorem Za8 (L:ZcU M A E s kd b good) (G:Gal b good left key arr base n) (hs:kindOf st=kd) (hn:hint<n)
  (q:∀ k,k<=n->(∀ i,i<k->byd b left key arr base i=true)->(∀ i,k<=i->i<n->byd b left key arr base i=false)->Q (some k) st):wpS M A E s (ZbI left key arr base n hint) Q st:=by
 rw [Zgi]
 obtain ⟨x,hx,gx⟩:=G.it hint hn
 have anti:∀ i j,byd b left key arr base i=false->i<=j->j<n->byd b left key arr base j=false:=λi j h1 h2 h3=>by
  cases hc:byd b left key arr base j with
  | false=>rfl
  | true=>rw [G.mono _ j h2 h3 hc] at h1;cases h1
 refine wpS_bind (ZbV L G.gk hx gx hs ?_)
 cases hb:byd b left key arr base hint with
 | true=>
  show wpS M A E s (ZdV left key arr base n hint) Q st
  unfold ZdV
  refine wpS_bind (wpS_forRange (λk c st'=>st'=st/\∃ last ofs,c=(none,last,ofs)/\last<ofs/\k+1<=ofs/\hint+last<n/\byd b left key arr base (hint+last)=true) ?_ ?_ ⟨rfl,0,1,rfl,by omega,by omega,hn,hb⟩)
  ·rintro k c st' _ hk ⟨rfl,last,ofs,rfl,h1,h2,h3,h4⟩
   dsimp only
   split
   ·rename_i h5
    refine wpS_pure ?_
    dsimp only
    rw [Nat.min_eq_right h5]
    exact ZaT L G hs (by omega) (by omega) (λi hi=>G.mono i _ (show i<=hint+last by omega) h3 h4) (λi h6 h7=>by omega) q
   ·rename_i h5
    obtain ⟨y,hy,gy⟩:=G.it (hint+ofs) (by omega)
    refine wpS_bind (ZbV L G.gk hy gy hs ?_)
    dsimp only
    cases hb2:byd b left key arr base (hint+ofs) with
    | true=>exact wpS_pure ⟨rfl,_,_,rfl,by omega,by omega,by omega,hb2⟩
    | false=>
     refine wpS_pure ?_
     dsimp only
     rw [Nat.min_eq_left (by omega)]
     exact ZaT L G hs (by omega) (by omega) (λi hi=>G.mono i _ (show i<=hint+last by omega) h3 h4) (λi h6 h7=>anti _ i hb2 h6 h7) q
  ·rintro c st' ⟨rfl,last,ofs,rfl,h1,h2,h3,h4⟩
   dsimp only
   have h5:n-hint<=ofs:=by simp at h2;omega
   rw [Nat.min_eq_right h5]
   exact ZaT L G hs (by omega) (by omega) (λi hi=>G.mono i _ (show i<=hint+last by omega) h3 h4) (λi h6 h7=>by omega) q
 | false=>
  show wpS M A E s (ZcH left key arr base n hint) Q st
  unfold ZcH
  refine wpS_bind (wpS_forRange (λk c st'=>st'=st/\∃ last ofs,c=(none,last,ofs)/\last<ofs/\k+1<=ofs/\last<=hint/\byd b left key arr base (hint-last)=false) ?_ ?_ ⟨rfl,0,1,rfl,by omega,by omega,by omega,hb⟩)
  ·rintro k c st' _ hk ⟨rfl,last,ofs,rfl,h1,h2,h3,h4⟩
   dsimp only
   split
   ·rename_i h5
    refine wpS_pure ?_
    dsimp only
    rw [Nat.min_eq_right h5]
    exact ZaT L G hs (by omega) (by omega) (λi hi=>by omega) (λi h6 h7=>anti _ i h4 h6 h7) q
   ·rename_i h5
    obtain ⟨y,hy,gy⟩:=G.it (hint-ofs) (by omega)
    refine wpS_bind (ZbV L G.gk hy gy hs ?_)
    dsimp only
    cases hb2:byd b left key arr base (hint-ofs) with
    | false=>exact wpS_pure ⟨rfl,_,_,rfl,by omega,by omega,by omega,hb2⟩
    | true=>
     refine wpS_pure ?_
     dsimp only
     rw [Nat.min_eq_left (by omega)]
     exact ZaT L G hs (by omega) (by omega) (λi hi=>G.mono i (hint-ofs) (by omega) (by omega) hb2) (λi h6 h7=>anti _ i h4 h6 h7) q
  ·rintro c st' ⟨rfl,last,ofs,rfl,h1,h2,h3,h4⟩
   dsimp only
   have h5:hint+1<=ofs:=by simp at h2;omega
   rw [Nat.min_eq_right h5]
   exact ZaT L G hs (by omega) (by omega) (λi hi=>by omega) (λi h6 h7=>anti _ i h4 h6 h7) q
end
end
end L2
namespace L2
open PySem PySem.Spec PyProof.Rows
abbrev MLs:=Option (Array Keyed)×Array Keyed×Nat×Nat×Nat×Nat
abbrev MLt:=Option (Array Keyed)×Array Keyed×Nat×Nat×Nat×Nat×Nat
def Zb3 (a b out:Array Keyed) (ia ib:Nat):Array Keyed:=out++a.extract ia++b.extract ib
def ZdA (a b out:Array Keyed) (ia ib:Nat):Array Keyed:=out++b.extract ib++a.extract ia
def Zit (a b:Array Keyed) (mg:Nat):Nat->MLs->StateT SortSt Sem (ForInStep MLs):=λ_ r=>
 let out:=r.2.1;let ia:=r.2.2.1;let ib:=r.2.2.2.1;let acount:=r.2.2.2.2.1;let bcount:=r.2.2.2.2.2
 do
 let x <- elem' b ib
 let y <- elem' a ia
 match <- lt' x y with
 | some bWins=>
  if bWins=true then do
   let z <- elem' b ib
   let out:=out.push z
   let ib:=ib+1
   let bcount:=bcount+1
   let acount:=0
   if (ib == b.size)=true then pure (.done (some (Zb3 a b out ia ib),out,ia,ib,acount,bcount))
   else if bcount>=mg then pure (.done (none,out,ia,ib,acount,bcount))
   else pure (.yield (none,out,ia,ib,acount,bcount))
  else do
   let z <- elem' a ia
   let out:=out.push z
   let ia:=ia+1
   let acount:=acount+1
   let bcount:=0
   if (ia+1 == a.size)=true then pure (.done (some (ZdA a b out ia ib),out,ia,ib,acount,bcount))
   else if acount>=mg then pure (.done (none,out,ia,ib,acount,bcount))
   else pure (.yield (none,out,ia,ib,acount,bcount))
 | _=>pure (.done (some (Zb3 a b out ia ib),out,ia,ib,acount,bcount))
def mlD (a b:Array Keyed) (minGallop acount k:Nat) (out:Array Keyed) (ia ib:Nat):StateT SortSt Sem (ForInStep MLt):=do
 let bcount:=k
 let z <- elem' a ia
 let out:=out.push z
 let ia:=ia+1
 if (ia+1 == a.size)=true then pure (.done (some (ZdA a b out ia ib),out,ia,ib,minGallop,acount,bcount))
 else if (decide (acount<7) && decide (bcount<7))=true then pure (.done (none,out,ia,ib,minGallop,acount,bcount))
 else pure (.yield (none,out,ia,ib,minGallop,acount,bcount))
def mlC (a b:Array Keyed) (minGallop acount bcount:Nat) (out:Array Keyed) (ia ib:Nat):StateT SortSt Sem (ForInStep MLt):=do
 let z <- elem' b ib
 let out:=out.push z
 let ib:=ib+1
 if (ib == b.size)=true then pure (.done (some (Zb3 a b out ia ib),out,ia,ib,minGallop,acount,bcount))
 else do
  let y <- elem' a ia
  match <- ZbI true y b ib (b.size-ib) 0 with
  | some k=>
   let bcount:=k
   if k > 0 then
    let out:=out++b.extract ib (ib+k)
    let ib:=ib+k
    if (ib == b.size)=true then pure (.done (some (Zb3 a b out ia ib),out,ia,ib,minGallop,acount,bcount))
    else mlD a b minGallop acount k out ia ib
   else mlD a b minGallop acount k out ia ib
  | _=>pure (.done (some (Zb3 a b out ia ib),out,ia,ib,minGallop,acount,bcount))
def mlB (a b:Array Keyed) (minGallop acount bcount:Nat) (out:Array Keyed) (ia ib:Nat):StateT SortSt Sem (ForInStep MLt):=do
 Zdc minGallop
 let x <- elem' b ib
 match <- ZbI false x a ia (a.size-ia) 0 with
 | some k=>
  let acount:=k
  if k > 0 then
   let out:=out++a.extract ia (ia+k)
   let ia:=ia+k
   if (ia+1 == a.size)=true then pure (.done (some (ZdA a b out ia ib),out,ia,ib,minGallop,acount,bcount))
   else if (ia == a.size)=true then pure (.done (some (Zb3 a b out ia ib),out,ia,ib,minGallop,acount,bcount))
   else mlC a b minGallop acount bcount out ia ib
  else mlC a b minGallop acount bcount out ia ib
 | _=>pure (.done (some (Zb3 a b out ia ib),out,ia,ib,minGallop,acount,bcount))
def Ziu (a b:Array Keyed):Nat->MLt->StateT SortSt Sem (ForInStep MLt):=λ_ r=>
 let out:=r.2.1;let ia:=r.2.2.1;let ib:=r.2.2.2.1;let minGallop:=r.2.2.2.2.1;let acount:=r.2.2.2.2.2.1;let bcount:=r.2.2.2.2.2.2
 if minGallop > 1 then mlB a b (minGallop-1) acount bcount out ia ib else mlB a b minGallop acount bcount out ia ib
abbrev MLo:=Option (Array Keyed)×Array Keyed×Nat×Nat×Nat
def Ziv (a b:Array Keyed):Nat->MLo->StateT SortSt Sem (ForInStep MLo):=λ_ r=>
 let out:=r.2.1;let ia:=r.2.2.1;let ib:=r.2.2.2.1;let minGallop:=r.2.2.2.2
 do
 let r <- forIn [:a.size+b.size] ((none,out,ia,ib,0,0):MLs) (Zit a b minGallop)
 match r.1 with
 | some x=>pure (.done (some x,r.2.1,r.2.2.1,r.2.2.2.1,minGallop))
 | none=>do
  liftM (rule "list.sort.gallop")
  let r <- forIn [:a.size+b.size] ((none,r.2.1,r.2.2.1,r.2.2.2.1,minGallop+1,r.2.2.2.2.1,r.2.2.2.2.2):MLt) (Ziu a b)
  match r.1 with
  | some x=>pure (.done (some x,r.2.1,r.2.2.1,r.2.2.2.1,r.2.2.2.2.1))
  | none=>do
   Zdc (r.2.2.2.2.1+1)
   pure (.yield (none,r.2.1,r.2.2.1,r.2.2.2.1,r.2.2.2.2.1+1))
theorem Za1 {α β:Type} {m:StateT SortSt Sem α} {f g:α->StateT SortSt Sem β} (h:∀ x,f x=g x):m >>= f=m >>= g:=by rw [funext h]
theorem ZdW {α:Type} {c:Prop} [Decidable c] {x y u v:α} (h1:x=y) (h2:u=v):(if c then x else u)=if c then y else v:=by rw [h1,h2]
theorem Zdd {β:Type} {r:Std.Legacy.Range} {c:β} {f g:Nat->β->StateT SortSt Sem (ForInStep β)} (h:∀ i x,f i x=g i x):forIn r c f=forIn r c g:=by rw [funext λi=>funext (h i)]
theorem Ze9 (a b:Array Keyed):ZdT a b=(do
  liftM (rule "list.sort.merge-lo")
  let x <- elem' b 0
  let out:=#[x]
  if (1 == b.size)=true then pure (Zb3 a b out 0 1)
  else if (0+1 == a.size)=true then pure (ZdA a b out 0 1)
  else do
   let st <- get
   let r <- forIn [:a.size+b.size] ((none,out,0,1,gallopOf st):MLo) (Ziv a b)
   match r.1 with
   | some r=>pure r
   | none=>liftM (unsupported "internal:list.sort.merge-bound")):=by
 refine Za1 (m:=liftM (rule "list.sort.merge-lo")) λ_=>?_
 refine Za1 (m:=elem' b 0) λx=>?_
 refine ZdW (c:=(1 == b.size)=true) rfl ?_
 refine ZdW (c:=(0+1 == a.size)=true) rfl ?_
 refine Za1 (m:=get) λst=>?_
 refine (congrArg (λm:StateT SortSt Sem MLo=>m >>= _) (Zdd (r:=[:a.size+b.size]) (c:=((none,#[x],0,1,gallopOf st):MLo)) (g:=Ziv a b) λi r=>?_)).trans ?_
 rotate_left
 ·refine Za1 λr=>?_
  obtain ⟨r1,r2⟩:=r
  cases r1 <;> rfl
 unfold Ziv
 refine (congrArg (λm:StateT SortSt Sem MLs=>m >>= _) (Zdd (r:=[:a.size+b.size]) (g:=Zit a b r.2.2.2.2) λi r=>rfl)).trans ?_
 refine Za1 λq=>?_
 obtain ⟨q1,q2⟩:=q
 cases q1 with
 | some z=>rfl
 | none=>
  refine Za1 (m:=liftM (rule "list.sort.gallop")) λ_=>?_
  refine (congrArg (λm:StateT SortSt Sem MLt=>m >>= _) (Zdd (r:=[:a.size+b.size]) (g:=Ziu a b) λi r=>rfl)).trans ?_
  refine Za1 λq=>?_
  obtain ⟨q1,q2⟩:=q
  cases q1 <;> rfl
end L2
namespace L2
open PySem PySem.Spec PyProof.Rows
section
variable {b:Keyed->Keyed->Bool}
abbrev kle (b:Keyed->Keyed->Bool) (x y:Keyed):Prop:=b y x=false
theorem WO.le_trans (W:WO b) {x y z:Keyed} (h1:kle b x y) (h2:kle b y z):kle b x z:=by
 cases h:b z x with
 | false=>exact h
 | true=>
  rcases W.neg z y x h with q | q
  ·rw [show b z y=false from h2] at q;cases q
  ·rw [show b y x=false from h1] at q;cases q
theorem WO.le_of_lt (W:WO b) {x y:Keyed} (h:b x y=true):kle b x y:=by
 cases q:b y x with
 | false=>exact q
 | true=>
  have:=W.tr _ _ _ h q
  rw [W.irr] at this;cases this
theorem WO.le_refl (W:WO b) (x:Keyed):kle b x x:=W.irr x
structure Mrg (b:Keyed->Keyed->Bool) (all out ra rb:List Keyed):Prop where
 perm:(out++ra++rb).Perm all
 so:out.Pairwise (kle b)
 le:∀ x∈out,∀ y∈ra++rb,kle b x y
 sa:ra.Pairwise (kle b)
 sb:rb.Pairwise (kle b)
theorem Mrg.len {all out ra rb:List Keyed} (h:Mrg b all out ra rb):out.length+ra.length+rb.length=all.length:=by
 have:=h.perm.length_eq
 rw [List.length_append,List.length_append] at this
 exact this
theorem Mrg.moveA {all out u ra rb:List Keyed} (h:Mrg b all out (u++ra) rb) (hu:∀ x∈u,∀ y∈rb,kle b x y):Mrg b all (out++u) ra rb:=by
 have sa:=List.pairwise_append.mp h.sa
 refine ⟨by rw [List.append_assoc out u ra];exact h.perm,List.pairwise_append.mpr ⟨h.so,sa.1,λx hx y hy=>h.le x hx y (by simp [hy])⟩,λx hx y hy=>?_,sa.2.1,h.sb⟩
 rcases List.mem_append.mp hx with hx | hx
 ·refine h.le x hx y ?_
  rcases List.mem_append.mp hy with hy | hy
  ·simp [hy]
  ·simp [hy]
 ·rcases List.mem_append.mp hy with hy | hy
  ·exact sa.2.2 x hx y hy
  ·exact hu x hx y hy
theorem Mrg.moveB {all out u ra rb:List Keyed} (h:Mrg b all out ra (u++rb)) (hu:∀ x∈u,∀ y∈ra,kle b x y):Mrg b all (out++u) ra rb:=by
 have sb:=List.pairwise_append.mp h.sb
 refine ⟨?_,List.pairwise_append.mpr ⟨h.so,sb.1,λx hx y hy=>h.le x hx y (by simp [hy])⟩,λx hx y hy=>?_,h.sa,sb.2.1⟩
 ·refine List.Perm.trans ?_ h.perm
  simp only [List.append_assoc]
  refine List.Perm.append_left _ ?_
  rw [<-List.append_assoc,<-List.append_assoc]
  exact List.Perm.append_right _ List.perm_append_comm
 ·rcases List.mem_append.mp hx with hx | hx
  ·refine h.le x hx y ?_
   rcases List.mem_append.mp hy with hy | hy
   ·simp [hy]
   ·simp [hy]
  ·rcases List.mem_append.mp hy with hy | hy
   ·exact hu x hx y hy
   ·exact sb.2.2 x hx y hy
def Za6 (b:Keyed->Keyed->Bool) (all r:List Keyed):Prop:=r.Perm all/\r.Pairwise (kle b)
theorem Mrg.endA {all out ra rb:List Keyed} (h:Mrg b all out ra rb) (hz:∀ x∈ra,∀ y∈rb,kle b x y):Za6 b all (out++ra++rb):=by
 refine ⟨h.perm,?_⟩
 rw [List.append_assoc]
 exact List.pairwise_append.mpr ⟨h.so,List.pairwise_append.mpr ⟨h.sa,h.sb,hz⟩,h.le⟩
theorem Mrg.endB {all out ra rb:List Keyed} (h:Mrg b all out ra rb) (hz:∀ x∈rb,∀ y∈ra,kle b x y):Za6 b all (out++rb++ra):=by
 refine ⟨?_,?_⟩
 ·refine List.Perm.trans ?_ h.perm
  rw [List.append_assoc,List.append_assoc]
  exact List.Perm.append_left _ List.perm_append_comm
 ·rw [List.append_assoc]
  exact List.pairwise_append.mpr ⟨h.so,List.pairwise_append.mpr ⟨h.sb,h.sa,hz⟩,λx hx y hy=>h.le x hx y (by
   rcases List.mem_append.mp hy with hy | hy <;> simp [hy])⟩
end
theorem Zc1 (a:Array Keyed) (i:Nat):(a.extract i).toList=a.toList.drop i:=by
 rw [Array.toList_extract,List.extract_eq_take_drop,List.take_of_length_le]
 rw [List.length_drop]
 exact Nat.le_refl _
theorem ZfN (a:Array Keyed) (i k:Nat):(a.extract i (i+k)).toList=(a.toList.drop i).take k:=by
 rw [Array.toList_extract,List.extract_eq_take_drop,Nat.add_sub_cancel_left]
theorem Zbc {a:Array Keyed} {i:Nat} {x:Keyed} (h:a[i]?=some x):a.toList.drop i=x::a.toList.drop (i+1):=by
 rw [<-Array.getElem?_toList] at h
 obtain ⟨h1,h2⟩:=List.getElem?_eq_some_iff.mp h
 rw [List.drop_eq_getElem_cons h1,h2]
def SameG (st st':SortSt):Prop:=kindOf st'=kindOf st/\arrOf st'=arrOf st/\pendingOf st'=pendingOf st/\failedOf st'=failedOf st
theorem SameG.refl (st:SortSt):SameG st st:=⟨rfl,rfl,rfl,rfl⟩
theorem SameG.trans {st st' st'':SortSt} (h:SameG st st') (k:SameG st' st''):SameG st st'':=⟨k.1.trans h.1,k.2.1.trans h.2.1,k.2.2.1.trans h.2.2.1,k.2.2.2.trans h.2.2.2⟩
section
variable {M:Model} {A:Around} {E:Value->Shared->Prop} {s:Shared} {kd:SortKind} {b:Keyed->Keyed->Bool} {good:Keyed->Prop}
theorem ZbW {g:Nat} {st:SortSt} {Q:Unit->SortSt->Prop} (q:∀ st',SameG st st'->Q () st'):wpS M A E s (Zdc g) Q st:=by
 refine wpS_modify (f:=λs=>SortSt.mk' (kindOf s) (arrOf s) (pendingOf s) g (failedOf s)) (q _ ⟨rfl,rfl,rfl,rfl⟩)
structure Two (b:Keyed->Keyed->Bool) (good:Keyed->Prop) (a c:Array Keyed):Prop where
 ga:∀ x∈a.toList,good x
 gc:∀ x∈c.toList,good x
 sa:a.toList.Pairwise (kle b)
 sc:c.toList.Pairwise (kle b)
 na:0<a.size
 nc:0<c.size
 first:∀ x,c[0]?=some x->∀ y∈a.toList,kle b x y
 last:∀ z,a[a.size-1]?=some z->∀ y∈c.toList,kle b y z
variable {a c:Array Keyed}
theorem Two.at (T:Two b good a c) {i:Nat} (h:i<a.size):∃ x,a[i]?=some x/\good x:=⟨a[i],by simp [h],T.ga _ (by simp)⟩
theorem Two.ct (T:Two b good a c) {i:Nat} (h:i<c.size):∃ x,c[i]?=some x/\good x:=⟨c[i],by simp [h],T.gc _ (by simp)⟩
def ML (b:Keyed->Keyed->Bool) (a c out:Array Keyed) (ia ib:Nat):Prop:=Mrg b (a.toList++c.toList) out.toList (a.toList.drop ia) (c.toList.drop ib)
theorem ML.done {out:Array Keyed} {ia ib:Nat} (h:ML b a c out ia ib) (e:ib=c.size\/ia=a.size):Za6 b (a.toList++c.toList) (Zb3 a c out ia ib).toList:=by
 unfold Zb3
 rw [Array.toList_append,Array.toList_append,Zc1,Zc1]
 refine Mrg.endA h λx hx y hy=>?_
 rcases e with e | e
 ·rw [List.drop_of_length_le (by rw [e,Array.length_toList];exact Nat.le_refl _)] at hy
  cases hy
 ·rw [List.drop_of_length_le (by rw [e,Array.length_toList];exact Nat.le_refl _)] at hx
  cases hx
theorem ML.last {out:Array Keyed} {ia ib:Nat} (T:Two b good a c) (h:ML b a c out ia ib) (e:ia+1=a.size):Za6 b (a.toList++c.toList) (ZdA a c out ia ib).toList:=by
 unfold ZdA
 rw [Array.toList_append,Array.toList_append,Zc1,Zc1]
 refine Mrg.endB h λx hx y hy=>?_
 obtain ⟨z,hz,_⟩:=T.at (i:=ia) (by omega)
 rw [Zbc hz,List.drop_of_length_le (by rw [Array.length_toList];omega)] at hy
 have:y=z:=by simpa using hy
 subst this
 exact T.last y (by rw [<-e];exact hz) x (List.mem_of_mem_drop hx)
theorem ML.pushB {out:Array Keyed} {ia ib:Nat} {x:Keyed} (h:ML b a c out ia ib) (hx:c[ib]?=some x) (hl:∀ y∈a.toList.drop ia,kle b x y):ML b a c (out.push x) ia (ib+1):=by
 unfold ML at h ⊢
 rw [Array.toList_push]
 rw [Zbc hx] at h
 exact Mrg.moveB (u:=[x]) h λz hz y hy=>by
  have:z=x:=by simpa using hz
  subst this
  exact hl y hy
theorem ML.pushA {out:Array Keyed} {ia ib:Nat} {x:Keyed} (h:ML b a c out ia ib) (hx:a[ia]?=some x) (hl:∀ y∈c.toList.drop ib,kle b x y):ML b a c (out.push x) (ia+1) ib:=by
 unfold ML at h ⊢
 rw [Array.toList_push]
 rw [Zbc hx] at h
 exact Mrg.moveA (u:=[x]) h λz hz y hy=>by
  have:z=x:=by simpa using hz
  subst this
  exact hl y hy
theorem ML.takeA {out:Array Keyed} {ia ib k:Nat} (h:ML b a c out ia ib) (hl:∀ x∈(a.toList.drop ia).take k,∀ y∈c.toList.drop ib,kle b x y):ML b a c (out++a.extract ia (ia+k)) (ia+k) ib:=by
 unfold ML at h ⊢
 rw [Array.toList_append,ZfN]
 rw [<-List.take_append_drop k (a.toList.drop ia),List.drop_drop] at h
 exact Mrg.moveA h hl
theorem ML.takeB {out:Array Keyed} {ia ib k:Nat} (h:ML b a c out ia ib) (hl:∀ x∈(c.toList.drop ib).take k,∀ y∈a.toList.drop ia,kle b x y):ML b a c (out++c.extract ib (ib+k)) ia (ib+k):=by
 unfold ML at h ⊢
 rw [Array.toList_append,ZfN]
 rw [<-List.take_append_drop k (c.toList.drop ib),List.drop_drop] at h
 exact Mrg.moveB h hl
theorem ZdX {l:List Keyed} {x:Keyed} (W:WO b) (h:(x::l).Pairwise (kle b)):∀ y∈x::l,kle b x y:=λy hy=>by
 rcases List.mem_cons.mp hy with rfl | hy
 ·exact W.le_refl _
 ·exact (List.pairwise_cons.mp h).1 y hy
theorem Zhc (W:WO b) (L:ZcU M A E s kd b good) (T:Two b good a c) {out:Array Keyed} {ia ib mg:Nat} {st:SortSt} (hs:kindOf st=kd) (h:ML b a c out ia ib) (h1:ia+1<a.size) (h2:ib<c.size)
  {Q:MLs->SortSt->Prop} (q1:∀ r y st',SameG st st'->Za6 b (a.toList++c.toList) r.toList->Q (some r,y) st')
  (q2:∀ out' ia' ib' ac bc st',SameG st st'->ML b a c out' ia' ib'->ia'+1<a.size->ib'<c.size->out.size<out'.size->Q (none,out',ia',ib',ac,bc) st') :
  wpS M A E s (forIn [:a.size+c.size] ((none,out,ia,ib,0,0):MLs) (Zit a c mg)) Q st:=by
 refine wpS_forRange (λk r st'=>SameG st st'/\∃ out' ia' ib' ac bc,r=(none,out',ia',ib',ac,bc)/\ML b a c out' ia' ib'/\ia'+1<a.size/\ib'<c.size/\out.size+k<=out'.size) ?_ ?_ ⟨SameG.refl _,_,_,_,_,_,rfl,h,h1,h2,Nat.le_refl _⟩
 ·rintro k r st1 _ hk ⟨sg,out',ia',ib',ac,bc,rfl,h,h1,h2,h3⟩
  have hs1:kindOf st1=kd:=sg.1.trans hs
  unfold Zit
  dsimp only
  obtain ⟨x,hx,gx⟩:=T.ct h2
  obtain ⟨y,hy,gy⟩:=T.at (i:=ia') (by omega)
  refine wpS_bind (ZaD hx (wpS_bind (ZaD hy (wpS_bind (L x y st1 _ gx gy hs1 ?_)))))
  have sA:(a.toList.drop ia').Pairwise (kle b):=h.sa
  have sB:(c.toList.drop ib').Pairwise (kle b):=h.sb
  rw [Zbc hy] at sA
  rw [Zbc hx] at sB
  dsimp only
  cases hb:b x y with
  | true=>
   rw [if_pos rfl]
   refine wpS_bind (ZaD hx ?_)
   have h':=h.pushB hx λz hz=>by
    rw [Zbc hy] at hz
    exact W.le_trans (W.le_of_lt hb) (ZdX W sA z hz)
   split
   ·rename_i e
    exact wpS_pure (q1 _ _ _ sg (h'.done (.inl (eq_of_beq e))))
   ·rename_i e
    have e:ib'+1<c.size:=by
     have:ib'+1≠c.size:=λz=>e (beq_iff_eq.mpr z)
     omega
    split
    ·exact wpS_pure (q2 _ _ _ _ _ _ sg h' h1 e (by rw [Array.size_push];omega))
    ·exact wpS_pure ⟨sg,_,_,_,_,_,rfl,h',h1,e,by rw [Array.size_push];omega⟩
  | false=>
   rw [if_neg Bool.false_ne_true]
   refine wpS_bind (ZaD hy ?_)
   have h':=h.pushA hy λz hz=>by
    rw [Zbc hx] at hz
    exact W.le_trans hb (ZdX W sB z hz)
   split
   ·rename_i e
    exact wpS_pure (q1 _ _ _ sg (h'.last T (eq_of_beq e)))
   ·rename_i e
    have e:ia'+1+1<a.size:=by
     have:ia'+1+1≠a.size:=λz=>e (beq_iff_eq.mpr z)
     omega
    split
    ·exact wpS_pure (q2 _ _ _ _ _ _ sg h' e h2 (by rw [Array.size_push];omega))
    ·exact wpS_pure ⟨sg,_,_,_,_,_,rfl,h',e,h2,by rw [Array.size_push];omega⟩
 ·rintro r st1 ⟨sg,out',ia',ib',ac,bc,rfl,h,h1,h2,h3⟩
  exact q2 _ _ _ _ _ _ sg h h1 h2 (by have:=T.na;simp at h3;omega)
end
end L2
namespace L2
open PySem PySem.Spec PyProof.Rows
def Rng (b:Keyed->Keyed->Bool) (arr:Array Keyed) (lo hi:Nat):Prop:=∀ i j x y,lo<=i->i<=j->j<hi->arr[i]?=some x->arr[j]?=some y->kle b x y
section
variable {M:Model} {A:Around} {E:Value->Shared->Prop} {s:Shared} {kd:SortKind} {b:Keyed->Keyed->Bool} {good:Keyed->Prop}
theorem Ziw (W:WO b):∀ {l:List Keyed} {i j:Nat} {x y:Keyed},l.Pairwise (kle b)->i<=j->l[i]?=some x->l[j]?=some y->kle b x y
 | [],_,_,_,_,_,_,h,_=>by simp at h
 | z::l,0,0,x,y,_,_,h1,h2=>by
  simp at h1 h2
  subst h1 h2
  exact W.le_refl _
 | z::l,0,j+1,x,y,h,_,h1,h2=>by
  simp at h1 h2
  subst h1
  exact (List.pairwise_cons.mp h).1 y (List.mem_of_getElem? h2)
 | z::l,i+1,0,_,_,_,h,_,_=>by omega
 | z::l,i+1,j+1,x,y,h,hij,h1,h2=>by
  simp at h1 h2
  exact Ziw W (List.pairwise_cons.mp h).2 (by omega) h1 h2
theorem Zji (W:WO b) {arr:Array Keyed} {lo:Nat} (h:(arr.toList.drop lo).Pairwise (kle b)):Rng b arr lo arr.size:=λi j x y h1 h2 h3 e1 e2=>by
 refine Ziw (i:=i-lo) (j:=j-lo) W h (by omega) ?_ ?_
 ·rw [List.getElem?_drop,Nat.add_sub_cancel' h1,Array.getElem?_toList];exact e1
 ·rw [List.getElem?_drop,Nat.add_sub_cancel' (Nat.le_trans h1 h2),Array.getElem?_toList];exact e2
theorem ZdB (W:WO b) {left:Bool} {key:Keyed} {arr:Array Keyed} {base n:Nat} (hk:good key) (hg:∀ i,i<n->∃ x,arr[base+i]?=some x/\good x) (h:Rng b arr base (base+n)):Gal b good left key arr base n:=by
 refine ⟨hk,hg,λi j h1 h2 h3=>?_⟩
 obtain ⟨x,hx,_⟩:=hg i (by omega)
 obtain ⟨y,hy,_⟩:=hg j h2
 have hxy:=h (base+i) (base+j) x y (by omega) (by omega) (by omega) hx hy
 unfold byd at h3 ⊢
 rw [hy] at h3
 rw [hx]
 dsimp only at h3 ⊢
 cases left with
 | true=>
  rw [if_pos rfl] at h3 ⊢
  rcases W.neg y x key h3 with z | z
  ·rw [show b y x=false from hxy] at z;cases z
  ·exact z
 | false=>
  rw [if_neg Bool.false_ne_true] at h3 ⊢
  rw [Bool.not_eq_true'] at h3 ⊢
  exact W.le_trans (x:=x) (y:=y) (z:=key) hxy h3
variable {a c:Array Keyed}
theorem ZfO {arr:Array Keyed} {base k:Nat} {x:Keyed} (h:x∈(arr.toList.drop base).take k):∃ i,i<k/\arr[base+i]?=some x:=by
 obtain ⟨i,hi⟩:=List.mem_iff_getElem?.mp h
 rw [List.getElem?_take] at hi
 split at hi
 ·rw [List.getElem?_drop,Array.getElem?_toList] at hi
  exact ⟨i,by assumption,hi⟩
 ·cases hi
theorem ZfP {arr:Array Keyed} {base:Nat} {x:Keyed} (h:x∈arr.toList.drop base):∃ i,base+i<arr.size/\arr[base+i]?=some x:=by
 obtain ⟨i,hi⟩:=List.mem_iff_getElem?.mp h
 rw [List.getElem?_drop,Array.getElem?_toList] at hi
 exact ⟨i,(Array.getElem?_eq_some_iff.mp hi).1,hi⟩
section
variable {out:Array Keyed} {ia ib:Nat} {st:SortSt} {Q:ForInStep MLt->SortSt->Prop}
structure Zix (b:Keyed->Keyed->Bool) (a c:Array Keyed) (n:Nat) (st:SortSt) (Q:ForInStep MLt->SortSt->Prop):Prop where
 fin:∀ r y st',SameG st st'->Za6 b (a.toList++c.toList) r.toList->Q (.done (some r,y)) st'
 brk:∀ out' ia' ib' y st',SameG st st'->ML b a c out' ia' ib'->ia'+1<a.size->ib'<c.size->n<=out'.size->Q (.done (none,out',ia',ib',y)) st'
 go:∀ out' ia' ib' y st',SameG st st'->ML b a c out' ia' ib'->ia'+1<a.size->ib'<c.size->n<=out'.size->Q (.yield (none,out',ia',ib',y)) st'
theorem Zhd (T:Two b good a c) {mg ac k n:Nat} (R:Zix b a c n st Q) (h:ML b a c out ia ib) (h1:ia+1<a.size) (h2:ib<c.size) (hn:n<=out.size) (hl:∀ x,a[ia]?=some x->∀ y∈c.toList.drop ib,kle b x y) :
  wpS M A E s (mlD a c mg ac k out ia ib) Q st:=by
 unfold mlD
 obtain ⟨x,hx,gx⟩:=T.at (i:=ia) (by omega)
 refine wpS_bind (ZaD hx ?_)
 have h':=h.pushA hx (hl x hx)
 have hn':n<=(out.push x).size:=by rw [Array.size_push];omega
 dsimp only
 split
 ·rename_i e
  exact wpS_pure (R.fin _ _ _ (SameG.refl _) (h'.last T (eq_of_beq e)))
 ·rename_i e
  have e:ia+1+1<a.size:=by
   have:ia+1+1≠a.size:=λz=>e (beq_iff_eq.mpr z)
   omega
  split
  ·exact wpS_pure (R.brk _ _ _ _ _ (SameG.refl _) h' e h2 hn')
  ·exact wpS_pure (R.go _ _ _ _ _ (SameG.refl _) h' e h2 hn')
theorem Zhe (W:WO b) (L:ZcU M A E s kd b good) (T:Two b good a c) {mg ac bc n:Nat} (R:Zix b a c n st Q) (hs:kindOf st=kd) (h:ML b a c out ia ib) (h1:ia+1<a.size) (h2:ib<c.size) (hn:n<=out.size)
  (hl:∀ x,c[ib]?=some x->∀ y∈a.toList.drop ia,kle b x y):wpS M A E s (mlC a c mg ac bc out ia ib) Q st:=by
 unfold mlC
 obtain ⟨x,hx,gx⟩:=T.ct h2
 obtain ⟨y,hy,gy⟩:=T.at (i:=ia) (by omega)
 refine wpS_bind (ZaD hx ?_)
 have h':=h.pushB hx (hl x hx)
 have hn':n<=(out.push x).size:=by rw [Array.size_push];omega
 generalize out.push x=out1 at h' hn'
 dsimp only
 split
 ·rename_i e
  exact wpS_pure (R.fin _ _ _ (SameG.refl _) (h'.done (.inl (eq_of_beq e))))
 ·rename_i e
  have e:ib+1<c.size:=by
   have:ib+1≠c.size:=λz=>e (beq_iff_eq.mpr z)
   omega
  refine wpS_bind (ZaD hy ?_)
  have sB:Rng b c (ib+1) c.size:=Zji W h'.sb
  have sA:(a.toList.drop ia).Pairwise (kle b):=h'.sa
  rw [Zbc hy] at sA
  have G:Gal b good true y c (ib+1) (c.size-(ib+1)):=ZdB W gy (λi hi=>T.ct (by omega)) (by rw [Nat.add_sub_cancel' (by omega)];exact sB)
  refine wpS_bind (Za8 L G hs (by omega) λk hk k1 k2=>?_)
  dsimp only
  have tk:∀ z∈(c.toList.drop (ib+1)).take k,∀ v∈a.toList.drop ia,kle b z v:=λz hz v hv=>by
   obtain ⟨i,hi,ez⟩:=ZfO hz
   have:=k1 i hi
   unfold byd at this
   rw [ez] at this
   dsimp only at this
   rw [if_pos rfl] at this
   rw [Zbc hy] at hv
   exact W.le_trans (W.le_of_lt this) (ZdX W sA v hv)
  have tr:∀ v∈c.toList.drop (ib+1+k),kle b y v:=λv hv=>by
   obtain ⟨i,hi,ev⟩:=ZfP hv
   have:=k2 (k+i) (by omega) (by omega)
   unfold byd at this
   rw [show ib+1+(k+i)=ib+1+k+i by omega,ev] at this
   dsimp only at this
   rw [if_pos rfl] at this
   exact this
  split
  ·have h3:=h'.takeB tk
   have hn3:n<=(out1++c.extract (ib+1) (ib+1+k)).size:=by rw [Array.size_append];omega
   split
   ·rename_i e2
    exact wpS_pure (R.fin _ _ _ (SameG.refl _) (h3.done (.inl (eq_of_beq e2))))
   ·rename_i e2
    have e2:ib+1+k<c.size:=by
     have:ib+1+k≠c.size:=λz=>e2 (beq_iff_eq.mpr z)
     omega
    exact Zhd T R h3 h1 e2 hn3 λx' hx' v hv=>by
     rw [hy] at hx';cases hx'
     exact tr v hv
  ·rename_i hk0
   have:k=0:=by omega
   subst this
   exact Zhd T R h' h1 e hn' λx' hx' v hv=>by
    rw [hy] at hx';cases hx'
    exact tr v hv
theorem Zkj (W:WO b) (L:ZcU M A E s kd b good) (T:Two b good a c) {mg ac bc n:Nat} (R:∀ st',SameG st st'->Zix b a c n st' Q) (hs:kindOf st=kd) (h:ML b a c out ia ib) (h1:ia+1<a.size) (h2:ib<c.size) (hn:n<=out.size) :
  wpS M A E s (mlB a c mg ac bc out ia ib) Q st:=by
 unfold mlB
 refine wpS_bind (ZbW λst1 sg=>?_)
 have R:=R st1 sg
 have hs1:kindOf st1=kd:=sg.1.trans hs
 obtain ⟨x,hx,gx⟩:=T.ct h2
 refine wpS_bind (ZaD hx ?_)
 have sA:Rng b a ia a.size:=Zji W h.sa
 have sB:(c.toList.drop ib).Pairwise (kle b):=h.sb
 rw [Zbc hx] at sB
 have G:Gal b good false x a ia (a.size-ia):=ZdB W gx (λi hi=>T.at (by omega)) (by rw [Nat.add_sub_cancel' (by omega)];exact sA)
 refine wpS_bind (Za8 L G hs1 (by omega) λk hk k1 k2=>?_)
 dsimp only
 have tk:∀ z∈(a.toList.drop ia).take k,∀ v∈c.toList.drop ib,kle b z v:=λz hz v hv=>by
  obtain ⟨i,hi,ez⟩:=ZfO hz
  have:=k1 i hi
  unfold byd at this
  rw [ez] at this
  dsimp only at this
  rw [if_neg Bool.false_ne_true,Bool.not_eq_true'] at this
  rw [Zbc hx] at hv
  exact W.le_trans this (ZdX W sB v hv)
 have tr:∀ v∈a.toList.drop (ia+k),kle b x v:=λv hv=>by
  obtain ⟨i,hi,ev⟩:=ZfP hv
  have:=k2 (k+i) (by omega) (by omega)
  unfold byd at this
  rw [show ia+(k+i)=ia+k+i by omega,ev] at this
  dsimp only at this
  rw [if_neg Bool.false_ne_true,Bool.not_eq_false'] at this
  exact W.le_of_lt this
 split
 ·have h3:=h.takeA tk
  have hn3:n<=(out++a.extract ia (ia+k)).size:=by rw [Array.size_append];omega
  split
  ·rename_i e2
   exact wpS_pure (R.fin _ _ _ (SameG.refl _) (h3.last T (eq_of_beq e2)))
  ·rename_i e2
   split
   ·rename_i e3
    exact wpS_pure (R.fin _ _ _ (SameG.refl _) (h3.done (.inr (eq_of_beq e3))))
   ·rename_i e3
    have e4:ia+k+1<a.size:=by
     have:ia+k+1≠a.size:=λz=>e2 (beq_iff_eq.mpr z)
     have:ia+k≠a.size:=λz=>e3 (beq_iff_eq.mpr z)
     omega
    exact Zhe W L T R hs1 h3 e4 h2 hn3 λx' hx' v hv=>by
     rw [hx] at hx';cases hx'
     exact tr v hv
 ·have:k=0:=by omega
  subst this
  exact Zhe W L T R hs1 h h1 h2 hn λx' hx' v hv=>by
   rw [hx] at hx';cases hx'
   exact tr v hv
end
theorem Zhf (W:WO b) (L:ZcU M A E s kd b good) (T:Two b good a c) {out:Array Keyed} {ia ib n:Nat} {y:Nat×Nat×Nat} {st:SortSt} (hs:kindOf st=kd) (h:ML b a c out ia ib) (h1:ia+1<a.size) (h2:ib<c.size)
  {Q:MLt->SortSt->Prop} (q1:∀ r y st',SameG st st'->Za6 b (a.toList++c.toList) r.toList->Q (some r,y) st')
  (q2:∀ out' ia' ib' y st',SameG st st'->ML b a c out' ia' ib'->ia'+1<a.size->ib'<c.size->out.size<=out'.size->Q (none,out',ia',ib',y) st') :
  wpS M A E s (forIn [:n] ((none,out,ia,ib,y):MLt) (Ziu a c)) Q st:=by
 refine wpS_forRange (λk r st'=>SameG st st'/\∃ out' ia' ib' y,r=(none,out',ia',ib',y)/\ML b a c out' ia' ib'/\ia'+1<a.size/\ib'<c.size/\out.size<=out'.size) ?_ ?_ ⟨SameG.refl _,_,_,_,_,rfl,h,h1,h2,Nat.le_refl _⟩
 ·rintro k r st1 _ hk ⟨sg,out',ia',ib',y,rfl,h,h1,h2,h3⟩
  have hs1:kindOf st1=kd:=sg.1.trans hs
  have R:∀ st',SameG st1 st'->Zix b a c out.size st' (λr st'=>match r with
   | .done c'=>Q c' st'
   | .yield c'=>SameG st st'/\∃ out' ia' ib' y,c'=(none,out',ia',ib',y)/\ML b a c out' ia' ib'/\ia'+1<a.size/\ib'<c.size/\out.size<=out'.size):=λst' sg'=>
   ⟨λr y st2 g m=>q1 r y st2 ((sg.trans sg').trans g) m,λo i j y st2 g m p1 p2 p3=>q2 o i j y st2 ((sg.trans sg').trans g) m p1 p2 p3,λo i j y st2 g m p1 p2 p3=>⟨(sg.trans sg').trans g,o,i,j,y,rfl,m,p1,p2,p3⟩⟩
  unfold Ziu
  dsimp only
  have mono:∀ mg,wpS M A E s (mlB a c mg y.2.1 y.2.2 out' ia' ib') _ st1:=λmg=>Zkj W L T R hs1 h h1 h2 h3
  split
  ·exact wpS_mono (mono _) λr st' hr=>by cases r <;> exact hr
  ·exact wpS_mono (mono _) λr st' hr=>by cases r <;> exact hr
 ·rintro r st1 ⟨sg,out',ia',ib',y,rfl,h,h1,h2,h3⟩
  exact q2 _ _ _ _ _ sg h h1 h2 h3
theorem Zfa (W:WO b) (L:ZcU M A E s kd b good) (T:Two b good a c) {st:SortSt} (hs:kindOf st=kd) {Q:Array Keyed->SortSt->Prop}
  (q:∀ r st',SameG st st'->Za6 b (a.toList++c.toList) r.toList->Q r st'):wpS M A E s (ZdT a c) Q st:=by
 rw [Ze9]
 refine wpS_bind (wpS_lift (wpAny_rule ⟨rfl,?_⟩))
 obtain ⟨x,hx,gx⟩:=T.ct T.nc
 refine wpS_bind (ZaD hx ?_)
 have h0:ML b a c #[x] 0 1:=by
  have z:ML b a c #[] 0 0:=⟨by simp,by simp,by simp,by simpa using T.sa,by simpa using T.sc⟩
  exact z.pushB hx λy hy=>T.first x hx y (by simpa using hy)
 have hc:=T.nc
 have ha:=T.na
 dsimp only
 split
 ·rename_i e
  exact wpS_pure (q _ _ (SameG.refl _) (h0.done (.inl (eq_of_beq e))))
 ·rename_i e
  have e:1<c.size:=by
   have:1≠c.size:=λz=>e (beq_iff_eq.mpr z)
   omega
  split
  ·rename_i e2
   exact wpS_pure (q _ _ (SameG.refl _) (h0.last T (eq_of_beq e2)))
  ·rename_i e2
   have e2:0+1<a.size:=by
    have:0+1≠a.size:=λz=>e2 (beq_iff_eq.mpr z)
    omega
   refine wpS_bind (wpS_get ?_)
   refine wpS_bind (wpS_forRange (λk r st'=>SameG st st'/\∃ out' ia' ib' mg,r=(none,out',ia',ib',mg)/\ML b a c out' ia' ib'/\ia'+1<a.size/\ib'<c.size/\k<out'.size) ?_ ?_ ⟨SameG.refl _,_,_,_,_,rfl,h0,e2,e,by simp⟩)
   ·rintro k r st1 _ hk ⟨sg,out',ia',ib',mg,rfl,h,h1,h2,h3⟩
    have hs1:kindOf st1=kd:=sg.1.trans hs
    unfold Ziv
    dsimp only
    refine wpS_bind (Zhc W L T hs1 h h1 h2 (λr y st2 g m=>?_) (λo i j ac bc st2 g m p1 p2 p3=>?_))
    ·refine wpS_pure ?_
     dsimp only
     exact wpS_pure (q r st2 (sg.trans g) m)
    ·dsimp only
     refine wpS_bind (wpS_lift (wpAny_rule ⟨rfl,?_⟩))
     refine wpS_bind (Zhf W L T (g.1.trans hs1) m p1 p2 (λr y st3 g3 m3=>?_) (λo3 i3 j3 y3 st3 g3 m3 r1 r2 r3=>?_))
     ·refine wpS_pure ?_
      dsimp only
      exact wpS_pure (q r st3 ((sg.trans g).trans g3) m3)
     ·dsimp only
      refine wpS_bind (ZbW λst4 g4=>?_)
      exact wpS_pure ⟨((sg.trans g).trans g3).trans g4,_,_,_,_,rfl,m3,r1,r2,by omega⟩
   ·rintro r st1 ⟨sg,out',ia',ib',mg,rfl,h,h1,h2,h3⟩
    exfalso
    have:=Mrg.len h
    rw [List.length_append,List.length_drop,List.length_drop,Array.length_toList,Array.length_toList,Array.length_toList] at this
    simp at h3
    omega
end
end L2
namespace L2
open PySem PySem.Spec PyProof.Rows
abbrev MHs:=Option (Array Keyed)×Nat×Nat×Array Keyed×Nat×Nat
abbrev MHt:=Option (Array Keyed)×Nat×Nat×Array Keyed×Nat×Nat×Nat
abbrev MHo:=Option (Array Keyed)×Nat×Nat×Array Keyed×Nat
def Zb4 (a b out:Array Keyed) (na nb:Nat):Array Keyed:=a.extract 0 na++b.extract 0 nb++out.reverse
def ZcI (a b out:Array Keyed) (na nb:Nat):Array Keyed:=b.extract 0 nb++a.extract 0 na++out.reverse
def Ziy (a b:Array Keyed) (mg:Nat):Nat->MHs->StateT SortSt Sem (ForInStep MHs):=λ_ r=>
 let na:=r.2.1;let nb:=r.2.2.1;let out:=r.2.2.2.1;let acount:=r.2.2.2.2.1;let bcount:=r.2.2.2.2.2
 do
 let x <- elem' b (nb-1)
 let y <- elem' a (na-1)
 match <- lt' x y with
 | some aWins=>
  if aWins=true then do
   let na:=na-1
   let z <- elem' a na
   let out:=out.push z
   let acount:=acount+1
   let bcount:=0
   if (na == 0)=true then pure (.done (some (Zb4 a b out na nb),na,nb,out,acount,bcount))
   else if acount>=mg then pure (.done (none,na,nb,out,acount,bcount))
   else pure (.yield (none,na,nb,out,acount,bcount))
  else do
   let nb:=nb-1
   let z <- elem' b nb
   let out:=out.push z
   let bcount:=bcount+1
   let acount:=0
   if (nb == 1)=true then pure (.done (some (ZcI a b out na nb),na,nb,out,acount,bcount))
   else if bcount>=mg then pure (.done (none,na,nb,out,acount,bcount))
   else pure (.yield (none,na,nb,out,acount,bcount))
 | _=>pure (.done (some (Zb4 a b out na nb),na,nb,out,acount,bcount))
def mhD (a b:Array Keyed) (minGallop acount bcount:Nat) (na nb:Nat) (out:Array Keyed):StateT SortSt Sem (ForInStep MHt):=do
 let na:=na-1
 let z <- elem' a na
 let out:=out.push z
 if (na == 0)=true then pure (.done (some (Zb4 a b out na nb),na,nb,out,minGallop,acount,bcount))
 else if (decide (acount<7) && decide (bcount<7))=true then pure (.done (none,na,nb,out,minGallop,acount,bcount))
 else pure (.yield (none,na,nb,out,minGallop,acount,bcount))
def mhC (a b:Array Keyed) (minGallop acount bcount:Nat) (na nb:Nat) (out:Array Keyed):StateT SortSt Sem (ForInStep MHt):=do
 let nb:=nb-1
 let z <- elem' b nb
 let out:=out.push z
 if (nb == 1)=true then pure (.done (some (ZcI a b out na nb),na,nb,out,minGallop,acount,bcount))
 else do
  let y <- elem' a (na-1)
  match <- ZbI true y b 0 nb (nb-1) with
  | some at_=>
   let k:=nb-at_
   let bcount:=k
   if k > 0 then
    let out:=out++(b.extract at_ nb).reverse
    let nb:=at_
    if (nb == 1)=true then pure (.done (some (ZcI a b out na nb),na,nb,out,minGallop,acount,bcount))
    else if (nb == 0)=true then pure (.done (some (Zb4 a b out na nb),na,nb,out,minGallop,acount,bcount))
    else mhD a b minGallop acount bcount na nb out
   else mhD a b minGallop acount bcount na nb out
  | _=>pure (.done (some (Zb4 a b out na nb),na,nb,out,minGallop,acount,bcount))
def mhB (a b:Array Keyed) (minGallop acount bcount:Nat) (na nb:Nat) (out:Array Keyed):StateT SortSt Sem (ForInStep MHt):=do
 Zdc minGallop
 let x <- elem' b (nb-1)
 match <- ZbI false x a 0 na (na-1) with
 | some at_=>
  let k:=na-at_
  let acount:=k
  if k > 0 then
   let out:=out++(a.extract at_ na).reverse
   let na:=at_
   if (na == 0)=true then pure (.done (some (Zb4 a b out na nb),na,nb,out,minGallop,acount,bcount))
   else mhC a b minGallop acount bcount na nb out
  else mhC a b minGallop acount bcount na nb out
 | _=>pure (.done (some (Zb4 a b out na nb),na,nb,out,minGallop,acount,bcount))
def Ziz (a b:Array Keyed):Nat->MHt->StateT SortSt Sem (ForInStep MHt):=λ_ r=>
 let na:=r.2.1;let nb:=r.2.2.1;let out:=r.2.2.2.1;let minGallop:=r.2.2.2.2.1;let acount:=r.2.2.2.2.2.1;let bcount:=r.2.2.2.2.2.2
 if minGallop > 1 then mhB a b (minGallop-1) acount bcount na nb out else mhB a b minGallop acount bcount na nb out
def ZiA (a b:Array Keyed):Nat->MHo->StateT SortSt Sem (ForInStep MHo):=λ_ r=>
 let na:=r.2.1;let nb:=r.2.2.1;let out:=r.2.2.2.1;let minGallop:=r.2.2.2.2
 do
 let r <- forIn [:a.size+b.size] ((none,na,nb,out,0,0):MHs) (Ziy a b minGallop)
 match r.1 with
 | some x=>pure (.done (some x,r.2.1,r.2.2.1,r.2.2.2.1,minGallop))
 | none=>do
  liftM (rule "list.sort.gallop")
  let r <- forIn [:a.size+b.size] ((none,r.2.1,r.2.2.1,r.2.2.2.1,minGallop+1,r.2.2.2.2.1,r.2.2.2.2.2):MHt) (Ziz a b)
  match r.1 with
  | some x=>pure (.done (some x,r.2.1,r.2.2.1,r.2.2.2.1,r.2.2.2.2.1))
  | none=>do
   Zdc (r.2.2.2.2.1+1)
   pure (.yield (none,r.2.1,r.2.2.1,r.2.2.2.1,r.2.2.2.2.1+1))
theorem Zfb (a b:Array Keyed):ZdU a b=(do
  liftM (rule "list.sort.merge-hi")
  let x <- elem' a (a.size-1)
  let out:=#[x]
  if (a.size-1 == 0)=true then pure (Zb4 a b out (a.size-1) b.size)
  else if (b.size == 1)=true then pure (ZcI a b out (a.size-1) b.size)
  else do
   let st <- get
   let r <- forIn [:a.size+b.size] ((none,a.size-1,b.size,out,gallopOf st):MHo) (ZiA a b)
   match r.1 with
   | some r=>pure r
   | none=>liftM (unsupported "internal:list.sort.merge-bound")):=by
 refine Za1 (m:=liftM (rule "list.sort.merge-hi")) λ_=>?_
 refine Za1 (m:=elem' a (a.size-1)) λx=>?_
 refine ZdW (c:=(a.size-1 == 0)=true) rfl ?_
 refine ZdW (c:=(b.size == 1)=true) rfl ?_
 refine Za1 (m:=get) λst=>?_
 refine (congrArg (λm:StateT SortSt Sem MHo=>m >>= _) (Zdd (r:=[:a.size+b.size]) (c:=((none,a.size-1,b.size,#[x],gallopOf st):MHo)) (g:=ZiA a b) λi r=>?_)).trans ?_
 rotate_left
 ·refine Za1 λr=>?_
  obtain ⟨r1,r2⟩:=r
  cases r1 <;> rfl
 unfold ZiA
 refine (congrArg (λm:StateT SortSt Sem MHs=>m >>= _) (Zdd (r:=[:a.size+b.size]) (g:=Ziy a b r.2.2.2.2) λi r=>rfl)).trans ?_
 refine Za1 λq=>?_
 obtain ⟨q1,q2⟩:=q
 cases q1 with
 | some z=>rfl
 | none=>
  refine Za1 (m:=liftM (rule "list.sort.gallop")) λ_=>?_
  refine (congrArg (λm:StateT SortSt Sem MHt=>m >>= _) (Zdd (r:=[:a.size+b.size]) (g:=Ziz a b) λi r=>rfl)).trans ?_
  refine Za1 λq=>?_
  obtain ⟨q1,q2⟩:=q
  cases q1 <;> rfl
end L2
namespace L2
open PySem PySem.Spec PyProof.Rows
section
variable {b:Keyed->Keyed->Bool}
structure MrgH (b:Keyed->Keyed->Bool) (all out ra rb:List Keyed):Prop where
 perm:(ra++rb++out).Perm all
 so:out.Pairwise (kle b)
 le:∀ x∈ra++rb,∀ y∈out,kle b x y
 sa:ra.Pairwise (kle b)
 sb:rb.Pairwise (kle b)
theorem MrgH.len {all out ra rb:List Keyed} (h:MrgH b all out ra rb):ra.length+rb.length+out.length=all.length:=by
 have:=h.perm.length_eq
 rw [List.length_append,List.length_append] at this
 exact this
theorem MrgH.moveB {all out u ra rb:List Keyed} (h:MrgH b all out ra (rb++u)) (hu:∀ x∈u,∀ y∈ra,kle b y x):MrgH b all (u++out) ra rb:=by
 have sb:=List.pairwise_append.mp h.sb
 refine ⟨?_,List.pairwise_append.mpr ⟨sb.2.1,h.so,λx hx y hy=>h.le x (by simp [hx]) y hy⟩,λx hx y hy=>?_,h.sa,sb.1⟩
 ·have:=h.perm
  simp only [List.append_assoc] at this ⊢
  exact this
 ·rcases List.mem_append.mp hy with hy | hy
  ·rcases List.mem_append.mp hx with hx | hx
   ·exact hu y hy x hx
   ·exact sb.2.2 x hx y hy
  ·refine h.le x ?_ y hy
   rcases List.mem_append.mp hx with hx | hx <;> simp [hx]
theorem MrgH.moveA {all out u ra rb:List Keyed} (h:MrgH b all out (ra++u) rb) (hu:∀ x∈u,∀ y∈rb,kle b y x):MrgH b all (u++out) ra rb:=by
 have sa:=List.pairwise_append.mp h.sa
 refine ⟨?_,List.pairwise_append.mpr ⟨sa.2.1,h.so,λx hx y hy=>h.le x (by simp [hx]) y hy⟩,λx hx y hy=>?_,sa.1,h.sb⟩
 ·refine List.Perm.trans ?_ h.perm
  simp only [List.append_assoc]
  refine List.Perm.append_left _ ?_
  rw [<-List.append_assoc,<-List.append_assoc]
  exact List.Perm.append_right _ List.perm_append_comm
 ·rcases List.mem_append.mp hy with hy | hy
  ·rcases List.mem_append.mp hx with hx | hx
   ·exact sa.2.2 x hx y hy
   ·exact hu y hy x hx
  ·refine h.le x ?_ y hy
   rcases List.mem_append.mp hx with hx | hx <;> simp [hx]
theorem MrgH.endA {all out ra rb:List Keyed} (h:MrgH b all out ra rb) (hz:∀ x∈ra,∀ y∈rb,kle b x y):Za6 b all (ra++rb++out):=
 ⟨h.perm,List.pairwise_append.mpr ⟨List.pairwise_append.mpr ⟨h.sa,h.sb,hz⟩,h.so,h.le⟩⟩
theorem MrgH.endB {all out ra rb:List Keyed} (h:MrgH b all out ra rb) (hz:∀ x∈rb,∀ y∈ra,kle b x y):Za6 b all (rb++ra++out):=by
 refine ⟨List.Perm.trans (List.Perm.append_right _ List.perm_append_comm) h.perm,List.pairwise_append.mpr ⟨List.pairwise_append.mpr ⟨h.sb,h.sa,hz⟩,h.so,λx hx y hy=>h.le x ?_ y hy⟩⟩
 rcases List.mem_append.mp hx with hx | hx <;> simp [hx]
end
theorem ZfQ (a:Array Keyed) (k:Nat):(a.extract 0 k).toList=a.toList.take k:=by
 rw [Array.toList_extract,List.extract_eq_take_drop,List.drop_zero,Nat.sub_zero]
theorem Zhg (a:Array Keyed) {i j:Nat} (h:i<=j):a.toList.take j=a.toList.take i++(a.extract i j).toList:=by
 rw [Array.toList_extract,List.extract_eq_take_drop]
 have:=List.take_append_drop i (a.toList.take j)
 rw [List.take_take,Nat.min_eq_left h,List.drop_take] at this
 exact this.symm
theorem Zhh {a:Array Keyed} {i:Nat} {x:Keyed} (h:a[i]?=some x):a.toList.take (i+1)=a.toList.take i++[x]:=by
 rw [<-Array.getElem?_toList] at h
 rw [List.take_add_one,h]
 rfl
theorem taken {arr:Array Keyed} {k:Nat} {x:Keyed} (h:x∈arr.toList.take k):∃ i,i<k/\arr[i]?=some x:=by
 obtain ⟨i,hi⟩:=List.mem_iff_getElem?.mp h
 rw [List.getElem?_take] at hi
 split at hi
 ·rw [Array.getElem?_toList] at hi
  exact ⟨i,by assumption,hi⟩
 ·cases hi
theorem Zfc {arr:Array Keyed} {i j:Nat} {x:Keyed} (h:x∈(arr.extract i j).toList):∃ k,i<=k/\k<j/\arr[k]?=some x:=by
 rw [Array.toList_extract,List.extract_eq_take_drop] at h
 obtain ⟨k,hk⟩:=List.mem_iff_getElem?.mp h
 rw [List.getElem?_take] at hk
 split at hk
 ·rw [List.getElem?_drop,Array.getElem?_toList] at hk
  exact ⟨i+k,by omega,by omega,hk⟩
 ·cases hk
section
variable {M:Model} {A:Around} {E:Value->Shared->Prop} {s:Shared} {kd:SortKind} {b:Keyed->Keyed->Bool} {good:Keyed->Prop} {a c:Array Keyed}
def MH (b:Keyed->Keyed->Bool) (a c:Array Keyed) (na nb:Nat) (out:Array Keyed):Prop:=MrgH b (a.toList++c.toList) out.toList.reverse (a.toList.take na) (c.toList.take nb)
theorem Zhi (W:WO b) {arr:Array Keyed} {hi:Nat} (h:(arr.toList.take hi).Pairwise (kle b)):Rng b arr 0 (0+hi):=λi j x y h1 h2 h3 e1 e2=>by
 refine Ziw (i:=i) (j:=j) W h h2 ?_ ?_
 ·rw [List.getElem?_take,if_pos (by omega),Array.getElem?_toList];exact e1
 ·rw [List.getElem?_take,if_pos (by omega),Array.getElem?_toList];exact e2
theorem MH.done {out:Array Keyed} {na nb:Nat} (h:MH b a c na nb out) (e:na=0\/nb=0):Za6 b (a.toList++c.toList) (Zb4 a c out na nb).toList:=by
 unfold Zb4
 rw [Array.toList_append,Array.toList_append,ZfQ,ZfQ,Array.toList_reverse]
 refine MrgH.endA h λx hx y hy=>?_
 rcases e with e | e
 ·rw [e] at hx;simp at hx
 ·rw [e] at hy;simp at hy
theorem MH.first {out:Array Keyed} {na nb:Nat} (T:Two b good a c) (h:MH b a c na nb out) (e:nb=1):Za6 b (a.toList++c.toList) (ZcI a c out na nb).toList:=by
 unfold ZcI
 rw [Array.toList_append,Array.toList_append,ZfQ,ZfQ,Array.toList_reverse]
 refine MrgH.endB h λx hx y hy=>?_
 obtain ⟨i,hi,ex⟩:=taken hx
 have:i=0:=by omega
 subst this
 exact T.first x ex y (List.mem_of_mem_take hy)
theorem MH.pushB {out:Array Keyed} {na nb:Nat} {x:Keyed} (h:MH b a c na (nb+1) out) (hx:c[nb]?=some x) (hl:∀ y∈a.toList.take na,kle b y x):MH b a c na nb (out.push x):=by
 unfold MH at h ⊢
 rw [Array.toList_push,List.reverse_append]
 rw [Zhh hx] at h
 exact MrgH.moveB (u:=[x]) h λz hz y hy=>by
  have:z=x:=by simpa using hz
  subst this
  exact hl y hy
theorem MH.pushA {out:Array Keyed} {na nb:Nat} {x:Keyed} (h:MH b a c (na+1) nb out) (hx:a[na]?=some x) (hl:∀ y∈c.toList.take nb,kle b y x):MH b a c na nb (out.push x):=by
 unfold MH at h ⊢
 rw [Array.toList_push,List.reverse_append]
 rw [Zhh hx] at h
 exact MrgH.moveA (u:=[x]) h λz hz y hy=>by
  have:z=x:=by simpa using hz
  subst this
  exact hl y hy
theorem MH.takeA {out:Array Keyed} {na nb k:Nat} (h:MH b a c na nb out) (hk:k<=na) (hl:∀ x∈(a.extract k na).toList,∀ y∈c.toList.take nb,kle b y x):MH b a c k nb (out++(a.extract k na).reverse):=by
 unfold MH at h ⊢
 rw [Array.toList_append,Array.toList_reverse,List.reverse_append,List.reverse_reverse]
 rw [Zhg a hk] at h
 exact MrgH.moveA h hl
theorem MH.takeB {out:Array Keyed} {na nb k:Nat} (h:MH b a c na nb out) (hk:k<=nb) (hl:∀ x∈(c.extract k nb).toList,∀ y∈a.toList.take na,kle b y x):MH b a c na k (out++(c.extract k nb).reverse):=by
 unfold MH at h ⊢
 rw [Array.toList_append,Array.toList_reverse,List.reverse_append,List.reverse_reverse]
 rw [Zhg c hk] at h
 exact MrgH.moveB h hl
theorem ZdY (W:WO b) {arr:Array Keyed} {k:Nat} {x:Keyed} (h:(arr.toList.take (k+1)).Pairwise (kle b)) (hx:arr[k]?=some x):∀ y∈arr.toList.take (k+1),kle b y x:=λy hy=>by
 obtain ⟨i,hi,ey⟩:=taken hy
 exact Zhi W h i k y x (Nat.zero_le _) (by omega) (by omega) ey hx
theorem Zhj (W:WO b) (L:ZcU M A E s kd b good) (T:Two b good a c) {out:Array Keyed} {na nb mg:Nat} {st:SortSt} (hs:kindOf st=kd) (h:MH b a c na nb out) (h1:0<na/\na<=a.size) (h2:1<nb/\nb<=c.size)
  {Q:MHs->SortSt->Prop} (q1:∀ r y st',SameG st st'->Za6 b (a.toList++c.toList) r.toList->Q (some r,y) st')
  (q2:∀ na' nb' out' ac bc st',SameG st st'->MH b a c na' nb' out'->(0<na'/\na'<=a.size)->(1<nb'/\nb'<=c.size)->out.size<out'.size->Q (none,na',nb',out',ac,bc) st') :
  wpS M A E s (forIn [:a.size+c.size] ((none,na,nb,out,0,0):MHs) (Ziy a c mg)) Q st:=by
 refine wpS_forRange (λk r st'=>SameG st st'/\∃ na' nb' out' ac bc,r=(none,na',nb',out',ac,bc)/\MH b a c na' nb' out'/\(0<na'/\na'<=a.size)/\(1<nb'/\nb'<=c.size)/\out.size+k<=out'.size) ?_ ?_ ⟨SameG.refl _,_,_,_,_,_,rfl,h,h1,h2,Nat.le_refl _⟩
 ·rintro k r st1 _ hk ⟨sg,na',nb',out',ac,bc,rfl,h,h1,h2,h3⟩
  have hs1:kindOf st1=kd:=sg.1.trans hs
  obtain ⟨na',rfl⟩:∃ n,na'=n+1:=⟨na' - 1,by omega⟩
  obtain ⟨nb',rfl⟩:∃ n,nb'=n+1:=⟨nb' - 1,by omega⟩
  unfold Ziy
  dsimp only [Nat.add_sub_cancel]
  obtain ⟨x,hx,gx⟩:=T.ct (i:=nb') (by omega)
  obtain ⟨y,hy,gy⟩:=T.at (i:=na') (by omega)
  refine wpS_bind (ZaD hx (wpS_bind (ZaD hy (wpS_bind (L x y st1 _ gx gy hs1 ?_)))))
  dsimp only
  cases hb:b x y with
  | true=>
   rw [if_pos rfl]
   refine wpS_bind (ZaD hy ?_)
   have h':=h.pushA hy λz hz=>W.le_trans (ZdY W h.sb hx z hz) (W.le_of_lt hb)
   split
   ·rename_i e
    exact wpS_pure (q1 _ _ _ sg (h'.done (.inl (eq_of_beq e))))
   ·rename_i e
    have e:0<na':=by
     have:na'≠0:=λz=>e (beq_iff_eq.mpr z)
     omega
    split
    ·exact wpS_pure (q2 _ _ _ _ _ _ sg h' ⟨e,by omega⟩ h2 (by rw [Array.size_push];omega))
    ·exact wpS_pure ⟨sg,_,_,_,_,_,rfl,h',⟨e,by omega⟩,h2,by rw [Array.size_push];omega⟩
  | false=>
   rw [if_neg Bool.false_ne_true]
   refine wpS_bind (ZaD hx ?_)
   have h':=h.pushB hx λz hz=>W.le_trans (ZdY W h.sa hy z hz) hb
   split
   ·rename_i e
    exact wpS_pure (q1 _ _ _ sg (h'.first T (eq_of_beq e)))
   ·rename_i e
    have e:1<nb':=by
     have:nb'≠1:=λz=>e (beq_iff_eq.mpr z)
     omega
    split
    ·exact wpS_pure (q2 _ _ _ _ _ _ sg h' h1 ⟨e,by omega⟩ (by rw [Array.size_push];omega))
    ·exact wpS_pure ⟨sg,_,_,_,_,_,rfl,h',h1,⟨e,by omega⟩,by rw [Array.size_push];omega⟩
 ·rintro r st1 ⟨sg,na',nb',out',ac,bc,rfl,h,h1,h2,h3⟩
  exact q2 _ _ _ _ _ _ sg h h1 h2 (by have:=T.na;simp at h3;omega)
section
variable {out:Array Keyed} {na nb:Nat} {st:SortSt} {Q:ForInStep MHt->SortSt->Prop}
structure ZiB (b:Keyed->Keyed->Bool) (a c:Array Keyed) (n:Nat) (st:SortSt) (Q:ForInStep MHt->SortSt->Prop):Prop where
 fin:∀ r y st',SameG st st'->Za6 b (a.toList++c.toList) r.toList->Q (.done (some r,y)) st'
 brk:∀ na' nb' out' y st',SameG st st'->MH b a c na' nb' out'->(0<na'/\na'<=a.size)->(1<nb'/\nb'<=c.size)->n<=out'.size->Q (.done (none,na',nb',out',y)) st'
 go:∀ na' nb' out' y st',SameG st st'->MH b a c na' nb' out'->(0<na'/\na'<=a.size)->(1<nb'/\nb'<=c.size)->n<=out'.size->Q (.yield (none,na',nb',out',y)) st'
theorem Zhk (T:Two b good a c) {mg ac bc n:Nat} (R:ZiB b a c n st Q) (h:MH b a c (na+1) nb out) (h1:na+1<=a.size) (h2:1<nb/\nb<=c.size) (hn:n<=out.size) (hl:∀ x,a[na]?=some x->∀ y∈c.toList.take nb,kle b y x) :
  wpS M A E s (mhD a c mg ac bc (na+1) nb out) Q st:=by
 unfold mhD
 dsimp only [Nat.add_sub_cancel]
 obtain ⟨x,hx,gx⟩:=T.at (i:=na) (by omega)
 refine wpS_bind (ZaD hx ?_)
 have h':=h.pushA hx (hl x hx)
 have hn':n<=(out.push x).size:=by rw [Array.size_push];omega
 split
 ·rename_i e
  exact wpS_pure (R.fin _ _ _ (SameG.refl _) (h'.done (.inl (eq_of_beq e))))
 ·rename_i e
  have e:0<na:=by
   have:na≠0:=λz=>e (beq_iff_eq.mpr z)
   omega
  split
  ·exact wpS_pure (R.brk _ _ _ _ _ (SameG.refl _) h' ⟨e,by omega⟩ h2 hn')
  ·exact wpS_pure (R.go _ _ _ _ _ (SameG.refl _) h' ⟨e,by omega⟩ h2 hn')
theorem Zhl (W:WO b) (L:ZcU M A E s kd b good) (T:Two b good a c) {mg ac bc n:Nat} (R:ZiB b a c n st Q) (hs:kindOf st=kd) (h:MH b a c (na+1) (nb+1) out) (h1:na+1<=a.size) (h2:0<nb/\nb+1<=c.size) (hn:n<=out.size)
  (hl:∀ x,c[nb]?=some x->∀ y∈a.toList.take (na+1),kle b y x):wpS M A E s (mhC a c mg ac bc (na+1) (nb+1) out) Q st:=by
 unfold mhC
 dsimp only [Nat.add_sub_cancel]
 obtain ⟨x,hx,gx⟩:=T.ct (i:=nb) (by omega)
 obtain ⟨y,hy,gy⟩:=T.at (i:=na) (by omega)
 refine wpS_bind (ZaD hx ?_)
 have h':=h.pushB hx (hl x hx)
 have hn':n<=(out.push x).size:=by rw [Array.size_push];omega
 generalize out.push x=out1 at h' hn'
 split
 ·rename_i e
  exact wpS_pure (R.fin _ _ _ (SameG.refl _) (h'.first T (eq_of_beq e)))
 ·rename_i e
  have e:1<nb:=by
   have:nb≠1:=λz=>e (beq_iff_eq.mpr z)
   omega
  refine wpS_bind (ZaD hy ?_)
  have G:Gal b good true y c 0 nb:=ZdB W gy (λi hi=>by rw [Nat.zero_add];exact T.ct (by omega)) (Zhi W h'.sb)
  refine wpS_bind (Za8 L G hs (by omega) λk hk k1 k2=>?_)
  dsimp only
  have tk:∀ z∈(c.extract k nb).toList,∀ v∈a.toList.take (na+1),kle b v z:=λz hz v hv=>by
   obtain ⟨i,hi,hj,ez⟩:=Zfc hz
   have:=k2 i hi hj
   unfold byd at this
   rw [Nat.zero_add,ez] at this
   dsimp only at this
   rw [if_pos rfl] at this
   exact W.le_trans (ZdY W h'.sa hy v hv) this
  have tr:∀ v∈c.toList.take k,kle b v y:=λv hv=>by
   obtain ⟨i,hi,ev⟩:=taken hv
   have:=k1 i hi
   unfold byd at this
   rw [Nat.zero_add,ev] at this
   dsimp only at this
   rw [if_pos rfl] at this
   exact W.le_of_lt this
  split
  ·have h3:=h'.takeB hk tk
   have hn3:n<=(out1++(c.extract k nb).reverse).size:=by rw [Array.size_append];omega
   split
   ·rename_i e2
    exact wpS_pure (R.fin _ _ _ (SameG.refl _) (h3.first T (eq_of_beq e2)))
   ·rename_i e2
    split
    ·rename_i e3
     exact wpS_pure (R.fin _ _ _ (SameG.refl _) (h3.done (.inr (eq_of_beq e3))))
    ·rename_i e3
     have e4:1<k:=by
      have:k≠1:=λz=>e2 (beq_iff_eq.mpr z)
      have:k≠0:=λz=>e3 (beq_iff_eq.mpr z)
      omega
     exact Zhk T R h3 h1 ⟨e4,by omega⟩ hn3 λx' hx' v hv=>by
      rw [hy] at hx';cases hx'
      exact tr v hv
  ·have:k=nb:=by omega
   subst this
   exact Zhk T R h' h1 ⟨e,by omega⟩ hn' λx' hx' v hv=>by
    rw [hy] at hx';cases hx'
    exact tr v hv
theorem Zkk (W:WO b) (L:ZcU M A E s kd b good) (T:Two b good a c) {mg ac bc n:Nat} (R:∀ st',SameG st st'->ZiB b a c n st' Q) (hs:kindOf st=kd) (h:MH b a c na (nb+1) out) (h1:0<na/\na<=a.size) (h2:0<nb/\nb+1<=c.size) (hn:n<=out.size) :
  wpS M A E s (mhB a c mg ac bc na (nb+1) out) Q st:=by
 unfold mhB
 refine wpS_bind (ZbW λst1 sg=>?_)
 have R:=R st1 sg
 have hs1:kindOf st1=kd:=sg.1.trans hs
 dsimp only [Nat.add_sub_cancel]
 obtain ⟨x,hx,gx⟩:=T.ct (i:=nb) (by omega)
 refine wpS_bind (ZaD hx ?_)
 have G:Gal b good false x a 0 na:=ZdB W gx (λi hi=>by rw [Nat.zero_add];exact T.at (by omega)) (Zhi W h.sa)
 refine wpS_bind (Za8 L G hs1 (by omega) λk hk k1 k2=>?_)
 dsimp only
 have tk:∀ z∈(a.extract k na).toList,∀ v∈c.toList.take (nb+1),kle b v z:=λz hz v hv=>by
  obtain ⟨i,hi,hj,ez⟩:=Zfc hz
  have:=k2 i hi hj
  unfold byd at this
  rw [Nat.zero_add,ez] at this
  dsimp only at this
  rw [if_neg Bool.false_ne_true,Bool.not_eq_false'] at this
  exact W.le_trans (ZdY W h.sb hx v hv) (W.le_of_lt this)
 have tr:∀ v∈a.toList.take k,kle b v x:=λv hv=>by
  obtain ⟨i,hi,ev⟩:=taken hv
  have:=k1 i hi
  unfold byd at this
  rw [Nat.zero_add,ev] at this
  dsimp only at this
  rw [if_neg Bool.false_ne_true,Bool.not_eq_true'] at this
  exact this
 split
 ·have h3:=h.takeA hk tk
  have hn3:n<=(out++(a.extract k na).reverse).size:=by rw [Array.size_append];omega
  split
  ·rename_i e2
   exact wpS_pure (R.fin _ _ _ (SameG.refl _) (h3.done (.inl (eq_of_beq e2))))
  ·rename_i e2
   have:k≠0:=λz=>e2 (beq_iff_eq.mpr z)
   obtain ⟨k,rfl⟩:∃ n,k=n+1:=⟨k-1,by omega⟩
   exact Zhl W L T R hs1 h3 (by omega) h2 hn3 λx' hx' v hv=>by
    rw [hx] at hx';cases hx'
    exact tr v hv
 ·have:k=na:=by omega
  subst this
  obtain ⟨k,rfl⟩:∃ n,k=n+1:=⟨k-1,by omega⟩
  exact Zhl W L T R hs1 h (by omega) h2 hn λx' hx' v hv=>by
   rw [hx] at hx';cases hx'
   exact tr v hv
end
theorem Zhm (W:WO b) (L:ZcU M A E s kd b good) (T:Two b good a c) {out:Array Keyed} {na nb n:Nat} {y:Nat×Nat×Nat} {st:SortSt} (hs:kindOf st=kd) (h:MH b a c na nb out) (h1:0<na/\na<=a.size) (h2:1<nb/\nb<=c.size)
  {Q:MHt->SortSt->Prop} (q1:∀ r y st',SameG st st'->Za6 b (a.toList++c.toList) r.toList->Q (some r,y) st')
  (q2:∀ na' nb' out' y st',SameG st st'->MH b a c na' nb' out'->(0<na'/\na'<=a.size)->(1<nb'/\nb'<=c.size)->out.size<=out'.size->Q (none,na',nb',out',y) st') :
  wpS M A E s (forIn [:n] ((none,na,nb,out,y):MHt) (Ziz a c)) Q st:=by
 refine wpS_forRange (λk r st'=>SameG st st'/\∃ na' nb' out' y,r=(none,na',nb',out',y)/\MH b a c na' nb' out'/\(0<na'/\na'<=a.size)/\(1<nb'/\nb'<=c.size)/\out.size<=out'.size) ?_ ?_ ⟨SameG.refl _,_,_,_,_,rfl,h,h1,h2,Nat.le_refl _⟩
 ·rintro k r st1 _ hk ⟨sg,na',nb',out',y,rfl,h,h1,h2,h3⟩
  have hs1:kindOf st1=kd:=sg.1.trans hs
  have R:∀ st',SameG st1 st'->ZiB b a c out.size st' (λr st'=>match r with
   | .done c'=>Q c' st'
   | .yield c'=>SameG st st'/\∃ na' nb' out' y,c'=(none,na',nb',out',y)/\MH b a c na' nb' out'/\(0<na'/\na'<=a.size)/\(1<nb'/\nb'<=c.size)/\out.size<=out'.size):=λst' sg'=>
   ⟨λr y st2 g m=>q1 r y st2 ((sg.trans sg').trans g) m,λo i j y st2 g m p1 p2 p3=>q2 o i j y st2 ((sg.trans sg').trans g) m p1 p2 p3,λo i j y st2 g m p1 p2 p3=>⟨(sg.trans sg').trans g,o,i,j,y,rfl,m,p1,p2,p3⟩⟩
  unfold Ziz
  dsimp only
  obtain ⟨nb',rfl⟩:∃ n,nb'=n+1:=⟨nb' - 1,by omega⟩
  have mono:∀ mg,wpS M A E s (mhB a c mg y.2.1 y.2.2 na' (nb'+1) out') _ st1:=λmg=>Zkk W L T R hs1 h h1 ⟨by omega,h2.2⟩ h3
  split
  ·exact wpS_mono (mono _) λr st' hr=>by cases r <;> exact hr
  ·exact wpS_mono (mono _) λr st' hr=>by cases r <;> exact hr
 ·rintro r st1 ⟨sg,na',nb',out',y,rfl,h,h1,h2,h3⟩
  exact q2 _ _ _ _ _ sg h h1 h2 h3
theorem Zfd (W:WO b) (L:ZcU M A E s kd b good) (T:Two b good a c) {st:SortSt} (hs:kindOf st=kd) {Q:Array Keyed->SortSt->Prop}
  (q:∀ r st',SameG st st'->Za6 b (a.toList++c.toList) r.toList->Q r st'):wpS M A E s (ZdU a c) Q st:=by
 rw [Zfb]
 refine wpS_bind (wpS_lift (wpAny_rule ⟨rfl,?_⟩))
 have hc:=T.nc
 have ha:=T.na
 obtain ⟨x,hx,gx⟩:=T.at (i:=a.size-1) (by omega)
 refine wpS_bind (ZaD hx ?_)
 have h0:MH b a c (a.size-1) c.size #[x]:=by
  have z:MH b a c (a.size-1+1) c.size #[]:=by
   unfold MH
   rw [Nat.sub_add_cancel (by omega),List.take_of_length_le (by simp),List.take_of_length_le (by simp)]
   exact ⟨by simp,by simp,by simp,T.sa,T.sc⟩
  exact z.pushA hx λy hy=>T.last x hx y (List.mem_of_mem_take hy)
 dsimp only
 split
 ·rename_i e
  exact wpS_pure (q _ _ (SameG.refl _) (h0.done (.inl (eq_of_beq e))))
 ·rename_i e
  have e:0<a.size-1:=by
   have:a.size-1≠0:=λz=>e (beq_iff_eq.mpr z)
   omega
  split
  ·rename_i e2
   exact wpS_pure (q _ _ (SameG.refl _) (h0.first T (eq_of_beq e2)))
  ·rename_i e2
   have e2:1<c.size:=by
    have:c.size≠1:=λz=>e2 (beq_iff_eq.mpr z)
    omega
   refine wpS_bind (wpS_get ?_)
   refine wpS_bind (wpS_forRange (λk r st'=>SameG st st'/\∃ na' nb' out' mg,r=(none,na',nb',out',mg)/\MH b a c na' nb' out'/\(0<na'/\na'<=a.size)/\(1<nb'/\nb'<=c.size)/\k<out'.size) ?_ ?_ ⟨SameG.refl _,_,_,_,_,rfl,h0,⟨e,by omega⟩,⟨e2,Nat.le_refl _⟩,by simp⟩)
   ·rintro k r st1 _ hk ⟨sg,na',nb',out',mg,rfl,h,h1,h2,h3⟩
    have hs1:kindOf st1=kd:=sg.1.trans hs
    unfold ZiA
    dsimp only
    refine wpS_bind (Zhj W L T hs1 h h1 h2 (λr y st2 g m=>?_) (λo i j ac bc st2 g m p1 p2 p3=>?_))
    ·refine wpS_pure ?_
     dsimp only
     exact wpS_pure (q r st2 (sg.trans g) m)
    ·dsimp only
     refine wpS_bind (wpS_lift (wpAny_rule ⟨rfl,?_⟩))
     refine wpS_bind (Zhm W L T (g.1.trans hs1) m p1 p2 (λr y st3 g3 m3=>?_) (λo3 i3 j3 y3 st3 g3 m3 r1 r2 r3=>?_))
     ·refine wpS_pure ?_
      dsimp only
      exact wpS_pure (q r st3 ((sg.trans g).trans g3) m3)
     ·dsimp only
      refine wpS_bind (ZbW λst4 g4=>?_)
      exact wpS_pure ⟨((sg.trans g).trans g3).trans g4,_,_,_,_,rfl,m3,r1,r2,by omega⟩
   ·rintro r st1 ⟨sg,na',nb',out',mg,rfl,h,h1,h2,h3⟩
    exfalso
    have:=MrgH.len h
    rw [List.length_append,List.length_take,List.length_take,List.length_reverse,Array.length_toList,Array.length_toList,Array.length_toList] at this
    simp at h3
    omega
end
end L2
namespace L2
open PySem PySem.Spec PyProof.Rows
abbrev Asc:=Option (Option Nat)×Nat
abbrev Dsc:=Option (Option Nat)×Nat×Nat
def Zkl (lo:Nat):Nat->Asc->StateT SortSt Sem (ForInStep Asc):=λ_ r=>do
 match <- ltAt' (lo+r.2) (lo+r.2-1) with
 | some smaller=>if smaller=true then pure (.done (none,r.2)) else pure (.yield (none,r.2+1))
 | _=>pure (.done (some none,r.2))
def ZmT (lo:Nat):Nat->Dsc->StateT SortSt Sem (ForInStep Dsc):=λ_ r=>do
 match <- ltAt' (lo+r.2.1) (lo+r.2.1-1) with
 | some smaller=>
  if smaller=true then
   if r.2.2 > 0 then do
    reverseSlice' (lo+r.2.1-(r.2.2+1)) (lo+r.2.1)
    pure (.yield (none,r.2.1+1,0))
   else pure (.yield (none,r.2.1+1,0))
  else do
   match <- ltAt' (lo+r.2.1-1) (lo+r.2.1) with
   | some larger=>if larger=true then pure (.done (none,r.2.1,r.2.2)) else pure (.yield (none,r.2.1+1,r.2.2+1))
   | _=>pure (.done (some none,r.2.1,r.2.2))
 | _=>pure (.done (some none,r.2.1,r.2.2))
def ZeB (lo n nrem:Nat):StateT SortSt Sem (Option Nat):=do
 reverseSlice' lo (lo+n)
 let r <- forIn [n:nrem] ((none,n):Asc) (Zkl lo)
 match r.1 with
 | some x=>pure x
 | none=>pure (some r.2)
def Zgj (lo n nrem:Nat):StateT SortSt Sem (Option Nat):=do
 liftM (rule "list.sort.descending-run")
 let r <- forIn [n+1:nrem] ((none,n+1,0):Dsc) (ZmT lo)
 match r.1 with
 | some x=>pure x
 | none=>(if r.2.2 > 0 then (do
   reverseSlice' (lo+r.2.1-(r.2.2+1)) (lo+r.2.1)
   ZeB lo r.2.1 nrem) else ZeB lo r.2.1 nrem)
theorem Zfe (lo nrem:Nat):countRun' lo nrem=(do
  let r <- forIn [1:nrem] ((none,1):Asc) (Zkl lo)
  match r.1 with
  | some x=>pure x
  | none=>(if (r.2 == nrem)=true then pure (some r.2) else (if r.2 > 1 then (do
    match <- ltAt' lo (lo+r.2-1) with
    | some rose=>(if rose=true then pure (some r.2) else (do
      reverseSlice' lo (lo+r.2)
      Zgj lo r.2 nrem))
    | _=>pure none)
   else Zgj lo r.2 nrem))):=by
 rw [countRun'_eq]
 refine (congrArg (λm:StateT SortSt Sem Asc=>m >>= _) (Zdd (r:=[1:nrem]) (c:=((none,1):Asc)) (g:=Zkl lo) λi r=>rfl)).trans ?_
 refine Za1 λr=>?_
 obtain ⟨r1,r2⟩:=r
 cases r1 with
 | some z=>rfl
 | none=>
  refine ZdW (c:=(r2 == nrem)=true) rfl ?_
  refine ZdW (c:=r2 > 1) ?_ ?_
  ·refine Za1 λz=>?_
   cases z with
   | none=>rfl
   | some z=>
    refine ZdW (c:=z=true) rfl ?_
    refine Za1 λ_=>?_
    unfold Zgj
    refine Za1 λ_=>?_
    refine (congrArg (λm:StateT SortSt Sem Dsc=>m >>= _) (Zdd (r:=[r2+1:nrem]) (c:=((none,r2+1,0):Dsc)) (g:=ZmT lo) λi r=>rfl)).trans ?_
    refine Za1 λr=>?_
    obtain ⟨r1,r2,r3⟩:=r
    cases r1 with
    | some z=>rfl
    | none=>
     refine ZdW (c:=r3 > 0) (Za1 λ_=>?_) ?_
     all_goals
      unfold ZeB
      refine Za1 λ_=>?_
      refine (congrArg (λm:StateT SortSt Sem Asc=>m >>= _) (Zdd (r:=[r2:nrem]) (c:=((none,r2):Asc)) (g:=Zkl lo) λi r=>rfl)).trans ?_
      refine Za1 λr=>?_
      obtain ⟨r1,r2⟩:=r
      cases r1 <;> rfl
  ·unfold Zgj
   refine Za1 λ_=>?_
   refine (congrArg (λm:StateT SortSt Sem Dsc=>m >>= _) (Zdd (r:=[r2+1:nrem]) (c:=((none,r2+1,0):Dsc)) (g:=ZmT lo) λi r=>rfl)).trans ?_
   refine Za1 λr=>?_
   obtain ⟨r1,r2,r3⟩:=r
   cases r1 with
   | some z=>rfl
   | none=>
    refine ZdW (c:=r3 > 0) (Za1 λ_=>?_) ?_
    all_goals
     unfold ZeB
     refine Za1 λ_=>?_
     refine (congrArg (λm:StateT SortSt Sem Asc=>m >>= _) (Zdd (r:=[r2:nrem]) (c:=((none,r2):Asc)) (g:=Zkl lo) λi r=>rfl)).trans ?_
     refine Za1 λr=>?_
     obtain ⟨r1,r2⟩:=r
     cases r1 <;> rfl
end L2
namespace L2
open PySem PySem.Spec PyProof.Rows
structure Ah (lo:Nat) (st st':SortSt):Prop where
 kd:kindOf st'=kindOf st
 pe:pendingOf st'=pendingOf st
 fa:failedOf st'=failedOf st
 pm:(arrOf st').Perm (arrOf st)
 lw:∀ i,i<lo->(arrOf st')[i]?=(arrOf st)[i]?
theorem Ah.refl (lo:Nat) (st:SortSt):Ah lo st st:=⟨rfl,rfl,rfl,.refl _,λ_ _=>rfl⟩
theorem Ah.trans {lo:Nat} {st st' st'':SortSt} (h:Ah lo st st') (k:Ah lo st' st''):Ah lo st st'':=
 ⟨k.kd.trans h.kd,k.pe.trans h.pe,k.fa.trans h.fa,k.pm.trans h.pm,λi hi=>(k.lw i hi).trans (h.lw i hi)⟩
theorem Ah.size {lo:Nat} {st st':SortSt} (h:Ah lo st st'):(arrOf st').size=(arrOf st).size:=h.pm.size_eq
def AllG (good:Keyed->Prop) (arr:Array Keyed):Prop:=∀ x∈arr.toList,good x
theorem AllG.perm {good:Keyed->Prop} {a c:Array Keyed} (h:AllG good a) (p:c.Perm a):AllG good c:=λx hx=>h x (p.toList.mem_iff.mp hx)
theorem AllG.at {good:Keyed->Prop} {a:Array Keyed} (h:AllG good a) {i:Nat} (hi:i<a.size):∃ x,a[i]?=some x/\good x:=⟨a[i],by simp [hi],h _ (by simp)⟩
def Zh1 (b:Keyed->Keyed->Bool) (arr:Array Keyed) (lo hi:Nat):Prop:=∀ i j x y,lo<=i->i<=j->j<hi->arr[i]?=some x->arr[j]?=some y->kle b y x
section
variable {M:Model} {A:Around} {E:Value->Shared->Prop} {s:Shared} {kd:SortKind} {b:Keyed->Keyed->Bool} {good:Keyed->Prop}
theorem Zcp {st:SortSt} {i j:Nat} {Q:Option Bool->SortSt->Prop} (L:ZcU M A E s kd b good) (hs:kindOf st=kd) (G:AllG good (arrOf st)) (hi:i<(arrOf st).size) (hj:j<(arrOf st).size)
  (q:∀ x y,(arrOf st)[i]?=some x->(arrOf st)[j]?=some y->Q (some (b x y)) st):wpS M A E s (ltAt' i j) Q st:=by
 obtain ⟨x,hx,gx⟩:=G.at hi
 obtain ⟨y,hy,gy⟩:=G.at hj
 rw [ltAt'_eq]
 refine wpS_bind (wpS_get ?_)
 exact wpS_bind (ZaD hx (wpS_bind (ZaD hy (L x y st Q gx gy hs (q x y hx hy)))))
theorem Zkm (arr:Array Keyed) (W:WO b) (lo:Nat):Rng b arr lo (lo+1):=λi j x y h1 h2 h3 e1 e2=>by
 have:i=j:=by omega
 subst this
 rw [e1] at e2;cases e2
 exact W.le_refl _
theorem ZiC {arr:Array Keyed} (W:WO b) {lo n:Nat} {x y:Keyed} (h:Rng b arr lo (lo+n)) (hn:0<n) (hx:arr[lo+n-1]?=some x) (hy:arr[lo+n]?=some y) (hxy:kle b x y):Rng b arr lo (lo+n+1):=λi j u v h1 h2 h3 e1 e2=>by
 by_cases hj:j<lo+n
 ·exact h i j u v h1 h2 hj e1 e2
 ·have:j=lo+n:=by omega
  subst this
  rw [hy] at e2;cases e2
  by_cases hi:i=lo+n
  ·subst hi
   rw [hy] at e1;cases e1
   exact W.le_refl _
  ·exact W.le_trans (h i (lo+n-1) u x h1 (by omega) (by omega) e1 hx) hxy
theorem ZbJ {arr:Array Keyed} (W:WO b) {lo n:Nat} {x y:Keyed} (h:Zh1 b arr lo (lo+n)) (hn:0<n) (hx:arr[lo+n-1]?=some x) (hy:arr[lo+n]?=some y) (hxy:kle b y x):Zh1 b arr lo (lo+n+1):=λi j u v h1 h2 h3 e1 e2=>by
 by_cases hj:j<lo+n
 ·exact h i j u v h1 h2 hj e1 e2
 ·have:j=lo+n:=by omega
  subst this
  rw [hy] at e2;cases e2
  by_cases hi:i=lo+n
  ·subst hi
   rw [hy] at e1;cases e1
   exact W.le_refl _
  ·exact W.le_trans hxy (h i (lo+n-1) u x h1 (by omega) (by omega) e1 hx)
theorem Zhn (W:WO b) (L:ZcU M A E s kd b good) {st:SortSt} {lo a nrem:Nat} {Q:Asc->SortSt->Prop} (hs:kindOf st=kd) (G:AllG good (arrOf st)) (hn:lo+nrem<=(arrOf st).size) (h1:1<=a) (h2:a<=nrem) (h3:Rng b (arrOf st) lo (lo+a))
  (q:∀ n,a<=n->n<=nrem->Rng b (arrOf st) lo (lo+n)->(n=nrem\/∃ x y,(arrOf st)[lo+n-1]?=some x/\(arrOf st)[lo+n]?=some y/\b y x=true)->Q (none,n) st):wpS M A E s (forIn [a:nrem] ((none,a):Asc) (Zkl lo)) Q st:=by
 refine wpS_forRange (λk r st'=>st'=st/\r=(none,k)/\a<=k/\k<=nrem/\Rng b (arrOf st) lo (lo+k)) ?_ ?_ ⟨rfl,rfl,Nat.le_refl _,h2,h3⟩
 ·rintro k r st' _ hk ⟨rfl,rfl,h4,h5,h6⟩
  unfold Zkl
  refine wpS_bind (Zcp L hs G (by show lo+k<_;omega) (by show lo+k-1<_;omega) λy x hy hx=>?_)
  dsimp only
  split
  ·rename_i hb
   exact wpS_pure (q k h4 h5 h6 (.inr ⟨x,y,hx,hy,hb⟩))
  ·rename_i hb
   exact wpS_pure ⟨rfl,rfl,by omega,by omega,ZiC W h6 (by omega) hx hy (Bool.eq_false_iff.mpr hb)⟩
 ·rintro r st' ⟨rfl,rfl,h4,h5,h6⟩
  rw [Nat.max_eq_right h2] at h6 ⊢
  exact q nrem h2 (Nat.le_refl _) h6 (.inl rfl)
def Zho (b:Keyed->Keyed->Bool) (arr:Array Keyed) (lo hi:Nat):Prop:=∀ i j x y,lo<=i->i<hi->lo<=j->j<hi->arr[i]?=some x->arr[j]?=some y->kle b x y
theorem Zcq {st:SortSt} {lo i j:Nat} (h:lo<=i) (hj:j<=(arrOf st).size):Ah lo st (setArr st (mirror (arrOf st) i j ((j-i) / 2))):=by
 refine ⟨rfl,rfl,rfl,mirror_perm _ _ _ _,λk hk=>?_⟩
 show (mirror (arrOf st) i j ((j-i) / 2))[k]?=_
 rw [getElem?_mirror_all hj,if_neg (by omega)]
theorem Zgk {arr:Array Keyed} {lo hi:Nat} (hj:hi<=arr.size) (h:Zh1 b arr lo hi):Rng b (mirror arr lo hi ((hi-lo) / 2)) lo hi:=λi j x y h1 h2 h3 e1 e2=>by
 rw [getElem?_mirror_all hj,if_pos (by omega)] at e1 e2
 exact h (lo+hi-1-j) (lo+hi-1-i) y x (by omega) (by omega) (by omega) e2 e1
theorem Zca {arr:Array Keyed} {lo hi i j:Nat} (hj:j<=arr.size) (h1:lo<=i) (h2:i<=j) (h3:j<=hi) (hA:Zho b arr i j) (h:Zh1 b arr lo hi):Zh1 b (mirror arr i j ((j-i) / 2)) lo hi:=λp q x y k1 k2 k3 e1 e2=>by
 rw [getElem?_mirror_all hj] at e1 e2
 by_cases hp:i<=p/\p<j
 ·rw [if_pos hp] at e1
  by_cases hq:i<=q/\q<j
  ·rw [if_pos hq] at e2
   exact hA (i+j-1-q) (i+j-1-p) y x (by omega) (by omega) (by omega) (by omega) e2 e1
  ·rw [if_neg hq] at e2
   exact h _ q x y (by omega) (by omega) k3 e1 e2
 ·rw [if_neg hp] at e1
  by_cases hq:i<=q/\q<j
  ·rw [if_pos hq] at e2
   exact h p _ x y k1 (by omega) (by omega) e1 e2
  ·rw [if_neg hq] at e2
   exact h p q x y k1 k2 k3 e1 e2
def Znz (b:Keyed->Keyed->Bool) (lo nrem:Nat) (st:SortSt) (Q:Option Nat->SortSt->Prop):Prop:=∀ m st',Ah lo st st'->1<=m->m<=nrem->Rng b (arrOf st') lo (lo+m)->Q (some m) st'
theorem ZeC (W:WO b) (L:ZcU M A E s kd b good) {st:SortSt} {lo n nrem:Nat} {Q:Option Nat->SortSt->Prop} (hs:kindOf st=kd) (G:AllG good (arrOf st)) (hn:lo+nrem<=(arrOf st).size) (h1:1<=n) (h2:n<=nrem) (h3:Zh1 b (arrOf st) lo (lo+n))
  (q:Znz b lo nrem st Q):wpS M A E s (ZeB lo n nrem) Q st:=by
 unfold ZeB
 rw [reverseSlice'_eq]
 refine wpS_bind (wpS_modify ?_)
 have ah:=Zcq (st:=st) (lo:=lo) (i:=lo) (j:=lo+n) (Nat.le_refl _) (by omega)
 have r:=Zgk (arr:=arrOf st) (lo:=lo) (hi:=lo+n) (by omega) h3
 generalize hst:setArr st (mirror (arrOf st) lo (lo+n) ((lo+n-lo) / 2))=st1 at ah
 have e1:arrOf st1=mirror (arrOf st) lo (lo+n) ((lo+n-lo) / 2):=by rw [<-hst]
 rw [<-e1] at r
 refine wpS_bind (Zhn W L (ah.kd.trans hs) (G.perm ah.pm) (by rw [ah.size];exact hn) h1 h2 r λm k1 k2 k3 _=>?_)
 dsimp only
 exact wpS_pure (q m st1 ah (by omega) k2 k3)
theorem ZeD (W:WO b) (L:ZcU M A E s kd b good) {st:SortSt} {lo n nrem:Nat} {Q:Option Nat->SortSt->Prop} (hs:kindOf st=kd) (G:AllG good (arrOf st)) (hn:lo+nrem<=(arrOf st).size) (h2:n+1<=nrem) (h3:Zh1 b (arrOf st) lo (lo+(n+1)))
  (q:Znz b lo nrem st Q):wpS M A E s (Zgj lo n nrem) Q st:=by
 unfold Zgj
 refine wpS_bind (wpS_lift (wpAny_rule ⟨rfl,?_⟩))
 have fin:∀ m neq st1,Ah lo st st1->n+1<=m->m<=nrem->Zh1 b (arrOf st1) lo (lo+m)->neq+1<=m->Zho b (arrOf st1) (lo+m-(neq+1)) (lo+m) ->
   wpS M A E s (if neq > 0 then (do reverseSlice' (lo+m-(neq+1)) (lo+m);ZeB lo m nrem) else ZeB lo m nrem) Q st1:=by
  intro m neq st1 ah k1 k2 k3 k4 k5
  have G1:=G.perm ah.pm
  have hn1:lo+nrem<=(arrOf st1).size:=by rw [ah.size];exact hn
  split
  ·rw [reverseSlice'_eq]
   refine wpS_bind (wpS_modify ?_)
   have ah2:=Zcq (st:=st1) (lo:=lo) (i:=lo+m-(neq+1)) (j:=lo+m) (by omega) (by omega)
   have r:=Zca (arr:=arrOf st1) (lo:=lo) (hi:=lo+m) (i:=lo+m-(neq+1)) (j:=lo+m) (by omega) (by omega) (by omega) (Nat.le_refl _) k5 k3
   generalize hst:setArr st1 (mirror (arrOf st1) (lo+m-(neq+1)) (lo+m) ((lo+m-(lo+m-(neq+1))) / 2))=st2 at ah2
   have e1:arrOf st2=mirror (arrOf st1) (lo+m-(neq+1)) (lo+m) ((lo+m-(lo+m-(neq+1))) / 2):=by rw [<-hst]
   rw [<-e1] at r
   have ah3:=ah.trans ah2
   exact ZeC W L (ah3.kd.trans hs) (G.perm ah3.pm) (by rw [ah3.size];exact hn) (by omega) k2 r λm' st' a'=>q m' st' (ah3.trans a')
  ·exact ZeC W L (ah.kd.trans hs) G1 hn1 (by omega) k2 k3 λm' st' a'=>q m' st' (ah.trans a')
 have al0:∀ (arr:Array Keyed) m,Zho b arr (lo+m-(0+1)) (lo+m):=λarr m i j x y i1 i2 i3 i4 e1 e2=>by
  have:i=j:=by omega
  subst this
  rw [e1] at e2;cases e2
  exact W.le_refl _
 refine wpS_bind (wpS_forRange (λk r st1=>Ah lo st st1/\∃ neq,r=(none,k,neq)/\n+1<=k/\k<=nrem/\Zh1 b (arrOf st1) lo (lo+k)/\neq+1<=k/\Zho b (arrOf st1) (lo+k-(neq+1)) (lo+k)) ?_ ?_ ⟨Ah.refl _ _,0,rfl,Nat.le_refl _,h2,h3,by omega,al0 _ _⟩)
 ·rintro k r st1 _ hk ⟨ah,neq,rfl,k1,k2,k3,k4,k5⟩
  have G1:=G.perm ah.pm
  have hn1:lo+nrem<=(arrOf st1).size:=by rw [ah.size];exact hn
  have hs1:=ah.kd.trans hs
  unfold ZmT
  refine wpS_bind (Zcp L hs1 G1 (by show lo+k<_;omega) (by show lo+k-1<_;omega) λy x hy hx=>?_)
  dsimp only
  split
  ·rename_i hb
   have hyx:=W.le_of_lt hb
   split
   ·rw [reverseSlice'_eq]
    refine wpS_bind (wpS_modify ?_)
    have ah2:=Zcq (st:=st1) (lo:=lo) (i:=lo+k-(neq+1)) (j:=lo+k) (by omega) (by omega)
    have r:=Zca (arr:=arrOf st1) (lo:=lo) (hi:=lo+k) (i:=lo+k-(neq+1)) (j:=lo+k) (by omega) (by omega) (by omega) (Nat.le_refl _) k5 k3
    have e3:(mirror (arrOf st1) (lo+k-(neq+1)) (lo+k) ((lo+k-(lo+k-(neq+1))) / 2))[lo+k]?=some y:=by rw [getElem?_mirror_all (by omega),if_neg (by omega)];exact hy
    have e4:∃ z,(mirror (arrOf st1) (lo+k-(neq+1)) (lo+k) ((lo+k-(lo+k-(neq+1))) / 2))[lo+k-1]?=some z/\kle b y z:=by
     obtain ⟨z,hz,_⟩:=G1.at (i:=lo+k-(neq+1)) (by omega)
     refine ⟨z,?_,W.le_trans hyx (k3 (lo+k-(neq+1)) (lo+k-1) z x (by omega) (by omega) (by omega) hz hx)⟩
     rw [getElem?_mirror_all (by omega),if_pos (by omega),<-hz]
     congr 1
     omega
    generalize hst:setArr st1 (mirror (arrOf st1) (lo+k-(neq+1)) (lo+k) ((lo+k-(lo+k-(neq+1))) / 2))=st2 at ah2
    have e1:arrOf st2=mirror (arrOf st1) (lo+k-(neq+1)) (lo+k) ((lo+k-(lo+k-(neq+1))) / 2):=by rw [<-hst]
    rw [<-e1] at r e3 e4
    obtain ⟨z,hz,hyz⟩:=e4
    exact wpS_pure ⟨ah.trans ah2,0,rfl,by omega,by omega,ZbJ W r (by omega) hz e3 hyz,by omega,al0 _ _⟩
   ·exact wpS_pure ⟨ah,0,rfl,by omega,by omega,ZbJ W k3 (by omega) hx hy hyx,by omega,al0 _ _⟩
  ·rename_i hb
   have hxy:kle b x y:=Bool.eq_false_iff.mpr hb
   refine wpS_bind (Zcp L hs1 G1 (by show lo+k-1<_;omega) (by show lo+k<_;omega) λx' y' hx' hy'=>?_)
   rw [hx] at hx';cases hx'
   rw [hy] at hy';cases hy'
   dsimp only
   split
   ·refine wpS_pure ?_
    dsimp only
    exact fin k neq st1 ah k1 k2 k3 k4 k5
   ·rename_i hb2
    have hyx:kle b y x:=Bool.eq_false_iff.mpr hb2
    refine wpS_pure ⟨ah,neq+1,rfl,by omega,by omega,ZbJ W k3 (by omega) hx hy hyx,by omega,λi j u v i1 i2 i3 i4 e1 e2=>?_⟩
    have toX:∀ i u,lo+k-(neq+1)<=i->i<lo+(k+1)->(arrOf st1)[i]?=some u->kle b u x/\kle b x u:=λi u p1 p2 e=>by
     by_cases hi:i<lo+k
     ·exact ⟨k5 i (lo+k-1) u x p1 hi (by omega) (by omega) e hx,k5 (lo+k-1) i x u (by omega) (by omega) p1 hi hx e⟩
     ·have:i=lo+k:=by omega
      subst this
      rw [hy] at e;cases e
      exact ⟨hyx,hxy⟩
    exact W.le_trans (toX i u (by omega) i2 e1).1 (toX j v (by omega) i4 e2).2
 ·rintro r st1 ⟨ah,neq,rfl,k1,k2,k3,k4,k5⟩
  dsimp only
  rw [Nat.max_eq_right h2] at *
  exact fin nrem neq st1 ah k1 k2 k3 k4 k5
theorem ZdZ (W:WO b) (L:ZcU M A E s kd b good) {st:SortSt} {lo nrem:Nat} {Q:Option Nat->SortSt->Prop} (hs:kindOf st=kd) (G:AllG good (arrOf st)) (hn:lo+nrem<=(arrOf st).size) (h1:1<=nrem)
  (q:Znz b lo nrem st Q):wpS M A E s (countRun' lo nrem) Q st:=by
 rw [Zfe]
 refine wpS_bind (Zhn W L hs G hn (Nat.le_refl _) h1 (Zkm _ W _) λn k1 k2 k3 k4=>?_)
 dsimp only
 split
 ·exact wpS_pure (q n st (Ah.refl _ _) k1 k2 k3)
 ·rename_i e
  have e:n≠nrem:=λz=>e (beq_iff_eq.mpr z)
  obtain ⟨x,y,hx,hy,hb⟩:=k4.resolve_left e
  have hyx:=W.le_of_lt hb
  split
  ·rename_i e1
   refine wpS_bind (Zcp L hs G (by omega) (by omega) λu v hu hv=>?_)
   rw [hx] at hv;cases hv
   dsimp only
   split
   ·exact wpS_pure (q n st (Ah.refl _ _) k1 k2 k3)
   ·rename_i hb2
    have hxu:kle b x u:=Bool.eq_false_iff.mpr hb2
    have al:Zho b (arrOf st) lo (lo+n):=λi j p r i1 i2 i3 i4 e1 e2=>
     W.le_trans (k3 i (lo+n-1) p x i1 (by omega) (by omega) e1 hx) (W.le_trans hxu (k3 lo j u r (Nat.le_refl _) i3 i4 hu e2))
    have ni:Zh1 b (arrOf st) lo (lo+n):=λi j p r i1 i2 i3 e1 e2=>al j i r p (by omega) i3 i1 (by omega) e2 e1
    rw [reverseSlice'_eq]
    refine wpS_bind (wpS_modify ?_)
    have ah:=Zcq (st:=st) (lo:=lo) (i:=lo) (j:=lo+n) (Nat.le_refl _) (by omega)
    have r:=Zca (arr:=arrOf st) (lo:=lo) (hi:=lo+n) (i:=lo) (j:=lo+n) (by omega) (Nat.le_refl _) (by omega) (Nat.le_refl _) al ni
    have e3:(mirror (arrOf st) lo (lo+n) ((lo+n-lo) / 2))[lo+n]?=some y:=by rw [getElem?_mirror_all (by omega),if_neg (by omega)];exact hy
    have e4:(mirror (arrOf st) lo (lo+n) ((lo+n-lo) / 2))[lo+n-1]?=some u:=by
     rw [getElem?_mirror_all (by omega),if_pos (by omega),<-hu]
     congr 1
     omega
    generalize hst:setArr st (mirror (arrOf st) lo (lo+n) ((lo+n-lo) / 2))=st2 at ah
    have e1:arrOf st2=mirror (arrOf st) lo (lo+n) ((lo+n-lo) / 2):=by rw [<-hst]
    rw [<-e1] at r e3 e4
    exact ZeD W L (ah.kd.trans hs) (G.perm ah.pm) (by rw [ah.size];exact hn) (by omega) (ZbJ W r (by omega) e4 e3 (W.le_trans hyx hxu)) λm' st' a'=>q m' st' (ah.trans a')
  ·have:n=1:=by omega
   subst this
   refine ZeD W L hs G hn (by omega) (ZbJ W (λi j p r i1 i2 i3 e1 e2=>?_) (by omega) hx hy hyx) q
   have:i=j:=by omega
   subst this
   rw [e1] at e2;cases e2
   exact W.le_refl _
end
end L2
namespace L2
open PySem PySem.Spec PyProof.Rows
section
variable {M:Model} {A:Around} {E:Value->Shared->Prop} {s:Shared} {kd:SortKind} {b:Keyed->Keyed->Bool} {good:Keyed->Prop}
theorem Zgl (W:WO b) {arr:Array Keyed} {lo k l:Nat} {p:Keyed} (hk:lo+k<arr.size) (hl:l<=k) (h:Rng b arr lo (lo+k)) (hp:arr[lo+k]?=some p) (h1:∀ i x,i<l->arr[lo+i]?=some x->kle b x p) (h2:∀ i x,l<=i->i<k->arr[lo+i]?=some x->kle b p x) :
  Rng b (bubble arr (lo+k) (lo+k-(lo+l))) lo (lo+(k+1)):=by
 have e0:lo+k-(lo+k-(lo+l))=lo+l:=by omega
 have at_:∀ q,(bubble arr (lo+k) (lo+k-(lo+l)))[q]?=if q=lo+l then some p else if lo+l<q/\q<=lo+k then arr[q-1]? else arr[q]?:=λq=>by
  rw [getElem?_bubble hk _ (by omega),e0,hp]
 intro i j x y i1 i2 i3 e1 e2
 rw [at_] at e1 e2
 have low:∀ q z,lo<=q->q<lo+l->arr[q]?=some z->kle b z p:=λq z q1 q2 e=>h1 (q-lo) z (by omega) (by rw [Nat.add_sub_cancel' q1];exact e)
 have high:∀ q z,lo+l<=q->q<lo+k->arr[q]?=some z->kle b p z:=λq z q1 q2 e=>h2 (q-lo) z (by omega) (by omega) (by rw [Nat.add_sub_cancel' (by omega)];exact e)
 by_cases ci:i=lo+l
 ·rw [if_pos ci] at e1
  cases e1
  by_cases cj:j=lo+l
  ·rw [if_pos cj] at e2
   cases e2
   exact W.le_refl _
  ·rw [if_neg cj,if_pos (by omega)] at e2
   exact high (j-1) y (by omega) (by omega) e2
 ·rw [if_neg ci] at e1
  by_cases di:lo+l<i/\i<=lo+k
  ·rw [if_pos di] at e1
   rw [if_neg (by omega),if_pos (by omega)] at e2
   exact h (i-1) (j-1) x y (by omega) (by omega) (by omega) e1 e2
  ·rw [if_neg di] at e1
   by_cases cj:j=lo+l
   ·rw [if_pos cj] at e2
    cases e2
    exact low i x i1 (by omega) e1
   ·rw [if_neg cj] at e2
    by_cases dj:lo+l<j/\j<=lo+k
    ·rw [if_pos dj] at e2
     exact h i (j-1) x y i1 (by omega) (by omega) e1 e2
    ·rw [if_neg dj] at e2
     exact h i j x y i1 i2 (by omega) e1 e2
theorem Zhp {st:SortSt} {lo src d:Nat} (h1:src<(arrOf st).size) (h2:d<=src) (h3:lo<=src-d):Ah lo st (setArr st (bubble (arrOf st) src d)):=by
 refine ⟨rfl,rfl,rfl,bubble_perm _ _ _,λk hk=>?_⟩
 show (bubble (arrOf st) src d)[k]?=_
 rw [getElem?_bubble h1 _ h2,if_neg (by omega),if_neg (by omega)]
theorem Zgm (W:WO b) (L:ZcU M A E s kd b good) {st:SortSt} {lo n ok:Nat} {Q:Bool->SortSt->Prop} (hs:kindOf st=kd) (G:AllG good (arrOf st)) (hn:lo+n<=(arrOf st).size) (h1:1<=ok) (h2:ok<=n) (h3:Rng b (arrOf st) lo (lo+ok))
  (q:∀ st',Ah lo st st'->Rng b (arrOf st') lo (lo+n)->Q true st'):wpS M A E s (binarySort' lo n ok) Q st:=by
 rw [binarySort'_eq,Nat.max_eq_left h1]
 refine wpS_bind (wpS_forRange (λk r st1=>Ah lo st st1/\r=(none,())/\ok<=k/\k<=n/\Rng b (arrOf st1) lo (lo+k)) ?_ ?_ ⟨Ah.refl _ _,rfl,Nat.le_refl _,h2,h3⟩)
 ·rintro k r st1 _ hk ⟨ah,rfl,k1,k2,k3⟩
  have G1:=G.perm ah.pm
  have hn1:lo+n<=(arrOf st1).size:=by rw [ah.size];exact hn
  have hs1:=ah.kd.trans hs
  obtain ⟨p,hp,gp⟩:=G1.at (i:=lo+k) (by omega)
  have fin:∀ l,l<=k->(∀ i x,i<l->(arrOf st1)[lo+i]?=some x->kle b x p)->(∀ i x,l<=i->i<k->(arrOf st1)[lo+i]?=some x->kle b p x) ->
    wpS M A E s (do moveDown' (lo+k) (lo+l);pure (ForInStep.yield ((none,()):Option Bool×Unit))) (λr st'=>match r with
     | .done c'=>False
     | .yield c'=>Ah lo st st'/\c'=(none,())/\ok<=k+1/\k+1<=n/\Rng b (arrOf st') lo (lo+(k+1))) st1:=by
   intro l hl g1 g2
   rw [moveDown'_eq]
   refine wpS_bind (wpS_modify ?_)
   have ah2:=Zhp (st:=st1) (lo:=lo) (src:=lo+k) (d:=lo+k-(lo+l)) (by omega) (by omega) (by omega)
   exact wpS_pure ⟨ah.trans ah2,rfl,by omega,by omega,Zgl W (by omega) hl k3 hp g1 g2⟩
  dsimp only
  refine wpS_bind (wpS_forRange (λi c st'=>st'=st1/\∃ l r,c=(none,l,r)/\l<=r/\r<=k/\r-l<=k-i/\(∀ i x,i<l->(arrOf st1)[lo+i]?=some x->kle b x p)/\(∀ i x,r<=i->i<k->(arrOf st1)[lo+i]?=some x->kle b p x)) ?_ ?_ ⟨rfl,0,k,rfl,by omega,by omega,by omega,λi x hi=>by omega,λi x h1 h2=>by omega⟩)
  ·rintro i c st' _ hi ⟨rfl,l,r,rfl,g1,g2,g3,g4,g5⟩
   dsimp only
   split
   ·have:l=r:=by omega
    subst this
    refine wpS_pure ?_
    dsimp only
    exact wpS_mono (fin l g2 g4 g5) λr st' hr=>by
     cases r with
     | done z=>exact False.elim hr
     | yield z=>exact hr
   ·refine wpS_bind (Zcp L hs1 G1 (by omega) (by omega) λp' m hp' hm=>?_)
    rw [hp] at hp';cases hp'
    dsimp only
    split
    ·rename_i hb
     refine wpS_pure ⟨rfl,_,_,rfl,by omega,by omega,by omega,g4,λj x j1 j2 e=>?_⟩
     exact W.le_trans (W.le_of_lt hb) (k3 _ (lo+j) m x (by omega) (by omega) (by omega) hm e)
    ·rename_i hb
     refine wpS_pure ⟨rfl,_,_,rfl,by omega,by omega,by omega,λj x j1 e=>?_,g5⟩
     exact W.le_trans (k3 (lo+j) _ x m (by omega) (by omega) (by omega) e hm) (Bool.eq_false_iff.mpr hb)
  ·rintro c st' ⟨rfl,l,r,rfl,g1,g2,g3,g4,g5⟩
   have:l=r:=by simp at g3;omega
   subst this
   dsimp only
   exact wpS_mono (fin l g2 g4 g5) λr st' hr=>by
     cases r with
     | done z=>exact False.elim hr
     | yield z=>exact hr
 ·rintro r st1 ⟨ah,rfl,k1,k2,k3⟩
  dsimp only
  rw [Nat.max_eq_right h2] at k3
  exact wpS_pure (q st1 ah k3)
end
end L2
namespace L2
open PySem PySem.Spec PyProof.Rows
def Zcr (arr:Array Keyed) (base:Nat) (l:List Keyed):Array Keyed:=List.foldl (λa (x:Keyed×Nat)=>a.setIfInBounds (base+x.2) x.1) arr l.zipIdx
def ZiD (sa:Nat) (merged:Array Keyed):StateT SortSt Sem Bool:=do
 modify λs=>setArr s (Zcr (arrOf s) sa merged.toList)
 let s <- get
 pure (failedOf s).isNone
def ZlQ (st:SortSt) (sa na sb nb:Nat):StateT SortSt Sem Bool:=(if (nb == 0)=true then pure true else (if na<=nb then (do
  let m <- ZdT ((arrOf st).extract sa sb) ((arrOf st).extract sb (sb+nb))
  ZiD sa m) else (do
  let m <- ZdU ((arrOf st).extract sa sb) ((arrOf st).extract sb (sb+nb))
  ZiD sa m)))
def ZlR (st:SortSt) (sa na sb nb:Nat):StateT SortSt Sem Bool:=(if (na == 0)=true then pure true else (do
  let y <- elem' (arrOf st) (sa+na-1)
  match <- ZbI true y (arrOf st) sb nb (nb-1) with
  | some nb=>ZlQ st sa na sb nb
  | _=>pure false))
theorem Zff (i:Nat):mergeAt' i=(do
  let st <- get
  match (pendingOf st)[i]?,(pendingOf st)[i+1]? with
  | some (sa,na,power),some (sb,nb,_)=>do
   set (setPending st (((pendingOf st).setIfInBounds i (sa,na+nb,power)).eraseIdxIfInBounds (i+1)))
   let x <- elem' (arrOf st) sb
   match <- ZbI false x (arrOf st) sa na 0 with
   | some k=>ZlR st (sa+k) (na-k) sb nb
   | _=>pure false
  | _,_=>liftM (unsupported "internal:list.sort.pending")):=by
 refine Za1 (m:=get) λst=>?_
 cases (pendingOf st)[i]? with
 | none=>rfl
 | some p=>
  cases (pendingOf st)[i+1]? with
  | none=>rfl
  | some q=>
   obtain ⟨sa,na,pw⟩:=p
   obtain ⟨sb,nb,pw'⟩:=q
   rfl
end L2
namespace L2
open PySem PySem.Spec PyProof.Rows
theorem Zjj:∀ (l:List Keyed) (arr:Array Keyed) (base n i:Nat),base+n+l.length<=arr.size ->
  (List.foldl (λa (x:Keyed×Nat)=>a.setIfInBounds (base+x.2) x.1) arr (l.zipIdx n))[i]?=if base+n<=i/\i<base+n+l.length then l[i-(base+n)]? else arr[i]?
 | [],arr,base,n,i,_=>by
  rw [if_neg (by simp)]
  rfl
 | x::l,arr,base,n,i,h=>by
  rw [List.zipIdx_cons,List.foldl_cons]
  rw [List.length_cons] at h
  have ih:=Zjj l (arr.setIfInBounds (base+n) x) base (n+1) i (by rw [Array.size_setIfInBounds];omega)
  refine ih.trans ?_
  rw [List.length_cons]
  by_cases h1:base+(n+1)<=i/\i<base+(n+1)+l.length
  ·rw [if_pos h1,if_pos (by omega)]
   rw [show i-(base+n)=(i-(base+(n+1)))+1 by omega,List.getElem?_cons_succ]
  ·rw [if_neg h1,Array.getElem?_setIfInBounds]
   by_cases h2:base+n=i
   ·subst h2
    rw [if_pos rfl,if_pos (by omega),if_pos (by omega),Nat.sub_self]
    rfl
   ·rw [if_neg h2,if_neg (by omega)]
theorem Zjk {arr:Array Keyed} {base:Nat} {l:List Keyed} (h:base+l.length<=arr.size) (i:Nat):(Zcr arr base l)[i]?=if base<=i/\i<base+l.length then l[i-base]? else arr[i]?:=Zjj l arr base 0 i h
theorem ZiE {arr:Array Keyed} {base:Nat} {l:List Keyed} (h:base+l.length<=arr.size) (p:l.Perm ((arr.toList.drop base).take l.length)):(Zcr arr base l).Perm arr:=by
 have e:(Zcr arr base l).toList=arr.toList.take base++l++arr.toList.drop (base+l.length):=by
  refine List.ext_getElem? λi=>?_
  have hl:arr.toList.length=arr.size:=Array.length_toList
  rw [Array.getElem?_toList,Zjk h]
  rw [List.append_assoc,List.getElem?_append,List.length_take,hl,Nat.min_eq_left (by omega)]
  by_cases h1:i<base
  ·rw [if_neg (by omega),if_pos h1,List.getElem?_take,if_pos h1,Array.getElem?_toList]
  ·rw [if_neg h1,List.getElem?_append]
   by_cases h2:i<base+l.length
   ·rw [if_pos (by omega),if_pos (by omega)]
   ·rw [if_neg (by omega),if_neg (by omega),List.getElem?_drop,Array.getElem?_toList]
    congr 1
    omega
 have e2:arr.toList=arr.toList.take base++(arr.toList.drop base).take l.length++arr.toList.drop (base+l.length):=by
  rw [List.append_assoc,<-List.drop_drop,List.take_append_drop,List.take_append_drop]
 rw [Array.perm_iff_toList_perm,e]
 exact ((List.Perm.append_left _ p).append_right _).trans (.of_eq e2.symm)
section
variable {M:Model} {A:Around} {E:Value->Shared->Prop} {s:Shared} {kd:SortKind} {b:Keyed->Keyed->Bool} {good:Keyed->Prop}
theorem Zc2 {arr:Array Keyed} {lo mid hi:Nat} (h1:Rng b arr lo mid) (h2:Rng b arr mid hi) (h3:∀ i j x y,lo<=i->i<mid->mid<=j->j<hi->arr[i]?=some x->arr[j]?=some y->kle b x y):Rng b arr lo hi:=λi j x y i1 i2 i3 e1 e2=>by
 by_cases c1:j<mid
 ·exact h1 i j x y i1 i2 c1 e1 e2
 ·by_cases c2:i<mid
  ·exact h3 i j x y i1 c2 (by omega) i3 e1 e2
  ·exact h2 i j x y (by omega) i2 i3 e1 e2
theorem Zjl {arr:Array Keyed} {lo hi:Nat} (hh:hi<=arr.size) (h:Rng b arr lo hi):(arr.extract lo hi).toList.Pairwise (kle b):=by
 rw [List.pairwise_iff_getElem]
 intro i j hi' hj' hij
 have sz:(arr.extract lo hi).toList.length=hi-lo:=by rw [Array.length_toList,Array.size_extract,Nat.min_eq_left hh]
 refine h (lo+i) (lo+j) _ _ (by omega) (by omega) (by omega) ?_ ?_
 ·simp [Array.getElem_extract]
 ·simp [Array.getElem_extract]
end
end L2
namespace L2
open PySem PySem.Spec PyProof.Rows
section
variable {M:Model} {A:Around} {E:Value->Shared->Prop} {s:Shared} {kd:SortKind} {b:Keyed->Keyed->Bool} {good:Keyed->Prop}
def MgQ (b:Keyed->Keyed->Bool) (st:SortSt) (lo hi:Nat) (Q:Bool->SortSt->Prop):Prop:=∀ st',kindOf st'=kindOf st->pendingOf st'=pendingOf st->failedOf st'=failedOf st->(arrOf st').Perm (arrOf st) ->
 (∀ i,i<lo\/hi<=i->(arrOf st')[i]?=(arrOf st)[i]?)->Rng b (arrOf st') lo hi->Q true st'
structure GalF (b:Keyed->Keyed->Bool) (arr:Array Keyed) (sa k sb nb hi:Nat):Prop where
 k0:sa<=k
 k1:k<sb
 n0:0<nb
 n1:sb+nb<=hi
 ra:Rng b arr sa sb
 rb:Rng b arr sb hi
 lowA:∀ i x y,sa<=i->i<k->arr[i]?=some x->arr[sb]?=some y->kle b x y
 highA:∀ i x y,k<=i->i<sb->arr[i]?=some x->arr[sb]?=some y->kle b y x
 lowB:∀ i x y,sb<=i->i<sb+nb->arr[i]?=some x->arr[sb-1]?=some y->kle b x y
 highB:∀ i x y,sb+nb<=i->i<hi->arr[i]?=some x->arr[sb-1]?=some y->kle b y x
theorem GalF.two {arr:Array Keyed} {sa k sb nb hi:Nat} (F:GalF b arr sa k sb nb hi) (hh:hi<=arr.size) (G:AllG good arr):Two b good (arr.extract k sb) (arr.extract sb (sb+nb)):=by
 have h0:=F.k0;have h1:=F.k1;have h2:=F.n0;have h3:=F.n1
 have memG:∀ {i j x},x∈(arr.extract i j).toList->good x:=λ{i j x} hx=>by
  obtain ⟨q,_,_,e⟩:=Zfc hx
  rw [<-Array.getElem?_toList] at e
  exact G x (List.mem_of_getElem? e)
 refine ⟨λx=>memG,λx=>memG,Zjl (by omega) λi j x y i1 i2 i3=>F.ra i j x y (by omega) i2 i3,Zjl (by omega) λi j x y i1 i2 i3=>F.rb i j x y i1 i2 (by omega),by rw [Array.size_extract];omega,by rw [Array.size_extract];omega,λx hx y hy=>?_,λz hz y hy=>?_⟩
 ·have hx:arr[sb]?=some x:=by
   rw [Array.getElem?_extract,if_pos (by omega)] at hx
   exact hx
  obtain ⟨q,q1,q2,e⟩:=Zfc hy
  exact F.highA q y x q1 q2 e hx
 ·have hz:arr[sb-1]?=some z:=by
   rw [Array.size_extract,Array.getElem?_extract,if_pos (by omega)] at hz
   rw [<-hz]
   congr 1
   omega
  obtain ⟨q,q1,q2,e⟩:=Zfc hy
  exact F.lowB q y z q1 (by omega) e hz
theorem GalF.fin (W:WO b) {st:SortSt} {sa k sb nb hi:Nat} {Q:Bool->SortSt->Prop} (F:GalF b (arrOf st) sa k sb nb hi) (hh:hi<=(arrOf st).size) (q:MgQ b st sa hi Q) (hf:failedOf st=none) {m:Array Keyed} {st1:SortSt} (sg:SameG st st1)
  (hm:Za6 b (((arrOf st).extract k sb).toList++((arrOf st).extract sb (sb+nb)).toList) m.toList):wpS M A E s (ZiD k m) Q st1:=by
 have h0:=F.k0;have h1:=F.k1;have h2:=F.n0;have h3:=F.n1
 unfold ZiD
 refine wpS_bind (wpS_modify (wpS_bind (wpS_get (wpS_pure ?_))))
 show Q (failedOf st1).isNone _
 rw [sg.2.2.2,hf]
 have hl:m.toList.length=sb+nb-k:=by
  have:=hm.1.length_eq
  rw [List.length_append,Array.length_toList,Array.length_toList,Array.length_toList,Array.size_extract,Array.size_extract] at this
  rw [Array.length_toList]
  omega
 have hb:k+m.toList.length<=(arrOf st).size:=by omega
 have e1:((arrOf st).toList.drop k).take m.toList.length=((arrOf st).extract k sb).toList++((arrOf st).extract sb (sb+nb)).toList:=by
  have x1:((arrOf st).extract k (sb+nb)).toList=((arrOf st).toList.drop k).take m.toList.length:=by
   rw [hl,Array.toList_extract,List.extract_eq_take_drop]
  rw [<-x1,<-Array.toList_append,Array.extract_append_extract]
  congr 2 <;> omega
 have at_:=Zjk (arr:=arrOf st) (base:=k) (l:=m.toList) hb
 have mem:∀ i x,k<=i->i<sb+nb->(Zcr (arrOf st) k m.toList)[i]?=some x->(∃ j,k<=j/\j<sb/\(arrOf st)[j]?=some x)\/(∃ j,sb<=j/\j<sb+nb/\(arrOf st)[j]?=some x):=λi x i1 i2 e=>by
  rw [at_,if_pos (by omega)] at e
  have hx:=hm.1.mem_iff.mp (List.mem_of_getElem? e)
  rcases List.mem_append.mp hx with hx | hx
  ·exact .inl (Zfc hx)
  ·exact .inr (Zfc hx)
 obtain ⟨b0,hb0⟩:∃ x,(arrOf st)[sb]?=some x:=⟨_,Array.getElem?_eq_getElem (by omega)⟩
 obtain ⟨aL,haL⟩:∃ x,(arrOf st)[sb-1]?=some x:=⟨_,Array.getElem?_eq_getElem (by omega)⟩
 refine q _ sg.1 sg.2.2.1 ?_ ?_ (λi hi'=>?_) ?_
 ·show failedOf st1=failedOf st
  exact sg.2.2.2
 ·show (Zcr (arrOf st1) k m.toList).Perm (arrOf st)
  rw [sg.2.1]
  exact ZiE hb (hm.1.trans (.of_eq e1.symm))
 ·show (Zcr (arrOf st1) k m.toList)[i]?=_
  rw [sg.2.1,at_,if_neg (by omega)]
 ·show Rng b (Zcr (arrOf st1) k m.toList) sa hi
  rw [sg.2.1]
  have old:∀ i,i<k\/sb+nb<=i->(Zcr (arrOf st) k m.toList)[i]?=(arrOf st)[i]?:=λi hi'=>by rw [at_,if_neg (by omega)]
  refine Zc2 (mid:=k) (λi j x y i1 i2 i3 e1 e2=>?_) (Zc2 (mid:=sb+nb) (λi j x y i1 i2 i3 e1 e2=>?_) (λi j x y i1 i2 i3 e1 e2=>?_) (λi j x y i1 i2 i3 i4 e1 e2=>?_)) (λi j x y i1 i2 i3 i4 e1 e2=>?_)
  ·rw [old i (by omega)] at e1
   rw [old j (by omega)] at e2
   exact F.ra i j x y i1 i2 (by omega) e1 e2
  ·rw [at_,if_pos (by omega)] at e1 e2
   exact Ziw W hm.2 (by omega) e1 e2
  ·rw [old i (by omega)] at e1
   rw [old j (by omega)] at e2
   exact F.rb i j x y (by omega) i2 i3 e1 e2
  ·rw [old j (by omega)] at e2
   rcases mem i x i1 i2 e1 with ⟨p,p1,p2,e⟩ | ⟨p,p1,p2,e⟩
   ·exact W.le_trans (F.ra p (sb-1) x aL (by omega) (by omega) (by omega) e haL) (F.highB j y aL i3 i4 e2 haL)
   ·exact F.rb p j x y p1 (by omega) i4 e e2
  ·rw [old i (by omega)] at e1
   have xb:=F.lowA i x b0 i1 i2 e1 hb0
   by_cases cj:j<sb+nb
   ·rcases mem j y i3 cj e2 with ⟨p,p1,p2,e⟩ | ⟨p,p1,p2,e⟩
    ·exact F.ra i p x y i1 (by omega) p2 e1 e
    ·exact W.le_trans xb (F.rb sb p b0 y (Nat.le_refl _) p1 (by omega) hb0 e)
   ·rw [old j (by omega)] at e2
    exact W.le_trans xb (F.rb sb j b0 y (Nat.le_refl _) (by omega) i4 hb0 e2)
theorem Zfg (W:WO b) (L:ZcU M A E s kd b good) {st:SortSt} {i sa na sb nb pw pw':Nat} {Q:Bool->SortSt->Prop} (hs:kindOf st=kd) (hf:failedOf st=none) (G:AllG good (arrOf st)) (p1:(pendingOf st)[i]?=some (sa,na,pw)) (p2:(pendingOf st)[i+1]?=some (sb,nb,pw'))
  (e:sb=sa+na) (hna:0<na) (hnb:0<nb) (hh:sb+nb<=(arrOf st).size) (ra:Rng b (arrOf st) sa sb) (rb:Rng b (arrOf st) sb (sb+nb))
  (q:MgQ b (setPending st (((pendingOf st).setIfInBounds i (sa,na+nb,pw)).eraseIdxIfInBounds (i+1))) sa (sb+nb) Q):wpS M A E s (mergeAt' i) Q st:=by
 subst e
 rw [Zff]
 refine wpS_bind (wpS_get ?_)
 rw [p1,p2]
 dsimp only
 refine wpS_bind ?_
 show wpS M A E s (set _) _ st
 refine (show wpS M A E s (modify λ_=>setPending st (((pendingOf st).setIfInBounds i (sa,na+nb,pw)).eraseIdxIfInBounds (i+1))) _ st from wpS_modify ?_)
 generalize hst:setPending st (((pendingOf st).setIfInBounds i (sa,na+nb,pw)).eraseIdxIfInBounds (i+1))=st1 at q
 have ea:arrOf st1=arrOf st:=by rw [<-hst]
 have ek:kindOf st1=kd:=by rw [<-hst];exact hs
 have ef:failedOf st1=none:=by rw [<-hst];exact hf
 rw [<-ea] at G hh ra rb ⊢
 obtain ⟨b0,hb0,gb0⟩:=G.at (i:=sa+na) (by omega)
 obtain ⟨aL,haL,gaL⟩:=G.at (i:=sa+na-1) (by omega)
 refine wpS_bind (ZaD hb0 ?_)
 have G1:Gal b good false b0 (arrOf st1) sa na:=ZdB W gb0 (λi hi=>G.at (by omega)) ra
 refine wpS_bind (Za8 L G1 ek hna λk hk k1 k2=>?_)
 have lowA:∀ i x y,sa<=i->i<sa+k->(arrOf st1)[i]?=some x->(arrOf st1)[sa+na]?=some y->kle b x y:=λi x y i1 i2 e1 e2=>by
  rw [hb0] at e2;cases e2
  have:=k1 (i-sa) (by omega)
  unfold byd at this
  rw [Nat.add_sub_cancel' i1,e1] at this
  dsimp only at this
  rw [if_neg Bool.false_ne_true,Bool.not_eq_true'] at this
  exact this
 have highA:∀ i x y,sa+k<=i->i<sa+na->(arrOf st1)[i]?=some x->(arrOf st1)[sa+na]?=some y->kle b y x:=λi x y i1 i2 e1 e2=>by
  rw [hb0] at e2;cases e2
  have:=k2 (i-sa) (by omega) (by omega)
  unfold byd at this
  rw [Nat.add_sub_cancel' (by omega),e1] at this
  dsimp only at this
  rw [if_neg Bool.false_ne_true,Bool.not_eq_false'] at this
  exact W.le_of_lt this
 dsimp only
 unfold ZlR
 rw [show arrOf st=arrOf st1 from ea.symm]
 split
 ·rename_i e0
  have e0:na-k=0:=eq_of_beq e0
  refine wpS_pure (q st1 rfl rfl rfl (.refl _) (λ_ _=>rfl) (Zc2 ra rb λi j x y i1 i2 i3 i4 e1 e2=>?_))
  exact W.le_trans (lowA i x b0 i1 (by omega) e1 hb0) (rb (sa+na) j b0 y (Nat.le_refl _) i3 i4 hb0 e2)
 ·rename_i e0
  have e0:na-k≠0:=λz=>e0 (beq_iff_eq.mpr z)
  refine wpS_bind (ZaD (show (arrOf st1)[sa+k+(na-k)-1]?=some aL by rw [<-haL];congr 1;omega) ?_)
  have G2:Gal b good true aL (arrOf st1) (sa+na) nb:=ZdB W gaL (λi hi=>G.at (by omega)) rb
  refine wpS_bind (Za8 L G2 ek (by omega) λnb' hk' k1' k2'=>?_)
  have lowB:∀ i x y,sa+na<=i->i<sa+na+nb'->(arrOf st1)[i]?=some x->(arrOf st1)[sa+na-1]?=some y->kle b x y:=λi x y i1 i2 e1 e2=>by
   rw [haL] at e2;cases e2
   have:=k1' (i-(sa+na)) (by omega)
   unfold byd at this
   rw [Nat.add_sub_cancel' i1,e1] at this
   dsimp only at this
   rw [if_pos rfl] at this
   exact W.le_of_lt this
  have highB:∀ i x y,sa+na+nb'<=i->i<sa+na+nb->(arrOf st1)[i]?=some x->(arrOf st1)[sa+na-1]?=some y->kle b y x:=λi x y i1 i2 e1 e2=>by
   rw [haL] at e2;cases e2
   have:=k2' (i-(sa+na)) (by omega) (by omega)
   unfold byd at this
   rw [Nat.add_sub_cancel' (by omega),e1] at this
   dsimp only at this
   rw [if_pos rfl] at this
   exact this
  dsimp only
  unfold ZlQ
  split
  ·rename_i e1
   have e1:nb'=0:=eq_of_beq e1
   refine wpS_pure (q st1 rfl rfl rfl (.refl _) (λ_ _=>rfl) (Zc2 ra rb λi j x y i1 i2 i3 i4 f1 f2=>?_))
   exact W.le_trans (ra i (sa+na-1) x aL i1 (by omega) (by omega) f1 haL) (highB j y aL (by omega) i4 f2 haL)
  ·rename_i e1
   have e1:nb'≠0:=λz=>e1 (beq_iff_eq.mpr z)
   have F:GalF b (arrOf st1) sa (sa+k) (sa+na) nb' (sa+na+nb):=⟨by omega,by omega,by omega,by omega,ra,rb,lowA,highA,lowB,highB⟩
   have T:=F.two hh G
   split
   ·refine wpS_bind ?_
    rw [show arrOf st=arrOf st1 from ea.symm]
    exact Zfa W L T ek λr st' sg m=>F.fin W hh q ef sg m
   ·refine wpS_bind ?_
    rw [show arrOf st=arrOf st1 from ea.symm]
    exact Zfd W L T ek λr st' sg m=>F.fin W hh q ef sg m
end
end L2
namespace L2
open PySem PySem.Spec PyProof.Rows
def Runs (b:Keyed->Keyed->Bool) (arr:Array Keyed):Nat->List (Nat×Nat×Nat)->Nat->Prop
 | s,[],e=>s=e
 | s,x::rest,e=>x.1=s/\0<x.2.1/\Rng b arr s (s+x.2.1)/\Runs b arr (s+x.2.1) rest e
section
variable {b:Keyed->Keyed->Bool} {arr arr':Array Keyed}
theorem Runs.le:∀ {p:List (Nat×Nat×Nat)} {s e:Nat},Runs b arr s p e->s+p.length<=e
 | [],s,e,h=>by have h:s=e:=h;simp [h]
 | x::p,s,e,h=>by
  have:=Runs.le h.2.2.2
  have:=h.2.1
  rw [List.length_cons]
  omega
theorem Runs.app:∀ {u v:List (Nat×Nat×Nat)} {s e:Nat},Runs b arr s (u++v) e↔∃ m,Runs b arr s u m/\Runs b arr m v e
 | [],v,s,e=>⟨λh=>⟨s,rfl,h⟩,λ⟨m,h1,h2⟩=>by have h1:s=m:=h1;rw [h1];exact h2⟩
 | x::u,v,s,e=>by
  constructor
  ·rintro ⟨h1,h2,h3,h4⟩
   obtain ⟨m,k1,k2⟩:=Runs.app.mp h4
   exact ⟨m,⟨h1,h2,h3,k1⟩,k2⟩
  ·rintro ⟨m,⟨h1,h2,h3,k1⟩,k2⟩
   exact ⟨h1,h2,h3,Runs.app.mpr ⟨m,k1,k2⟩⟩
theorem Runs.keep:∀ {p:List (Nat×Nat×Nat)} {s e:Nat},Runs b arr s p e->(∀ i,s<=i->i<e->arr'[i]?=arr[i]?)->Runs b arr' s p e
 | [],_,_,h,_=>h
 | x::p,s,e,h,k=>by
  have:=Runs.le h.2.2.2
  refine ⟨h.1,h.2.1,λi j u v i1 i2 i3 e1 e2=>?_,Runs.keep h.2.2.2 λi i1 i2=>k i (by omega) i2⟩
  rw [k i i1 (by omega)] at e1
  rw [k j (by omega) (by omega)] at e2
  exact h.2.2.1 i j u v i1 i2 i3 e1 e2
theorem Runs.push {p:List (Nat×Nat×Nat)} {s lo n pw:Nat} (h:Runs b arr s p lo) (hn:0<n) (hr:Rng b arr lo (lo+n)):Runs b arr s (p++[(lo,n,pw)]) (lo+n):=
 Runs.app.mpr ⟨lo,h,rfl,hn,hr,rfl⟩
theorem Runs.two {p:List (Nat×Nat×Nat)} {i e sa na pw sb nb pw':Nat} (h:Runs b arr 0 p e) (h1:p[i]?=some (sa,na,pw)) (h2:p[i+1]?=some (sb,nb,pw')) :
  sb=sa+na/\0<na/\0<nb/\sb+nb<=e/\Rng b arr sa sb/\Rng b arr sb (sb+nb) /\
   ((∀ i,i<sa\/sb+nb<=i->arr'[i]?=arr[i]?)->Rng b arr' sa (sb+nb)->Runs b arr' 0 ((p.set i (sa,na+nb,pw)).eraseIdx (i+1)) e):=by
 obtain ⟨l1,e1⟩:=List.getElem?_eq_some_iff.mp h1
 obtain ⟨l2,e2⟩:=List.getElem?_eq_some_iff.mp h2
 have d:p=p.take i++(sa,na,pw)::(sb,nb,pw')::p.drop (i+2):=by
  conv=>lhs;rw [<-List.take_append_drop i p,List.drop_eq_getElem_cons l1,e1,List.drop_eq_getElem_cons l2,e2]
 have hl:(p.take i).length=i:=by rw [List.length_take];omega
 generalize p.take i=u at d hl
 generalize p.drop (i+2)=v at d
 subst d
 obtain ⟨m,k1,k2,k3,k4,k5,k6,k7,k8⟩:=Runs.app.mp h
 have k2:sa=m:=k2
 have k3:0<na:=k3
 have k5:sb=m+na:=k5
 have k6:0<nb:=k6
 have k4:Rng b arr m (m+na):=k4
 have k7:Rng b arr (m+na) (m+na+nb):=k7
 have k8:Runs b arr (m+na+nb) v e:=k8
 subst k2 k5
 have k9:sa+na+nb+v.length<=e:=k8.le
 refine ⟨rfl,k3,k6,by omega,k4,k7,λho hr=>?_⟩
 have es:((u++(sa,na,pw)::(sa+na,nb,pw')::v).set i (sa,na+nb,pw)).eraseIdx (i+1)=u++(sa,na+nb,pw)::v:=by
  rw [List.set_append,if_neg (by omega),hl,Nat.sub_self,List.set_cons_zero,List.eraseIdx_append_of_length_le (by omega),hl,Nat.add_sub_cancel_left]
  rfl
 rw [es]
 refine Runs.app.mpr ⟨sa,k1.keep λj j1 j2=>ho j (.inl j2),rfl,by show 0<na+nb;omega,by show Rng b arr' sa (sa+(na+nb));rw [<-Nat.add_assoc];exact hr,?_⟩
 show Runs b arr' (sa+(na+nb)) v e
 rw [<-Nat.add_assoc]
 exact k8.keep λj j1 j2=>ho j (.inr j1)
theorem Runs.pow:∀ {p:List (Nat×Nat×Nat)} {s e:Nat} (i:Nat) (f:Nat×Nat×Nat->Nat×Nat×Nat),(∀ x,(f x).1=x.1/\(f x).2.1=x.2.1)->Runs b arr s p e->Runs b arr s (p.modify i f) e
 | [],_,_,i,f,_,h=>by cases i <;> exact h
 | x::p,s,e,0,f,hf,h=>by
  rw [List.modify_zero_cons]
  obtain ⟨q1,q2⟩:=hf x
  refine ⟨q1.trans h.1,by rw [q2];exact h.2.1,by rw [q2];exact h.2.2.1,by rw [q2];exact h.2.2.2⟩
 | x::p,s,e,i+1,f,hf,h=>by
  rw [List.modify_succ_cons]
  exact ⟨h.1,h.2.1,h.2.2.1,Runs.pow i f hf h.2.2.2⟩
theorem Runs.one (W:WO b) {p:List (Nat×Nat×Nat)} {e:Nat} (h:Runs b arr 0 p e) (hl:p.length<=1):Rng b arr 0 e:=by
 match p,h,hl with
 | [],h,_=>
  have h:0=e:=h
  subst h
  intro i j x y i1 i2 i3
  omega
 | [x],h,_=>
  have h4:0+x.2.1=e:=h.2.2.2
  rw [<-h4]
  exact h.2.2.1
end
end L2
namespace L2
open PySem PySem.Spec PyProof.Rows
section
variable {M:Model} {A:Around} {E:Value->Shared->Prop} {s:Shared} {kd:SortKind} {b:Keyed->Keyed->Bool} {good:Keyed->Prop}
structure SI (b:Keyed->Keyed->Bool) (kd:SortKind) (st0 st:SortSt) (lo:Nat):Prop where
 ki:kindOf st=kd
 fa:failedOf st=none
 pm:(arrOf st).Perm (arrOf st0)
 ru:Runs b (arrOf st) 0 (pendingOf st).toList lo
theorem SI.size {st0 st:SortSt} {lo:Nat} (h:SI b kd st0 st lo):(arrOf st).size=(arrOf st0).size:=h.pm.size_eq
theorem SI.merge (W:WO b) (L:ZcU M A E s kd b good) {st0 st:SortSt} {lo i:Nat} {Q:Bool->SortSt->Prop} (G:AllG good (arrOf st0)) (h:SI b kd st0 st lo) (hlo:lo<=(arrOf st0).size) (hi:i+1<(pendingOf st).size)
  (q:∀ st',SI b kd st0 st' lo->(pendingOf st').size+1=(pendingOf st).size->(∀ i,lo<=i->(arrOf st')[i]?=(arrOf st)[i]?)->Q true st'):wpS M A E s (mergeAt' i) Q st:=by
 obtain ⟨⟨sa,na,pw⟩,p1⟩:∃ x,(pendingOf st)[i]?=some x:=⟨_,Array.getElem?_eq_getElem (by omega)⟩
 obtain ⟨⟨sb,nb,pw'⟩,p2⟩:∃ x,(pendingOf st)[i+1]?=some x:=⟨_,Array.getElem?_eq_getElem hi⟩
 have two:=λarr'=>Runs.two (arr':=arr') h.ru (by rw [Array.getElem?_toList];exact p1) (by rw [Array.getElem?_toList];exact p2)
 obtain ⟨t1,t2,t3,t4,t5,t6,_⟩:=two (arrOf st)
 have hsz:=h.size
 refine Zfg W L h.ki h.fa (G.perm h.pm) p1 p2 t1 t2 t3 (by omega) t5 t6 λst' k1 k2 k3 k4 k5 k6=>?_
 have e0:arrOf (setPending st (((pendingOf st).setIfInBounds i (sa,na+nb,pw)).eraseIdxIfInBounds (i+1)))=arrOf st:=rfl
 rw [e0] at k4 k5
 have e1:pendingOf st'=((pendingOf st).setIfInBounds i (sa,na+nb,pw)).eraseIdxIfInBounds (i+1):=k2
 have e2:(pendingOf st').toList=((pendingOf st).toList.set i (sa,na+nb,pw)).eraseIdx (i+1):=by
  rw [e1,Array.toList_eraseIdxIfInBounds,Array.toList_setIfInBounds]
 refine q st' ⟨k1.trans h.ki,k3.trans h.fa,k4.trans h.pm,?_⟩ ?_ λj hj=>k5 j (.inr (by omega))
 ·rw [e2]
  exact (two (arrOf st')).2.2.2.2.2.2 k5 k6
 ·have:=congrArg List.length e2
  rw [Array.length_toList,List.length_eraseIdx,List.length_set,Array.length_toList,if_pos hi] at this
  omega
theorem ZcV (W:WO b) (L:ZcU M A E s kd b good) {st:SortSt} {Q:Unit->SortSt->Prop} (hs:kindOf st=kd) (hf:failedOf st=none) (hp:pendingOf st=#[]) (G:AllG good (arrOf st))
  (q:∀ st',(arrOf st').Perm (arrOf st)->failedOf st'=none->Rng b (arrOf st') 0 (arrOf st).size->Q () st'):wpS M A E s sortRuns' Q st:=by
 rw [sortRuns'_eq]
 refine wpS_bind (wpS_get ?_)
 dsimp only
 generalize hsz:(arrOf st).size=size at q
 generalize minRun' size size 0=minrun
 refine wpS_bind (wpS_mono (Q:=λr st1=>r=(none,size)/\SI b kd st st1 size) (wpS_forRange (λk r st1=>∃ lo,r=(none,lo)/\k<=lo/\lo<=size/\SI b kd st st1 lo) ?_ ?_ ⟨0,rfl,Nat.le_refl _,Nat.zero_le _,hs,hf,.refl _,by rw [hp];rfl⟩) ?_)
 ·rintro k r st1 _ hk ⟨lo,rfl,k1,k2,I⟩
  dsimp only
  split
  ·have:lo=size:=by omega
   subst this
   exact wpS_pure ⟨rfl,I⟩
  ·rename_i hlo
   have s1:(arrOf st1).size=size:=I.size.trans hsz
   refine wpS_bind (ZdZ W L I.ki (G.perm I.pm) (by omega) (by omega) λn st2 ah n1 n2 n3=>?_)
   have I2:SI b kd st st2 lo:=⟨ah.kd.trans I.ki,ah.fa.trans I.fa,ah.pm.trans I.pm,by rw [ah.pe];exact I.ru.keep λi _ hi=>ah.lw i hi⟩
   dsimp only
   have pushed:∀ st3 n,SI b kd st st3 lo->0<n->Rng b (arrOf st3) lo (lo+n)->SI b kd st (setPending st3 ((pendingOf st3).push (lo,n,0))) (lo+n):=by
    intro st3 n I3 n1 n3
    refine ⟨I3.ki,I3.fa,I3.pm,?_⟩
    show Runs b (arrOf st3) 0 ((pendingOf st3).push (lo,n,0)).toList (lo+n)
    rw [Array.toList_push]
    exact I3.ru.push n1 n3
   have pow:∀ st3 pw,SI b kd st st3 lo->SI b kd st (setPending st3 ((pendingOf st3).modify ((pendingOf st3).size-1) λx=>(x.1,x.2.1,pw))) lo:=by
    intro st3 pw I3
    refine ⟨I3.ki,I3.fa,I3.pm,?_⟩
    show Runs b (arrOf st3) 0 ((pendingOf st3).modify ((pendingOf st3).size-1) λx=>(x.1,x.2.1,pw)).toList lo
    rw [Array.toList_modify]
    exact I3.ru.pow _ _ λx=>⟨rfl,rfl⟩
   split
   ·rename_i hmr
    refine wpS_bind (wpS_lift (wpAny_rule ⟨rfl,?_⟩))
    have s2:(arrOf st2).size=size:=I2.size.trans hsz
    refine wpS_bind (Zgm W L I2.ki (G.perm I2.pm) (by omega) n1 (by omega) n3 λst3 ah3 r3=>?_)
    have I3:SI b kd st st3 lo:=⟨ah3.kd.trans I2.ki,ah3.fa.trans I2.fa,ah3.pm.trans I2.pm,by rw [ah3.pe];exact I2.ru.keep λi _ hi=>ah3.lw i hi⟩
    rw [show (!true)=false from rfl,if_neg Bool.false_ne_true]
    have hN:1<=min (size-lo) minrun/\lo+min (size-lo) minrun<=size:=by omega
    clear hmr
    generalize min (size-lo) minrun=N at r3 hN
    refine wpS_bind (wpS_get ?_)
    cases hbk:(pendingOf st3).back? with
    | none=>exact wpS_bind (wpS_modify (wpS_pure ⟨_,rfl,by omega,by omega,pushed st3 _ I3 (by omega) r3⟩))
    | some x=>
     obtain ⟨s1,n1,pw1⟩:=x
     dsimp only
     refine wpS_bind (wpS_mono (Q:=λr st4=>r=(none,())/\SI b kd st st4 lo/\∀ i,lo<=i->(arrOf st4)[i]?=(arrOf st3)[i]?) (wpS_forRange (λ_ r st4=>r=(none,())/\SI b kd st st4 lo/\∀ i,lo<=i->(arrOf st4)[i]?=(arrOf st3)[i]?) ?_ (λ_ _ z=>z) ⟨rfl,I3,λ_ _=>rfl⟩) ?_)
     ·rintro k' r st4 _ hk' ⟨rfl,I4,same⟩
      refine wpS_bind (wpS_get ?_)
      by_cases hz:(pendingOf st4).size > 1
      ·obtain ⟨⟨z1,z2,z3⟩,pz⟩:∃ x,(pendingOf st4)[(pendingOf st4).size-2]?=some x:=⟨_,Array.getElem?_eq_getElem (by omega)⟩
       rw [if_pos hz,pz]
       dsimp only
       split
       ·exact wpS_pure ⟨rfl,I4,same⟩
       ·refine wpS_bind (I4.merge W L G (by omega) (by omega) λst5 I5 _ same5=>?_)
        rw [show (!true)=false from rfl,if_neg Bool.false_ne_true]
        exact wpS_pure ⟨rfl,I5,λi hi=>(same5 i hi).trans (same i hi)⟩
      ·rw [if_neg hz]
       exact wpS_pure ⟨rfl,I4,same⟩
     ·rintro r st4 ⟨rfl,I4,same⟩
      dsimp only
      refine wpS_bind (wpS_modify (wpS_bind (wpS_modify (wpS_pure ⟨_,rfl,by omega,by omega,?_⟩))))
      refine pushed _ _ (pow st4 _ I4) (by omega) λi j x y i1 i2 i3 e1 e2=>?_
      have e1:(arrOf st4)[i]?=some x:=e1
      have e2:(arrOf st4)[j]?=some y:=e2
      rw [same i i1] at e1
      rw [same j (by omega)] at e2
      exact r3 i j x y i1 i2 i3 e1 e2
   ·have hN:1<=n/\lo+n<=size:=by omega
    refine wpS_bind (wpS_get ?_)
    cases hbk:(pendingOf st2).back? with
    | none=>exact wpS_bind (wpS_modify (wpS_pure ⟨_,rfl,by omega,by omega,pushed st2 _ I2 (by omega) n3⟩))
    | some x=>
     obtain ⟨s1,n1,pw1⟩:=x
     dsimp only
     refine wpS_bind (wpS_mono (Q:=λr st4=>r=(none,())/\SI b kd st st4 lo/\∀ i,lo<=i->(arrOf st4)[i]?=(arrOf st2)[i]?) (wpS_forRange (λ_ r st4=>r=(none,())/\SI b kd st st4 lo/\∀ i,lo<=i->(arrOf st4)[i]?=(arrOf st2)[i]?) ?_ (λ_ _ z=>z) ⟨rfl,I2,λ_ _=>rfl⟩) ?_)
     ·rintro k' r st4 _ hk' ⟨rfl,I4,same⟩
      refine wpS_bind (wpS_get ?_)
      by_cases hz:(pendingOf st4).size > 1
      ·obtain ⟨⟨z1,z2,z3⟩,pz⟩:∃ x,(pendingOf st4)[(pendingOf st4).size-2]?=some x:=⟨_,Array.getElem?_eq_getElem (by omega)⟩
       rw [if_pos hz,pz]
       dsimp only
       split
       ·exact wpS_pure ⟨rfl,I4,same⟩
       ·refine wpS_bind (I4.merge W L G (by omega) (by omega) λst5 I5 _ same5=>?_)
        rw [show (!true)=false from rfl,if_neg Bool.false_ne_true]
        exact wpS_pure ⟨rfl,I5,λi hi=>(same5 i hi).trans (same i hi)⟩
      ·rw [if_neg hz]
       exact wpS_pure ⟨rfl,I4,same⟩
     ·rintro r st4 ⟨rfl,I4,same⟩
      dsimp only
      refine wpS_bind (wpS_modify (wpS_bind (wpS_modify (wpS_pure ⟨_,rfl,by omega,by omega,?_⟩))))
      refine pushed _ _ (pow st4 _ I4) (by omega) λi j x y i1 i2 i3 e1 e2=>?_
      have e1:(arrOf st4)[i]?=some x:=e1
      have e2:(arrOf st4)[j]?=some y:=e2
      rw [same i i1] at e1
      rw [same j (by omega)] at e2
      exact n3 i j x y i1 i2 i3 e1 e2
 ·rintro r st1 ⟨lo,rfl,k1,k2,I⟩
  have:lo=size:=by simp at k1;omega
  subst this
  exact ⟨rfl,I⟩
 ·rintro r st1 ⟨rfl,I⟩
  dsimp only
  refine wpS_bind (wpS_mono (Q:=λr st2=>r=(none,())/\SI b kd st st2 size/\(pendingOf st2).size<=1) (wpS_forRange (λk r st2=>r=(none,())/\SI b kd st st2 size/\(pendingOf st2).size+k<=size+1) ?_ ?_ ⟨rfl,I,?_⟩) ?_)
  ·rintro k r st2 _ hk ⟨rfl,I2,hz⟩
   refine wpS_bind (wpS_get ?_)
   split
   ·rename_i h1
    exact wpS_pure ⟨rfl,I2,h1⟩
   ·rename_i h1
    generalize hi:(if Option.any _ _=true then (pendingOf st2).size-2-1 else (pendingOf st2).size-2)=i
    have hi2:i+1<(pendingOf st2).size:=by
     rw [<-hi]
     have key:∀ (c:Prop) [Decidable c] (m:Nat),(if c then m-1 else m)<=m:=λc _ m=>by split <;> omega
     refine Nat.lt_of_le_of_lt (Nat.succ_le_succ (key _ ((pendingOf st2).size-2))) ?_
     omega
    refine wpS_bind (I2.merge W L G (by omega) hi2 λst3 I3 h3 _=>?_)
    rw [show (!true)=false from rfl,if_neg Bool.false_ne_true]
    exact wpS_pure ⟨rfl,I3,by omega⟩
  ·rintro r st2 ⟨rfl,I2,hz⟩
   exact ⟨rfl,I2,by simp at hz;omega⟩
  ·have:=I.ru.le
   rw [Array.length_toList] at this
   omega
  ·rintro r st2 ⟨rfl,I2,h1⟩
   refine wpS_pure (q st2 I2.pm I2.fa ?_)
   exact I2.ru.one W (by rw [Array.length_toList];exact h1)
end
end L2
namespace L2
open PySem PySem.Spec PyProof.Rows
section
variable {prog:Program} {w:World} {A:Around} {E:Value->Shared->Prop} {s:Shared} {kd:SortKind} {b:Keyed->Keyed->Bool} {good:Keyed->Prop}
def Zcs (s:Shared) (a:Addr) (vs:List Value):Shared:={ s with heap:=((s.heap.update a (Obj.mapSeq λ_=>#[])).push (seqObj "tuple" vs.toArray 0)).push (seqObj "list" #[] 0) }
theorem Zhq (W:WO b) {arr:Array Keyed} (h:arr.size<2):Rng b arr 0 arr.size:=λi j x y i1 i2 i3 e1 e2=>by
 have:i=j:=by omega
 subst this
 rw [e1] at e2;cases e2
 exact W.le_refl _
theorem Zd0 {a:Addr} {vs:List Value} {n:Nat} {P:PySem.Fin->Shared->Prop} (W:WO b) (ha:s.heap.get? a=some (seqObj "list" vs.toArray n)) (hz:vs.length<=sizeLine) (hg:∀ v∈vs,good (v,v))
  (hk:2<=vs.length->∀ {E':Value->Shared->Prop} {R:SortKind->Shared->Prop},R kd (Zcs s a vs)->wpAny (model prog w) A (keyKind' vs.toArray) R E' (Zcs s a vs)) (L:ZcU (model prog w) A E (Zcs s a vs) kd b good)
  (q:∀ out:Array Keyed,out.Perm (pairsOf vs)->Rng b out 0 vs.length->P (.done (.ret .none)) { s with heap:=sortedHeap s.heap a vs (out.map (·.2)) }) :
  wpAny (model prog w) A (Builtin.«list.sort» { pos:=[.ref a] }) P E s:=by
 rw [list_sort_plain]
 refine wpAny_bind (listItems_at ha rfl ?_)
 refine wpAny_bind (listUpdate_at ha rfl ?_ (by rw [List.size_toArray];exact hz) (Nat.zero_le _))
 have ha1:=get?_update_seq ha (λ_=>#[])
 generalize (if ((#[]:Array Value).size == vs.toArray.size)=true then n else n+1)=n1 at ha1
 refine wpAny_bind (seqEpoch_at ha1 rfl ?_)
 refine wpAny_bind (wpAny_newTuple ?_ hz)
 refine wpAny_bind (wpAny_newList ?_ (Nat.zero_le _))
 refine wpAny_holding ?_
 have ha2:(Zcs s a vs).heap.get? a=some (seqObj "list" #[] n1):=Heap.get?_push_of_some _ (Heap.get?_push_of_some _ ha1)
 show wpAny (model prog w) A _ P E (Zcs s a vs)
 have hps:(pairsOf vs).size=vs.length:=pairsOf_size vs
 dsimp only [List.size_toArray]
 split
 ·rename_i h2
  have h2:vs.length<2:=by simpa using h2
  refine wpAny_bind (wpAny_pure ?_)
  refine wpAny_bind (wpAny_mono (Q:=λr s'=>s'=Zcs s a vs/\failedOf r.2=none/\(arrOf r.2).Perm (pairsOf vs)/\Rng b (arrOf r.2) 0 vs.length) (wpAny_pure ⟨rfl,rfl,.refl _,?_⟩) ?_ (λ_ _ z=>z))
  ·have:=Zhq W (arr:=pairsOf vs) (by omega)
   rw [hps] at this
   exact this
  ·rintro ⟨_,st⟩ s' ⟨rfl,e2,hp,hr⟩
   dsimp only
   refine wpAny_bind (seqEpoch_at ha2 rfl ?_)
   have e2:failedOf st=none:=e2
   have hl:((arrOf st).map (·.2)).size<=sizeLine+1:=by
    have this:(arrOf st).size=(pairsOf vs).size:=hp.size_eq
    rw [pairsOf_size] at this
    rw [Array.size_map]
    omega
   refine wpAny_bind (listUpdate_at ha2 rfl ?_ (Nat.zero_le _) hl)
   have:(n1 != n1)=false:=by simp
   rw [this,e2]
   exact wpAny_pure (q (arrOf st) hp hr)
 ·rename_i h2
  have h2:¬ vs.length<2:=by simpa using h2
  refine wpAny_bind (hk (by omega) ?_)
  refine wpAny_bind (wpAny_mono (Q:=λr s'=>s'=Zcs s a vs/\failedOf r.2=none/\(arrOf r.2).Perm (pairsOf vs)/\Rng b (arrOf r.2) 0 vs.length) ?_ ?_ (λ_ _ z=>z))
  ·refine ZcV (st:=SortSt.mk' kd (vs.toArray.zip vs.toArray) #[] 7 none) (Q:=λ_ st=>failedOf st=none/\(arrOf st).Perm (pairsOf vs)/\Rng b (arrOf st) 0 vs.length) W L rfl rfl rfl (λx hx=>?_) λst' k1 k2 k3=>⟨k2,k1,?_⟩
   ·have hx:x∈(pairsOf vs).toList:=hx
    rw [pairsOf_toList] at hx
    obtain ⟨e,hm⟩:=mem_zip_self hx
    obtain ⟨x1,x2⟩:=x
    have e:x1=x2:=e
    subst e
    exact hg _ hm
   ·have e:(arrOf (SortSt.mk' kd (vs.toArray.zip vs.toArray) #[] 7 none)).size=vs.length:=hps
    rw [e] at k3
    exact k3
  ·rintro ⟨_,st⟩ s' ⟨rfl,e2,hp,hr⟩
   dsimp only
   refine wpAny_bind (seqEpoch_at ha2 rfl ?_)
   have e2:failedOf st=none:=e2
   have hl:((arrOf st).map (·.2)).size<=sizeLine+1:=by
    have this:(arrOf st).size=(pairsOf vs).size:=hp.size_eq
    rw [pairsOf_size] at this
    rw [Array.size_map]
    omega
   refine wpAny_bind (listUpdate_at ha2 rfl ?_ (Nat.zero_le _) hl)
   have:(n1 != n1)=false:=by simp
   rw [this,e2]
   exact wpAny_pure (q (arrOf st) hp hr)
theorem Zct {h:Heap} {a c:Addr} {o:Obj} {f:Obj->Obj} (hc:c≠a) (e:h.get? c=some o):(h.update a f).get? c=some o:=(Heap.get?_update_ne h c a f hc).trans e
theorem Zgn {l:Addr} {vs:List Value} {Q:Value->Shared->Prop} (W:WO b) (hl:s.heap.IsList l vs.toArray) (hz:vs.length<=sizeLine) (hg:∀ v∈vs,good (v,v))
  (hk:∀ h':Heap,(∀ c o,s.heap.get? c=some o->h'.get? c=some o)->2<=vs.length->∀ {E':Value->Shared->Prop} {R:SortKind->Shared->Prop},R kd { s with heap:=h' }->wpAny (model prog w) A.in1.in1 (keyKind' vs.toArray) R E' { s with heap:=h' })
  (L:∀ h':Heap,(∀ c o,s.heap.get? c=some o->h'.get? c=some o)->ZcU (model prog w) A.in1.in1 E { s with heap:=h' } kd b good)
  (q:∀ out:Array Keyed,out.Perm (pairsOf vs)->Rng b out 0 vs.length->Q (.ref (s.heap.objs.size+1)) { s with heap:=sortedAll s.heap vs (out.map (·.2)) }) :
  wpAny (model prog w) A (call (.builtin "sorted") [.ref l]) Q E s:=by
 refine Calls.call_function_entry kind_sorted plain_sorted entry_sorted (args_sorted1 _) ?_
 unfold Builtin.sorted
 refine wpAny_bind (wpAny_pure ?_)
 refine wpAny_bind (collect_list hl ?_ hz)
 refine wpAny_bind (wpAny_newList ?_ hz)
 refine wpAny_bind (wpAny_holding ?_)
 generalize hh1:(s.heap.push (seqObj "list" #[] 0)).update s.heap.objs.size (Obj.mapSeq λx=>x++vs.toArray)=h1
 have sz1:h1.objs.size=s.heap.objs.size+1:=by rw [<-hh1,Heap.size_update,Heap.size_push]
 have k1:∀ c o,s.heap.get? c=some o->h1.get? c=some o:=λc o e=>by
  rw [<-hh1]
  exact Zct (Nat.ne_of_lt (Heap.lt_size e)) (Heap.get?_push_of_some _ e)
 generalize hh2:h1.push { cls:=Value.type "list", data:=Data.seq vs.toArray }=h2
 have ha:h2.get? h1.objs.size=some (seqObj "list" vs.toArray 0):=by rw [<-hh2];exact Heap.get?_push_size _ rfl
 have k2:∀ c o,s.heap.get? c=some o->h2.get? c=some o:=λc o e=>by
  rw [<-hh2]
  exact Heap.get?_push_of_some _ (k1 c o e)
 have k3:∀ c o,s.heap.get? c=some o->(Zcs { s with heap:=h2 } h1.objs.size vs).heap.get? c=some o:=λc o e=>by
  unfold Zcs
  refine Heap.get?_push_of_some _ (Heap.get?_push_of_some _ (Zct ?_ (k2 c o e)))
  have:=Heap.lt_size e
  rw [sz1]
  exact Nat.ne_of_lt (Nat.lt_succ_of_lt this)
 refine wpAny_call_entry (s:={ s with heap:=h2 }) slot_list_sort ⟨_,ha,rfl⟩ entry_list_sort ?_ (args_list_sort _)
 refine Zd0 (s:={ s with heap:=h2 }) W ha hz hg (λh=>hk _ k3 h) (L _ k3) λout p r=>⟨.none,rfl,wpAny_pure ⟨_,rfl,?_⟩⟩
 have e:({ s with heap:=sortedHeap h2 h1.objs.size vs (out.map (·.2)) }:Shared)={ s with heap:=sortedAll s.heap vs (out.map (·.2)) }:=by
  unfold sortedAll
  rw [sz1,<-hh2,<-hh1]
 show Q (.ref h1.objs.size) { s with heap:=sortedHeap h2 h1.objs.size vs (out.map (·.2)) }
 rw [e,sz1]
 exact q out p r
def ZpN:Keyed->Keyed->Bool:=λx y=>match x.1,y.1 with
 | .int i _,.int j _=>decide (i<j)
 | _,_=>false
def ZpO (x:Keyed):Prop:=∃ i t,x.1=.int i t
def ZpP:Value->Int
 | .int i _=>i
 | _=>0
end
end L2
namespace L2
open PySem PySem.Spec PyProof.Rows
def Zb1:List Int->List Int->Bool
 | [],[]=>false
 | [],_::_=>true
 | _::_,[]=>false
 | x::xs,y::ys=>if x=y then Zb1 xs ys else decide (x<y)
section
variable {prog:Program} {w:World} {A:Around} {E:Value->Shared->Prop} {s:Shared}
theorem Zd1:∀ {its:List Value} {ns:List Int},IntsAre its ns->∀ k:Nat,(its[k]?=none/\ns.drop k=[])\/∃ i t,its[k]?=some (.int i t)/\ns.drop k=i::ns.drop (k+1)
 | _,_,.nil,k=>.inl ⟨by simp,by simp⟩
 | _,_,.cons n t h,0=>.inr ⟨n,t,rfl,rfl⟩
 | _,_,.cons n t h,k+1=>by
  rcases Zd1 h k with ⟨h1,h2⟩ | ⟨i,t,h1,h2⟩
  ·exact .inl ⟨by simpa using h1,by simpa using h2⟩
  ·exact .inr ⟨i,t,by simpa using h1,by simpa using h2⟩
theorem ZbX {its:List Value} {ns:List Int} (h:IntsAre its ns):its.length=ns.length:=by
 induction h with
 | nil=>rfl
 | cons n t h ih=>simp [ih]
theorem Zkn {a c:Addr} {oa oc:Obj} {xs ys:List Value} {ns ms:List Int} {na nc:Nat} {R:Result->Shared->Prop} (ga:s.heap.get? a=some oa) (gc:s.heap.get? c=some oc) (da:oa.data=.seq xs.toArray na) (dc:oc.data=.seq ys.toArray nc) (hx:IntsAre xs ns) (hy:IntsAre ys ms) :
  ∀ left k:Nat,ns.length-k=left->k<=ns.length->k<=ms.length->R (.ok (.ret (.bool (Zb1 (ns.drop k) (ms.drop k))))) s->codeAny (model prog w) A (.builtin "list.__eq__.loop" { pos:=[.ref a,.ref c,rawInt (k:Int),rawInt 0] }) R s:=by
 intro left
 induction left with
 | zero=>
  intro k hl h1 h2 hR
  refine codeAny_builtin MeetsSeq3.entry_eq_loop ?_
  rw [Around.under_plainId MeetsSeq3.plain_eq_loop _]
  show wpAny _ A.in1 (Builtin.List.listItems (.ref a) >>= _) _ _ s
  refine wpAny_bind (listItems_at ga da (wpAny_bind (listItems_at gc dc ?_)))
  have e1:xs.toArray[((k:Int)).toNat]?=none:=by
   rw [Int.toNat_natCast]
   rcases Zd1 hx k with ⟨h,_⟩ | ⟨i,t,h,_⟩
   ·simpa using h
   ·have:=(List.getElem?_eq_some_iff.mp h).1
    have:=ZbX hx
    omega
  rw [e1]
  show wpAny _ A.in1 (Builtin.List.listItems (.ref a) >>= _) _ _ s
  refine wpAny_bind (listItems_at ga da (wpAny_bind (listItems_at gc dc (wpAny_pure ?_))))
  show R (.ok (.ret (.bool (decide (xs.toArray.size<ys.toArray.size))))) s
  have e2:Zb1 (ns.drop k) (ms.drop k)=decide (xs.toArray.size<ys.toArray.size):=by
   rw [List.size_toArray,List.size_toArray,ZbX hx,ZbX hy]
   have:ns.drop k=[]:=List.drop_of_length_le (by omega)
   rw [this]
   cases hd:ms.drop k with
   | nil=>
    have:=List.drop_eq_nil_iff.mp hd
    rw [decide_eq_false (by omega)]
    rfl
   | cons y l=>
    have:k<ms.length:=by
     refine Nat.lt_of_not_le λh=>?_
     rw [List.drop_of_length_le h] at hd
     cases hd
    rw [decide_eq_true (by omega)]
    rfl
  rw [<-e2]
  exact hR
 | succ left ih=>
  intro k hl h1 h2 hR
  refine codeAny_builtin MeetsSeq3.entry_eq_loop ?_
  rw [Around.under_plainId MeetsSeq3.plain_eq_loop _]
  show wpAny _ A.in1 (Builtin.List.listItems (.ref a) >>= _) _ _ s
  refine wpAny_bind (listItems_at ga da (wpAny_bind (listItems_at gc dc ?_)))
  rw [Int.toNat_natCast]
  rcases Zd1 hx k with ⟨h,z⟩ | ⟨i,t,hi,di⟩
  ·have:=List.drop_eq_nil_iff.mp z
   omega
  ·have e1:xs.toArray[k]?=some (.int i t):=by simpa using hi
   rw [e1]
   rcases Zd1 hy k with ⟨h,z⟩ | ⟨j,u,hj,dj⟩
   ·have e2:ys.toArray[k]?=none:=by simpa using h
    rw [e2]
    show wpAny _ A.in1 (Builtin.List.listItems (.ref a) >>= _) _ _ s
    refine wpAny_bind (listItems_at ga da (wpAny_bind (listItems_at gc dc (wpAny_pure ?_))))
    show R (.ok (.ret (.bool (decide (xs.toArray.size<ys.toArray.size))))) s
    rw [di,z] at hR
    have:=List.drop_eq_nil_iff.mp z
    rw [List.size_toArray,List.size_toArray,ZbX hx,ZbX hy,decide_eq_false (by omega)]
    exact hR
   ·have e2:ys.toArray[k]?=some (.int j u):=by simpa using hj
    rw [e2]
    rw [di,dj] at hR
    show wpAny _ A.in1 (eqBool (.int i t) (.int j u) >>= _) _ _ s
    refine wpAny_bind (wpAny_eqBool_int ?_)
    have kl:k<ms.length:=by
     have:=(List.getElem?_eq_some_iff.mp hj).1
     rw [ZbX hy] at this
     exact this
    by_cases hij:i=j
    ·rw [show (i == j)=true by rw [hij];exact beq_self_eq_true _,if_pos rfl]
     refine wpAny_pure ⟨plainId_quiet MeetsSeq3.plain_eq_loop _,ih (k+1) (by omega) (by omega) (by omega) ?_⟩
     unfold Zb1 at hR
     rw [if_pos hij] at hR
     exact hR
    ·rw [show (i == j)=false by rw [beq_eq_false_iff_ne];exact hij,if_neg Bool.false_ne_true]
     refine wpAny_bind (listItems_at ga da (wpAny_bind (listItems_at gc dc ?_)))
     rw [e1,e2]
     refine wpAny_bind (lt_int (wpAny_pure ?_))
     unfold Zb1 at hR
     rw [if_neg hij] at hR
     exact hR
theorem ZfR (a c:Addr) (xs ys:List Value) (ns ms:List Int) (na nc:Nat) (hx:IntsAre xs ns) (hy:IntsAre ys ms):Meets (Builtin.«list.__lt__» { pos:=[.ref a,.ref c] }) λA R s=>
  s.heap.IsList a xs.toArray/\s.heap.IsList c ys.toArray/\R (.ok (.ret (.bool (Zb1 ns ms)))) s:=by
 intro prog w A R s ⟨ha,hc,hR⟩
 obtain ⟨oa,ga,ca,n1,da⟩:=ha
 obtain ⟨oc,gc,cc,n2,dc⟩:=hc
 show wpAny _ A.in1 (isInstance (.ref c) (.type "list") >>= _) _ _ s
 refine wpAny_bind (wpAny_isInstance (T := "list") ⟨oc,gc,cc⟩ (by first | rfl | decide +kernel) ?_)
 refine wpAny_pure ⟨plainId_quiet MeetsSeq3.plain_eq_loop _,?_⟩
 exact Zkn ga gc da dc hx hy _ 0 rfl (Nat.zero_le _) (Nat.zero_le _) hR
theorem Zgo {a c:Addr} {xs ys:List Value} {ns ms:List Int} {Q:Bool->Shared->Prop} (ha:s.heap.IsList a xs.toArray) (hc:s.heap.IsList c ys.toArray) (hx:IntsAre xs ns) (hy:IntsAre ys ms) (hu:A.units<cLine) (h:Q (Zb1 ns ms) s) :
  wpAny (model prog w) A (oneLt' true (.ref a) (.ref c)) Q E s:=by
 rw [oneLt'_eq]
 dsimp only
 rw [if_pos rfl]
 refine wpAny_bind (wpAny_cRoom hu ?_)
 have Ta:s.TypeIs (.ref a) "list" := ha.elim λo z=>⟨o,z.1,z.2.1⟩
 refine wpAny_bind (wpAny_callSpecialIfBound?_slot Ta F.slot_list_lt (call_meets F.slot_list_lt Ta F.entry_list_lt (F.args_list_lt_2 _ _) (ZfR a c xs ys ns ms 0 0 hx hy) ⟨ha,hc,?_⟩))
 show wpAny _ A (truthOfDropped (.bool (Zb1 ns ms))) Q E s
 exact wpAny_truthy_bool h
end
end L2
namespace L2
open PySem PySem.Spec PyProof.Rows Classical
theorem ZfS:∀ xs:List Int,Zb1 xs xs=false
 | []=>rfl
 | x::xs=>by
  unfold Zb1
  rw [if_pos rfl]
  exact ZfS xs
theorem Zhr:∀ {xs ys zs:List Int},Zb1 xs ys=true->Zb1 ys zs=true->Zb1 xs zs=true
 | [],[],_,h,_=>by simp [Zb1] at h
 | [],_::_,[],_,h=>by simp [Zb1] at h
 | [],_::_,_::_,_,_=>rfl
 | _::_,[],_,h,_=>by simp [Zb1] at h
 | _::_,_::_,[],_,h=>by simp [Zb1] at h
 | x::xs,y::ys,z::zs,h1,h2=>by
  unfold Zb1 at h1 h2 ⊢
  by_cases e1:x=y
  ·rw [if_pos e1] at h1
   by_cases e2:y=z
   ·rw [if_pos e2] at h2
    rw [if_pos (e1.trans e2)]
    exact Zhr h1 h2
   ·rw [if_neg e2] at h2
    rw [if_neg (by rw [e1];exact e2),e1]
    exact h2
  ·rw [if_neg e1] at h1
   have h1:=of_decide_eq_true h1
   by_cases e2:y=z
   ·rw [if_neg (by rw [<-e2];exact e1),<-e2]
    exact decide_eq_true h1
   ·rw [if_neg e2] at h2
    have h2:=of_decide_eq_true h2
    rw [if_neg (by omega)]
    exact decide_eq_true (by omega)
theorem Zd2:∀ {xs ys:List Int},Zb1 xs ys=false->Zb1 ys xs=false->xs=ys
 | [],[],_,_=>rfl
 | [],_::_,h,_=>by simp [Zb1] at h
 | _::_,[],_,h=>by simp [Zb1] at h
 | x::xs,y::ys,h1,h2=>by
  unfold Zb1 at h1 h2
  by_cases e:x=y
  ·rw [if_pos e] at h1
   rw [if_pos e.symm] at h2
   rw [e,Zd2 h1 h2]
  ·rw [if_neg e] at h1
   rw [if_neg (Ne.symm e)] at h2
   have h1:=of_decide_eq_false h1
   have h2:=of_decide_eq_false h2
   omega
theorem ZlS {α:Type} {κ:Keyed->α} {lt:α->α->Bool} (irr:∀ a,lt a a=false) (tr:∀ {a b c},lt a b=true->lt b c=true->lt a c=true) (tot:∀ {a b},lt a b=false->lt b a=false->a=b):WO (λx y=>lt (κ x) (κ y)):=by
 refine ⟨λx=>irr _,λx y z=>tr,λx y z h=>?_⟩
 cases h1:lt (κ x) (κ y) with
 | true=>exact .inl rfl
 | false=>
  cases h2:lt (κ y) (κ x) with
  | true=>exact .inr (tr h2 h)
  | false=>
   rw [<-tot h1 h2]
   exact .inr h
theorem Zhs {α β:Type} {f:α->β}:∀ {l:List β} {zs:List α},l.Perm (zs.map f)->∃ zs':List α,zs'.Perm zs/\zs'.map f=l:=by
 intro l zs h
 generalize hm:zs.map f=m at h
 induction h generalizing zs with
 | nil=>exact ⟨zs,.refl _,by rw [hm]⟩
 | @cons x l1 l2 _ ih=>
  cases zs with
  | nil=>simp at hm
  | cons z zs=>
   simp at hm
   obtain ⟨zs',h1,h2⟩:=ih hm.2
   exact ⟨z::zs',h1.cons z,by rw [List.map_cons,h2,hm.1]⟩
 | swap x y l=>
  cases zs with
  | nil=>simp at hm
  | cons z zs=>
   cases zs with
   | nil=>simp at hm
   | cons z2 zs=>
    simp at hm
    exact ⟨z2::z::zs,.swap _ _ _,by simp [hm.1,hm.2.1,hm.2.2]⟩
 | trans _ _ ih1 ih2=>
  obtain ⟨zs1,h1,h2⟩:=ih2 hm
  obtain ⟨zs2,h3,h4⟩:=ih1 h2
  exact ⟨zs2,h3.trans h1,h4⟩
section
variable {prog:Program} {w:World} {A:Around} {E:Value->Shared->Prop} {s:Shared} {b:Keyed->Keyed->Bool} {good:Keyed->Prop}
theorem ZiF (h:∀ x y,good x->good y->∀ {E':Value->Shared->Prop} {Q:Bool->Shared->Prop},Q (b x y) s->wpAny (model prog w) A (oneLt' true x.1 y.1) Q E' s):ZcU (model prog w) A E s oneType' b good:=by
 intro x y st Q gx gy hs q
 rw [lt'_eq]
 refine wpS_bind (wpS_get ?_)
 refine wpS_bind (wpS_lift ?_)
 rw [hs,keyLt'_oneType]
 exact wpAny_attempt (h x y gx gy ⟨rfl,wpS_pure q⟩)
theorem ZcJ {β:Type} {f:Value->Sem β} {g:Value->β}:∀ {vs:List Value} {Q:List β->Shared->Prop},(∀ v∈vs,∀ {Q:β->Shared->Prop},Q (g v) s->wpAny (model prog w) A (f v) Q E s)->Q (vs.map g) s->wpAny (model prog w) A (List.mapM f vs) Q E s
 | [],Q,_,q=>by
  rw [List.mapM_nil]
  exact wpAny_pure q
 | v::vs,Q,h,q=>by
  rw [List.mapM_cons]
  refine wpAny_bind (h v (List.mem_cons_self ..) ?_)
  exact wpAny_bind (ZcJ (λu hu=>h u (List.mem_cons_of_mem _ hu)) (wpAny_pure q))
theorem ZeE {α β:Type} {m:Sem α} {f:α->β} {Q:β->Shared->Prop} (h:wpAny (model prog w) A m (λa s'=>Q (f a) s') E s):wpAny (model prog w) A (f <$> m) Q E s:=by
 rw [map_eq_pure_bind]
 exact wpAny_bind (wpAny_mono h (λa s' z=>wpAny_pure z) λ_ _ z=>z)
theorem Zfh {T:String} {vs:List Value} {R:SortKind->Shared->Prop} (hT:T ≠ "tuple") (h:∀ v∈vs,s.TypeIs v T) (h2:2<=vs.length) (q:R oneType' s):wpAny (model prog w) A (keyKind' vs.toArray) R E s:=by
 rw [keyKind'_eq,List.mapM_toArray]
 have ne:(Value.type T != Value.type "tuple")=true:=by
  rw [bne_iff_ne]
  intro e
  injection e with e
  exact hT e
 refine wpAny_bind (ZeE (ZcJ (g:=λ_=>none) (λv hv Q q=>?_) ?_))
 ·show wpAny _ _ (typeOf v >>= _) _ _ s
  refine wpAny_bind (wpAny_typeOf (h v hv) ?_)
  rw [if_pos ne]
  exact wpAny_pure q
 ·obtain ⟨v1,v2,rest,rfl⟩:∃ v1 v2 rest,vs=v1::v2::rest:=by
   match vs,h2 with
   | v1::v2::rest,_=>exact ⟨v1,v2,rest,rfl⟩
  rw [if_neg (by simp)]
  rw [if_neg (by simp)]
  rw [oneTypeOnly'_eq,List.mapM_toArray]
  refine wpAny_bind (wpAny_bind (ZeE (ZcJ (g:=λ_=>Value.type T) (λv hv Q q=>wpAny_typeOf (h v hv) q) ?_)))
  simp only [List.map_cons,List.getElem?_toArray,List.getElem?_cons_zero]
  refine wpAny_pure ?_
  rw [if_pos (by simp)]
  exact wpAny_pure q
end
end L2
namespace L2
open PySem PySem.Spec PyProof.Rows Classical
def ltI (x y:Int):Bool:=decide (x<y)
theorem ZeF {b:Keyed->Keyed->Bool} {out:Array Keyed} {n:Nat} (h:Rng b out 0 n) (hn:out.size=n):out.toList.Pairwise (kle b):=by
 rw [List.pairwise_iff_getElem]
 intro i j hi hj hij
 rw [Array.length_toList] at hi hj
 exact h i j _ _ (Nat.zero_le _) (by omega) (by omega) (by simp [hi]) (by simp [hj])
theorem ZiG {vs:List Value} {out:Array Keyed} (h:out.Perm (pairsOf vs)):(out.map (·.2)).toList.Perm vs/\(∀ x∈out.toList,x.1=x.2/\x.1∈vs)/\out.size=vs.length:=by
 have p:out.toList.Perm (vs.zip vs):=by
  have:=h.toList
  rw [pairsOf_toList] at this
  exact this
 refine ⟨?_,λx hx=>mem_zip_self (p.mem_iff.mp hx),by rw [h.size_eq,pairsOf_size]⟩
 rw [Array.toList_map]
 have:=p.map (λx:Keyed=>x.2)
 rw [show (vs.zip vs).map (λx:Keyed=>x.2)=vs from List.map_snd_zip (Nat.le_refl _)] at this
 exact this
noncomputable def Zko (h:Heap) (v:Value):List Int:=if q:∃ ns a its,v=.ref a/\h.IsList a its/\IntsAre its.toList ns then choose q else []
theorem ZfT:∀ {its:List Value} {ns ms:List Int},IntsAre its ns->IntsAre its ms->ns=ms
 | _,_,_,.nil,.nil=>rfl
 | _,_,_,.cons n t h,.cons _ _ k=>by rw [ZfT h k]
theorem Zgp {h:Heap} {a:Addr} {xs ys:Array Value} (h1:h.IsList a xs) (h2:h.IsList a ys):xs=ys:=by
 obtain ⟨o,e,_,n,d⟩:=h1
 obtain ⟨o',e',_,n',d'⟩:=h2
 rw [e] at e';cases e'
 rw [d] at d';cases d'
 rfl
theorem Zd3 {h:Heap} {a:Addr} {its:Array Value} {ns:List Int} (hl:h.IsList a its) (hi:IntsAre its.toList ns):Zko h (.ref a)=ns:=by
 have q:∃ ns a' its,Value.ref a=.ref a'/\h.IsList a' its/\IntsAre its.toList ns:=⟨ns,a,its,rfl,hl,hi⟩
 unfold Zko
 rw [dif_pos q]
 obtain ⟨a',its',e,h1,h2⟩:=choose_spec q
 cases e
 have:=Zgp hl h1
 subst this
 exact ZfT h2 hi
theorem Zkp (h:Heap):WO (λx y=>Zb1 (Zko h x.1) (Zko h y.1)):=ZlS (κ:=λx:Keyed=>Zko h x.1) (lt:=Zb1) ZfS Zhr Zd2
section
variable {X:Cx} (K:PySem.W.Frag)
def Zoj:List V->Hp->VK->Prop:=λxs H Q=>∃ (p:Addr) (ns:List Int),xs=[.ref p]/\SqL K H p (ns.map V.int)/\∀ (l:Addr) (ns':List Int),H l=none->ns'.Perm ns->ns'.Pairwise (· <= ·)->Q (.ref l) (upd H l (.lst (ns'.map V.int)))
def Zkq:List V->Hp->VK->Prop:=λxs H Q=>∃ (p:Addr) (zs:List (Addr×List Int)),xs=[.ref p]/\SqL K H p (zs.map λz=>V.ref z.1)/\(∀ z∈zs,SqL K H z.1 (z.2.map V.int)) /\
 ∀ (l:Addr) (zs':List (Addr×List Int)),H l=none->zs'.Perm zs->(zs'.map (·.2)).Pairwise (λa b=>Zb1 b a=false)->Q (.ref l) (upd H l (.lst (zs'.map λz=>V.ref z.1)))
theorem ZfU:∀ {zs:List (Addr×List Int)} {its:List Value},Vals (zs.map λz=>V.ref z.1) its->its=zs.map λz=>Value.ref z.1
 | [],_,h=>by cases h;rfl
 | z::zs,_,h=>by
  cases h with
  | cons r h=>
   cases r
   rw [ZfU h]
   rfl
theorem ZeG:∀ (zs:List (Addr×List Int)),Vals (zs.map λz=>V.ref z.1) (zs.map λz=>Value.ref z.1)
 | []=>.nil
 | z::zs=>.cons rfl (ZeG zs)
theorem Zkr (hu:X.A.units+64<cLine) (h:X.K=K:=by rfl):ZbB X (.builtin "sorted") (Zkq K):=by
 subst h
 intro pins s σ H xs us Q I rv h
 obtain ⟨p,zs,rfl,hq,hz,q⟩:=h
 obtain ⟨u,rfl,ru⟩:=rv.one
 cases ru
 obtain ⟨its,r,pl,hzl⟩:=I.list hq
 have hl:=r.length
 rw [List.length_map] at hl hzl
 have ei:=ZfU r
 have key:∀ z∈zs,∃ its:Array Value,s.heap.IsList z.1 its/\IntsAre its.toList z.2:=λz hzm=>by
  obtain ⟨iz,rz,pz,_⟩:=I.list (hz z hzm)
  exact ⟨iz.toArray,pz.isList,ZbQ rz⟩
 have isL:∀ v∈its,∃ a,∃ it:Array Value,∃ ns,v=.ref a/\s.heap.IsList a it/\IntsAre it.toList ns:=λv hv=>by
  rw [ei] at hv
  obtain ⟨z,hzm,rfl⟩:=List.mem_map.mp hv
  obtain ⟨it,h1,h2⟩:=key z hzm
  exact ⟨z.1,it,z.2,rfl,h1,h2⟩
 have keepL:∀ {h':Heap} {a:Addr} {it:Array Value},(∀ c o,s.heap.get? c=some o->h'.get? c=some o)->s.heap.IsList a it->h'.IsList a it:=λk hl=>by
  obtain ⟨o,e,r⟩:=hl
  exact ⟨o,k _ _ e,r⟩
 refine Zgn (good:=λx=>∃ a,∃ it:Array Value,∃ ns,x.1=.ref a/\s.heap.IsList a it/\IntsAre it.toList ns) (Zkp s.heap) pl.isList (by omega) isL (λh' k h2 E' R q=>?_) (λh' k=>ZiF λx y gx gy E' Q q=>?_) λout hp hr=>?_
 ·refine Zfh (T := "list") (by decide) (λv hv=>?_) h2 q
  obtain ⟨a,it,ns,rfl,h1,_⟩:=isL v hv
  obtain ⟨o,e,c,_⟩:=keepL k h1
  exact ⟨o,e,c⟩
 ·obtain ⟨a,it,ns,e1,h1,h2⟩:=gx
  obtain ⟨c,jt,ms,e2,h3,h4⟩:=gy
  simp only [e1,e2,Zd3 h1 h2,Zd3 h3 h4] at q ⊢
  exact Zgo (xs:=it.toList) (ys:=jt.toList) (keepL k h1) (keepL k h3) h2 h4 (by rw [Around.in1_units,Around.in1_units];omega) q
 ·obtain ⟨o1,o2,o3⟩:=ZiG hp
  obtain ⟨e,he⟩:=sortedAll_at s.heap its (out.map (·.2))
  rw [ei] at o1
  obtain ⟨zs',p1,p2⟩:=Zhs o1
  have ps:(zs'.map (·.2)).Pairwise (λa b=>Zb1 b a=false):=by
   have a1:=ZeF hr o3
   have a2:(out.toList.map (·.2)).Pairwise (λu v=>Zb1 (Zko s.heap v) (Zko s.heap u)=false):=by
    rw [List.pairwise_map]
    refine a1.imp_of_mem λ{x y} hx hy hxy=>?_
    rw [<-(o2 x hx).1,<-(o2 y hy).1]
    exact hxy
   rw [Array.toList_map] at p2
   rw [<-p2,List.pairwise_map] at a2
   rw [List.pairwise_map]
   refine a2.imp_of_mem λ{x y} hx hy hxy=>?_
   obtain ⟨it,h1,h2⟩:=key x (p1.mem_iff.mp hx)
   obtain ⟨jt,h3,h4⟩:=key y (p1.mem_iff.mp hy)
   rw [Zd3 h1 h2,Zd3 h3 h4] at hxy
   exact hxy
  refine ⟨.ref _,_,I.laid (a:=s.heap.objs.size+1) (t':=s.toks) (o:=.lst (zs'.map λz=>V.ref z.1)) (λb o e=>sortedAll_old e) (Nat.le_succ _) ⟨by rw [List.length_map,p1.length_eq];exact hzl,(out.map (·.2)).toList,e,by rw [<-p2];exact ZeG zs',he⟩,rfl,q _ _ (I.hok.fresh (Nat.le_succ _)) p1 ps⟩
end
end L2
namespace L2
open PySem PySem.Spec PyProof.Rows
section
variable {prog:Program} {w:World} {A:Around} {E:Value->Shared->Prop} {s:Shared}
theorem Zks {l:Addr} {a b c:Value} {Q:List Value->Shared->Prop} (hh:A.handled=none) (hl:s.heap.IsList l #[a,b,c]) (hQ:∀ h',(∀ d o,s.heap.get? d=some o->h'.get? d=some o)->Q [a,b,c] { s with heap:=h' }) :
  wpAny (model prog w) A (unpackItems (.ref l) 3 none) Q E s:=by
 have ty:=hl.typeIs
 have lk:=slot_list_iter.lookup
 have hlt:l<s.heap.objs.size:=by obtain ⟨o,e,_⟩:=hl;exact Heap.lt_size e
 have ne:l≠s.heap.objs.size:=Nat.ne_of_lt hlt
 have pu:∀ d o,s.heap.get? d=some o->(s.heap.push { cls:=.type "list_iterator", data:=.fields #[.ref l,.int 0 0] }).get? d=some o:=λd o=>Heap.get?_push_of_some _
 have li:∀ h:Heap,(∀ d o,d≠s.heap.objs.size->(s.heap.push { cls:=.type "list_iterator", data:=.fields #[.ref l,.int 0 0] }).get? d=some o->h.get? d=some o)->h.IsList l #[a,b,c]:=λh k=>hl.at λo e=>k l o ne (pu l o e)
 unfold unpackItems
 refine wpAny_bind ?_
 unfold notIterableAtAll
 refine wpAny_bind (wpAny_specialOf ty lk (wpAny_pure ?_))
 refine wpAny_bind (wpAny_holding (wpAny_pyIter_list hl ?_))
 refine wpAny_bind (wpAny_holding ?_)
 unfold draw
 refine wpAny_bind (wpAny_pyNext_list_item ⟨_,Heap.get?_push_size _ rfl,rfl,rfl⟩ (li _ λ_ _ _ e=>e) (i:=0) rfl λh1 i1 s1=>?_)
 refine wpAny_bind (wpAny_holding ?_)
 unfold draw
 refine wpAny_bind (wpAny_pyNext_list_item i1 (li _ λd o hd e=>by rw [s1.2 d hd];exact e) (i:=1) rfl λh2 i2 s2=>?_)
 refine wpAny_bind (wpAny_holding ?_)
 unfold draw
 refine wpAny_bind (wpAny_pyNext_list_item i2 (li _ λd o hd e=>by rw [s2.2 d hd,s1.2 d hd];exact e) (i:=2) rfl λh3 i3 s3=>?_)
 refine wpAny_bind (wpAny_holding ?_)
 unfold draw
 refine wpAny_pure (wpAny_pure (wpAny_pure (wpAny_pure ?_)))
 rw [if_neg (by simp)]
 refine wpAny_bind (wpAny_holding (wpAny_pyNext_list_end hh i3 (li _ λd o hd e=>by rw [s3.2 d hd,s2.2 d hd,s1.2 d hd];exact e) rfl λh4 x4=>?_))
 rw [if_neg (by simp)]
 exact wpAny_pure (hQ h4 λd o e=>x4 d o (Nat.ne_of_lt (Heap.lt_size e)) (by have hd:=Nat.ne_of_lt (Heap.lt_size e);rw [s3.2 d hd,s2.2 d hd,s1.2 d hd];exact pu d o e))
theorem Zkt {l:Addr} {a b c:Value} {Q:Unit->Shared->Prop} {es:List Expr} {k:Nat} {pos:Pos} {env:Env} (hh:A.handled=none) (hl:s.heap.IsList l #[a,b,c])
 (hn:(assignEach es env).length=3) (hst:(assignEach es env).findIdx? (·.1)=none)
 (hQ:∀ h',(∀ d o,s.heap.get? d=some o->h'.get? d=some o)->wpAny (model prog w) A (assignInOrder ((assignEach es env).map (·.2)) [a,b,c]) Q E { s with heap:=h' }) :
  wpAny (model prog w) A (assign (.Tuple es k pos) env (.ref l)) Q E s:=by
 rw [arm_assign_Tuple]
 refine wpAny_bind (wpAny_standAt ?_)
 unfold unpack
 rw [hn,hst]
 exact wpAny_bind (wpAny_holding (Zks hh hl hQ))
end
section
variable {X:Cx}
def ZnA (K:PySem.W.Frag) (t:TGs):TG:=λv σ H Q=>∃ (l:Addr) (x y z:V),v=.ref l/\SqL K H l [x,y,z]/\t [x,y,z] σ H Q
theorem ZlT (K:PySem.W.Frag) {es:List Expr} {k:Nat} {t:TGs} {pos:Pos} (hc:X.calm=true) (h:PGs X es t) (hK:X.K=K:=by rfl)
  (hn:(assignEach es X.env).length=3:=by rfl) (hst:(assignEach es X.env).findIdx? (·.1)=none:=by rfl):PG X (.Tuple es k pos) (ZnA K t):=by
 subst hK
 intro pins s σ H v u Q I r hw
 obtain ⟨l,x,y,z,e1,hq,hw⟩:=hw
 subst e1
 cases r
 obtain ⟨its,rv,pl,hz⟩:=I.list hq
 obtain ⟨a,b,c,e3⟩:∃ a b c,its=[a,b,c]:=by
  have:=rv.length
  match its,this with
  | [a,b,c],_=>exact ⟨a,b,c,rfl⟩
 subst e3
 exact Zkt (I.ok.hd hc) pl.isList hn hst λh' k=>h pins _ σ H _ _ Q (I.kept (t':=s.toks) λb o e=>k b o e) rv hw
theorem ZlU (K:PySem.W.Frag) (hu:X.A.units<cLine) (h:X.K=K:=by rfl):OpR X (compareOp .Lt) (λx y H Q=>∃ a b ns ms,x=.ref a/\y=.ref b/\SqL K H a (ns.map V.int)/\SqL K H b (ms.map V.int)/\Q (.bl (Zb1 ns ms)) H):=by
 subst h
 intro pins s σ H x y v u Q I rx ry h
 obtain ⟨a,b,ns,ms,rfl,rfl,ha,hb,q⟩:=h
 cases rx
 cases ry
 obtain ⟨its,r1,p1,_⟩:=I.list ha
 obtain ⟨its2,r2,p2,_⟩:=I.list hb
 have l1:=p1.isList
 have l2:=p2.isList
 exact wpAny_richCompare_same_room (op:=.Lt) l1.typeIs l2.typeIs F.slot_list_lt (call_meets F.slot_list_lt l1.typeIs F.entry_list_lt (F.args_list_lt_2 _ _) (ZfR a b its its2 ns ms 0 0 (ZbQ r1) (ZbQ r2)) ⟨l1,l2,(λe=>nomatch e),.bl (Zb1 ns ms),H,I,rfl,q⟩) hu
end
end L2
namespace M
open PySem L2
def top (i:Nat):Stmt:=PySem.Challenge.pw_onceways_k11_three_hundred_ways.main.body.getD i (.Pass ⟨0,0,0,0⟩)
abbrev sIs:Stmt:=top 16
abbrev Zku:Stmt:=top 17
abbrev Zkv:Stmt:=top 18
abbrev Zkw:Stmt:=top 21
abbrev Zjm:Stmt:=top 22
abbrev Zkx:Stmt:=top 23
abbrev Zfi:Stmt:=top 24
abbrev Zjn:Stmt:=top 25
abbrev ZiH:Stmt:=top 26
abbrev Zjo:Stmt:=top 27
abbrev Zky:Stmt:=top 28
abbrev Zkz:Stmt:=top 29
abbrev Zfj:Stmt:=top 31
abbrev Zfk:Stmt:=top 32
abbrev ZeH:Stmt:=top 33
abbrev Zjp:Stmt:=top 34
abbrev Zht:Stmt:=top 35
abbrev Zjq:Stmt:=top 36
abbrev ZkA:Stmt:=top 37
abbrev Zjr:Stmt:=top 38
abbrev Zh2:Stmt:=top 39
abbrev ZkB:Stmt:=top 40
abbrev ZkC:Stmt:=top 41
abbrev ZkD:Stmt:=top 42
abbrev ZkE:Stmt:=top 43
abbrev ZkF:Stmt:=top 44
abbrev Zjs:Stmt:=top 45
abbrev ZiI:Stmt:=top 46
section
variable {P:Program} {w:World} {K:PySem.W.Frag} {mg:Str->Option Value} {base:Heap}
theorem ZbK {p:Nat} {a:Int} (h:a.natAbs<2 ^ p:=by decide +kernel):Lt2 p a:=h
def Zjt:Sp:=λvs H Q _=>∃ (c k:Int),vs=[.int c,.int k]/\1<=k/\k<=3/\∀ r:Int,0<=r->Lt2 210 r->Q (.int r) H
theorem scStir:Zav ["cell", "k", "number"] ["cell", "k"] (Zaf Zfj):=⟨rfl,rfl,rfl,by decide +kernel,rfl,by decide +kernel,by decide +kernel⟩
theorem ZkG {f:Addr} {fd:FuncData} (F:Fun K "_law_stir" "_law_stir" Zfj f fd):ZaO P w K mg base CX0 1 f fd ["cell", "k"] Zjt:=by
 refine F.ok scStir (λvs H Q E h=>?_) (λcdv A outer s H vs Q E hr h=>?_)
 ·obtain ⟨c,k,rfl,_⟩:=h
  rfl
 ·obtain ⟨c,k,rfl,h1,h2,q⟩:=h
  refine ⟨_,Zag (Zax (i:=2) scStir.nd rfl (Or.inl rfl)
    (Zas ZaL (Zas ZaL (Zas ZbG (Zas ZgD (pv 0) (Zas ZcO Zad Zad)) Zad) (Zas ZbG (Zas ZbG (Zas ZcO Zad Zad) (Zas ZaL (pv 1) Zad)) (Zas ZaL (pv 1) Zad))) (pv 1)))
   (Zag (Zax (i:=2) scStir.nd rfl (Or.inl rfl) (Zas ZaL (Zas ZbG (pv 2) (pv 2)) (Zas ZbG Zad (pv 2))))
   (Zai (Zau (Zas ZfC (Zas ZgD (Zas ZbG (pv 2) (pv 2)) (Zas ZaL (Zas ZcO Zad Zad) Zad)) Zad)))),?_⟩
  have b1:Lt2 133 (10 ^ 40:Int):=ZbK
  have m1:Lt2 133 (c % (10 ^ 40:Int)):=Lt2.mod (by decide) b1
  have k1:Lt2 3 (k+1):=by show (k+1).natAbs<2 ^ 3;omega
  have k2:Lt2 150 k:=by show k.natAbs<2 ^ 150;omega
  have t1:Lt2 96 (3 ^ 60:Int):=ZbK
  have c1:Lt2 16 (48271:Int):=ZbK
  have n1:=((m1.mul c1).mono (show 133+16<=149 by decide)).add (((t1.mul k1).mul k1).mono (show 96+3+3<=149 by decide))
  have n2:=n1.add k2
  have c2:Lt2 17 (69621:Int):=ZbK
  have n3:=((n2.mul n2).mono (show 151+151<=302 by decide)).add ((c2.mul n2).mono (show 17+151<=302 by decide))
  refine ⟨_,rfl,_,_,rfl,rfl,⟨by decide,by decide,by decide⟩,_,_,rfl,rfl,(by show (0:Int)<10 ^ 40;decide),_,_,rfl,rfl,⟨133,16,m1,c1,by decide,by decide⟩,?_⟩
  refine ⟨_,_,rfl,rfl,⟨by decide,by decide,by decide⟩,_,rfl,_,_,rfl,rfl,_,_,rfl,rfl,⟨96,3,t1,k1,by decide,by decide⟩,_,rfl,_,_,rfl,rfl,_,_,rfl,rfl,⟨99,3,t1.mul k1,k1,by decide,by decide⟩,_,_,rfl,rfl,_,rfl,_,_,rfl,rfl,?_⟩
  refine ⟨_,rfl,_,rfl,_,_,rfl,rfl,⟨151,151,n2,n2,by decide,by decide⟩,_,rfl,_,_,rfl,rfl,⟨17,151,c2,n2,by decide,by decide⟩,_,_,rfl,rfl,?_⟩
  have md:Lt2 204 ((10:Int) ^ 61+7):=ZbK
  refine ⟨_,rfl,_,rfl,_,_,rfl,rfl,⟨303,303,n3,n3,by decide,by decide⟩,_,_,rfl,rfl,⟨by decide,by decide,by decide⟩,_,_,rfl,rfl,_,_,rfl,rfl,(by show (0:Int)<10 ^ 61+7;decide),_,_,rfl,rfl,⟨by decide,ZbK⟩,?_⟩
  have z0:=Int.emod_nonneg (b:=(10:Int) ^ 61+7) ((((c % 10 ^ 40) * 48271+3 ^ 60 * (k+1) * (k+1)+k) * ((c % 10 ^ 40) * 48271+3 ^ 60 * (k+1) * (k+1)+k)+69621 * ((c % 10 ^ 40) * 48271+3 ^ 60 * (k+1) * (k+1)+k)) * (((c % 10 ^ 40) * 48271+3 ^ 60 * (k+1) * (k+1)+k) * ((c % 10 ^ 40) * 48271+3 ^ 60 * (k+1) * (k+1)+k)+69621 * ((c % 10 ^ 40) * 48271+3 ^ 60 * (k+1) * (k+1)+k))) (by decide)
  exact q _ (Int.ediv_nonneg z0 (by decide)) ((Lt2.div z0 (by decide) (Lt2.mod (by decide) md)).mono (by decide))
def Zju:Sp:=λvs H Q _=>∃ (c:Int),vs=[.int c]/\∀ (p:Addr) (n:Int),H p=none->Q (.ref p) (upd H p (.lst [.int n]))
theorem ZlV:Zav ["cell"] ["cell"] (Zaf Zfk):=⟨rfl,rfl,rfl,by decide +kernel,rfl,by decide +kernel,by decide +kernel⟩
theorem ZkH {f fS:Addr} {fd fdS:FuncData} (F:Fun K "_law_deck" "_law_deck" Zfk f fd) (FS:Fun K "_law_stir" "_law_stir" Zfj fS fdS) (bS:Binds K fdS ["cell", "k"] []) (mS:mg "_law_stir" = some (.ref fS)) :
  ZaO P w K mg base CX0 2 f fd ["cell"] Zju:=by
 have GS:ZaO P w K mg base CX0 1 fS fdS ["cell", "k"] Zjt:=ZkG FS
 refine F.ok ZlV (λvs H Q E h=>?_) (λcdv A outer s H vs Q E hr h=>?_)
 ·obtain ⟨c,rfl,_⟩:=h
  rfl
 ·obtain ⟨c,rfl,q⟩:=h
  refine ⟨_,Zag (ZaX (Zay ZjM (pv 0) (Zas ZcO Zad Zad) (ZaF _)) (Zai (Zau (ZaB (Zaa (Zas ZbC (pv 0) (Zas ZcO Zad Zad)) Zac)))) ZaC)
   (Zai (Zau (ZaB (Zaa (Zas ZaL (Zas ZbG (Zas ZaL (Zas ZbG
    (Zan GS hr rfl mS FS.kp bS .nil ZaQ (Zaa (pv 0) (Zaa Zad Zac))) (Zas ZcO Zad Zad))
    (Zan GS hr rfl mS FS.kp bS .nil ZaQ (Zaa (pv 0) (Zaa Zad Zac)))) (Zas ZcO Zad Zad))
    (Zan GS hr rfl mS FS.kp bS .nil ZaQ (Zaa (pv 0) (Zaa Zad Zac)))) Zac)))),?_⟩
  refine ⟨_,rfl,_,_,rfl,rfl,⟨by decide,by decide,by decide⟩,_,_,rfl,rfl,_,rfl,?_⟩
  refine ZcQ (λ_=>?_) (λ_=>?_)
  ·refine ⟨_,rfl,_,_,rfl,rfl,⟨by decide,by decide,by decide⟩,_,_,rfl,rfl,(by show 1<=sizeLine;decide),λp hp=>q p _ hp⟩
  ·have b1:Lt2 210 (10 ^ 60:Int):=ZbK
   refine ⟨_,rfl,c,1,rfl,by decide,by decide,λr1 h1 l1=>?_⟩
   refine ⟨_,_,rfl,rfl,⟨by decide,by decide,by decide⟩,_,_,rfl,rfl,⟨210,210,l1,b1,by decide,by decide⟩,?_⟩
   refine ⟨_,rfl,c,2,rfl,by decide,by decide,λr2 h2 l2=>?_⟩
   have l3:=((l1.mul b1).mono (show 210+210<=420 by decide)).add (l2.mono (show 210<=420 by decide))
   refine ⟨_,_,rfl,rfl,_,_,rfl,rfl,⟨by decide,by decide,by decide⟩,_,_,rfl,rfl,⟨421,210,l3,b1,by decide,by decide⟩,?_⟩
   refine ⟨_,rfl,c,3,rfl,by decide,by decide,λr3 h3 l4=>?_⟩
   exact ⟨_,_,rfl,rfl,(by show 1<=sizeLine;decide),λp hp=>q p _ hp⟩
def Zhu:Sp:=λvs H Q _=>∃ (d:Addr) (n m:Int),vs=[.ref d,.int m]/\H d=some (.lst [.int n])/\0<m/\Lt2 9000 m/\∀ n' r:Int,0<=r->r<m->Q (.int r) (upd H d (.lst [.int n']))
theorem scTake:Zav ["deck", "many", "taken"] ["deck", "many"] (Zaf ZeH):=⟨rfl,rfl,rfl,by decide +kernel,rfl,by decide +kernel,by decide +kernel⟩
theorem Zhv {f:Addr} {fd:FuncData} (F:Fun K "_law_take" "_law_take" ZeH f fd):ZaO P w K mg base CX0 1 f fd ["deck", "many"] Zhu:=by
 refine F.ok scTake (λvs H Q E h=>?_) (λcdv A outer s H vs Q E hr h=>?_)
 ·obtain ⟨d,n,m,rfl,_⟩:=h
  rfl
 ·obtain ⟨d,n,m,rfl,hd,hm,hb,q⟩:=h
  refine ⟨_,Zag (Zax (i:=2) scTake.nd rfl (Or.inl rfl) (Zas ZgD (Zaw ZeY (pv 0) Zad (λ_ _=>rfl)) (pv 1)))
   (Zag (Zfu (Zas ZfC (Zaw ZeY (pv 0) Zad (λ_ _=>rfl)) (pv 1)) (Zlj (pv 0) Zad Zh8))
   (Zai (Zau (pv 2)))),?_⟩
  refine ⟨_,rfl,d,_,_,_,rfl,rfl,SqL.of hd,Zal (j:=0) rfl,_,rfl,_,_,rfl,rfl,hm,?_⟩
  refine ⟨_,rfl,d,_,_,_,rfl,rfl,SqL.of hd,Zal (j:=0) rfl,_,rfl,_,_,rfl,rfl,⟨hm,hb⟩,?_⟩
  refine ⟨_,rfl,d,_,0,0,rfl,rfl,hd,rfl,_,rfl,?_⟩
  exact q (n / m) (n % m) (Int.emod_nonneg n (Int.ne_of_gt hm)) (Int.emod_lt_of_pos n hm)
end
theorem ZaP:2<=sizeLine:=by decide
end M
namespace M
open PySem L2
theorem Zd4 (p:Int):∀ ms:List Int,inV (.int p) (ms.map V.int)=decide (p∈ms):=by
 intro ms
 unfold inV
 induction ms with
 | nil=>rfl
 | cons m ms ih=>
  rw [List.map_cons,List.any_cons,ih]
  by_cases h1:p=m <;> by_cases h2:p∈ms <;> simp [eqV,h1,h2] <;> (try omega) <;> (try (intro z;exact h1 z.symm))
theorem Zhw (ms:List Int):(ms.map V.int).all ZdO=true:=by
 rw [List.all_map]
 exact List.all_eq_true.mpr λ_ _=>rfl
section
variable {P:Program} {w:World} {K:PySem.W.Frag} {mg:Str->Option Value} {base:Heap}
theorem ZiJ:bootBuiltins "max" = some (.builtin "max"):=by first | rfl | decide +kernel
structure WebAt (H:Hp) (wb l:Addr) (k:Int) (xs:List V) (rs:List (Int×Int)):Prop where
 w:H wb=some (.tup [.int k,.ref l])
 l:H l=some (.lst xs)
 p:Prs H xs rs
theorem WebAt.same {H H':Hp} {wb l:Addr} {k:Int} {xs:List V} {rs:List (Int×Int)} (h:WebAt H wb l k xs rs) (s:Same H H'):WebAt H' wb l k xs rs:=⟨s _ _ h.w,s _ _ h.l,h.p.same s⟩
def Zb5 (rs:List (Int×Int)) (p q:Int):Nat->Option V
 | 0=>none
 | i+1=>if rs.getD i (0,0)=(p,q)\/rs.getD i (0,0)=(q,p) then some (.int (i:Nat)) else Zb5 rs p q i
def ky (p q:Int):List Key:=[.inl p,.inl q]
theorem ky_inj {p q a b:Int}:ky p q=ky a b↔p=a/\q=b:=by
 unfold ky
 constructor
 ·intro h
  injection h with h1 h2
  injection h2 with h2 _
  exact ⟨Sum.inl.inj h1,Sum.inl.inj h2⟩
 ·rintro ⟨rfl,rfl⟩;rfl
def ZlW:Sp:=λvs H Q _=>∃ (wb l:Addr) (k:Int) (xs:List V) (rs:List (Int×Int)),vs=[.ref wb]/\WebAt H wb l k xs rs/\xs.length<=30 /\
 ∀ (d:Addr) (H':Hp) (kvs:List (List Key×V)),Same H H'->H d=none->H' d=some (.dT kvs)->(∀ p q,ZbT kvs (ky p q)=Zb5 rs p q rs.length)->Q (.ref d) H'
theorem scNbs:Zav ["web", "numbers", "number", "road"] ["web"] (Zaf Zjm):=⟨rfl,rfl,rfl,by decide +kernel,rfl,by decide +kernel,by decide +kernel⟩
theorem ZlX {f:Addr} {fd:FuncData} (F:Fun K "numbers_by_step" "numbers_by_step" Zjm f fd) (mEnum:mg "enumerate" = none):ZaO P w K mg base CX0 1 f fd ["web"] ZlW:=by
 refine F.ok scNbs (λvs H Q E h=>?_) (λcdv A outer s H vs Q E hr h=>?_)
 ·obtain ⟨_,_,_,_,_,rfl,_⟩:=h
  rfl
 ·obtain ⟨wb,l,k,xs,rs,rfl,W,hx,q⟩:=h
  have hu1:(A.deeper (PyProof.Rows.envOfC "numbers_by_step" (Zaf Zjm) s.heap.objs.size f cdv)).units+1<cLine:=by have:=hr.un;omega
  have h16:(16777216:Nat)=sizeLine:=sizeLine_eq.symm
  refine ⟨_,Zag (Zax (i:=1) scNbs.nd rfl (Or.inl rfl) Zil)
    (Zag (Zbf PassesOwn.never rfl (ZlE K rfl mEnum (Zaa (Zaw (Zck K) (pv 0) Zad (λ_ _=>rfl)) Zac)) (ZlC K (n:=2) rfl (ZaI (Zar (i:=2) scNbs.nd rfl (Or.inl rfl)) (ZaI (Zar (i:=3) scNbs.nd rfl (Or.inl rfl)) Zb7)))
    (Zag (Ze6 hu1 (pv 1) (pv 3) (pv 2) rfl)
    (Zai (Ze6 hu1 (pv 1) (ZaR (Zaa (Zaw (Zck K) (pv 3) Zad (λ_ _=>rfl)) (Zaa (Zaw (Zck K) (pv 3) Zad (λ_ _=>rfl)) Zac))) (pv 2) rfl))))
    (Zai (Zau (pv 1)))),?_⟩
  refine λd hd=>?_
  have s1:Same H (upd H d (.dT [])):=Same.new hd
  refine ⟨_,rfl,wb,_,_,_,rfl,rfl,SqT.of (s1 _ _ W.w),Zal (j:=1) rfl,l,xs,rfl,SqL.of (s1 _ _ W.l),?_⟩
  refine ZfL (K:=K) (a:=l) (xs:=xs) (λi σ H2=>∃ (v2 v3:Option V) (kvs:List (List Key×V)),σ=[some (.ref wb),some (.ref d),v2,v3]/\Same H H2/\H2 d=some (.dT kvs)/\kvs.length<=2 * i/\∀ p q,ZbT kvs (ky p q)=Zb5 rs p q i)
   ⟨none,none,[],rfl,s1,Zab,Nat.zero_le _,λ_ _=>rfl⟩ (λi σ H2 _ ⟨_,_,_,_,s2,_⟩=>SqL.of (s2 _ _ W.l)) ?_ ?_
  ·rintro i x σ H2 T hxi ⟨v2,v3,kvs,rfl,s2,e2,len,val⟩ hT
   obtain ⟨t,r,rfl,et,er⟩:=(W.same s2).p.get hxi
   have hi:i<xs.length:=(List.getElem?_eq_some_iff.mp hxi).1
   have s3:Same H (upd H2 T (.tup [.int (i:Nat),.ref t])):=s2.put (s2.free hT)
   have s23:Same H2 (upd H2 T (.tup [.int (i:Nat),.ref t])):=Same.new hT
   have hdT:d≠T:=Zae e2 hT
   refine ⟨T,_,rfl,SqT.of Zab,rfl,_,_,rfl,_,_,rfl,rfl,?_⟩
   refine ⟨_,rfl,_,rfl,_,rfl,d,_,rfl,DPut.t (k:=ky r.1 r.2) (Zak e2 hdT) (s23 _ _ et) (by omega),?_⟩
   have s4:=s3.put (o:=.dT (Zc0 kvs (ky r.1 r.2) (.int (i:Nat)))) hd
   have et4:upd (upd H2 T (.tup [.int (i:Nat),.ref t])) d (.dT (Zc0 kvs (ky r.1 r.2) (.int (i:Nat)))) t=some (.tup [.int r.1,.int r.2]):=Zak (s23 _ _ et) (Zgy (s23 _ _ et) (Zak e2 hdT) (λz=>by cases z))
   have hl1:=Zbb kvs (ky r.1 r.2) (.int (i:Nat))
   refine ⟨_,rfl,_,rfl,_,rfl,t,_,_,_,rfl,rfl,SqT.of et4,Zal (j:=1) rfl,_,rfl,t,_,_,_,rfl,rfl,SqT.of et4,Zal (j:=0) rfl,(by show 2<=sizeLine;decide),λu hu=>?_⟩
   have hdu:d≠u:=λz=>by rw [<-z,Zab] at hu;cases hu
   refine ⟨d,_,rfl,DPut.t (k:=ky r.2 r.1) (Zak Zab hdu) Zab (by omega),?_⟩
   refine ⟨_,_,_,rfl,((s4.put (s4.free hu)).put hd),Zab,?_,λp q=>?_⟩
   ·have:=Zbb (Zc0 kvs (ky r.1 r.2) (.int (i:Nat))) (ky r.2 r.1) (.int (i:Nat))
    omega
   ·rw [ZfK,ZfK,val p q]
    have e:rs.getD i (0,0)=r:=by rw [List.getD_eq_getElem?_getD,er];rfl
    show _=if rs.getD i (0,0)=(p,q)\/rs.getD i (0,0)=(q,p) then some (V.int (i:Nat)) else Zb5 rs p q i
    rw [e]
    obtain ⟨r1,r2⟩:=r
    by_cases h1:p=r2/\q=r1
    ·rw [if_pos (ky_inj.mpr h1),if_pos (.inr (by rw [h1.1,h1.2]))]
    ·rw [if_neg λz=>h1 (ky_inj.mp z)]
     by_cases h2:p=r1/\q=r2
     ·rw [if_pos (ky_inj.mpr h2),if_pos (.inl (by rw [h2.1,h2.2]))]
     ·rw [if_neg λz=>h2 (ky_inj.mp z),if_neg]
      rintro (z | z)
      ·injection z with z1 z2
       exact h2 ⟨z1.symm,z2.symm⟩
      ·injection z with z1 z2
       exact h1 ⟨z2.symm,z1.symm⟩
  ·rintro σ H2 ⟨v2,v3,kvs,rfl,s2,e2,len,val⟩
   rw [W.p.len] at val
   exact ⟨_,rfl,q d H2 kvs s2 hd e2 val⟩
def Zaj (ns:List Int) (c:Bool):List (Int×Int):=ns.zip (ns.drop 1)++(if c=true then [(ns.getD (ns.length-1) 0,ns.getD 0 0)] else [])
def ZlY:Sp:=λvs H Q _=>∃ (pl:Addr) (ns:List Int) (c:Bool),vs=[.ref pl,.bl c]/\H pl=some (.lst (ns.map V.int))/\ns.length<=100/\(c=true->ns≠[]) /\
 ∀ (S:Addr) (ws:List V) (H':Hp),Same H H'->H S=none->H' S=some (.lst ws)->Prs H' ws (Zaj ns c)->Q (.ref S) H'
theorem scSte:Zav ["places", "closed", "steps"] ["places", "closed"] (Zaf Zkx):=⟨rfl,rfl,rfl,by decide +kernel,rfl,by decide +kernel,by decide +kernel⟩
theorem Zde {ns:List Int} (h:ns≠[]):atI (ns.map V.int) (-1)=some (.int (ns.getD (ns.length-1) 0)):=by
 have hp:0<ns.length:=List.length_pos_iff.mpr h
 have e:ixN (ns.map V.int).length (-1)=some (ns.length-1):=by
  unfold ixN
  rw [if_neg (by decide),List.length_map,if_pos (by omega)]
  congr 1
  omega
 unfold atI
 rw [e]
 show (ns.map V.int)[ns.length-1]?=_
 rw [List.getElem?_map,List.getElem?_eq_getElem (show ns.length-1<ns.length by omega),List.getD_eq_getElem?_getD,List.getElem?_eq_getElem (show ns.length-1<ns.length by omega)]
 rfl
theorem ZdC {ns:List Int} {i:Int} (h0:0<=i) (h1:i<ns.length):atI (ns.map V.int) i=some (.int (ns.getD i.toNat 0)):=by
 obtain ⟨k,rfl⟩:=Int.eq_ofNat_of_zero_le h0
 have hk:k<ns.length:=by omega
 refine Zal ?_
 show (ns.map V.int)[k]?=some (.int (ns.getD k 0))
 rw [List.getElem?_map,List.getD_eq_getElem?_getD,List.getElem?_eq_getElem hk]
 rfl
theorem ZlZ {f:Addr} {fd:FuncData} (F:Fun K "steps_of" "steps_of" Zkx f fd) (mLst:mg "list" = none) (mZip:mg "zip" = none):ZaO P w K mg base CX0 1 f fd ["places", "closed"] ZlY:=by
 refine F.ok scSte (λvs H Q E h=>?_) (λcdv A outer s H vs Q E hr h=>?_)
 ·obtain ⟨_,_,_,rfl,_⟩:=h
  rfl
 ·obtain ⟨pl,ns,c,rfl,hp,hn,hc,q⟩:=h
  have h16:(16777216:Nat)=sizeLine:=sizeLine_eq.symm
  refine ⟨_,Zag (Zax (i:=2) scSte.nd rfl (Or.inl rfl) (Zgf K rfl rfl mLst rfl mZip (Zaa (pv 0) (Zaa (ZcX (kSl K) (pv 0) (ZdM Zad) ZdL) Zac))))
    (Zag (ZaX (Za3 (pv 1)) (Zai (Za2 (ZcT PySem.F.plainAttrs_list PySem.F.slot_list_append PySem.F.type_list_append Za5 (pv 2) (Zaa (ZaR (Zaa (Zaw (Zbz K) (pv 0) (ZeW Zb9 Zad) (λ_ _=>rfl)) (Zaa (Zaw (Zbz K) (pv 0) Zad (λ_ _=>rfl)) Zac))) Zac)))) ZaC)
    (Zai (Zau (pv 2)))),?_⟩
  refine ⟨_,rfl,_,rfl,_,rfl,pl,_,rfl,SqL.of hp,λp2 hp2=>?_⟩
  have s1:Same H (upd H p2 (.lst (Zed (ns.map V.int) (some 1) none))):=Same.new hp2
  have ec:Zed (ns.map V.int) (some 1) none=(ns.drop 1).map V.int:=by rw [show (some (1:Int))=some ((1:Nat):Int) from rfl,ZfG,List.map_drop]
  refine ⟨pl,p2,ns,ns.drop 1,rfl,SqL.of (s1 _ _ hp),by rw [<-ec];exact SqL.of Zab,by omega,λS ws H2 s2 hS eS pS=>?_⟩
  have s12:=s1.trans s2
  have hS0:=s1.free hS
  have lws:ws.length<=100:=by rw [pS.len,List.length_zip];omega
  refine ⟨_,rfl,c,rfl,?_⟩
  refine ZcQ (λz=>?_) (λz=>?_)
  ·have hne:=hc z
   have hpos:0<ns.length:=List.length_pos_iff.mpr hne
   refine ⟨_,rfl,.inl ⟨rfl,_,SqL.of eS⟩,_,rfl,_,rfl,pl,_,_,_,rfl,rfl,SqL.of (s12 _ _ hp),Zde hne,_,rfl,pl,_,_,_,rfl,rfl,SqL.of (s12 _ _ hp),ZdC (i:=0) (by decide) (by omega),(by show 2<=sizeLine;decide),λt ht=>?_⟩
   have hSt:S≠t:=Zae eS ht
   refine ⟨S,_,_,rfl,rfl,Zak eS hSt,by omega,?_⟩
   have s3:=(s12.put (o:=.tup [.int (ns.getD (ns.length-1) 0),.int (ns.getD 0 0)]) (s12.free ht))
   refine ⟨_,rfl,q S _ _ (s3.put hS0) hS0 Zab ?_⟩
   unfold Zaj
   rw [if_pos z]
   have tg:∀ p ys,(upd H2 t (.tup [.int (ns.getD (ns.length-1) 0),.int (ns.getD 0 0)])) p=some (.tup ys)->(upd (upd H2 t (.tup [.int (ns.getD (ns.length-1) 0),.int (ns.getD 0 0)])) S (.lst (ws++[.ref t]))) p=some (.tup ys):=λp ys e=>Zak e (Zgy e (Zak eS hSt) (λz=>by cases z))
   exact Prs.keep (Prs.snoc (pS.same (Same.new ht)) Zab) tg
  ·refine ⟨_,rfl,q S ws H2 s12 hS0 eS ?_⟩
   unfold Zaj
   rw [if_neg z,List.append_nil]
   exact pS
end
section
variable {P:Program} {w:World} {K:PySem.W.Frag} {mg:Str->Option Value} {base:Heap}
def Adj (rs:List (Int×Int)) (p q:Int):Prop:=(p,q)∈rs\/(q,p)∈rs
theorem Zcb (rs:List (Int×Int)) (p q:Int):∀ i,(Zb5 rs p q i).isSome=true↔∃ j,j<i/\(rs.getD j (0,0)=(p,q)\/rs.getD j (0,0)=(q,p))
 | 0=>⟨λh=>(by cases h),λ⟨j,hj,_⟩=>absurd hj (Nat.not_lt_zero j)⟩
 | i+1=>by
  have ih:=Zcb rs p q i
  show (if rs.getD i (0,0)=(p,q)\/rs.getD i (0,0)=(q,p) then some (V.int (i:Nat)) else Zb5 rs p q i).isSome=true↔_
  by_cases z:rs.getD i (0,0)=(p,q)\/rs.getD i (0,0)=(q,p)
  ·rw [if_pos z]
   exact ⟨λ_=>⟨i,Nat.lt_succ_self i,z⟩,λ_=>rfl⟩
  ·rw [if_neg z,ih]
   constructor
   ·rintro ⟨j,hj,e⟩
    exact ⟨j,Nat.lt_succ_of_lt hj,e⟩
   ·rintro ⟨j,hj,e⟩
    refine ⟨j,?_,e⟩
    rcases Nat.lt_or_ge j i with h | h
    ·exact h
    ·have:j=i:=by omega
     subst this
     exact absurd e z
theorem ZiK (rs:List (Int×Int)) (p q:Int):(Zb5 rs p q rs.length).isSome=true↔Adj rs p q:=by
 rw [Zcb]
 constructor
 ·rintro ⟨j,hj,e⟩
  have hm:rs.getD j (0,0)∈rs:=by
   rw [List.getD_eq_getElem?_getD,List.getElem?_eq_getElem hj]
   exact List.getElem_mem hj
  rcases e with e | e
  ·exact .inl (e▸hm)
  ·exact .inr (e▸hm)
 ·rintro (h | h)
  ·obtain ⟨j,hj,e⟩:=List.getElem_of_mem h
   exact ⟨j,hj,.inl (by rw [List.getD_eq_getElem?_getD,List.getElem?_eq_getElem hj];exact e)⟩
  ·obtain ⟨j,hj,e⟩:=List.getElem_of_mem h
   exact ⟨j,hj,.inr (by rw [List.getD_eq_getElem?_getD,List.getElem?_eq_getElem hj];exact e)⟩
def Zdf (rs:List (Int×Int)) (ns:List Int) (c:Bool):Prop:=(∀ t∈Zaj ns c,Adj rs t.1 t.2)/\ns.Nodup
end
end M
namespace M
open PySem L2
section
variable {P:Program} {w:World} {K:PySem.W.Frag} {mg:Str->Option Value} {base:Heap}
theorem ZaE {ns:List Int} {i:Nat} (h:i<ns.length):ns.getD i 0=ns[i]:=by
 rw [List.getD_eq_getElem?_getD,List.getElem?_eq_getElem h]
 rfl
theorem zip_mem {ns:List Int} {t:Int×Int}:t∈ns.zip (ns.drop 1)↔∃ j,j+1<ns.length/\t=(ns.getD j 0,ns.getD (j+1) 0):=by
 constructor
 ·intro h
  obtain ⟨j,hj,e⟩:=List.getElem_of_mem h
  rw [List.length_zip,List.length_drop] at hj
  have h1:j+1<ns.length:=by omega
  refine ⟨j,h1,?_⟩
  rw [<-e,List.getElem_zip,List.getElem_drop,ZaE (by omega),ZaE h1]
  congr 2
  omega
 ·rintro ⟨j,hj,rfl⟩
  have h1:j<(ns.zip (ns.drop 1)).length:=by rw [List.length_zip,List.length_drop];omega
  have e:(ns.zip (ns.drop 1))[j]=(ns.getD j 0,ns.getD (j+1) 0):=by
   rw [List.getElem_zip,List.getElem_drop,ZaE (by omega),ZaE hj]
   congr 2
   omega
  rw [<-e]
  exact List.getElem_mem h1
theorem Zbg {ns:List Int} {i:Nat} (h:i<ns.length):ns.getD i 0∈ns:=by
 rw [ZaE h]
 exact List.getElem_mem h
theorem ZbY {ns:List Int} (nd:ns.Nodup) {i j:Nat} (hi:i<ns.length) (hj:j<ns.length) (h:i≠j):ns.getD i 0≠ns.getD j 0:=by
 rw [ZaE hi,ZaE hj]
 exact λe=>h ((List.getElem_inj nd).mp e)
def Mt (rs:List (Int×Int)) (p q:Int) (j:Nat):Prop:=rs.getD j (0,0)=(p,q)\/rs.getD j (0,0)=(q,p)
theorem Zcu {rs:List (Int×Int)} {j:Nat} (h:j<rs.length):rs.getD j (0,0)∈rs:=by
 rw [List.getD_eq_getElem?_getD,List.getElem?_eq_getElem h]
 exact List.getElem_mem h
theorem Zcv {rs:List (Int×Int)} (nd:rs.Nodup) {i j:Nat} (hi:i<rs.length) (hj:j<rs.length) (h:rs.getD i (0,0)=rs.getD j (0,0)):i=j:=by
 rw [List.getD_eq_getElem?_getD,List.getElem?_eq_getElem hi,List.getD_eq_getElem?_getD,List.getElem?_eq_getElem hj] at h
 exact (List.getElem_inj nd).mp h
theorem Zl0 {k:Int} {rs:List (Int×Int)} (g:Zah k rs) {p q:Int} {i j:Nat} (hi:i<rs.length) (hj:j<rs.length) (a:Mt rs p q i) (b:Mt rs p q j):i=j:=by
 have gi:=(g.2.2.2.1 _ (Zcu hi)).2.1
 have gj:=(g.2.2.2.1 _ (Zcu hj)).2.1
 rcases a with a | a <;> rcases b with b | b
 ·exact Zcv g.2.2.2.2 hi hj (a.trans b.symm)
 ·rw [a] at gi;rw [b] at gj;dsimp only at gi gj;omega
 ·rw [a] at gi;rw [b] at gj;dsimp only at gi gj;omega
 ·exact Zcv g.2.2.2.2 hi hj (a.trans b.symm)
theorem Zdg {k:Int} {rs:List (Int×Int)} (g:Zah k rs) {p q:Int} {j:Nat} (m:Mt rs p q j):∀ i,j<i->i<=rs.length->Zb5 rs p q i=some (.int (j:Nat))
 | 0,h,_=>absurd h (Nat.not_lt_zero j)
 | i+1,h,hl=>by
  show (if rs.getD i (0,0)=(p,q)\/rs.getD i (0,0)=(q,p) then some (V.int (i:Nat)) else Zb5 rs p q i)=_
  by_cases z:rs.getD i (0,0)=(p,q)\/rs.getD i (0,0)=(q,p)
  ·rw [if_pos z,Zl0 g (i:=i) (j:=j) (by omega) (by omega) z m]
  ·rw [if_neg z]
   refine Zdg g m i ?_ (by omega)
   rcases Nat.lt_or_ge j i with h' | h'
   ·exact h'
   ·have:j=i:=by omega
    subst this
    exact absurd m z
theorem Zjv {rs:List (Int×Int)} {p q:Int} (h:Adj rs p q):∃ j,j<rs.length/\Mt rs p q j:=by
 obtain ⟨j,hj,e⟩:=(Zcb rs p q rs.length).mp ((ZiK rs p q).mpr h)
 exact ⟨j,hj,e⟩
def ZeI (rs:List (Int×Int)) (t:Int×Int):Int:=match Zb5 rs t.1 t.2 rs.length with
 | some (.int j)=>j
 | _=>0
theorem Zhx {k:Int} {rs:List (Int×Int)} (g:Zah k rs) {t:Int×Int} {j:Nat} (hj:j<rs.length) (m:Mt rs t.1 t.2 j):ZeI rs t=(j:Int):=by
 unfold ZeI
 rw [Zdg g m rs.length hj (Nat.le_refl _)]
theorem Zjw {ns:List Int} {i:Nat} (h:i+1<ns.length) (hz:i<(ns.zip (ns.drop 1)).length):(ns.zip (ns.drop 1))[i]=(ns.getD i 0,ns.getD (i+1) 0):=by
 rw [List.getElem_zip,List.getElem_drop,ZaE (by omega),ZaE h]
 congr 2
 omega
theorem Zgq {ns:List Int} {c:Bool} (nd:ns.Nodup) (hc:c=true->3<=ns.length):(Zaj ns c).Pairwise (λt u=>¬ (t=u\/t=(u.2,u.1))):=by
 unfold Zaj
 have zl:(ns.zip (ns.drop 1)).length=ns.length-1:=by rw [List.length_zip,List.length_drop];omega
 have hz:(ns.zip (ns.drop 1)).Pairwise (λt u=>¬ (t=u\/t=(u.2,u.1))):=by
  rw [List.pairwise_iff_getElem]
  intro i j hi hj hij
  rw [Zjw (by omega) hi,Zjw (by omega) hj]
  rintro (e | e)
  ·injection e with e1 e2
   exact ZbY nd (i:=i) (j:=j) (by omega) (by omega) (by omega) e1
  ·injection e with e1 e2
   exact ZbY nd (i:=i) (j:=j+1) (by omega) (by omega) (by omega) e1
 cases c with
 | false=>rw [if_neg (by decide),List.append_nil];exact hz
 | true=>
  have h3:=hc rfl
  rw [if_pos rfl,List.pairwise_append]
  refine ⟨hz,List.pairwise_singleton _ _,λt ht u hu=>?_⟩
  rw [List.mem_singleton] at hu
  subst hu
  obtain ⟨i,hi,rfl⟩:=zip_mem.mp ht
  rintro (e | e)
  ·injection e with e1 e2
   exact ZbY nd (i:=i) (j:=ns.length-1) (by omega) (by omega) (by omega) e1
  ·injection e with e1 e2
   by_cases h0:i=0
   ·subst h0
    exact ZbY nd (i:=0+1) (j:=ns.length-1) (by omega) (by omega) (by omega) e2
   ·exact ZbY nd (i:=i) (j:=0) (by omega) (by omega) h0 e1
def Jk (rs:List (Int×Int)) (ns:List Int) (c:Bool) (k:Nat):Prop:=∃ t∈Zaj ns c,Mt rs t.1 t.2 k
def ZpQ (ns:List Int) (a b:Int):Prop:=a∈ns/\b∈ns/\(if (ns.idxOf a:Int)-(ns.idxOf b:Int)<0 then -((ns.idxOf a:Int)-(ns.idxOf b:Int)) else (ns.idxOf a:Int)-(ns.idxOf b:Int))=1
end
section
variable {P:Program} {w:World} {K:PySem.W.Frag} {mg:Str->Option Value} {base:Heap}
def pvI (ns:List Int) (i:Nat):Int:=if i=0 then ns.getD (ns.length-1) 0 else ns.getD (i-1) 0
theorem Zl1 {rs:List (Int×Int)} (hlt:∀ r∈rs,r.1<r.2) (x y:Int):((if y<x then y else x),(if y > x then y else x))∈rs↔Adj rs x y:=by
 unfold Adj
 by_cases h1:y<x
 ·rw [if_pos h1,if_neg (show ¬ y > x by omega)]
  refine ⟨.inr,λh=>h.elim (λh=>?_) id⟩
  have:=hlt _ h
  dsimp only at this
  omega
 ·rw [if_neg h1]
  by_cases h2:y > x
  ·rw [if_pos h2]
   refine ⟨.inl,λh=>h.elim id (λh=>?_)⟩
   have:=hlt _ h
   dsimp only at this
   omega
  ·have e:x=y:=by omega
   subst e
   rw [if_neg h2]
   exact ⟨.inl,λh=>h.elim id id⟩
theorem ZdD {k:Int} {rs:List (Int×Int)} (g:Zah k rs) {x y:Int} (h:Adj rs x y):0<=y/\y<k:=by
 rcases h with h | h
 ·have:=g.2.2.2.1 _ h
  dsimp only at this
  omega
 ·have:=g.2.2.2.1 _ h
  dsimp only at this
  omega
def ZnB:Sp:=λvs H Q _=>∃ (wb l:Addr) (k p:Int),vs=[.ref wb,.int p]/\H wb=some (.tup [.int k,.ref l])/\Q (.bl (decide (0<=p/\p<k))) H
theorem Zpc:Zav ["web", "place"] ["web", "place"] (Zaf sIs):=⟨rfl,rfl,rfl,by decide +kernel,rfl,by decide +kernel,by decide +kernel⟩
theorem Zl2 {f:Addr} {fd:FuncData} (F:Fun K "is_place" "is_place" sIs f fd):ZaO P w K mg base CX0 1 f fd ["web", "place"] ZnB:=by
 refine F.ok Zpc (λvs H Q E h=>?_) (λcdv A outer s H vs Q E hr h=>?_)
 ·obtain ⟨_,_,_,_,rfl,_⟩:=h
  rfl
 ·obtain ⟨wb,l,k,p,rfl,hw,q⟩:=h
  refine ⟨_,Zai (Zau (Zh6 Zlo ZjL Zad (pv 1) (Zaw (Zck K) (pv 0) Zad (λ_ _=>rfl)))),?_⟩
  refine ⟨_,rfl,_,_,rfl,rfl,_,rfl,ZcQ (λh0=>?_) (λh0=>?_)⟩
  ·refine ⟨_,rfl,wb,_,_,_,rfl,rfl,SqT.of hw,Zal (j:=0) rfl,_,_,rfl,rfl,?_⟩
   have h0':=of_decide_eq_true h0
   have e:decide (p<k)=decide (0<=p/\p<k):=by
    by_cases h1:p<k
    ·rw [decide_eq_true h1,decide_eq_true (⟨h0',h1⟩:0<=p/\p<k)]
    ·rw [decide_eq_false h1,decide_eq_false λz=>h1 z.2]
   show Q (.bl (decide (p<k))) H
   rw [e]
   exact q
  ·have h0':¬ 0<=p:=λz=>h0 (decide_eq_true z)
   have e:decide (0<=p/\p<k)=false:=decide_eq_false λz=>h0' z.1
   rw [e] at q
   exact q
def Ends (k p q:Int):Prop:=(0<=p/\p<k)/\(0<=q/\q<k)/\p≠q
def Zl3 (C:Addr):Sp:=λvs H Q E=>∃ (wb l:Addr) (k p q:Int),vs=[.ref wb,.int p,.int q]/\H wb=some (.tup [.int k,.ref l])/\((Ends k p q/\Q .non H)\/(¬ Ends k p q/\E (.ref C) none H))
theorem ZnC:Zav ["web", "one", "other"] ["web", "one", "other"] (Zaf Zkw):=⟨rfl,rfl,rfl,by decide +kernel,rfl,by decide +kernel,by decide +kernel⟩
theorem Zl4 {f fI C:Addr} {fd fdI:FuncData} (F:Fun K "check_ends" "check_ends" Zkw f fd) (FI:Fun K "is_place" "is_place" sIs fI fdI) (bI:Binds K fdI ["web", "place"] []) (mI:mg "is_place" = some (.ref fI)) (mC:mg "NoEnds" = some (.ref C)) (xC:ExcC K C) :
  ZaO P w K mg base (CXr P w) 2 f fd ["web", "one", "other"] (Zl3 C):=by
 have GI:ZaO P w K mg base CX0 1 fI fdI ["web", "place"] ZnB:=Zl2 FI
 refine F.okR ZnC (λvs H Q E h=>?_) (λcdv A outer s H vs Q E hr h=>?_)
 ·obtain ⟨_,_,_,_,_,rfl,_⟩:=h
  rfl
 ·obtain ⟨wb,l,k,p,q,rfl,hw,h⟩:=h
  refine ⟨_,Zai (ZaX (PW.pt (Zef (Zbw (Za3 (Zan GI (hr.mono (by decide)) rfl mI FI.kp bI .nil ZaQ (Zaa (pv 0) (Zaa (pv 1) Zac))))) (Zef (Zbw (Za3 (Zan GI (hr.mono (by decide)) rfl mI FI.kp bI .nil ZaQ (Zaa (pv 0) (Zaa (pv 2) Zac))))) (Zdp (Zay ZdK (pv 1) (pv 2) (ZaF _)))))) (Zai (ZdP (E:=E) rfl ZbF rfl mC xC (Zaa ZcN Zac))) ZaC),?_⟩
  refine ⟨_,rfl,_,rfl,wb,l,k,p,rfl,hw,⟨_,rfl,?_⟩⟩
  by_cases h1:0<=p/\p<k
  ·rw [decide_eq_true h1]
   refine Zb0 ?_
   refine ⟨_,rfl,_,rfl,wb,l,k,q,rfl,hw,⟨_,rfl,?_⟩⟩
   by_cases h2:0<=q/\q<k
   ·rw [decide_eq_true h2]
    refine Zb0 ?_
    refine ⟨_,rfl,_,rfl,rfl,_,rfl,?_⟩
    by_cases h3:p=q
    ·subst h3
     rw [decide_eq_true rfl]
     refine Zcg ?_
     rcases h with ⟨g,_⟩ | ⟨_,e⟩
     ·exact absurd rfl g.2.2
     ·exact ⟨by decide,e⟩
    ·rw [decide_eq_false λe=>h3 (V.int.inj e)]
     refine Zb0 ?_
     rcases h with ⟨_,y⟩ | ⟨g,_⟩
     ·exact y
     ·exact absurd ⟨h1,h2,h3⟩ g
   ·rw [decide_eq_false h2]
    refine Zcg ?_
    rcases h with ⟨g,_⟩ | ⟨_,e⟩
    ·exact absurd g.2.1 h2
    ·exact ⟨by decide,e⟩
  ·rw [decide_eq_false h1]
   refine Zcg ?_
   rcases h with ⟨g,_⟩ | ⟨_,e⟩
   ·exact absurd g.1 h1
   ·exact ⟨by decide,e⟩
def Way (rs:List (Int×Int)) (p q:Int) (ns:List Int):Prop:=ns≠[]/\ns.getD 0 0=p/\ns.getD (ns.length-1) 0=q/\Zdf rs ns false
end
section
variable {P:Program} {w:World} {K:PySem.W.Frag} {mg:Str->Option Value} {base:Heap}
def ZmU (rs:List (Int×Int)) (ns:List Int):Prop:=3<=ns.length/\(∀ x∈ns,ns.getD 0 0<=x)/\ns.getD 1 0<ns.getD (ns.length-1) 0/\Zdf rs ns true
end
end M
namespace M
open PySem L2
section
variable {P:Program} {w:World} {K:PySem.W.Frag} {mg:Str->Option Value} {base:Heap}
def ZkI:Sp:=λvs H Q _=>∃ (wb l pl:Addr) (k:Int) (xs:List V) (rs:List (Int×Int)) (ns:List Int) (c:Bool),vs=[.ref wb,.ref pl,.bl c]/\WebAt H wb l k xs rs/\Zah k rs/\H pl=some (.lst (ns.map V.int))/\ns.length<=50/\(c=true->ns≠[])/\(∀ t∈Zaj ns c,Adj rs t.1 t.2) /\
 ∀ (re:Addr) (ms:List Int) (H':Hp),Same H H'->H re=none->H' re=some (.lst (ms.map V.int))->ms.Perm ((Zaj ns c).map (ZeI rs))->ms.Pairwise (· <= ·)->Q (.ref re) H'
theorem scRds:Zav ["web", "places", "closed", "numbers"] ["web", "places", "closed"] (Zaf Zfi):=⟨rfl,rfl,rfl,by decide +kernel,rfl,by decide +kernel,by decide +kernel⟩
theorem Zl5 {f fU fV:Addr} {dV:Value} {fd fdU fdV:FuncData} (F:FunD K "roads_of" "roads_of" Zfi dV f fd) (FU:Fun K "numbers_by_step" "numbers_by_step" Zjm fU fdU) (bU:Binds K fdU ["web"] []) (mU:mg "numbers_by_step" = some (.ref fU))
  (FV:Fun K "steps_of" "steps_of" Zkx fV fdV) (bV:Binds K fdV ["places", "closed"] []) (mV:mg "steps_of" = some (.ref fV)) (mEnum:mg "enumerate" = none) (mLst:mg "list" = none) (mZip:mg "zip" = none) (mSor:mg "sorted" = none):ZaO P w K mg base CX0 2 f fd ["web", "places", "closed"] ZkI:=by
 have GU:ZaO P w K mg base CX0 1 fU fdU ["web"] ZlW:=ZlX FU mEnum
 have GV:ZaO P w K mg base CX0 1 fV fdV ["places", "closed"] ZlY:=ZlZ FV mLst mZip
 refine F.ok scRds (λvs H Q E h=>?_) (λcdv A outer s H vs Q E hr h=>?_)
 ·obtain ⟨_,_,_,_,_,_,_,_,rfl,_⟩:=h
  rfl
 ·obtain ⟨wb,l,pl,k,xs,rs,ns,c,rfl,W,g,hp,hn,hc,adj,q⟩:=h
  have hu1:(A.deeper (PyProof.Rows.envOfC "roads_of" (Zaf Zfi) s.heap.objs.size f cdv)).units+1<cLine:=by have:=hr.un;omega
  have h16:(16777216:Nat)=sizeLine:=sizeLine_eq.symm
  have hx:xs.length<=30:=by rw [W.p.len];exact g.2.2.1
  refine ⟨_,Zag (Zax (i:=3) scRds.nd rfl (Or.inr rfl) (Zan GU (hr.mono (by decide)) rfl mU FU.kp bU .nil ZaQ (Zaa (pv 0) Zac)))
    (Zai (Zau (Zat (Zg0 K) rfl mSor PyProof.Rows.boot_sorted (Zaa (Zbi (own:=["step"]) rfl (Zaz (fr:=[("numbers", 3)]) [(".0", .local),("step", .local),("numbers", .cell)] rfl rfl (by decide +kernel) rfl (by decide +kernel) ⟨rfl,trivial⟩ ⟨λh=>Za0 h,λh=>Za0 h,λ_=>⟨_,rfl⟩,trivial⟩ ⟨⟨rfl,.inl rfl,.inl rfl⟩,trivial⟩) (ZcF K (Zan GV (hr.mono (by decide)) rfl mV FV.kp bV .nil ZaQ (Zaa (pv 1) (Zaa (pv 2) Zac)))) (λ_ _ _ _=>Zar (i:=0) (show List.Nodup (["step", "numbers"]:List Str) by decide +kernel) rfl (Or.inl rfl)) (λ_ _ _ _=>Zbp) (λ_ _ _ _=>Zka hu1 (pv 1) (pv 0) (λ_ _=>rfl))) Zac)))),?_⟩
  refine ⟨_,rfl,wb,l,k,xs,rs,rfl,W,hx,λd H1 kvs s1 hd ed val=>?_⟩
  refine ⟨_,rfl,_,rfl,pl,ns,c,rfl,s1 _ _ hp,by omega,hc,λS ws H2 s2 hS eS pS=>?_⟩
  have s12:=s1.trans s2
  have ed2:=s2 _ _ ed
  have lst:(Zaj ns c).length<=51:=by
   unfold Zaj
   rw [List.length_append,List.length_zip]
   split <;> simp <;> omega
  have lws:ws.length<=51:=by rw [pS.len];exact lst
  refine ⟨S,rfl,⟨_,SqL.of eS⟩,λD hD=>?_⟩
  refine Zba (K:=K) (a:=S) (xs:=ws) (λi ys H3=>Same H2 H3/\H3 D=some (.lst ys)/\ys=(((Zaj ns c).take i).map (ZeI rs)).map V.int) ⟨Same.new hD,Zab,rfl⟩ (λi ys H3 _ ⟨s3,_⟩=>SqL.of (s3 _ _ eS)) ?_ ?_
  ·rintro i x ys H3 hxi ⟨s3,hD3,rfl⟩
   obtain ⟨t,r,rfl,et,er⟩:=(pS.same s3).get hxi
   have hi:i<ws.length:=(List.getElem?_eq_some_iff.mp hxi).1
   obtain ⟨j,hj,mj⟩:=Zjv (adj r (List.mem_of_getElem? er))
   refine ⟨⟨rfl,trivial⟩,?_⟩
   unfold Zjd
   refine Zcg ?_
   have dg:DGet H3 d (.ref t) (some (.int (j:Nat))):=by
    have:=DGet.t (k:=ky r.1 r.2) (s3 _ _ ed2) et
    rw [val r.1 r.2,Zdg g mj rs.length hj (Nat.le_refl _)] at this
    exact this
   refine ⟨_,rfl,_,rfl,d,_,rfl,dg,hD3,?_,s3.put hD,Zab,?_⟩
   ·rw [List.length_map,List.length_map,List.length_take]
    omega
   ·rw [List.take_add_one,er,List.map_append,List.map_append]
    show _=_++[V.int (ZeI rs r)]
    rw [Zhx g hj mj]
  rintro ys H3 ⟨s3,hD3,rfl⟩
  rw [pS.len,List.take_length] at hD3
  refine ⟨D,_,rfl,SqL.of hD3,by rw [List.length_map];omega,λre ms hre pm so=>?_⟩
  have s13:=s12.trans s3
  exact q re ms _ (s13.put (s13.free hre)) (s13.free hre) Zab pm so
end
end M
namespace M
open PySem L2
section
variable {P:Program} {w:World} {K:PySem.W.Frag} {mg:Str->Option Value} {base:Heap}
def Zl6 (C:Addr):Sp:=λvs H Q E=>∃ (wb l:Addr) (k p:Int),vs=[.ref wb,.int p]/\H wb=some (.tup [.int k,.ref l])/\(((0<=p/\p<k)/\Q .non H)\/(¬ (0<=p/\p<k)/\E (.ref C) none H))
theorem ZnD:Zav ["web", "place"] ["web", "place"] (Zaf Zku):=⟨rfl,rfl,rfl,by decide +kernel,rfl,by decide +kernel,by decide +kernel⟩
theorem Zl7 {f fI C:Addr} {fd fdI:FuncData} (F:Fun K "check_place" "check_place" Zku f fd) (FI:Fun K "is_place" "is_place" sIs fI fdI) (bI:Binds K fdI ["web", "place"] []) (mI:mg "is_place" = some (.ref fI)) (mC:mg "NoPlace" = some (.ref C)) (xC:ExcC K C) :
  ZaO P w K mg base (CXr P w) 2 f fd ["web", "place"] (Zl6 C):=by
 have GI:ZaO P w K mg base CX0 1 fI fdI ["web", "place"] ZnB:=Zl2 FI
 refine F.okR ZnD (λvs H Q E h=>?_) (λcdv A outer s H vs Q E hr h=>?_)
 ·obtain ⟨_,_,_,_,rfl,_⟩:=h
  rfl
 ·obtain ⟨wb,l,k,p,rfl,hw,h⟩:=h
  refine ⟨_,Zai (ZaX (Zbw (Za3 (Zan GI (hr.mono (by decide)) rfl mI FI.kp bI .nil ZaQ (Zaa (pv 0) (Zaa (pv 1) Zac))))) (Zai (ZdP (E:=E) rfl ZbF rfl mC xC (Zaa ZcN Zac))) ZaC),?_⟩
  refine ⟨_,rfl,_,rfl,wb,l,k,p,rfl,hw,⟨_,rfl,?_⟩⟩
  rcases h with ⟨hin,q⟩ | ⟨hout,q⟩
  ·rw [decide_eq_true hin]
   refine Zb0 ?_
   exact q
  ·rw [decide_eq_false hout]
   refine Zcg ?_
   exact ⟨by decide,q⟩
def Zbl (r:Int×Int) (p:Int):Bool:=decide (r.1=p\/r.2=p)
theorem ZnE (p a b:Int):inV (.int p) [.int a,.int b]=Zbl (a,b) p:=by
 unfold inV Zbl
 by_cases h1:a=p <;> by_cases h2:b=p <;> simp [eqV,h1,h2]
def Zfl (rs:List (Int×Int)) (p:Int):List Int:=(rs.filter λr=>Zbl r p).map λr=>r.1+r.2-p
theorem ZiL (rs:List (Int×Int)) (p:Int):(Zfl rs p).length<=rs.length:=by
 unfold Zfl
 rw [List.length_map]
 exact List.length_filter_le _ _
theorem Zhy (rs:List (Int×Int)) (p:Int) (i:Nat) {r:Int×Int} (h:rs[i]?=some r):Zfl (rs.take (i+1)) p=Zfl (rs.take i) p++(if Zbl r p=true then [r.1+r.2-p] else []):=by
 unfold Zfl
 rw [List.take_add_one,h]
 show List.map _ (List.filter _ (rs.take i++[r]))=_
 rw [List.filter_append,List.map_append,List.filter_cons,List.filter_nil]
 by_cases z:Zbl r p=true
 ·rw [if_pos z,if_pos z];rfl
 ·rw [if_neg z,if_neg z];rfl
def Zl8 (C:Addr):Sp:=λvs H Q E=>∃ (wb l:Addr) (k p:Int) (xs:List V) (rs:List (Int×Int)),vs=[.ref wb,.int p]/\WebAt H wb l k xs rs/\xs.length<=60 /\
 (((0<=p/\p<k)/\∀ (r:Addr) (ns:List Int) (H':Hp),Same H H'->H r=none->H' r=some (.lst (ns.map V.int))->ns.Perm (Zfl rs p)->ns.Pairwise (· <= ·)->Q (.ref r) H')\/(¬ (0<=p/\p<k)/\E (.ref C) none H))
theorem ZnF:Zav ["web", "place"] ["web", "place"] (Zaf Zkv):=⟨rfl,rfl,rfl,by decide +kernel,rfl,by decide +kernel,by decide +kernel⟩
theorem Zl9 {f fH C:Addr} {fd fdH:FuncData} (F:Fun K "beside" "beside" Zkv f fd) (FH:Fun K "check_place" "check_place" Zku fH fdH) (bH:Binds K fdH ["web", "place"] []) (mH:mg "check_place" = some (.ref fH))
  (GH:ZaO P w K mg base (CXr P w) 2 fH fdH ["web", "place"] (Zl6 C)) (mSor:mg "sorted" = none):ZaO P w K mg base (CXr P w) 3 f fd ["web", "place"] (Zl8 C):=by
 refine F.okR ZnF (λvs H Q E h=>?_) (λcdv A outer s H vs Q E hr h=>?_)
 ·obtain ⟨_,_,_,_,_,_,rfl,_⟩:=h
  rfl
 ·obtain ⟨wb,l,k,p,xs,rs,rfl,W,hx,h⟩:=h
  have h16:(16777216:Nat)=sizeLine:=sizeLine_eq.symm
  refine ⟨_,Zag (Za2 (Zan GH (hr.mono (by decide)) rfl mH FH.kp bH .nil Zif (Zaa (pv 0) (Zaa (pv 1) Zac))))
    (Zai (Zau (Zat (Zg0 K) rfl mSor PyProof.Rows.boot_sorted (Zaa (Zbi (own:=["a", "b"]) rfl (Zaz (fr:=[("place", 1)]) [(".0", .local),("a", .local),("b", .local),("place", .cell)] rfl rfl (by decide +kernel) rfl (by decide +kernel) ⟨rfl,trivial⟩ ⟨λh=>Za0 h,λh=>Za0 h,λh=>Za0 h,λ_=>⟨_,rfl⟩,trivial⟩ ⟨⟨rfl,.inl rfl,.inl rfl⟩,trivial⟩) (ZcF K (Zaw (Zck K) (pv 0) Zad (λ_ _=>rfl))) (λ_ _ _ _=>ZlC K (n:=2) rfl (ZaI (Zar (i:=0) (show List.Nodup (["a", "b", "place"]:List Str) by decide +kernel) rfl (Or.inl rfl)) (ZaI (Zar (i:=1) (show List.Nodup (["a", "b", "place"]:List Str) by decide +kernel) rfl (Or.inl rfl)) Zb7))) (λ_ _ _ _=>ZcY (Zay (kIn K) (pv 2) (ZaR (Zaa (pv 0) (Zaa (pv 1) Zac))) (by with_unfolding_all rfl))) (λ_ _ _ _=>Zas ZbC (Zas ZaL (pv 0) (pv 1)) (pv 2))) Zac)))),?_⟩
  rcases h with ⟨hin,q⟩ | ⟨hout,q⟩
  ·refine ⟨_,rfl,_,rfl,wb,l,k,p,rfl,W.w,.inl ⟨hin,?_⟩⟩
   refine ⟨_,rfl,wb,_,_,_,rfl,rfl,SqT.of W.w,Zal (j:=1) rfl,l,rfl,⟨_,SqL.of W.l⟩,λD hD=>?_⟩
   refine Zba (K:=K) (a:=l) (xs:=xs) (λi ys H2=>Same H H2/\H2 D=some (.lst ys)/\ys=(Zfl (rs.take i) p).map V.int) ⟨Same.new hD,Zab,rfl⟩ (λi ys H2 _ ⟨s2,_⟩=>SqL.of (s2 _ _ W.l)) ?_ ?_
   ·rintro i x ys H2 hxi ⟨s2,hD2,rfl⟩
    obtain ⟨t,r,rfl,et,er⟩:=W.p.get hxi
    have hi:i<xs.length:=(List.getElem?_eq_some_iff.mp hxi).1
    refine ⟨t,_,rfl,SqT.of (s2 _ _ et),rfl,_,_,rfl,_,_,rfl,rfl,⟨rfl,trivial⟩,?_⟩
    refine ⟨_,rfl,_,rfl,_,rfl,ZaP,λT hT=>⟨T,_,rfl,.inr (SqT.of Zab),rfl,rfl,_,rfl,?_⟩⟩
    show if (inV (.int p) [.int r.1,.int r.2])=true then _ else _
    have sc:=Zhy rs p i er
    have s3:Same H (upd H2 T (.tup [.int r.1,.int r.2])):=s2.put (s2.free hT)
    have hDT:D≠T:=Zae hD2 hT
    rw [ZnE]
    refine ZcQ (λz=>?_) (λz=>?_)
    ·rw [if_pos z] at sc
     refine ⟨_,rfl,_,rfl,_,_,rfl,rfl,_,rfl,_,_,rfl,rfl,Zak hD2 hDT,?_,s3.put hD,Zab,by rw [sc,List.map_append];rfl⟩
     rw [List.length_map]
     have:=ZiL (rs.take i) p
     rw [List.length_take] at this
     omega
    ·rw [if_neg z,List.append_nil] at sc
     exact ⟨s3,Zak hD2 hDT,by rw [sc]⟩
   ·rintro ys H2 ⟨s2,hD2,rfl⟩
    rw [W.p.len,List.take_length] at hD2
    refine ⟨D,_,rfl,SqL.of hD2,?_,λr ns hr hp hs=>q r ns _ (s2.put (s2.free hr)) (s2.free hr) Zab hp hs⟩
    unfold Zfl
    rw [List.length_map]
    have:=List.length_filter_le (λr=>Zbl r p) rs
    have:=W.p.len
    omega
  ·exact ⟨_,rfl,_,rfl,wb,l,k,p,rfl,W.w,.inr ⟨hout,q⟩⟩
end
end M
namespace M
open PySem L2
def ZaW (p q:Int):Int×Int:=((if q<p then q else p),(if q > p then q else p))
theorem Zbh {ls:List (Int×Int)} (hlt:∀ r∈ls,r.1<r.2) (x y:Int):ZaW x y∈ls↔Adj ls x y:=Zl1 hlt x y
def hit (p:Int) (t:Int×Int):Nat:=(if t.1=p then 1 else 0)+(if t.2=p then 1 else 0)
theorem Zma (p x y:Int):hit p (ZaW x y)=hit p (x,y):=by
 unfold hit ZaW
 dsimp only
 by_cases h1:y<x
 ·rw [if_pos h1,if_neg (show ¬ y > x by omega)]
  exact Nat.add_comm _ _
 ·rw [if_neg h1]
  by_cases h2:y > x
  ·rw [if_pos h2]
  ·rw [if_neg h2,show x=y by omega]
def ZiM (p:Int) (ls:List (Int×Int)):Nat:=(ls.map (hit p)).sum
theorem ZeJ {p:Int} {ls ms:List (Int×Int)} (h:ls.Perm ms):ZiM p ls=ZiM p ms:=(h.map (hit p)).sum_nat
theorem ZeK (p:Int) (t:Int×Int) (ls:List (Int×Int)):ZiM p (t::ls)=hit p t+ZiM p ls:=by unfold ZiM;rw [List.map_cons,List.sum_cons]
def ZaH (ns:List Int):List (Int×Int):=(ns.zip (ns.drop 1)).map λt=>ZaW t.1 t.2
theorem ZaN (a b:Int) (tl:List Int):ZaH (a::b::tl)=ZaW a b::ZaH (b::tl):=rfl
def Zcc (p q:Int):Nat:=if p=q then 1 else 0
theorem ZcK (p:Int):∀ (tl:List Int) (a:Int),ZiM p (ZaH (a::tl))+Zcc a p+Zcc ((a::tl).getD tl.length 0) p=2 * (a::tl).count p
 | [],a=>by
  show 0+Zcc a p+Zcc a p=2 * List.count p [a]
  unfold Zcc
  by_cases h:a=p
  ·rw [if_pos h,h,List.count_singleton_self]
  ·rw [if_neg h,List.count_eq_zero_of_not_mem (λz=>h (List.mem_singleton.mp z).symm)]
 | b::tl,a=>by
  have ih:=ZcK p tl b
  rw [ZaN,ZeK,Zma]
  show hit p (a,b)+ZiM p (ZaH (b::tl))+Zcc a p+Zcc ((b::tl).getD tl.length 0) p=_
  rw [List.count_cons]
  have e1:hit p (a,b)=Zcc a p+Zcc b p:=rfl
  have e2:(if (a == p)=true then 1 else 0)=Zcc a p:=by
   unfold Zcc
   by_cases h:a=p
   ·rw [if_pos h,if_pos (by rw [h];exact beq_self_eq_true p)]
   ·rw [if_neg h,if_neg (by rw [beq_iff_eq];exact h)]
  rw [e1,e2]
  omega
inductive Wk:List (Int×Int)->Int->List Int->List (Int×Int)->Prop
 | stop {ls:List (Int×Int)} {p:Int}:(∀ q,¬ Adj ls p q)->Wk ls p [] ls
 | go {ls rest:List (Int×Int)} {p q:Int} {row:List Int}:Adj ls p q->(∀ q',Adj ls p q'->q<=q')->Wk (ls.erase (ZaW p q)) q row rest->Wk ls p (q::row) rest
theorem Wk.det {ls e1:List (Int×Int)} {p:Int} {r1:List Int} (h:Wk ls p r1 e1):∀ {r2:List Int} {e2:List (Int×Int)},Wk ls p r2 e2->r1=r2:=by
 induction h with
 | stop n=>
  intro r2 e2 k
  cases k with
  | stop _=>rfl
  | go a _ _=>exact absurd a (n _)
 | go a l w ih=>
  intro r2 e2 k
  cases k with
  | stop n=>exact absurd a (n _)
  | go a' l' w'=>
   have e:=Int.le_antisymm (l _ a') (l' _ a)
   subst e
   rw [ih w']
theorem ZfV {ls:List (Int×Int)} {t:Int×Int} (hlt:∀ r∈ls,r.1<r.2):∀ r∈ls.erase t,r.1<r.2:=λr hr=>hlt r (List.mem_of_mem_erase hr)
theorem ZdE (a:Int) (tl:List Int):(ZaH (a::tl)).length=tl.length:=by
 unfold ZaH
 rw [List.length_map,List.length_zip,List.length_drop,List.length_cons]
 omega
def Zbx (rs:List (Int×Int)) (ks:List Int):Prop:=ks.Pairwise (· < ·)/\∀ x∈ks,0<=x/\x<(rs.length:Int)
def road (rs:List (Int×Int)) (x:Int):Int×Int:=rs.getD x.toNat (0,0)
def cho (rs:List (Int×Int)) (ks:List Int) (i:Nat):List (Int×Int):=((List.range i).filter λ(j:Nat)=>decide ((j:Int)∈ks)).map λ(j:Nat)=>rs.getD j (0,0)
theorem ZkJ {rs:List (Int×Int)} {ks:List Int} {t:Int×Int} (h:t∈cho rs ks rs.length):t∈rs:=by
 unfold cho at h
 obtain ⟨j,hj,rfl⟩:=List.mem_map.mp h
 exact Zcu (List.mem_range.mp (List.mem_filter.mp hj).1)
theorem Zjx {xs ys:List Int} (hx:xs.Pairwise (· < ·)) (hy:ys.Pairwise (· < ·)) (h:∀ z,z∈xs↔z∈ys):xs=ys:=by
 induction xs generalizing ys with
 | nil=>
  cases ys with
  | nil=>rfl
  | cons y ys=>exact absurd ((h y).mpr (List.mem_cons_self ..)) List.not_mem_nil
 | cons x xs ih=>
  cases ys with
  | nil=>exact absurd ((h x).mp (List.mem_cons_self ..)) List.not_mem_nil
  | cons y ys=>
   have hx':=List.pairwise_cons.mp hx
   have hy':=List.pairwise_cons.mp hy
   have e:x=y:=by
    rcases List.mem_cons.mp ((h x).mp (List.mem_cons_self ..)) with z | z
    ·exact z
    ·rcases List.mem_cons.mp ((h y).mpr (List.mem_cons_self ..)) with u | u
     ·exact u.symm
     ·have:=hy'.1 _ z
      have:=hx'.1 _ u
      omega
   subst e
   rw [ih hx'.2 hy'.2 λz=>⟨λhz=>?_,λhz=>?_⟩]
   ·rcases List.mem_cons.mp ((h z).mp (List.mem_cons_of_mem _ hz)) with u | u
    ·have:=hx'.1 _ hz;omega
    ·exact u
   ·rcases List.mem_cons.mp ((h z).mpr (List.mem_cons_of_mem _ hz)) with u | u
    ·have:=hy'.1 _ hz;omega
    ·exact u
theorem Zd5 {rs:List (Int×Int)} {ks:List Int} (h:Zbx rs ks):cho rs ks rs.length=ks.map (road rs):=by
 have e:((List.range rs.length).filter λ(j:Nat)=>decide ((j:Int)∈ks)).map (λ(j:Nat)=>(j:Int))=ks:=by
  refine Zjx ?_ h.1 λz=>?_
  ·rw [List.pairwise_map]
   exact (List.pairwise_lt_range.filter _).imp λhlt=>by omega
  ·rw [List.mem_map]
   constructor
   ·rintro ⟨j,hj,rfl⟩
    exact of_decide_eq_true (List.mem_filter.mp hj).2
   ·intro hz
    obtain ⟨z0,z1⟩:=h.2 z hz
    exact ⟨z.toNat,List.mem_filter.mpr ⟨List.mem_range.mpr (by omega),decide_eq_true (by rw [Int.toNat_of_nonneg z0];exact hz)⟩,Int.toNat_of_nonneg z0⟩
 unfold cho
 conv=>rhs;rw [<-e]
 rw [List.map_map]
 rfl
theorem ZiN {k:Int} {rs:List (Int×Int)} (g:Zah k rs) {t:Int×Int} (h:t∈rs) (p:Int):hit p t=if t.1=p\/t.2=p then 1 else 0:=by
 have:=g.2.2.2.1 t h
 unfold hit
 by_cases h1:t.1=p
 ·rw [if_pos h1,if_neg (by omega),if_pos (.inl h1)]
 ·rw [if_neg h1]
  by_cases h2:t.2=p
  ·rw [if_pos h2,if_pos (.inr h2)]
  ·rw [if_neg h2,if_neg (λz=>z.elim h1 h2)]
def degK (rs:List (Int×Int)) (ks:List Int) (p:Int):Nat:=(ks.filter λx=>decide ((road rs x).1=p\/(road rs x).2=p)).length
theorem Zcw {rs:List (Int×Int)} {x:Int} (h:0<=x/\x<(rs.length:Int)):road rs x∈rs:=Zcu (by omega)
theorem Zdh {k:Int} {rs:List (Int×Int)} (g:Zah k rs) (p:Int):∀ {ks:List Int},(∀ x∈ks,0<=x/\x<(rs.length:Int))->degK rs ks p=ZiM p (ks.map (road rs))
 | [],_=>rfl
 | x::ks,h=>by
  have ih:=Zdh g p (ks:=ks) λy hy=>h y (List.mem_cons_of_mem _ hy)
  have hx:=ZiN g (Zcw (h x (List.mem_cons_self ..))) p
  rw [List.map_cons,ZeK,<-ih,hx]
  unfold degK
  rw [List.filter_cons]
  by_cases z:(road rs x).1=p\/(road rs x).2=p
  ·rw [if_pos (decide_eq_true z),if_pos z,List.length_cons,Nat.add_comm]
  ·rw [if_neg (by rw [decide_eq_false z];decide),if_neg z,Nat.zero_add]
theorem ZkK {rs:List (Int×Int)} {p q:Int} {x:Int} (m:Mt rs p q x.toNat) (hlt:(road rs x).1<(road rs x).2):road rs x=ZaW p q:=by
 unfold road at hlt ⊢
 unfold ZaW
 rcases m with e | e
 ·rw [e] at hlt ⊢
  dsimp only at hlt
  rw [if_neg (by omega),if_pos (by omega)]
 ·rw [e] at hlt ⊢
  dsimp only at hlt
  rw [if_pos (by omega),if_neg (by omega)]
theorem Zcx {k:Int} {rs:List (Int×Int)} (g:Zah k rs) {t:Int×Int} (a:Adj rs t.1 t.2):(0<=ZeI rs t/\ZeI rs t<(rs.length:Int))/\road rs (ZeI rs t)=ZaW t.1 t.2:=by
 obtain ⟨j,hj,m⟩:=Zjv a
 rw [Zhx g hj m]
 have hr:0<=(j:Int)/\(j:Int)<(rs.length:Int):=by omega
 refine ⟨hr,ZkK ?_ (g.2.2.2.1 _ (Zcw hr)).2.1⟩
 rw [Int.toNat_natCast]
 exact m
theorem Zd6 {k:Int} {rs:List (Int×Int)} (g:Zah k rs) {x y:Int} (hx:0<=x/\x<(rs.length:Int)) (hy:0<=y/\y<(rs.length:Int)) (e:road rs x=road rs y):x=y:=by
 have:=Zcv g.2.2.2.2 (i:=x.toNat) (j:=y.toNat) (by omega) (by omega) e
 omega
theorem ZeL {k:Int} {rs:List (Int×Int)} (g:Zah k rs) {xs ys:List Int} (hx:∀ x∈xs,0<=x/\x<(rs.length:Int)) (hy:∀ y∈ys,0<=y/\y<(rs.length:Int)) (p:(xs.map (road rs)).Perm (ys.map (road rs))):xs.Perm ys:=by
 induction xs generalizing ys with
 | nil=>
  have:=p.length_eq
  rw [List.length_map,List.length_map] at this
  cases ys with
  | nil=>exact .nil
  | cons y ys=>simp at this
 | cons x xs ih=>
  rw [List.map_cons] at p
  have hm:road rs x∈ys.map (road rs):=p.mem_iff.mp (List.mem_cons_self ..)
  obtain ⟨y,hym,e⟩:=List.mem_map.mp hm
  have exy:=Zd6 g (hx x (List.mem_cons_self ..)) (hy y hym) e.symm
  subst exy
  have p2:=List.perm_cons_erase hym
  have p3:(xs.map (road rs)).Perm ((ys.erase x).map (road rs)):=by
   have:=p.trans (p2.map (road rs))
   rw [List.map_cons] at this
   exact this.cons_inv
  exact ((ih (λz hz=>hx z (List.mem_cons_of_mem _ hz)) (λz hz=>hy z (List.mem_of_mem_erase hz)) p3).cons x).trans p2.symm
theorem Zbm {k:Int} {rs:List (Int×Int)} (g:Zah k rs):∀ {ts:List (Int×Int)},(∀ t∈ts,Adj rs t.1 t.2)->(ts.map (ZeI rs)).map (road rs)=ts.map λt=>ZaW t.1 t.2
 | [],_=>rfl
 | t::ts,h=>by
  rw [List.map_cons,List.map_cons,List.map_cons,(Zcx g (h t (List.mem_cons_self ..))).2,Zbm g λu hu=>h u (List.mem_cons_of_mem _ hu)]
theorem Zgr {ms:List Int} (h:ms.Pairwise (· <= ·)) (nd:ms.Nodup):ms.Pairwise (· < ·):=(h.and nd).imp λh=>by have:=h.1;have:=h.2;omega
theorem Zc3 {k:Int} {rs:List (Int×Int)} (g:Zah k rs) {ns ms:List Int} {c:Bool} (o:Zdf rs ns c) (hc:c=true->3<=ns.length) (pm:ms.Perm ((Zaj ns c).map (ZeI rs))) (so:ms.Pairwise (· <= ·)):Zbx rs ms:=by
 have nd:((Zaj ns c).map (ZeI rs)).Nodup:=by
  unfold List.Nodup
  rw [List.pairwise_map]
  refine (Zgq o.2 hc).imp_of_mem λ{t u} ht hu h e=>h ?_
  have rt:=Zcx g (o.1 t ht)
  have ru:=Zcx g (o.1 u hu)
  have e2:ZaW t.1 t.2=ZaW u.1 u.2:=by rw [<-rt.2,<-ru.2,e]
  unfold ZaW at e2
  have e3:=Prod.mk.inj e2
  obtain ⟨t1,t2⟩:=t
  obtain ⟨u1,u2⟩:=u
  dsimp only at e3 ⊢
  rw [Prod.mk.injEq,Prod.mk.injEq]
  split at e3 <;> split at e3 <;> split at e3 <;> split at e3 <;> omega
 refine ⟨Zgr so (pm.nodup_iff.mpr nd),λx hx=>?_⟩
 obtain ⟨t,ht,rfl⟩:=List.mem_map.mp (pm.mem_iff.mp hx)
 exact (Zcx g (o.1 t ht)).1
end M
namespace M
open PySem L2
theorem Zjy {k:Int} {rs:List (Int×Int)} (g:Zah k rs) (ks:List Int):∀ r∈cho rs ks rs.length,r.1<r.2:=λr hr=>(g.2.2.2.1 r (ZkJ hr)).2.1
theorem ZkL {ls rs:List (Int×Int)} (h:∀ r∈ls,r∈rs) {p q:Int} (a:Adj ls p q):Adj rs p q:=a.elim (λz=>.inl (h _ z)) λz=>.inr (h _ z)
theorem ZkM {ls:List (Int×Int)} {p q:Int} (a:Adj ls p q):Adj ls q p:=a.elim .inr .inl
theorem ZbL (ns:List Int):ZaH ns=(Zaj ns false).map λt=>ZaW t.1 t.2:=by
 unfold ZaH Zaj
 rw [if_neg Bool.false_ne_true,List.append_nil]
def Zk9 (rs:List (Int×Int)) (ks:List Int) (k one other:Int):Prop:=∀ p,0<=p->p<k->if p=one\/p=other then degK rs ks p=1 else degK rs ks p=0\/degK rs ks p=2
theorem ZkN {k:Int} {rs:List (Int×Int)} {ns ks ms:List Int} {c:Bool} (g:Zah k rs) (S:Zbx rs ks) (o:Zdf rs ns c) (hc:c=true->3<=ns.length) (h:(ks.map (road rs)).Perm ((Zaj ns c).map λt=>ZaW t.1 t.2)) (pm:ms.Perm ((Zaj ns c).map (ZeI rs))) (so:ms.Pairwise (· <= ·)):ms=ks:=by
 have T:=Zc3 g o hc pm so
 have p1:(ms.map (road rs)).Perm (ks.map (road rs)):=by
  have:=pm.map (road rs)
  rw [Zbm g o.1] at this
  exact this.trans h.symm
 have p2:=ZeL g T.2 S.2 p1
 exact Zjx T.1 S.1 λz=>p2.mem_iff
theorem ZiO (a:Int) (tl:List Int):(a::tl).getD tl.length 0∈a::tl:=Zbg (by rw [List.length_cons];omega)
theorem ZiP {k:Int} {rs:List (Int×Int)} {ks tl ms:List Int} {one other:Int} (g:Zah k rs) (E:Ends k one other) (W:Way rs one other (one::tl)) (pm:ms.Perm ((Zaj (one::tl) false).map (ZeI rs))) (so:ms.Pairwise (· <= ·)) (e:ms=ks) :
  Zbx rs ks/\Zk9 rs ks k one other/\tl.length=ks.length:=by
 subst e
 have o:=W.2.2.2
 have S:=Zc3 g o (λz=>absurd z Bool.false_ne_true) pm so
 have lo:(one::tl).getD tl.length 0=other:=W.2.2.1
 have hp:(ms.map (road rs)).Perm (ZaH (one::tl)):=by
  have:=pm.map (road rs)
  rw [Zbm g o.1,<-ZbL] at this
  exact this
 refine ⟨S,λp p0 p1=>?_,?_⟩
 ·have dg:=ZcK p tl one
  rw [lo,<-ZeJ hp,<-Zdh g p S.2,o.2.count] at dg
  have s1:∀ p,Zcc p p=1:=λp=>if_pos rfl
  have s0:∀ p q,p≠q->Zcc p q=0:=λp q h=>if_neg h
  have hne:=E.2.2
  by_cases z:p=one\/p=other
  ·rw [if_pos z]
   rcases z with z | z
   ·rw [z,s1,s0 _ _ (Ne.symm hne),if_pos (List.mem_cons_self ..)] at dg
    rw [z]
    omega
   ·rw [z,s1,s0 _ _ hne,if_pos (by rw [<-lo];exact ZiO one tl)] at dg
    rw [z]
    omega
  ·rw [if_neg z]
   rw [s0 _ _ (λy=>z (.inl y.symm)),s0 _ _ (λy=>z (.inr y.symm))] at dg
   split at dg <;> omega
 ·rw [pm.length_eq,List.length_map,<-ZdE one tl,ZbL,List.length_map]
theorem Zd7:∀ (tl:List Int) (a x:Int),(a::(tl++[x])).zip (tl++[x])=(a::tl).zip tl++[((a::tl).getD tl.length 0,x)]
 | [],a,x=>rfl
 | b::tl,a,x=>by
  have ih:=Zd7 tl b x
  show (a,b)::(b::(tl++[x])).zip (tl++[x])=_
  rw [ih]
  rfl
theorem ZcS (s:Int) (tl:List Int):(Zaj (s::tl) true).map (λt=>ZaW t.1 t.2)=ZaH (s::(tl++[s])):=by
 unfold ZaH Zaj
 rw [if_pos rfl]
 show _=((s::(tl++[s])).zip (tl++[s])).map _
 rw [Zd7]
 rfl
theorem Zfm (p s:Int) (tl:List Int):ZiM p (ZaH (s::(tl++[s])))=2 * (s::tl).count p:=by
 have:=ZcK p (tl++[s]) s
 have e:(s::(tl++[s])).getD (tl++[s]).length 0=s:=by
  rw [List.length_append,List.length_singleton,List.getD_eq_getElem?_getD,List.getElem?_cons_succ,List.getElem?_append_right (Nat.le_refl _),Nat.sub_self]
  rfl
 have c:(s::(tl++[s])).count p=(s::tl).count p+Zcc s p:=by
  rw [show s::(tl++[s])=(s::tl)++[s] from rfl,List.count_append]
  congr 1
  unfold Zcc
  by_cases h:s=p
  ·rw [if_pos h,h,List.count_singleton_self]
  ·rw [if_neg h,List.count_eq_zero_of_not_mem (λz=>h (List.mem_singleton.mp z).symm)]
 rw [e,c] at this
 omega
def Zla (rs:List (Int×Int)) (ks:List Int) (k:Int):Prop:=∀ p,0<=p->p<k->degK rs ks p=0\/degK rs ks p=2
def Begins (ls:List (Int×Int)) (s:Int):Prop:=(∀ t∈ls,s<=t.1)/\∃ t∈ls,t.1=s
theorem Begins.one {ls:List (Int×Int)} {s t:Int} (a:Begins ls s) (b:Begins ls t):s=t:=by
 obtain ⟨u,hu,e⟩:=a.2
 obtain ⟨v,hv,f⟩:=b.2
 have:=a.1 v hv
 have:=b.1 u hu
 omega
theorem ZiQ {k:Int} {rs:List (Int×Int)} {ks ns ms:List Int} (g:Zah k rs) (R:ZmU rs ns) (pm:ms.Perm ((Zaj ns true).map (ZeI rs))) (so:ms.Pairwise (· <= ·)) (e:ms=ks) :
  Zbx rs ks/\3<=ks.length/\Zla rs ks k/\ns.length=ks.length:=by
 subst e
 have o:=R.2.2.2
 have S:=Zc3 g o (λ_=>R.1) pm so
 obtain ⟨s,tl,rfl⟩:∃ s tl,ns=s::tl:=by
  cases ns with
  | nil=>exact absurd R.1 (by simp)
  | cons s tl=>exact ⟨s,tl,rfl⟩
 have hp:(ms.map (road rs)).Perm (ZaH (s::(tl++[s]))):=by
  have:=pm.map (road rs)
  rw [Zbm g o.1,ZcS] at this
  exact this
 have hl:(s::tl).length=ms.length:=by
  have:=hp.length_eq
  rw [List.length_map,ZdE,List.length_append,List.length_singleton] at this
  rw [List.length_cons]
  omega
 refine ⟨S,by have:=R.1;omega,λp _ _=>?_,hl⟩
 rw [Zdh g p S.2,ZeJ hp,Zfm,o.2.count]
 split <;> omega
end M
namespace M
open PySem L2
section
variable {P:Program} {w:World} {K:PySem.W.Frag} {mg:Str->Option Value} {base:Heap}
theorem mem_bes {ls:List (Int×Int)} {p x:Int}:x∈Zfl ls p↔Adj ls p x:=by
 unfold Zfl Adj
 rw [List.mem_map]
 constructor
 ·rintro ⟨r,hr,rfl⟩
  obtain ⟨h1,h2⟩:=List.mem_filter.mp hr
  obtain ⟨a,b⟩:=r
  rcases of_decide_eq_true h2 with e | e
  ·left
   have:a=p:=e
   subst this
   rw [show a+b-a=b by omega]
   exact h1
  ·right
   have:b=p:=e
   subst this
   rw [show a+b-b=a by omega]
   exact h1
 ·rintro (h | h)
  ·exact ⟨_,List.mem_filter.mpr ⟨h,decide_eq_true (.inl rfl)⟩,by dsimp only;omega⟩
  ·exact ⟨_,List.mem_filter.mpr ⟨h,decide_eq_true (.inr rfl)⟩,by dsimp only;omega⟩
end
end M
namespace M
open PySem L2
section
variable {P:Program} {w:World} {K:PySem.W.Frag} {mg:Str->Option Value} {base:Heap}
def Zmb (rs:List (Int×Int)) (ks:List Int) (k p q:Int) (tl:List Int):Prop:=Zbx rs ks/\Zk9 rs ks k p q/\tl.length=ks.length
def Zmc (rs:List (Int×Int)) (ks:List Int) (k:Int) (tl:List Int):Prop:=Zbx rs ks/\3<=ks.length/\Zla rs ks k/\tl.length=ks.length
theorem Zmd (ns:List Int):Zed (ns.map V.int) none (some (-1))=ns.dropLast.map V.int:=by
 unfold Zed
 rw [List.length_map,HT.sIx_none,List.drop_zero,Nat.sub_zero,List.dropLast_eq_take,List.map_take]
 congr 1
 unfold HT.sIx
 by_cases h:ns.length=0
 ·rw [h];rfl
 ·simp only [show (-1:Int)<0 by decide,if_true]
  omega
end
end M
namespace M
open PySem L2
theorem ZaS:∀ {k:Nat} {ns:List Int},ns.Nodup->(∀ x∈ns,0<=x/\x<(k:Int))->ns.length<=k
 | 0,ns,_,h=>by
  cases ns with
  | nil=>exact Nat.le_refl _
  | cons a r=>have:=h a (List.mem_cons_self);omega
 | k+1,ns,nd,h=>by
  by_cases z:((k:Nat):Int)∈ns
  ·have hl:=List.length_erase_of_mem z
   have hp:0<ns.length:=List.length_pos_of_mem z
   have ih:=ZaS (k:=k) (ns:=ns.erase ((k:Nat):Int)) (nd.erase _) λx hx=>by
    have h1:=(List.Nodup.mem_erase_iff nd).mp hx
    have h2:=h x h1.2
    have h3:=h1.1
    omega
   omega
  ·have ih:=ZaS (k:=k) nd λx hx=>by
    have h2:=h x hx
    have h3:x≠((k:Nat):Int):=λe=>z (e▸hx)
    omega
   omega
theorem ZkO {k:Int} {rs:List (Int×Int)} (g:Zah k rs) {p m:Int}:m∈Zfl rs p↔Adj rs p m:=by
 unfold Zfl Adj
 constructor
 ·intro h
  obtain ⟨r,h1,e⟩:=List.mem_map.mp h
  obtain ⟨h2,h3⟩:=List.mem_filter.mp h1
  have h4:=of_decide_eq_true h3
  obtain ⟨r1,r2⟩:=r
  dsimp only at h4 e
  rcases h4 with h4 | h4
  ·subst h4
   exact .inl (by rw [<-e,show r1+r2-r1=r2 by omega];exact h2)
  ·subst h4
   exact .inr (by rw [<-e,show r1+r2-r2=r1 by omega];exact h2)
 ·rintro (h | h)
  ·exact List.mem_map.mpr ⟨(p,m),List.mem_filter.mpr ⟨h,decide_eq_true (.inl rfl)⟩,by show p+m-p=m;omega⟩
  ·exact List.mem_map.mpr ⟨(m,p),List.mem_filter.mpr ⟨h,decide_eq_true (.inr rfl)⟩,by show m+p-p=m;omega⟩
section
variable {P:Program} {w:World} {K:PySem.W.Frag} {mg:Str->Option Value} {base:Heap}
def LinksAt (H:Hp) (lk:Addr) (k:Int) (rs:List (Int×Int)):Prop:=∃ bl:List Addr,H lk=some (.lst (bl.map V.ref))/\bl.length=k.toNat/\∀ (i:Nat) (a:Addr),bl[i]?=some a->∃ ns:List Int,H a=some (.lst (ns.map V.int))/\ns.Nodup/\∀ m,m∈ns↔Adj rs (i:Int) m
theorem LinksAt.same {H H':Hp} {lk:Addr} {k:Int} {rs:List (Int×Int)} (h:LinksAt H lk k rs) (s:Same H H'):LinksAt H' lk k rs:=by
 obtain ⟨bl,e,l,hb⟩:=h
 exact ⟨bl,s _ _ e,l,λi a ha=>(hb i a ha).elim λns h=>⟨ns,s _ _ h.1,h.2⟩⟩
def kvF (F:List Int):List (Key×V):=F.map λx=>(Sum.inl x,V.bl true)
theorem Zfn (F:List Int) (p:Int):(ZbT (kvF F) (.inl p)).isSome=decide (p∈F):=by
 rw [<-ZbU]
 unfold kvF
 rw [List.any_map]
 by_cases z:p∈F
 ·rw [decide_eq_true z]
  exact List.any_eq_true.mpr ⟨p,z,by simp⟩
 ·rw [decide_eq_false z]
  refine List.any_eq_false.mpr λy hy e=>z ?_
  have e1:(Sum.inl y:Key)=Sum.inl p:=of_decide_eq_true e
  cases e1
  exact hy
theorem ZkP {F:List Int} {p:Int} (h:p ∉ F):Zc0 (kvF F) (.inl p) (.bl true)=kvF (F++[p]):=by
 have hn:ZbT (kvF F) (.inl p)=none:=by
  have:=Zfn F p
  rw [decide_eq_false h] at this
  cases z:ZbT (kvF F) (.inl p) with
  | none=>rfl
  | some v=>rw [z] at this;cases this
 rw [Zii _ hn]
 unfold kvF
 rw [List.map_append]
 rfl
def Zme:Sp:=λvs H Q _=>∃ (lk gl:Addr) (k st:Int) (rs:List (Int×Int)) (gn:List Int),vs=[.ref lk,.int st,.ref gl]/\Zah k rs/\LinksAt H lk k rs/\H gl=some (.lst (gn.map V.int))/\(0<=st/\st<k) /\
 ∀ (d:Addr) (F:List Int) (H':Hp),Same H H'->H d=none->H' d=some (.dK (kvF F))->F.Nodup->F.length<=16->st∈F->(∀ x∈F,x=st\/x ∉ gn)->(∀ x∈F,∀ z,Adj rs x z->z ∉ gn->z∈F)->Q (.ref d) H'
theorem scRea:Zav ["links", "start", "gone", "found", "pending", "here", "place"] ["links", "start", "gone"] (Zaf Zjn):=⟨rfl,rfl,rfl,by decide +kernel,rfl,by decide +kernel,by decide +kernel⟩
structure ReaI (k:Int) (rs:List (Int×Int)) (st:Int) (gn F pd:List Int):Prop where
 nd:F.Nodup
 ir:∀ x∈F,0<=x/\x<k
 ng:∀ x∈F,x=st\/x ∉ gn
 me:st∈F
 sb:∀ x∈pd,x∈F
theorem ReaI.len {k:Int} {rs:List (Int×Int)} {st:Int} {gn F pd:List Int} (h:ReaI k rs st gn F pd):F.length<=k.toNat:=by
 exact ZaS (k:=k.toNat) h.nd λx hx=>by have:=h.ir x hx;omega
theorem Zmf {f:Addr} {fd:FuncData} (F:Fun K "reached" "reached" Zjn f fd):ZaO P w K mg base CX0 1 f fd ["links", "start", "gone"] Zme:=by
 refine F.ok scRea (λvs H Q E h=>?_) (λcdv A outer s H vs Q E hr h=>?_)
 ·obtain ⟨_,_,_,_,_,_,rfl,_⟩:=h
  rfl
 ·obtain ⟨lk,gl,k,st,rs,gn,rfl,g,L,hgl,hst,q⟩:=h
  have hu1:(A.deeper (PyProof.Rows.envOfC "reached" (Zaf Zjn) s.heap.objs.size f cdv)).units+1<cLine:=by have:=hr.un;omega
  have h16:(16777216:Nat)=sizeLine:=sizeLine_eq.symm
  have g1:=g.1
  have g2:=g.2.1
  refine ⟨_,Zag (Zax (i:=3) scRea.nd rfl (Or.inl rfl) (Zkc (Zim (pv 1) Zbo Zkb) rfl rfl (by decide) (by decide)))
    (Zag (Zax (i:=4) scRea.nd rfl (Or.inl rfl) (ZaB (Zaa (pv 1) Zac)))
    (Zag (ZdJ PassesOwn.never (Zfw (pv 4) (λ_=>rfl))
    (Zag (Zax (i:=5) scRea.nd rfl (Or.inl rfl) (Zjb PySem.F.plainAttrs_list PySem.F.slot_list_pop PySem.F.type_list_pop Zjc (pv 4)))
    (Zai (Zbf PassesOwn.never rfl (ZcF K (Zaw (Zbz K) (pv 0) (pv 5) (λ_ _=>rfl))) (Zar (i:=6) scRea.nd rfl (Or.inl rfl))
    (Zai (ZaX (PW.pt (Zc5 (Zi7 (Zg7 hu1 (pv 6) (pv 3)) rfl) (Zb6 (Zay (ZgY K) (pv 6) (pv 2) (by with_unfolding_all rfl))))) (Zag (Ze6 hu1 (pv 3) (pv 6) Zbo rfl)
    (Zai (Za2 (ZcT PySem.F.plainAttrs_list PySem.F.slot_list_append PySem.F.type_list_append Za5 (pv 4) (Zaa (pv 6) Zac))))) ZaC))))))
    (Zai (Zau (pv 3))))),?_⟩
  refine λd hd=>⟨_,rfl,Zab,[(Sum.inl st,.bl true)],rfl,by show 1<=15;decide,?_⟩
  have s1:Same H (upd (upd H d (.dK [])) d (.dK (ZcR [] [(Sum.inl st,.bl true)]))):=(Same.new hd).put hd
  have e1:upd (upd H d (.dK [])) d (.dK (ZcR [] [(Sum.inl st,.bl true)])) d=some (.dK (kvF [st])):=by rw [Zab];rfl
  generalize upd (upd H d (.dK [])) d (.dK (ZcR [] [(Sum.inl st,.bl true)]))=H1 at s1 e1 ⊢
  refine ⟨_,rfl,(by show 1<=sizeLine;decide),λpn hpn=>?_⟩
  have hdp:d≠pn:=Zae e1 hpn
  have hpn0:=s1.free hpn
  refine ⟨λm σ H2=>∃ (v5 v6:Option V) (F pd:List Int),σ=[some (.ref lk),some (.int st),some (.ref gl),some (.ref d),some (.ref pn),v5,v6]/\Same H H2/\H2 d=some (.dK (kvF F))/\H2 pn=some (.lst (pd.map V.int))/\ReaI k rs st gn F pd/\(∀ y∈F,y ∉ pd->∀ z,Adj rs y z->z ∉ gn->z∈F)/\2 * (k.toNat-F.length)+pd.length<=33/\m=2 * (k.toNat-F.length)+pd.length,⟨_,none,none,[st],[st],rfl,s1.put hpn0,Zak e1 hdp,Zab,⟨List.nodup_cons.mpr ⟨List.not_mem_nil,List.nodup_nil⟩,λx hx=>(by rw [List.mem_singleton] at hx;rw [hx];exact hst),λx hx=>.inl (List.mem_singleton.mp hx),List.mem_singleton.mpr rfl,λx hx=>hx⟩,λy hy hn=>absurd hy hn,(by show 2 * (k.toNat-1)+1<=33;omega),rfl⟩,?_⟩
  rintro m σ H2 ⟨v5,v6,F,pd,rfl,s2,ed,ep,I,cl,m33,rfl⟩
  refine ⟨_,rfl,_,.inl ⟨_,SqL.of ep,rfl⟩,?_⟩
  cases hpd:pd.isEmpty with
  | true=>
   have e:pd=[]:=List.isEmpty_iff.mp hpd
   subst e
   refine Zb0 ?_
   exact ⟨_,rfl,q d F H2 s2 hd ed I.nd (by have:=I.len;omega) I.me I.ng λx hx z hz hn=>cl x hx (λz=>by cases z) z hz hn⟩
  | false=>
   have hne:pd≠[]:=λe=>by rw [e] at hpd;cases hpd
   have hpos:0<pd.length:=List.length_pos_iff.mpr hne
   have et:(!(pd.map V.int).isEmpty)=true:=by
    cases pd with
    | nil=>exact absurd rfl hne
    | cons _ _=>rfl
   rw [et]
   refine Zcg ?_
   refine ⟨λσ' H'=>∃ m',m'<2 * (k.toNat-F.length)+pd.length/\∃ (v5 v6:Option V) (F pd:List Int),σ'=[some (.ref lk),some (.int st),some (.ref gl),some (.ref d),some (.ref pn),v5,v6]/\Same H H'/\H' d=some (.dK (kvF F))/\H' pn=some (.lst (pd.map V.int))/\ReaI k rs st gn F pd/\(∀ y∈F,y ∉ pd->∀ z,Adj rs y z->z ∉ gn->z∈F)/\2 * (k.toNat-F.length)+pd.length<=33/\m'=2 * (k.toNat-F.length)+pd.length,λσ' H' h=>h,?_⟩
   have hx:(pd.map V.int)[(pd.map V.int).length-1]?=some (.int (pd.getD (pd.length-1) 0)):=by
    rw [List.length_map,List.getElem?_map,List.getElem?_eq_getElem (show pd.length-1<pd.length by omega),ZaE (show pd.length-1<pd.length by omega)]
    rfl
   refine ⟨_,rfl,.inl ⟨rfl,_,SqL.of ep⟩,pn,_,_,rfl,rfl,ep,hx,?_⟩
   have hmem:pd.getD (pd.length-1) 0∈pd:=Zbg (by omega)
   have hin:=I.ir _ (I.sb _ hmem)
   have s3:=s2.put (o:=.lst (pd.map V.int).dropLast) hpn0
   have ed3:upd H2 pn (.lst (pd.map V.int).dropLast) d=some (.dK (kvF F)):=Zak ed hdp
   have ep3:upd H2 pn (.lst (pd.map V.int).dropLast) pn=some (.lst (pd.dropLast.map V.int)):=by rw [Zab,List.map_dropLast]
   generalize upd H2 pn (.lst (pd.map V.int).dropLast)=H3 at s3 ed3 ep3 ⊢
   have split:∀ y∈pd,y∈pd.dropLast\/y=pd.getD (pd.length-1) 0:=λy hy=>by
    have e:=List.dropLast_concat_getLast hne
    rw [<-e] at hy
    rcases List.mem_append.mp hy with h | h
    ·exact .inl h
    ·refine .inr ?_
     rw [List.mem_singleton] at h
     rw [h,List.getLast_eq_getElem,ZaE (show pd.length-1<pd.length by omega)]
   have ldrop:pd.dropLast.length=pd.length-1:=List.length_dropLast ..
   generalize pd.getD (pd.length-1) 0=he at hmem hin split ⊢
   obtain ⟨bl,el,bll,hb⟩:=L
   have hbi:bl[he.toNat]?=some (bl[he.toNat]'(by omega)):=List.getElem?_eq_getElem (by omega)
   generalize bl[he.toNat]'(by omega)=na at hbi
   obtain ⟨nb,enb,ndb,hnb⟩:=hb _ _ hbi
   have hee:((he.toNat:Nat):Int)=he:=by omega
   rw [hee] at hnb
   have hat:atI (bl.map V.ref) he=some (.ref na):=by
    have:=Zal (xs:=bl.map V.ref) (j:=he.toNat) (by rw [List.getElem?_map,hbi];rfl)
    rw [hee] at this
    exact this
   refine ⟨_,rfl,_,rfl,lk,_,_,_,rfl,rfl,SqL.of (s3 _ _ el),hat,na,rfl,⟨_,SqL.of (s3 _ _ enb)⟩,?_⟩
   have heF:=I.sb _ hmem
   refine ZbP (K:=K) (a:=na) (xs:=nb.map V.int) (λi σ H4=>∃ (v6:Option V) (F' pd':List Int),σ=[some (.ref lk),some (.int st),some (.ref gl),some (.ref d),some (.ref pn),some (.int he),v6]/\Same H H4/\H4 d=some (.dK (kvF F'))/\H4 pn=some (.lst (pd'.map V.int))/\ReaI k rs st gn F' pd'/\he∈F'/\(∀ y∈F',y ∉ pd'->y≠he->∀ z,Adj rs y z->z ∉ gn->z∈F')/\(∀ (j:Nat) (x:Int),j<i->nb[j]?=some x->x ∉ gn->x∈F')/\2 * (k.toNat-F'.length)+pd'.length+1<=2 * (k.toNat-F.length)+pd.length)
    ⟨_,F,pd.dropLast,rfl,s3,ed3,ep3,⟨I.nd,I.ir,I.ng,I.me,λx hx=>I.sb x (List.dropLast_subset _ hx)⟩,heF,λy hy hn hne' z hz hg=>cl y hy (λhp=>(split y hp).elim hn hne') z hz hg,λj x hj=>absurd hj (Nat.not_lt_zero j),by omega⟩ (λi σ H4 _ ⟨_,_,_,_,s4,_⟩=>SqL.of (s4 _ _ enb)) ?_ ?_
   ·rintro i x σ H4 hxi ⟨w6,F',pd',rfl,s4,ed4,ep4,I4,he4,cl4,in4,me4⟩
    rw [List.getElem?_map] at hxi
    cases hz:nb[i]? with
    | none=>rw [hz] at hxi;cases hxi
    | some p=>
     rw [hz] at hxi
     cases hxi
     have hadj:Adj rs he p:=(hnb p).mp (List.mem_of_getElem? hz)
     refine ⟨_,rfl,_,rfl,d,_,rfl,DGet.k (k:=.inl p) ed4,_,rfl,?_⟩
     rw [Zfn]
     have upto:(p ∉ gn->p∈F')->∀ (j:Nat) (x:Int),j<i+1->nb[j]?=some x->x ∉ gn->x∈F':=λhp j x hj hx hg=>by
      rcases Nat.lt_or_ge j i with h | h
      ·exact in4 j x h hx hg
      ·have e:j=i:=by omega
       subst e
       rw [hz] at hx
       cases hx
       exact hp hg
     refine ZcQ (λzz=>?_) (λzz=>?_)
     ·have hnot:p ∉ F':=λhp=>by rw [decide_eq_true hp] at zz;cases zz
      refine ⟨_,rfl,_,rfl,gl,_,rfl,.inl (SqL.of (s4 _ _ hgl)),rfl,Zhw _,_,rfl,?_⟩
      show if (!inV (.int p) (gn.map V.int))=true then _ else _
      rw [Zd4]
      by_cases hpg:p∈gn
      ·rw [decide_eq_true hpg]
       refine Zb0 ?_
       exact ⟨_,F',pd',rfl,s4,ed4,ep4,I4,he4,cl4,upto (λz=>absurd hpg z),me4⟩
      rw [decide_eq_false hpg]
      refine Zcg ?_
      have l4:=I4.len
      have I5:ReaI k rs st gn (F'++[p]) (pd'++[p]):=by
       refine ⟨List.nodup_append.mpr ⟨I4.nd,List.nodup_cons.mpr ⟨List.not_mem_nil,List.nodup_nil⟩,λa ha b hb e=>?_⟩,λx hx=>?_,λx hx=>?_,List.mem_append_left _ I4.me,λx hx=>?_⟩
       ·rw [List.mem_singleton] at hb
        exact hnot (hb▸e▸ha)
       ·rcases List.mem_append.mp hx with h | h
        ·exact I4.ir x h
        ·rw [List.mem_singleton] at h
         rw [h]
         exact ZdD g hadj
       ·rcases List.mem_append.mp hx with h | h
        ·exact I4.ng x h
        ·rw [List.mem_singleton] at h
         rw [h]
         exact .inr hpg
       ·rcases List.mem_append.mp hx with h | h
        ·exact List.mem_append_left _ (I4.sb x h)
        ·exact List.mem_append_right _ h
      have l5:=I5.len
      rw [List.length_append,List.length_singleton] at l5
      have lk4:(kvF F').length=F'.length:=List.length_map ..
      refine ⟨_,rfl,_,rfl,d,_,rfl,DPut.k (k:=.inl p) ed4 (by omega),?_⟩
      rw [ZkP hnot]
      have ep5:upd H4 d (.dK (kvF (F'++[p]))) pn=some (.lst (pd'.map V.int)):=Zak ep4 (Ne.symm hdp)
      have lpd:pd'.length<=1000:=by omega
      refine ⟨_,rfl,.inl ⟨rfl,_,SqL.of ep5⟩,_,rfl,pn,_,_,rfl,rfl,ep5,by rw [List.length_map];omega,?_⟩
      refine ⟨_,F'++[p],pd'++[p],rfl,(s4.put hd).put hpn0,Zak Zab hdp,by rw [Zab,List.map_append];rfl,I5,List.mem_append_left _ he4,λy hy hn hne' z hz' hg=>?_,λj x hj hx hg=>?_,?_⟩
      ·have hyp:y≠p:=λe=>hn (List.mem_append_right _ (List.mem_singleton.mpr e))
       have hyF:y∈F':=(List.mem_append.mp hy).elim id λh=>absurd (List.mem_singleton.mp h) hyp
       exact List.mem_append_left _ (cl4 y hyF (λh=>hn (List.mem_append_left _ h)) hne' z hz' hg)
      ·rcases Nat.lt_or_ge j i with h | h
       ·exact List.mem_append_left _ (in4 j x h hx hg)
       ·have e:j=i:=by omega
        subst e
        rw [hz] at hx
        cases hx
        exact List.mem_append_right _ (List.mem_singleton.mpr rfl)
      ·rw [List.length_append,List.length_append,List.length_singleton]
       omega
     ·have hp:p∈F':=by
       by_cases h:p∈F'
       ·exact h
       ·rw [decide_eq_false h] at zz;exact absurd rfl zz
      refine Zb0 ?_
      exact ⟨_,F',pd',rfl,s4,ed4,ep4,I4,he4,cl4,upto (λ_=>hp),me4⟩
   ·rintro σ H4 ⟨w6,F',pd',rfl,s4,ed4,ep4,I4,he4,cl4,in4,me4⟩
    rw [List.length_map] at in4
    refine ⟨_,?_,_,_,F',pd',rfl,s4,ed4,ep4,I4,λy hy hn z hz hg=>?_,by omega,rfl⟩
    ·omega
    ·by_cases e:y=he
     ·subst e
      obtain ⟨j,hj,ej⟩:=List.getElem_of_mem ((hnb z).mpr hz)
      exact in4 j z hj (by rw [List.getElem?_eq_getElem hj,ej]) hg
     ·exact cl4 y hy hn e z hz hg
end
end M
namespace M
open PySem L2
theorem Zgs (p:List Int) (hp:p≠[]) (q:Int):Zaj (p++[q]) false=Zaj p false++[(p.getD (p.length-1) 0,q)]:=by
 cases p with
 | nil=>exact absurd rfl hp
 | cons a tl=>
  unfold Zaj
  rw [if_neg Bool.false_ne_true,if_neg Bool.false_ne_true,List.append_nil,List.append_nil]
  show ((a::(tl++[q])).zip (tl++[q]))=(a::tl).zip tl++[((a::tl).getD (tl.length+1-1) 0,q)]
  rw [Zd7,Nat.add_sub_cancel]
theorem ZeM {rs:List (Int×Int)} {p:List Int} {q:Int} (hp:p≠[]):Zdf rs (p++[q]) false↔Zdf rs p false/\q ∉ p/\Adj rs (p.getD (p.length-1) 0) q:=by
 unfold Zdf
 rw [Zgs p hp,List.nodup_append]
 constructor
 ·rintro ⟨h1,h2,_,h3⟩
  exact ⟨⟨λt ht=>h1 t (List.mem_append_left _ ht),h2⟩,λhq=>h3 q hq q (List.mem_singleton.mpr rfl) rfl,h1 _ (List.mem_append_right _ (List.mem_singleton.mpr rfl))⟩
 ·rintro ⟨⟨h1,h2⟩,h3,h4⟩
  refine ⟨λt ht=>?_,h2,List.nodup_cons.mpr ⟨List.not_mem_nil,List.nodup_nil⟩,λa ha b hb e=>?_⟩
  ·rcases List.mem_append.mp ht with h | h
   ·exact h1 t h
   ·rw [List.mem_singleton.mp h]
    exact h4
  ·rw [List.mem_singleton.mp hb] at e
   exact h3 (e▸ha)
theorem ZeN (p:List Int) (hp:p≠[]):p=p.dropLast++[p.getD (p.length-1) 0]:=by
 have h0:0<p.length:=List.length_pos_iff.mpr hp
 conv=>lhs;rw [<-List.dropLast_concat_getLast hp]
 rw [List.getLast_eq_getElem,ZaE (by omega)]
structure Beg (rs:List (Int×Int)) (k one other:Int) (p:List Int):Prop where
 ne:p≠[]
 hd:p.getD 0 0=one
 on:Zdf rs p false
 ir:∀ x∈p,0<=x/\x<k
 no:other ∉ p.dropLast
theorem Beg.len {rs:List (Int×Int)} {k one other:Int} {p:List Int} (h:Beg rs k one other p):p.length<=k.toNat:=ZaS (k:=k.toNat) h.on.2 λx hx=>by have:=h.ir x hx;omega
theorem Beg.way {rs:List (Int×Int)} {k one other:Int} {p:List Int} (h:Beg rs k one other p) (e:p.getD (p.length-1) 0=other):Way rs one other p:=⟨h.ne,h.hd,e,h.on⟩
theorem Zhz {p:List Int} (hp:p≠[]) (r:List Int):(p++r).getD 0 0=p.getD 0 0:=by
 cases p with
 | nil=>exact absurd rfl hp
 | cons a p=>rfl
theorem Beg.notin {rs:List (Int×Int)} {k one other:Int} {p:List Int} (h:Beg rs k one other p) (e:p.getD (p.length-1) 0≠other):other ∉ p:=λz=>by
 rw [ZeN p h.ne] at z
 rcases List.mem_append.mp z with z | z
 ·exact h.no z
 ·exact e (List.mem_singleton.mp z).symm
theorem Beg.more {rs:List (Int×Int)} {k one other q:Int} {p:List Int} (h:Beg rs k one other p) (g:Zah k rs) (e:p.getD (p.length-1) 0≠other) (a:Adj rs (p.getD (p.length-1) 0) q) (hq:q=other\/q ∉ p):Beg rs k one other (p++[q]):=by
 have hqp:q ∉ p:=hq.elim (λz=>z▸h.notin e) id
 refine ⟨by simp,by rw [Zhz h.ne];exact h.hd,(ZeM h.ne).mpr ⟨h.on,hqp,a⟩,λx hx=>?_,by rw [List.dropLast_concat];exact h.notin e⟩
 rcases List.mem_append.mp hx with hx | hx
 ·exact h.ir x hx
 ·rw [List.mem_singleton.mp hx]
  exact ZdD g a
def Inc (a b:List Int):Prop:=¬ a <+: b/\¬ b <+: a
theorem Inc.symm {a b:List Int} (h:Inc a b):Inc b a:=⟨h.2,h.1⟩
theorem ZeO {p r:List Int} (q:Int) (h:Inc p r):Inc (p++[q]) r:=by
 refine ⟨λz=>h.1 ((List.prefix_append p [q]).trans z),λz=>?_⟩
 rcases List.prefix_concat_iff.mp z with z | z
 ·exact h.1 (z▸List.prefix_append p [q])
 ·exact h.2 z
theorem ZkQ (p:List Int) {x y:Int} (h:x≠y):Inc (p++[x]) (p++[y]):=by
 have key:∀ {x y:Int},x≠y->¬ (p++[x]) <+: (p++[y]):=λh z=>by
  have:=z.eq_of_length (by simp)
  have:=List.append_cancel_left this
  simp at this
  exact h this
 exact ⟨key h,key (Ne.symm h)⟩
structure DFS (rs:List (Int×Int)) (k one other:Int) (W P:List (List Int)):Prop where
 pp:∀ p∈P,Beg rs k one other p
 ww:∀ w∈W,Way rs one other w
 cov:∀ w,Way rs one other w->w∈W\/∃ p∈P,p <+: w
 pf:(W++P).Pairwise Inc
theorem ZiR (p:List Int):¬ Inc p p:=λh=>h.1 (List.prefix_refl p)
theorem DFS.nodup {rs:List (Int×Int)} {k one other:Int} {W P:List (List Int)} (h:DFS rs k one other W P):W.Nodup:=List.Pairwise.imp (R:=Inc) (λ{a b} hab (e:a=b)=>ZiR a (by rw [<-e] at hab;exact hab)) (List.pairwise_append.mp h.pf).1
theorem DFS.take {rs:List (Int×Int)} {k one other:Int} {W P:List (List Int)} {p:List Int} (h:DFS rs k one other W (P++[p])) (e:p.getD (p.length-1) 0=other):DFS rs k one other (W++[p]) P:=by
 refine ⟨λq hq=>h.pp q (List.mem_append_left _ hq),λw hw=>?_,λw hw=>?_,?_⟩
 ·rcases List.mem_append.mp hw with hw | hw
  ·exact h.ww w hw
  ·rw [List.mem_singleton.mp hw]
   exact (h.pp p (by simp)).way e
 ·rcases h.cov w hw with z | ⟨q,hq,z⟩
  ·exact .inl (List.mem_append_left _ z)
  ·rcases List.mem_append.mp hq with hq | hq
   ·exact .inr ⟨q,hq,z⟩
   ·rw [List.mem_singleton.mp hq] at z
    refine .inl (List.mem_append_right _ (List.mem_singleton.mpr ?_))
    obtain ⟨r,rfl⟩:=z
    have hp:=h.pp p (by simp)
    cases r with
    | nil=>simp
    | cons x r=>
     exfalso
     have nd:=hw.2.2.2.2
     have hl:=hw.2.2.1
     have m1:other∈p:=by
      rw [ZeN p hp.ne,e]
      simp
     have m2:other∈x::r:=by
      have:(p++x::r).getD ((p++x::r).length-1) 0=(x::r).getD ((x::r).length-1) 0:=by
       rw [List.getD_eq_getElem?_getD,List.getElem?_append_right (by simp),List.getD_eq_getElem?_getD]
       congr 2
       simp
      rw [this] at hl
      rw [<-hl]
      exact Zbg (by simp)
     exact (List.nodup_append.mp nd).2.2 other m1 other m2 rfl
 ·have:(W++[p]++P).Perm (W++(P++[p])):=by
   rw [List.append_assoc]
   exact List.Perm.append_left _ List.perm_append_comm
  exact (this.pairwise_iff λ{a b} h=>h.symm).mpr h.pf
theorem DFS.grow {rs:List (Int×Int)} {k one other:Int} {W P:List (List Int)} {p nb F:List Int} (g:Zah k rs) (h:DFS rs k one other W (P++[p])) (e:p.getD (p.length-1) 0≠other) (nd:nb.Nodup) (hnb:∀ m,m∈nb↔Adj rs (p.getD (p.length-1) 0) m)
  (f1:other∈F) (f2:∀ x∈F,x=other\/x ∉ p) (f3:∀ x∈F,∀ z,Adj rs x z->z ∉ p->z∈F):DFS rs k one other W (P++(nb.filter λx=>decide (x∈F)).map λx=>p++[x]):=by
 have hp:=h.pp p (by simp)
 have pf:=List.pairwise_append.mp h.pf
 have pf2:=List.pairwise_append.mp pf.2.1
 refine ⟨λq hq=>?_,h.ww,λw hw=>?_,?_⟩
 ·rcases List.mem_append.mp hq with hq | hq
  ·exact h.pp q (List.mem_append_left _ hq)
  ·obtain ⟨x,hx,rfl⟩:=List.mem_map.mp hq
   obtain ⟨h1,h2⟩:=List.mem_filter.mp hx
   exact hp.more g e ((hnb x).mp h1) (f2 x (of_decide_eq_true h2))
 ·rcases h.cov w hw with z | ⟨q,hq,z⟩
  ·exact .inl z
  ·rcases List.mem_append.mp hq with hq | hq
   ·exact .inr ⟨q,List.mem_append_left _ hq,z⟩
   ·rw [List.mem_singleton.mp hq] at z
    obtain ⟨r,rfl⟩:=z
    have ow:=hw.2.2.2
    have hl:=hw.2.2.1
    cases r with
    | nil=>
     rw [List.append_nil] at hl
     exact absurd hl e
    | cons x r=>
     have key:∀ (r:List Int) (x:Int) (pre:List Int),Zdf rs (pre++x::r) false->(x::r).getD ((x::r).length-1) 0=other->(∀ y∈x::r,y ∉ p)->x∈F:=by
      intro r
      induction r with
      | nil=>
       intro x pre _ hl _
       have hl:x=other:=hl
       rw [hl]
       exact f1
      | cons y r ih=>
       intro x pre o hl hn
       have iy:=ih y (pre++[x]) (by rw [List.append_assoc];exact o) (by rw [<-hl];rfl) λz hz=>hn z (List.mem_cons_of_mem _ hz)
       refine f3 y iy x ?_ (hn x (List.mem_cons_self ..))
       have:(x,y)∈Zaj (pre++x::y::r) false:=by
        unfold Zaj
        rw [if_neg Bool.false_ne_true,List.append_nil]
        rw [List.mem_iff_getElem?]
        refine ⟨pre.length,?_⟩
        rw [List.getElem?_zip_eq_some]
        constructor
        ·rw [List.getElem?_append_right (Nat.le_refl _),Nat.sub_self]
         rfl
        ·rw [List.getElem?_drop,List.getElem?_append_right (by omega),show 1+pre.length-pre.length=1 by omega]
         rfl
       exact ZkM (o.1 _ this)
     have hx:x∈F:=key r x p ow (by
      rw [<-hl,List.getD_eq_getElem?_getD,List.getD_eq_getElem?_getD,List.getElem?_append_right (by simp)]
      congr 2
      simp) λy hy hy'=>(List.nodup_append.mp ow.2).2.2 y hy' y hy rfl
     have ha:Adj rs (p.getD (p.length-1) 0) x:=by
      have o2:Zdf rs (p++[x]) false:=by
       have:p++x::r=(p++[x])++r:=by simp
       rw [this] at ow
       refine ⟨λt ht=>ow.1 t ?_,(List.nodup_append.mp ow.2).1⟩
       unfold Zaj at ht ⊢
       rw [if_neg Bool.false_ne_true,List.append_nil] at ht ⊢
       obtain ⟨i,hi⟩:=List.mem_iff_getElem?.mp ht
       rw [List.getElem?_zip_eq_some] at hi
       rw [List.mem_iff_getElem?]
       refine ⟨i,List.getElem?_zip_eq_some.mpr ⟨?_,?_⟩⟩
       ·rw [List.getElem?_append_left (List.getElem?_eq_some_iff.mp hi.1).1]
        exact hi.1
       ·have h2:=hi.2
        rw [List.getElem?_drop] at h2 ⊢
        rw [List.getElem?_append_left (List.getElem?_eq_some_iff.mp h2).1]
        exact h2
      exact ((ZeM hp.ne).mp o2).2.2
     refine .inr ⟨p++[x],List.mem_append_right _ (List.mem_map.mpr ⟨x,List.mem_filter.mpr ⟨(hnb x).mpr ha,decide_eq_true hx⟩,rfl⟩),r,by simp⟩
 ·refine List.pairwise_append.mpr ⟨pf.1,List.pairwise_append.mpr ⟨pf2.1,?_,λa ha b hb=>?_⟩,λa ha b hb=>?_⟩
  ·rw [List.pairwise_map]
   exact (nd.sublist List.filter_sublist).imp λh=>ZkQ p h
  ·obtain ⟨x,_,rfl⟩:=List.mem_map.mp hb
   exact (ZeO x (pf2.2.2 a ha p (by simp)).symm).symm
  ·rcases List.mem_append.mp hb with hb | hb
   ·exact pf.2.2 a ha b (List.mem_append_left _ hb)
   ·obtain ⟨x,_,rfl⟩:=List.mem_map.mp hb
    exact (ZeO x (pf.2.2 a ha p (by simp)).symm).symm
def ZfW (k:Nat) (P:List (List Int)):Nat:=(P.map λp=>(k+2) ^ (k-p.length)).sum
theorem Zd8 (k:Nat) (P R:List (List Int)):ZfW k (P++R)=ZfW k P+ZfW k R:=by unfold ZfW;rw [List.map_append,List.sum_append]
theorem ZfX (k:Nat) (p:List Int):ZfW k [p]=(k+2) ^ (k-p.length):=by simp [ZfW]
theorem ZeP (k:Nat) (p:List Int):∀ (xs:List Int),ZfW k (xs.map λx=>p++[x])=xs.length * (k+2) ^ (k-(p.length+1))
 | []=>by simp [ZfW]
 | x::xs=>by
  have:=ZeP k p xs
  unfold ZfW at this ⊢
  rw [List.map_cons,List.map_cons,List.sum_cons,this,List.length_append,List.length_singleton,List.length_cons,Nat.succ_mul]
  omega
theorem ZhA {k:Int} {rs:List (Int×Int)} {one other:Int} {p nb F:List Int} {P:List (List Int)} (g:Zah k rs) (hp:Beg rs k one other p) (e:p.getD (p.length-1) 0≠other) (nd:nb.Nodup) (hnb:∀ m,m∈nb↔Adj rs (p.getD (p.length-1) 0) m) (f2:∀ x∈F,x=other\/x ∉ p) :
  ZfW k.toNat (P++(nb.filter λx=>decide (x∈F)).map λx=>p++[x])<ZfW k.toNat (P++[p]):=by
 rw [Zd8,Zd8,ZfX,ZeP]
 have hpos:0<(k.toNat+2) ^ (k.toNat-p.length):=Nat.pow_pos (by omega)
 generalize hxs:(nb.filter λx=>decide (x∈F))=xs
 by_cases hx:xs=[]
 ·subst hx
  simp
  exact hpos
 ·obtain ⟨x,hxm⟩:=List.exists_mem_of_ne_nil xs hx
  rw [<-hxs] at hxm
  obtain ⟨h1,h2⟩:=List.mem_filter.mp hxm
  have b:=(hp.more g e ((hnb x).mp h1) (f2 x (of_decide_eq_true h2))).len
  rw [List.length_append,List.length_singleton] at b
  have hl:xs.length<=k.toNat:=by
   rw [<-hxs]
   refine Nat.le_trans (List.length_filter_le _ _) (ZaS (k:=k.toNat) nd λy hy=>?_)
   have:=ZdD g ((hnb y).mp hy)
   omega
  have e2:(k.toNat+2) ^ (k.toNat-p.length)=(k.toNat+2) * (k.toNat+2) ^ (k.toNat-(p.length+1)):=by
   rw [show k.toNat-p.length=(k.toNat-(p.length+1))+1 by omega,Nat.pow_succ,Nat.mul_comm]
  rw [e2]
  have q:0<(k.toNat+2) ^ (k.toNat-(p.length+1)):=Nat.pow_pos (by omega)
  have:=Nat.mul_le_mul_right ((k.toNat+2) ^ (k.toNat-(p.length+1))) hl
  have e3:(k.toNat+2) * (k.toNat+2) ^ (k.toNat-(p.length+1))=k.toNat * (k.toNat+2) ^ (k.toNat-(p.length+1))+2 * (k.toNat+2) ^ (k.toNat-(p.length+1)):=Nat.add_mul ..
  omega
end M
namespace M
open PySem L2
theorem ZdF {k:Int} {rs:List (Int×Int)} (g:Zah k rs) (p:Int):(Zfl rs p).Nodup:=by
 unfold Zfl
 have nd:rs.Nodup:=g.2.2.2.2
 refine List.Pairwise.map (R:=λa b:Int×Int=>(a∈rs/\b∈rs)/\(a≠b/\Zbl a p=true/\Zbl b p=true)) _ (λa b h e=>?_) ?_
 ·obtain ⟨⟨ha,hb⟩,hne,h1,h2⟩:=h
  have g1:=g.2.2.2.1 a ha
  have g2:=g.2.2.2.1 b hb
  have h1:=of_decide_eq_true h1
  have h2:=of_decide_eq_true h2
  apply hne
  obtain ⟨a1,a2⟩:=a
  obtain ⟨b1,b2⟩:=b
  dsimp only at *
  have:a1=b1/\a2=b2:=by omega
  rw [this.1,this.2]
 ·refine List.Pairwise.imp_of_mem ?_ (nd.sublist List.filter_sublist)
  intro a b ha hb hab
  obtain ⟨h1,h2⟩:=List.mem_filter.mp ha
  obtain ⟨h3,h4⟩:=List.mem_filter.mp hb
  exact ⟨⟨h1,h3⟩,hab,h2,h4⟩
def Lz (H:Hp) (zs:List (Addr×List Int)):Prop:=∀ z∈zs,H z.1=some (.lst (z.2.map V.int))
theorem Lz.same {H H':Hp} {zs:List (Addr×List Int)} (h:Lz H zs) (s:Same H H'):Lz H' zs:=λz hz=>s _ _ (h z hz)
theorem Lz.put {H:Hp} {zs:List (Addr×List Int)} {a:Addr} {o:HO} (h:Lz H zs) (ha:∀ z∈zs,z.1≠a):Lz (upd H a o) zs:=λz hz=>Zak (h z hz) (ha z hz)
section
variable {P:Program} {w:World} {K:PySem.W.Frag} {mg:Str->Option Value} {base:Heap}
structure Wys (rs:List (Int×Int)) (p q:Int) (W:List (List Int)):Prop where
 ww:∀ w∈W,Way rs p q w
 nd:W.Nodup
 ln:W.length<=301
 al:W.length<=300->∀ w,Way rs p q w->w∈W
def ZkR:Sp:=λvs H Q _=>∃ (wb l:Addr) (k p q:Int) (xs:List V) (rs:List (Int×Int)),vs=[.ref wb,.int p,.int q]/\WebAt H wb l k xs rs/\Zah k rs/\Ends k p q /\
 ∀ (wa:Addr) (zs:List (Addr×List Int)) (H':Hp),Same H H'->H wa=none->H' wa=some (.lst (zs.map λz=>V.ref z.1))->Lz H' zs->(∀ z∈zs,H z.1=none)->Wys rs p q (zs.map (·.2))->Q (.ref wa) H'
theorem scWbt:Zav ["web", "one", "other", "links", "ways", "pending", "places", "hopeful"] ["web", "one", "other"] (Zaf ZiH):=⟨rfl,rfl,rfl,by decide +kernel,rfl,by decide +kernel,by decide +kernel⟩
def WbI (H HL:Hp) (k:Int) (rs:List (Int×Int)) (p q:Int) (wb D wa pn:Addr) (m:Nat) (σ:St) (H2:Hp):Prop:=∃ (v6 v7:Option V) (Wz Pz:List (Addr×List Int)),
 σ=[some (.ref wb),some (.int p),some (.int q),some (.ref D),some (.ref wa),some (.ref pn),v6,v7]/\Same HL H2/\H2 wa=some (.lst (Wz.map λz=>V.ref z.1))/\H2 pn=some (.lst (Pz.map λz=>V.ref z.1))/\Lz H2 Wz/\Lz H2 Pz /\
 (∀ z∈Wz++Pz,z.1≠wa/\z.1≠pn/\HL z.1=none)/\DFS rs k p q (Wz.map (·.2)) (Pz.map (·.2))/\Wz.length<=301/\(∀ (j:Nat) (z:Addr×List Int),Pz[j]?=some z->j<k.toNat * z.2.length)/\m=ZfW k.toNat (Pz.map (·.2))
theorem Zmg {f fZ fRe C2:Addr} {fd fdZ fdRe:FuncData} {tM:Tok} (F:Fun K "ways_between" "ways_between" ZiH f fd)
  (FZ:Fun K "beside" "beside" Zkv fZ fdZ) (bZ:Binds K fdZ ["web", "place"] []) (mZ:mg "beside" = some (.ref fZ)) (GZ:ZaO P w K mg base (CXr P w) 3 fZ fdZ ["web", "place"] (Zl8 C2))
  (FRe:Fun K "reached" "reached" Zjn fRe fdRe) (bRe:Binds K fdRe ["links", "start", "gone"] []) (mRe:mg "reached" = some (.ref fRe)) (mMoW:mg "MOST_WAYS" = some (.int 300 tM)) (mRange:mg "range" = none) (mLen:mg "len" = none):ZaO P w K mg base CX0 4 f fd ["web", "one", "other"] ZkR:=by
 have GRe:ZaO P w K mg base CX0 1 fRe fdRe ["links", "start", "gone"] Zme:=Zmf FRe
 refine F.ok scWbt (λvs H Q E h=>?_) (λcdv A outer s H vs Q E hr h=>?_)
 ·obtain ⟨_,_,_,_,_,_,_,rfl,_⟩:=h
  rfl
 ·obtain ⟨wb,l,k,p,q',xs,rs,rfl,W,g,en,q⟩:=h
  have h16:(16777216:Nat)=sizeLine:=sizeLine_eq.symm
  have hu1:(A.deeper (PyProof.Rows.envOfC "ways_between" (Zaf ZiH) s.heap.objs.size f cdv)).units+1<cLine:=by have:=hr.un;omega
  have hx:xs.length<=30:=by rw [W.p.len];exact g.2.2.1
  have g1:=g.1
  have g2:=g.2.1
  refine ⟨_,Zag (ZjV (i:=3) scWbt.nd rfl (Or.inl rfl) (own:=["place"]) rfl (Zaz (fr:=[("web", 0)]) [(".0", .local),("place", .local),("beside", .globalImplicit),("web", .cell)] rfl rfl (by decide +kernel) rfl (by decide +kernel) ⟨rfl,trivial⟩ ⟨λh=>Za0 h,λh=>Za0 h,λh=>Za0 h,λ_=>⟨_,rfl⟩,trivial⟩ ⟨⟨rfl,.inl rfl,.inl rfl⟩,trivial⟩) (Za9 rfl mRange (Zaa (Zaw (Zck K) (pv 0) Zad (λ_ _=>rfl)) Zac)) (λ_ _ _ _=>Zar (i:=0) (show List.Nodup (["place", "web"]:List Str) by decide +kernel) rfl (Or.inl rfl)) (λ_ _ _ _=>Zbp) (λ_ _ _ _=>Zan GZ (hr.mono (by decide)) rfl mZ FZ.kp bZ .nil Znh (Zaa (pv 1) (Zaa (pv 0) Zac))))
    (Zag (Zax (i:=4) scWbt.nd rfl (Or.inl rfl) (ZaB Zac))
    (Zag (Zax (i:=5) scWbt.nd rfl (Or.inl rfl) (ZaB (Zaa (ZaB (Zaa (pv 1) Zac)) Zac)))
    (Zag (ZdJ PassesOwn.never (PW.pt (Zc5 (Zfw (pv 5) (λ_=>rfl)) (Zb6 (Zay Zlo (Zat (Zgd K) rfl mLen PySem.boot_len (Zaa (pv 4) Zac)) (ZeV (v:=.int 300) rfl mMoW ⟨_,rfl⟩) (ZaF _)))))
    (Zag (Zax (i:=6) scWbt.nd rfl (Or.inr rfl) (Zjb PySem.F.plainAttrs_list PySem.F.slot_list_pop PySem.F.type_list_pop Zjc (pv 5)))
    (Zai (ZaX (Zay ZdK (Zaw (Zbz K) (pv 6) (ZeW Zb9 Zad) (λ_ _=>rfl)) (pv 2) (ZaF _)) (Zai (Za2 (ZcT PySem.F.plainAttrs_list PySem.F.slot_list_append PySem.F.type_list_append Za5 (pv 4) (Zaa (pv 6) Zac)))) (Zag (Zax (i:=7) scWbt.nd rfl (Or.inr rfl) (Zan GRe (hr.mono (by decide)) rfl mRe FRe.kp bRe .nil ZaQ (Zaa (pv 3) (Zaa (pv 2) (Zaa (pv 6) Zac)))))
    (Zai (Za2 (ZcT PySem.F.plainAttrs_list PySem.F.slot_list_extend PySem.F.type_list_extend ZgR (pv 5) (Zaa (Zbi (own:=["place"]) rfl (Zaz (fr:=[("places", 6),("hopeful", 7)]) [(".0", .local),("place", .local),("hopeful", .cell),("places", .cell)] rfl rfl (by decide +kernel) rfl (by decide +kernel) ⟨rfl,rfl,trivial⟩ ⟨λh=>Za0 h,λh=>Za0 h,λ_=>⟨_,rfl⟩,λ_=>⟨_,rfl⟩,trivial⟩ ⟨⟨rfl,.inl rfl,.inl rfl⟩,⟨rfl,.inl rfl,.inl rfl⟩,trivial⟩) (ZcF K (Zaw (Zbz K) (pv 3) (Zaw (Zbz K) (pv 6) (ZeW Zb9 Zad) (λ_ _=>rfl)) (λ_ _=>rfl))) (λ_ _ _ _=>Zar (i:=0) (show List.Nodup (["place", "places", "hopeful"]:List Str) by decide +kernel) rfl (Or.inl rfl)) (λ_ _ _ _=>ZcY (Zi7 (ZlH hu1 (pv 0) (pv 2)) rfl)) (λ_ _ _ _=>Zas ZcP (pv 1) (ZaB (Zaa (pv 0) Zac)))) Zac)))))))))
    (Zai (Zau (pv 4)))))),?_⟩
  refine ⟨_,rfl,wb,_,_,_,rfl,rfl,SqT.of W.w,Zal (j:=0) rfl,_,rfl,by omega,by omega,λD hD=>?_⟩
  refine ZbS (lo:=0) (n:=k.toNat) (λi ys H2=>Same H H2/\H2 D=some (.lst ys)/\∃ bl:List Addr,ys=bl.map V.ref/\bl.length=i/\∀ (j:Nat) (a:Addr),bl[j]?=some a->∃ ns:List Int,H2 a=some (.lst (ns.map V.int))/\a≠D/\ns.Nodup/\∀ m,m∈ns↔Adj rs (j:Int) m) ⟨Same.new hD,Zab,[],rfl,rfl,λj a h=>(by cases h)⟩ ?_ ?_
  ·rintro i ys H2 hi ⟨s2,hD2,bl,rfl,hbl,hb⟩
   rw [Int.zero_add]
   refine ⟨⟨rfl,trivial⟩,?_⟩
   unfold Zjd
   refine Zcg ?_
   refine ⟨_,rfl,_,rfl,wb,l,k,(i:Int),xs,rs,rfl,W.same s2,by omega,.inl ⟨⟨by omega,by omega⟩,λr ns H3 s3 hr3 er3 pm so=>?_⟩⟩
   have hrD:r≠D:=λz=>by rw [z,hD2] at hr3;cases hr3
   refine ⟨s3 _ _ hD2,by rw [List.length_map];omega,(s2.trans s3).put hD,Zab,bl++[r],by rw [List.map_append];rfl,by rw [List.length_append,List.length_singleton,hbl],λj a ha=>?_⟩
   rcases Nat.lt_or_ge j bl.length with hj | hj
   ·rw [List.getElem?_append_left hj] at ha
    obtain ⟨ms,e1,e2,e3⟩:=hb j a ha
    exact ⟨ms,Zak (s3 _ _ e1) e2,e2,e3⟩
   ·rw [List.getElem?_append_right hj] at ha
    have hj0:j-bl.length=0:=by
     by_cases z:j-bl.length=0
     ·exact z
     ·rw [List.getElem?_eq_none (by rw [List.length_singleton];omega)] at ha;cases ha
    rw [hj0] at ha
    cases ha
    refine ⟨ns,Zak er3 hrD,hrD,pm.nodup_iff.mpr (ZdF g _),λm=>?_⟩
    rw [pm.mem_iff,show (j:Int)=(i:Int) by omega]
    exact ZkO g
  rintro ys H2 ⟨s2,hD2,bl,rfl,hbl,hb⟩
  have L:LinksAt H2 D k rs:=⟨bl,hD2,hbl,λi a ha=>(hb i a ha).elim λns h=>⟨ns,h.1,h.2.2⟩⟩
  clear hb hbl
  refine ⟨Nat.zero_le _,λwa hwa=>?_⟩
  have s3:Same H2 (upd H2 wa (.lst [])):=Same.new hwa
  have e3:upd H2 wa (.lst []) wa=some (.lst []):=Zab
  generalize upd H2 wa (.lst [])=H3 at s3 e3 ⊢
  refine ⟨_,rfl,(by show 1<=sizeLine;omega),λp0 hp0=>⟨(by show 1<=sizeLine;omega),λpn hpn=>?_⟩⟩
  have s4:Same H3 (upd H3 p0 (.lst [.int p])):=Same.new hp0
  have e4:upd H3 p0 (.lst [.int p]) p0=some (.lst ([p].map V.int)):=Zab
  generalize upd H3 p0 (.lst [.int p])=H4 at s4 e4 hpn ⊢
  have s5:Same H4 (upd H4 pn (.lst [.ref p0])):=Same.new hpn
  have e5:upd H4 pn (.lst [.ref p0]) pn=some (.lst [.ref p0]):=Zab
  generalize upd H4 pn (.lst [.ref p0])=H5 at s5 e5 ⊢
  have S5:=s3.trans (s4.trans s5)
  have hwa2:H2 wa=none:=hwa
  have hpn2:H2 pn=none:=(s3.trans s4).free hpn
  have hp02:H2 p0=none:=s3.free hp0
  have hwp:wa≠pn:=Zae (s4 _ _ e3) hpn
  have dfs0:DFS rs k p q' [] [[p]]:=by
   refine ⟨λr hr'=>?_,λr hr'=>(by cases hr'),λr hr'=>.inr ⟨[p],by simp,?_⟩,by simp⟩
   ·rw [List.mem_singleton.mp hr']
    exact ⟨by simp,rfl,⟨λt ht=>by simp [Zaj] at ht,by simp⟩,λx hx=>by rw [List.mem_singleton.mp hx];exact en.1,by simp⟩
   ·obtain ⟨h1,h2,_⟩:=hr'
    cases r with
    | nil=>exact absurd rfl h1
    | cons a r=>
     have h2:a=p:=h2
     rw [h2]
     exact ⟨r,rfl⟩
  refine ⟨WbI H H2 k rs p q' wb D wa pn,⟨_,none,none,[],[(p0,[p])],rfl,S5,s5 _ _ (s4 _ _ e3),e5,λz hz=>(by cases hz),λz hz=>?_,λz hz=>?_,dfs0,by simp,λj z hj=>?_,rfl⟩,?_⟩
  ·rw [List.mem_singleton.mp hz]
   exact s5 _ _ e4
  ·have hz:z=(p0,[p]):=by simpa using hz
   rw [hz]
   exact ⟨Ne.symm (Zae e3 hp0),Zae e4 hpn,hp02⟩
  ·cases j with
   | zero=>
    simp at hj
    rw [<-hj]
    show 0<k.toNat * 1
    omega
   | succ j=>simp at hj
  rintro m σ H6 ⟨v6,v7,Wz,Pz,rfl,s6,ew,ep,lw,lp,fr,dfs,l301,jn,rfl⟩
  refine ⟨_,rfl,_,.inl ⟨_,SqL.of ep,rfl⟩,?_⟩
  have hwaH:H wa=none:=s2.free hwa2
  have frH:∀ z∈Wz,H z.1=none:=λz hz=>s2.free (fr z (List.mem_append_left _ hz)).2.2
  cases hpd:Pz.isEmpty with
  | true=>
   have e:Pz=[]:=List.isEmpty_iff.mp hpd
   subst e
   refine Zb0 ?_
   refine Zb0 ?_
   refine ⟨_,rfl,q wa Wz H6 (s2.trans s6) hwaH ew lw frH ⟨dfs.ww,dfs.nodup,by rw [List.length_map];exact l301,λ_ r hr'=>?_⟩⟩
   rcases dfs.cov r hr' with z | ⟨_,z,_⟩
   ·exact z
   ·cases z
  | false=>
   have hne:Pz≠[]:=λe=>by rw [e] at hpd;cases hpd
   have hpos:0<Pz.length:=List.length_pos_iff.mpr hne
   have et:(!(Pz.map λz=>V.ref z.1).isEmpty)=true:=by
    cases Pz with
    | nil=>exact absurd rfl hne
    | cons _ _=>rfl
   rw [et]
   refine Zcg ?_
   refine ⟨_,rfl,wa,_,rfl,.inl (SqL.of ew),_,_,rfl,rfl,_,rfl,?_⟩
   rw [List.length_map]
   by_cases h300:(Wz.length:Int)<=300
   rotate_left
   ·rw [decide_eq_false h300]
    refine Zb0 ?_
    exact ⟨_,rfl,q wa Wz H6 (s2.trans s6) hwaH ew lw frH ⟨dfs.ww,dfs.nodup,by rw [List.length_map];exact l301,λz=>by rw [List.length_map] at z;omega⟩⟩
   rw [decide_eq_true h300]
   refine Zcg ?_
   refine ⟨_,λσ' H' h=>h,?_⟩
   obtain ⟨Pr,z0,rfl⟩:∃ Pr z0,Pz=Pr++[z0]:=⟨Pz.dropLast,Pz.getLast hne,(List.dropLast_concat_getLast hne).symm⟩
   obtain ⟨pa,pl⟩:=z0
   have hxl:((Pr++[(pa,pl)]).map λz=>V.ref z.1)[((Pr++[(pa,pl)]).map λz=>V.ref z.1).length-1]?=some (.ref pa):=by simp
   refine ⟨_,rfl,.inl ⟨rfl,_,SqL.of ep⟩,pn,_,_,rfl,rfl,ep,hxl,?_⟩
   have edl:((Pr++[(pa,pl)]).map λz=>V.ref z.1).dropLast=Pr.map λz=>V.ref z.1:=by rw [List.map_append];exact List.dropLast_concat
   rw [edl]
   dsimp only [Za7]
   have s7:Same H2 (upd H6 pn (.lst (Pr.map λz=>V.ref z.1))):=s6.put hpn2
   have ew7:upd H6 pn (.lst (Pr.map λz=>V.ref z.1)) wa=some (.lst (Wz.map λz=>V.ref z.1)):=Zak ew hwp
   have ep7:upd H6 pn (.lst (Pr.map λz=>V.ref z.1)) pn=some (.lst (Pr.map λz=>V.ref z.1)):=Zab
   have lw7:Lz (upd H6 pn (.lst (Pr.map λz=>V.ref z.1))) Wz:=lw.put λz hz=>(fr z (List.mem_append_left _ hz)).2.1
   have lp7:Lz (upd H6 pn (.lst (Pr.map λz=>V.ref z.1))) (Pr++[(pa,pl)]):=lp.put λz hz=>(fr z (List.mem_append_right _ hz)).2.1
   generalize upd H6 pn (.lst (Pr.map λz=>V.ref z.1))=H7 at s7 ew7 ep7 lw7 lp7 ⊢
   have epa:H7 pa=some (.lst (pl.map V.int)):=lp7 (pa,pl) (by simp)
   have lpr:Lz H7 Pr:=λz hz=>lp7 z (List.mem_append_left _ hz)
   have fpa:=fr (pa,pl) (by simp)
   have emap:(Pr++[(pa,pl)]).map (·.2)=Pr.map (·.2)++[pl]:=by simp
   rw [emap] at dfs
   have hB:Beg rs k p q' pl:=dfs.pp pl (by simp)
   have hlk:pl.length<=16:=by have:=hB.len;omega
   have jt:Pr.length<k.toNat * pl.length:=jn Pr.length (pa,pl) (by simp)
   have h256:Pr.length<=256:=by
    have h1:k.toNat * pl.length<=16 * 16:=Nat.mul_le_mul (by omega) hlk
    omega
   refine ⟨_,rfl,_,rfl,pa,_,_,_,rfl,rfl,SqL.of epa,Zde hB.ne,_,rfl,rfl,_,rfl,?_⟩
   refine ZcQ (λhe=>?_) (λhe=>?_)
   ·have he:pl.getD (pl.length-1) 0=q':=by
     have:=of_decide_eq_true he
     injection this
    refine ⟨_,rfl,.inl ⟨rfl,_,SqL.of ew7⟩,_,rfl,wa,_,_,rfl,rfl,ew7,by rw [List.length_map];omega,?_⟩
    refine ⟨ZfW k.toNat (Pr.map (·.2)),?_,_,_,Wz++[(pa,pl)],Pr,rfl,s7.put hwa2,?_,Zak ep7 (Ne.symm hwp),?_,lpr.put λz hz=>(fr z (by simp [hz])).1,λz hz=>?_,?_,?_,λj z hj=>?_,rfl⟩
    ·rw [emap,Zd8,ZfX]
     have:0<(k.toNat+2) ^ (k.toNat-pl.length):=Nat.pow_pos (by omega)
     omega
    ·rw [Zab,List.map_append]
     rfl
    ·refine Lz.put (λz hz=>?_) λz hz=>?_
     ·rcases List.mem_append.mp hz with hz | hz
      ·exact lw7 z hz
      ·rw [List.mem_singleton.mp hz]
       exact epa
     ·rcases List.mem_append.mp hz with hz | hz
      ·exact (fr z (List.mem_append_left _ hz)).1
      ·rw [List.mem_singleton.mp hz]
       exact fpa.1
    ·refine fr z ?_
     simp at hz ⊢
     rcases hz with hz | hz | hz
     ·exact .inl hz
     ·exact .inr (.inr hz)
     ·exact .inr (.inl hz)
    ·rw [List.map_append]
     exact dfs.take he
    ·rw [List.length_append,List.length_singleton]
     omega
    ·refine jn j z ?_
     rw [List.getElem?_append_left (List.getElem?_eq_some_iff.mp hj).1]
     exact hj
   ·have he:pl.getD (pl.length-1) 0≠q':=λz=>he (decide_eq_true (by rw [z]))
    refine ⟨_,rfl,_,rfl,_,rfl,D,pa,k,q',rs,pl,rfl,g,L.same s7,epa,en.2.1,λd Fd H8 s8 hd ed nd8 fl8 me8 ng8 cl8=>?_⟩
    dsimp only [Za7]
    have s27:=s7.trans s8
    have ep8:=s8 _ _ ep7
    have epa8:=s8 _ _ epa
    have ew8:=s8 _ _ ew7
    obtain ⟨bl,el,bll,hb⟩:=L.same s27
    have hin:=hB.ir _ (show pl.getD (pl.length-1) 0∈pl from Zbg (by have:=List.length_pos_iff.mpr hB.ne;omega))
    generalize hla:pl.getD (pl.length-1) 0=la at he hin
    have hbi:bl[la.toNat]?=some (bl[la.toNat]'(by omega)):=List.getElem?_eq_getElem (by omega)
    generalize bl[la.toNat]'(by omega)=na at hbi
    obtain ⟨nb,enb,ndb,hnb⟩:=hb _ _ hbi
    have hee:((la.toNat:Nat):Int)=la:=by omega
    rw [hee] at hnb
    have hat:atI (bl.map V.ref) la=some (.ref na):=by
     have:=Zal (xs:=bl.map V.ref) (j:=la.toNat) (by rw [List.getElem?_map,hbi];rfl)
     rw [hee] at this
     exact this
    have hatl:atI (pl.map V.int) (-1)=some (.int la):=by rw [<-hla];exact Zde hB.ne
    refine ⟨_,rfl,.inl ⟨rfl,_,SqL.of ep8⟩,_,rfl,_,rfl,_,rfl,pa,_,_,_,rfl,rfl,SqL.of epa8,hatl,D,_,_,_,rfl,rfl,SqL.of el,hat,na,rfl,⟨_,SqL.of enb⟩,λDc hDc=>?_⟩
    have lnb:nb.length<=16:=by
     have:=ZaS (k:=k.toNat) ndb λy hy=>by have:=ZdD g ((hnb y).mp hy);omega
     omega
    refine Zba (K:=K) (a:=na) (xs:=nb.map V.int) (λj ys H9=>Same H8 H9/\H9 Dc=some (.lst ys)/\∃ cz:List (Addr×List Int),ys=cz.map (λz=>V.ref z.1)/\Lz H9 cz/\(∀ z∈cz,z.1≠Dc/\H8 z.1=none)/\cz.map (·.2)=((nb.take j).filter λx=>decide (x∈Fd)).map λx=>pl++[x]) ⟨Same.new hDc,Zab,[],rfl,λz hz=>(by cases hz),λz hz=>(by cases hz),rfl⟩ (λj ys H9 _ ⟨s9,_⟩=>SqL.of (s9 _ _ enb)) ?_ ?_
    ·rintro j x ys H9 hxj ⟨s9,eD9,cz,rfl,l9,f9,m9⟩
     rw [List.getElem?_map] at hxj
     cases hz:nb[j]? with
     | none=>rw [hz] at hxj;cases hxj
     | some x'=>
      rw [hz] at hxj
      cases hxj
      have hstep:nb.take (j+1)=nb.take j++[x']:=by rw [List.take_add_one,hz];rfl
      have lcz:cz.length<=16:=by
       have h1:cz.length=(cz.map (·.2)).length:=by rw [List.length_map]
       rw [h1,m9,List.length_map]
       have:=List.length_filter_le (λx=>decide (x∈Fd)) (nb.take j)
       rw [List.length_take] at this
       omega
      refine ⟨⟨rfl,rfl,trivial⟩,?_⟩
      refine ⟨_,rfl,_,rfl,d,_,rfl,DGet.k (k:=.inl x') (s9 _ _ ed),_,rfl,?_⟩
      rw [Zfn]
      refine ZcQ (λhz2=>?_) (λhz2=>?_)
      ·have hxF:x'∈Fd:=of_decide_eq_true hz2
       refine ⟨_,rfl,_,rfl,(by show 1<=sizeLine;omega),λe1 he1=>?_⟩
       have s10:Same H9 (upd H9 e1 (.lst [.int x'])):=Same.new he1
       have e10:upd H9 e1 (.lst [.int x']) e1=some (.lst [.int x']):=Zab
       generalize upd H9 e1 (.lst [.int x'])=H10 at s10 e10 ⊢
       refine ⟨pa,e1,_,_,rfl,rfl,s10 _ _ (s9 _ _ epa8),e10,by rw [List.length_map,List.length_singleton];omega,λnp hnp=>?_⟩
       have s11:Same H10 (upd H10 np (.lst (pl.map V.int++[.int x']))):=Same.new hnp
       have e11:upd H10 np (.lst (pl.map V.int++[.int x'])) np=some (.lst ((pl++[x']).map V.int)):=by rw [Zab,List.map_append];rfl
       have hDn:Dc≠np:=Zae (s10 _ _ eD9) hnp
       have hn8:H8 np=none:=(s9.trans s10).free hnp
       generalize upd H10 np (.lst (pl.map V.int++[.int x']))=H11 at s11 e11 ⊢
       have S11:=s10.trans s11
       refine ⟨S11 _ _ eD9,by rw [List.length_map];omega,(s9.trans S11).put hDc,Zab,cz++[(np,pl++[x'])],by rw [List.map_append];rfl,λz hz=>?_,λz hz=>?_,?_⟩
       ·rcases List.mem_append.mp hz with hz | hz
        ·exact Zak (S11 _ _ (l9 z hz)) (f9 z hz).1
        ·rw [List.mem_singleton.mp hz]
         exact Zak e11 (Ne.symm hDn)
       ·rcases List.mem_append.mp hz with hz | hz
        ·exact f9 z hz
        ·rw [List.mem_singleton.mp hz]
         exact ⟨Ne.symm hDn,hn8⟩
       ·rw [List.map_append,m9,hstep,List.filter_append,List.map_append,List.filter_cons,if_pos hz2]
        rfl
      ·refine ⟨s9,eD9,cz,rfl,l9,f9,?_⟩
       rw [m9,hstep,List.filter_append,List.map_append,List.filter_cons,if_neg hz2]
       simp
    ·rintro ys H9 ⟨s9,eD9,cz,rfl,l9,f9,m9⟩
     rw [List.length_map,List.take_length] at m9
     have ep9:=s9 _ _ ep8
     have ew9:=s9 _ _ ew8
     have lcz:cz.length<=k.toNat:=by
      have h1:cz.length=(cz.map (·.2)).length:=by rw [List.length_map]
      rw [h1,m9,List.length_map]
      refine Nat.le_trans (List.length_filter_le _ _) (ZaS (k:=k.toNat) ndb λy hy=>?_)
      have:=ZdD g ((hnb y).mp hy)
      omega
     refine ⟨pn,Dc,_,_,rfl,rfl,ep9,eD9,by rw [List.length_map,List.length_map];omega,?_⟩
     have s29:=s27.trans s9
     have hczpn:∀ z∈cz,z.1≠pn:=λz hz e=>by
      have:=(f9 z hz).2
      rw [e,ep8] at this
      cases this
     have hczwa:∀ z∈cz,z.1≠wa:=λz hz e=>by
      have:=(f9 z hz).2
      rw [e,ew8] at this
      cases this
     rw [<-hla] at he hnb
     refine ⟨ZfW k.toNat ((Pr++cz).map (·.2)),?_,_,_,Wz,Pr++cz,rfl,s29.put hpn2,Zak ew9 hwp,?_,(lw7.same (s8.trans s9)).put λz hz=>(fr z (List.mem_append_left _ hz)).2.1,?_,λz hz=>?_,?_,l301,λj z hj=>?_,rfl⟩
     ·rw [List.map_append,m9,emap]
      exact ZhA g hB he ndb hnb ng8
     ·rw [Zab,List.map_append]
     ·refine Lz.put (λz hz=>?_) λz hz=>?_
      ·rcases List.mem_append.mp hz with hz | hz
       ·exact s9 _ _ (s8 _ _ (lpr z hz))
       ·exact l9 z hz
      ·rcases List.mem_append.mp hz with hz | hz
       ·exact (fr z (by simp [hz])).2.1
       ·exact hczpn z hz
     ·simp only [List.mem_append] at hz
      rcases hz with hz | hz | hz
      ·exact fr z (by simp [hz])
      ·exact fr z (by simp [hz])
      ·exact ⟨hczwa z hz,hczpn z hz,s27.free (f9 z hz).2⟩
     ·rw [List.map_append,m9]
      exact dfs.grow g he ndb hnb me8 ng8 cl8
     ·rcases Nat.lt_or_ge j Pr.length with h | h
      ·rw [List.getElem?_append_left h] at hj
       refine jn j z ?_
       rw [List.getElem?_append_left h]
       exact hj
      ·rw [List.getElem?_append_right h] at hj
       have hjl:=(List.getElem?_eq_some_iff.mp hj).1
       have hz2:z.2∈cz.map (·.2):=List.mem_map.mpr ⟨z,List.mem_of_getElem? hj,rfl⟩
       rw [m9] at hz2
       obtain ⟨x,_,ex⟩:=List.mem_map.mp hz2
       rw [<-ex,List.length_append,List.length_singleton,Nat.mul_add,Nat.mul_one]
       omega
end
end M
namespace M
open PySem L2
def rset (rs:List (Int×Int)) (c:Bool) (ns:List Int):List Int:=((Zaj ns c).map (ZeI rs)).mergeSort λa b=>decide (a<=b)
theorem Zbn (rs:List (Int×Int)) (c:Bool) (ns:List Int):(rset rs c ns).Perm ((Zaj ns c).map (ZeI rs)):=List.mergeSort_perm _ _
theorem Zcy (rs:List (Int×Int)) (c:Bool) (ns:List Int):(rset rs c ns).Pairwise (· <= ·):=by
 refine (List.pairwise_mergeSort (le:=λa b:Int=>decide (a<=b)) (λa b c h1 h2=>?_) (λa b=>?_) _).imp λh=>of_decide_eq_true h
 ·have h1:=of_decide_eq_true h1
  have h2:=of_decide_eq_true h2
  exact decide_eq_true (by omega)
 ·by_cases h:a<=b
  ·simp [h]
  ·have:b<=a:=by omega
   simp [this]
theorem ZhB {rs:List (Int×Int)} {c:Bool} {ns ms:List Int} (pm:ms.Perm ((Zaj ns c).map (ZeI rs))) (so:ms.Pairwise (· <= ·)):ms=rset rs c ns:=
 PySem.W.ksm_same (pm.trans (Zbn rs c ns).symm) so (Zcy rs c ns)
theorem Way.ir {k:Int} {rs:List (Int×Int)} {p q:Int} {ns:List Int} (g:Zah k rs) (hp:0<=p/\p<k) (h:Way rs p q ns):∀ x∈ns,0<=x/\x<k:=by
 obtain ⟨h1,h2,h3,h4⟩:=h
 intro x hx
 cases ns with
 | nil=>cases hx
 | cons a tl=>
  have h2:a=p:=h2
  subst h2
  rcases List.mem_cons.mp hx with rfl | hx
  ·exact hp
  ·obtain ⟨j,hj⟩:=List.mem_iff_getElem?.mp hx
   have hlt:=(List.getElem?_eq_some_iff.mp hj).1
   have:((a::tl)[j]'(by rw [List.length_cons];omega),x)∈Zaj (a::tl) false:=by
    unfold Zaj
    rw [if_neg Bool.false_ne_true,List.append_nil]
    refine List.mem_iff_getElem?.mpr ⟨j,List.getElem?_zip_eq_some.mpr ⟨List.getElem?_eq_getElem _,?_⟩⟩
    show tl[j]?=some x
    exact hj
   exact ZdD g (h4.1 _ this)
theorem Way.len {k:Int} {rs:List (Int×Int)} {p q:Int} {ns:List Int} (g:Zah k rs) (hp:0<=p/\p<k) (h:Way rs p q ns):ns.length<=16:=by
 have:=ZaS (k:=k.toNat) h.2.2.2.2 λx hx=>by have:=h.ir g hp x hx;omega
 have:=g.2.1
 omega
section
variable {P:Program} {w:World} {K:PySem.W.Frag} {mg:Str->Option Value} {base:Heap}
def Srt (l:List (List Int)):Prop:=l.Pairwise λa b=>Zb1 b a=false
def ZkS (TM:Addr):Sp:=λvs H Q E=>∃ (sl:Addr) (zs:List (Addr×List Int)),vs=[.ref sl]/\H sl=some (.lst (zs.map λz=>V.ref z.1))/\Lz H zs /\
 (300<zs.length->E (.ref TM) none H)/\(zs.length<=300->∀ (l:Addr) (zs':List (Addr×List Int)),H l=none->zs'.Perm zs->Srt (zs'.map (·.2))->Q (.ref l) (upd H l (.lst (zs'.map λz=>V.ref z.1))))
theorem ZnG:Zav ["sets"] ["sets"] (Zaf Zjo):=⟨rfl,rfl,rfl,by decide +kernel,rfl,by decide +kernel,by decide +kernel⟩
theorem Zmh {f TM:Addr} {fd:FuncData} {tM:Tok} (F:Fun K "told_sets" "told_sets" Zjo f fd) (mMoW:mg "MOST_WAYS" = some (.int 300 tM)) (mTM:mg "TooMany" = some (.ref TM)) (xTM:ExcC K TM) (mLen:mg "len" = none) (mSor:mg "sorted" = none) :
  ZaO P w K mg base (CXr P w) 1 f fd ["sets"] (ZkS TM):=by
 refine F.okR ZnG (λvs H Q E h=>?_) (λcdv A outer s H vs Q E hr h=>?_)
 ·obtain ⟨_,_,rfl,_⟩:=h
  rfl
 ·obtain ⟨sl,zs,rfl,hs,lz,h1,h2⟩:=h
  have hu:=hr.units
  refine ⟨_,Zag (ZaX (Zay Zei (Zat (Zgd K) rfl mLen PySem.boot_len (Zaa (pv 0) Zac)) (ZeV (v:=.int 300) rfl mMoW ⟨_,rfl⟩) (ZaF _)) (Zai (ZdP (E:=E) rfl ZbF rfl mTM xTM (Zaa ZcN Zac))) ZaC)
    (Zai (Zau (Zat (Zkr K hu) rfl mSor PyProof.Rows.boot_sorted (Zaa (pv 0) Zac)))),?_⟩
  refine ⟨_,rfl,sl,_,rfl,.inl (SqL.of hs),_,_,rfl,rfl,_,rfl,?_⟩
  rw [List.length_map]
  by_cases h:300<zs.length
  ·have:decide ((zs.length:Int) > 300)=true:=decide_eq_true (by omega)
   rw [this]
   refine Zcg ?_
   exact ⟨by show 1<=sizeLine;rw [sizeLine_eq];omega,h1 h⟩
  ·have:decide ((zs.length:Int) > 300)=false:=decide_eq_false (by omega)
   rw [this]
   refine Zb0 ?_
   exact ⟨_,rfl,sl,zs,rfl,SqL.of hs,λz hz=>SqL.of (lz z hz),λl zs' hl p so=>h2 (by omega) l zs' hl p so⟩
end
end M
namespace M
open PySem L2
section
variable {P:Program} {w:World} {K:PySem.W.Frag} {mg:Str->Option Value} {base:Heap}
def Zmi (C TM:Addr):Sp:=λvs H Q E=>∃ (wb l:Addr) (k p q:Int) (xs:List V) (rs:List (Int×Int)),vs=[.ref wb,.int p,.int q]/\WebAt H wb l k xs rs/\Zah k rs /\
 ((¬ Ends k p q/\E (.ref C) none H)\/(Ends k p q/\∀ W,Wys rs p q W->(300<W.length->∀ H':Hp,Same H H'->E (.ref TM) none H') /\
  (W.length<=300->∀ (l:Addr) (zs:List (Addr×List Int)) (H':Hp),Same H H'->H l=none->H' l=some (.lst (zs.map λz=>V.ref z.1))->Lz H' zs->(∀ z∈zs,H z.1=none/\z.1≠l)->(zs.map (·.2)).Perm (W.map (rset rs false))->Srt (zs.map (·.2))->Q (.ref l) H')))
theorem ZnH:Zav ["web", "one", "other"] ["web", "one", "other"] (Zaf Zky):=⟨rfl,rfl,rfl,by decide +kernel,rfl,by decide +kernel,by decide +kernel⟩
theorem Zmj {f fH fWb fTs fR C TM:Addr} {dV:Value} {fd fdH fdWb fdTs fdR:FuncData} (F:Fun K "every_way" "every_way" Zky f fd) (FH:Fun K "check_ends" "check_ends" Zkw fH fdH) (bH:Binds K fdH ["web", "one", "other"] []) (mH:mg "check_ends" = some (.ref fH)) (GH:ZaO P w K mg base (CXr P w) 2 fH fdH ["web", "one", "other"] (Zl3 C))
  (FWb:Fun K "ways_between" "ways_between" ZiH fWb fdWb) (bWb:Binds K fdWb ["web", "one", "other"] []) (mWb:mg "ways_between" = some (.ref fWb)) (GWb:ZaO P w K mg base CX0 4 fWb fdWb ["web", "one", "other"] ZkR)
  (FTs:Fun K "told_sets" "told_sets" Zjo fTs fdTs) (bTs:Binds K fdTs ["sets"] []) (mTs:mg "told_sets" = some (.ref fTs)) (GTs:ZaO P w K mg base (CXr P w) 1 fTs fdTs ["sets"] (ZkS TM))
  (FR:FunD K "roads_of" "roads_of" Zfi dV fR fdR) (bR2:Binds K fdR ["web", "places", "closed"] [.bool false]) (mR:mg "roads_of" = some (.ref fR)) (GR:ZaO P w K mg base CX0 2 fR fdR ["web", "places", "closed"] ZkI) :
  ZaO P w K mg base (CXr P w) 5 f fd ["web", "one", "other"] (Zmi C TM):=by
 refine F.okR ZnH (λvs H Q E h=>?_) (λcdv A outer s H vs Q E hr h=>?_)
 ·obtain ⟨_,_,_,_,_,_,_,rfl,_⟩:=h
  rfl
 ·obtain ⟨wb,l,k,p,q',xs,rs,rfl,W,g,h⟩:=h
  have h16:(16777216:Nat)=sizeLine:=sizeLine_eq.symm
  refine ⟨_,Zag (Za2 (Zan GH (hr.mono (by decide)) rfl mH FH.kp bH .nil Zif (Zaa (pv 0) (Zaa (pv 1) (Zaa (pv 2) Zac)))))
    (Zai (Zau (Zan GTs (hr.mono (by decide)) rfl mTs FTs.kp bTs .nil Zif (Zaa (Zbi (own:=["places"]) rfl (Zaz (fr:=[("web", 0)]) [(".0", .local),("places", .local),("roads_of", .globalImplicit),("web", .cell)] rfl rfl (by decide +kernel) rfl (by decide +kernel) ⟨rfl,trivial⟩ ⟨λh=>Za0 h,λh=>Za0 h,λh=>Za0 h,λ_=>⟨_,rfl⟩,trivial⟩ ⟨⟨rfl,.inl rfl,.inl rfl⟩,trivial⟩) (ZcF K (Zan GWb (hr.mono (by decide)) rfl mWb FWb.kp bWb .nil ZaQ (Zaa (pv 0) (Zaa (pv 1) (Zaa (pv 2) Zac))))) (λ_ _ _ _=>Zar (i:=0) (show List.Nodup (["places", "web"]:List Str) by decide +kernel) rfl (Or.inl rfl)) (λ_ _ _ _=>Zbp) (λ_ _ _ _=>Zan (dvs:=[V.bl false]) GR (hr.mono (by decide)) rfl mR FR.kp bR2 (.cons rfl .nil) ZaQ (Zaa (pv 1) (Zaa (pv 0) Zac)))) Zac)))),?_⟩
  rcases h with ⟨en,e⟩ | ⟨en,h⟩
  ·exact ⟨_,rfl,_,rfl,_,rfl,wb,l,k,p,q',rfl,W.w,.inr ⟨en,e⟩⟩
  refine ⟨_,rfl,_,rfl,_,rfl,wb,l,k,p,q',rfl,W.w,.inl ⟨en,?_⟩⟩
  refine ⟨_,rfl,_,rfl,_,rfl,wb,l,k,p,q',xs,rs,rfl,W,g,en,λwa zs H1 s1 hwa ewa lz fz wy=>?_⟩
  have lzs:zs.length<=301:=by have:=wy.ln;rw [List.length_map] at this;exact this
  refine ⟨wa,rfl,⟨_,SqL.of ewa⟩,λD hD=>?_⟩
  refine Zba (K:=K) (a:=wa) (xs:=zs.map λz=>V.ref z.1) (λj ys H2=>Same H1 H2/\H2 D=some (.lst ys)/\∃ cz:List (Addr×List Int),ys=cz.map (λz=>V.ref z.1)/\Lz H2 cz/\(∀ z∈cz,z.1≠D/\H1 z.1=none)/\cz.map (·.2)=((zs.take j).map (·.2)).map (rset rs false)) ⟨Same.new hD,Zab,[],rfl,λz hz=>(by cases hz),λz hz=>(by cases hz),rfl⟩ (λj ys H2 _ ⟨s2,_⟩=>SqL.of (s2 _ _ ewa)) ?_ ?_
  ·rintro j x ys H2 hxj ⟨s2,eD2,cz,rfl,l2,f2,m2⟩
   rw [List.getElem?_map] at hxj
   cases hz:zs[j]? with
   | none=>rw [hz] at hxj;cases hxj
   | some z=>
    rw [hz] at hxj
    cases hxj
    have hzm:z∈zs:=List.mem_of_getElem? hz
    have hw:Way rs p q' z.2:=wy.ww z.2 (List.mem_map.mpr ⟨z,hzm,rfl⟩)
    have hstep:zs.take (j+1)=zs.take j++[z]:=by rw [List.take_add_one,hz];rfl
    have lcz:cz.length<=301:=by
     have h1:cz.length=(cz.map (·.2)).length:=by rw [List.length_map]
     rw [h1,m2,List.length_map,List.length_map,List.length_take]
     omega
    refine ⟨⟨rfl,trivial⟩,?_⟩
    unfold Zjd
    refine Zcg ?_
    refine ⟨_,rfl,_,rfl,wb,l,z.1,k,xs,rs,z.2,false,rfl,W.same (s1.trans s2),g,s2 _ _ (lz z hzm),by have:=hw.len g en.1;omega,λz=>absurd z Bool.false_ne_true,hw.2.2.2.1,λre ms H3 s3 hre ere pm so=>?_⟩
    have hDr:D≠re:=λe=>by rw [<-e,eD2] at hre;cases hre
    refine ⟨s3 _ _ eD2,by rw [List.length_map];omega,(s2.trans s3).put hD,Zab,cz++[(re,ms)],by rw [List.map_append];rfl,λy hy=>?_,λy hy=>?_,?_⟩
    ·rcases List.mem_append.mp hy with hy | hy
     ·exact Zak (s3 _ _ (l2 y hy)) (f2 y hy).1
     ·rw [List.mem_singleton.mp hy]
      exact Zak ere (Ne.symm hDr)
    ·rcases List.mem_append.mp hy with hy | hy
     ·exact f2 y hy
     ·rw [List.mem_singleton.mp hy]
      exact ⟨Ne.symm hDr,s2.free hre⟩
    ·rw [List.map_append,m2,hstep,List.map_append,List.map_append,ZhB pm so]
     rfl
  ·rintro ys H2 ⟨s2,eD2,cz,rfl,l2,f2,m2⟩
   rw [List.length_map,List.take_length] at m2
   obtain ⟨hm,hl⟩:=h (zs.map (·.2)) wy
   have lc:cz.length=zs.length:=by
    have:=congrArg List.length m2
    rw [List.length_map,List.length_map,List.length_map] at this
    exact this
   rw [List.length_map] at hm hl
   have s12:=s1.trans s2
   refine ⟨D,cz,rfl,eD2,l2,λh3=>hm (by omega) H2 s12,λh3 r zs' hr' pm so=>?_⟩
   refine hl (by omega) r zs' _ (s12.put (s12.free hr')) (s12.free hr') Zab (λy hy=>?_) (λy hy=>?_) ?_ so
   ·have hy':=pm.mem_iff.mp hy
    exact Zak (l2 y hy') λe=>by rw [<-e,l2 y hy'] at hr';cases hr'
   ·have hy':=pm.mem_iff.mp hy
    exact ⟨s1.free (f2 y hy').2,λe=>by rw [<-e,l2 y hy'] at hr';cases hr'⟩
   ·rw [<-m2]
    exact pm.map _
theorem Zd9 {H:Hp}:∀ {xs:List V} {rs:List (Int×Int)},Prs H xs rs->∀ i:Nat,Prs H (xs.drop i) (rs.drop i)
 | _,_,.nil,i=>by rw [List.drop_nil,List.drop_nil];exact .nil
 | _,_,.cons e r,0=>.cons e r
 | _,_,.cons _ r,i+1=>by rw [List.drop_succ_cons,List.drop_succ_cons];exact Zd9 r i
def Wyc (rs:List (Int×Int)) (j:Nat) (W:List (List Int)):Prop:=∃ t,rs[j]?=some t/\Wys (rs.drop (j+1)) t.1 t.2 W
inductive Rgs (rs:List (Int×Int)):Nat->List (List Int)->Prop
 | nil:Rgs rs 0 []
 | one {j:Nat} {R W:List (List Int)}:Rgs rs j R->R.length<=300->Wyc rs j W->Rgs rs (j+1) (R++W)
def Zmk (TM:Addr):Sp:=λvs H Q E=>∃ (wb l:Addr) (k:Int) (xs:List V) (rs:List (Int×Int)),vs=[.ref wb]/\WebAt H wb l k xs rs/\Zah k rs /\
 (∀ j R,Rgs rs j R->j<=rs.length->300<R.length->∀ H':Hp,Same H H'->E (.ref TM) none H') /\
 (∀ R,Rgs rs rs.length R->R.length<=300->∀ (l:Addr) (zs:List (Addr×List Int)) (H':Hp),Same H H'->H l=none->H' l=some (.lst (zs.map λz=>V.ref z.1))->Lz H' zs->(∀ z∈zs,H z.1=none/\z.1≠l)->(zs.map (·.2)).Perm (R.map (rset rs true))->Srt (zs.map (·.2))->Q (.ref l) H')
theorem scEvc:Zav ["web", "sets", "number", "road", "later", "ways"] ["web"] (Zaf Zkz):=⟨rfl,rfl,rfl,by decide +kernel,rfl,by decide +kernel,by decide +kernel⟩
theorem Zml {f fWb fTs fR TM:Addr} {dV:Value} {fd fdWb fdTs fdR:FuncData} (F:Fun K "every_closed" "every_closed" Zkz f fd)
  (FWb:Fun K "ways_between" "ways_between" ZiH fWb fdWb) (bWb:Binds K fdWb ["web", "one", "other"] []) (mWb:mg "ways_between" = some (.ref fWb)) (GWb:ZaO P w K mg base CX0 4 fWb fdWb ["web", "one", "other"] ZkR)
  (FTs:Fun K "told_sets" "told_sets" Zjo fTs fdTs) (bTs:Binds K fdTs ["sets"] []) (mTs:mg "told_sets" = some (.ref fTs)) (GTs:ZaO P w K mg base (CXr P w) 1 fTs fdTs ["sets"] (ZkS TM))
  (FR:FunD K "roads_of" "roads_of" Zfi dV fR fdR) (bR:Binds K fdR ["web", "places", "closed"] []) (mR:mg "roads_of" = some (.ref fR)) (GR:ZaO P w K mg base CX0 2 fR fdR ["web", "places", "closed"] ZkI) (mEnum:mg "enumerate" = none) :
  ZaO P w K mg base (CXr P w) 5 f fd ["web"] (Zmk TM):=by
 refine F.okR scEvc (λvs H Q E h=>?_) (λcdv A outer s H vs Q E hr h=>?_)
 ·obtain ⟨_,_,_,_,_,rfl,_⟩:=h
  rfl
 ·obtain ⟨wb,l,k,xs,rs,rfl,W,g,hm,hl⟩:=h
  have h16:(16777216:Nat)=sizeLine:=sizeLine_eq.symm
  refine ⟨_,Zag (Zax (i:=1) scEvc.nd rfl (Or.inl rfl) (ZaB Zac))
    (Zag (Zbf PassesOwn.leaving rfl (ZlE K rfl mEnum (Zaa (Zaw (Zck K) (pv 0) Zad (λ_ _=>rfl)) Zac)) (ZlC K (n:=2) rfl (ZaI (Zar (i:=2) scEvc.nd rfl (Or.inl rfl)) (ZaI (Zar (i:=3) scEvc.nd rfl (Or.inl rfl)) Zb7)))
    (Zag (Zax (i:=4) scEvc.nd rfl (Or.inl rfl) (ZaR (Zaa (Zaw (Zck K) (pv 0) Zad (λ_ _=>rfl)) (Zaa (ZcX (kSl K) (Zaw (Zck K) (pv 0) Zad (λ_ _=>rfl)) (ZdM (Zas ZaL (pv 2) Zad)) ZdL) Zac))))
    (Zag (Zax (i:=5) scEvc.nd rfl (Or.inl rfl) (Zan GWb (hr.mono (by decide)) rfl mWb FWb.kp bWb .nil ZaQ (Zaa (pv 4) (Zaa (Zaw (Zck K) (pv 3) Zad (λ_ _=>rfl)) (Zaa (Zaw (Zck K) (pv 3) Zad (λ_ _=>rfl)) Zac)))))
    (Zai (Zax (i:=1) scEvc.nd rfl (Or.inl rfl) (Zan GTs (hr.mono (by decide)) rfl mTs FTs.kp bTs .nil Zif (Zaa (Zas ZcP (pv 1) (Zbi (own:=["places"]) rfl (Zaz (fr:=[("web", 0)]) [(".0", .local),("places", .local),("roads_of", .globalImplicit),("web", .cell)] rfl rfl (by decide +kernel) rfl (by decide +kernel) ⟨rfl,trivial⟩ ⟨λh=>Za0 h,λh=>Za0 h,λh=>Za0 h,λ_=>⟨_,rfl⟩,trivial⟩ ⟨⟨rfl,.inl rfl,.inl rfl⟩,trivial⟩) (ZcF K (pv 5)) (λ_ _ _ _=>Zar (i:=0) (show List.Nodup (["places", "web"]:List Str) by decide +kernel) rfl (Or.inl rfl)) (λ_ _ _ _=>Zbp) (λ_ _ _ _=>Zan GR (hr.mono (by decide)) rfl mR FR.kp bR .nil ZaQ (Zaa (pv 1) (Zaa (pv 0) (Zaa Zbo Zac)))))) Zac)))))))
    (Zai (Zau (pv 1)))),?_⟩
  have hx:xs.length<=30:=by rw [W.p.len];exact g.2.2.1
  refine ⟨Nat.zero_le _,λs0 hs0=>?_⟩
  have s1:Same H (upd H s0 (.lst [])):=Same.new hs0
  refine ⟨_,rfl,wb,_,_,_,rfl,rfl,SqT.of (s1 _ _ W.w),Zal (j:=1) rfl,l,xs,rfl,SqL.of (s1 _ _ W.l),?_⟩
  refine ZfL (K:=K) (a:=l) (xs:=xs) (λi σ H2=>∃ (v2 v3 v4 v5:Option V) (sl:Addr) (zs:List (Addr×List Int)) (R:List (List Int)),σ=[some (.ref wb),some (.ref sl),v2,v3,v4,v5]/\Same H H2/\H sl=none/\H2 sl=some (.lst (zs.map λz=>V.ref z.1))/\Lz H2 zs/\(∀ z∈zs,H z.1=none/\z.1≠sl)/\Rgs rs i R/\R.length<=300/\(zs.map (·.2)).Perm (R.map (rset rs true))/\Srt (zs.map (·.2)))
   ⟨none,none,none,none,s0,[],[],rfl,s1,hs0,Zab,λz hz=>(by cases hz),λz hz=>(by cases hz),.nil,by simp,.refl _,.nil⟩ (λi σ H2 _ ⟨_,_,_,_,_,_,_,_,s2,_⟩=>SqL.of (s2 _ _ W.l)) ?_ ?_
  ·rintro i x σ H2 T hxi ⟨v2,v3,v4,v5,sl,zs,R,rfl,s2,hsl,esl,lz,fz,rg,r300,pm,so⟩ hT
   obtain ⟨t,r,rfl,et,er⟩:=(W.same s2).p.get hxi
   have hi:i<xs.length:=(List.getElem?_eq_some_iff.mp hxi).1
   have lzR:zs.length=R.length:=by
    have:=pm.length_eq
    rw [List.length_map,List.length_map] at this
    exact this
   have s23:Same H2 (upd H2 T (.tup [.int (i:Nat),.ref t])):=Same.new hT
   refine ⟨T,_,rfl,SqT.of Zab,rfl,_,_,rfl,_,_,rfl,rfl,?_⟩
   generalize upd H2 T (.tup [.int (i:Nat),.ref t])=H3 at s23 ⊢
   have s3:=s2.trans s23
   have W3:=W.same s3
   refine ⟨_,rfl,wb,_,_,_,rfl,rfl,SqT.of W3.w,Zal (j:=0) rfl,_,rfl,wb,_,_,_,rfl,rfl,SqT.of W3.w,Zal (j:=1) rfl,_,rfl,_,_,rfl,rfl,_,rfl,l,xs,rfl,SqL.of W3.l,λla hla=>⟨ZaP,λlt hlt=>?_⟩⟩
   dsimp only [Za7]
   have ecut:Zed xs (some ((i:Int)+1)) none=xs.drop (i+1):=by
    have:=ZfG (xs:=xs) (k:=i+1)
    rw [<-this]
    congr 1
   have hla':=hla
   rw [ecut] at hlt ⊢
   have s4:Same H3 (upd H3 la (.lst (xs.drop (i+1)))):=Same.new hla
   have e4:upd H3 la (.lst (xs.drop (i+1))) la=some (.lst (xs.drop (i+1))):=Zab
   generalize upd H3 la (.lst (xs.drop (i+1)))=H4 at s4 e4 hlt ⊢
   have s5:Same H4 (upd H4 lt (.tup [.int k,.ref la])):=Same.new hlt
   have e5:upd H4 lt (.tup [.int k,.ref la]) lt=some (.tup [.int k,.ref la]):=Zab
   generalize upd H4 lt (.tup [.int k,.ref la])=H5 at s5 e5 ⊢
   have s35:=s4.trans s5
   have S5:=s3.trans s35
   have hr:r∈rs:=List.mem_of_getElem? er
   have gr:=g.2.2.2.1 r hr
   have en:Ends k r.1 r.2:=⟨⟨by omega,by omega⟩,⟨by omega,by omega⟩,by omega⟩
   have g':Zah k (rs.drop (i+1)):=⟨g.1,g.2.1,by have:=g.2.2.1;rw [List.length_drop];omega,λy hy=>g.2.2.2.1 y (List.mem_of_mem_drop hy),g.2.2.2.2.sublist (List.drop_sublist _ _)⟩
   have W5:WebAt H5 lt la k (xs.drop (i+1)) (rs.drop (i+1)):=⟨e5,s5 _ _ e4,Zd9 (W.same S5).p (i+1)⟩
   have et5:=s35 _ _ (s23 _ _ et)
   refine ⟨_,rfl,_,rfl,t,_,_,_,rfl,rfl,SqT.of et5,Zal (j:=0) rfl,_,rfl,t,_,_,_,rfl,rfl,SqT.of et5,Zal (j:=1) rfl,?_⟩
   refine ⟨lt,la,k,r.1,r.2,_,_,rfl,W5,g',en,λwa ws H6 s6 hwa ewa lw fw wy=>?_⟩
   dsimp only [Za7]
   have lws:ws.length<=301:=by have:=wy.ln;rw [List.length_map] at this;exact this
   have S6:=S5.trans s6
   have s26:=s23.trans (s35.trans s6)
   have sub:∀ y∈rs.drop (i+1),y∈rs:=λy hy=>List.mem_of_mem_drop hy
   refine ⟨_,rfl,_,rfl,wa,rfl,⟨_,SqL.of ewa⟩,λD hD=>?_⟩
   refine Zba (K:=K) (a:=wa) (xs:=ws.map λz=>V.ref z.1) (λj ys H7=>Same H6 H7/\H7 D=some (.lst ys)/\∃ cz:List (Addr×List Int),ys=cz.map (λz=>V.ref z.1)/\Lz H7 cz/\(∀ z∈cz,z.1≠D/\H6 z.1=none)/\cz.map (·.2)=((ws.take j).map (·.2)).map (rset rs true)) ⟨Same.new hD,Zab,[],rfl,λz hz=>(by cases hz),λz hz=>(by cases hz),rfl⟩ (λj ys H7 _ ⟨s7,_⟩=>SqL.of (s7 _ _ ewa)) ?_ ?_
   ·rintro j x ys H7 hxj ⟨s7,eD7,cz,rfl,l7,f7,m7⟩
    rw [List.getElem?_map] at hxj
    cases hz:ws[j]? with
    | none=>rw [hz] at hxj;cases hxj
    | some z=>
     rw [hz] at hxj
     cases hxj
     have hzm:z∈ws:=List.mem_of_getElem? hz
     have hw:Way (rs.drop (i+1)) r.1 r.2 z.2:=wy.ww z.2 (List.mem_map.mpr ⟨z,hzm,rfl⟩)
     have hstep:ws.take (j+1)=ws.take j++[z]:=by rw [List.take_add_one,hz];rfl
     have lcz:cz.length<=301:=by
      have h1:cz.length=(cz.map (·.2)).length:=by rw [List.length_map]
      rw [h1,m7,List.length_map,List.length_map,List.length_take]
      omega
     refine ⟨⟨rfl,trivial⟩,?_⟩
     unfold Zjd
     refine Zcg ?_
     refine ⟨_,rfl,_,rfl,wb,l,z.1,k,xs,rs,z.2,true,rfl,W.same (S6.trans s7),g,s7 _ _ (lw z hzm),by have:=hw.len g' en.1;omega,λ_=>hw.1,?_,λre ms H8 s8 hre ere pm' so'=>?_⟩
     ·intro y hy
      unfold Zaj at hy
      rw [if_pos rfl] at hy
      rcases List.mem_append.mp hy with hy | hy
      ·refine ZkL sub (hw.2.2.2.1 y ?_)
       unfold Zaj
       rw [if_neg Bool.false_ne_true,List.append_nil]
       exact hy
      ·rw [List.mem_singleton.mp hy]
       show Adj rs (z.2.getD (z.2.length-1) 0) (z.2.getD 0 0)
       rw [hw.2.1,hw.2.2.1]
       exact .inr hr
     have hDr:D≠re:=λe=>by rw [<-e,eD7] at hre;cases hre
     refine ⟨s8 _ _ eD7,by rw [List.length_map];omega,(s7.trans s8).put hD,Zab,cz++[(re,ms)],by rw [List.map_append];rfl,λy hy=>?_,λy hy=>?_,?_⟩
     ·rcases List.mem_append.mp hy with hy | hy
      ·exact Zak (s8 _ _ (l7 y hy)) (f7 y hy).1
      ·rw [List.mem_singleton.mp hy]
       exact Zak ere (Ne.symm hDr)
     ·rcases List.mem_append.mp hy with hy | hy
      ·exact f7 y hy
      ·rw [List.mem_singleton.mp hy]
       exact ⟨Ne.symm hDr,s7.free hre⟩
     ·rw [List.map_append,m7,hstep,List.map_append,List.map_append,ZhB pm' so']
      rfl
   ·rintro ys H7 ⟨s7,eD7,cz,rfl,l7,f7,m7⟩
    rw [List.length_map,List.take_length] at m7
    have S7:=S6.trans s7
    have s27:=s26.trans s7
    have lc:cz.length=ws.length:=by
     have:=congrArg List.length m7
     rw [List.length_map,List.length_map,List.length_map] at this
     exact this
    refine ⟨sl,D,_,_,rfl,rfl,s27 _ _ esl,eD7,by rw [List.length_map,List.length_map];omega,λca hca=>?_⟩
    have s8:Same H7 (upd H7 ca (.lst ((zs.map λz=>V.ref z.1)++(cz.map λz=>V.ref z.1)))):=Same.new hca
    have e8:upd H7 ca (.lst ((zs.map λz=>V.ref z.1)++(cz.map λz=>V.ref z.1))) ca=some (.lst ((zs++cz).map λz=>V.ref z.1)):=by rw [Zab,List.map_append]
    generalize upd H7 ca (.lst ((zs.map λz=>V.ref z.1)++(cz.map λz=>V.ref z.1)))=H8 at s8 e8 ⊢
    have l8:Lz H8 (zs++cz):=λy hy=>by
     rcases List.mem_append.mp hy with hy | hy
     ·exact s8 _ _ (s27 _ _ (lz y hy))
     ·exact s8 _ _ (l7 y hy)
    have f8:∀ y∈zs++cz,H y.1=none:=λy hy=>by
     rcases List.mem_append.mp hy with hy | hy
     ·exact (fz y hy).1
     ·exact S6.free (f7 y hy).2
    have rg':Rgs rs (i+1) (R++ws.map (·.2)):=rg.one r300 ⟨r,er,wy⟩
    have pm8:((zs++cz).map (·.2)).Perm ((R++ws.map (·.2)).map (rset rs true)):=by
     rw [List.map_append,List.map_append,m7]
     exact pm.append_right _
    have ln8:(zs++cz).length=(R++ws.map (·.2)).length:=by rw [List.length_append,List.length_append,List.length_map,lzR,lc]
    refine ⟨ca,zs++cz,rfl,e8,l8,λh3=>hm (i+1) _ rg' (by have:=W.p.len;omega) (by omega) H8 (S7.trans s8),λh3 rl zs' hrl pm' so'=>?_⟩
    have S8:=S7.trans s8
    refine ⟨_,_,_,_,rl,zs',R++ws.map (·.2),rfl,S8.put (S8.free hrl),S8.free hrl,Zab,λy hy=>?_,λy hy=>?_,rg',by omega,(pm'.map _).trans pm8,so'⟩
    ·have hy':=pm'.mem_iff.mp hy
     exact Zak (l8 y hy') λe=>by rw [<-e,l8 y hy'] at hrl;cases hrl
    ·have hy':=pm'.mem_iff.mp hy
     exact ⟨f8 y hy',λe=>by rw [<-e,l8 y hy'] at hrl;cases hrl⟩
  ·rintro σ H2 ⟨v2,v3,v4,v5,sl,zs,R,rfl,s2,hsl,esl,lz,fz,rg,r300,pm,so⟩
   rw [W.p.len] at rg
   exact ⟨_,rfl,hl R rg r300 sl zs H2 s2 hsl esl lz fz pm so⟩
end
end M
namespace M
open PySem L2
def edg (ns:List Int) (c:Bool):List (Int×Int):=(Zaj ns c).map λt=>ZaW t.1 t.2
theorem Zbd (p q:Int):ZaW p q=ZaW q p:=by
 unfold ZaW
 by_cases h1:q<p
 ·rw [if_pos h1,if_neg (show ¬ q > p by omega),if_neg (show ¬ p<q by omega),if_pos (show p > q by omega)]
 ·by_cases h2:q > p
  ·rw [if_neg h1,if_pos h2,if_pos (show p<q by omega),if_neg (show ¬ p > q by omega)]
  ·rw [show p=q by omega]
theorem Zea {p q q':Int} (h:ZaW p q=ZaW p q'):q=q':=by
 unfold ZaW at h
 have e:=Prod.mk.inj h
 split at e <;> split at e <;> split at e <;> split at e <;> omega
theorem ZaK {k:Int} {rs:List (Int×Int)} {ns:List Int} {c:Bool} (g:Zah k rs) (o:Zdf rs ns c) (hc:c=true->3<=ns.length):Zbx rs (rset rs c ns)/\((rset rs c ns).map (road rs)).Perm (edg ns c):=by
 refine ⟨Zc3 g o hc (Zbn rs c ns) (Zcy rs c ns),?_⟩
 have:=(Zbn rs c ns).map (road rs)
 rw [Zbm g o.1] at this
 exact this
theorem ZkT {k:Int} {rs:List (Int×Int)} {ns S:List Int} {c:Bool} (g:Zah k rs) (o:Zdf rs ns c) (hc:c=true->3<=ns.length) (hS:Zbx rs S) (h:(S.map (road rs)).Perm (edg ns c)):rset rs c ns=S:=
 ZkN g hS o hc h (Zbn rs c ns) (Zcy rs c ns)
theorem Zcz {k:Int} {rs:List (Int×Int)} {ns ms:List Int} {c d:Bool} (g:Zah k rs) (o:Zdf rs ns c) (hc:c=true->3<=ns.length) (o2:Zdf rs ms d) (hd:d=true->3<=ms.length) (h:(edg ns c).Perm (edg ms d)):rset rs c ns=rset rs d ms:=
 ZkT g o hc (ZaK g o2 hd).1 ((ZaK g o2 hd).2.trans h.symm)
theorem ZcA (ns:List Int):edg ns false=ZaH ns:=(ZbL ns).symm
theorem ZcB (s:Int) (tl:List Int):edg (s::tl) true=ZaH (s::(tl++[s])):=ZcS s tl
theorem Zbs {k:Int} {rs:List (Int×Int)} {ns:List Int} {c:Bool} (g:Zah k rs):Zdf rs ns c↔(∀ e∈edg ns c,e∈rs)/\ns.Nodup:=by
 have hlt:∀ r∈rs,r.1<r.2:=λr hr=>(g.2.2.2.1 r hr).2.1
 constructor
 ·rintro ⟨h1,h2⟩
  refine ⟨λe he=>?_,h2⟩
  obtain ⟨t,ht,rfl⟩:=List.mem_map.mp he
  exact (Zbh hlt _ _).mpr (h1 t ht)
 ·rintro ⟨h1,h2⟩
  exact ⟨λt ht=>(Zbh hlt _ _).mp (h1 _ (List.mem_map.mpr ⟨t,ht,rfl⟩)),h2⟩
theorem Zbt (x:Int):∀ (tl:List Int) (a:Int),ZaH ((a::tl)++[x])=ZaH (a::tl)++[ZaW ((a::tl).getD tl.length 0) x]
 | [],a=>rfl
 | b::tl,a=>by
  have ih:=Zbt x tl b
  show ZaH (a::b::(tl++[x]))=_
  rw [ZaN,ZaN]
  show ZaW a b::ZaH ((b::tl)++[x])=_
  rw [ih]
  rfl
theorem ZcL:∀ ns:List Int,(ZaH ns.reverse).Perm (ZaH ns)
 | []=>.refl _
 | [a]=>.refl _
 | a::b::tl=>by
  have ih:=ZcL (b::tl)
  rw [List.reverse_cons,ZaN]
  obtain ⟨c,r,hr⟩:∃ c r,(b::tl).reverse=c::r:=by
   cases h:(b::tl).reverse with
   | nil=>simp at h
   | cons c r=>exact ⟨c,r,rfl⟩
  have hl:(c::r).getD r.length 0=b:=by
   have e:(c::r).getLast?=some b:=by rw [<-hr,List.getLast?_reverse];rfl
   rw [List.getLast?_eq_getElem?] at e
   rw [List.getD_eq_getElem?_getD]
   simp only [List.length_cons,Nat.add_sub_cancel] at e
   rw [e]
   rfl
  rw [hr] at ih ⊢
  rw [Zbt,hl,Zbd b a]
  exact List.perm_append_comm.trans (ih.cons _)
theorem ZbZ {x y:Int}:∀ {ns:List Int},ZaW x y∈ZaH ns->x∈ns/\y∈ns
 | [],h=>by cases h
 | [a],h=>by cases h
 | a::b::tl,h=>by
  rw [ZaN] at h
  rcases List.mem_cons.mp h with h | h
  ·have e:x=a/\y=b\/x=b/\y=a:=by
    unfold ZaW at h
    have e:=Prod.mk.inj h
    split at e <;> split at e <;> split at e <;> split at e <;> omega
   rcases e with ⟨rfl,rfl⟩ | ⟨rfl,rfl⟩ <;> simp
  ·have:=ZbZ h
   exact ⟨List.mem_cons_of_mem _ this.1,List.mem_cons_of_mem _ this.2⟩
theorem Zdi:∀ (tl:List Int) (p:Int) (ls:List (Int×Int)),(p::tl).Nodup->ls.Perm (ZaH (p::tl))->(∀ r∈ls,r.1<r.2)->Wk ls p tl []
 | [],p,ls,_,pm,_=>by
  have:ls=[]:=pm.eq_nil
  subst this
  exact .stop λq a=>by rcases a with a | a <;> cases a
 | q::t,p,ls,nd,pm,hlt=>by
  rw [ZaN] at pm
  have hm:ZaW p q∈ls:=pm.mem_iff.mpr (List.mem_cons_self ..)
  refine .go ((Zbh hlt _ _).mp hm) (λq' a=>?_) (Zdi t q _ (List.nodup_cons.mp nd).2 ?_ (ZfV hlt))
  ·have:=pm.mem_iff.mp ((Zbh hlt _ _).mpr a)
   rcases List.mem_cons.mp this with e | e
   ·exact Int.le_of_eq (Zea e).symm
   ·exact absurd (ZbZ e).1 (List.nodup_cons.mp nd).1
  ·have:=pm.erase (ZaW p q)
   rw [List.erase_cons_head] at this
   exact this
theorem Zbu {rs:List (Int×Int)} {p q:Int} {w:List Int} (h:Way rs p q w):∃ tl,w=p::tl:=by
 obtain ⟨h1,h2,_⟩:=h
 cases w with
 | nil=>exact absurd rfl h1
 | cons a tl=>
  have h2:a=p:=h2
  exact ⟨tl,by rw [h2]⟩
theorem Zeb {k:Int} {rs:List (Int×Int)} {p q:Int} {tl:List Int} (g:Zah k rs) (en:Ends k p q) (h:Way rs p q (p::tl)):Wk (cho rs (rset rs false (p::tl)) rs.length) p tl []/\Zmb rs (rset rs false (p::tl)) k p q tl:=by
 have o:=h.2.2.2
 have E:=ZaK g o (λz=>absurd z Bool.false_ne_true)
 rw [ZcA] at E
 have b:=ZiP g en h (Zbn rs false (p::tl)) (Zcy rs false (p::tl)) rfl
 refine ⟨Zdi tl p _ o.2 (by rw [Zd5 E.1];exact E.2) (Zjy g _),b⟩
theorem ZhC {k:Int} {rs:List (Int×Int)} {p q:Int} {w:List Int} (g:Zah k rs) (h:Way rs p q w):Way rs q p w.reverse/\rset rs false w.reverse=rset rs false w:=by
 have o:=h.2.2.2
 have pe:(edg w.reverse false).Perm (edg w false):=by rw [ZcA,ZcA];exact ZcL w
 have o2:Zdf rs w.reverse false:=(Zbs g).mpr ⟨λe he=>((Zbs g).mp o).1 e (pe.mem_iff.mp he),(List.reverse_perm w).nodup_iff.mpr o.2⟩
 have ne:=h.1
 have hl:0<w.length:=List.length_pos_iff.mpr ne
 refine ⟨⟨by simpa using ne,?_,?_,o2⟩,Zcz g o2 (λz=>absurd z Bool.false_ne_true) o (λz=>absurd z Bool.false_ne_true) pe⟩
 ·rw [<-h.2.2.1,ZaE (by simpa using hl),ZaE (by omega),List.getElem_reverse]
  simp
 ·rw [<-h.2.1,ZaE (by simp;omega),ZaE hl,List.getElem_reverse]
  congr 1
  simp
theorem Zfo {k:Int} {rs:List (Int×Int)} {p q:Int} {w v:List Int} (g:Zah k rs) (en:Ends k p q) (h1:Way rs p q w) (h2:Way rs p q v) (e:rset rs false w=rset rs false v):w=v:=by
 obtain ⟨t,rfl⟩:=Zbu h1
 obtain ⟨u,rfl⟩:=Zbu h2
 have a:=(Zeb g en h1).1
 have c:=(Zeb g en h2).1
 rw [e] at a
 rw [a.det c]
def Cyc (rs:List (Int×Int)) (c:List Int):Prop:=3<=c.length/\Zdf rs c true
theorem ZkU (a:Int) (tl:List Int):(edg (tl++[a]) true).Perm (edg (a::tl) true):=by
 cases tl with
 | nil=>exact .refl _
 | cons b t=>
  show (edg (b::(t++[a])) true).Perm _
  rw [ZcB,ZcB]
  show (ZaH ((b::(t++[a]))++[b])).Perm (ZaH (a::b::(t++[a])))
  rw [Zbt,ZaN]
  have e:(b::(t++[a])).getD (t++[a]).length 0=a:=by
   rw [List.length_append,List.length_singleton,List.getD_eq_getElem?_getD,List.getElem?_cons_succ,List.getElem?_append_right (Nat.le_refl _),Nat.sub_self]
   rfl
  rw [e]
  exact List.perm_append_comm
theorem ZcC:∀ (u v:List Int),(edg (v++u) true).Perm (edg (u++v) true)
 | [],v=>by rw [List.append_nil,List.nil_append]
 | a::u,v=>by
  have ih:=ZcC u (v++[a])
  rw [List.append_assoc] at ih
  refine ih.trans ?_
  rw [<-List.append_assoc]
  exact ZkU a (u++v)
theorem ZhD (c:List Int):(edg c.reverse true).Perm (edg c true):=by
 cases c with
 | nil=>exact .refl _
 | cons s tl=>
  rw [List.reverse_cons]
  refine (ZcC [s] tl.reverse).trans ?_
  show (edg (s::tl.reverse) true).Perm _
  rw [ZcB,ZcB]
  have:=ZcL (s::(tl++[s]))
  rw [List.reverse_cons,List.reverse_append] at this
  exact this
theorem ZfY {k:Int} {rs:List (Int×Int)} {c d:List Int} (g:Zah k rs) (h:Cyc rs c) (pe:(edg d true).Perm (edg c true)) (pp:d.Perm c):Cyc rs d/\rset rs true d=rset rs true c:=by
 have l:3<=d.length:=by rw [pp.length_eq];exact h.1
 have o:Zdf rs d true:=(Zbs g).mpr ⟨λe he=>((Zbs g).mp h.2).1 e (pe.mem_iff.mp he),pp.nodup_iff.mpr h.2.2⟩
 exact ⟨⟨l,o⟩,Zcz g o (λ_=>l) h.2 (λ_=>h.1) pe⟩
theorem ZiS {k:Int} {rs:List (Int×Int)} {c:List Int} (g:Zah k rs) (h:Cyc rs c):∃ ns,ZmU rs ns/\rset rs true ns=rset rs true c:=by
 obtain ⟨m,hm,hmin⟩:∃ m∈c,∀ x∈c,m<=x:=by
  have:∀ l:List Int,l≠[]->∃ m∈l,∀ x∈l,m<=x:=by
   intro l
   induction l with
   | nil=>intro h;exact absurd rfl h
   | cons a l ih=>
    intro _
    by_cases e:l=[]
    ·subst e
     exact ⟨a,by simp,λx hx=>by rw [List.mem_singleton.mp hx];omega⟩
    ·obtain ⟨m,h1,h2⟩:=ih e
     by_cases ham:a<=m
     ·refine ⟨a,by simp,λx hx=>?_⟩
      rcases List.mem_cons.mp hx with rfl | hx
      ·omega
      ·have:=h2 x hx
       omega
     ·refine ⟨m,List.mem_cons_of_mem _ h1,λx hx=>?_⟩
      rcases List.mem_cons.mp hx with rfl | hx
      ·omega
      ·exact h2 x hx
  exact this c λe=>by have:=h.1;rw [e] at this;simp at this
 obtain ⟨u,v,rfl⟩:=List.append_of_mem hm
 obtain ⟨h2,e2⟩:=ZfY (d:=(m::v)++u) g h (ZcC u (m::v)) List.perm_append_comm
 have min2:∀ x∈(m::v)++u,m<=x:=λx hx=>hmin x ((List.perm_append_comm (l₁:=m::v) (l₂:=u)).mem_iff.mp hx)
 have e0:(m::v)++u=m::(v++u):=rfl
 rw [e0] at h2 e2 min2
 generalize v++u=tl at h2 e2 min2
 have hl:=h2.1
 have nd:=h2.2.2
 rw [List.length_cons] at hl
 have ne:tl.getD 0 0≠tl.getD (tl.length-1) 0:=ZbY (List.nodup_cons.mp nd).2 (i:=0) (j:=tl.length-1) (by omega) (by omega) (by omega)
 by_cases hlt:tl.getD 0 0<tl.getD (tl.length-1) 0
 ·refine ⟨m::tl,⟨by rw [List.length_cons];exact hl,min2,?_,h2.2⟩,e2⟩
  show tl.getD 0 0<(m::tl).getD (tl.length+1-1) 0
  rw [Nat.add_sub_cancel]
  have:(m::tl).getD tl.length 0=tl.getD (tl.length-1) 0:=by
   obtain ⟨n,hn⟩:∃ n,tl.length=n+1:=⟨tl.length-1,by omega⟩
   rw [hn,Nat.add_sub_cancel]
   rfl
  rw [this]
  exact hlt
 ·have pe:(edg (m::tl.reverse) true).Perm (edg (m::tl) true):=by
   refine ((ZcC [m] tl.reverse).symm).trans ?_
   have:=ZhD (m::tl)
   rw [List.reverse_cons] at this
   exact this
  obtain ⟨h3,e3⟩:=ZfY (d:=m::tl.reverse) g h2 pe ((List.reverse_perm tl).cons m)
  refine ⟨m::tl.reverse,⟨h3.1,λx hx=>min2 x (((List.reverse_perm tl).cons m).mem_iff.mp hx),?_,h3.2⟩,e3.trans e2⟩
  show tl.reverse.getD 0 0<(m::tl.reverse).getD (tl.reverse.length+1-1) 0
  have e5:tl.reverse.getD 0 0=tl.getD (tl.length-1) 0:=by
   rw [ZaE (by rw [List.length_reverse];omega),ZaE (by omega),List.getElem_reverse]
   simp
  have e6:(m::tl.reverse).getD (tl.reverse.length+1-1) 0=tl.getD 0 0:=by
   rw [Nat.add_sub_cancel,List.length_reverse]
   obtain ⟨n,hn⟩:∃ n,tl.length=n+1:=⟨tl.length-1,by omega⟩
   rw [hn]
   show tl.reverse.getD n 0=_
   rw [ZaE (by rw [List.length_reverse];omega),ZaE (by omega),List.getElem_reverse]
   congr 1
   omega
  rw [e5,e6]
  omega
theorem ZhE {k:Int} {rs:List (Int×Int)} {ns:List Int} (g:Zah k rs) (R:ZmU rs ns):∃ s tl,ns=s::tl/\Begins (cho rs (rset rs true ns) rs.length) s/\Wk (cho rs (rset rs true ns) rs.length) s (tl++[s]) []:=by
 have o:=R.2.2.2
 have E:=ZaK g o (λ_=>R.1)
 have hl:=R.1
 obtain ⟨s,q,t,rfl⟩:∃ s q t,ns=s::q::t:=by
  match ns,hl with
  | s::q::t,_=>exact ⟨s,q,t,rfl⟩
 have pm:(cho rs (rset rs true (s::q::t)) rs.length).Perm (ZaH (s::q::(t++[s]))):=by
  rw [Zd5 E.1]
  exact E.2.trans (.of_eq (ZcB s (q::t)))
 have hlt:=Zjy g (rset rs true (s::q::t))
 generalize cho rs (rset rs true (s::q::t)) rs.length=ls at pm hlt
 rw [ZaN] at pm
 have min:∀ x∈s::q::t,s<=x:=R.2.1
 have nd:=o.2
 have hsq:s<q:=by
  have:=min q (by simp)
  have:s≠q:=λe=>(List.nodup_cons.mp nd).1 (by rw [e];simp)
  omega
 have inall:∀ x,x∈s::q::(t++[s])->x∈s::q::t:=λx hx=>by
  simp at hx ⊢
  rcases hx with h | h | h | h
  ·exact .inl h
  ·exact .inr (.inl h)
  ·exact .inr (.inr h)
  ·exact .inl h
 have pmem:∀ r∈ls,r.1∈s::q::t/\r.2∈s::q::t:=λr hr=>by
  have h1:=pm.mem_iff.mp hr
  rw [<-ZaN] at h1
  have er:r=ZaW r.1 r.2:=by
   have:=hlt r hr
   unfold ZaW
   rw [if_neg (by omega),if_pos (by omega)]
  rw [er] at h1
  have:=ZbZ h1
  exact ⟨inall _ this.1,inall _ this.2⟩
 refine ⟨s,q::t,rfl,⟨λr hr=>min _ (pmem r hr).1,?_⟩,?_⟩
 ·refine ⟨ZaW s q,pm.mem_iff.mpr (List.mem_cons_self ..),?_⟩
  unfold ZaW
  rw [if_neg (by omega)]
 ·show Wk ls s (q::(t++[s])) []
  have hm:ZaW s q∈ls:=pm.mem_iff.mpr (List.mem_cons_self ..)
  have nd2:(q::(t++[s])).Nodup:=by
   have:(q::(t++[s])).Perm (s::q::t):=by
    show ((q::t)++[s]).Perm _
    exact List.perm_append_comm
   exact this.nodup_iff.mpr nd
  refine .go ((Zbh hlt _ _).mp hm) (λq' a=>?_) (Zdi (t++[s]) q _ nd2 ?_ (ZfV hlt))
  ·have h1:=pm.mem_iff.mp ((Zbh hlt _ _).mpr a)
   rcases List.mem_cons.mp h1 with e | e
   ·exact Int.le_of_eq (Zea e).symm
   ·-- the last step leads back to s
    have e2:ZaH (q::(t++[s]))=ZaH (q::t)++[ZaW ((q::t).getD t.length 0) s]:=Zbt s t q
    rw [e2] at e
    rcases List.mem_append.mp e with e | e
    ·exact absurd (ZbZ e).1 (List.nodup_cons.mp nd).1
    ·have e:=List.mem_singleton.mp e
     rw [Zbd _ s] at e
     have:=Zea e
     have h4:=R.2.2.1
     have h5:(s::q::t).getD ((s::q::t).length-1) 0=(q::t).getD t.length 0:=rfl
     have h6:(s::q::t).getD 1 0=q:=rfl
     rw [h5,h6] at h4
     omega
  ·have:=pm.erase (ZaW s q)
   rw [List.erase_cons_head] at this
   exact this
theorem ZhF {k:Int} {rs:List (Int×Int)} {ns:List Int} (g:Zah k rs) (R:ZmU rs ns) {s:Int} {tl:List Int} (e:ns=s::tl):Zmc rs (rset rs true ns) k (tl++[s]):=by
 obtain ⟨h1,h2,h3,h4⟩:=ZiQ g R (Zbn rs true ns) (Zcy rs true ns) rfl
 refine ⟨h1,h2,h3,?_⟩
 rw [<-h4,e,List.length_append,List.length_singleton,List.length_cons]
end M
namespace M
open PySem L2
theorem ZfZ {α:Type} [DecidableEq α]:∀ {l m:List α},l.Nodup->(∀ x∈l,x∈m)->l.length<=m.length
 | [],m,_,_=>Nat.zero_le _
 | x::l,m,nd,h=>by
  have hx:=h x (List.mem_cons_self ..)
  have ih:=ZfZ (l:=l) (m:=m.erase x) (List.nodup_cons.mp nd).2 λy hy=>(List.mem_erase_of_ne (λe=>(List.nodup_cons.mp nd).1 (by rw [<-e];exact hy))).mpr (h y (List.mem_cons_of_mem _ hy))
  rw [List.length_erase_of_mem hx] at ih
  have:=List.length_pos_of_mem hx
  rw [List.length_cons]
  omega
theorem ZhG {α:Type} [DecidableEq α]:∀ {l m:List α},l.Nodup->m.Nodup->(∀ x,x∈l↔x∈m)->l.Perm m
 | [],m,_,_,h=>by
  cases m with
  | nil=>exact .refl _
  | cons y m=>exact absurd ((h y).mpr (List.mem_cons_self ..)) List.not_mem_nil
 | x::l,m,nd,nm,h=>by
  have hx:=(h x).mp (List.mem_cons_self ..)
  refine .trans (.cons x (ZhG (l:=l) (m:=m.erase x) (List.nodup_cons.mp nd).2 (nm.erase x) λy=>?_)) (List.perm_cons_erase hx).symm
  rw [List.Nodup.mem_erase_iff nm]
  constructor
  ·intro hy
   exact ⟨λe=>(List.nodup_cons.mp nd).1 (e▸hy),(h y).mp (List.mem_cons_of_mem _ hy)⟩
  ·rintro ⟨h1,h2⟩
   rcases List.mem_cons.mp ((h y).mpr h2) with e | e
   ·exact absurd e h1
   ·exact e
theorem Zfp {k:Int} {rs:List (Int×Int)} (g:Zah k rs) {x:Int} {j:Nat} {t:Int×Int} (hx:0<=x/\x<(rs.length:Int)) (hj:rs[j]?=some t) (e:road rs x=t):x=j:=by
 have hl:=(List.getElem?_eq_some_iff.mp hj).1
 have:road rs (j:Int)=t:=by
  unfold road
  rw [Int.toNat_natCast,List.getD_eq_getElem?_getD,hj]
  rfl
 exact Zd6 g hx (by omega) (e.trans this.symm)
theorem ZbM {k:Int} {rs:List (Int×Int)} (g:Zah k rs) (n:Nat):Zah k (rs.drop n):=⟨g.1,g.2.1,by have:=g.2.2.1;rw [List.length_drop];omega,λy hy=>g.2.2.2.1 y (List.mem_of_mem_drop hy),g.2.2.2.2.sublist (List.drop_sublist _ _)⟩
theorem ZhH {k:Int} {rs:List (Int×Int)} (g:Zah k rs) {j:Nat} {t:Int×Int} (hj:rs[j]?=some t):Ends k t.1 t.2:=by
 have:=g.2.2.2.1 t (List.mem_of_getElem? hj)
 exact ⟨⟨by omega,by omega⟩,⟨by omega,by omega⟩,by omega⟩
theorem Zdj {rs:List (Int×Int)} {p q:Int} {w:List Int} (h:Way rs p q w):edg w true=edg w false++[ZaW q p]:=by
 unfold edg Zaj
 rw [if_pos rfl,if_neg Bool.false_ne_true,List.append_nil,List.map_append]
 show _++[ZaW (w.getD (w.length-1) 0) (w.getD 0 0)]=_
 rw [h.2.2.1,h.2.1]
theorem ZbN {t:Int×Int} (h:t.1<t.2):ZaW t.1 t.2=t:=by
 unfold ZaW
 rw [if_neg (by omega),if_pos (by omega)]
theorem Zbe {k:Int} {rs:List (Int×Int)} {j:Nat} {t:Int×Int} {w:List Int} (g:Zah k rs) (hj:rs[j]?=some t) (h:Way (rs.drop (j+1)) t.1 t.2 w) :
  Cyc rs w/\((j:Nat):Int)∈rset rs true w/\∀ x∈rset rs true w,((j:Nat):Int)<=x:=by
 have tr:t∈rs:=List.mem_of_getElem? hj
 have tlt:=(g.2.2.2.1 t tr).2.1
 have o:=h.2.2.2
 have e1:=Zdj h
 rw [Zbd,ZbN tlt] at e1
 have hd:=(Zbs (ZbM g (j+1))).mp o
 have tnd:t ∉ rs.drop (j+1):=λhm=>by
  obtain ⟨i,hi⟩:=List.mem_iff_getElem?.mp hm
  rw [List.getElem?_drop] at hi
  have l1:=(List.getElem?_eq_some_iff.mp hi).1
  have l2:=(List.getElem?_eq_some_iff.mp hj).1
  have e3:=Zcv g.2.2.2.2 (i:=j+1+i) (j:=j) (by omega) (by omega) (by rw [List.getD_eq_getElem?_getD,List.getD_eq_getElem?_getD,hi,hj])
  omega
 have oc:Zdf rs w true:=(Zbs g).mpr ⟨λe he=>by
  rw [e1] at he
  rcases List.mem_append.mp he with he | he
  ·exact List.mem_of_mem_drop (hd.1 e he)
  ·rw [List.mem_singleton.mp he]
   exact tr,hd.2⟩
 have l3:3<=w.length:=by
  obtain ⟨tl,rfl⟩:=Zbu h
  match tl,h,hd with
  | [],h,_=>
   have:t.1=t.2:=h.2.2.1
   omega
  | [x],h,hd=>
   have hx:x=t.2:=h.2.2.1
   subst hx
   refine absurd (hd.1 t ?_) tnd
   rw [ZcA]
   show t∈[ZaW t.1 t.2]
   rw [ZbN tlt]
   simp
  | _::_::_,_,_=>simp
 have E:=ZaK g oc (λ_=>l3)
 refine ⟨⟨l3,oc⟩,?_,λx hx=>?_⟩
 ·have:t∈(rset rs true w).map (road rs):=E.2.mem_iff.mpr (by rw [e1];simp)
  obtain ⟨x,hx,ex⟩:=List.mem_map.mp this
  rw [<-Zfp g (E.1.2 x hx) hj ex]
  exact hx
 ·have:road rs x∈edg w true:=E.2.mem_iff.mp (List.mem_map.mpr ⟨x,hx,rfl⟩)
  rw [e1] at this
  have hx2:=E.1.2 x hx
  rcases List.mem_append.mp this with he | he
  ·obtain ⟨i,hi⟩:=List.mem_iff_getElem?.mp (hd.1 _ he)
   rw [List.getElem?_drop] at hi
   have:=Zfp g hx2 hi rfl
   omega
  ·exact Int.le_of_eq (Zfp g hx2 hj (List.mem_singleton.mp he)).symm
theorem ZhI {k:Int} {rs:List (Int×Int)} {j:Nat} {t:Int×Int} {w v:List Int} (g:Zah k rs) (hj:rs[j]?=some t) (h:Way (rs.drop (j+1)) t.1 t.2 w) (h2:Way (rs.drop (j+1)) t.1 t.2 v) (e:rset rs true w=rset rs true v):w=v:=by
 have c1:=(Zbe g hj h).1
 have c2:=(Zbe g hj h2).1
 have E1:=(ZaK g c1.2 (λ_=>c1.1)).2
 have E2:=(ZaK g c2.2 (λ_=>c2.1)).2
 rw [e] at E1
 have p:=E1.symm.trans E2
 rw [Zdj h,Zdj h2] at p
 have p2:(edg w false).Perm (edg v false):=(List.perm_append_right_iff _).mp p
 exact Zfo (ZbM g (j+1)) (ZhH g hj) h h2 (Zcz (ZbM g (j+1)) h.2.2.2 (λz=>absurd z Bool.false_ne_true) h2.2.2.2 (λz=>absurd z Bool.false_ne_true) p2)
theorem Zf0 {k:Int} {rs:List (Int×Int)} (g:Zah k rs) {j:Nat} {R:List (List Int)} (h:Rgs rs j R):∀ w∈R,∃ i,i<j/\∃ t,rs[i]?=some t/\Way (rs.drop (i+1)) t.1 t.2 w:=by
 induction h with
 | nil=>intro w hw;cases hw
 | @one j R W hr _ hw ih=>
  intro w hm
  rcases List.mem_append.mp hm with hm | hm
  ·obtain ⟨i,hi,r⟩:=ih w hm
   exact ⟨i,by omega,r⟩
  ·obtain ⟨t,ht,wy⟩:=hw
   exact ⟨j,by omega,t,ht,wy.ww w hm⟩
theorem ZhJ {k:Int} {rs:List (Int×Int)} (g:Zah k rs) {j:Nat} {R:List (List Int)} (h:Rgs rs j R):(R.map (rset rs true)).Nodup:=by
 induction h with
 | nil=>exact .nil
 | @one j R W hr _ hw ih=>
  obtain ⟨t,ht,wy⟩:=hw
  rw [List.map_append]
  refine List.nodup_append.mpr ⟨ih,?_,λa ha b hb e=>?_⟩
  ·unfold List.Nodup
   rw [List.pairwise_map]
   exact wy.nd.imp_of_mem λ{x y} hx hy hxy e=>hxy (ZhI g ht (wy.ww x hx) (wy.ww y hy) e)
  ·obtain ⟨x,hx,rfl⟩:=List.mem_map.mp ha
   obtain ⟨y,hy,rfl⟩:=List.mem_map.mp hb
   obtain ⟨i,hi,u,hu,hw⟩:=Zf0 g hr x hx
   have c1:=Zbe g hu hw
   have c2:=Zbe g ht (wy.ww y hy)
   have:=c2.2.2 (i:Int) (by rw [<-e];exact c1.2.1)
   omega
theorem ZkV {k:Int} {rs:List (Int×Int)} (g:Zah k rs) {j:Nat} {R:List (List Int)} (h:Rgs rs j R) (hl:R.length<=300):∀ i,i<j->∀ t w,rs[i]?=some t->Way (rs.drop (i+1)) t.1 t.2 w->w∈R:=by
 induction h with
 | nil=>intro i hi;omega
 | @one j R W hr _ hw ih=>
  rw [List.length_append] at hl
  intro i hi t w ht hway
  by_cases e:i=j
  ·subst e
   obtain ⟨t',ht',wy⟩:=hw
   rw [ht] at ht'
   cases ht'
   exact List.mem_append_right _ (wy.al (by omega) w hway)
  ·exact List.mem_append_left _ (ih (by omega) i (by omega) t w ht hway)
theorem ZhK {k:Int} {rs:List (Int×Int)} {c:List Int} (g:Zah k rs) (h:Cyc rs c):∃ i t w,rs[i]?=some t/\Way (rs.drop (i+1)) t.1 t.2 w/\rset rs true w=rset rs true c:=by
 have E:=ZaK g h.2 (λ_=>h.1)
 have ne:rset rs true c≠[]:=λe=>by
  have:=E.2.length_eq
  rw [e] at this
  unfold edg Zaj at this
  rw [if_pos rfl] at this
  simp at this
 obtain ⟨j,S,hS⟩:∃ j S,rset rs true c=j::S:=by
  cases hh:rset rs true c with
  | nil=>exact absurd hh ne
  | cons j S=>exact ⟨j,S,rfl⟩
 have asc:=E.1.1
 rw [hS] at asc
 have hjr:=E.1.2 j (by rw [hS];simp)
 have hjn:rs[j.toNat]?=some (road rs j):=by
  unfold road
  rw [List.getElem?_eq_getElem (show j.toNat<rs.length by omega),List.getD_eq_getElem?_getD,List.getElem?_eq_getElem (show j.toNat<rs.length by omega)]
  rfl
 have tlt:=(g.2.2.2.1 _ (List.mem_of_getElem? hjn)).2.1
 have hm:road rs j∈edg c true:=E.2.mem_iff.mp (by rw [hS];simp)
 obtain ⟨⟨x,y⟩,hst,exy⟩:=List.mem_map.mp hm
 have exy:ZaW x y=road rs j:=exy
 obtain ⟨d,hdp,hde,hd0,hdl⟩:∃ d:List Int,d.Perm c/\(edg d true).Perm (edg c true)/\d.getD 0 0=y/\d.getD (d.length-1) 0=x:=by
  unfold Zaj at hst
  rw [if_pos rfl] at hst
  rcases List.mem_append.mp hst with hst | hst
  ·obtain ⟨n,hn⟩:=List.mem_iff_getElem?.mp hst
   rw [List.getElem?_zip_eq_some,List.getElem?_drop] at hn
   have l2:=(List.getElem?_eq_some_iff.mp hn.2).1
   refine ⟨c.drop (n+1)++c.take (n+1),?_,?_,?_,?_⟩
   ·have:=List.perm_append_comm (l₁:=c.drop (n+1)) (l₂:=c.take (n+1))
    rw [List.take_append_drop] at this
    exact this
   ·have:=ZcC (c.take (n+1)) (c.drop (n+1))
    rw [List.take_append_drop] at this
    exact this
   ·rw [List.getD_eq_getElem?_getD,List.getElem?_append_left (by rw [List.length_drop];omega),List.getElem?_drop,show n+1+0=1+n by omega,hn.2]
    rfl
   ·rw [List.getD_eq_getElem?_getD,List.length_append,List.length_drop,List.length_take,Nat.min_eq_left (by omega),List.getElem?_append_right (by rw [List.length_drop];omega),List.length_drop,List.getElem?_take,if_pos (by omega),show c.length-(n+1)+(n+1)-1-(c.length-(n+1))=n by omega,hn.1]
    rfl
  ·have e:=List.mem_singleton.mp hst
   have e1:=(Prod.mk.inj e).1
   have e2:=(Prod.mk.inj e).2
   exact ⟨c,.refl _,.refl _,e2.symm,e1.symm⟩
 obtain ⟨hd,ed⟩:=ZfY g h hde hdp
 obtain ⟨w,hwp,hwe,hw0,hwl⟩:∃ w:List Int,w.Perm c/\(edg w true).Perm (edg c true)/\w.getD 0 0=(road rs j).1/\w.getD (w.length-1) 0=(road rs j).2:=by
  have l3:=hd.1
  have hne:x≠y:=λe=>by
   have:(road rs j).1=(road rs j).2:=by
    rw [<-exy,e]
    unfold ZaW
    simp
   omega
  by_cases hyx:y<x
  ·have e2:road rs j=(y,x):=by
    rw [<-exy]
    unfold ZaW
    rw [if_pos hyx,if_neg (show ¬ y > x by omega)]
   exact ⟨d,hdp,hde,by rw [hd0,e2],by rw [hdl,e2]⟩
  ·have e2:road rs j=(x,y):=by
    rw [<-exy]
    unfold ZaW
    rw [if_neg hyx,if_pos (show y > x by omega)]
   refine ⟨d.reverse,(List.reverse_perm d).trans hdp,(ZhD d).trans hde,?_,?_⟩
   ·rw [ZaE (by rw [List.length_reverse];omega),List.getElem_reverse,e2]
    rw [ZaE (by omega)] at hdl
    simp only [Nat.sub_zero]
    exact hdl
   ·rw [ZaE (by rw [List.length_reverse];omega),List.getElem_reverse,e2]
    rw [ZaE (by omega)] at hd0
    refine Eq.trans ?_ hd0
    congr 1
    rw [List.length_reverse]
    omega
 obtain ⟨hw,ew⟩:=ZfY g h hwe hwp
 refine ⟨j.toNat,road rs j,w,hjn,⟨λe=>by have:=hw.1;rw [e] at this;simp at this,hw0,hwl,?_⟩,ew⟩
 refine (Zbs (ZbM g (j.toNat+1))).mpr ⟨λe he=>?_,hw.2.2⟩
 have Ew:=ZaK g hw.2 (λ_=>hw.1)
 rw [ew,hS] at Ew
 have ec:edg w true=edg w false++[road rs j]:=by
  unfold edg Zaj
  rw [if_pos rfl,if_neg Bool.false_ne_true,List.append_nil,List.map_append]
  show _++[ZaW (w.getD (w.length-1) 0) (w.getD 0 0)]=_
  rw [hw0,hwl,Zbd,ZbN tlt]
 rw [ec] at Ew
 have p:(S.map (road rs)).Perm (edg w false):=by
  have:=Ew.2.trans List.perm_append_comm
  exact this.cons_inv
 obtain ⟨x',hx',rfl⟩:=List.mem_map.mp (p.mem_iff.mpr he)
 have h1:=(List.pairwise_cons.mp asc).1 x' hx'
 have h2:=E.1.2 x' (by rw [hS];exact List.mem_cons_of_mem _ hx')
 refine List.mem_iff_getElem?.mpr ⟨x'.toNat-(j.toNat+1),?_⟩
 rw [List.getElem?_drop,show j.toNat+1+(x'.toNat-(j.toNat+1))=x'.toNat by omega]
 unfold road
 rw [List.getElem?_eq_getElem (show x'.toNat<rs.length by omega),List.getD_eq_getElem?_getD,List.getElem?_eq_getElem (show x'.toNat<rs.length by omega)]
 rfl
theorem ZhL {k:Int} {rs:List (Int×Int)} (g:Zah k rs) {R:List (List Int)} (h:Rgs rs rs.length R) (hl:R.length<=300) (S:List Int):S∈R.map (rset rs true)↔∃ c,Cyc rs c/\rset rs true c=S:=by
 constructor
 ·intro hS
  obtain ⟨w,hw,rfl⟩:=List.mem_map.mp hS
  obtain ⟨i,_,t,ht,hway⟩:=Zf0 g h w hw
  exact ⟨w,(Zbe g ht hway).1,rfl⟩
 ·rintro ⟨c,hc,rfl⟩
  obtain ⟨i,t,w,ht,hw,e⟩:=ZhK g hc
  exact List.mem_map.mpr ⟨w,ZkV g h hl i (List.getElem?_eq_some_iff.mp ht).1 t w ht hw,e⟩
end M
namespace M
open PySem L2
def IsS (rs:List (Int×Int)):Option (Int×Int)->List Int->Prop
 | none,S=>∃ c,Cyc rs c/\rset rs true c=S
 | some e,S=>∃ w,Way rs e.1 e.2 w/\rset rs false w=S
structure Zgt (rs:List (Int×Int)) (en:Option (Int×Int)) (L:List (List Int)):Prop where
 so:Srt L
 nd:L.Nodup
 ln:L.length<=300
 iff:∀ S,S∈L↔IsS rs en S
def TooS (rs:List (Int×Int)) (en:Option (Int×Int)):Prop:=∃ M:List (List Int),M.Nodup/\300<M.length/\∀ S∈M,IsS rs en S
def ZpR (k:Int):Option (Int×Int)->Prop
 | none=>True
 | some e=>Ends k e.1 e.2
theorem Zjz {k:Int} {rs:List (Int×Int)} {p q:Int} {W:List (List Int)} (g:Zah k rs) (en:Ends k p q) (h:Wys rs p q W):(W.map (rset rs false)).Nodup:=by
 unfold List.Nodup
 rw [List.pairwise_map]
 exact h.nd.imp_of_mem λ{x y} hx hy hxy e=>hxy (Zfo g en (h.ww x hx) (h.ww y hy) e)
theorem ZkW {k:Int} {rs:List (Int×Int)} {p q:Int} {W:List (List Int)} (g:Zah k rs) (en:Ends k p q) (h:Wys rs p q W) (hl:300<W.length):TooS rs (some (p,q)):=by
 refine ⟨W.map (rset rs false),Zjz g en h,by rw [List.length_map];exact hl,λS hS=>?_⟩
 obtain ⟨w,hw,rfl⟩:=List.mem_map.mp hS
 exact ⟨w,h.ww w hw,rfl⟩
theorem ZiT {k:Int} {rs:List (Int×Int)} {p q:Int} {W L:List (List Int)} (g:Zah k rs) (en:Ends k p q) (h:Wys rs p q W) (hl:W.length<=300) (pm:L.Perm (W.map (rset rs false))) (so:Srt L):Zgt rs (some (p,q)) L:=by
 refine ⟨so,pm.nodup_iff.mpr (Zjz g en h),by rw [pm.length_eq,List.length_map];exact hl,λS=>?_⟩
 rw [pm.mem_iff]
 constructor
 ·intro hS
  obtain ⟨w,hw,rfl⟩:=List.mem_map.mp hS
  exact ⟨w,h.ww w hw,rfl⟩
 ·rintro ⟨w,hw,rfl⟩
  exact List.mem_map.mpr ⟨w,h.al hl w hw,rfl⟩
theorem ZkX {k:Int} {rs:List (Int×Int)} {j:Nat} {R:List (List Int)} (g:Zah k rs) (h:Rgs rs j R) (hl:300<R.length):TooS rs none:=by
 refine ⟨R.map (rset rs true),ZhJ g h,by rw [List.length_map];exact hl,λS hS=>?_⟩
 obtain ⟨w,hw,rfl⟩:=List.mem_map.mp hS
 obtain ⟨i,_,t,ht,hway⟩:=Zf0 g h w hw
 exact ⟨w,(Zbe g ht hway).1,rfl⟩
theorem ZiU {k:Int} {rs:List (Int×Int)} {R L:List (List Int)} (g:Zah k rs) (h:Rgs rs rs.length R) (hl:R.length<=300) (pm:L.Perm (R.map (rset rs true))) (so:Srt L):Zgt rs none L:=by
 refine ⟨so,pm.nodup_iff.mpr (ZhJ g h),by rw [pm.length_eq,List.length_map];exact hl,λS=>?_⟩
 rw [pm.mem_iff]
 exact ZhL g h hl S
theorem ZkY {k:Int} {rs:List (Int×Int)} {p q:Int} (g:Zah k rs) (S:List Int):IsS rs (some (q,p)) S↔IsS rs (some (p,q)) S/\(λ_=>true) S=true:=by
 constructor
 ·rintro ⟨w,hw,rfl⟩
  obtain ⟨h1,h2⟩:=ZhC g hw
  exact ⟨⟨w.reverse,h1,h2⟩,rfl⟩
 ·rintro ⟨⟨w,hw,rfl⟩,_⟩
  obtain ⟨h1,h2⟩:=ZhC g hw
  exact ⟨w.reverse,h1,h2⟩
def Zpd (k:Int) (rs:List (Int×Int)) (S:List Int):Option (Int×Int)->Prop
 | none=>∀ tl,¬ Zmc rs S k tl
 | some e=>∀ tl,¬ Zmb rs S k e.1 e.2 tl
end M
namespace M
open PySem L2
section
variable {P:Program} {w:World} {K:PySem.W.Frag} {mg:Str->Option Value} {base:Heap}
def ZiV (rs:List (Int×Int)) (ks:List Int) (i:Nat):Prop:=∀ j,j<i->(0<=ks.getD j 0/\ks.getD j 0<(rs.length:Int))/\(0<j->ks.getD (j-1) 0<ks.getD j 0)
theorem setUp_set {rs:List (Int×Int)} {ks:List Int}:ZiV rs ks ks.length↔Zbx rs ks:=by
 constructor
 ·intro h
  have up:∀ d i,i+d+1<ks.length->ks.getD i 0<ks.getD (i+d+1) 0:=λd=>by
   induction d with
   | zero=>
    intro i hi
    exact (h (i+1) (by omega)).2 (by omega)
   | succ d ih=>
    intro i hi
    have h1:=ih i (by omega)
    have h2:=(h (i+d+1+1) (by omega)).2 (by omega)
    have e:i+d+1+1-1=i+d+1:=by omega
    rw [e] at h2
    have e2:i+(d+1)+1=i+d+1+1:=by omega
    rw [e2]
    omega
  refine ⟨List.pairwise_iff_getElem.mpr λi j hi hj hij=>?_,λx hx=>?_⟩
  ·have:=up (j-i-1) i (by omega)
   rw [show i+(j-i-1)+1=j by omega,ZaE hi,ZaE hj] at this
   exact this
  ·obtain ⟨j,hj,rfl⟩:=List.getElem_of_mem hx
   have:=(h j hj).1
   rw [ZaE hj] at this
   exact this
 ·intro h j hj
  refine ⟨h.2 _ (Zbg hj),λh0=>?_⟩
  rw [ZaE hj,ZaE (show j-1<ks.length by omega)]
  exact List.pairwise_iff_getElem.mp h.1 (j-1) j (by omega) hj (by omega)
def ZkZ:Sp:=λvs H Q _=>∃ (wb l kl:Addr) (k:Int) (xs:List V) (rs:List (Int×Int)) (ks:List Int),vs=[.ref wb,.ref kl]/\WebAt H wb l k xs rs/\xs.length<=30/\H kl=some (.lst (ks.map V.int))/\ks.length<=200/\∀ b:Bool,(b=true↔Zbx rs ks)->Q (.bl b) H
theorem scIst:Zav ["web", "roads", "k"] ["web", "roads"] (Zaf Zjp):=⟨rfl,rfl,rfl,by decide +kernel,rfl,by decide +kernel,by decide +kernel⟩
theorem ZjA {f:Addr} {fd:FuncData} (F:Fun K "_law_is_set" "_law_is_set" Zjp f fd) (mRange:mg "range" = none) (mLen:mg "len" = none):ZaO P w K mg base CX0 1 f fd ["web", "roads"] ZkZ:=by
 refine F.ok scIst (λvs H Q E h=>?_) (λcdv A outer s H vs Q E hr h=>?_)
 ·obtain ⟨_,_,_,_,_,_,_,rfl,_⟩:=h
  rfl
 ·obtain ⟨wb,l,kl,k,xs,rs,ks,rfl,W,hx,hk,hkl,q⟩:=h
  have h16:(16777216:Nat)=sizeLine:=sizeLine_eq.symm
  have hxl:=W.p.len
  have no:∀ i,i<ks.length->¬ ZiV rs ks (i+1)->Q (.bl false) H:=λi hi z=>q false ⟨λy=>(by cases y),λy=>absurd (λj hj=>setUp_set.mpr y j (by omega)) z⟩
  refine ⟨_,Zag (Zbf PassesOwn.never rfl (Za9 rfl mRange (Zaa (Zat (Zgd K) rfl mLen PySem.boot_len (Zaa (pv 1) Zac)) Zac)) (Zar (i:=2) scIst.nd rfl (Or.inl rfl))
    (Zai (ZaX (PW.pt (Zef (Zay ZjL (Zaw (Zbz K) (pv 1) (pv 2) (λ_ _=>rfl)) Zad (ZaF _)) (Zef (Zay ZjM (Zaw (Zbz K) (pv 1) (pv 2) (λ_ _=>rfl)) (Zat (Zgd K) rfl mLen PySem.boot_len (Zaa (Zaw (Zck K) (pv 0) Zad (λ_ _=>rfl)) Zac)) (ZaF _)) (Zdp (PW.pt (Zc5 (Zay Zei (pv 2) Zad (ZaF _)) (Zb6 (Zay ZjM (Zaw (Zbz K) (pv 1) (Zas ZbC (pv 2) Zad) (λ_ _=>rfl)) (Zaw (Zbz K) (pv 1) (pv 2) (λ_ _=>rfl)) (ZaF _))))))))) (Zai (Zau Zbo)) ZaC)))
    (Zai (Zau Zbo)),?_⟩
  refine ⟨_,rfl,kl,_,rfl,.inl (SqL.of hk),_,rfl,by rw [List.length_map];omega,by rw [List.length_map];omega,?_⟩
  rw [List.length_map,Int.toNat_natCast]
  refine Zbj (lo:=0) (n:=ks.length) (λi σ' H'=>∃ v2:Option V,σ'=[some (.ref wb),some (.ref kl),v2]/\H=H'/\ZiV rs ks i) ⟨none,rfl,rfl,λj hj=>absurd hj (Nat.not_lt_zero j)⟩ ?_ ?_
  ·rintro i σ' H' hi ⟨v2,rfl,rfl,su⟩
   rw [Int.zero_add]
   have hat:atI (ks.map V.int) (i:Int)=some (.int (ks.getD i 0)):=ZdC (i:=(i:Int)) (by omega) (by omega)
   have nx:(0<=ks.getD i 0/\ks.getD i 0<(rs.length:Int))->(0<i->ks.getD (i-1) 0<ks.getD i 0)->ZiV rs ks (i+1):=λh1 h2 j hj=>by
    by_cases e:j=i
    ·subst e;exact ⟨h1,h2⟩
    ·exact su j (by omega)
   refine ⟨_,rfl,_,rfl,kl,_,_,_,rfl,rfl,SqL.of hk,hat,_,_,rfl,rfl,_,rfl,ZcQ (λc=>?_) (λc1=>?_)⟩
   ·refine Zcg (no i hi λz=>?_)
    have:=(z i (by omega)).1
    have:=of_decide_eq_true c
    omega
   have c1:¬ ks.getD i 0<0:=λz=>c1 (decide_eq_true z)
   refine ⟨_,rfl,_,rfl,kl,_,_,_,rfl,rfl,SqL.of hk,hat,_,rfl,wb,_,_,_,rfl,rfl,SqT.of W.w,Zal (j:=1) rfl,l,xs,rfl,.inl (SqL.of W.l),_,_,rfl,rfl,_,rfl,ZcQ (λc=>?_) (λc2=>?_)⟩
   ·refine Zcg (no i hi λz=>?_)
    have:=(z i (by omega)).1
    have:=of_decide_eq_true c
    omega
   have c2:¬ ks.getD i 0>=(xs.length:Int):=λz=>c2 (decide_eq_true z)
   refine ⟨_,rfl,_,_,rfl,rfl,_,rfl,ZcQ (λc=>?_) (λc3=>?_)⟩
   ·have c3:(i:Int) > 0:=of_decide_eq_true c
    have hat1:atI (ks.map V.int) ((i:Int)-1)=some (.int (ks.getD (i-1) 0)):=by
     have:=ZdC (ns:=ks) (i:=((i-1:Nat):Int)) (by omega) (by omega)
     rw [Int.toNat_natCast,show (((i-1:Nat):Int))=(i:Int)-1 by omega] at this
     exact this
    refine ⟨_,rfl,_,rfl,_,_,rfl,rfl,kl,_,_,_,rfl,rfl,SqL.of hk,hat1,_,rfl,_,rfl,kl,_,_,_,rfl,rfl,SqL.of hk,hat,_,_,rfl,rfl,_,rfl,ZcQ (λc=>?_) (λc4=>?_)⟩
    ·refine no i hi λz=>?_
     have:=(z i (by omega)).2 (by omega)
     have:=of_decide_eq_true c
     omega
    ·have c4:¬ ks.getD (i-1) 0>=ks.getD i 0:=λz=>c4 (decide_eq_true z)
     exact ⟨_,rfl,rfl,nx ⟨by omega,by omega⟩ λ_=>by omega⟩
   ·have c3:¬ (i:Int) > 0:=λz=>c3 (decide_eq_true z)
    refine Zb0 ?_
    exact ⟨_,rfl,rfl,nx ⟨by omega,by omega⟩ λ_=>by omega⟩
  ·rintro σ' H' ⟨v2,rfl,rfl,su⟩
   exact q true ⟨λ_=>setUp_set.mp su,λ_=>rfl⟩
theorem ZhM {rs:List (Int×Int)} {ks:List Int} {p:Int} {i:Nat} {x:Int} (h:ks[i]?=some x):((ks.take (i+1)).filter λy=>decide ((road rs y).1=p\/(road rs y).2=p))=((ks.take i).filter λy=>decide ((road rs y).1=p\/(road rs y).2=p))++(if Zbl (road rs x) p=true then [x] else []):=by
 rw [List.take_add_one,h]
 show List.filter _ (ks.take i++[x])=_
 rw [List.filter_append,List.filter_cons,List.filter_nil]
 rfl
theorem Zfq {H:Hp} {wb l:Addr} {k:Int} {xs:List V} {rs:List (Int×Int)} (W:WebAt H wb l k xs rs) {x:Int} (h:0<=x/\x<(rs.length:Int)):∃ t,atI xs x=some (.ref t)/\H t=some (.tup [.int (road rs x).1,.int (road rs x).2]):=by
 have hxl:=W.p.len
 have hi:x.toNat<xs.length:=by omega
 obtain ⟨t,r,et,eh,er⟩:=W.p.get (List.getElem?_eq_getElem hi)
 have eg:road rs x=r:=by
  unfold road
  rw [List.getD_eq_getElem?_getD,er]
  rfl
 refine ⟨t,?_,by rw [eg];exact eh⟩
 have:=Zal (xs:=xs) (j:=x.toNat) (by rw [List.getElem?_eq_getElem hi,et])
 rw [Int.toNat_of_nonneg h.1] at this
 exact this
def Zk0:Sp:=λvs H Q _=>∃ (wb l kl:Addr) (k p:Int) (xs:List V) (rs:List (Int×Int)) (ks:List Int),vs=[.ref wb,.ref kl,.int p]/\WebAt H wb l k xs rs/\H kl=some (.lst (ks.map V.int))/\ks.length<=200/\(∀ x∈ks,0<=x/\x<(rs.length:Int))/\∀ H',Same H H'->Q (.int (degK rs ks p:Nat)) H'
theorem ZnI:Zav ["web", "roads", "place"] ["web", "roads", "place"] (Zaf Zjq):=⟨rfl,rfl,rfl,by decide +kernel,rfl,by decide +kernel,by decide +kernel⟩
theorem ZjB {f:Addr} {fd:FuncData} (F:Fun K "_law_at" "_law_at" Zjq f fd) (mLen:mg "len" = none):ZaO P w K mg base CX0 1 f fd ["web", "roads", "place"] Zk0:=by
 refine F.ok ZnI (λvs H Q E h=>?_) (λcdv A outer s H vs Q E hr h=>?_)
 ·obtain ⟨_,_,_,_,_,_,_,_,rfl,_⟩:=h
  rfl
 ·obtain ⟨wb,l,kl,k,p,xs,rs,ks,rfl,W,hk,hkl,hv,q⟩:=h
  have h16:(16777216:Nat)=sizeLine:=sizeLine_eq.symm
  refine ⟨_,Zai (Zau (Zat (Zgd K) rfl mLen PySem.boot_len (Zaa (Zbi (own:=["k"]) rfl (Zaz (fr:=[("web", 0),("place", 2)]) [(".0", .local),("k", .local),("place", .cell),("web", .cell)] rfl rfl (by decide +kernel) rfl (by decide +kernel) ⟨rfl,rfl,trivial⟩ ⟨λh=>Za0 h,λh=>Za0 h,λ_=>⟨_,rfl⟩,λ_=>⟨_,rfl⟩,trivial⟩ ⟨⟨rfl,.inl rfl,.inl rfl⟩,⟨rfl,.inl rfl,.inl rfl⟩,trivial⟩) (ZcF K (pv 1)) (λ_ _ _ _=>Zar (i:=0) (show List.Nodup (["k", "web", "place"]:List Str) by decide +kernel) rfl (Or.inl rfl)) (λ_ _ _ _=>ZcY (Zay (kIn K) (pv 2) (Zaw (Zbz K) (Zaw (Zck K) (pv 1) Zad (λ_ _=>rfl)) (pv 0) (λ_ _=>rfl)) (by with_unfolding_all rfl))) (λ_ _ _ _=>pv 0)) Zac))),?_⟩
  refine ⟨_,rfl,kl,rfl,⟨_,SqL.of hk⟩,λD hD=>?_⟩
  refine Zba (K:=K) (a:=kl) (xs:=ks.map V.int) (λi ys H2=>Same H H2/\H2 D=some (.lst ys)/\ys=((ks.take i).filter λy=>decide ((road rs y).1=p\/(road rs y).2=p)).map V.int) ⟨Same.new hD,Zab,rfl⟩ (λi ys H2 _ ⟨s2,_⟩=>SqL.of (s2 _ _ hk)) ?_ ?_
  ·rintro i x ys H2 hxi ⟨s2,hD2,rfl⟩
   rw [List.getElem?_map] at hxi
   cases hz:ks[i]? with
   | none=>rw [hz] at hxi;cases hxi
   | some z=>
    rw [hz] at hxi
    cases hxi
    have hi:i<ks.length:=(List.getElem?_eq_some_iff.mp hz).1
    have W2:=W.same s2
    obtain ⟨t,et,eh⟩:=Zfq W2 (hv z (List.mem_of_getElem? hz))
    have sc:=ZhM (rs:=rs) (p:=p) hz
    refine ⟨⟨rfl,rfl,trivial⟩,?_⟩
    refine ⟨_,rfl,_,rfl,wb,_,_,_,rfl,rfl,SqT.of W2.w,Zal (j:=1) rfl,_,rfl,l,_,_,_,rfl,rfl,SqL.of W2.l,et,t,_,rfl,.inr (SqT.of eh),rfl,rfl,_,rfl,?_⟩
    show if (inV (.int p) [.int (road rs z).1,.int (road rs z).2])=true then _ else _
    rw [ZnE]
    refine ZcQ (λy=>?_) (λy=>?_)
    ·refine ⟨_,rfl,hD2,?_,s2.put hD,Zab,?_⟩
     ·rw [List.length_map]
      have:=List.length_filter_le (λy=>decide ((road rs y).1=p\/(road rs y).2=p)) (ks.take i)
      rw [List.length_take] at this
      omega
     ·rw [sc,if_pos y,List.map_append];rfl
    ·exact ⟨s2,hD2,by rw [sc,if_neg y,List.append_nil]⟩
  ·rintro ys H2 ⟨s2,hD2,rfl⟩
   rw [List.length_map,List.take_length] at hD2
   refine ⟨D,_,rfl,.inl (SqL.of hD2),?_⟩
   rw [List.length_map]
   exact q H2 s2
end
end M
namespace M
open PySem L2
section
variable {P:Program} {w:World} {K:PySem.W.Frag} {mg:Str->Option Value} {base:Heap}
def Zdo (rs:List (Int×Int)) (ks:List Int) (c:Int):List (Int×Int):=(ks.filter λx=>Zbl (road rs x) c).map λx=>((road rs x).1+(road rs x).2-c,x)
theorem Zgu {rs:List (Int×Int)} {ks:List Int} {c:Int} {i:Nat} {x:Int} (h:ks[i]?=some x):Zdo rs (ks.take (i+1)) c=Zdo rs (ks.take i) c++(if Zbl (road rs x) c=true then [((road rs x).1+(road rs x).2-c,x)] else []):=by
 unfold Zdo
 rw [List.take_add_one,h]
 show List.map _ (List.filter _ (ks.take i++[x]))=_
 rw [List.filter_append,List.map_append,List.filter_cons,List.filter_nil]
 by_cases z:Zbl (road rs x) c=true
 ·rw [if_pos z,if_pos z];rfl
 ·rw [if_neg z,if_neg z];rfl
theorem ZhN (rs:List (Int×Int)) (ks:List Int) (c:Int):(Zdo rs ks c).length<=ks.length:=by
 unfold Zdo
 rw [List.length_map]
 exact List.length_filter_le _ _
theorem mem_near {rs:List (Int×Int)} {ks:List Int} {c y x:Int}:(y,x)∈Zdo rs ks c↔x∈ks/\(road rs x=(c,y)\/road rs x=(y,c)):=by
 unfold Zdo
 rw [List.mem_map]
 constructor
 ·rintro ⟨z,hz,e⟩
  obtain ⟨h1,h2⟩:=List.mem_filter.mp hz
  obtain ⟨e1,e2⟩:=Prod.mk.inj e
  subst e2
  refine ⟨h1,?_⟩
  rcases of_decide_eq_true h2 with e | e
  ·left
   rw [<-e1,<-e]
   exact Prod.ext rfl (by dsimp only;omega)
  ·right
   rw [<-e1,<-e]
   exact Prod.ext (by dsimp only;omega) rfl
 ·rintro ⟨h1,e | e⟩
  ·exact ⟨x,List.mem_filter.mpr ⟨h1,decide_eq_true (.inl (by rw [e]))⟩,by rw [e];exact Prod.ext (by dsimp only;omega) rfl⟩
  ·exact ⟨x,List.mem_filter.mpr ⟨h1,decide_eq_true (.inr (by rw [e]))⟩,by rw [e];exact Prod.ext (by dsimp only;omega) rfl⟩
theorem near_adj {rs:List (Int×Int)} {ks:List Int} {c y:Int}:Adj (ks.map (road rs)) c y↔∃ x,(y,x)∈Zdo rs ks c:=by
 unfold Adj
 rw [List.mem_map,List.mem_map]
 constructor
 ·rintro (⟨x,hx,e⟩ | ⟨x,hx,e⟩)
  ·exact ⟨x,mem_near.mpr ⟨hx,.inl e⟩⟩
  ·exact ⟨x,mem_near.mpr ⟨hx,.inr e⟩⟩
 ·rintro ⟨x,h⟩
  obtain ⟨hx,e | e⟩:=mem_near.mp h
  ·exact .inl ⟨x,hx,e⟩
  ·exact .inr ⟨x,hx,e⟩
theorem ZdG {k:Int} {rs:List (Int×Int)} (g:Zah k rs) {x:Int}:∀ {ks:List Int},(∀ z∈ks,0<=z/\z<(rs.length:Int))->(0<=x/\x<(rs.length:Int))->(ks.map (road rs)).erase (road rs x)=(ks.erase x).map (road rs)
 | [],_,_=>rfl
 | z::ks,h,hx=>by
  rw [List.map_cons,List.erase_cons,List.erase_cons]
  by_cases e:z=x
  ·rw [if_pos (by rw [e];exact beq_self_eq_true _),if_pos (by rw [e];exact beq_self_eq_true _)]
  ·rw [if_neg (by rw [beq_iff_eq];exact λy=>e (Zd6 g (h z (List.mem_cons_self ..)) hx y)),if_neg (by rw [beq_iff_eq];exact e),List.map_cons,ZdG g (λy hy=>h y (List.mem_cons_of_mem _ hy)) hx]
theorem ZhO {xs:List V} {rs:List (Int×Int)} {t t':Addr} {r r':Int×Int} (a:ZfM xs rs t r) (b:ZfM xs rs t' r'):r=r':=by
 obtain ⟨⟨i,_,hi⟩,a⟩:=a
 obtain ⟨⟨j,_,hj⟩,b⟩:=b
 have h1:=a r' (List.mem_of_getElem? hj)
 have h2:=b r (List.mem_of_getElem? hi)
 rw [<-Bool.not_eq_true,ltP_iff] at h1 h2
 exact Prod.ext (by omega) (by omega)
theorem ZhP {K:PySem.W.Frag} {H:Hp} {a e:Addr} {ys:List V} {pp:List (Int×Int)} {Q:VK} (ha:H a=some (.lst ys)) (pr:Prs H ys pp) (he:H e=some (.lst [])) (q:Q (.bl (!decide (pp=[]))) H):ZjY K true (.ref a) (.ref e) H Q:=by
 refine ⟨.list (pp.map prD),.list ((([]:List (Int×Int))).map prD),.lst (SqL.of ha) pr.dats,.lst (SqL.of he) .nil,Zdv _,Zdv _,?_⟩
 have e2:(true != PyData.eqv (.list (pp.map prD)) (.list (([]:List (Int×Int)).map prD)))=!decide (pp=[]):=by
  simp only [PyData.eqv]
  rw [Ze1]
  cases decide (pp=[]) <;> rfl
 rw [e2]
 exact q
def Zk1:Sp:=λvs H Q _=>∃ (wb l kl:Addr) (k p:Int) (xs:List V) (rs:List (Int×Int)) (ks:List Int),vs=[.ref wb,.ref kl,.int p]/\WebAt H wb l k xs rs/\Zah k rs/\H kl=some (.lst (ks.map V.int))/\ks.length<=200/\(∀ x∈ks,0<=x/\x<(rs.length:Int)) /\
 ∀ (r:Addr) (tl:List Int) (rest:List (Int×Int)) (H':Hp),Same H H'->H r=none->H' r=some (.lst ((p::tl).map V.int))->Wk (ks.map (road rs)) p tl rest->Q (.ref r) H'
theorem scLwa:Zav ["web", "roads", "place", "left", "row", "near", "k"] ["web", "roads", "place"] (Zaf Zht):=⟨rfl,rfl,rfl,by decide +kernel,rfl,by decide +kernel,by decide +kernel⟩
theorem ZjC {f:Addr} {fd:FuncData} (F:Fun K "_law_walk" "_law_walk" Zht f fd) (mLst:mg "list" = none) (mMin:mg "min" = none):ZaO P w K mg base CX0 1 f fd ["web", "roads", "place"] Zk1:=by
 refine F.ok scLwa (λvs H Q E h=>?_) (λcdv A outer s H vs Q E hr h=>?_)
 ·obtain ⟨_,_,_,_,_,_,_,_,rfl,_⟩:=h
  rfl
 ·obtain ⟨wb,l,kl,k,p,xs,rs,ks,rfl,W,g,hk,hkl,hv,q⟩:=h
  have h16:(16777216:Nat)=sizeLine:=sizeLine_eq.symm
  have n1:1<=sizeLine:=by omega
  have hu:(A.deeper (PyProof.Rows.envOfC "_law_walk" (Zaf Zht) s.heap.objs.size f cdv)).units+64<cLine:=by have:=hr.un;omega
  have hu1:(A.deeper (PyProof.Rows.envOfC "_law_walk" (Zaf Zht) s.heap.objs.size f cdv)).units+1<cLine:=by have:=hr.un;omega
  have hu5:(A.deeper (PyProof.Rows.envOfC "_law_walk" (Zaf Zht) s.heap.objs.size f cdv)).units+65<cLine:=by have:=hr.un;omega
  refine ⟨_,Zag (Zax (i:=3) scLwa.nd rfl (Or.inl rfl) (Za4 (ZgZ K) rfl mLst ZbH (Zaa (pv 1) Zac)))
    (Zag (Zax (i:=4) scLwa.nd rfl (Or.inl rfl) (ZaB (Zaa (pv 2) Zac)))
    (Zag (Zax (i:=5) scLwa.nd rfl (Or.inl rfl) (ZaB (Zaa Zad Zac)))
    (Zag (ZdJ PassesOwn.never (Zay (ZmQ K hu) (pv 5) (ZaB Zac) (ZaF _))
    (Zag (Zax (i:=5) scLwa.nd rfl (Or.inl rfl) (ZaB Zac))
    (Zag (Zbf PassesOwn.never rfl (ZcF K (pv 3)) (Zar (i:=6) scLwa.nd rfl (Or.inl rfl))
    (Zai (ZaX (Zay (kIn K) (Zaw (Zbz K) (pv 4) (ZeW Zb9 Zad) (λ_ _=>rfl)) (Zaw (Zbz K) (Zaw (Zck K) (pv 0) Zad (λ_ _=>rfl)) (pv 6) (λ_ _=>rfl)) (by with_unfolding_all rfl)) (Zai (Za2 (ZcT PySem.F.plainAttrs_list PySem.F.slot_list_append PySem.F.type_list_append Za5 (pv 5) (Zaa (ZaR (Zaa (Zas ZbC (Zas ZaL (Zaw (Zck K) (Zaw (Zbz K) (Zaw (Zck K) (pv 0) Zad (λ_ _=>rfl)) (pv 6) (λ_ _=>rfl)) Zad (λ_ _=>rfl)) (Zaw (Zck K) (Zaw (Zbz K) (Zaw (Zck K) (pv 0) Zad (λ_ _=>rfl)) (pv 6) (λ_ _=>rfl)) Zad (λ_ _=>rfl))) (Zaw (Zbz K) (pv 4) (ZeW Zb9 Zad) (λ_ _=>rfl))) (Zaa (pv 6) Zac))) Zac)))) ZaC)))
    (Zai (ZaX (Zay (ZmQ K hu) (pv 5) (ZaB Zac) (ZaF _)) (Zag (Za2 (ZcT PySem.F.plainAttrs_list PySem.F.slot_list_remove PySem.F.type_list_remove (ZlN K hu5) (pv 3) (Zaa (Zaw (Zck K) (Zat (ZlP K rfl hu1) rfl mMin Zcn (Zaa (pv 5) Zac)) Zad (λ_ _=>rfl)) Zac)))
    (Zai (Za2 (ZcT PySem.F.plainAttrs_list PySem.F.slot_list_append PySem.F.type_list_append Za5 (pv 4) (Zaa (Zaw (Zck K) (Zat (ZlP K rfl hu1) rfl mMin Zcn (Zaa (pv 5) Zac)) Zad (λ_ _=>rfl)) Zac))))) ZaC)))))
    (Zai (Zau (pv 4)))))),?_⟩
  refine ⟨_,rfl,kl,_,rfl,.inl (SqL.of hk),λla hla=>?_⟩
  have s1:Same H (upd H la (.lst (ks.map V.int))):=Same.new hla
  have ela:upd H la (.lst (ks.map V.int)) la=some (.lst (ks.map V.int)):=Zab
  generalize upd H la (.lst (ks.map V.int))=H1 at s1 ela ⊢
  refine ⟨_,rfl,n1,λro hro=>?_⟩
  have s2:Same H1 (upd H1 ro (.lst [.int p])):=Same.new hro
  have ero:upd H1 ro (.lst [.int p]) ro=some (.lst ([p].map V.int)):=Zab
  have hne:la≠ro:=Zae ela hro
  have hHro:H ro=none:=s1.free hro
  generalize upd H1 ro (.lst [.int p])=H2 at s2 ero ⊢
  have ela2:=s2 _ _ ela
  refine ⟨n1,λna hna=>?_⟩
  have s3:Same H2 (upd H2 na (.lst [.int 0])):=Same.new hna
  have ena:upd H2 na (.lst [.int 0]) na=some (.lst ([(0:Int)].map V.int)):=Zab
  generalize upd H2 na (.lst [.int 0])=H3 at s3 ena ⊢
  refine ⟨λm σ' H'=>∃ (na:Addr) (lk front:List Int) (c:Int) (pre:List Int) (v6:Option V),σ'=[some (.ref wb),some (.ref kl),some (.int p),some (.ref la),some (.ref ro),some (.ref na),v6]/\Same H H'/\H' la=some (.lst (lk.map V.int))/\H' ro=some (.lst ((front++[c]).map V.int))/\front++[c]=p::pre/\(∀ x∈lk,0<=x/\x<(rs.length:Int))/\pre.length+lk.length<=200 /\
   (∀ tl rest,Wk (lk.map (road rs)) c tl rest->Wk (ks.map (road rs)) p (pre++tl) rest) /\
   ((H' na=some (.lst [.int 0])/\m=lk.length+1)\/(∃ ys pp,H' na=some (.lst ys)/\Prs H' ys pp/\pp≠[]/\m=lk.length+1)\/(H' na=some (.lst [])/\(∀ y,¬ Adj (lk.map (road rs)) c y)/\m=0)),
   ⟨_,na,ks,[],p,[],none,rfl,(s1.trans s2).trans s3,s3 _ _ ela2,s3 _ _ ero,rfl,hv,by rw [List.length_nil];omega,λtl rest h=>h,.inl ⟨ena,rfl⟩⟩,?_⟩
  clear s3 ena hna ela2 s2 ero ela s1
  rintro m σ' H' ⟨na,lk,front,c,pre,v6,rfl,s4,ela,ero,efp,hlk,hlen,cont,hn⟩
  have hlast:atI ((front++[c]).map V.int) (-1)=some (.int c):=by
   rw [Zde (by simp)]
   congr 2
   rw [List.length_append,List.length_singleton,Nat.add_sub_cancel,List.getD_eq_getElem?_getD,List.getElem?_append_right (Nat.le_refl _),Nat.sub_self]
   rfl
  have hfl:(front++[c]).length<=201:=by rw [efp,List.length_cons];omega
  refine ⟨_,rfl,Nat.zero_le _,λe0 he0=>?_⟩
  have s5:Same H' (upd H' e0 (.lst [])):=Same.new he0
  have ee0:upd H' e0 (.lst []) e0=some (.lst []):=Zab
  generalize upd H' e0 (.lst [])=H5 at s5 ee0 ⊢
  have key:∀ Q':VK,(m=lk.length+1->Q' (.bl true) H5)->((∀ y,¬ Adj (lk.map (road rs)) c y)->Q' (.bl false) H5)->ZjY K true (.ref na) (.ref e0) H5 Q':=λQ' q1 q2=>by
   rcases hn with ⟨hz,hm⟩ | ⟨ys,pp,hz,pr,hpp,hm⟩ | ⟨hz,no,hm⟩
   ·refine ⟨.list ([(0:Int)].map PyData.int),.list (([]:List Int).map PyData.int),.lst (SqL.of (s5 _ _ hz)) (Zcl [0]),.lst (SqL.of ee0) .nil,Zbr _,Zbr _,?_⟩
    rw [ZfI]
    exact q1 hm
   ·refine ZhP (s5 _ _ hz) (pr.same s5) ee0 ?_
    rw [decide_eq_false hpp]
    exact q1 hm
   ·refine ZhP (pp:=[]) (s5 _ _ hz) .nil ee0 ?_
    exact q2 no
  refine key _ (λhm=>?_) (λno=>?_)
  ·refine ⟨_,rfl,Zcg ?_⟩
   refine ⟨_,λ_ _ h=>h,?_⟩
   clear key hn
   have S5:=s4.trans s5
   refine ⟨Nat.zero_le _,λnb hnb=>?_⟩
   have s6:Same H5 (upd H5 nb (.lst [])):=Same.new hnb
   have enb:upd H5 nb (.lst []) nb=some (.lst []):=Zab
   have nbl:la≠nb:=Zae (s5 _ _ ela) hnb
   have nbr:ro≠nb:=Zae (s5 _ _ ero) hnb
   have hHnb:H nb=none:=S5.free hnb
   generalize upd H5 nb (.lst [])=H6 at s6 enb ⊢
   have S6:=S5.trans s6
   have s46:=s5.trans s6
   refine ⟨_,rfl,la,rfl,⟨_,SqL.of (s46 _ _ ela)⟩,?_⟩
   refine ZbP (K:=K) (a:=la) (xs:=lk.map V.int) (λi σ' H7=>∃ (v6:Option V) (ys:List V),σ'=[some (.ref wb),some (.ref kl),some (.int p),some (.ref la),some (.ref ro),some (.ref nb),v6]/\Same H H7/\H7 la=some (.lst (lk.map V.int))/\H7 ro=some (.lst ((front++[c]).map V.int))/\H7 nb=some (.lst ys)/\Prs H7 ys (Zdo rs (lk.take i) c)) ⟨v6,[],rfl,S6,s46 _ _ ela,s46 _ _ ero,enb,.nil⟩ (λi σ' H7 _ ⟨_,_,_,_,e7,_⟩=>SqL.of e7) ?_ ?_
   ·rintro i x σ' H7 hxi ⟨v6,ys,rfl,s7,ela7,ero7,enb7,pr⟩
    rw [List.getElem?_map] at hxi
    cases hz:lk[i]? with
    | none=>rw [hz] at hxi;cases hxi
    | some z=>
     rw [hz] at hxi
     cases hxi
     have hi:i<lk.length:=(List.getElem?_eq_some_iff.mp hz).1
     have W7:=W.same s7
     obtain ⟨t,et,eh⟩:=Zfq W7 (hlk z (List.mem_of_getElem? hz))
     have sc:=Zgu (rs:=rs) (c:=c) hz
     have ln:=ZhN rs (lk.take i) c
     rw [List.length_take] at ln
     have lp:=pr.len
     refine ⟨_,rfl,_,rfl,ro,_,_,_,rfl,rfl,SqL.of ero7,hlast,_,rfl,wb,_,_,_,rfl,rfl,SqT.of W7.w,Zal (j:=1) rfl,_,rfl,l,_,_,_,rfl,rfl,SqL.of W7.l,et,t,_,rfl,.inr (SqT.of eh),rfl,rfl,_,rfl,?_⟩
     show if (inV (.int c) [.int (road rs z).1,.int (road rs z).2])=true then _ else _
     rw [ZnE]
     refine ZcQ (λy=>?_) (λy=>?_)
     ·refine ⟨_,rfl,.inl ⟨rfl,_,SqL.of enb7⟩,_,rfl,wb,_,_,_,rfl,rfl,SqT.of W7.w,Zal (j:=1) rfl,_,rfl,l,_,_,_,rfl,rfl,SqL.of W7.l,et,t,_,_,_,rfl,rfl,SqT.of eh,Zal (j:=0) rfl,?_⟩
      refine ⟨_,rfl,wb,_,_,_,rfl,rfl,SqT.of W7.w,Zal (j:=1) rfl,_,rfl,l,_,_,_,rfl,rfl,SqL.of W7.l,et,t,_,_,_,rfl,rfl,SqT.of eh,Zal (j:=1) rfl,_,_,rfl,rfl,?_⟩
      refine ⟨_,rfl,_,rfl,ro,_,_,_,rfl,rfl,SqL.of ero7,hlast,_,_,rfl,rfl,_,rfl,ZaP,λu hu0=>?_⟩
      have s8:Same H7 (upd H7 u (.tup [.int ((road rs z).1+(road rs z).2-c),.int z])):=Same.new hu0
      have eu:upd H7 u (.tup [.int ((road rs z).1+(road rs z).2-c),.int z]) u=some (.tup [.int ((road rs z).1+(road rs z).2-c),.int z]):=Zab
      have enb8:=s8 _ _ enb7
      refine ⟨nb,_,_,rfl,rfl,enb8,by omega,?_⟩
      have k9:=Zbq (o:=.lst (ys++[.ref u])) enb8
      refine ⟨_,_,rfl,(s7.trans s8).put hHnb,Zak (s8 _ _ ela7) nbl,Zak (s8 _ _ ero7) nbr,Zab,?_⟩
      rw [sc,if_pos y]
      exact Prs.keep (Prs.snoc (a:=(road rs z).1+(road rs z).2-c) (b:=z) (pr.same s8) eu) k9
     ·refine ⟨_,_,rfl,s7,ela7,ero7,enb7,?_⟩
      rw [sc,if_neg y,List.append_nil]
      exact pr
   ·rintro σ' H7 ⟨v6,ys,rfl,s7,ela7,ero7,enb7,pr⟩
    rw [List.length_map,List.take_length] at pr
    refine ⟨_,rfl,Nat.zero_le _,λe1 he1=>?_⟩
    have s8:Same H7 (upd H7 e1 (.lst [])):=Same.new he1
    have ee1:upd H7 e1 (.lst []) e1=some (.lst []):=Zab
    generalize upd H7 e1 (.lst [])=H8 at s8 ee1 ⊢
    have S8:=s7.trans s8
    have pr8:=pr.same s8
    refine ZhP (s8 _ _ enb7) pr8 ee1 ⟨_,rfl,?_⟩
    by_cases hpp:Zdo rs lk c=[]
    ·rw [decide_eq_true hpp]
     refine Zb0 ?_
     rw [hpp] at pr8
     have hys:ys=[]:=by
      have:=pr8.len
      exact List.length_eq_zero_iff.mp (by simpa using this)
     refine ⟨0,by omega,nb,lk,front,c,pre,_,rfl,S8,s8 _ _ ela7,s8 _ _ ero7,efp,hlk,hlen,cont,.inr (.inr ⟨by rw [s8 _ _ enb7,hys],λy a=>?_,rfl⟩)⟩
     obtain ⟨x,hx⟩:=near_adj.mp a
     rw [hpp] at hx
     cases hx
    ·rw [decide_eq_false hpp]
     refine Zcg ?_
     have enb8:=s8 _ _ enb7
     refine ⟨_,rfl,.inl ⟨rfl,_,SqL.of (s8 _ _ ela7)⟩,_,rfl,nb,ys,_,rfl,SqL.of enb8,pr8,hpp,λt r lp=>?_⟩
     have lp0:=lp
     obtain ⟨⟨i,ex,er⟩,lst⟩:=lp
     obtain ⟨t',r',et',eh,er'⟩:=pr8.get ex
     cases et'
     rw [er] at er'
     cases er'
     obtain ⟨y,x⟩:=r
     have hm0:=List.mem_of_getElem? er
     obtain ⟨hxl,hrd⟩:=mem_near.mp hm0
     have vx:=hlk x hxl
     refine ⟨t,_,_,_,rfl,rfl,SqT.of eh,Zal (j:=1) rfl,?_⟩
     dsimp only [Zm5]
     refine Zpb (s8 _ _ ela7) hxl ?_
     have ela8:=s8 _ _ ela7
     have k9:=Zbq (o:=.lst ((lk.erase x).map V.int)) ela8
     have s9:Same H (upd H8 la (.lst ((lk.erase x).map V.int))):=S8.put hla
     have ela9:upd H8 la (.lst ((lk.erase x).map V.int)) la=some (.lst ((lk.erase x).map V.int)):=Zab
     have ero9:upd H8 la (.lst ((lk.erase x).map V.int)) ro=some (.lst ((front++[c]).map V.int)):=Zak (s8 _ _ ero7) (Ne.symm hne)
     have enb9:upd H8 la (.lst ((lk.erase x).map V.int)) nb=some (.lst ys):=Zak enb8 (Ne.symm nbl)
     have pr9:=pr8.keep k9
     generalize upd H8 la (.lst ((lk.erase x).map V.int))=H9 at k9 s9 ela9 ero9 enb9 pr9 ⊢
     refine ⟨_,rfl,.inl ⟨rfl,_,SqL.of ero9⟩,_,rfl,nb,ys,_,rfl,SqL.of enb9,pr9,hpp,λt2 r2 lp2=>?_⟩
     have e2:=ZhO lp0 lp2
     subst e2
     obtain ⟨⟨i2,ex2,er2⟩,_⟩:=lp2
     obtain ⟨t3,r3,et3,eh3,er3⟩:=pr9.get ex2
     cases et3
     rw [er2] at er3
     cases er3
     refine ⟨t2,_,_,_,rfl,rfl,SqT.of eh3,Zal (j:=0) rfl,ro,_,_,rfl,rfl,ero9,by rw [List.length_map];omega,?_⟩
     have k10:=Zbq (o:=.lst ((front++[c]).map V.int++[.int y])) ero9
     have adj:Adj (lk.map (road rs)) c y:=near_adj.mpr ⟨x,hm0⟩
     have hlt:∀ r∈lk.map (road rs),r.1<r.2:=λr hr=>by
      obtain ⟨z,hz,rfl⟩:=List.mem_map.mp hr
      exact (g.2.2.2.1 _ (Zcw (hlk z hz))).2.1
     have least:∀ y',Adj (lk.map (road rs)) c y'->y<=y':=λy' a=>by
      obtain ⟨x',hx'⟩:=near_adj.mp a
      have:=lst _ hx'
      rw [<-Bool.not_eq_true,ltP_iff] at this
      dsimp only at this
      omega
     have erd:road rs x=ZaW c y:=by
      have:=(g.2.2.2.1 _ (Zcw vx)).2.1
      unfold ZaW
      rcases hrd with e | e
      ·rw [e] at this ⊢
       dsimp only at this
       rw [if_neg (by omega),if_pos (by omega)]
      ·rw [e] at this ⊢
       dsimp only at this
       rw [if_pos (by omega),if_neg (by omega)]
     have eer:(lk.map (road rs)).erase (ZaW c y)=(lk.erase x).map (road rs):=by
      rw [<-erd]
      exact ZdG g hlk vx
     have hll:(lk.erase x).length+1=lk.length:=by
      rw [List.length_erase_of_mem hxl]
      have:=List.length_pos_of_mem hxl
      omega
     refine ⟨(lk.erase x).length+1,by omega,nb,lk.erase x,front++[c],y,pre++[y],_,rfl,s9.put hHro,Zak ela9 hne,by rw [Zab,List.map_append (l₁:=front++[c])];rfl,by rw [efp];rfl,λz hz=>hlk z (List.mem_of_mem_erase hz),by rw [List.length_append,List.length_singleton];omega,λtl rest h=>?_,.inr (.inl ⟨ys,_,Zak enb9 (Ne.symm nbr),pr9.keep k10,hpp,rfl⟩)⟩
     have:=cont (y::tl) rest (.go adj least (by rw [eer];exact h))
     rw [List.append_assoc]
     exact this
  ·refine ⟨_,rfl,Zb0 ?_⟩
   have wk:=cont [] _ (.stop no)
   rw [List.append_nil] at wk
   rw [efp] at ero
   exact ⟨_,rfl,q ro pre _ H5 (s4.trans s5) hHro (s5 _ _ ero) wk⟩
end
end M
namespace M
open PySem L2
section
variable {P:Program} {w:World} {K:PySem.W.Frag} {mg:Str->Option Value} {base:Heap}
def Zmm:Sp:=λvs H Q _=>∃ (wb l kl:Addr) (k p q:Int) (xs:List V) (rs:List (Int×Int)) (ks:List Int),vs=[.ref wb,.int p,.int q,.ref kl]/\WebAt H wb l k xs rs/\Zah k rs/\H kl=some (.lst (ks.map V.int))/\ks.length<=200 /\
 (¬ (Zbx rs ks/\Zk9 rs ks k p q)->∀ H',Same H H'->Q .non H')/\(Zbx rs ks->Zk9 rs ks k p q->∀ (tl:List Int) (rest:List (Int×Int)),Wk (ks.map (road rs)) p tl rest->(tl.length=ks.length->∀ (r:Addr) (H':Hp),Same H H'->H r=none->H' r=some (.lst ((p::tl).map V.int))->Q (.ref r) H')/\(tl.length≠ks.length->∀ H',Same H H'->Q .non H'))
theorem scOpe:Zav ["web", "one", "other", "roads", "place", "many", "row"] ["web", "one", "other", "roads"] (Zaf ZkA):=⟨rfl,rfl,rfl,by decide +kernel,rfl,by decide +kernel,by decide +kernel⟩
theorem ZnJ (x:Int):inV (.int x) [.int 1]=decide (x∈[(1:Int)]):=Zd4 x [1]
theorem ZjD (x:Int):inV (.int x) [.int 0,.int 2]=decide (x∈[(0:Int),2]):=Zd4 x [0,2]
theorem ZhQ (p:Int) (tl ks:List Int):decide (V.int (((p::tl).map V.int).length:Int)=V.int (((ks.map V.int).length:Int)+1))=decide (tl.length=ks.length):=by
 rw [List.length_map,List.length_map,List.length_cons]
 by_cases h:tl.length=ks.length
 ·rw [decide_eq_true h,decide_eq_true (congrArg V.int (by omega))]
 ·rw [decide_eq_false h,decide_eq_false (λz=>h (by have:=V.int.inj z;omega))]
theorem Zmn {f fI fA fK:Addr} {fd fdI fdA fdK:FuncData} (F:Fun K "_law_open" "_law_open" ZkA f fd) (FI:Fun K "_law_is_set" "_law_is_set" Zjp fI fdI) (bI:Binds K fdI ["web", "roads"] []) (mI:mg "_law_is_set" = some (.ref fI)) (FA:Fun K "_law_at" "_law_at" Zjq fA fdA) (bA:Binds K fdA ["web", "roads", "place"] []) (mA:mg "_law_at" = some (.ref fA))
  (FK:Fun K "_law_walk" "_law_walk" Zht fK fdK) (bK:Binds K fdK ["web", "roads", "place"] []) (mK:mg "_law_walk" = some (.ref fK)) (mRange:mg "range" = none) (mLen:mg "len" = none) (mInt:mg "int" = none) (mLst:mg "list" = none) (mMin:mg "min" = none):ZaO P w K mg base CX0 2 f fd ["web", "one", "other", "roads"] Zmm:=by
 have GI:ZaO P w K mg base CX0 1 fI fdI ["web", "roads"] ZkZ:=ZjA FI mRange mLen
 have GA:ZaO P w K mg base CX0 1 fA fdA ["web", "roads", "place"] Zk0:=ZjB FA mLen
 have GK:ZaO P w K mg base CX0 1 fK fdK ["web", "roads", "place"] Zk1:=ZjC FK mLst mMin
 refine F.ok scOpe (λvs H Q E h=>?_) (λcdv A outer s H vs Q E hr h=>?_)
 ·obtain ⟨_,_,_,_,_,_,_,_,_,rfl,_⟩:=h
  rfl
 ·obtain ⟨wb,l,kl,k,p,q',xs,rs,ks,rfl,W,g,hk,hkl,hno,hyes⟩:=h
  have h16:(16777216:Nat)=sizeLine:=sizeLine_eq.symm
  have n1:1<=sizeLine:=by omega
  have hx:xs.length<=30:=by rw [W.p.len];exact g.2.2.1
  refine ⟨_,Zag (ZaX (Zbw (Za3 (Zan GI (hr.mono (by decide)) rfl mI FI.kp bI .nil ZaQ (Zaa (pv 0) (Zaa (pv 3) Zac))))) (Zai (Zau ZbA)) ZaC)
    (Zag (Zbf PassesOwn.never rfl (Za9 rfl mRange (Zaa (Zaw (Zck K) (pv 0) Zad (λ_ _=>rfl)) Zac)) (Zar (i:=4) scOpe.nd rfl (Or.inl rfl))
    (Zag (Zax (i:=5) scOpe.nd rfl (Or.inl rfl) (Zan GA (hr.mono (by decide)) rfl mA FA.kp bA .nil ZaQ (Zaa (pv 0) (Zaa (pv 3) (Zaa (pv 4) Zac)))))
    (Zai (ZaX (Zay (ZgY K) (pv 5) (Zaw (Zbz K) (ZaB (Zaa (ZaB (Zaa Zad (Zaa Zad Zac))) (Zaa (ZaB (Zaa Zad Zac)) Zac))) (Za4 ZbD rfl mInt Zcj (Zaa (ZmV (Zb8 ZdK (pv 4) (pv 1) (ZaF _)) (Zlg (Zb8 ZdK (pv 4) (pv 2) (ZaF _)))) Zac)) (λ_ _=>rfl)) (by with_unfolding_all rfl)) (Zai (Zau ZbA)) ZaC))))
    (Zag (Zax (i:=6) scOpe.nd rfl (Or.inl rfl) (Zan GK (hr.mono (by decide)) rfl mK FK.kp bK .nil ZaQ (Zaa (pv 0) (Zaa (pv 3) (Zaa (pv 1) Zac)))))
    (Zai (Zau (Zaw (Zbz K) (ZaB (Zaa ZbA (Zaa (pv 6) Zac))) (Za4 ZbD rfl mInt Zcj (Zaa (Zb8 ZdK (Zat (Zgd K) rfl mLen PySem.boot_len (Zaa (pv 6) Zac)) (Zas ZaL (Zat (Zgd K) rfl mLen PySem.boot_len (Zaa (pv 3) Zac)) Zad) (ZaF _)) Zac)) (λ_ _=>rfl)))))),?_⟩
  refine ⟨_,rfl,_,rfl,wb,l,kl,k,xs,rs,ks,rfl,W,hx,hk,hkl,λb hb=>⟨_,rfl,?_⟩⟩
  cases b with
  | false=>exact Zcg (hno (λz=>absurd (hb.mpr z.1) Bool.false_ne_true) H (Same.refl _))
  | true=>
  refine Zb0 ?_
  have S:=hb.mp rfl
  dsimp only [ZgA]
  obtain ⟨kn,hkn⟩:=Int.eq_ofNat_of_zero_le (show 0<=k by have:=g.1;omega)
  have hk16:=g.2.1
  refine ⟨_,rfl,wb,_,_,_,rfl,rfl,SqT.of W.w,Zal (j:=0) rfl,_,rfl,by omega,by omega,?_⟩
  rw [hkn,Int.toNat_natCast]
  refine Zbj (lo:=0) (n:=kn) (λi σ' H'=>∃ v4 v5:Option V,σ'=[some (.ref wb),some (.int p),some (.int q'),some (.ref kl),v4,v5,none]/\Same H H'/\∀ j:Nat,j<i->if (j:Int)=p\/(j:Int)=q' then degK rs ks (j:Int)=1 else degK rs ks (j:Int)=0\/degK rs ks (j:Int)=2) ⟨none,none,rfl,Same.refl _,λj hj=>absurd hj (Nat.not_lt_zero j)⟩ ?_ ?_
  ·rintro i σ' H1 hi ⟨v4,v5,rfl,s1,up⟩
   rw [Int.zero_add]
   have bad:¬ (if (i:Int)=p\/(i:Int)=q' then degK rs ks (i:Int)=1 else degK rs ks (i:Int)=0\/degK rs ks (i:Int)=2)->∀ H',Same H H'->Q .non H':=λz H' s'=>hno (λy=>z (y.2 (i:Int) (by omega) (by omega))) H' s'
   have good:(if (i:Int)=p\/(i:Int)=q' then degK rs ks (i:Int)=1 else degK rs ks (i:Int)=0\/degK rs ks (i:Int)=2)->∀ j:Nat,j<i+1->if (j:Int)=p\/(j:Int)=q' then degK rs ks (j:Int)=1 else degK rs ks (j:Int)=0\/degK rs ks (j:Int)=2:=λz j hj=>by
    by_cases e:j=i
    ·subst e;exact z
    ·exact up j (by omega)
   refine ⟨_,rfl,_,rfl,_,rfl,wb,l,kl,k,(i:Int),xs,rs,ks,rfl,W.same s1,s1 _ _ hk,hkl,S.2,λH2 s2=>?_⟩
   have S2:=s1.trans s2
   refine ⟨_,rfl,ZaP,λa1 h1=>?_⟩
   have s3:Same H2 (upd H2 a1 (.lst [.int 0,.int 2])):=Same.new h1
   have e1:upd H2 a1 (.lst [.int 0,.int 2]) a1=some (.lst [.int 0,.int 2]):=Zab
   generalize upd H2 a1 (.lst [.int 0,.int 2])=H3 at s3 e1 ⊢
   refine ⟨n1,λa2 h2=>?_⟩
   have s4:Same H3 (upd H3 a2 (.lst [.int 1])):=Same.new h2
   have e2:upd H3 a2 (.lst [.int 1]) a2=some (.lst [.int 1]):=Zab
   generalize upd H3 a2 (.lst [.int 1])=H4 at s4 e2 ⊢
   refine ⟨ZaP,λa3 h3=>?_⟩
   have s5:Same H4 (upd H4 a3 (.lst [.ref a1,.ref a2])):=Same.new h3
   have e3:upd H4 a3 (.lst [.ref a1,.ref a2]) a3=some (.lst [.ref a1,.ref a2]):=Zab
   generalize upd H4 a3 (.lst [.ref a1,.ref a2])=H5 at s5 e3 ⊢
   have S5:=S2.trans ((s3.trans s4).trans s5)
   have e15:=s5 _ _ (s4 _ _ e1)
   have e25:=s5 _ _ e2
   have two:(((i:Int)=p\/(i:Int)=q'))->(if (!inV (.int (degK rs ks (i:Int):Nat)) [.int 1])=true then Q .non H5 else ∃ v4 v5:Option V,([some (.ref wb),some (.int p),some (.int q'),some (.ref kl),some (.int (i:Int)),some (.int (degK rs ks (i:Int):Nat)),none]:St)=[some (.ref wb),some (.int p),some (.int q'),some (.ref kl),v4,v5,none]/\Same H H5/\∀ j:Nat,j<i+1->if (j:Int)=p\/(j:Int)=q' then degK rs ks (j:Int)=1 else degK rs ks (j:Int)=0\/degK rs ks (j:Int)=2):=λz=>by
    rw [ZnJ]
    refine ZcQ (λy=>bad (λu=>?_) H5 S5) (λy=>⟨_,_,rfl,S5,good ?_⟩)
    ·rw [if_pos z] at u
     rw [u] at y
     exact absurd y (by decide)
    ·rw [if_pos z]
     have:((degK rs ks (i:Int):Nat):Int)∈[(1:Int)]:=by
      by_cases d:((degK rs ks (i:Int):Nat):Int)∈[(1:Int)]
      ·exact d
      ·rw [decide_eq_false d] at y
       exact absurd rfl y
     rw [List.mem_singleton] at this
     omega
   refine ⟨_,rfl,_,rfl,rfl,_,rfl,ZcQ (λc1=>?_) (λc1=>?_)⟩
   ·have c1:(i:Int)=p:=V.int.inj (of_decide_eq_true c1)
    exact .inr ⟨true,rfl,a3,_,_,_,rfl,rfl,SqL.of e3,Zal (j:=1) rfl,a2,_,rfl,.inl (SqL.of e25),rfl,rfl,_,rfl,two (.inl c1)⟩
   have c1:¬ (i:Int)=p:=λz=>c1 (decide_eq_true (congrArg V.int z))
   refine ⟨_,rfl,_,rfl,rfl,?_⟩
   by_cases c2:(i:Int)=q'
   ·rw [decide_eq_true (congrArg V.int c2)]
    exact .inr ⟨true,rfl,a3,_,_,_,rfl,rfl,SqL.of e3,Zal (j:=1) rfl,a2,_,rfl,.inl (SqL.of e25),rfl,rfl,_,rfl,two (.inr c2)⟩
   ·rw [decide_eq_false (λz=>c2 (V.int.inj z))]
    refine .inr ⟨false,rfl,a3,_,_,_,rfl,rfl,SqL.of e3,Zal (j:=0) rfl,a1,_,rfl,.inl (SqL.of e15),rfl,rfl,_,rfl,?_⟩
    show if (!inV (.int (degK rs ks (i:Int):Nat)) [.int 0,.int 2])=true then _ else _
    rw [ZjD]
    have z:¬ ((i:Int)=p\/(i:Int)=q'):=λy=>y.elim c1 c2
    refine ZcQ (λy=>bad (λu=>?_) H5 S5) (λy=>⟨_,_,rfl,S5,good ?_⟩)
    ·rw [if_neg z] at u
     rcases u with u | u
     ·rw [u] at y;exact absurd y (by decide)
     ·rw [u] at y;exact absurd y (by decide)
    ·rw [if_neg z]
     have:((degK rs ks (i:Int):Nat):Int)∈[(0:Int),2]:=by
      by_cases d:((degK rs ks (i:Int):Nat):Int)∈[(0:Int),2]
      ·exact d
      ·rw [decide_eq_false d] at y
       exact absurd rfl y
     rcases List.mem_cons.mp this with u | u
     ·left;omega
     ·rw [List.mem_singleton] at u
      right;omega
  ·rintro σ' H1 ⟨v4,v5,rfl,s1,up⟩
   have D:Zk9 rs ks k p q':=λx x0 x1=>by
    have:=up x.toNat (by omega)
    rw [Int.toNat_of_nonneg x0] at this
    exact this
   refine ⟨_,rfl,_,rfl,_,rfl,wb,l,kl,k,p,xs,rs,ks,rfl,W.same s1,g,s1 _ _ hk,hkl,S.2,λr tl rest H2 s2 hr0 er wk=>?_⟩
   obtain ⟨y1,y2⟩:=hyes S D tl rest wk
   refine ⟨_,rfl,ZaP,λa1 h1=>?_⟩
   have s3:Same H2 (upd H2 a1 (.lst [.non,.ref r])):=Same.new h1
   have e1:upd H2 a1 (.lst [.non,.ref r]) a1=some (.lst [.non,.ref r]):=Zab
   generalize upd H2 a1 (.lst [.non,.ref r])=H3 at s3 e1 ⊢
   have S3:=(s1.trans s2).trans s3
   refine ⟨_,rfl,r,_,rfl,.inl (SqL.of (s3 _ _ er)),_,rfl,kl,_,rfl,.inl (SqL.of (S3 _ _ hk)),_,_,rfl,rfl,rfl,?_⟩
   show (∃ i,[V.bl (decide (V.int (((p::tl).map V.int).length:Int)=V.int (((ks.map V.int).length:Int)+1)))]=[V.int i]/\_)\/∃ c,[V.bl (decide (V.int (((p::tl).map V.int).length:Int)=V.int (((ks.map V.int).length:Int)+1)))]=[V.bl c]/\_
   rw [ZhQ]
   by_cases e:tl.length=ks.length
   ·rw [decide_eq_true e]
    exact .inr ⟨true,rfl,a1,_,_,_,rfl,rfl,SqL.of e1,Zal (j:=1) rfl,y1 e r H3 S3 (s1.free hr0) (s3 _ _ er)⟩
   ·rw [decide_eq_false e]
    exact .inr ⟨false,rfl,a1,_,_,_,rfl,rfl,SqL.of e1,Zal (j:=0) rfl,y2 e H3 S3⟩
end
end M
namespace M
open PySem L2
section
variable {P:Program} {w:World} {K:PySem.W.Frag} {mg:Str->Option Value} {base:Heap}
def Zmo:Sp:=λvs H Q _=>∃ (wb l kl:Addr) (k:Int) (xs:List V) (rs:List (Int×Int)) (ks:List Int),vs=[.ref wb,.ref kl]/\WebAt H wb l k xs rs/\Zah k rs/\H kl=some (.lst (ks.map V.int))/\ks.length<=200 /\
 (¬ (Zbx rs ks/\3<=ks.length/\Zla rs ks k)->∀ H',Same H H'->Q .non H')/\(Zbx rs ks->3<=ks.length->Zla rs ks k->∀ (s:Int) (tl:List Int) (rest:List (Int×Int)),Begins (ks.map (road rs)) s->Wk (ks.map (road rs)) s tl rest->(tl.length=ks.length->∀ (r:Addr) (H':Hp),Same H H'->H r=none->H' r=some (.lst ((s::tl).dropLast.map V.int))->Q (.ref r) H')/\(tl.length≠ks.length->∀ H',Same H H'->Q .non H'))
theorem scRin:Zav ["web", "roads", "row"] ["web", "roads"] (Zaf Zjr):=⟨rfl,rfl,rfl,by decide +kernel,rfl,by decide +kernel,by decide +kernel⟩
theorem Zk2 {K:PySem.W.Frag} {H:Hp} {a e:Addr} {ns:List Int} {Q:VK} (ha:H a=some (.lst (ns.map V.int))) (he:H e=some (.lst [])) (q:Q (.bl (!decide (ns=[]))) H):ZjY K true (.ref a) (.ref e) H Q:=by
 refine ⟨.list (ns.map PyData.int),.list (([]:List Int).map PyData.int),.lst (SqL.of ha) (Zcl _),.lst (SqL.of he) .nil,Zbr _,Zbr _,?_⟩
 rw [ZfI]
 have:(true != decide (ns=[]))=!decide (ns=[]):=by cases decide (ns=[]) <;> rfl
 rw [this]
 exact q
theorem Zmp {f fI fA fK:Addr} {fd fdI fdA fdK:FuncData} (F:Fun K "_law_ring" "_law_ring" Zjr f fd) (FI:Fun K "_law_is_set" "_law_is_set" Zjp fI fdI) (bI:Binds K fdI ["web", "roads"] []) (mI:mg "_law_is_set" = some (.ref fI)) (FA:Fun K "_law_at" "_law_at" Zjq fA fdA) (bA:Binds K fdA ["web", "roads", "place"] []) (mA:mg "_law_at" = some (.ref fA))
  (FK:Fun K "_law_walk" "_law_walk" Zht fK fdK) (bK:Binds K fdK ["web", "roads", "place"] []) (mK:mg "_law_walk" = some (.ref fK)) (mRange:mg "range" = none) (mLen:mg "len" = none) (mInt:mg "int" = none) (mLst:mg "list" = none) (mMin:mg "min" = none):ZaO P w K mg base CX0 2 f fd ["web", "roads"] Zmo:=by
 have GI:ZaO P w K mg base CX0 1 fI fdI ["web", "roads"] ZkZ:=ZjA FI mRange mLen
 have GA:ZaO P w K mg base CX0 1 fA fdA ["web", "roads", "place"] Zk0:=ZjB FA mLen
 have GK:ZaO P w K mg base CX0 1 fK fdK ["web", "roads", "place"] Zk1:=ZjC FK mLst mMin
 refine F.ok scRin (λvs H Q E h=>?_) (λcdv A outer s H vs Q E hr h=>?_)
 ·obtain ⟨_,_,_,_,_,_,_,rfl,_⟩:=h
  rfl
 ·obtain ⟨wb,l,kl,k,xs,rs,ks,rfl,W,g,hk,hkl,hno,hyes⟩:=h
  have h16:(16777216:Nat)=sizeLine:=sizeLine_eq.symm
  have hu:(A.deeper (PyProof.Rows.envOfC "_law_ring" (Zaf Zjr) s.heap.objs.size f cdv)).units+64<cLine:=by have:=hr.un;omega
  have hx:xs.length<=30:=by rw [W.p.len];exact g.2.2.1
  refine ⟨_,Zag (ZaX (PW.pt (Zef (Zbw (Za3 (Zan GI (hr.mono (by decide)) rfl mI FI.kp bI .nil ZaQ (Zaa (pv 0) (Zaa (pv 1) Zac))))) (Zdp (Zay ZjL (Zat (Zgd K) rfl mLen PySem.boot_len (Zaa (pv 1) Zac)) Zad (ZaF _))))) (Zai (Zau ZbA)) ZaC)
    (Zag (ZaX (Zay (ZmQ K hu) (Zbi (own:=["place"]) rfl (Zaz (fr:=[("web", 0),("roads", 1)]) [(".0", .local),("place", .local),("_law_at", .globalImplicit),("roads", .cell),("web", .cell)] rfl rfl (by decide +kernel) rfl (by decide +kernel) ⟨rfl,rfl,trivial⟩ ⟨λh=>Za0 h,λh=>Za0 h,λh=>Za0 h,λ_=>⟨_,rfl⟩,λ_=>⟨_,rfl⟩,trivial⟩ ⟨⟨rfl,.inl rfl,.inl rfl⟩,⟨rfl,.inl rfl,.inl rfl⟩,trivial⟩) (Za9 rfl mRange (Zaa (Zaw (Zck K) (pv 0) Zad (λ_ _=>rfl)) Zac)) (λ_ _ _ _=>Zar (i:=0) (show List.Nodup (["place", "web", "roads"]:List Str) by decide +kernel) rfl (Or.inl rfl)) (λ_ _ _ _=>ZcY (Zay (ZgY K) (Zan GA (hr.mono (by decide)) rfl mA FA.kp bA .nil ZaQ (Zaa (pv 1) (Zaa (pv 2) (Zaa (pv 0) Zac)))) (ZaB (Zaa Zad (Zaa Zad Zac))) (by with_unfolding_all rfl))) (λ_ _ _ _=>pv 0)) (ZaB Zac) (ZaF _)) (Zai (Zau ZbA)) ZaC)
    (Zag (Zax (i:=2) scRin.nd rfl (Or.inl rfl) (Zan GK (hr.mono (by decide)) rfl mK FK.kp bK .nil ZaQ (Zaa (pv 0) (Zaa (pv 1) (Zaa (Zat (ZoU K rfl) rfl mMin Zcn (Zaa (Zbi (own:=["k"]) rfl (Zaz (fr:=[("web", 0)]) [(".0", .local),("k", .local),("min", .globalImplicit),("web", .cell)] rfl rfl (by decide +kernel) rfl (by decide +kernel) ⟨rfl,trivial⟩ ⟨λh=>Za0 h,λh=>Za0 h,λh=>Za0 h,λ_=>⟨_,rfl⟩,trivial⟩ ⟨⟨rfl,.inl rfl,.inl rfl⟩,trivial⟩) (ZcF K (pv 1)) (λ_ _ _ _=>Zar (i:=0) (show List.Nodup (["k", "web"]:List Str) by decide +kernel) rfl (Or.inl rfl)) (λ_ _ _ _=>Zbp) (λ_ _ _ _=>Zat (Znx K rfl) rfl mMin Zcn (Zaa (Zaw (Zbz K) (Zaw (Zck K) (pv 1) Zad (λ_ _=>rfl)) (pv 0) (λ_ _=>rfl)) Zac))) Zac)) Zac)))))
    (Zai (Zau (Zaw (Zbz K) (ZaB (Zaa ZbA (Zaa (ZcX (kSl K) (pv 2) ZdL (ZdM (ZeW Zb9 Zad))) Zac))) (Za4 ZbD rfl mInt Zcj (Zaa (Zb8 ZdK (Zat (Zgd K) rfl mLen PySem.boot_len (Zaa (pv 2) Zac)) (Zas ZaL (Zat (Zgd K) rfl mLen PySem.boot_len (Zaa (pv 1) Zac)) Zad) (ZaF _)) Zac)) (λ_ _=>rfl)))))),?_⟩
  refine ⟨_,rfl,_,rfl,wb,l,kl,k,xs,rs,ks,rfl,W,hx,hk,by omega,λb hb=>⟨_,rfl,?_⟩⟩
  cases b with
  | false=>exact Zcg (Zcg (hno (λz=>absurd (hb.mpr z.1) Bool.false_ne_true) H (Same.refl _)))
  | true=>
  refine Zb0 ?_
  have S:=hb.mp rfl
  refine ⟨_,rfl,kl,_,rfl,.inl (SqL.of hk),_,_,rfl,rfl,_,rfl,?_⟩
  rw [List.length_map]
  refine ZcQ (λc=>?_) (λc=>?_)
  ·have c:=of_decide_eq_true c
   exact hno (λz=>by have:=z.2.1;omega) H (Same.refl _)
  have h3:3<=ks.length:=by
   have:¬ ((ks.length:Nat):Int)<3:=λz=>c (decide_eq_true z)
   omega
  dsimp only [ZgA]
  obtain ⟨kn,hkn⟩:=Int.eq_ofNat_of_zero_le (show 0<=k by have:=g.1;omega)
  have hk16:=g.2.1
  refine ⟨_,rfl,wb,_,_,_,rfl,rfl,SqT.of W.w,Zal (j:=0) rfl,_,rfl,by omega,by omega,λD hD=>?_⟩
  rw [hkn,Int.toNat_natCast]
  refine ZbS (lo:=0) (n:=kn) (λi ys H'=>Same H H'/\H' D=some (.lst ys)/\∃ bs:List Int,ys=bs.map V.int/\bs.length<=i/\(bs=[]↔∀ j:Nat,j<i->degK rs ks (j:Int)=0\/degK rs ks (j:Int)=2)) ⟨Same.new hD,Zab,[],rfl,Nat.le_refl _,λ_ j hj=>absurd hj (Nat.not_lt_zero j),λ_=>rfl⟩ ?_ ?_
  ·rintro i ys H1 hi ⟨s1,hD1,bs,rfl,hbl,hbs⟩
   rw [Int.zero_add]
   refine ⟨⟨rfl,rfl,trivial⟩,?_⟩
   refine ⟨_,rfl,_,rfl,_,rfl,wb,l,kl,k,(i:Int),xs,rs,ks,rfl,W.same s1,s1 _ _ hk,by omega,S.2,λH2 s2=>?_⟩
   refine ⟨ZaP,λa1 h1=>?_⟩
   have s3:Same H2 (upd H2 a1 (.lst [.int 0,.int 2])):=Same.new h1
   have e1:upd H2 a1 (.lst [.int 0,.int 2]) a1=some (.lst [.int 0,.int 2]):=Zab
   generalize upd H2 a1 (.lst [.int 0,.int 2])=H3 at s3 e1 ⊢
   have S3:=s1.trans (s2.trans s3)
   have hD3:=s3 _ _ (s2 _ _ hD1)
   refine ⟨a1,_,rfl,.inl (SqL.of e1),rfl,rfl,_,rfl,?_⟩
   show if (!inV (.int (degK rs ks (i:Int):Nat)) [.int 0,.int 2])=true then _ else _
   rw [ZjD]
   refine ZcQ (λy=>?_) (λy=>?_)
   ·refine ⟨_,rfl,hD3,by rw [List.length_map];omega,S3.put hD,Zab,bs++[(i:Int)],by rw [List.map_append];rfl,by rw [List.length_append,List.length_singleton];omega,λz=>absurd z (by simp),λz=>?_⟩
    have:=z i (by omega)
    rcases this with u | u
    ·rw [u] at y;exact absurd y (by decide)
    ·rw [u] at y;exact absurd y (by decide)
   ·refine ⟨S3,hD3,bs,rfl,by omega,λz j hj=>?_,λz=>hbs.mpr λj hj=>z j (by omega)⟩
    by_cases e:j=i
    ·subst e
     have:((degK rs ks (j:Int):Nat):Int)∈[(0:Int),2]:=by
      by_cases d:((degK rs ks (j:Int):Nat):Int)∈[(0:Int),2]
      ·exact d
      ·rw [decide_eq_false d] at y
       exact absurd rfl y
     rcases List.mem_cons.mp this with u | u
     ·left;omega
     ·rw [List.mem_singleton] at u
      right;omega
    ·exact hbs.mp z j (by omega)
  ·rintro ys H1 ⟨s1,hD1,bs,rfl,hbl,hbs⟩
   refine ⟨Nat.zero_le _,λe0 he0=>?_⟩
   have s2:Same H1 (upd H1 e0 (.lst [])):=Same.new he0
   have ee0:upd H1 e0 (.lst []) e0=some (.lst []):=Zab
   generalize upd H1 e0 (.lst [])=H2 at s2 ee0 ⊢
   have S2:=s1.trans s2
   refine Zk2 (s2 _ _ hD1) ee0 ⟨_,rfl,?_⟩
   by_cases hb0:bs=[]
   ·rw [decide_eq_true hb0]
    refine Zb0 ?_
    have DC:Zla rs ks k:=λx x0 x1=>by
     have:=hbs.mp hb0 x.toNat (by omega)
     rw [Int.toNat_of_nonneg x0] at this
     exact this
    dsimp only [ZgA]
    have W2:=W.same S2
    have hk2:=S2 _ _ hk
    refine ⟨_,rfl,_,rfl,_,rfl,kl,rfl,⟨_,SqL.of hk2⟩,λD2 hD2=>?_⟩
    refine Zba (K:=K) (a:=kl) (xs:=ks.map V.int) (λi ys H'=>Same H2 H'/\H' D2=some (.lst ys)/\ys=((ks.take i).map λx=>(road rs x).1).map V.int) ⟨Same.new hD2,Zab,rfl⟩ (λi ys H' _ ⟨s3,_⟩=>SqL.of (s3 _ _ hk2)) ?_ ?_
    ·rintro i x ys H3 hxi ⟨s3,hD3,rfl⟩
     rw [List.getElem?_map] at hxi
     cases hz:ks[i]? with
     | none=>rw [hz] at hxi;cases hxi
     | some z=>
      rw [hz] at hxi
      cases hxi
      have hi:i<ks.length:=(List.getElem?_eq_some_iff.mp hz).1
      have W3:=W2.same s3
      have vz:=S.2 z (List.mem_of_getElem? hz)
      obtain ⟨t,et,eh⟩:=Zfq W3 vz
      have hg:=(g.2.2.2.1 _ (Zcw vz)).2.1
      refine ⟨⟨rfl,trivial⟩,?_⟩
      unfold Zjd
      refine Zcg ?_
      refine ⟨_,rfl,wb,_,_,_,rfl,rfl,SqT.of W3.w,Zal (j:=1) rfl,_,rfl,l,_,_,_,rfl,rfl,SqL.of W3.l,et,t,[(road rs z).1,(road rs z).2],rfl,SqT.of eh,by simp,λm hm hle=>?_⟩
      have em:m=(road rs z).1:=by
       have h1:=hle (road rs z).1 (List.mem_cons_self ..)
       rcases List.mem_cons.mp hm with e | e
       ·exact e
       ·rw [List.mem_singleton] at e
        omega
      subst em
      refine ⟨hD3,by rw [List.length_map,List.length_map,List.length_take];omega,s3.put hD2,Zab,?_⟩
      rw [List.take_add_one,hz,List.map_append,List.map_append]
      rfl
    ·rintro ys H3 ⟨s3,hD3,rfl⟩
     rw [List.length_map,List.take_length] at hD3
     refine ⟨D2,ks.map λx=>(road rs x).1,rfl,SqL.of hD3,λz=>?_,λm hm hle=>?_⟩
     ·rw [List.map_eq_nil_iff] at z
      rw [z] at h3
      exact absurd h3 (by decide)
     have B:Begins (ks.map (road rs)) m:=by
      obtain ⟨x,hx',e⟩:=List.mem_map.mp hm
      refine ⟨λt ht=>?_,road rs x,List.mem_map.mpr ⟨x,hx',rfl⟩,e⟩
      obtain ⟨y,hy,rfl⟩:=List.mem_map.mp ht
      exact hle _ (List.mem_map.mpr ⟨y,hy,rfl⟩)
     refine ⟨wb,l,kl,k,m,xs,rs,ks,rfl,W2.same s3,g,s3 _ _ hk2,by omega,S.2,λr tl rest H4 s4 hr0 er wk=>?_⟩
     obtain ⟨y1,y2⟩:=hyes S h3 DC m tl rest B wk
     refine ⟨_,rfl,_,rfl,_,rfl,r,_,rfl,SqL.of er,λpl hpl=>?_⟩
     rw [Zmd]
     have s5:Same H4 (upd H4 pl (.lst ((m::tl).dropLast.map V.int))):=Same.new hpl
     have epl:upd H4 pl (.lst ((m::tl).dropLast.map V.int)) pl=some (.lst ((m::tl).dropLast.map V.int)):=Zab
     generalize upd H4 pl (.lst ((m::tl).dropLast.map V.int))=H5 at s5 epl ⊢
     have S4:=S2.trans (s3.trans s4)
     refine ⟨ZaP,λa1 h1=>?_⟩
     have s6:Same H5 (upd H5 a1 (.lst [.non,.ref pl])):=Same.new h1
     have e1:upd H5 a1 (.lst [.non,.ref pl]) a1=some (.lst [.non,.ref pl]):=Zab
     generalize upd H5 a1 (.lst [.non,.ref pl])=H6 at s6 e1 ⊢
     have S6:=S4.trans (s5.trans s6)
     refine ⟨_,rfl,r,_,rfl,.inl (SqL.of (s6 _ _ (s5 _ _ er))),_,rfl,kl,_,rfl,.inl (SqL.of (S6 _ _ hk)),_,_,rfl,rfl,rfl,?_⟩
     show (∃ i,[V.bl (decide (V.int (((m::tl).map V.int).length:Int)=V.int (((ks.map V.int).length:Int)+1)))]=[V.int i]/\_)\/∃ c,[V.bl (decide (V.int (((m::tl).map V.int).length:Int)=V.int (((ks.map V.int).length:Int)+1)))]=[V.bl c]/\_
     rw [ZhQ]
     by_cases e:tl.length=ks.length
     ·rw [decide_eq_true e]
      exact .inr ⟨true,rfl,a1,_,_,_,rfl,rfl,SqL.of e1,Zal (j:=1) rfl,y1 e pl H6 S6 (S4.free hpl) (s6 _ _ epl)⟩
     ·rw [decide_eq_false e]
      exact .inr ⟨false,rfl,a1,_,_,_,rfl,rfl,SqL.of e1,Zal (j:=0) rfl,y2 e H6 S6⟩
   ·rw [decide_eq_false hb0]
    refine Zcg (hno (λz=>hb0 (hbs.mpr λj hj=>z.2.2 (j:Int) (by omega) (by omega))) H2 S2)
end
end M
namespace M
open PySem L2
def gB:Nat->Nat
 | 0=>1
 | 1=>1
 | 2=>2
 | 3=>3
 | 4=>4
 | 5=>6
 | 6=>9
 | 7=>12
 | 8=>18
 | 9=>27
 | _=>36
theorem ZcD (p n:Int) (t:List Int):Zaj (p::n::t) false=(p,n)::Zaj (n::t) false:=by
 unfold Zaj
 simp only [Bool.false_eq_true,if_false,List.append_nil]
 rfl
theorem ZcM (p n:Int) (t:List Int):(p::n::t).getD ((p::n::t).length-1) 0=(n::t).getD ((n::t).length-1) 0:=by
 rw [List.length_cons,Nat.add_sub_cancel]
 show (p::n::t).getD (t.length+1) 0=(n::t).getD (t.length+1-1) 0
 rw [List.getD_cons_succ,Nat.add_sub_cancel]
theorem ZiW {rs:List (Int×Int)} {p q:Int} {w:List Int} (h:Way rs p q w) (ne:p≠q):Adj rs p (w.getD 1 0)/\Way (rs.filter λr=>!Zbl r p) (w.getD 1 0) q (w.drop 1)/\w=p::w.drop 1:=by
 obtain ⟨tl,rfl⟩:=Zbu h
 cases tl with
 | nil=>exact absurd (show p=q from h.2.2.1) ne
 | cons n t=>
  obtain ⟨h1,h2,h3,h4,h5⟩:=h
  rw [ZcD] at h4
  rw [ZcM] at h3
  have hp:=(List.nodup_cons.mp h5).1
  refine ⟨h4 (p,n) (by simp),⟨λz=>(by cases z),rfl,h3,λy hy=>?_,(List.nodup_cons.mp h5).2⟩,rfl⟩
  have hy:y∈Zaj (n::t) false:=hy
  have a:=h4 y (List.mem_cons_of_mem _ hy)
  have hm:y.1∈n::t/\y.2∈n::t:=by
   unfold Zaj at hy
   rw [if_neg Bool.false_ne_true,List.append_nil] at hy
   have:=List.of_mem_zip (a:=y.1) (b:=y.2) hy
   exact ⟨this.1,List.mem_of_mem_drop this.2⟩
  have n1:y.1≠p:=λz=>hp (z▸hm.1)
  have n2:y.2≠p:=λz=>hp (z▸hm.2)
  rcases a with a | a
  ·exact .inl (List.mem_filter.mpr ⟨a,by unfold Zbl;rw [decide_eq_false (λz=>z.elim n1 n2)];rfl⟩)
  ·exact .inr (List.mem_filter.mpr ⟨a,by unfold Zbl;rw [decide_eq_false (λz=>z.elim n2 n1)];rfl⟩)
theorem ZiX {rs:List (Int×Int)} {p:Int} {w:List Int} (h:Way rs p p w):w=[p]:=by
 obtain ⟨tl,rfl⟩:=Zbu h
 cases tl with
 | nil=>rfl
 | cons n t=>
  obtain ⟨h1,h2,h3,h4,h5⟩:=h
  rw [ZcM] at h3
  have hp:=(List.nodup_cons.mp h5).1
  exact absurd (h3▸Zbg (by rw [List.length_cons];omega)) hp
theorem ZiY {k:Int} {rs:List (Int×Int)} {S:List Int} (g:Zah k rs) (h:IsS rs none S):Zbx rs S/\3<=S.length/\Zla rs S k/\∀ (s:Int) (tl:List Int) (rest:List (Int×Int)),Begins (S.map (road rs)) s->Wk (S.map (road rs)) s tl rest->tl.length=S.length:=by
 obtain ⟨c,hc,e⟩:=id h
 obtain ⟨ns,R,e2⟩:=ZiS g hc
 rw [e] at e2
 obtain ⟨s0,tl0,ens,bg0,wk0⟩:=ZhE g R
 have gd:=ZhF g R ens
 rw [e2] at bg0 wk0 gd
 have hS:=gd.1
 rw [Zd5 hS] at bg0 wk0
 refine ⟨hS,gd.2.1,gd.2.2.1,λs tl rest bg wk=>?_⟩
 have e1:=bg.one bg0
 subst e1
 rw [wk.det wk0]
 exact gd.2.2.2
theorem ZiZ {k:Int} {rs:List (Int×Int)} {S:List Int} {p q:Int} (g:Zah k rs) (en:Ends k p q) (h:IsS rs (some (p,q)) S):Zbx rs S/\Zk9 rs S k p q/\∀ (tl:List Int) (rest:List (Int×Int)),Wk (S.map (road rs)) p tl rest->tl.length=S.length:=by
 obtain ⟨w,hw,e⟩:=id h
 obtain ⟨tl0,ew⟩:=Zbu hw
 obtain ⟨wk0,gd⟩:=Zeb g en (ew▸hw)
 rw [<-ew,e] at wk0 gd
 have hS:=gd.1
 rw [Zd5 hS] at wk0
 refine ⟨hS,gd.2.1,λtl rest wk=>?_⟩
 rw [wk.det wk0]
 exact gd.2.2
end M
namespace M
open PySem L2
def enW:Nat->List (Int×Int)->Int->Int->List (List Int)
 | 0,_,_,_=>[]
 | n+1,rs,p,q=>if p=q then [[p]] else (Zfl rs p).flatMap λm=>(enW n (rs.filter λr=>!Zbl r p) m q).map λw=>p::w
theorem Zbv {k:Int} {rs:List (Int×Int)} (f:Int×Int->Bool) (g:Zah k rs):Zah k (rs.filter f):=⟨g.1,g.2.1,Nat.le_trans (List.length_filter_le _ _) g.2.2.1,λy hy=>g.2.2.2.1 y (List.mem_filter.mp hy).1,g.2.2.2.2.sublist List.filter_sublist⟩
theorem Zfr:∀ (tl:List Int) (m x:Int),x∈tl->∃ y,(y,x)∈Zaj (m::tl) false
 | n::t,m,x,h=>by
  rw [ZcD]
  rcases List.mem_cons.mp h with rfl | h
  ·exact ⟨m,List.mem_cons_self⟩
  ·obtain ⟨y,hy⟩:=Zfr t n x h
   exact ⟨y,List.mem_cons_of_mem _ hy⟩
theorem Zmq {k:Int} {rs:List (Int×Int)} (g:Zah k rs) {x y:Int} (h:Adj rs x y):x≠y:=by
 rcases h with h | h <;> have:=(g.2.2.2.1 _ h).2.1 <;> simp only at this <;> omega
theorem ZjE {k:Int} {rs:List (Int×Int)} (g:Zah k rs) {x y:Int} (h:Adj rs x y):(0<=x/\x<k)/\0<=y/\y<k:=by
 rcases h with h | h <;> have:=g.2.2.2.1 _ h <;> simp only at this <;> omega
theorem Zk3 {k:Int} {rs:List (Int×Int)} {p m q:Int} {w:List Int} (g:Zah k rs) (a:Adj rs p m) (h:Way (rs.filter λr=>!Zbl r p) m q w):Way rs p q (p::w):=by
 obtain ⟨tl,rfl⟩:=Zbu h
 obtain ⟨h1,h2,h3,h4,h5⟩:=h
 have sub:∀ x y,Adj (rs.filter λr=>!Zbl r p) x y->Adj rs x y/\y≠p:=λx y z=>by
  rcases z with z | z <;> obtain ⟨z1,z2⟩:=List.mem_filter.mp z
  ·refine ⟨.inl z1,λe=>?_⟩
   rw [e] at z2;simp [Zbl] at z2
  ·refine ⟨.inr z1,λe=>?_⟩
   rw [e] at z2;simp [Zbl] at z2
 refine ⟨by simp,rfl,by rw [ZcM];exact h3,λt ht=>?_,List.nodup_cons.mpr ⟨λhm=>?_,h5⟩⟩
 ·rw [ZcD] at ht
  rcases List.mem_cons.mp ht with rfl | ht
  ·exact a
  ·exact (sub _ _ (h4 t ht)).1
 ·rcases List.mem_cons.mp hm with e | hm
  ·exact Zmq g a e
  ·obtain ⟨y,hy⟩:=Zfr tl m p hm
   exact (sub _ _ (h4 _ hy)).2 rfl
theorem Zdk {k:Int}:∀ (n:Nat) {rs:List (Int×Int)} {p q:Int} {w:List Int},Zah k rs->w∈enW n rs p q->Way rs p q w
 | 0,rs,p,q,w,g,h=>by simp [enW] at h
 | n+1,rs,p,q,w,g,h=>by
  rw [enW] at h
  by_cases e:p=q
  ·rw [if_pos e] at h
   cases List.mem_singleton.mp h
   exact ⟨by simp,rfl,e,λt ht=>by simp [Zaj] at ht,by simp⟩
  ·rw [if_neg e] at h
   obtain ⟨m,hm,h⟩:=List.mem_flatMap.mp h
   obtain ⟨v,hv,rfl⟩:=List.mem_map.mp h
   exact Zk3 g (mem_bes.mp hm) (Zdk n (Zbv _ g) hv)
theorem Zfs:∀ (n:Nat) {rs:List (Int×Int)} {p q:Int} {w:List Int},Way rs p q w->w.length<=n->w∈enW n rs p q
 | 0,rs,p,q,w,h,hl=>absurd (List.length_eq_zero_iff.mp (Nat.le_zero.mp hl)) h.1
 | n+1,rs,p,q,w,h,hl=>by
  rw [enW]
  by_cases e:p=q
  ·subst e
   rw [if_pos rfl,ZiX h]
   exact List.mem_singleton.mpr rfl
  ·rw [if_neg e]
   obtain ⟨a,b,c⟩:=ZiW h e
   refine List.mem_flatMap.mpr ⟨w.getD 1 0,mem_bes.mpr a,List.mem_map.mpr ⟨w.drop 1,Zfs n b (by rw [List.length_drop];omega),c.symm⟩⟩
theorem ZhR {k:Int}:∀ (n:Nat) {rs:List (Int×Int)} {p q:Int},Zah k rs->(enW n rs p q).Nodup
 | 0,rs,p,q,g=>by simp [enW]
 | n+1,rs,p,q,g=>by
  rw [enW]
  by_cases e:p=q
  ·rw [if_pos e];simp
  ·rw [if_neg e]
   unfold List.Nodup
   rw [List.pairwise_flatMap]
   refine ⟨λm hm=>?_,List.Pairwise.imp (λ{a b} hab x hx y hy z=>?_) (ZdF g p)⟩
   ·rw [List.pairwise_map]
    exact List.Pairwise.imp (λ{a b} hab z=>hab (List.cons.inj z).2) (ZhR n (Zbv _ g))
   ·obtain ⟨u,hu,rfl⟩:=List.mem_map.mp hx
    obtain ⟨v,hv,rfl⟩:=List.mem_map.mp hy
    have e2:=(List.cons.inj z).2
    have h1:=(Zdk n (Zbv _ g) hu).2.1
    have h2:=(Zdk n (Zbv _ g) hv).2.1
    rw [e2] at h1
    exact hab (h1.symm.trans h2)
structure Iso (f fi:Int->Int) (k:Int) (rs rs':List (Int×Int)):Prop where
 g:Zah k rs
 g':Zah k rs'
 a:∀ x,0<=x/\x<k->(0<=f x/\f x<k)/\fi (f x)=x
 b:∀ x,0<=x/\x<k->(0<=fi x/\fi x<k)/\f (fi x)=x
 ad:∀ x y,0<=x/\x<k->0<=y/\y<k->(Adj rs x y↔Adj rs' (f x) (f y))
theorem Iso.symm {f fi:Int->Int} {k:Int} {rs rs':List (Int×Int)} (I:Iso f fi k rs rs'):Iso fi f k rs' rs:=
 ⟨I.g',I.g,I.b,I.a,λx y hx hy=>by rw [I.ad _ _ (I.b x hx).1 (I.b y hy).1,(I.b x hx).2,(I.b y hy).2]⟩
theorem ZcE (f:Int->Int) (ns:List Int) (i:Nat) (h:i<ns.length):(ns.map f).getD i 0=f (ns.getD i 0):=by
 rw [List.getD_eq_getElem?_getD,List.getD_eq_getElem?_getD,List.getElem?_map,List.getElem?_eq_getElem h]
 rfl
theorem ZeQ (f:Int->Int) (ns:List Int) (c:Bool) (h:ns≠[]):Zaj (ns.map f) c=(Zaj ns c).map λt=>(f t.1,f t.2):=by
 have hl:0<ns.length:=List.length_pos_iff.mpr h
 unfold Zaj
 rw [List.map_append,<-List.map_drop,List.zip_map,List.length_map]
 congr 1
 cases c with
 | false=>rfl
 | true=>
  simp only [if_true,List.map_cons,List.map_nil]
  rw [ZcE f ns _ (by omega),ZcE f ns 0 hl]
theorem ZhS {ns:List Int} {c:Bool} (h:ns≠[]) {t:Int×Int} (ht:t∈Zaj ns c):t.1∈ns/\t.2∈ns:=by
 have hl:0<ns.length:=List.length_pos_iff.mpr h
 unfold Zaj at ht
 rcases List.mem_append.mp ht with ht | ht
 ·have:=List.of_mem_zip (a:=t.1) (b:=t.2) ht
  exact ⟨this.1,List.mem_of_mem_drop this.2⟩
 ·cases c with
  | false=>simp at ht
  | true=>
   simp only [if_true,List.mem_singleton] at ht
   subst ht
   exact ⟨Zbg (by omega),Zbg hl⟩
theorem Zf1 (f:Int->Int) (a b:Int):ZaW (f (ZaW a b).1) (f (ZaW a b).2)=ZaW (f a) (f b):=by
 rcases Int.lt_trichotomy a b with h | h | h
 ·rw [ZbN (t:=(a,b)) h]
 ·subst h
  simp [ZaW]
 ·rw [Zbd a b,ZbN (t:=(b,a)) h,Zbd]
theorem ZhT (f:Int->Int) (ns:List Int) (c:Bool) (h:ns≠[]):edg (ns.map f) c=(edg ns c).map λe=>ZaW (f e.1) (f e.2):=by
 unfold edg
 rw [ZeQ f ns c h,List.map_map,List.map_map]
 exact List.map_congr_left λt _=>(Zf1 f t.1 t.2).symm
theorem Zf2 {k:Int} {rs:List (Int×Int)} {c d:List Int} {b:Bool} (g:Zah k rs) (o:Zdf rs c b) (hc:b=true->3<=c.length) (o2:Zdf rs d b) (hd:b=true->3<=d.length):rset rs b c=rset rs b d↔(edg c b).Perm (edg d b):=by
 refine ⟨λe=>?_,Zcz g o hc o2 hd⟩
 have h1:=(ZaK g o hc).2
 rw [e] at h1
 exact h1.symm.trans (ZaK g o2 hd).2
section
variable {f fi:Int->Int} {k:Int} {rs rs':List (Int×Int)}
theorem Iso.once (I:Iso f fi k rs rs') {ns:List Int} {c:Bool} (h:ns≠[]) (ir:∀ x∈ns,0<=x/\x<k) (o:Zdf rs ns c):Zdf rs' (ns.map f) c:=by
 refine ⟨λt ht=>?_,?_⟩
 ·rw [ZeQ f ns c h] at ht
  obtain ⟨u,hu,rfl⟩:=List.mem_map.mp ht
  have:=ZhS h hu
  exact (I.ad _ _ (ir _ this.1) (ir _ this.2)).mp (o.1 u hu)
 ·unfold List.Nodup
  rw [List.pairwise_map]
  refine List.Pairwise.imp_of_mem (λ{x y} hx hy hxy e=>hxy ?_) o.2
  rw [<-(I.a x (ir x hx)).2,<-(I.a y (ir y hy)).2,e]
theorem Iso.back (I:Iso f fi k rs rs') {ns:List Int} (ir:∀ x∈ns,0<=x/\x<k):(ns.map f).map fi=ns:=by
 rw [List.map_map]
 exact (List.map_congr_left λx hx=>(I.a x (ir x hx)).2).trans (List.map_id' ns)
theorem Iso.inj (I:Iso f fi k rs rs') {ns ms:List Int} (ir:∀ x∈ns,0<=x/\x<k) (ir2:∀ x∈ms,0<=x/\x<k) (e:ns.map f=ms.map f):ns=ms:=by
 rw [<-I.back ir,<-I.back ir2,e]
theorem Iso.way (I:Iso f fi k rs rs') {p q:Int} {w:List Int} (hp:0<=p/\p<k) (h:Way rs p q w):Way rs' (f p) (f q) (w.map f):=by
 have hl:0<w.length:=List.length_pos_iff.mpr h.1
 refine ⟨λz=>h.1 (List.map_eq_nil_iff.mp z),?_,?_,I.once h.1 (h.ir I.g hp) h.2.2.2⟩
 ·rw [ZcE f w 0 hl,h.2.1]
 ·rw [List.length_map,ZcE f w _ (by omega),h.2.2.1]
theorem ZhU {c:List Int} (h:Cyc rs c):c≠[]:=λe=>by have:=h.1;rw [e] at this;simp at this
theorem Zf3 (g:Zah k rs) {c:List Int} (h:Cyc rs c):∀ x∈c,0<=x/\x<k:=by
 obtain ⟨h3,h1,_⟩:=h
 match c,h3 with
 | a::tl,h3=>
  have st:∀ t,t∈Zaj (a::tl) false->t∈Zaj (a::tl) true:=λt ht=>by
   unfold Zaj at ht ⊢
   simp only [Bool.false_eq_true,if_false,List.append_nil] at ht
   exact List.mem_append_left _ ht
  intro x hx
  rcases List.mem_cons.mp hx with rfl | hx
  ·match tl,h3 with
   | b::t,_=>exact (ZjE g (h1 (x,b) (st _ (by rw [ZcD];exact List.mem_cons_self)))).1
  ·obtain ⟨y,hy⟩:=Zfr tl a x hx
   exact (ZjE g (h1 _ (st _ hy))).2
theorem Iso.cyc (I:Iso f fi k rs rs') {c:List Int} (h:Cyc rs c):Cyc rs' (c.map f):=⟨by rw [List.length_map];exact h.1,I.once (ZhU h) (Zf3 I.g h) h.2⟩
theorem Iso.rset (I:Iso f fi k rs rs') {c d:List Int} (h:Cyc rs c) (h2:Cyc rs d):M.rset rs true c=M.rset rs true d->M.rset rs' true (c.map f)=M.rset rs' true (d.map f):=λe=>by
 rw [Zf2 I.g h.2 (λ_=>h.1) h2.2 (λ_=>h2.1)] at e
 refine (Zf2 I.g' (I.cyc h).2 (λ_=>(I.cyc h).1) (I.cyc h2).2 (λ_=>(I.cyc h2).1)).mpr ?_
 rw [ZhT f c true (ZhU h),ZhT f d true (ZhU h2)]
 exact e.map _
theorem Iso.rset_inj (I:Iso f fi k rs rs') {c d:List Int} (h:Cyc rs c) (h2:Cyc rs d) (e:M.rset rs' true (c.map f)=M.rset rs' true (d.map f)):M.rset rs true c=M.rset rs true d:=by
 have:=I.symm.rset (I.cyc h) (I.cyc h2) e
 rwa [I.back (Zf3 I.g h),I.back (Zf3 I.g h2)] at this
end
def Cnt (rs:List (Int×Int)) (en:Option (Int×Int)) (N:Nat):Prop:=∃ M:List (List Int),M.Nodup/\M.length=N/\∀ S,S∈M↔IsS rs en S
theorem Cnt.tell {rs:List (Int×Int)} {en:Option (Int×Int)} {N:Nat} {L:List (List Int)} (h:Cnt rs en N) (t:Zgt rs en L):L.length=N:=by
 obtain ⟨M,nd,hl,hm⟩:=h
 rw [<-hl]
 exact (ZhG t.nd nd λS=>by rw [t.iff,hm]).length_eq
theorem Cnt.too {rs:List (Int×Int)} {en:Option (Int×Int)} {N:Nat} (h:Cnt rs en N) (t:TooS rs en):300<N:=by
 obtain ⟨M,nd,hl,hm⟩:=h
 obtain ⟨M2,nd2,h3,h4⟩:=t
 have:=ZfZ nd2 λS hS=>(hm S).mpr (h4 S hS)
 omega
theorem TooS.no {rs:List (Int×Int)} {en:Option (Int×Int)} {L:List (List Int)} (h:TooS rs en) (t:Zgt rs en L):False:=by
 obtain ⟨M2,nd2,h3,h4⟩:=h
 have:=ZfZ nd2 λS hS=>(t.iff S).mpr (h4 S hS)
 have:=t.ln
 omega
section
variable {f fi:Int->Int} {k:Int} {rs rs':List (Int×Int)}
theorem Zi0 (I:Iso f fi k rs rs') {p q:Int} (en:Ends k p q):Cnt rs' (some (f p,f q)) (enW 17 rs p q).length:=by
 have en':Ends k (f p) (f q):=⟨(I.a p en.1).1,(I.a q en.2.1).1,λe=>en.2.2 (by rw [<-(I.a p en.1).2,<-(I.a q en.2.1).2,e])⟩
 have iw:∀ w,w∈enW 17 rs p q->Way rs p q w:=λw hw=>Zdk 17 I.g hw
 refine ⟨(enW 17 rs p q).map λw=>M.rset rs' false (w.map f),?_,List.length_map ..,λS=>?_⟩
 ·unfold List.Nodup
  rw [List.pairwise_map]
  refine List.Pairwise.imp_of_mem (λ{w v} hw hv hwv e=>hwv ?_) (ZhR 17 I.g)
  have h1:=iw w hw
  have h2:=iw v hv
  exact I.inj (h1.ir I.g en.1) (h2.ir I.g en.1) (Zfo I.g' en' (I.way en.1 h1) (I.way en.1 h2) e)
 ·rw [List.mem_map]
  constructor
  ·rintro ⟨w,hw,rfl⟩
   exact ⟨w.map f,I.way en.1 (iw w hw),rfl⟩
  ·rintro ⟨w,hw,rfl⟩
   have hw:Way rs' (f p) (f q) w:=hw
   have ir:=hw.ir I.g' en'.1
   have h2:=I.symm.way en'.1 hw
   rw [(I.a p en.1).2,(I.a q en.2.1).2] at h2
   refine ⟨w.map fi,Zfs 17 h2 (Nat.le_trans (h2.len I.g en.1) (by decide)),?_⟩
   rw [I.symm.back ir]
theorem Zdl {j:Nat} {R:List (List Int)} (g:Zah k rs) (h:Rgs rs j R):∀ w∈R,Cyc rs w:=λw hw=>by
 obtain ⟨i,_,t,ht,hw⟩:=Zf0 g h w hw
 exact (Zbe g ht hw).1
theorem ZhV (I:Iso f fi k rs rs') {j:Nat} {R:List (List Int)} (h:Rgs rs j R):(R.map λw=>M.rset rs' true (w.map f)).Nodup:=by
 have nd:=ZhJ I.g h
 unfold List.Nodup at nd ⊢
 rw [List.pairwise_map] at nd ⊢
 exact List.Pairwise.imp_of_mem (λ{w v} hw hv hwv e=>hwv (I.rset_inj (Zdl I.g h w hw) (Zdl I.g h v hv) e)) nd
theorem Zi1 (I:Iso f fi k rs rs') {R:List (List Int)} (h:Rgs rs rs.length R) (hl:R.length<=300):Cnt rs' none R.length:=by
 refine ⟨R.map λw=>M.rset rs' true (w.map f),ZhV I h,List.length_map ..,λS=>?_⟩
 rw [List.mem_map]
 constructor
 ·rintro ⟨w,hw,rfl⟩
  exact ⟨w.map f,I.cyc (Zdl I.g h w hw),rfl⟩
 ·rintro ⟨c,hc,rfl⟩
  have h2:=I.symm.cyc hc
  obtain ⟨w,hw,e⟩:=List.mem_map.mp ((ZhL I.g h hl (M.rset rs true (c.map fi))).mpr ⟨_,h2,rfl⟩)
  refine ⟨w,hw,?_⟩
  have:=I.rset (Zdl I.g h w hw) h2 e
  rw [I.symm.back (Zf3 I.g' hc)] at this
  exact this
theorem Zi2 (I:Iso f fi k rs rs') {j:Nat} {R:List (List Int)} (h:Rgs rs j R) (hl:300<R.length):TooS rs' none:=
 ⟨R.map λw=>M.rset rs' true (w.map f),ZhV I h,by rw [List.length_map];exact hl,λS hS=>by
  obtain ⟨w,hw,rfl⟩:=List.mem_map.mp hS
  exact ⟨w.map f,I.cyc (Zdl I.g h w hw),rfl⟩⟩
end
def rgB (rs:List (Int×Int)):Nat->List (List Int)
 | 0=>[]
 | j+1=>rgB rs j++match rs[j]? with
  | some t=>(enW 17 (rs.drop (j+1)) t.1 t.2).take 301
  | none=>[]
theorem Zmr {k:Int} {rs:List (Int×Int)} {p q:Int} (g:Zah k rs) (hp:0<=p/\p<k):Wys rs p q ((enW 17 rs p q).take 301) where
 ww:=λw hw=>Zdk 17 g (List.mem_of_mem_take hw)
 nd:=(ZhR 17 g).sublist (List.take_sublist ..)
 ln:=List.length_take_le ..
 al:=λhl w hw=>by
  rw [List.length_take] at hl
  rw [List.take_of_length_le (by omega)]
  exact Zfs 17 hw (Nat.le_trans (hw.len g hp) (by decide))
theorem Zf4 (rs:List (Int×Int)) (i:Nat):∀ j,i<=j->(rgB rs i).length<=(rgB rs j).length
 | 0,h=>by rw [Nat.le_zero.mp h];exact Nat.le_refl _
 | j+1,h=>by
  by_cases e:i=j+1
  ·rw [e];exact Nat.le_refl _
  ·have ih:=Zf4 rs i j (by omega)
   rw [show rgB rs (j+1)=rgB rs j++_ from rfl,List.length_append]
   exact Nat.le_trans ih (Nat.le_add_right _ _)
theorem Zft {k:Int} {rs:List (Int×Int)} (g:Zah k rs):∀ j,j<=rs.length->(rgB rs (j-1)).length<=300->Rgs rs j (rgB rs j)
 | 0,_,_=>.nil
 | j+1,hj,hl=>by
  have ht:rs[j]?=some rs[j]:=List.getElem?_eq_getElem (by omega)
  have hl:(rgB rs j).length<=300:=hl
  have hl':(rgB rs (j-1)).length<=300:=by
   cases j with
   | zero=>exact Nat.zero_le _
   | succ i=>
    have:(rgB rs i).length<=(rgB rs (i+1)).length:=by
     rw [show rgB rs (i+1)=rgB rs i++_ from rfl,List.length_append]
     exact Nat.le_add_right _ _
    show (rgB rs i).length<=300
    omega
  have ih:=Zft g j (by omega) hl'
  have e:rgB rs (j+1)=rgB rs j++(enW 17 (rs.drop (j+1)) rs[j].1 rs[j].2).take 301:=by rw [rgB,ht]
  rw [e]
  refine .one ih hl ⟨rs[j],ht,Zmr (ZbM g (j+1)) ?_⟩
  have:=g.2.2.2.1 rs[j] (List.getElem_mem _)
  omega
def ZhW (first many:Int) (lacking:Bool):List (Int×Int):=
 let found:=(List.range many.toNat).flatMap λ(b:Nat)=>(List.range b).map λ(a:Nat)=>(first+(a:Int),first+(b:Int))
 if lacking then found.erase (first,first+many-1) else found
def Zby:List Int->Int->List (Int×Int)×Int
 | [],place=>([],place)
 | many::r,place=>((ZhW place many (decide (many=5)))++(Zby r (place+many-1)).1,(Zby r (place+many-1)).2)
def Zms (few:Int):List (Int×Int):=
 ZhW 0 5 false++([5,6,7].flatMap λ(b:Int)=>[(0,b),(1,b)]++(List.range (b-5).toNat).map λ(a:Nat)=>(5+(a:Int),b)) ++
  (List.range few.toNat).flatMap λ(k:Nat)=>[(2+(k:Int),8+2 * (k:Int)),(2+(k:Int),9+2 * (k:Int)),(8+2 * (k:Int),9+2 * (k:Int))]
def knw (way:Int):Int×List (Int×Int)×Int×Int:=
 if way > 4 then (8+2 * (way-5),Zms (way-5),0,299+(way-5))
 else if way=4 then (7,ZhW 0 7 false,326,1172)
 else if way=3 then (6,ZhW 0 6 false,65,197)
 else if way=2 then ((Zby [4,5,4] 0).2+1,(Zby [4,5,4] 0).1,375,0)
 else if way=1 then ((Zby [4,5,3,3] 0).2+1,(Zby [4,5,3,3] 0).1++[(0,(Zby [4,5,3,3] 0).2)],301,0)
 else ((Zby [4,5,3,3] 0).2+1,(Zby [4,5,3,3] 0).1,300,0)
def Zk4 (n:Int) (rs:List (Int×Int)):Bool:=decide (1<=n) && decide (n<=16) && decide (rs.length<=30) && rs.all (λp=>decide (0<=p.1) && decide (p.1<p.2) && decide (p.2<n)) && decide rs.Nodup
theorem Zf5 {n:Int} {rs:List (Int×Int)} (h:Zk4 n rs=true):Zah n rs:=by
 simp only [Zk4,Bool.and_eq_true,decide_eq_true_eq,List.all_eq_true] at h
 exact ⟨h.1.1.1.1,h.1.1.1.2,h.1.1.2,λp hp=>⟨(h.1.2 p hp).1.1,(h.1.2 p hp).1.2,(h.1.2 p hp).2⟩,h.2⟩
def Zmt (x:Int×List (Int×Int)×Int×Int):Bool:=
 Zk4 x.1 x.2.1 && (decide (x.2.2.1=0) || decide (((enW 17 x.2.1 0 (x.1-1)).length:Int)=x.2.2.1)) &&
  (decide (x.2.2.2=0) || (if x.2.2.2<=300 then decide (((rgB x.2.1 x.2.1.length).length:Int)=x.2.2.2) else (List.range (x.2.1.length+1)).any λj=>decide (300<(rgB x.2.1 j).length) && decide ((rgB x.2.1 (j-1)).length<=300)))
def Zpe (way:Int):Bool:=Zmt (knw way)
end M
namespace M
open PySem L2
section
variable {P:Program} {w:World} {K:PySem.W.Frag} {mg:Str->Option Value} {base:Heap}
theorem ZnK {k:Int} (h0:0<=k) (h1:k<=1000):Lt2 9000 k:=Nat.lt_of_lt_of_le (show k.natAbs<2 ^ 10 by omega) (Nat.pow_le_pow_right (by decide) (by decide))
def Zh3 (f:Int) (i:Nat):List (Int×Int):=(List.range i).flatMap λ(b:Nat)=>(List.range b).map λ(a:Nat)=>(f+(a:Int),f+(b:Int))
theorem Zdm (f:Int) (i:Nat):Zh3 f (i+1)=Zh3 f i++(List.range i).map λ(a:Nat)=>(f+(a:Int),f+(i:Int)):=by
 unfold Zh3
 rw [List.range_succ,List.flatMap_append]
 simp
theorem Zec (f:Int):∀ i,(Zh3 f i).length<=i * i
 | 0=>Nat.le_refl _
 | i+1=>by
  have:=Zec f i
  rw [Zdm,List.length_append,List.length_map,List.length_range]
  have e:(i+1) * (i+1)=i * i+(2 * i+1):=by rw [Nat.add_mul,Nat.mul_add];omega
  omega
theorem Zk5 (f:Int) (i:Nat) (h:2<=i):(f,f+(i:Int)-1)∈Zh3 f i:=by
 obtain ⟨j,rfl⟩:∃ j,i=j+2:=⟨i-2,by omega⟩
 rw [Zdm,List.mem_append]
 refine .inr (List.mem_map.mpr ⟨0,by simp,?_⟩)
 simp only [Prod.mk.injEq]
 omega
def Zi3:Sp:=λvs H Q _=>∃ (f m:Int) (lk:Bool),vs=[.int f,.int m,.bl lk]/\0<=f/\f<=100/\2<=m/\m<=7/\∀ (l:Addr) (xs:List V) (H':Hp),Same H H'->H l=none->H' l=some (.lst xs)->Prs H' xs (ZhW f m lk)->(ZhW f m lk).length<=49->Q (.ref l) H'
theorem scBlk:Zav ["first", "many", "lacking", "found", "b"] ["first", "many", "lacking"] (Zaf Zh2):=⟨rfl,rfl,rfl,by decide +kernel,rfl,by decide +kernel,by decide +kernel⟩
theorem Zmu {f:Addr} {fd:FuncData} (F:Fun K "_law_block" "_law_block" Zh2 f fd) (mRange:mg "range" = none):ZaO P w K mg base CX0 1 f fd ["first", "many", "lacking"] Zi3:=by
 refine F.ok scBlk (λvs H Q E h=>?_) (λcdv A outer s H vs Q E hr h=>?_)
 ·obtain ⟨_,_,_,rfl,_⟩:=h
  rfl
 ·obtain ⟨f0,m,lk,rfl,h0,h1,m0,m1,q⟩:=h
  have hu5:(A.deeper (PyProof.Rows.envOfC "_law_block" (Zaf Zh2) s.heap.objs.size f cdv)).units+65<cLine:=by have:=hr.un;omega
  have h16:(16777216:Nat)=sizeLine:=sizeLine_eq.symm
  refine ⟨_,Zag (Zax (i:=3) scBlk.nd rfl (Or.inl rfl) (ZaB Zac))
    (Zag (Zbf PassesOwn.never rfl (Zc6 rfl mRange (Zaa (pv 0) (Zaa (Zas ZaL (pv 0) (pv 1)) Zac))) (Zar (i:=4) scBlk.nd rfl (Or.inr rfl))
    (Zai (Zax (i:=3) scBlk.nd rfl (Or.inl rfl) (Zas ZcP (pv 3) (Zbi (own:=["a"]) rfl (Zaz (fr:=[("b", 4)]) [(".0", .local),("a", .local),("b", .cell)] rfl rfl (by decide +kernel) rfl (by decide +kernel) ⟨rfl,trivial⟩ ⟨λh=>Za0 h,λh=>Za0 h,λ_=>⟨_,rfl⟩,trivial⟩ ⟨⟨rfl,.inl rfl,.inl rfl⟩,trivial⟩) (Zc6 rfl mRange (Zaa (pv 0) (Zaa (pv 4) Zac))) (λ_ _ _ _=>Zar (i:=0) (show List.Nodup (["a", "b"]:List Str) by decide +kernel) rfl (Or.inl rfl)) (λ_ _ _ _=>Zbp) (λ_ _ _ _=>ZaR (Zaa (pv 0) (Zaa (pv 1) Zac))))))))
    (Zag (ZaX (Za3 (pv 2)) (Zai (Za2 (ZcT PySem.F.plainAttrs_list PySem.F.slot_list_remove PySem.F.type_list_remove (ZlN K hu5) (pv 3) (Zaa (ZaR (Zaa (pv 0) (Zaa (Zas ZbC (Zas ZaL (pv 0) (pv 1)) Zad) Zac))) Zac)))) ZaC)
    (Zai (Zau (pv 3))))),?_⟩
  refine ⟨Nat.zero_le _,λl0 hl0=>?_⟩
  obtain ⟨n,en⟩:∃ n:Nat,m=(n:Int):=⟨m.toNat,by omega⟩
  subst en
  dsimp only [Za7]
  refine ZaV (λσ' H'=>∃ (l:Addr) (xs:List V) (v4:Option V),σ'=[some (.int f0),some (.int (n:Int)),some (.bl lk),some (.ref l),v4]/\Same H H'/\H l=none/\H' l=some (.lst xs)/\Prs H' xs (Zh3 f0 n)) ?sa ?fa
  case fa=>
   intro hk
   refine ⟨_,rfl,_,rfl,_,rfl,_,_,rfl,rfl,_,_,rfl,⟨by omega,by omega,by omega,by omega⟩,?_⟩
   rw [show (f0+(n:Int)-f0).toNat=n by omega]
   refine Zbj (lo:=f0) (λi σ' H'=>∃ (l:Addr) (xs:List V) (v4:Option V),σ'=[some (.int f0),some (.int (n:Int)),some (.bl lk),some (.ref l),v4]/\Same H H'/\H l=none/\H' l=some (.lst xs)/\Prs H' xs (Zh3 f0 i)) ⟨l0,[],none,rfl,Same.new hl0,hl0,Zab,.nil⟩ ?_ ?_
   ·rintro i σ' H2 hi ⟨l,xs,v4,rfl,s2,hl,el,pr⟩
    have hxl:=pr.len
    have hbl:=Zec f0 i
    have hii:i * i<=7 * 7:=Nat.mul_le_mul (by omega) (by omega)
    refine ⟨_,rfl,_,rfl,_,rfl,_,_,rfl,⟨by omega,by omega,by omega,by omega⟩,λD hD=>?_⟩
    rw [show (f0+(i:Int)-f0).toNat=i by omega]
    refine ZbS (lo:=f0) (n:=i) (λj ys H3=>Same H2 H3/\H3 D=some (.lst ys)/\Prs H3 ys ((List.range j).map λ(a:Nat)=>(f0+(a:Int),f0+(i:Int)))) ⟨Same.new hD,Zab,.nil⟩ ?_ ?_
    ·rintro j ys H3 hj ⟨s3,hD3,p3⟩
     refine ⟨⟨rfl,trivial⟩,?_⟩
     unfold Zjd
     refine Zcg ?_
     refine ⟨_,rfl,_,rfl,ZaP,λt ht=>?_⟩
     have hDt:D≠t:=Zae hD3 ht
     have hyl:ys.length<sizeLine:=by
      have:=p3.len
      rw [List.length_map,List.length_range] at this
      omega
     obtain ⟨a1,a2,a3⟩:=ZdR (a:=f0+(j:Int)) (b:=f0+(i:Int)) s3 hD hD3 p3 ht
     refine ⟨Zak hD3 hDt,hyl,a1,a2,?_⟩
     rw [List.range_succ,List.map_append]
     exact a3
    ·rintro ys H3 ⟨s3,hD3,p3⟩
     have hyl:=p3.len
     rw [List.length_map,List.length_range] at hyl
     refine ⟨l,D,xs,ys,rfl,rfl,s3 _ _ el,hD3,by omega,λpn hpn=>?_⟩
     have s4:=s2.trans s3
     refine ⟨pn,xs++ys,_,rfl,s4.put (s4.free hpn),s4.free hpn,Zab,?_⟩
     rw [Zdm]
     exact ((pr.same s3).keep (ZaA hpn)).app (p3.keep (ZaA hpn))
   ·exact λσ' H2 h=>hk _ _ h
  rintro σ' H2 ⟨l,xs,v4,rfl,s2,hl,el,pr⟩
  have hxl:=pr.len
  have hbl:=Zec f0 n
  have hii:n * n<=7 * 7:=Nat.mul_le_mul (by omega) (by omega)
  have eb:ZhW f0 (n:Int) lk=if lk=true then (Zh3 f0 n).erase (f0,f0+(n:Int)-1) else Zh3 f0 n:=by
   unfold ZhW Zh3
   rw [Int.toNat_natCast]
  cases lk with
  | false=>
   rw [if_neg Bool.false_ne_true] at eb
   refine ⟨_,rfl,_,rfl,Zb0 ?_⟩
   exact ⟨_,rfl,q l xs H2 s2 hl el (eb▸pr) (by rw [eb];omega)⟩
  | true=>
   rw [if_pos rfl] at eb
   refine ⟨_,rfl,_,rfl,Zcg ?_⟩
   refine ⟨_,rfl,.inl ⟨rfl,_,SqL.of el⟩,_,rfl,_,rfl,_,rfl,_,_,rfl,rfl,_,_,rfl,rfl,ZaP,λt ht=>?_⟩
   have s3:Same H2 (upd H2 t (.tup [.int f0,.int (f0+(n:Int)-1)])):=Same.new ht
   dsimp only [Zm5]
   refine Zpa (H:=upd H2 t (.tup [.int f0,.int (f0+(n:Int)-1)])) (t:=(f0,f0+(n:Int)-1)) (s3 _ _ el) (pr.same s3) Zab (Zk5 f0 n (by omega)) λxs' hx' pr'=>?_
   have hne:t≠l:=λz=>by rw [z,el] at ht;cases ht
   refine ⟨_,rfl,q l xs' _ ((s2.trans s3).put hl) hl Zab ?_ ?_⟩
   ·rw [eb]
    exact pr'.keep (Zbq (o:=.lst xs') (s3 _ _ el))
   ·rw [eb]
    exact Nat.le_trans (List.length_erase_le ..) (by omega)
def Zmv:Sp:=λvs H Q _=>∃ (sl:Addr) (szs:List Int),vs=[.ref sl]/\H sl=some (.lst (szs.map V.int))/\(∀ x∈szs,3<=x/\x<=5)/\szs.length<=4 /\
 ∀ (t l:Addr) (xs:List V) (H':Hp),Same H H'->H t=none->H l=none->H' t=some (.tup [.int ((Zby szs 0).2+1),.ref l])->H' l=some (.lst xs)->Prs H' xs (Zby szs 0).1->(Zby szs 0).1.length<=400->Q (.ref t) H'
theorem scChn:Zav ["sizes", "roads", "place", "many"] ["sizes"] (Zaf ZkB):=⟨rfl,rfl,rfl,by decide +kernel,rfl,by decide +kernel,by decide +kernel⟩
theorem Zmw {f fBl:Addr} {fd fdBl:FuncData} (F:Fun K "_law_chain" "_law_chain" ZkB f fd) (FBl:Fun K "_law_block" "_law_block" Zh2 fBl fdBl) (bBl:Binds K fdBl ["first", "many", "lacking"] []) (mBl:mg "_law_block" = some (.ref fBl)) (GBl:ZaO P w K mg base CX0 1 fBl fdBl ["first", "many", "lacking"] Zi3):ZaO P w K mg base CX0 2 f fd ["sizes"] Zmv:=by
 refine F.ok scChn (λvs H Q E h=>?_) (λcdv A outer s H vs Q E hr h=>?_)
 ·obtain ⟨_,_,rfl,_⟩:=h
  rfl
 ·obtain ⟨sl,szs,rfl,hs,hx,hl4,q⟩:=h
  have h16:(16777216:Nat)=sizeLine:=sizeLine_eq.symm
  refine ⟨_,Zag (Zax (i:=1) scChn.nd rfl (Or.inl rfl) (ZaB Zac))
    (Zag (Zax (i:=2) scChn.nd rfl (Or.inl rfl) Zad)
    (Zag (Zbf PassesOwn.never rfl (ZcF K (pv 0)) (Zar (i:=3) scChn.nd rfl (Or.inl rfl))
    (Zag (Zax (i:=1) scChn.nd rfl (Or.inl rfl) (Zas ZcP (pv 1) (Zan GBl (hr.mono (by decide)) rfl mBl FBl.kp bBl .nil ZaQ (Zaa (pv 2) (Zaa (pv 3) (Zaa (Zb8 ZdK (pv 3) Zad (ZaF _)) Zac))))))
    (Zai (Zax (i:=2) scChn.nd rfl (Or.inl rfl) (Zas ZbC (Zas ZaL (pv 2) (pv 3)) Zad)))))
    (Zai (Zau (ZaR (Zaa (Zas ZaL (pv 2) Zad) (Zaa (pv 1) Zac))))))),?_⟩
  refine ⟨Nat.zero_le _,λl0 hl0=>?_⟩
  dsimp only [Za7]
  refine ZaV (λσ' H'=>σ'=[some (.ref sl),some (.ref l0),some (.int 0),none]/\H'=upd H l0 (.lst [])) ?sa ?fa
  case fa=>exact λhk=>hk _ _ ⟨rfl,rfl⟩
  rintro σ' H' ⟨rfl,rfl⟩
  refine ZaV (λσ' H'=>∃ (l:Addr) (xs:List V) (v4:Option V),σ'=[some (.ref sl),some (.ref l),some (.int (Zby szs 0).2),v4]/\Same H H'/\H l=none/\H' l=some (.lst xs)/\Prs H' xs (Zby szs 0).1/\(Zby szs 0).1.length<=100 * szs.length) ?sb ?fb
  case fb=>
   intro hk
   refine ⟨_,rfl,sl,rfl,⟨_,SqL.of (Zak hs (Zae hs hl0))⟩,?_⟩
   refine ZbP (K:=K) (a:=sl) (xs:=szs.map V.int) (λi σ' H'=>∃ (l:Addr) (xs:List V) (v4:Option V) (pl:Int) (rs:List (Int×Int)),σ'=[some (.ref sl),some (.ref l),some (.int pl),v4]/\Same H H'/\H l=none/\H' l=some (.lst xs)/\Prs H' xs rs/\0<=pl/\pl<=4 * i/\rs.length<=100 * i /\
    rs++(Zby (szs.drop i) pl).1=(Zby szs 0).1/\(Zby (szs.drop i) pl).2=(Zby szs 0).2) ⟨l0,[],none,0,[],rfl,Same.new hl0,hl0,Zab,.nil,by omega,by omega,Nat.zero_le _,by simp,by simp⟩ (λi σ' H2 _ h=>?_) ?_ ?_
   ·obtain ⟨_,_,_,_,_,_,s2,_⟩:=h
    exact SqL.of (s2 _ _ hs)
   ·rintro i x σ' H2 hxi ⟨l,xs,v4,pl,rs,rfl,s2,hl,el,pr,p0,p1,rl,e1,e2⟩
    rw [List.getElem?_map] at hxi
    cases z:szs[i]? with
    | none=>rw [z] at hxi;cases hxi
    | some m=>
     rw [z] at hxi
     cases hxi
     have hi:=(List.getElem?_eq_some_iff.mp z).1
     have hm:=hx m (List.mem_of_getElem? z)
     have hd:szs.drop i=m::szs.drop (i+1):=by rw [List.drop_eq_getElem_cons hi];congr 1;exact Option.some.inj ((List.getElem?_eq_getElem hi).symm.trans z)
     rw [hd] at e1 e2
     dsimp only [Za7]
     refine ⟨_,rfl,_,rfl,_,rfl,_,rfl,rfl,pl,m,decide (m=5),?_,p0,by omega,by omega,by omega,λlb xb H3 s3 hlb elb prb lnb=>?_⟩
     ·simp
     have hxl:=pr.len
     have hbl:=prb.len
     refine ⟨l,lb,xs,xb,rfl,rfl,s3 _ _ el,elb,by omega,λpn hpn=>?_⟩
     have s4:=s2.trans s3
     dsimp only [Za7]
     refine ⟨_,rfl,_,rfl,_,_,rfl,rfl,_,_,rfl,rfl,?_⟩
     refine ⟨pn,xs++xb,_,pl+m-1,rs++ZhW pl m (decide (m=5)),rfl,s4.put (s4.free hpn),s4.free hpn,Zab,?_,by omega,by omega,?_,?_,e2⟩
     ·exact ((pr.same s3).keep (ZaA hpn)).app (prb.keep (ZaA hpn))
     ·rw [List.length_append];omega
     ·rw [List.append_assoc];exact e1
   ·rintro σ' H2 ⟨l,xs,v4,pl,rs,rfl,s2,hl,el,pr,p0,p1,rl,e1,e2⟩
    rw [List.length_map] at e1 e2 rl
    rw [List.drop_length] at e1 e2
    simp only [Zby,List.append_nil] at e1 e2
    subst e1 e2
    exact hk _ _ ⟨l,xs,v4,rfl,s2,hl,el,pr,rl⟩
  rintro σ' H2 ⟨l,xs,v4,rfl,s2,hl,el,pr,rl⟩
  refine ⟨_,rfl,_,_,rfl,rfl,_,rfl,ZaP,λt ht=>?_⟩
  have hlt:l≠t:=Zae el ht
  exact q t l xs _ (s2.put (s2.free ht)) (s2.free ht) hl Zab (Zak el hlt) (pr.keep (ZaA ht)) (by omega)
def ZpS:List (Int×Int):=ZhW 0 5 false++([5,6,7].flatMap λ(b:Int)=>[(0,b),(1,b)]++(List.range (b-5).toNat).map λ(a:Nat)=>(5+(a:Int),b))
def ZjF (n:Nat):List (Int×Int):=(List.range n).flatMap λ(k:Nat)=>[(2+(k:Int),8+2 * (k:Int)),(2+(k:Int),9+2 * (k:Int)),(8+2 * (k:Int),9+2 * (k:Int))]
theorem ZhX (n:Nat):ZjF (n+1)=ZjF n++[(2+(n:Int),8+2 * (n:Int)),(2+(n:Int),9+2 * (n:Int)),(8+2 * (n:Int),9+2 * (n:Int))]:=by
 unfold ZjF
 rw [List.range_succ,List.flatMap_append]
 simp
def Zgv (i:Nat):List (Int×Int):=ZhW 0 5 false++(([5,6,7]:List Int).take i).flatMap λ(b:Int)=>[(0,b),(1,b)]++(List.range (b-5).toNat).map λ(a:Nat)=>(5+(a:Int),b)
theorem ZhY {i:Nat} {b:Int} (h:([5,6,7]:List Int)[i]?=some b):Zgv (i+1)=(Zgv i++[(0,b),(1,b)])++(List.range (b-5).toNat).map λ(a:Nat)=>(5+(a:Int),b):=by
 unfold Zgv
 rw [List.take_add_one,h,List.flatMap_append]
 simp
theorem Zpf {H:Hp} {t1 t2 t3:Addr} {a b c:Int×Int} (h1:H t1=some (.tup [.int a.1,.int a.2])) (h2:H t2=some (.tup [.int b.1,.int b.2])) (h3:H t3=some (.tup [.int c.1,.int c.2])):Prs H [.ref t1,.ref t2,.ref t3] [a,b,c]:=.cons h1 (.cons h2 (.cons h3 .nil))
def Zmx:Sp:=λvs H Q _=>∃ (n:Nat),vs=[.int (n:Int)]/\n<=2/\∀ (r t l:Addr) (xs:List V) (H':Hp),Same H H'->H r=none->H t=none->H l=none->H' r=some (.lst [.ref t,.int 0,.int (299+(n:Int))])->H' t=some (.tup [.int (8+2 * (n:Int)),.ref l])->H' l=some (.lst xs)->Prs H' xs (Zms (n:Int))->Q (.ref r) H'
theorem scRkn:Zav ["few", "roads", "b", "k"] ["few"] (Zaf ZkC):=⟨rfl,rfl,rfl,by decide +kernel,rfl,by decide +kernel,by decide +kernel⟩
theorem Zmy {f fBl:Addr} {fd fdBl:FuncData} (F:Fun K "_law_rings_known" "_law_rings_known" ZkC f fd) (FBl:Fun K "_law_block" "_law_block" Zh2 fBl fdBl) (bBl:Binds K fdBl ["first", "many", "lacking"] []) (mBl:mg "_law_block" = some (.ref fBl)) (GBl:ZaO P w K mg base CX0 1 fBl fdBl ["first", "many", "lacking"] Zi3) (mRange:mg "range" = none):ZaO P w K mg base CX0 2 f fd ["few"] Zmx:=by
 refine F.ok scRkn (λvs H Q E h=>?_) (λcdv A outer s H vs Q E hr h=>?_)
 ·obtain ⟨_,rfl,_⟩:=h
  rfl
 ·obtain ⟨n,rfl,hn,q⟩:=h
  have h16:(16777216:Nat)=sizeLine:=sizeLine_eq.symm
  refine ⟨_,Zag (Zax (i:=1) scRkn.nd rfl (Or.inl rfl) (Zan GBl (hr.mono (by decide)) rfl mBl FBl.kp bBl .nil ZaQ (Zaa Zad (Zaa Zad (Zaa Zbo Zac)))))
    (Zag (Zbf PassesOwn.never rfl (ZcF K (ZaB (Zaa Zad (Zaa Zad (Zaa Zad Zac))))) (Zar (i:=2) scRkn.nd rfl (Or.inr rfl))
    (Zai (Zax (i:=1) scRkn.nd rfl (Or.inl rfl) (Zas ZcP (Zas ZcP (pv 1) (ZaB (Zaa (ZaR (Zaa Zad (Zaa (pv 2) Zac))) (Zaa (ZaR (Zaa Zad (Zaa (pv 2) Zac))) Zac)))) (Zbi (own:=["a"]) rfl (Zaz (fr:=[("b", 2)]) [(".0", .local),("a", .local),("b", .cell)] rfl rfl (by decide +kernel) rfl (by decide +kernel) ⟨rfl,trivial⟩ ⟨λh=>Za0 h,λh=>Za0 h,λ_=>⟨_,rfl⟩,trivial⟩ ⟨⟨rfl,.inl rfl,.inl rfl⟩,trivial⟩) (Zc6 rfl mRange (Zaa Zad (Zaa (pv 2) Zac))) (λ_ _ _ _=>Zar (i:=0) (show List.Nodup (["a", "b"]:List Str) by decide +kernel) rfl (Or.inl rfl)) (λ_ _ _ _=>Zbp) (λ_ _ _ _=>ZaR (Zaa (pv 0) (Zaa (pv 1) Zac))))))))
    (Zag (Zbf PassesOwn.never rfl (Za9 rfl mRange (Zaa (pv 0) Zac)) (Zar (i:=3) scRkn.nd rfl (Or.inl rfl))
    (Zai (Zax (i:=1) scRkn.nd rfl (Or.inl rfl) (Zas ZcP (pv 1) (ZaB (Zaa (ZaR (Zaa (Zas ZaL Zad (pv 3)) (Zaa (Zas ZaL Zad (Zas Zeh Zad (pv 3))) Zac))) (Zaa (ZaR (Zaa (Zas ZaL Zad (pv 3)) (Zaa (Zas ZaL Zad (Zas Zeh Zad (pv 3))) Zac))) (Zaa (ZaR (Zaa (Zas ZaL Zad (Zas Zeh Zad (pv 3))) (Zaa (Zas ZaL Zad (Zas Zeh Zad (pv 3))) Zac))) Zac))))))))
    (Zai (Zau (ZaB (Zaa (ZaR (Zaa (Zas ZaL Zad (Zas Zeh Zad (pv 0))) (Zaa (pv 1) Zac))) (Zaa Zad (Zaa (Zas ZaL Zad (pv 0)) Zac)))))))),?_⟩
  refine ⟨0,5,false,rfl,by omega,by omega,by omega,by omega,λl0 xs0 H0 s0 hl0 el0 pr0 ln0=>?_⟩
  dsimp only [Za7]
  refine ZaV (λσ' H'=>∃ (l:Addr) (xs:List V) (v2:Option V),σ'=[some (.int (n:Int)),some (.ref l),v2,none]/\Same H H'/\H l=none/\H' l=some (.lst xs)/\Prs H' xs (Zgv 3)) ?sa ?fa
  case fa=>
   intro hk
   refine ⟨(by show 3<=sizeLine;decide),λl7 hl7=>?_⟩
   have s7:Same H0 (upd H0 l7 (.lst [.int 5,.int 6,.int 7])):=Same.new hl7
   refine ⟨l7,rfl,⟨_,SqL.of Zab⟩,?_⟩
   refine ZbP (K:=K) (a:=l7) (xs:=([5,6,7]:List Int).map V.int) (λi σ' H'=>∃ (l:Addr) (xs:List V) (v2:Option V),σ'=[some (.int (n:Int)),some (.ref l),v2,none]/\Same H H'/\H l=none/\H' l=some (.lst xs)/\Prs H' xs (Zgv i)/\H' l7=some (.lst [.int 5,.int 6,.int 7])/\xs.length<=49+4 * i)
    ⟨l0,xs0,none,rfl,s0.trans s7,hl0,s7 _ _ el0,by have:=pr0.same s7;simpa [Zgv] using this,Zab,by have:=pr0.len;omega⟩ (λi σ' H2 _ h=>?_) ?_ ?_
   ·obtain ⟨_,_,_,_,_,_,_,_,e7,_⟩:=h
    exact SqL.of e7
   ·rintro i x σ' H2 hxi ⟨l,xs,v2,rfl,s2,hl,el,pr,e7,hxl⟩
    rw [List.getElem?_map] at hxi
    cases z:([5,6,7]:List Int)[i]? with
    | none=>rw [z] at hxi;cases hxi
    | some b=>
     rw [z] at hxi
     cases hxi
     have hi:=(List.getElem?_eq_some_iff.mp z).1
     have hi:i<3:=hi
     have hb:5<=b/\b<=7:=by
      have:=List.mem_of_getElem? z
      simp at this;omega
     dsimp only [Za7]
     refine ⟨_,rfl,_,rfl,ZaP,λt1 ht1=>?_⟩
     have sA:Same H2 (upd H2 t1 (.tup [.int 0,.int b])):=Same.new ht1
     refine ⟨_,rfl,ZaP,λt2 ht2=>?_⟩
     have sB:=sA.put (o:=.tup [.int 1,.int b]) (sA.free ht2)
     have et1:upd (upd H2 t1 (.tup [.int 0,.int b])) t2 (.tup [.int 1,.int b]) t1=some (.tup [.int 0,.int b]):=Zak Zab (Zae Zab ht2)
     have et2:upd (upd H2 t1 (.tup [.int 0,.int b])) t2 (.tup [.int 1,.int b]) t2=some (.tup [.int 1,.int b]):=Zab
     generalize upd (upd H2 t1 (.tup [.int 0,.int b])) t2 (.tup [.int 1,.int b])=H3 at sB et1 et2 ⊢
     refine ⟨(by show 2<=sizeLine;decide),λlb hlb=>?_⟩
     have sC:=sB.put (o:=.lst [.ref t1,.ref t2]) (sB.free hlb)
     have prb:Prs (upd H3 lb (.lst [.ref t1,.ref t2])) [.ref t1,.ref t2] [(0,b),(1,b)]:=Prs.keep (.cons (a:=0) (b:=b) et1 (.cons (a:=1) (b:=b) et2 .nil)) (ZaA hlb)
     have elb:upd H3 lb (.lst [.ref t1,.ref t2]) lb=some (.lst [.ref t1,.ref t2]):=Zab
     generalize upd H3 lb (.lst [.ref t1,.ref t2])=H4 at sC prb elb ⊢
     refine ⟨l,lb,xs,_,rfl,rfl,sC _ _ el,elb,(by show xs.length+2<=sizeLine;omega),λpn hpn=>?_⟩
     have sD:=sC.put (o:=.lst (xs++[.ref t1,.ref t2])) (sC.free hpn)
     have prd:Prs (upd H4 pn (.lst (xs++[.ref t1,.ref t2]))) (xs++[.ref t1,.ref t2]) (Zgv i++[(0,b),(1,b)]):=((pr.same sC).keep (ZaA hpn)).app (prb.keep (ZaA hpn))
     have epn:upd H4 pn (.lst (xs++[.ref t1,.ref t2])) pn=some (.lst (xs++[.ref t1,.ref t2])):=Zab
     have fpn:=(s2.trans sC).free hpn
     generalize upd H4 pn (.lst (xs++[.ref t1,.ref t2]))=H5 at sD prd epn ⊢
     refine ⟨_,rfl,_,_,rfl,⟨by omega,by omega,by omega,by omega⟩,λD hD=>?_⟩
     obtain ⟨m,em⟩:∃ m:Nat,b=5+(m:Int):=⟨(b-5).toNat,by omega⟩
     rw [show (b-5).toNat=m by omega]
     refine ZbS (lo:=5) (n:=m) (λj ys H6=>Same H5 H6/\H6 D=some (.lst ys)/\Prs H6 ys ((List.range j).map λ(a:Nat)=>(5+(a:Int),b))) ⟨Same.new hD,Zab,.nil⟩ ?_ ?_
     ·rintro j ys H6 hj ⟨s6,hD6,p6⟩
      refine ⟨⟨rfl,trivial⟩,?_⟩
      unfold Zjd
      refine Zcg ?_
      refine ⟨_,rfl,_,rfl,ZaP,λt ht=>?_⟩
      have hyl:ys.length<sizeLine:=by
       have:=p6.len
       rw [List.length_map,List.length_range] at this
       omega
      obtain ⟨a1,a2,a3⟩:=ZdR (a:=5+(j:Int)) (b:=b) s6 hD hD6 p6 ht
      refine ⟨Zak hD6 (Zae hD6 ht),hyl,a1,a2,?_⟩
      rw [List.range_succ,List.map_append]
      exact a3
     ·rintro ys H6 ⟨s6,hD6,p6⟩
      have hyl:=p6.len
      rw [List.length_map,List.length_range] at hyl
      refine ⟨pn,D,_,ys,rfl,rfl,s6 _ _ epn,hD6,(by rw [List.length_append];show xs.length+2+ys.length<=sizeLine;omega),λpm hpm=>?_⟩
      have s8:=(s2.trans sD).trans s6
      refine ⟨pm,_,_,rfl,s8.put (s8.free hpm),s8.free hpm,Zab,?_,Zak (s6 _ _ (sD _ _ e7)) (Zae (s6 _ _ (sD _ _ e7)) hpm),?_⟩
      ·rw [ZhY z,show (b-5).toNat=m by omega]
       exact ((prd.same s6).keep (ZaA hpm)).app (p6.keep (ZaA hpm))
      ·rw [List.length_append,List.length_append]
       show xs.length+2+ys.length<=_
       have:(m:Int)<=2:=by omega
       omega
   ·rintro σ' H2 ⟨l,xs,v2,rfl,s2,hl,el,pr,e7,hxl⟩
    exact hk _ _ ⟨l,xs,v2,rfl,s2,hl,el,pr⟩
  rintro σ' H2 ⟨l,xs,v2,rfl,s2,hl,el,pr⟩
  have hxl0:=pr.len
  have h3:(Zgv 3).length=19:=by decide
  refine ZaV (λσ' H'=>∃ (l:Addr) (xs:List V) (v3:Option V),σ'=[some (.int (n:Int)),some (.ref l),v2,v3]/\Same H H'/\H l=none/\H' l=some (.lst xs)/\Prs H' xs (Zgv 3++ZjF n)) ?sb ?fb
  case fb=>
   intro hk
   refine ⟨_,rfl,_,rfl,by omega,by omega,?_⟩
   rw [Int.toNat_natCast]
   refine Zbj (lo:=0) (λi σ' H'=>∃ (l:Addr) (xs:List V) (v3:Option V),σ'=[some (.int (n:Int)),some (.ref l),v2,v3]/\Same H H'/\H l=none/\H' l=some (.lst xs)/\Prs H' xs (Zgv 3++ZjF i)/\xs.length<=19+3 * i) ⟨l,xs,none,rfl,s2,hl,el,by simpa [ZjF] using pr,by omega⟩ ?_ λσ' H2 ⟨l,xs,v3,a,b,c,d,e,_⟩=>hk _ _ ⟨l,xs,v3,a,b,c,d,e⟩
   rintro i σ' H3 hi ⟨l,xs,v3,rfl,s3,hl,el,pr,hxl⟩
   rw [show (0:Int)+(i:Int)=(i:Int) by omega]
   dsimp only [Za7]
   have cm:CMul 2 (i:Int):=.inl ⟨by decide,by decide⟩
   refine ⟨_,rfl,_,rfl,_,_,rfl,rfl,_,rfl,_,_,rfl,rfl,cm,_,_,rfl,rfl,ZaP,λt1 ht1=>?_⟩
   have sA:Same H3 (upd H3 t1 (.tup [.int (2+(i:Int)),.int (8+2 * (i:Int))])):=Same.new ht1
   have et1:upd H3 t1 (.tup [.int (2+(i:Int)),.int (8+2 * (i:Int))]) t1=some (.tup [.int (2+(i:Int)),.int (8+2 * (i:Int))]):=Zab
   generalize upd H3 t1 (.tup [.int (2+(i:Int)),.int (8+2 * (i:Int))])=H4 at sA et1 ⊢
   refine ⟨_,rfl,_,_,rfl,rfl,_,rfl,_,_,rfl,rfl,cm,_,_,rfl,rfl,ZaP,λt2 ht2=>?_⟩
   have sB:Same H4 (upd H4 t2 (.tup [.int (2+(i:Int)),.int (9+2 * (i:Int))])):=Same.new ht2
   have et2:upd H4 t2 (.tup [.int (2+(i:Int)),.int (9+2 * (i:Int))]) t2=some (.tup [.int (2+(i:Int)),.int (9+2 * (i:Int))]):=Zab
   generalize upd H4 t2 (.tup [.int (2+(i:Int)),.int (9+2 * (i:Int))])=H5 at sB et2 ⊢
   refine ⟨_,rfl,_,_,rfl,rfl,cm,_,_,rfl,rfl,_,rfl,_,_,rfl,rfl,cm,_,_,rfl,rfl,ZaP,λt3 ht3=>?_⟩
   have sC:Same H5 (upd H5 t3 (.tup [.int (8+2 * (i:Int)),.int (9+2 * (i:Int))])):=Same.new ht3
   have et3:upd H5 t3 (.tup [.int (8+2 * (i:Int)),.int (9+2 * (i:Int))]) t3=some (.tup [.int (8+2 * (i:Int)),.int (9+2 * (i:Int))]):=Zab
   generalize upd H5 t3 (.tup [.int (8+2 * (i:Int)),.int (9+2 * (i:Int))])=H6 at sC et3 ⊢
   refine ⟨(by show 3<=sizeLine;decide),λlb hlb=>?_⟩
   have pr3:Prs H6 [.ref t1,.ref t2,.ref t3] [(2+(i:Int),8+2 * (i:Int)),(2+(i:Int),9+2 * (i:Int)),(8+2 * (i:Int),9+2 * (i:Int))]:=Zpf (sC _ _ (sB _ _ et1)) (sC _ _ et2) et3
   have sE:=(sA.trans sB).trans sC
   have s7:=sE.put (o:=.lst [.ref t1,.ref t2,.ref t3]) (sE.free hlb)
   have elb:upd H6 lb (.lst [.ref t1,.ref t2,.ref t3]) lb=some (.lst [.ref t1,.ref t2,.ref t3]):=Zab
   have pr4:=pr3.keep (ZaA (o:=.lst [.ref t1,.ref t2,.ref t3]) hlb)
   generalize upd H6 lb (.lst [.ref t1,.ref t2,.ref t3])=H7 at s7 elb pr4 ⊢
   refine ⟨l,lb,xs,_,rfl,rfl,s7 _ _ el,elb,(by show xs.length+3<=sizeLine;omega),λpn hpn=>?_⟩
   have s8:=s3.trans s7
   refine ⟨pn,_,_,rfl,s8.put (s8.free hpn),s8.free hpn,Zab,?_,by rw [List.length_append];show xs.length+3<=_;omega⟩
   rw [ZhX,<-List.append_assoc]
   exact ((pr.same s7).keep (ZaA hpn)).app (pr4.keep (ZaA hpn))
  rintro σ' H3 ⟨l,xs,v3,rfl,s3,hl,el,pr⟩
  refine ⟨_,rfl,_,_,rfl,rfl,.inl ⟨by decide,by decide⟩,_,_,rfl,rfl,_,rfl,ZaP,λt ht=>?_⟩
  have s4:=s3.put (o:=.tup [.int (8+2 * (n:Int)),.ref l]) (s3.free ht)
  have et:upd H3 t (.tup [.int (8+2 * (n:Int)),.ref l]) t=some (.tup [.int (8+2 * (n:Int)),.ref l]):=Zab
  have el4:upd H3 t (.tup [.int (8+2 * (n:Int)),.ref l]) l=some (.lst xs):=Zak el (Zae el ht)
  have pr4:=pr.keep (ZaA (o:=.tup [.int (8+2 * (n:Int)),.ref l]) ht)
  generalize upd H3 t (.tup [.int (8+2 * (n:Int)),.ref l])=H4 at s4 et el4 pr4 ⊢
  refine ⟨_,rfl,_,_,rfl,rfl,(by show 3<=sizeLine;decide),λr hr'=>?_⟩
  refine q r t l xs _ (s4.put (s4.free hr')) (s4.free hr') (s3.free ht) hl Zab (Zak et (Zae et hr')) (Zak el4 (Zae el4 hr')) ?_
  have e:Zms (n:Int)=Zgv 3++ZjF n:=by
   unfold Zms Zgv ZjF
   rw [Int.toNat_natCast]
   rfl
  rw [e]
  exact pr4.keep (ZaA hr')
end
end M
namespace M
open PySem L2
section
variable {P:Program} {w:World} {K:PySem.W.Frag} {mg:Str->Option Value} {base:Heap}
def Zmz:Sp:=λvs H Q _=>∃ (n:Nat),vs=[.int (n:Int)]/\n<8/\∀ (r t l:Addr) (xs:List V) (H':Hp),Same H H'->H r=none->H t=none->H l=none->H' r=some (.lst [.ref t,.int (knw (n:Int)).2.2.1,.int (knw (n:Int)).2.2.2])->WebAt H' t l (knw (n:Int)).1 xs (knw (n:Int)).2.1->Q (.ref r) H'
theorem scKno:Zav ["way", "many", "places", "roads"] ["way"] (Zaf ZkD):=⟨rfl,rfl,rfl,by decide +kernel,rfl,by decide +kernel,by decide +kernel⟩
theorem ZmA {f fBl fCh fRk:Addr} {fd fdBl fdCh fdRk:FuncData} (F:Fun K "_law_known" "_law_known" ZkD f fd) (FBl:Fun K "_law_block" "_law_block" Zh2 fBl fdBl) (bBl:Binds K fdBl ["first", "many", "lacking"] []) (mBl:mg "_law_block" = some (.ref fBl)) (GBl:ZaO P w K mg base CX0 1 fBl fdBl ["first", "many", "lacking"] Zi3)
  (FCh:Fun K "_law_chain" "_law_chain" ZkB fCh fdCh) (bCh:Binds K fdCh ["sizes"] []) (mCh:mg "_law_chain" = some (.ref fCh)) (GCh:ZaO P w K mg base CX0 2 fCh fdCh ["sizes"] Zmv)
  (FRk:Fun K "_law_rings_known" "_law_rings_known" ZkC fRk fdRk) (bRk:Binds K fdRk ["few"] []) (mRk:mg "_law_rings_known" = some (.ref fRk)) (GRk:ZaO P w K mg base CX0 2 fRk fdRk ["few"] Zmx) (mInt:mg "int" = none):ZaO P w K mg base CX0 3 f fd ["way"] Zmz:=by
 refine F.ok scKno (λvs H Q E h=>?_) (λcdv A outer s H vs Q E hr h=>?_)
 ·obtain ⟨_,rfl,_⟩:=h
  rfl
 ·obtain ⟨n,rfl,hn,q⟩:=h
  have h16:(16777216:Nat)=sizeLine:=sizeLine_eq.symm
  refine ⟨_,Zag (ZaX (Zay Zei (pv 0) Zad (ZaF _)) (Zai (Zau (Zan GRk (hr.mono (by decide)) rfl mRk FRk.kp bRk .nil ZaQ (Zaa (Zas ZbC (pv 0) Zad) Zac)))) ZaC)
    (Zag (ZaX (Zay Zei (pv 0) Zad (ZaF _)) (Zag (Zax (i:=1) scKno.nd rfl (Or.inl rfl) (Zaw (Zbz K) (ZaB (Zaa Zad (Zaa Zad Zac))) (Za4 ZbD rfl mInt Zcj (Zaa (Zb8 ZdK (pv 0) Zad (ZaF _)) Zac)) (λ_ _=>rfl)))
    (Zai (Zau (ZaB (Zaa (ZaR (Zaa (pv 1) (Zaa (Zan GBl (hr.mono (by decide)) rfl mBl FBl.kp bBl .nil ZaQ (Zaa Zad (Zaa (pv 1) (Zaa Zbo Zac)))) Zac))) (Zaa (Zaw (Zbz K) (ZaB (Zaa Zad (Zaa Zad Zac))) (Zas ZbC (pv 1) Zad) (λ_ _=>rfl)) (Zaa (Zaw (Zbz K) (ZaB (Zaa Zad (Zaa Zad Zac))) (Zas ZbC (pv 1) Zad) (λ_ _=>rfl)) Zac))))))) ZaC)
    (Zag (Zfu (Zan GCh (hr.mono (by decide)) rfl mCh FCh.kp bCh .nil ZaQ (Zaa (Zaw (Zbz K) (ZaB (Zaa (ZaB (Zaa Zad (Zaa Zad (Zaa Zad (Zaa Zad Zac))))) (Zaa (ZaB (Zaa Zad (Zaa Zad (Zaa Zad (Zaa Zad Zac))))) (Zaa (ZaB (Zaa Zad (Zaa Zad (Zaa Zad Zac)))) Zac)))) (pv 0) (λ_ _=>rfl)) Zac)) (ZlC K (n:=2) rfl (ZaI (Zar (i:=2) scKno.nd rfl (Or.inl rfl)) (ZaI (Zar (i:=3) scKno.nd rfl (Or.inl rfl)) Zb7))))
    (Zag (ZaX (Zay ZdK (pv 0) Zad (ZaF _)) (Zai (Za2 (ZcT PySem.F.plainAttrs_list PySem.F.slot_list_append PySem.F.type_list_append Za5 (pv 3) (Zaa (ZaR (Zaa Zad (Zaa (Zas ZbC (pv 2) Zad) Zac))) Zac)))) ZaC)
    (Zai (Zau (ZaB (Zaa (ZaR (Zaa (pv 2) (Zaa (pv 3) Zac))) (Zaa (Zaw (Zbz K) (ZaB (Zaa Zad (Zaa Zad (Zaa Zad Zac)))) (pv 0) (λ_ _=>rfl)) (Zaa Zad Zac))))))))),?_⟩
  refine ⟨_,rfl,_,_,rfl,rfl,_,rfl,ZcQ (λh4=>?_) (λh4=>?_)⟩
  ·have h4:(n:Int) > 4:=of_decide_eq_true h4
   refine ⟨_,rfl,_,_,rfl,rfl,n-5,?_,by omega,λr t l xs H1 s1 hr0 ht0 hl0 er et el pr=>?_⟩
   ·simp;omega
   ·have ek:knw (n:Int)=(8+2 * (((n-5:Nat)):Int),Zms ((n-5:Nat):Int),0,299+((n-5:Nat):Int)):=by
     unfold knw
     rw [if_pos h4,show (n:Int)-5=((n-5:Nat):Int) by omega]
    refine q r t l xs H1 s1 hr0 ht0 hl0 ?_ ⟨?_,el,?_⟩
    ·rw [ek];exact er
    ·rw [ek];exact et
    ·rw [ek];exact pr
  have h4:¬ (n:Int) > 4:=λz=>h4 (decide_eq_true z)
  refine ⟨_,rfl,_,_,rfl,rfl,_,rfl,ZcQ (λh2=>?_) (λh2=>?_)⟩
  ·have h2:(n:Int) > 2:=of_decide_eq_true h2
   have h34:n=3\/n=4:=by omega
   rcases h34 with rfl | rfl
   ·refine ⟨(by show 2<=sizeLine;decide),λl2 hl2=>?_⟩
    have s2:Same H (upd H l2 (.lst [.int 6,.int 7])):=Same.new hl2
    refine ⟨_,rfl,rfl,.inr ⟨_,rfl,l2,_,_,_,rfl,rfl,SqL.of Zab,(show atI [V.int 6,V.int 7] (if decide (V.int 3=V.int 4)=true then 1 else 0)=some (.int 6) from rfl),?_⟩⟩
    dsimp only [Za7]
    generalize upd H l2 (.lst [.int 6,.int 7])=H2 at s2 ⊢
    refine ⟨_,rfl,_,rfl,0,6,false,rfl,by omega,by omega,by omega,by omega,λl xs H3 s3 hl el pr ln=>?_⟩
    have s4:=s2.trans s3
    refine ⟨ZaP,λt ht=>?_⟩
    have s5:=s4.put (o:=.tup [.int 6,.ref l]) (s4.free ht)
    have et:upd H3 t (.tup [.int 6,.ref l]) t=some (.tup [.int 6,.ref l]):=Zab
    have el5:upd H3 t (.tup [.int 6,.ref l]) l=some (.lst xs):=Zak el (Zae el ht)
    have pr5:=pr.keep (ZaA (o:=.tup [.int 6,.ref l]) ht)
    generalize upd H3 t (.tup [.int 6,.ref l])=H5 at s5 et el5 pr5 ⊢
    refine ⟨(by show 2<=sizeLine;decide),λl6 hl6=>?_⟩
    have s6:Same H5 (upd H5 l6 (.lst [.int 65,.int 326])):=Same.new hl6
    refine ⟨_,rfl,_,_,rfl,rfl,l6,_,_,_,rfl,rfl,SqL.of Zab,Zal (j:=0) rfl,?_⟩
    generalize upd H5 l6 (.lst [.int 65,.int 326])=H6 at s6 ⊢
    refine ⟨(by show 2<=sizeLine;decide),λl7 hl7=>?_⟩
    have s7:Same H6 (upd H6 l7 (.lst [.int 197,.int 1172])):=Same.new hl7
    refine ⟨_,rfl,_,_,rfl,rfl,l7,_,_,_,rfl,rfl,SqL.of Zab,Zal (j:=0) rfl,?_⟩
    generalize upd H6 l7 (.lst [.int 197,.int 1172])=H7 at s7 ⊢
    refine ⟨(by show 3<=sizeLine;decide),λr hr'=>?_⟩
    have s8:=s6.trans s7
    have s9:=s5.trans s8
    have et9:=s8 _ _ et
    have el9:=s8 _ _ el5
    exact q r t l xs _ (s9.put (s9.free hr')) (s9.free hr') (s4.free ht) (s2.free hl) Zab ⟨Zak et9 (Zae et9 hr'),Zak el9 (Zae el9 hr'),(pr5.same s8).keep (ZaA hr')⟩
   ·refine ⟨(by show 2<=sizeLine;decide),λl2 hl2=>?_⟩
    have s2:Same H (upd H l2 (.lst [.int 6,.int 7])):=Same.new hl2
    refine ⟨_,rfl,rfl,.inr ⟨_,rfl,l2,_,_,_,rfl,rfl,SqL.of Zab,(show atI [V.int 6,V.int 7] (if decide (V.int 4=V.int 4)=true then 1 else 0)=some (.int 7) from rfl),?_⟩⟩
    dsimp only [Za7]
    generalize upd H l2 (.lst [.int 6,.int 7])=H2 at s2 ⊢
    refine ⟨_,rfl,_,rfl,0,7,false,rfl,by omega,by omega,by omega,by omega,λl xs H3 s3 hl el pr ln=>?_⟩
    have s4:=s2.trans s3
    refine ⟨ZaP,λt ht=>?_⟩
    have s5:=s4.put (o:=.tup [.int 7,.ref l]) (s4.free ht)
    have et:upd H3 t (.tup [.int 7,.ref l]) t=some (.tup [.int 7,.ref l]):=Zab
    have el5:upd H3 t (.tup [.int 7,.ref l]) l=some (.lst xs):=Zak el (Zae el ht)
    have pr5:=pr.keep (ZaA (o:=.tup [.int 7,.ref l]) ht)
    generalize upd H3 t (.tup [.int 7,.ref l])=H5 at s5 et el5 pr5 ⊢
    refine ⟨(by show 2<=sizeLine;decide),λl6 hl6=>?_⟩
    have s6:Same H5 (upd H5 l6 (.lst [.int 65,.int 326])):=Same.new hl6
    refine ⟨_,rfl,_,_,rfl,rfl,l6,_,_,_,rfl,rfl,SqL.of Zab,Zal (j:=1) rfl,?_⟩
    generalize upd H5 l6 (.lst [.int 65,.int 326])=H6 at s6 ⊢
    refine ⟨(by show 2<=sizeLine;decide),λl7 hl7=>?_⟩
    have s7:Same H6 (upd H6 l7 (.lst [.int 197,.int 1172])):=Same.new hl7
    refine ⟨_,rfl,_,_,rfl,rfl,l7,_,_,_,rfl,rfl,SqL.of Zab,Zal (j:=1) rfl,?_⟩
    generalize upd H6 l7 (.lst [.int 197,.int 1172])=H7 at s7 ⊢
    refine ⟨(by show 3<=sizeLine;decide),λr hr'=>?_⟩
    have s8:=s6.trans s7
    have s9:=s5.trans s8
    have et9:=s8 _ _ et
    have el9:=s8 _ _ el5
    exact q r t l xs _ (s9.put (s9.free hr')) (s9.free hr') (s4.free ht) (s2.free hl) Zab ⟨Zak et9 (Zae et9 hr'),Zak el9 (Zae el9 hr'),(pr5.same s8).keep (ZaA hr')⟩
  ·have h2:¬ (n:Int) > 2:=λz=>h2 (decide_eq_true z)
   refine ⟨(by show 4<=sizeLine;decide),λp1 hp1=>?_⟩
   have s1:Same H (upd H p1 (.lst [.int 4,.int 5,.int 3,.int 3])):=Same.new hp1
   have e1:upd H p1 (.lst [.int 4,.int 5,.int 3,.int 3]) p1=some (.lst (([4,5,3,3]:List Int).map V.int)):=Zab
   generalize upd H p1 (.lst [.int 4,.int 5,.int 3,.int 3])=H1 at s1 e1 ⊢
   refine ⟨(by show 4<=sizeLine;decide),λp2 hp2=>?_⟩
   have s2:Same H1 (upd H1 p2 (.lst [.int 4,.int 5,.int 3,.int 3])):=Same.new hp2
   have e2:upd H1 p2 (.lst [.int 4,.int 5,.int 3,.int 3]) p2=some (.lst (([4,5,3,3]:List Int).map V.int)):=Zab
   generalize upd H1 p2 (.lst [.int 4,.int 5,.int 3,.int 3])=H2 at s2 e2 ⊢
   refine ⟨(by show 3<=sizeLine;decide),λp3 hp3=>?_⟩
   have s3:Same H2 (upd H2 p3 (.lst [.int 4,.int 5,.int 4])):=Same.new hp3
   have e3:upd H2 p3 (.lst [.int 4,.int 5,.int 4]) p3=some (.lst (([4,5,4]:List Int).map V.int)):=Zab
   generalize upd H2 p3 (.lst [.int 4,.int 5,.int 4])=H3 at s3 e3 ⊢
   refine ⟨(by show 3<=sizeLine;decide),λp4 hp4=>?_⟩
   have s4:Same H3 (upd H3 p4 (.lst [.ref p1,.ref p2,.ref p3])):=Same.new hp4
   have e4:upd H3 p4 (.lst [.ref p1,.ref p2,.ref p3]) p4=some (.lst [.ref p1,.ref p2,.ref p3]):=Zab
   generalize upd H3 p4 (.lst [.ref p1,.ref p2,.ref p3])=H4 at s4 e4 ⊢
   have t1:=s4 _ _ (s3 _ _ (s2 _ _ e1))
   have t2:=s4 _ _ (s3 _ _ e2)
   have t3:=s4 _ _ e3
   have s04:=((s1.trans s2).trans s3).trans s4
   obtain ⟨sl,szs,esl,eat,hsz,hsl,ek1,ek2,ek3⟩:∃ (sl:Addr) (szs:List Int),H4 sl=some (.lst (szs.map V.int))/\atI [V.ref p1,V.ref p2,V.ref p3] (n:Int)=some (.ref sl)/\(∀ x∈szs,3<=x/\x<=5)/\szs.length<=4/\(knw (n:Int)).1=(Zby szs 0).2+1/\(knw (n:Int)).2.1=(Zby szs 0).1++(if n=1 then [(0,(Zby szs 0).2)] else [])/\(knw (n:Int)).2.2.2=0:=by
    have h3:n=0\/n=1\/n=2:=by omega
    rcases h3 with rfl | rfl | rfl
    ·exact ⟨p1,[4,5,3,3],t1,rfl,by decide,by decide,rfl,by decide,rfl⟩
    ·exact ⟨p2,[4,5,3,3],t2,rfl,by decide,by decide,rfl,by decide,rfl⟩
    ·exact ⟨p3,[4,5,4],t3,rfl,by decide,by decide,rfl,by decide,rfl⟩
   refine ⟨_,rfl,p4,_,_,_,rfl,rfl,SqL.of e4,eat,sl,szs,rfl,esl,hsz,hsl,λt l xs H5 s5 ht hl et el pr ln=>?_⟩
   have hxl:=pr.len
   have s05:=s04.trans s5
   refine ⟨t,_,rfl,SqT.of et,rfl,_,_,rfl,_,_,rfl,rfl,?_⟩
   dsimp only
   refine ZaV (λσ' H'=>∃ xs':List V,σ'=[some (.int (n:Int)),none,some (.int ((Zby szs 0).2+1)),some (.ref l)]/\Same H H'/\H' l=some (.lst xs')/\Prs H' xs' (knw (n:Int)).2.1) ?sz ?fz
   case fz=>
    intro hk
    refine ⟨_,rfl,rfl,_,rfl,ZcQ (λh1=>?_) (λh1=>?_)⟩
    ·have h1:n=1:=by
      have:=V.int.inj (of_decide_eq_true h1)
      omega
     refine ⟨_,rfl,.inl ⟨rfl,_,SqL.of el⟩,_,rfl,_,_,rfl,rfl,ZaP,λu hu=>?_⟩
     obtain ⟨a1,a2,a3⟩:=ZdR (a:=0) (b:=(Zby szs 0).2+1-1) s5 hl el pr (t:=u) hu
     have e0:(Zby szs 0).2+1-1=(Zby szs 0).2:=by omega
     refine ⟨l,xs,_,rfl,rfl,Zak el (Zae el hu),by omega,?_⟩
     refine hk _ _ ⟨_,rfl,s04.trans a1,a2,?_⟩
     rw [ek2,if_pos h1]
     have e1:(Zby szs 0).1++[((0:Int),(Zby szs 0).2+1-1)]=(Zby szs 0).1++[(0,(Zby szs 0).2)]:=by rw [e0]
     rw [<-e1]
     exact a3
    ·have h1:n≠1:=λz=>h1 (decide_eq_true (by rw [z];rfl))
     refine hk _ _ ⟨xs,rfl,s05,el,?_⟩
     rw [ek2,if_neg h1,List.append_nil]
     exact pr
   rintro σ' H6 ⟨xs',rfl,s6,el6,pr6⟩
   refine ⟨_,rfl,_,rfl,ZaP,λt2 ht2=>?_⟩
   have s7:=s6.put (o:=.tup [.int ((Zby szs 0).2+1),.ref l]) (s6.free ht2)
   have et7:upd H6 t2 (.tup [.int ((Zby szs 0).2+1),.ref l]) t2=some (.tup [.int ((Zby szs 0).2+1),.ref l]):=Zab
   have el7:upd H6 t2 (.tup [.int ((Zby szs 0).2+1),.ref l]) l=some (.lst xs'):=Zak el6 (Zae el6 ht2)
   have pr7:=pr6.keep (ZaA (o:=.tup [.int ((Zby szs 0).2+1),.ref l]) ht2)
   generalize upd H6 t2 (.tup [.int ((Zby szs 0).2+1),.ref l])=H7 at s7 et7 el7 pr7 ⊢
   refine ⟨(by show 3<=sizeLine;decide),λl8 hl8=>?_⟩
   have s8:Same H7 (upd H7 l8 (.lst [.int 300,.int 301,.int 375])):=Same.new hl8
   have eat2:atI [V.int 300,V.int 301,V.int 375] (n:Int)=some (.int (knw (n:Int)).2.2.1):=by
    have h3:n=0\/n=1\/n=2:=by omega
    rcases h3 with rfl | rfl | rfl <;> rfl
   refine ⟨_,rfl,l8,_,_,_,rfl,rfl,SqL.of Zab,eat2,?_⟩
   generalize upd H7 l8 (.lst [.int 300,.int 301,.int 375])=H8 at s8 ⊢
   refine ⟨(by show 3<=sizeLine;decide),λr hr'=>?_⟩
   have s9:=s7.trans s8
   have et9:=s8 _ _ et7
   have el9:=s8 _ _ el7
   refine q r t2 l xs' _ (s9.put (s9.free hr')) (s9.free hr') (s6.free ht2) (s04.free hl) ?_ ⟨?_,Zak el9 (Zae el9 hr'),(pr7.same s8).keep (ZaA hr')⟩
   ·rw [Zab,ek3]
   ·rw [ek1];exact Zak et9 (Zae et9 hr')
end
end M
namespace M
open PySem L2
section
variable {P:Program} {w:World} {K:PySem.W.Frag} {mg:Str->Option Value} {base:Heap}
theorem ZeR {H:Hp}:∀ {xs:List V} {rs:List (Int×Int)},Prs H xs rs->∀ n:Nat,Prs H (xs.take n) (rs.take n)
 | _,_,.nil,n=>by rw [List.take_nil,List.take_nil];exact .nil
 | _,_,.cons _ _,0=>.nil
 | _,_,.cons e r,n+1=>.cons e (ZeR r n)
theorem ZdH {α β:Type} (f:α->β):∀ (l:List α) (k:Nat),(l.map f).eraseIdx k=(l.eraseIdx k).map f
 | [],_=>rfl
 | _::_,0=>rfl
 | x::r,k+1=>by
  rw [List.map_cons,List.eraseIdx_cons_succ,List.eraseIdx_cons_succ,List.map_cons,ZdH f r k]
theorem Zi4 {n:Nat} (h:n<1024):Lt2 9000 (n:Int):=Nat.lt_of_lt_of_le (show ((n:Int)).natAbs<2 ^ 10 by omega) (Nat.pow_le_pow_right (by decide) (by decide))
def rgI (k:Nat):List Int:=(List.range k).map λ(i:Nat)=>(i:Int)
theorem ZnL (m:Nat):(List.range m).map (λi=>V.int ((i:Nat):Int))=(rgI m).map V.int:=by
 unfold rgI
 rw [List.map_map]
 rfl
theorem Zdn (m:Nat):(rgI m).length=m:=by
 unfold rgI
 rw [List.length_map,List.length_range]
def ren (an:List Int) (p:Int×Int):Int×Int:=ZaW (an.getD p.1.toNat 0) (an.getD p.2.toNat 0)
def ZmB:Sp:=λvs H Q _=>∃ (d wb l:Addr) (n:Int) (k:Nat) (xs:List V) (rs:List (Int×Int)),vs=[.ref d,.ref wb]/\H d=some (.lst [.int n])/\l≠d/\WebAt H wb l (k:Int) xs rs/\Zah (k:Int) rs /\
 ∀ (r t l':Addr) (xs':List V) (an:List Int) (rs':List (Int×Int)) (H':Hp),Dk H H' d->H r=none->H t=none->H l'=none->H' r=some (.lst [.ref t,.int (an.getD 0 0),.int (an.getD (k-1) 0)])->WebAt H' t l' (k:Int) xs' rs'->an.Perm (rgI k)->rs'.Perm (rs.map (ren an))->Q (.ref r) H'
theorem scTur:Zav ["deck", "web", "left", "anew", "k", "roads", "a", "b", "road"] ["deck", "web"] (Zaf ZkE):=⟨rfl,rfl,rfl,by decide +kernel,rfl,by decide +kernel,by decide +kernel⟩
theorem ZmC {f fT:Addr} {fd fdT:FuncData} (F:Fun K "_law_turned" "_law_turned" ZkE f fd) (FT:Fun K "_law_take" "_law_take" ZeH fT fdT) (bT:Binds K fdT ["deck", "many"] []) (mT:mg "_law_take" = some (.ref fT))
  (mRange:mg "range" = none) (mLst:mg "list" = none) (mLen:mg "len" = none) (mMin:mg "min" = none) (mMax:mg "max" = none):ZaO P w K mg base CX0 2 f fd ["deck", "web"] ZmB:=by
 have GT:ZaO P w K mg base CX0 1 fT fdT ["deck", "many"] Zhu:=Zhv FT
 refine F.ok scTur (λvs H Q E h=>?_) (λcdv A outer s H vs Q E hr h=>?_)
 ·obtain ⟨_,_,_,_,_,_,_,rfl,_⟩:=h
  rfl
 ·obtain ⟨d,wb,l,n,k,xs,rs,rfl,hd,hld,W,g,q⟩:=h
  have h16:(16777216:Nat)=sizeLine:=sizeLine_eq.symm
  have hu:=hr.units
  have k1:1<=k:=by have:=g.1;omega
  have k2:k<=16:=by have:=g.2.1;omega
  refine ⟨_,Zag (Zax (i:=2) scTur.nd rfl (Or.inl rfl) (Za4 (ZdS rfl) rfl mLst ZbH (Zaa (Zj2 rfl mRange (Zaa (Zaw (Zck K) (pv 1) Zad (λ_ _=>rfl)) Zac)) Zac)))
    (Zag (Zax (i:=3) scTur.nd rfl (Or.inl rfl) (ZaB Zac))
    (Zag (Zbf PassesOwn.never rfl (Za9 rfl mRange (Zaa (Zaw (Zck K) (pv 1) Zad (λ_ _=>rfl)) Zac)) (Zar (i:=4) scTur.nd rfl (Or.inl rfl))
    (Zai (Za2 (ZcT PySem.F.plainAttrs_list PySem.F.slot_list_append PySem.F.type_list_append Za5 (pv 3) (Zaa (ZcT PySem.F.plainAttrs_list PySem.F.slot_list_pop PySem.F.type_list_pop Zia (pv 2) (Zaa (Zan GT (hr.mono (by decide)) rfl mT FT.kp bT .nil ZaQ (Zaa (pv 0) (Zaa (Zat (Zgd K) rfl mLen PySem.boot_len (Zaa (pv 2) Zac)) Zac))) Zac)) Zac)))))
    (Zag (Zax (i:=5) scTur.nd rfl (Or.inl rfl) (ZaB Zac))
    (Zag (Zbf PassesOwn.never rfl (ZcF K (Zaw (Zck K) (pv 1) Zad (λ_ _=>rfl))) (ZlC K (n:=2) rfl (ZaI (Zar (i:=6) scTur.nd rfl (Or.inl rfl)) (ZaI (Zar (i:=7) scTur.nd rfl (Or.inl rfl)) Zb7)))
    (Zag (Zax (i:=8) scTur.nd rfl (Or.inl rfl) (ZaR (Zaa (Zat (ZgJ rfl) rfl mMin Zie (Zaa (Zaw (Zbz K) (pv 3) (pv 6) (λ_ _=>rfl)) (Zaa (Zaw (Zbz K) (pv 3) (pv 7) (λ_ _=>rfl)) Zac))) (Zaa (Zat (ZgI rfl) rfl mMax ZiJ (Zaa (Zaw (Zbz K) (pv 3) (pv 6) (λ_ _=>rfl)) (Zaa (Zaw (Zbz K) (pv 3) (pv 7) (λ_ _=>rfl)) Zac))) Zac))))
    (Zai (Za2 (ZcT PySem.F.plainAttrs_list PySem.F.slot_list_insert PySem.F.type_list_insert Zg1 (pv 5) (Zaa (Zan GT (hr.mono (by decide)) rfl mT FT.kp bT .nil ZaQ (Zaa (pv 0) (Zaa (Zas ZaL (Zat (Zgd K) rfl mLen PySem.boot_len (Zaa (pv 5) Zac)) Zad) Zac))) (Zaa (pv 8) Zac)))))))
    (Zai (Zau (ZaB (Zaa (ZaR (Zaa (Zaw (Zck K) (pv 1) Zad (λ_ _=>rfl)) (Zaa (pv 5) Zac))) (Zaa (Zaw (Zbz K) (pv 3) Zad (λ_ _=>rfl)) (Zaa (Zaw (Zbz K) (pv 3) (ZeW Zb9 Zad) (λ_ _=>rfl)) Zac)))))))))),?_⟩
  refine ⟨_,rfl,wb,_,_,_,rfl,rfl,SqT.of W.w,Zal (j:=0) rfl,_,rfl,λr hr'=>⟨r,k,rfl,Zab,by omega,λlf hlf=>?_⟩⟩
  have D0:=((Dk.start hd).new (o:=.rng 0 (k:Int)) hr').new (o:=.lst ((List.range k).map λi=>V.int ((i:Nat):Int))) hlf
  have hlf0:H lf=none:=(((Dk.start hd).new (o:=.rng 0 (k:Int)) hr')).free hlf
  have hdl:d≠lf:=(((Dk.start hd).new (o:=.rng 0 (k:Int)) hr')).ne hlf
  have elf:upd (upd H r (.rng 0 (k:Int))) lf (.lst ((List.range k).map λi=>V.int ((i:Nat):Int))) lf=some (.lst ((rgI k).map V.int)):=by rw [Zab,ZnL]
  generalize upd (upd H r (.rng 0 (k:Int))) lf (.lst ((List.range k).map λi=>V.int ((i:Nat):Int)))=H1 at D0 elf ⊢
  have hwd:wb≠d:=λz=>by have:=W.w;rw [z,hd] at this;cases this
  have ww:∀ {H':Hp},Dk H H' d->H' wb=some (.tup [.int (k:Int),.ref l]):=λD=>D.keep _ _ hwd W.w
  have wl:∀ {H':Hp},Dk H H' d->H' l=some (.lst xs):=λD=>D.keep _ _ hld W.l
  have wp:∀ {H':Hp},Dk H H' d->Prs H' xs rs:=λD=>W.p.keep (D.tups hd)
  refine ⟨Nat.zero_le _,λlo hlo=>?_⟩
  have D1:=D0.new (o:=.lst []) hlo
  have hlo0:=D0.free hlo
  have hdo:=D0.ne hlo
  have hfo:lf≠lo:=Zae elf hlo
  dsimp only [Za7]
  refine ZaV (λσ' H'=>∃ (an:List Int) (v4:Option V),σ'=[some (.ref d),some (.ref wb),some (.ref lf),some (.ref lo),v4,none,none,none,none]/\Dk H H' d/\H' lo=some (.lst (an.map V.int))/\an.Perm (rgI k)) ?sa ?fa
  case fa=>
   intro hk'
   refine ⟨_,rfl,wb,_,_,_,rfl,rfl,SqT.of (ww D1),Zal (j:=0) rfl,_,rfl,by omega,by omega,?_⟩
   rw [Int.toNat_natCast]
   refine Zbj (lo:=0) (λi σ H2=>∃ (ls os:List Int) (v:Option V),σ=[some (.ref d),some (.ref wb),some (.ref lf),some (.ref lo),v,none,none,none,none]/\Dk H H2 d/\H2 lf=some (.lst (ls.map V.int))/\H2 lo=some (.lst (os.map V.int))/\(os++ls).Perm (rgI k)/\os.length=i)
    ⟨rgI k,[],none,rfl,D1,Zak elf hfo,Zab,List.Perm.refl _,rfl⟩ ?_ ?_
   ·rintro i σ H2 hi ⟨ls,os,v,rfl,D2,e1,e2,pm,ho⟩
    obtain ⟨n2,e3⟩:=D2.at_
    have hlen:=pm.length_eq
    rw [List.length_append,Zdn] at hlen
    have hll:(ls.map V.int).length=ls.length:=List.length_map ..
    refine ⟨_,rfl,.inl ⟨rfl,_,SqL.of e2⟩,_,rfl,.inl ⟨rfl,_,SqL.of e1⟩,_,rfl,_,rfl,lf,_,rfl,.inl (SqL.of e1),d,n2,_,rfl,e3,(by rw [hll];omega),(by rw [hll];exact Zi4 (by omega)),λn3 r3 h30 h31=>?_⟩
    rw [hll] at h31
    have hk:r3.toNat<ls.length:=by omega
    have hy:ls[r3.toNat]?=some ls[r3.toNat]:=List.getElem?_eq_getElem hk
    refine ⟨lf,_,r3,r3.toNat,.int ls[r3.toNat],rfl,rfl,Zak e1 (Ne.symm hdl),by omega,by omega,Znk h30 (by rw [hll];exact h31),by rw [List.getElem?_map,hy];rfl,?_⟩
    refine ⟨lo,_,_,rfl,rfl,Zak (Zak e2 (Ne.symm hdo)) (Ne.symm hfo),by rw [List.length_map];omega,?_⟩
    refine ⟨ls.eraseIdx r3.toNat,os++[ls[r3.toNat]],_,rfl,((D2.take n3).put hlf0 hdl).put hlo0 hdo,?_,?_,(ZfE ls os r3.toNat _ hy).trans pm,by rw [List.length_append,List.length_singleton,ho]⟩
    ·rw [Zam hfo,Zab,ZdH]
    ·rw [Zab,List.map_append]
     rfl
   ·rintro σ H2 ⟨ls,os,v,rfl,D2,e1,e2,pm,ho⟩
    have hlen:=pm.length_eq
    rw [List.length_append,Zdn] at hlen
    have hls:ls=[]:=List.eq_nil_of_length_eq_zero (by omega)
    subst hls
    rw [List.append_nil] at pm
    exact hk' _ _ ⟨os,v,rfl,D2,e2,pm⟩
  rintro σ' H2 ⟨an,v4,rfl,D2,ean,pm⟩
  have anl:an.length=k:=by rw [pm.length_eq,Zdn]
  refine ⟨Nat.zero_le _,λlr hlr=>?_⟩
  have D3:=D2.new (o:=.lst []) hlr
  have hlr0:=D2.free hlr
  have hdr:=D2.ne hlr
  have hor:lo≠lr:=Zae ean hlr
  dsimp only [Za7]
  refine ZaV (λσ' H'=>∃ (xs7:List V) (rs7:List (Int×Int)) (v6 v7 v8:Option V),σ'=[some (.ref d),some (.ref wb),some (.ref lf),some (.ref lo),v4,some (.ref lr),v6,v7,v8]/\Dk H H' d/\H' lo=some (.lst (an.map V.int))/\H' lr=some (.lst xs7)/\Prs H' xs7 rs7/\rs7.Perm (rs.map (ren an))) ?sb ?fb
  case fb=>
   intro hk'
   refine ⟨_,rfl,wb,_,_,_,rfl,rfl,SqT.of (ww D3),Zal (j:=1) rfl,l,rfl,⟨_,SqL.of (wl D3)⟩,?_⟩
   refine ZbP (K:=K) (a:=l) (xs:=xs) (λi σ' H'=>∃ (xs7:List V) (rs7:List (Int×Int)) (v6 v7 v8:Option V),σ'=[some (.ref d),some (.ref wb),some (.ref lf),some (.ref lo),v4,some (.ref lr),v6,v7,v8]/\Dk H H' d/\H' lo=some (.lst (an.map V.int))/\H' lr=some (.lst xs7)/\Prs H' xs7 rs7/\rs7.Perm ((rs.take i).map (ren an)))
    ⟨[],[],none,none,none,rfl,D3,Zak ean hor,Zab,.nil,by simp⟩ (λi σ' H' _ h=>?_) ?_ ?_
   ·obtain ⟨_,_,_,_,_,_,D4,_⟩:=h
    exact SqL.of (wl D4)
   ·rintro i x σ' H4 hxi ⟨xs7,rs7,v6,v7,v8,rfl,D4,ean4,er7,p7,pm7⟩
    obtain ⟨t,p,rfl,et,ep⟩:=(wp D4).get hxi
    have gp:=g.2.2.2.1 p (List.mem_of_getElem? ep)
    have hi:i<rs.length:=(List.getElem?_eq_some_iff.mp ep).1
    have hl7:=pm7.length_eq
    rw [List.length_map,List.length_take] at hl7
    have hrl:=g.2.2.1
    have hx7:=p7.len
    have a1:atI (an.map V.int) p.1=some (.int (an.getD p.1.toNat 0)):=ZdC gp.1 (by omega)
    have a2:atI (an.map V.int) p.2=some (.int (an.getD p.2.toNat 0)):=ZdC (by omega) (by omega)
    refine ⟨t,_,rfl,SqT.of et,rfl,_,_,rfl,_,_,rfl,rfl,?_⟩
    refine ⟨_,rfl,_,rfl,lo,_,_,_,rfl,rfl,SqL.of ean4,a1,_,rfl,_,rfl,lo,_,_,_,rfl,rfl,SqL.of ean4,a2,_,_,rfl,?_⟩
    refine ⟨_,rfl,_,rfl,lo,_,_,_,rfl,rfl,SqL.of ean4,a1,_,rfl,_,rfl,lo,_,_,_,rfl,rfl,SqL.of ean4,a2,_,_,rfl,ZaP,λu hu=>?_⟩
    have D5:=D4.new (o:=.tup [.int (ren an p).1,.int (ren an p).2]) hu
    have eu:upd H4 u (.tup [.int (ren an p).1,.int (ren an p).2]) u=some (.tup [.int (ren an p).1,.int (ren an p).2]):=Zab
    have er5:upd H4 u (.tup [.int (ren an p).1,.int (ren an p).2]) lr=some (.lst xs7):=Zak er7 (Zae er7 hu)
    have ean5:upd H4 u (.tup [.int (ren an p).1,.int (ren an p).2]) lo=some (.lst (an.map V.int)):=Zak ean4 (Zae ean4 hu)
    have p5:=p7.keep (ZaA (o:=.tup [.int (ren an p).1,.int (ren an p).2]) hu)
    dsimp only [Za7]
    change Zlh _ _ _ (upd H4 u (.tup [.int (ren an p).1,.int (ren an p).2]))
    generalize upd H4 u (.tup [.int (ren an p).1,.int (ren an p).2])=H5 at D5 eu er5 ean5 p5 ⊢
    obtain ⟨n5,e5⟩:=D5.at_
    refine ⟨_,rfl,.inl ⟨rfl,_,SqL.of er5⟩,_,rfl,_,rfl,lr,_,rfl,.inl (SqL.of er5),_,_,rfl,rfl,d,n5,_,rfl,e5,by omega,ZnK (by omega) (by omega),λn6 j j0 j1=>?_⟩
    have k1:=Zbq (o:=.lst [.int n6]) e5
    have er6:upd H5 d (.lst [.int n6]) lr=some (.lst xs7):=Zak er5 (Ne.symm hdr)
    refine ⟨_,rfl,lr,xs7,j,.ref u,rfl,rfl,er6,j0,by omega,by omega,?_⟩
    have k2:=Zbq (H:=upd H5 d (.lst [.int n6])) (l:=lr) (zs:=xs7) (o:=.lst (xs7.take j.toNat++.ref u::xs7.drop j.toNat)) er6
    refine ⟨_,rs7.take j.toNat++ren an p::rs7.drop j.toNat,_,_,_,rfl,(D5.take n6).put hlr0 hdr,Zak (Zak ean5 (Ne.symm hdo)) hor,Zab,?_,?_⟩
    ·refine (ZeR ((p5.keep k1).keep k2) _).app (.cons (k2 _ _ (k1 _ _ eu)) (Zd9 ((p5.keep k1).keep k2) _))
    ·rw [List.take_add_one,ep,List.map_append]
     refine List.perm_middle.trans ?_
     rw [List.take_append_drop]
     exact (List.Perm.cons _ pm7).trans (List.perm_append_singleton _ _).symm
   ·rintro σ' H4 ⟨xs7,rs7,v6,v7,v8,rfl,D4,ean4,er7,p7,pm7⟩
    rw [W.p.len,List.take_length] at pm7
    exact hk' _ _ ⟨xs7,rs7,v6,v7,v8,rfl,D4,ean4,er7,p7,pm7⟩
  rintro σ' H4 ⟨xs7,rs7,v6,v7,v8,rfl,D4,ean4,er7,p7,pm7⟩
  refine ⟨_,rfl,wb,_,_,_,rfl,rfl,SqT.of (ww D4),Zal (j:=0) rfl,_,rfl,ZaP,λt ht=>?_⟩
  have D5:=D4.new (o:=.tup [.int (k:Int),.ref lr]) ht
  have et:upd H4 t (.tup [.int (k:Int),.ref lr]) t=some (.tup [.int (k:Int),.ref lr]):=Zab
  have er5:upd H4 t (.tup [.int (k:Int),.ref lr]) lr=some (.lst xs7):=Zak er7 (Zae er7 ht)
  have ean5:upd H4 t (.tup [.int (k:Int),.ref lr]) lo=some (.lst (an.map V.int)):=Zak ean4 (Zae ean4 ht)
  have p5:=p7.keep (ZaA (o:=.tup [.int (k:Int),.ref lr]) ht)
  generalize upd H4 t (.tup [.int (k:Int),.ref lr])=H5 at D5 et er5 ean5 p5 ⊢
  have ane:an≠[]:=λz=>by rw [z] at anl;simp at anl;omega
  have al:=Zde ane
  rw [anl] at al
  refine ⟨_,rfl,lo,_,_,_,rfl,rfl,SqL.of ean5,ZdC (ns:=an) (i:=0) (by omega) (by omega),_,rfl,_,rfl,lo,_,_,_,rfl,rfl,SqL.of ean5,al,(by show 3<=sizeLine;decide),λr hr'=>?_⟩
  exact q r t lr xs7 an rs7 _ (D5.new hr') (D5.free hr') (D4.free ht) hlr0 Zab ⟨Zak et (Zae et hr'),Zak er5 (Zae er5 hr'),p5.keep (ZaA hr')⟩ pm pm7
end
end M
namespace M
open PySem L2
theorem Zk6 {a b c d:Int} (h:ZaW a b=ZaW c d):(a=c/\b=d)\/(a=d/\b=c):=by
 unfold ZaW at h
 simp only [Prod.mk.injEq] at h
 obtain ⟨h1,h2⟩:=h
 split at h1 <;> split at h1 <;> split at h2 <;> split at h2 <;> omega
theorem rgI_mem {k:Nat} {x:Int}:x∈rgI k↔0<=x/\x<(k:Int):=by
 unfold rgI
 rw [List.mem_map]
 constructor
 ·rintro ⟨i,hi,rfl⟩
  have:=List.mem_range.mp hi
  omega
 ·intro h
  exact ⟨x.toNat,List.mem_range.mpr (by omega),by omega⟩
theorem ZmD (k:Nat):(rgI k).Nodup:=by
 unfold rgI
 refine List.pairwise_map.mpr ?_
 exact List.Pairwise.imp (λh=>by omega) List.pairwise_lt_range
theorem ZmE {k:Nat} {an:List Int} {rs rs':List (Int×Int)} (g:Zah (k:Int) rs) (pm:an.Perm (rgI k)) (pr:rs'.Perm (rs.map (ren an))):Iso (λx=>an.getD x.toNat 0) (λy=>((an.idxOf y:Nat):Int)) (k:Int) rs rs':=by
 have hl:an.length=k:=by rw [pm.length_eq,Zdn]
 have nd:an.Nodup:=pm.nodup_iff.mpr (ZmD k)
 have ge:∀ {x:Int},0<=x->x<(k:Int)->∃ h:x.toNat<an.length,an.getD x.toNat 0=an[x.toNat]:=λh0 h1=>⟨by omega,by rw [List.getD_eq_getElem?_getD,List.getElem?_eq_getElem (by omega)];rfl⟩
 have A:∀ x:Int,0<=x/\x<(k:Int)->(0<=an.getD x.toNat 0/\an.getD x.toNat 0<(k:Int))/\((an.idxOf (an.getD x.toNat 0):Nat):Int)=x:=λx hx=>by
  obtain ⟨h1,h2⟩:=ge hx.1 hx.2
  rw [h2]
  refine ⟨rgI_mem.mp (pm.mem_iff.mp (List.getElem_mem h1)),?_⟩
  rw [nd.idxOf_getElem]
  omega
 have B:∀ y:Int,0<=y/\y<(k:Int)->(0<=((an.idxOf y:Nat):Int)/\((an.idxOf y:Nat):Int)<(k:Int))/\an.getD (((an.idxOf y:Nat):Int)).toNat 0=y:=λy hy=>by
  have hm:y∈an:=pm.mem_iff.mpr (rgI_mem.mpr hy)
  have hlt:=List.idxOf_lt_length_iff.mpr hm
  refine ⟨⟨by omega,by omega⟩,?_⟩
  rw [Int.toNat_natCast,List.getD_eq_getElem?_getD,List.getElem?_eq_getElem hlt]
  exact List.getElem_idxOf hlt
 have inj:∀ x y:Int,0<=x/\x<(k:Int)->0<=y/\y<(k:Int)->an.getD x.toNat 0=an.getD y.toNat 0->x=y:=λx y hx hy e=>by
  have h1:=(A x hx).2
  rw [e,(A y hy).2] at h1
  exact h1.symm
 have gr:∀ p∈rs,(0<=p.1/\p.1<(k:Int))/\(0<=p.2/\p.2<(k:Int))/\p.1<p.2:=λp hp=>by
  have:=g.2.2.2.1 p hp
  omega
 have same:∀ p∈rs,∀ x y:Int,0<=x/\x<(k:Int)->0<=y/\y<(k:Int)->ren an p=ZaW (an.getD x.toNat 0) (an.getD y.toNat 0)->p=ZaW x y:=λp hp x y hx hy e=>by
  obtain ⟨h1,h2,h3⟩:=gr p hp
  rcases Zk6 e with ⟨e1,e2⟩ | ⟨e1,e2⟩
  ·rw [<-inj _ _ h1 hx e1,<-inj _ _ h2 hy e2,ZbN h3]
  ·rw [<-inj _ _ h1 hy e1,<-inj _ _ h2 hx e2,Zbd,ZbN h3]
 have g':Zah (k:Int) rs':=by
  refine ⟨g.1,g.2.1,by rw [pr.length_eq,List.length_map];exact g.2.2.1,λr hr=>?_,pr.nodup_iff.mpr ?_⟩
  ·obtain ⟨p,hp,rfl⟩:=List.mem_map.mp (pr.mem_iff.mp hr)
   obtain ⟨h1,h2,h3⟩:=gr p hp
   have a1:=(A _ h1).1
   have a2:=(A _ h2).1
   have ne:an.getD p.1.toNat 0≠an.getD p.2.toNat 0:=λe=>by have:=inj _ _ h1 h2 e;omega
   unfold ren ZaW
   simp only
   split <;> split <;> omega
  ·unfold List.Nodup
   rw [List.pairwise_map]
   refine List.Pairwise.imp_of_mem (λ{p q} hp hq hpq e=>hpq ?_) g.2.2.2.2
   obtain ⟨h1,h2,h3⟩:=gr q hq
   rw [same p hp q.1 q.2 h1 h2 e,ZbN h3]
 refine ⟨g,g',A,B,λx y hx hy=>?_⟩
 have hlt:∀ r∈rs,r.1<r.2:=λr hr=>(gr r hr).2.2
 have hlt':∀ r∈rs',r.1<r.2:=λr hr=>(g'.2.2.2.1 r hr).2.1
 rw [<-Zbh hlt x y,<-Zbh hlt' _ _,pr.mem_iff,List.mem_map]
 constructor
 ·intro h
  exact ⟨_,h,Zf1 (λz=>an.getD z.toNat 0) x y⟩
 ·rintro ⟨p,hp,e⟩
  rw [<-same p hp x y hx hy e]
  exact hp
section
variable {P:Program} {w:World} {K:PySem.W.Frag} {mg:Str->Option Value} {base:Heap}
structure ClsR (K:PySem.W.Frag) (mg:Str->Option Value) (no way a1 a2 a3 a4 a5 a6 a7 a8 a9 a10 a11 a12:Addr):Prop where
 k:ZmP K no
 mno:mg "TooMany" = some (.ref no)
 mway:mg "WayError" = some (.ref way)
 m1:mg "NoEnds" = some (.ref a1)
 m2:mg "NoName" = some (.ref a2)
 m3:mg "NoNumber" = some (.ref a3)
 m4:mg "NoOrder" = some (.ref a4)
 m5:mg "NoPlace" = some (.ref a5)
 m6:mg "NoRow" = some (.ref a6)
 m7:mg "NoStep" = some (.ref a7)
 m8:mg "NoTable" = some (.ref a8)
 m9:mg "NoText" = some (.ref a9)
 m10:mg "NoWall" = some (.ref a10)
 m11:mg "NoWay" = some (.ref a11)
 m12:mg "NoWeb" = some (.ref a12)
 wbe:PySem.W.subIn K (.ref way) (.type "BaseException")=some true
 cw:PySem.W.kitOne K (.ref no) (.ref way)=some true
 ne:no≠way
 t10:PySem.W.kitAny K (.ref no) [.ref a1,.ref a2,.ref a3,.ref a4,.ref a5,.ref a6,.ref a7,.ref a8,.ref a9,.ref a10]=some false
 t2:PySem.W.kitAny K (.ref no) [.ref a11,.ref a12]=some false
 ve:PySem.W.kitOne K (.ref no) (.type "ValueError")=some true
 isi:mg "isinstance" = none
 vee:mg "ValueError" = none
theorem ClsR.cls {K:PySem.W.Frag} {mg:Str->Option Value} {no way a1 a2 a3 a4 a5 a6 a7 a8 a9 a10 a11 a12:Addr} (T:ClsR K mg no way a1 a2 a3 a4 a5 a6 a7 a8 a9 a10 a11 a12):PySem.W.kitCls K (.ref no) (.ref way)=some true:=by
 have h:=T.cw
 unfold PySem.W.kitOne at h
 rw [if_neg (by simpa using T.ne)] at h
 exact h
def enC (cl:Bool) (p q:Int):Option (Int×Int):=if cl=true then none else some (p,q)
def ZmF:Sp:=λvs H Q _=>∃ (wb l:Addr) (k p q:Int) (cl:Bool) (xs:List V) (rs:List (Int×Int)),vs=[.ref wb,.int p,.int q,.bl cl]/\WebAt H wb l k xs rs/\Zah k rs/\Ends k p q /\
 (TooS rs (enC cl p q)->∀ H':Hp,Same H H'->Q (.str "many") H')/\(∀ (r:Addr) (zs:List (Addr×List Int)) (H':Hp),Same H H'->H r=none->H' r=some (.lst (zs.map λz=>V.ref z.1))->Lz H' zs->Zgt rs (enC cl p q) (zs.map (·.2))->Q (.ref r) H')
theorem scTol:Zav ["web", "one", "other", "closed", "caught", "found", "e"] ["web", "one", "other", "closed"] (Zaf ZkF):=⟨rfl,rfl,rfl,by decide +kernel,rfl,by decide +kernel,by decide +kernel⟩
theorem ZmG {f fEc fEw C no way a1 a2 a3 a4 a5 a6 a7 a8 a9 a10 a11 a12:Addr} {fd fdEc fdEw:FuncData} (F:Fun K "_law_told" "_law_told" ZkF f fd) (T:ClsR K mg no way a1 a2 a3 a4 a5 a6 a7 a8 a9 a10 a11 a12)
  (FEc:Fun K "every_closed" "every_closed" Zkz fEc fdEc) (bEc:Binds K fdEc ["web"] []) (mEc:mg "every_closed" = some (.ref fEc)) (GEc:ZaO P w K mg base (CXr P w) 5 fEc fdEc ["web"] (Zmk no))
  (FEw:Fun K "every_way" "every_way" Zky fEw fdEw) (bEw:Binds K fdEw ["web", "one", "other"] []) (mEw:mg "every_way" = some (.ref fEw)) (GEw:ZaO P w K mg base (CXr P w) 5 fEw fdEw ["web", "one", "other"] (Zmi C no)) (mInt:mg "int" = none):ZaO P w K mg base CX0 6 f fd ["web", "one", "other", "closed"] ZmF:=by
 refine F.ok scTol (λvs H Q E h=>?_) (λcdv A outer s H vs Q E hr h=>?_)
 ·obtain ⟨_,_,_,_,_,_,_,_,rfl,_⟩:=h
  rfl
 ·obtain ⟨wb,l,k,p,q,cl,xs,rs,rfl,W,g,en,qN,qL⟩:=h
  refine ⟨_,Zag (Zax (i:=4) scTol.nd rfl (Or.inl rfl) ZbA)
    (Zag (Zax (i:=5) scTol.nd rfl (Or.inl rfl) ZbA)
    (Zag (Zj5 (i:=6) (Znl (Za3 (pv 3)) (Zjh (j:=5) GEc (hr.mono (by decide)) rfl mEc FEc.kp bEc .nil (Zaa (pv 0) Zac) scTol.nd rfl (Or.inl rfl)) (Zjh (j:=5) GEw (hr.mono (by decide)) rfl mEw FEw.kp bEw .nil (Zaa (pv 0) (Zaa (pv 1) (Zaa (pv 2) Zac))) scTol.nd rfl (Or.inl rfl))) rfl rfl rfl rfl scTol.nd rfl rfl rfl T.mway T.wbe (λa=>Zai (Zax (i:=4) scTol.nd rfl (Or.inl rfl) (pv 6))))
    (Zag (ZaX (Zay ZgH (pv 4) ZbA (ZaF _)) (Zai (Zau (pv 5))) ZaC)
    (Zag (ZaX (Za3 (Zat (ZlB K) rfl T.isi Zci (Zaa (pv 4) (Zaa (ZaR (Zaa (Zbk T.m1) (Zaa (Zbk T.m2) (Zaa (Zbk T.m3) (Zaa (Zbk T.m4) (Zaa (Zbk T.m5) (Zaa (Zbk T.m6) (Zaa (Zbk T.m7) (Zaa (Zbk T.m8) (Zaa (Zbk T.m9) (Zaa (Zbk T.m10) Zac))))))))))) Zac)))) (Zai (Zau ZcN)) ZaC)
    (Zag (ZaX (PW.pt (Zef (Za3 (Zat (ZlB K) rfl T.isi Zci (Zaa (pv 4) (Zaa (ZaR (Zaa (Zbk T.m11) (Zaa (Zbk T.m12) Zac))) Zac)))) (Zdp (Zbw (Za3 (Zat (ZlB K) rfl T.isi Zci (Zaa (pv 4) (Zaa (Zje T.vee Zj0) Zac)))))))) (Zai (Zau ZcN)) ZaC)
    (Zai (Zau (Zaw (Zbz K) (ZaB (Zaa ZcN (Zaa ZcN Zac))) (Za4 ZbD rfl mInt Zcj (Zaa (Zat (ZlB K) rfl T.isi Zci (Zaa (pv 4) (Zaa (Zbk T.mno) Zac))) Zac)) (λ_ _=>rfl))))))))),?_⟩
  refine ZaV (λσ' H'=>σ'=[some (.ref wb),some (.int p),some (.int q),some (.bl cl),some .non,none,none]/\H=H') ?sa ?fa
  case fa=>exact λhk'=>hk' _ _ ⟨rfl,rfl⟩
  rintro σ' H' ⟨rfl,rfl⟩
  refine ZaV (λσ' H'=>σ'=[some (.ref wb),some (.int p),some (.int q),some (.bl cl),some .non,some .non,none]/\H=H') ?sb ?fb
  case fb=>exact λhk'=>hk' _ _ ⟨rfl,rfl⟩
  rintro σ' H' ⟨rfl,rfl⟩
  refine ZaV (λσ' H'=>Same H H'/\∃ v6:Option V,((∃ a,σ'=[some (.ref wb),some (.int p),some (.int q),some (.bl cl),some (.ref a),some .non,v6]/\H' a=some (ZjW a no)/\TooS rs (enC cl p q))\/∃ (r:Addr) (zs:List (Addr×List Int)),σ'=[some (.ref wb),some (.int p),some (.int q),some (.bl cl),some .non,some (.ref r),v6]/\H r=none/\H' r=some (.lst (zs.map λz=>V.ref z.1))/\Lz H' zs/\Zgt rs (enC cl p q) (zs.map (·.2)))) ?sc ?fc
  case fc=>
   intro hk'
   cases cl with
   | true=>
    refine ⟨_,rfl,_,rfl,Zcg ?_⟩
    refine ⟨_,rfl,wb,l,k,xs,rs,rfl,W,g,λj R rg hj h3 H1 s1=>?_,λR rg hR r zs H1 s1 hr0 er lz fz pm so=>?_⟩
    ·refine ⟨no,rfl,T.cls,λa ha=>?_⟩
     refine ⟨_,rfl,?_⟩
     exact hk' _ _ ⟨s1.put (s1.free ha),none,.inl ⟨a,rfl,Zab,ZkX g rg h3⟩⟩
    ·exact hk' _ _ ⟨s1,none,.inr ⟨r,zs,rfl,hr0,er,lz,ZiU g rg hR pm so⟩⟩
   | false=>
    refine ⟨_,rfl,_,rfl,Zb0 ?_⟩
    refine ⟨_,rfl,_,rfl,_,rfl,wb,l,k,p,q,xs,rs,rfl,W,g,.inr ⟨en,λWl wy=>⟨λh3 H1 s1=>?_,λhW r zs H1 s1 hr0 er lz fz pm so=>?_⟩⟩⟩
    ·refine ⟨no,rfl,T.cls,λa ha=>?_⟩
     refine ⟨_,rfl,?_⟩
     exact hk' _ _ ⟨s1.put (s1.free ha),none,.inl ⟨a,rfl,Zab,ZkW g en wy h3⟩⟩
    ·exact hk' _ _ ⟨s1,none,.inr ⟨r,zs,rfl,hr0,er,lz,ZiT g en wy hW pm so⟩⟩
  rintro σ' H1 ⟨s1,v6,⟨a,rfl,ea,too⟩ | ⟨r,zs,rfl,hr0,er,lz,te⟩⟩
  ·refine ⟨_,rfl,rfl,_,rfl,Zb0 ?_⟩
   refine ⟨_,rfl,(by show 10<=sizeLine;decide),λt ht=>?_⟩
   have s2:Same H1 (upd H1 t (.tup [.ref a1,.ref a2,.ref a3,.ref a4,.ref a5,.ref a6,.ref a7,.ref a8,.ref a9,.ref a10])):=Same.new ht
   have e1:=s2 _ _ ea
   refine ⟨_,_,false,rfl,⟨_,rfl,Zb0 ?_⟩,.inr (.inr ⟨a,no,t,_,rfl,e1,T.k,rfl,Zab,rfl,T.t10⟩)⟩
   refine ⟨_,rfl,(by show 2<=sizeLine;decide),λt2 ht2=>?_⟩
   have s3:=s2.put (o:=.tup [.ref a11,.ref a12]) (s2.free ht2)
   have e2:=s3 _ _ ea
   refine ⟨_,_,false,rfl,⟨_,rfl,Zb0 ?_⟩,.inr (.inr ⟨a,no,t2,_,rfl,e2,T.k,rfl,Zab,rfl,T.t2⟩)⟩
   refine ⟨_,rfl,_,_,true,rfl,⟨_,rfl,Zb0 ?_⟩,.inr (.inl ⟨a,no,rfl,e2,T.k,rfl,T.ve⟩)⟩
   refine ⟨(by show 2<=sizeLine;decide),λl2 hl2=>?_⟩
   have s4:=s3.put (o:=.lst [.str "other", .str "many"]) (s3.free hl2)
   have e3:=s4 _ _ ea
   refine ⟨_,rfl,_,_,true,rfl,.inr ⟨true,rfl,l2,_,_,_,rfl,rfl,SqL.of Zab,Zal (j:=1) rfl,?_⟩,.inr (.inl ⟨a,no,rfl,e3,T.k,rfl,ZfD⟩)⟩
   exact qN too _ (s1.trans s4)
  ·refine ⟨_,rfl,rfl,_,rfl,Zcg ?_⟩
   exact ⟨_,rfl,qL r zs H1 s1 hr0 er lz te⟩
theorem Zpg {b:Bool} {p q:Prop} (h:b=false) (hq:q):if b=true then p else q:=by rw [h];exact hq
theorem ZeS {rs:List (Int×Int)} {S:List Int} (h:Zbx rs S):S.length<=rs.length:=by
 have:=ZfZ (l:=S) (m:=rgI rs.length) (h.1.imp λ{a b} h=>by omega) λx hx=>rgI_mem.mpr (h.2 x hx)
 rw [Zdn] at this
 exact this
def ZmH:Sp:=λvs H Q _=>∃ (wb l:Addr) (k p q:Int) (cl:Bool) (N:Nat) (xs:List V) (rs:List (Int×Int)),vs=[.ref wb,.int p,.int q,.bl cl,.int (N:Int)]/\WebAt H wb l k xs rs/\Zah k rs/\Ends k p q/\N<=2000 /\
 (N<=300->Cnt rs (enC cl p q) N)/\(300<N->TooS rs (enC cl p q))/\∀ H':Hp,Same H H'->Q (.bl true) H'
theorem scRig:Zav ["web", "one", "other", "closed", "many", "found", "k"] ["web", "one", "other", "closed", "many"] (Zaf Zjs):=⟨rfl,rfl,rfl,by decide +kernel,rfl,by decide +kernel,by decide +kernel⟩
theorem ZmI {f fTo fRi fOp:Addr} {fd fdTo fdRi fdOp:FuncData} (F:Fun K "_law_right" "_law_right" Zjs f fd) (FTo:Fun K "_law_told" "_law_told" ZkF fTo fdTo) (bTo:Binds K fdTo ["web", "one", "other", "closed"] []) (mTo:mg "_law_told" = some (.ref fTo)) (GTo:ZaO P w K mg base CX0 6 fTo fdTo ["web", "one", "other", "closed"] ZmF)
  (FRi:Fun K "_law_ring" "_law_ring" Zjr fRi fdRi) (bRi:Binds K fdRi ["web", "roads"] []) (mRi:mg "_law_ring" = some (.ref fRi)) (GRi:ZaO P w K mg base CX0 2 fRi fdRi ["web", "roads"] Zmo)
  (FOp:Fun K "_law_open" "_law_open" ZkA fOp fdOp) (bOp:Binds K fdOp ["web", "one", "other", "roads"] []) (mOp:mg "_law_open" = some (.ref fOp)) (GOp:ZaO P w K mg base CX0 2 fOp fdOp ["web", "one", "other", "roads"] Zmm)
  (mIsi:mg "isinstance" = none) (mLst:mg "list" = none) (mLen:mg "len" = none) (mRange:mg "range" = none):ZaO P w K mg base CX0 7 f fd ["web", "one", "other", "closed", "many"] ZmH:=by
 refine F.ok scRig (λvs H Q E h=>?_) (λcdv A outer s H vs Q E hr h=>?_)
 ·obtain ⟨_,_,_,_,_,_,_,_,_,rfl,_⟩:=h
  rfl
 ·obtain ⟨wb,l,k,p,q0,cl,N,xs,rs,rfl,W,g,en,hN,hC,hT,q⟩:=h
  have hu:=hr.units
  have hu1:(A.deeper (PyProof.Rows.envOfC "_law_right" (Zaf Zjs) s.heap.objs.size f cdv)).units<cLine:=by omega
  refine ⟨_,Zag (Zax (i:=5) scRig.nd rfl (Or.inl rfl) (Zan GTo (hr.mono (by decide)) rfl mTo FTo.kp bTo .nil ZaQ (Zaa (pv 0) (Zaa (pv 1) (Zaa (pv 2) (Zaa (pv 3) Zac))))))
    (Zag (ZaX (Zay Zei (pv 4) Zad (ZaF _)) (Zai (Zau (Zb8 (ZoO K hu) (pv 5) ZcN (ZaF _)))) ZaC)
    (Zag (ZaX (PW.pt (Zef (Zbw (Za3 (Zat (ZlB K) rfl mIsi Zci (Zaa (pv 5) (Zaa (Zje mLst ZbH) Zac))))) (Zdp (Zay Zm1 (Zat (Zgd K) rfl mLen PySem.boot_len (Zaa (pv 5) Zac)) (pv 4) (ZaF _))))) (Zai (Zau Zbo)) ZaC)
    (Zag (Zbf PassesOwn.never rfl (Za9 rfl mRange (Zaa (pv 4) Zac)) (Zar (i:=6) scRig.nd rfl (Or.inl rfl))
    (Zag (ZaX (PW.pt (Zc5 (Zay Zei (pv 6) Zad (ZaF _)) (Zb6 (Zbw (Zay (ZlU K hu1) (Zaw (Zbz K) (pv 5) (Zas ZbC (pv 6) Zad) (λ_ _=>rfl)) (Zaw (Zbz K) (pv 5) (pv 6) (λ_ _=>rfl)) (ZaF _)))))) (Zai (Zau Zbo)) ZaC)
    (Zag (ZaX (PW.pt (Zc5 (Za3 (pv 3)) (Zb6 (Zay ZgH (Zan GRi (hr.mono (by decide)) rfl mRi FRi.kp bRi .nil ZaQ (Zaa (pv 0) (Zaa (Zaw (Zbz K) (pv 5) (pv 6) (λ_ _=>rfl)) Zac))) ZbA (ZaF _))))) (Zai (Zau Zbo)) ZaC)
    (Zai (ZaX (PW.pt (Zc5 (Zbw (Za3 (pv 3))) (Zb6 (Zay ZgH (Zan GOp (hr.mono (by decide)) rfl mOp FOp.kp bOp .nil ZaQ (Zaa (pv 0) (Zaa (pv 1) (Zaa (pv 2) (Zaa (Zaw (Zbz K) (pv 5) (pv 6) (λ_ _=>rfl)) Zac))))) ZbA (ZaF _))))) (Zai (Zau Zbo)) ZaC)))))
    (Zai (Zau Zbo))))),?_⟩
  refine ⟨_,rfl,_,rfl,_,rfl,_,rfl,wb,l,k,p,q0,cl,xs,rs,rfl,W,g,en,λtoo H1 s1=>?_,λr zs H1 s1 hr0 er lz te=>?_⟩
  ·have h3:300<N:=Nat.lt_of_not_le λz=>by have:=(hC z).too too;omega
   dsimp only [Za7]
   refine ⟨_,rfl,_,_,rfl,rfl,_,rfl,ZcQ (λ_=>?_) (λz=>absurd (decide_eq_true (by omega)) z)⟩
   refine ⟨_,rfl,.str "many", .str "many", .str _,.str _,by decide +kernel,by decide +kernel,?_⟩
   have ee:PyData.eqv (.str "many") (.str "many")=true:=by decide +kernel
   rw [ee]
   exact q H1 s1
  ·have h3:N<=300:=Nat.le_of_not_lt λz=>(hT z).no te
   have hlen:=(hC h3).tell te
   rw [List.length_map] at hlen
   dsimp only [Za7]
   refine ⟨_,rfl,_,_,rfl,rfl,_,rfl,ZcQ (λz=>absurd (of_decide_eq_true z) (by omega)) (λ_=>?_)⟩
   refine ⟨_,rfl,_,_,true,rfl,⟨_,rfl,Zb0 ?_⟩,.inl ⟨_,.lst er,rfl,ZfD⟩⟩
   refine ⟨_,rfl,r,_,rfl,.inl (SqL.of er),_,rfl,rfl,_,rfl,?_⟩
   have hne:decide (V.int ((zs.map λz=>V.ref z.1).length:Int)=V.int (N:Int))=true:=decide_eq_true (by rw [List.length_map,hlen])
   refine Zpg (by first | (rw [hne];rfl) | (simp [hlen])) ?_
   dsimp only [ZgA]
   refine ZaV (λσ' H'=>∃ v:Option V,σ'=[some (.ref wb),some (.int p),some (.int q0),some (.bl cl),some (.int (N:Int)),some (.ref r),v]/\Same H1 H') ?sa ?fa
   case fa=>
    intro hk
    refine ⟨_,rfl,_,rfl,by omega,by omega,?_⟩
    rw [Int.toNat_natCast]
    refine Zbj (lo:=0) (λi σ' H'=>∃ v:Option V,σ'=[some (.ref wb),some (.int p),some (.int q0),some (.bl cl),some (.int (N:Int)),some (.ref r),v]/\Same H1 H') ⟨none,rfl,Same.refl _⟩ ?_ λσ' H' h=>hk _ _ h
    rintro i σ' H2 hi ⟨v,rfl,s2⟩
    rw [show (0:Int)+(i:Int)=(i:Int) by omega]
    have hzi:zs[i]?=some zs[i]:=List.getElem?_eq_getElem (by omega)
    have er2:=s2 _ _ er
    have lz2:=lz.same s2
    have W2:=W.same (s1.trans s2)
    have at0:atI (zs.map λz=>V.ref z.1) (i:Int)=some (.ref zs[i].1):=Zal (j:=i) (by rw [List.getElem?_map,hzi];rfl)
    have ez:=lz2 zs[i] (List.getElem_mem _)
    have hS:IsS rs (enC cl p q0) zs[i].2:=(te.iff _).mp (List.mem_map.mpr ⟨_,List.getElem_mem _,rfl⟩)
    dsimp only [Za7]
    refine ZaV (λσ' H'=>σ'=[some (.ref wb),some (.int p),some (.int q0),some (.bl cl),some (.int (N:Int)),some (.ref r),some (.int (i:Int))]/\H'=H2) ?sb ?fb
    case fb=>
     intro hk2
     refine ⟨_,rfl,_,_,rfl,rfl,_,rfl,ZcQ (λh0=>?_) (λh0=>?_)⟩
     ·have h0:0<i:=by have:=of_decide_eq_true h0;omega
      have at1:atI (zs.map λz=>V.ref z.1) ((i:Int)-1)=some (.ref zs[i-1].1):=by
       rw [show (i:Int)-1=((i-1:Nat):Int) by omega]
       exact Zal (j:=i-1) (by rw [List.getElem?_map,List.getElem?_eq_getElem (by omega)];rfl)
      have ez1:=lz2 zs[i-1] (List.getElem_mem _)
      refine ⟨_,rfl,_,rfl,_,_,rfl,rfl,r,_,_,_,rfl,rfl,SqL.of er2,at1,_,rfl,_,rfl,r,_,_,_,rfl,rfl,SqL.of er2,at0,_,_,zs[i-1].2,zs[i].2,rfl,rfl,SqL.of ez1,SqL.of ez,_,rfl,?_⟩
      have lx:Zb1 zs[i-1].2 zs[i].2=true:=by
       have so:=te.so
       have nd:=te.nd
       unfold Srt at so
       unfold List.Nodup at nd
       rw [List.pairwise_map,List.pairwise_iff_getElem] at so nd
       have a1:=so (i-1) i (by omega) (by omega) (by omega)
       have a2:=nd (i-1) i (by omega) (by omega) (by omega)
       cases z:Zb1 zs[i-1].2 zs[i].2 with
       | true=>rfl
       | false=>exact absurd (Zd2 z a1) a2
      rw [lx]
      exact Zb0 (hk2 _ _ ⟨rfl,rfl⟩)
     ·exact hk2 _ _ ⟨rfl,rfl⟩
    rintro σ' H' ⟨rfl,rfl⟩
    cases cl with
    | true=>
     have hI:=ZiY g (show IsS rs none zs[i].2 from hS)
     have hln:=ZeS hI.1
     have hrl:=g.2.2.1
     refine ⟨_,rfl,_,rfl,Zcg ?_⟩
     refine ⟨_,rfl,_,rfl,_,rfl,r,_,_,_,rfl,rfl,SqL.of er2,at0,wb,l,_,k,xs,rs,zs[i].2,rfl,W2,g,ez,by omega,λno=>absurd ⟨hI.1,hI.2.1,hI.2.2.1⟩ no,λ_ _ _ s0 tl rest bg wk=>⟨λ_ r' H3 s3 _ _=>?_,λne=>absurd (hI.2.2.2 s0 tl rest bg wk) ne⟩⟩
     refine ⟨rfl,_,rfl,Zb0 ?_⟩
     refine ⟨_,rfl,_,rfl,Zb0 ?_⟩
     exact ⟨_,rfl,s2.trans s3⟩
    | false=>
     have hI:=ZiZ g en (show IsS rs (some (p,q0)) zs[i].2 from hS)
     have hln:=ZeS hI.1
     have hrl:=g.2.2.1
     refine ⟨_,rfl,_,rfl,Zb0 ?_⟩
     refine ⟨_,rfl,_,rfl,Zcg ?_⟩
     refine ⟨_,rfl,_,rfl,_,rfl,_,rfl,_,rfl,r,_,_,_,rfl,rfl,SqL.of er2,at0,wb,l,_,k,p,q0,xs,rs,zs[i].2,rfl,W2,g,ez,by omega,λno=>absurd ⟨hI.1,hI.2.1⟩ no,λ_ _ tl rest wk=>⟨λ_ r' H3 s3 _ _=>?_,λne=>absurd (hI.2.2 tl rest wk) ne⟩⟩
     refine ⟨rfl,_,rfl,Zb0 ?_⟩
     exact ⟨_,rfl,s2.trans s3⟩
   rintro σ' H2 ⟨v,rfl,s2⟩
   exact q H2 (s1.trans s2)
end
end M
namespace M
open PySem L2
theorem ZhZ:∀ n:Nat,n<8->Zpe (n:Int)=true:=by decide +kernel
theorem ZjG:∀ n:Nat,n<8->(decide (2<=(knw (n:Int)).1) && decide (0<=(knw (n:Int)).2.2.1) && decide ((knw (n:Int)).2.2.1<=2000) && decide (0<=(knw (n:Int)).2.2.2) && decide ((knw (n:Int)).2.2.2<=2000))=true:=by decide +kernel
theorem Cnt.big {rs:List (Int×Int)} {en:Option (Int×Int)} {N:Nat} (h:Cnt rs en N) (hN:300<N):TooS rs en:=by
 obtain ⟨M,nd,hl,hm⟩:=h
 exact ⟨M,nd,by omega,λS hS=>(hm S).mp hS⟩
theorem Cnt.rev {k:Int} {rs:List (Int×Int)} {p q:Int} {N:Nat} (g:Zah k rs) (h:Cnt rs (some (p,q)) N):Cnt rs (some (q,p)) N:=by
 obtain ⟨M,nd,hl,hm⟩:=h
 refine ⟨M,nd,hl,λS=>?_⟩
 have:=ZkY (p:=p) (q:=q) g S
 rw [hm]
 exact ⟨λz=>this.mpr ⟨z,rfl⟩,λz=>(this.mp z).1⟩
theorem Zi5 {n k:Nat} {an:List Int} {rs':List (Int×Int)} (hn:n<8) (hk:(knw (n:Int)).1=(k:Int)) (pm:an.Perm (rgI k)) (pr:rs'.Perm ((knw (n:Int)).2.1.map (ren an))) :
  Zah (k:Int) rs'/\Ends (k:Int) (an.getD 0 0) (an.getD (k-1) 0)/\∃ a b:Nat,(knw (n:Int)).2.2.1=(a:Int)/\(knw (n:Int)).2.2.2=(b:Int)/\a<=2000/\b<=2000 /\
   (0<a->Cnt rs' (some (an.getD 0 0,an.getD (k-1) 0)) a)/\(0<b->(b<=300->Cnt rs' none b)/\(300<b->TooS rs' none)):=by
 have hc:Zmt (knw (n:Int))=true:=ZhZ n hn
 have hb:=ZjG n hn
 generalize knw (n:Int)=x at *
 obtain ⟨x1,rs,x3,x4⟩:=x
 simp only [Bool.and_eq_true,decide_eq_true_eq] at hb
 obtain ⟨⟨⟨⟨b1,b2⟩,b3⟩,b4⟩,b5⟩:=hb
 have hk:x1=(k:Int):=hk
 subst hk
 unfold Zmt at hc
 simp only [Bool.and_eq_true,Bool.or_eq_true,decide_eq_true_eq] at hc
 obtain ⟨⟨c1,c2⟩,c3⟩:=hc
 have g:Zah (k:Int) rs:=Zf5 c1
 have I:=ZmE g pm pr
 have en:Ends (k:Int) 0 ((k:Int)-1):=⟨⟨by omega,by omega⟩,⟨by omega,by omega⟩,by omega⟩
 have e1:((k:Int)-1).toNat=k-1:=by omega
 have en':Ends (k:Int) (an.getD 0 0) (an.getD (k-1) 0):=by
  have a1:=I.a 0 en.1
  have a2:=I.a ((k:Int)-1) en.2.1
  rw [e1] at a2
  refine ⟨a1.1,a2.1,λe=>en.2.2 ?_⟩
  have h1:=a1.2
  have h2:=a2.2
  have e':an.getD (0:Int).toNat 0=an.getD (k-1) 0:=e
  rw [e',h2] at h1
  exact h1.symm
 refine ⟨I.g',en',x3.toNat,x4.toNat,by show x3=_;omega,by show x4=_;omega,by omega,by omega,λh=>?_,λh=>⟨λh3=>?_,λh3=>?_⟩⟩
 ·have c:=Zi0 I en
  rcases c2 with z | z
  ·have:x3=0:=z
   omega
  ·have z:((enW 17 rs 0 ((k:Int)-1)).length:Int)=x3:=z
   rw [show x3.toNat=(enW 17 rs 0 ((k:Int)-1)).length by omega]
   have e2:an.getD ((k:Int)-1).toNat 0=an.getD (k-1) 0:=by rw [e1]
   rw [<-e2]
   exact c
 ·rcases c3 with z | z
  ·have:x4=0:=z
   omega
  ·have z:(if x4<=300 then decide (((rgB rs rs.length).length:Int)=x4) else _)=true:=z
   rw [if_pos (by omega)] at z
   have z:=of_decide_eq_true z
   have hl:(rgB rs rs.length).length<=300:=by omega
   have:=Zi1 I (Zft g rs.length (Nat.le_refl _) (Nat.le_trans (Zf4 rs (rs.length-1) rs.length (by omega)) hl)) hl
   rw [show x4.toNat=(rgB rs rs.length).length by omega]
   exact this
 ·rcases c3 with z | z
  ·have:x4=0:=z
   omega
  ·have z:(if x4<=300 then _ else (List.range (rs.length+1)).any λj=>decide (300<(rgB rs j).length) && decide ((rgB rs (j-1)).length<=300))=true:=z
   rw [if_neg (by omega)] at z
   obtain ⟨j,hj,hz⟩:=List.any_eq_true.mp z
   rw [Bool.and_eq_true,decide_eq_true_eq,decide_eq_true_eq] at hz
   have hj:=List.mem_range.mp hj
   exact Zi2 I (Zft g j (by omega) hz.2) hz.1
section
variable {P:Program} {w:World} {K:PySem.W.Frag} {mg:Str->Option Value} {base:Heap}
structure DeckAt (Hs H:Hp) (d:Addr):Prop where
 s:Same Hs H
 n:Hs d=none
 at_:∃ n:Int,H d=some (.lst [.int n])
theorem DeckAt.grow {Hs H H':Hp} {d:Addr} (h:DeckAt Hs H d) (s:Same H H'):DeckAt Hs H' d:=⟨h.s.trans s,h.n,h.at_.elim λn e=>⟨n,s _ _ e⟩⟩
theorem DeckAt.dk {Hs H H':Hp} {d:Addr} (h:DeckAt Hs H d) (s:Dk H H' d):DeckAt Hs H' d:=⟨λb o e=>s.keep b o (Zae e h.n) (h.s b o e),h.n,s.at_⟩
theorem Zk7 {ns:List Int} {lo hi:Option Int} {i:Nat} {x:V} (h:(Zed (ns.map V.int) lo hi)[i]?=some x):∃ z,x=.int z:=by
 have hm:=List.mem_of_getElem? h
 unfold Zed at hm
 have hm2:=List.mem_of_mem_drop (List.mem_of_mem_take hm)
 obtain ⟨z,_,rfl⟩:=List.mem_map.mp hm2
 exact ⟨z,rfl⟩
def Zi6 (K:PySem.W.Frag):Sp:=λvs H Q _=>∃ (a:Addr) (ns:List Int),vs=[.ref a]/\SqL K H a (ns.map V.int)/\ns.length<=63/\∀ H':Hp,Q (.bl true) H'
theorem scLaw:Zav ["script", "cell", "deck", "known", "many", "rings", "web", "one", "other", "handed"] ["script"] (Zaf ZiI):=⟨rfl,rfl,rfl,by decide +kernel,rfl,by decide +kernel,by decide +kernel⟩
theorem ZmJ {f fD fT fKn fTu fRg:Addr} {fd fdD fdT fdKn fdTu fdRg:FuncData} (F:Fun K "law" "law" ZiI f fd)
  (FD:Fun K "_law_deck" "_law_deck" Zfk fD fdD) (bD:Binds K fdD ["cell"] []) (mD:mg "_law_deck" = some (.ref fD)) (GD:ZaO P w K mg base CX0 2 fD fdD ["cell"] Zju)
  (FT:Fun K "_law_take" "_law_take" ZeH fT fdT) (bT:Binds K fdT ["deck", "many"] []) (mT:mg "_law_take" = some (.ref fT))
  (FKn:Fun K "_law_known" "_law_known" ZkD fKn fdKn) (bKn:Binds K fdKn ["way"] []) (mKn:mg "_law_known" = some (.ref fKn)) (GKn:ZaO P w K mg base CX0 3 fKn fdKn ["way"] Zmz)
  (FTu:Fun K "_law_turned" "_law_turned" ZkE fTu fdTu) (bTu:Binds K fdTu ["deck", "web"] []) (mTu:mg "_law_turned" = some (.ref fTu)) (GTu:ZaO P w K mg base CX0 2 fTu fdTu ["deck", "web"] ZmB)
  (FRg:Fun K "_law_right" "_law_right" Zjs fRg fdRg) (bRg:Binds K fdRg ["web", "one", "other", "closed", "many"] []) (mRg:mg "_law_right" = some (.ref fRg)) (GRg:ZaO P w K mg base CX0 7 fRg fdRg ["web", "one", "other", "closed", "many"] ZmH)
  (mLst:mg "list" = none):ZaO P w K mg base CX0 8 f fd ["script"] (Zi6 K):=by
 have GT:ZaO P w K mg base CX0 1 fT fdT ["deck", "many"] Zhu:=Zhv FT
 refine F.ok scLaw (λvs H Q E h=>?_) (λcdv A outer s H vs Q E hr h=>?_)
 ·obtain ⟨a,ns,rfl,_⟩:=h
  rfl
 ·obtain ⟨a,ns,rfl,hS,hlen,q⟩:=h
  have hu:=hr.units
  have h16:(16777216:Nat)=sizeLine:=sizeLine_eq.symm
  refine ⟨_,Zag (Zbf PassesOwn.never rfl (ZcF K (Zas ZcP (ZaB (Zaa (Zas ZcO Zad Zad) Zac)) (ZcX (kSl K) (pv 0) ZdL (ZdM Zad)))) (Zar (i:=1) scLaw.nd rfl (Or.inl rfl))
    (Zag (Zax (i:=2) scLaw.nd rfl (Or.inl rfl) (Zan GD (hr.mono (by decide)) rfl mD FD.kp bD .nil ZaQ (Zaa (pv 1) Zac)))
    (Zag (Zfu (Zan GKn (hr.mono (by decide)) rfl mKn FKn.kp bKn .nil ZaQ (Zaa (Zan GT (hr.mono (by decide)) rfl mT FT.kp bT .nil ZaQ (Zaa (pv 2) (Zaa Zad Zac))) Zac)) (ZlT K rfl (ZaI (Zar (i:=3) scLaw.nd rfl (Or.inl rfl)) (ZaI (Zar (i:=4) scLaw.nd rfl (Or.inl rfl)) (ZaI (Zar (i:=5) scLaw.nd rfl (Or.inl rfl)) Zb7)))))
    (Zag (Zfu (Zan GTu (hr.mono (by decide)) rfl mTu FTu.kp bTu .nil ZaQ (Zaa (pv 2) (Zaa (pv 3) Zac))) (ZlT K rfl (ZaI (Zar (i:=6) scLaw.nd rfl (Or.inl rfl)) (ZaI (Zar (i:=7) scLaw.nd rfl (Or.inl rfl)) (ZaI (Zar (i:=8) scLaw.nd rfl (Or.inl rfl)) Zb7)))))
    (Zag (Zax (i:=9) scLaw.nd rfl (Or.inl rfl) (ZaR (Zaa (Zaw (Zck K) (pv 6) Zad (λ_ _=>rfl)) (Zaa (Za4 (ZgZ K) rfl mLst ZbH (Zaa (Zaw (Zck K) (pv 6) Zad (λ_ _=>rfl)) Zac)) Zac))))
    (Zag (ZaX (Zay Zei (pv 4) Zad (ZaF _)) (Zai (ZaX (PW.pt (Zef (Zbw (Za3 (Zan GRg (hr.mono (by decide)) rfl mRg FRg.kp bRg .nil ZaQ (Zaa (pv 9) (Zaa (pv 7) (Zaa (pv 8) (Zaa Zbo (Zaa (pv 4) Zac)))))))) (Zdp (Zbw (Za3 (Zan GRg (hr.mono (by decide)) rfl mRg FRg.kp bRg .nil ZaQ (Zaa (pv 9) (Zaa (pv 8) (Zaa (pv 7) (Zaa Zbo (Zaa (pv 4) Zac))))))))))) (Zai (Zau Zbo)) ZaC)) ZaC)
    (Zag (ZaX (PW.pt (Zc5 (Zay Zei (pv 5) Zad (ZaF _)) (Zb6 (Zbw (Za3 (Zan GRg (hr.mono (by decide)) rfl mRg FRg.kp bRg .nil ZaQ (Zaa (pv 9) (Zaa (pv 7) (Zaa (pv 8) (Zaa Zbo (Zaa (pv 5) Zac))))))))))) (Zai (Zau Zbo)) ZaC)
    (Zai (ZaX (Zay (ZmQ K hu) (pv 9) (pv 6) (ZaF _)) (Zai (Zau Zbo)) ZaC)))))))))
    (Zai (Zau Zbo)),?_⟩
  refine ⟨_,_,rfl,rfl,⟨by decide,by decide,by decide⟩,(by show 1<=sizeLine;decide),λp1 hp1=>?_⟩
  have s1:Same H (upd H p1 (.lst [.int (10 ^ (18:Int).toNat)])):=Same.new hp1
  refine ⟨_,rfl,_,rfl,a,_,rfl,s1.seq hS,λp2 hp2=>?_⟩
  have hcut:=Zc7 (ns.map V.int) none (some 1)
  rw [List.length_map] at hcut
  refine ⟨p1,p2,_,_,rfl,rfl,Zak Zab (λz=>by rw [<-z,Zab] at hp2;cases hp2),Zab,(by rw [List.length_singleton];omega),λp3 hp3=>?_⟩
  refine ⟨p3,rfl,⟨_,SqL.of Zab⟩,?_⟩
  generalize hHs:upd (upd (upd H p1 (.lst [.int (10 ^ (18:Int).toNat)])) p2 (.lst (Zed (ns.map V.int) none (some 1)))) p3 (.lst ([.int (10 ^ (18:Int).toNat)]++Zed (ns.map V.int) none (some 1)))=Hs
  have hL:Hs p3=some (.lst ([.int (10 ^ (18:Int).toNat)]++Zed (ns.map V.int) none (some 1))):=by rw [<-hHs];exact Zab
  refine ZbP (K:=K) (a:=p3) (xs:=[.int (10 ^ (18:Int).toNat)]++Zed (ns.map V.int) none (some 1)) (λi σ H2=>∃ v1 v2 v3 v4 v5 v6 v7 v8 v9:Option V,σ=[some (.ref a),v1,v2,v3,v4,v5,v6,v7,v8,v9]/\Same Hs H2)
   ⟨none,none,none,none,none,none,none,none,none,rfl,Same.refl _⟩ (λi σ H2 _ ⟨_,_,_,_,_,_,_,_,_,_,s2⟩=>SqL.of (s2 _ _ hL)) ?_ ?_
  ·rintro i x σ H2 hi ⟨v1,v2,v3,v4,v5,v6,v7,v8,v9,rfl,s2⟩
   obtain ⟨z,rfl⟩:∃ z,x=.int z:=by
    cases i with
    | zero=>simp at hi;exact ⟨_,hi.symm⟩
    | succ j=>exact Zk7 (i:=j) (by simpa using hi)
   clear hi hcut hHs hp3 hp2 hp1
   refine ⟨_,rfl,z,rfl,λd n0 hd=>?_⟩
   have hds:Hs d=none:=s2.free hd
   have D0:DeckAt Hs (upd H2 d (.lst [.int n0])) d:=⟨s2.put hds,hds,_,Zab⟩
   dsimp only [Za7]
   refine ⟨_,rfl,d,n0,8,rfl,Zab,by decide,ZbK,λn1 w w0 w1=>?_⟩
   obtain ⟨n,en⟩:∃ n:Nat,w=(n:Int):=⟨w.toNat,by omega⟩
   subst en
   have hn:n<8:=by omega
   have hb:=ZjG n hn
   simp only [Bool.and_eq_true,decide_eq_true_eq] at hb
   obtain ⟨⟨⟨⟨b1,b2⟩,b3⟩,b4⟩,b5⟩:=hb
   obtain ⟨k,ek⟩:∃ k:Nat,(knw (n:Int)).1=(k:Int):=⟨(knw (n:Int)).1.toNat,by omega⟩
   obtain ⟨na,ea⟩:∃ na:Nat,(knw (n:Int)).2.2.1=(na:Int):=⟨(knw (n:Int)).2.2.1.toNat,by omega⟩
   obtain ⟨nb,eb⟩:∃ nb:Nat,(knw (n:Int)).2.2.2=(nb:Int):=⟨(knw (n:Int)).2.2.2.toNat,by omega⟩
   have g:Zah (k:Int) (knw (n:Int)).2.1:=by
    have hc:Zmt (knw (n:Int))=true:=ZhZ n hn
    unfold Zmt at hc
    simp only [Bool.and_eq_true] at hc
    rw [<-ek]
    exact Zf5 hc.1.1
   have D1:DeckAt Hs (upd (upd H2 d (.lst [.int n0])) d (.lst [.int n1])) d:=⟨D0.s.put hds,hds,_,Zab⟩
   generalize upd (upd H2 d (.lst [.int n0])) d (.lst [.int n1])=H2' at D1 ⊢
   refine ⟨n,rfl,hn,λr t l xs H3 s3 hr0 ht0 hl0 er W=>?_⟩
   have D3:=D1.grow s3
   obtain ⟨n3,e3⟩:=D3.at_
   have hld:l≠d:=λzz=>by
    obtain ⟨n1',e1'⟩:=D1.at_
    rw [zz,e1'] at hl0;cases hl0
   rw [ea,eb] at er
   rw [ek] at W
   refine ⟨r,_,_,_,rfl,SqL.of er,_,_,rfl,_,_,rfl,_,_,rfl,rfl,?_⟩
   refine ⟨_,rfl,_,rfl,d,t,l,n3,k,xs,_,rfl,e3,hld,W,g,λr2 t2 l2 xs2 an rs2 H4 K4 hr2 ht2 hl2 er2 W2 pm pr=>?_⟩
   have D4:=D3.dk K4
   obtain ⟨g',en',a',b',ea',eb',ha,hb,cA,cB⟩:=Zi5 hn ek pm pr
   have eaa:a'=na:=by omega
   have ebb:b'=nb:=by omega
   subst eaa ebb
   refine ⟨r2,_,_,_,rfl,SqL.of er2,_,_,rfl,_,_,rfl,_,_,rfl,rfl,?_⟩
   generalize an.getD 0 0=one at en' cA ⊢
   generalize an.getD (k-1) 0=other at en' cA ⊢
   clear er er2 W g K4 hr2 ht2 hl2 pm pr hr0 ht0 hl0 e3 D3 s3
   refine ⟨_,rfl,t2,_,_,_,rfl,rfl,SqT.of W2.w,Zal (j:=0) rfl,_,rfl,t2,_,_,_,rfl,rfl,SqT.of W2.w,Zal (j:=1) rfl,l2,_,rfl,.inl (SqL.of W2.l),λl3 hl3=>⟨ZaP,λt3 ht3=>?_⟩⟩
   have s5:Same H4 (upd H4 l3 (.lst xs2)):=Same.new hl3
   have e5:upd H4 l3 (.lst xs2) l3=some (.lst xs2):=Zab
   generalize upd H4 l3 (.lst xs2)=H5 at s5 e5 ht3 ⊢
   have s6:Same H5 (upd H5 t3 (.tup [.int (k:Int),.ref l3])):=Same.new ht3
   have e6:upd H5 t3 (.tup [.int (k:Int),.ref l3]) t3=some (.tup [.int (k:Int),.ref l3]):=Zab
   generalize upd H5 t3 (.tup [.int (k:Int),.ref l3])=H6 at s6 e6 ⊢
   have W3:WebAt H6 t3 l3 (k:Int) xs2 rs2:=⟨e6,s6 _ _ e5,(W2.p.same s5).same s6⟩
   have W6:=(W2.same s5).same s6
   have D6:=(D4.grow s5).grow s6
   dsimp only [Za7]
   refine ZaV (λσ' H'=>σ'=[some (.ref a),some (.int z),some (.ref d),some (.ref t),some (.int (a':Int)),some (.int (b':Int)),some (.ref t2),some (.int one),some (.int other),some (.ref t3)]/\Same H6 H') ?sx ?fx
   case fx=>
    intro hk
    refine ⟨_,rfl,_,_,rfl,rfl,_,rfl,ZcQ (λh=>?_) (λh=>?_)⟩
    ·have h:0<a':=by have:=of_decide_eq_true h;omega
     have c1:=cA h
     have c2:=c1.rev g'
     refine ⟨_,rfl,_,rfl,_,rfl,_,rfl,t3,l3,(k:Int),one,other,false,a',xs2,rs2,rfl,W3,g',en',ha,λ_=>c1,λh3=>c1.big h3,λH7 s7=>⟨_,rfl,Zb0 ?_⟩⟩
     refine ⟨_,rfl,_,rfl,_,rfl,_,rfl,t3,l3,(k:Int),other,one,false,a',xs2,rs2,rfl,W3.same s7,g',⟨en'.2.1,en'.1,λe=>en'.2.2 e.symm⟩,ha,λ_=>c2,λh3=>c2.big h3,λH8 s8=>⟨_,rfl,Zb0 ?_⟩⟩
     exact hk _ _ ⟨rfl,s7.trans s8⟩
    ·exact hk _ _ ⟨rfl,Same.refl _⟩
   rintro σ' H7 ⟨rfl,s7⟩
   refine ZaV (λσ' H'=>σ'=[some (.ref a),some (.int z),some (.ref d),some (.ref t),some (.int (a':Int)),some (.int (b':Int)),some (.ref t2),some (.int one),some (.int other),some (.ref t3)]/\Same H6 H') ?sy ?fy
   case fy=>
    intro hk
    refine ⟨_,rfl,_,_,rfl,rfl,_,rfl,ZcQ (λh=>?_) (λh=>?_)⟩
    ·have h:0<b':=by have:=of_decide_eq_true h;omega
     refine ⟨_,rfl,_,rfl,_,rfl,_,rfl,t3,l3,(k:Int),one,other,true,b',xs2,rs2,rfl,W3.same s7,g',en',hb,λh3=>(cB h).1 h3,λh3=>(cB h).2 h3,λH8 s8=>⟨_,rfl,Zb0 ?_⟩⟩
     exact hk _ _ ⟨rfl,s7.trans s8⟩
    ·exact hk _ _ ⟨rfl,s7⟩
   rintro σ' H8 ⟨rfl,s8⟩
   have WC:=W3.same s8
   have WD:=W6.same s8
   refine ⟨_,rfl,_,rfl,.tuple [.int (k:Int),.list (rs2.map prD)],.tuple [.int (k:Int),.list (rs2.map prD)],.tup (SqT.of WC.w) (.cons (.int _) (.cons (.lst (SqL.of WC.l) WC.p.dats) .nil)),.tup (SqT.of WD.w) (.cons (.int _) (.cons (.lst (SqL.of WD.l) WD.p.dats) .nil)),Zdw _ _,Zdw _ _,_,rfl,?_⟩
   rw [ZjZ,decide_eq_true rfl,decide_eq_true rfl]
   refine Zb0 ?_
   exact ⟨_,_,_,_,_,_,_,_,_,rfl,D6.s.trans s8⟩
  ·rintro σ H2 _
   exact q H2
end
end M
section
open PySem PySem.W PyProof.Rows
def M.rowP:Program:=PySem.Challenge.rw_onceways_k11_three_hundred_ways.prog
def M.seenP:Program:={ M.rowP with main:={ M.rowP.main with body:=[1,2,3,4,5,6,7,8,9,10,11,12,13,14,16,17,18,20,21,22,23,25,26,27,28,29,31,32,33,34,35,36,37,38,39,40,41,42,43,44,45,46].filterMap (λi=>M.rowP.main.body[i]?) } }
def M.loosely:List Str:=[Str.ofString "roads_of"]
def M.hookX (s:Shared):Bool:=xlAt M.seenP [] s && recOk (RowW.records (OpenRow.toRowW PySem.Challenge.rw_onceways_k11_three_hundred_ways.row)) s
noncomputable def M.atBoot (w:World) (os:OsState):Shared:=⟨boot_heap w.params,Array.mk [],boot_drawn,boot_toks,os⟩
noncomputable def M.topOf (p:Program) (N:Nat) (w:World) (os:OsState):Option Shared:=topRun treeTable p w (M.atBoot w os).heap.objs.size ((M.atBoot w os).heap.nsMap mainGlobals "__annotations__") N (M.atBoot w os) (topStub p)
theorem M.top_run {p:Program} {N:Nat} {w:World} {os:OsState} {s:Shared} (h:topFrom treeTable p w N (M.atBoot w os)=some s):M.topOf p N w os=some s:=by
 unfold topFrom at h
 split at h
 ·obtain ⟨s1,h1,h2⟩:=Option.bind_eq_some_iff.mp h
  split at h2
  ·cases h2;exact h1
  ·cases h2
 ·cases h
theorem M.left_boot {p q:Program} {loose:List Str} {Xt:Shared->Bool} {α:Type} {Yf:Shared->α} {Ya:World->α} {N:Nat} (e:opening p=plainProg p.main.scope.names) (hN:Nat.ble 600 N=true) (f:∀ s,fenceModules? p s=some s)
  (hc:∀ (w:World) (os:OsState),(topFrom treeTable p w N (M.atBoot w os)).isSome=true)
  (ha:∀ (w:World) (os:OsState),(M.topOf p N w os).map (openSeen q loose (importedModules p.main.body) Xt true)=some (openGood q loose))
  (hb:∀ (w:World) (os:OsState),(M.topOf p N w os).map Yf=some (Ya w)) :
  LeftO p q loose Xt Yf Ya N:=λw=>by
 obtain ⟨⟨a,b,c,d,os⟩,e1,e2⟩:=Option.map_eq_some_iff.mp (boot_open e hN f w)
 obtain ⟨rfl,rfl,rfl,rfl⟩:a=boot_heap w.params/\b=Array.mk []/\c=boot_drawn/\d=boot_toks:=by simpa using e2
 obtain ⟨s,hs⟩:=Option.isSome_iff_exists.mp (hc w os)
 have h1:=ha w os
 have h2:=hb w os
 rw [M.top_run hs] at h1 h2
 unfold openEnds
 rw [e1]
 show (topFrom treeTable p w N (M.atBoot w os)).map _=_
 rw [hs]
 simp only [Option.map_some,Option.some.injEq] at h1 h2 ⊢
 rw [h1,h2]
set_option maxHeartbeats 0 in
theorem M.topA (w:World) (os:OsState):(M.topOf M.rowP 7834 w os).map (openSeen M.seenP M.loosely (importedModules M.rowP.main.body) M.hookX true)=some (openGood M.seenP M.loosely):=by
 unfold M.topOf;rw [PySem.W.Fast.te14082659384304107361,PySem.W.Fast.te14364793385576792824,PySem.W.Fast.te4187177175401517315];kernel_rfl
set_option maxHeartbeats 0 in
theorem M.topC (w:World) (os:OsState):(topFrom treeTable M.rowP w 7834 (M.atBoot w os)).isSome=true:=by
 unfold topFrom;rw [PySem.W.Fast.te14082659384304107361,PySem.W.Fast.te14364793385576792824];kernel_rfl
end
namespace M
open PySem L2
theorem all_mk {l:PySem.W.OpenLaw} {w:World} {K:PySem.W.Frag} {h:Heap} {mg:Str->Option Value} {fa f1 f2 f3 f4 f5 f6 f7 f8 f9 f10 f11 f12 f13 f14 f15 f16 f17 f18 f19 f20 f21 f22 f23 f24 f25 f26 f27 f28 no way a1 a2 a3 a4 a5 a6 a7 a8 a9 a10 a11 a12 dT:Addr} {tM:Tok} {dtc:Value} {dtd:Option Addr} {dtn:Nat} {dts:Array (Option Value)} (X:K.In h) (G:h.Ns mainGlobals mg) (hfa:mg "law" = some (.ref fa))
  {od1 an1 od2 an2 od3 an3 od4 an4 od5 an5 od6 an6 od7 an7 od8 an8 od9 an9 od10 an10 od11 an11 od12 an12 od13 an13 od14 an14 od15 an15 od16 an16 od17 an17 od18 an18 od19 an19 od20 an20 od21 an21 od22 an22 od23 an23 od24 an24 od25 an25 od26 an26 od27 an27 od28 an28:Option Addr} {sl1 sl2 sl3 sl4 sl5 sl6 sl7 sl8 sl9 sl10 sl11 sl12 sl13 sl14 sl15 sl16 sl17 sl18 sl19 sl20 sl21 sl22 sl23 sl24 sl25 sl26 sl27 sl28:Array (Option Value)} {oc1 kV1 dc1 pm1 cd1 ct1 oc2 kV2 dc2 pm2 cd2 ct2 oc3 kV3 dc3 pm3 cd3 ct3 oc4 kV4 dc4 pm4 cd4 ct4 oc5 kV5 dc5 pm5 cd5 ct5 oc6 kV6 dc6 pm6 cd6 ct6 oc7 kV7 dc7 pm7 cd7 ct7 oc8 kV8 dc8 pm8 cd8 ct8 oc9 kV9 dc9 pm9 cd9 ct9 oc10 kV10 dc10 pm10 cd10 ct10 oc11 kV11 dc11 pm11 cd11 ct11 oc12 kV12 dc12 pm12 cd12 ct12 oc13 kV13 dc13 pm13 cd13 ct13 oc14 kV14 dc14 pm14 cd14 ct14 oc15 kV15 dc15 pm15 cd15 ct15 oc16 kV16 dc16 pm16 cd16 ct16 oc17 kV17 dc17 pm17 cd17 ct17 oc18 kV18 dc18 pm18 cd18 ct18 oc19 kV19 dc19 pm19 cd19 ct19 oc20 kV20 dc20 pm20 cd20 ct20 oc21 kV21 dc21 pm21 cd21 ct21 oc22 kV22 dc22 pm22 cd22 ct22 oc23 kV23 dc23 pm23 cd23 ct23 oc24 kV24 dc24 pm24 cd24 ct24 oc25 kV25 dc25 pm25 cd25 ct25 oc26 kV26 dc26 pm26 cd26 ct26 oc27 kV27 dc27 pm27 cd27 ct27 oc28 kV28 dc28 pm28 cd28 ct28:Value}
  (aF1:PySem.W.nsIn K mainGlobals "is_place" = some (some (.ref f1))) (lF1:K.lookup f1=some ⟨oc1,od1,.func (PySem.W.fnOf "is_place" "is_place" (Zaq sIs) (Zao sIs) (Zaf sIs) .none kV1 dc1 pm1 an1 cd1 ct1),sl1⟩) (cF1:PySem.W.codeIn K cd1 "is_place" = true) (kF1:PySem.W.keepIn K (.ref f1)=true)
  (aF2:PySem.W.nsIn K mainGlobals "check_place" = some (some (.ref f2))) (lF2:K.lookup f2=some ⟨oc2,od2,.func (PySem.W.fnOf "check_place" "check_place" (Zaq Zku) (Zao Zku) (Zaf Zku) .none kV2 dc2 pm2 an2 cd2 ct2),sl2⟩) (cF2:PySem.W.codeIn K cd2 "check_place" = true) (kF2:PySem.W.keepIn K (.ref f2)=true)
  (aF3:PySem.W.nsIn K mainGlobals "beside" = some (some (.ref f3))) (lF3:K.lookup f3=some ⟨oc3,od3,.func (PySem.W.fnOf "beside" "beside" (Zaq Zkv) (Zao Zkv) (Zaf Zkv) .none kV3 dc3 pm3 an3 cd3 ct3),sl3⟩) (cF3:PySem.W.codeIn K cd3 "beside" = true) (kF3:PySem.W.keepIn K (.ref f3)=true)
  (aF4:PySem.W.nsIn K mainGlobals "check_ends" = some (some (.ref f4))) (lF4:K.lookup f4=some ⟨oc4,od4,.func (PySem.W.fnOf "check_ends" "check_ends" (Zaq Zkw) (Zao Zkw) (Zaf Zkw) .none kV4 dc4 pm4 an4 cd4 ct4),sl4⟩) (cF4:PySem.W.codeIn K cd4 "check_ends" = true) (kF4:PySem.W.keepIn K (.ref f4)=true)
  (aF5:PySem.W.nsIn K mainGlobals "numbers_by_step" = some (some (.ref f5))) (lF5:K.lookup f5=some ⟨oc5,od5,.func (PySem.W.fnOf "numbers_by_step" "numbers_by_step" (Zaq Zjm) (Zao Zjm) (Zaf Zjm) .none kV5 dc5 pm5 an5 cd5 ct5),sl5⟩) (cF5:PySem.W.codeIn K cd5 "numbers_by_step" = true) (kF5:PySem.W.keepIn K (.ref f5)=true)
  (aF6:PySem.W.nsIn K mainGlobals "steps_of" = some (some (.ref f6))) (lF6:K.lookup f6=some ⟨oc6,od6,.func (PySem.W.fnOf "steps_of" "steps_of" (Zaq Zkx) (Zao Zkx) (Zaf Zkx) .none kV6 dc6 pm6 an6 cd6 ct6),sl6⟩) (cF6:PySem.W.codeIn K cd6 "steps_of" = true) (kF6:PySem.W.keepIn K (.ref f6)=true)
  (aF7:PySem.W.nsIn K mainGlobals "roads_of" = some (some (.ref f7))) (lF7:K.lookup f7=some ⟨oc7,od7,.func (PySem.W.fnOf "roads_of" "roads_of" (Zaq Zfi) (Zao Zfi) (Zaf Zfi) (.ref dT) kV7 dc7 pm7 an7 cd7 ct7),sl7⟩) (cF7:PySem.W.codeIn K cd7 "roads_of" = true) (kF7:PySem.W.keepIn K (.ref f7)=true)
  (aF8:PySem.W.nsIn K mainGlobals "reached" = some (some (.ref f8))) (lF8:K.lookup f8=some ⟨oc8,od8,.func (PySem.W.fnOf "reached" "reached" (Zaq Zjn) (Zao Zjn) (Zaf Zjn) .none kV8 dc8 pm8 an8 cd8 ct8),sl8⟩) (cF8:PySem.W.codeIn K cd8 "reached" = true) (kF8:PySem.W.keepIn K (.ref f8)=true)
  (aF9:PySem.W.nsIn K mainGlobals "ways_between" = some (some (.ref f9))) (lF9:K.lookup f9=some ⟨oc9,od9,.func (PySem.W.fnOf "ways_between" "ways_between" (Zaq ZiH) (Zao ZiH) (Zaf ZiH) .none kV9 dc9 pm9 an9 cd9 ct9),sl9⟩) (cF9:PySem.W.codeIn K cd9 "ways_between" = true) (kF9:PySem.W.keepIn K (.ref f9)=true)
  (aF10:PySem.W.nsIn K mainGlobals "told_sets" = some (some (.ref f10))) (lF10:K.lookup f10=some ⟨oc10,od10,.func (PySem.W.fnOf "told_sets" "told_sets" (Zaq Zjo) (Zao Zjo) (Zaf Zjo) .none kV10 dc10 pm10 an10 cd10 ct10),sl10⟩) (cF10:PySem.W.codeIn K cd10 "told_sets" = true) (kF10:PySem.W.keepIn K (.ref f10)=true)
  (aF11:PySem.W.nsIn K mainGlobals "every_way" = some (some (.ref f11))) (lF11:K.lookup f11=some ⟨oc11,od11,.func (PySem.W.fnOf "every_way" "every_way" (Zaq Zky) (Zao Zky) (Zaf Zky) .none kV11 dc11 pm11 an11 cd11 ct11),sl11⟩) (cF11:PySem.W.codeIn K cd11 "every_way" = true) (kF11:PySem.W.keepIn K (.ref f11)=true)
  (aF12:PySem.W.nsIn K mainGlobals "every_closed" = some (some (.ref f12))) (lF12:K.lookup f12=some ⟨oc12,od12,.func (PySem.W.fnOf "every_closed" "every_closed" (Zaq Zkz) (Zao Zkz) (Zaf Zkz) .none kV12 dc12 pm12 an12 cd12 ct12),sl12⟩) (cF12:PySem.W.codeIn K cd12 "every_closed" = true) (kF12:PySem.W.keepIn K (.ref f12)=true)
  (aF13:PySem.W.nsIn K mainGlobals "_law_stir" = some (some (.ref f13))) (lF13:K.lookup f13=some ⟨oc13,od13,.func (PySem.W.fnOf "_law_stir" "_law_stir" (Zaq Zfj) (Zao Zfj) (Zaf Zfj) .none kV13 dc13 pm13 an13 cd13 ct13),sl13⟩) (cF13:PySem.W.codeIn K cd13 "_law_stir" = true) (kF13:PySem.W.keepIn K (.ref f13)=true)
  (aF14:PySem.W.nsIn K mainGlobals "_law_deck" = some (some (.ref f14))) (lF14:K.lookup f14=some ⟨oc14,od14,.func (PySem.W.fnOf "_law_deck" "_law_deck" (Zaq Zfk) (Zao Zfk) (Zaf Zfk) .none kV14 dc14 pm14 an14 cd14 ct14),sl14⟩) (cF14:PySem.W.codeIn K cd14 "_law_deck" = true) (kF14:PySem.W.keepIn K (.ref f14)=true)
  (aF15:PySem.W.nsIn K mainGlobals "_law_take" = some (some (.ref f15))) (lF15:K.lookup f15=some ⟨oc15,od15,.func (PySem.W.fnOf "_law_take" "_law_take" (Zaq ZeH) (Zao ZeH) (Zaf ZeH) .none kV15 dc15 pm15 an15 cd15 ct15),sl15⟩) (cF15:PySem.W.codeIn K cd15 "_law_take" = true) (kF15:PySem.W.keepIn K (.ref f15)=true)
  (aF16:PySem.W.nsIn K mainGlobals "_law_is_set" = some (some (.ref f16))) (lF16:K.lookup f16=some ⟨oc16,od16,.func (PySem.W.fnOf "_law_is_set" "_law_is_set" (Zaq Zjp) (Zao Zjp) (Zaf Zjp) .none kV16 dc16 pm16 an16 cd16 ct16),sl16⟩) (cF16:PySem.W.codeIn K cd16 "_law_is_set" = true) (kF16:PySem.W.keepIn K (.ref f16)=true)
  (aF17:PySem.W.nsIn K mainGlobals "_law_walk" = some (some (.ref f17))) (lF17:K.lookup f17=some ⟨oc17,od17,.func (PySem.W.fnOf "_law_walk" "_law_walk" (Zaq Zht) (Zao Zht) (Zaf Zht) .none kV17 dc17 pm17 an17 cd17 ct17),sl17⟩) (cF17:PySem.W.codeIn K cd17 "_law_walk" = true) (kF17:PySem.W.keepIn K (.ref f17)=true)
  (aF18:PySem.W.nsIn K mainGlobals "_law_at" = some (some (.ref f18))) (lF18:K.lookup f18=some ⟨oc18,od18,.func (PySem.W.fnOf "_law_at" "_law_at" (Zaq Zjq) (Zao Zjq) (Zaf Zjq) .none kV18 dc18 pm18 an18 cd18 ct18),sl18⟩) (cF18:PySem.W.codeIn K cd18 "_law_at" = true) (kF18:PySem.W.keepIn K (.ref f18)=true)
  (aF19:PySem.W.nsIn K mainGlobals "_law_open" = some (some (.ref f19))) (lF19:K.lookup f19=some ⟨oc19,od19,.func (PySem.W.fnOf "_law_open" "_law_open" (Zaq ZkA) (Zao ZkA) (Zaf ZkA) .none kV19 dc19 pm19 an19 cd19 ct19),sl19⟩) (cF19:PySem.W.codeIn K cd19 "_law_open" = true) (kF19:PySem.W.keepIn K (.ref f19)=true)
  (aF20:PySem.W.nsIn K mainGlobals "_law_ring" = some (some (.ref f20))) (lF20:K.lookup f20=some ⟨oc20,od20,.func (PySem.W.fnOf "_law_ring" "_law_ring" (Zaq Zjr) (Zao Zjr) (Zaf Zjr) .none kV20 dc20 pm20 an20 cd20 ct20),sl20⟩) (cF20:PySem.W.codeIn K cd20 "_law_ring" = true) (kF20:PySem.W.keepIn K (.ref f20)=true)
  (aF21:PySem.W.nsIn K mainGlobals "_law_block" = some (some (.ref f21))) (lF21:K.lookup f21=some ⟨oc21,od21,.func (PySem.W.fnOf "_law_block" "_law_block" (Zaq Zh2) (Zao Zh2) (Zaf Zh2) .none kV21 dc21 pm21 an21 cd21 ct21),sl21⟩) (cF21:PySem.W.codeIn K cd21 "_law_block" = true) (kF21:PySem.W.keepIn K (.ref f21)=true)
  (aF22:PySem.W.nsIn K mainGlobals "_law_chain" = some (some (.ref f22))) (lF22:K.lookup f22=some ⟨oc22,od22,.func (PySem.W.fnOf "_law_chain" "_law_chain" (Zaq ZkB) (Zao ZkB) (Zaf ZkB) .none kV22 dc22 pm22 an22 cd22 ct22),sl22⟩) (cF22:PySem.W.codeIn K cd22 "_law_chain" = true) (kF22:PySem.W.keepIn K (.ref f22)=true)
  (aF23:PySem.W.nsIn K mainGlobals "_law_rings_known" = some (some (.ref f23))) (lF23:K.lookup f23=some ⟨oc23,od23,.func (PySem.W.fnOf "_law_rings_known" "_law_rings_known" (Zaq ZkC) (Zao ZkC) (Zaf ZkC) .none kV23 dc23 pm23 an23 cd23 ct23),sl23⟩) (cF23:PySem.W.codeIn K cd23 "_law_rings_known" = true) (kF23:PySem.W.keepIn K (.ref f23)=true)
  (aF24:PySem.W.nsIn K mainGlobals "_law_known" = some (some (.ref f24))) (lF24:K.lookup f24=some ⟨oc24,od24,.func (PySem.W.fnOf "_law_known" "_law_known" (Zaq ZkD) (Zao ZkD) (Zaf ZkD) .none kV24 dc24 pm24 an24 cd24 ct24),sl24⟩) (cF24:PySem.W.codeIn K cd24 "_law_known" = true) (kF24:PySem.W.keepIn K (.ref f24)=true)
  (aF25:PySem.W.nsIn K mainGlobals "_law_turned" = some (some (.ref f25))) (lF25:K.lookup f25=some ⟨oc25,od25,.func (PySem.W.fnOf "_law_turned" "_law_turned" (Zaq ZkE) (Zao ZkE) (Zaf ZkE) .none kV25 dc25 pm25 an25 cd25 ct25),sl25⟩) (cF25:PySem.W.codeIn K cd25 "_law_turned" = true) (kF25:PySem.W.keepIn K (.ref f25)=true)
  (aF26:PySem.W.nsIn K mainGlobals "_law_told" = some (some (.ref f26))) (lF26:K.lookup f26=some ⟨oc26,od26,.func (PySem.W.fnOf "_law_told" "_law_told" (Zaq ZkF) (Zao ZkF) (Zaf ZkF) .none kV26 dc26 pm26 an26 cd26 ct26),sl26⟩) (cF26:PySem.W.codeIn K cd26 "_law_told" = true) (kF26:PySem.W.keepIn K (.ref f26)=true)
  (aF27:PySem.W.nsIn K mainGlobals "_law_right" = some (some (.ref f27))) (lF27:K.lookup f27=some ⟨oc27,od27,.func (PySem.W.fnOf "_law_right" "_law_right" (Zaq Zjs) (Zao Zjs) (Zaf Zjs) .none kV27 dc27 pm27 an27 cd27 ct27),sl27⟩) (cF27:PySem.W.codeIn K cd27 "_law_right" = true) (kF27:PySem.W.keepIn K (.ref f27)=true)
  (aF28:PySem.W.nsIn K mainGlobals "law" = some (some (.ref f28))) (lF28:K.lookup f28=some ⟨oc28,od28,.func (PySem.W.fnOf "law" "law" (Zaq ZiI) (Zao ZiI) (Zaf ZiI) .none kV28 dc28 pm28 an28 cd28 ct28),sl28⟩) (cF28:PySem.W.codeIn K cd28 "law" = true) (kF28:PySem.W.keepIn K (.ref f28)=true)
  (gno:PySem.W.nsIn K mainGlobals "TooMany" = some (some (.ref no)))
  (gway:PySem.W.nsIn K mainGlobals "WayError" = some (some (.ref way)))
  (ga1:PySem.W.nsIn K mainGlobals "NoEnds" = some (some (.ref a1)))
  (ga2:PySem.W.nsIn K mainGlobals "NoName" = some (some (.ref a2)))
  (ga3:PySem.W.nsIn K mainGlobals "NoNumber" = some (some (.ref a3)))
  (ga4:PySem.W.nsIn K mainGlobals "NoOrder" = some (some (.ref a4)))
  (ga5:PySem.W.nsIn K mainGlobals "NoPlace" = some (some (.ref a5)))
  (ga6:PySem.W.nsIn K mainGlobals "NoRow" = some (some (.ref a6)))
  (ga7:PySem.W.nsIn K mainGlobals "NoStep" = some (some (.ref a7)))
  (ga8:PySem.W.nsIn K mainGlobals "NoTable" = some (some (.ref a8)))
  (ga9:PySem.W.nsIn K mainGlobals "NoText" = some (some (.ref a9)))
  (ga10:PySem.W.nsIn K mainGlobals "NoWall" = some (some (.ref a10)))
  (ga11:PySem.W.nsIn K mainGlobals "NoWay" = some (some (.ref a11)))
  (ga12:PySem.W.nsIn K mainGlobals "NoWeb" = some (some (.ref a12)))
  (xex:ExcC K no)
  (xga:PySem.W.findIn K (.ref no) "__getattribute__" = some (some (.builtin "BaseException.__getattribute__")))
  (xnga:PySem.W.findIn K (.ref no) "__getattr__" = some none)
  (xcl:PySem.W.findIn K (.ref no) "__class__" = some (some (.builtin "object.__class__")))
  (xob:PySem.W.mroIn K no (.type "object")=some true)
  (xbe:PySem.W.subIn K (.ref no) (.type "BaseException")=some true)
  (wbe:PySem.W.subIn K (.ref way) (.type "BaseException")=some true)
  (cw:PySem.W.kitOne K (.ref no) (.ref way)=some true)
  (nne:no≠way)
  (t10:PySem.W.kitAny K (.ref no) [.ref a1,.ref a2,.ref a3,.ref a4,.ref a5,.ref a6,.ref a7,.ref a8,.ref a9,.ref a10]=some false)
  (t2:PySem.W.kitAny K (.ref no) [.ref a11,.ref a12]=some false)
  (ve:PySem.W.kitOne K (.ref no) (.type "ValueError")=some true)
  (xP:ExcC K a5)
  (xE:ExcC K a1)
  (gMW:PySem.W.nsIn K mainGlobals "MOST_WAYS" = some (some (.int 300 tM)))
  (dTl:K.lookup dT=some ⟨dtc,dtd,.seq #[.bool false] dtn,dts⟩)
  (nrange:PySem.W.nsIn K mainGlobals "range" = some none)
  (nlist:PySem.W.nsIn K mainGlobals "list" = some none)
  (nlen:PySem.W.nsIn K mainGlobals "len" = some none)
  (nint:PySem.W.nsIn K mainGlobals "int" = some none)
  (nmin:PySem.W.nsIn K mainGlobals "min" = some none)
  (nmax:PySem.W.nsIn K mainGlobals "max" = some none)
  (nsorted:PySem.W.nsIn K mainGlobals "sorted" = some none)
  (nzip:PySem.W.nsIn K mainGlobals "zip" = some none)
  (nenumerate:PySem.W.nsIn K mainGlobals "enumerate" = some none)
  (nisi:PySem.W.nsIn K mainGlobals "isinstance" = some none)
  (nvee:PySem.W.nsIn K mainGlobals "ValueError" = some none)
  : ∃ fd:FuncData,(∀ (s:Shared) (v:Value),BindsTo s fd ⟨[v],[]⟩ [("script", v)])/\∀ base:Heap,K.In base->base.Ns mainGlobals mg->ZaO l.prog w K mg base CX0 8 fa fd ["script"] (Zi6 K):=by
 have e:=hfa.symm.trans (PySem.W.mg_of X G aF28)
 cases e
 have FIp:=ZaJ (st:=sIs) lF1 cF1 kF1
 have bIp:=FIp.binds (ps:=["web", "place"]) λ_ _ _ _ _ _ us hl=>match us,hl with | [_,_],_=>rfl
 have mIp:mg "is_place" = some (.ref f1):=PySem.W.mg_of X G aF1
 have FCp:=ZaJ (st:=Zku) lF2 cF2 kF2
 have bCp:=FCp.binds (ps:=["web", "place"]) λ_ _ _ _ _ _ us hl=>match us,hl with | [_,_],_=>rfl
 have mCp:mg "check_place" = some (.ref f2):=PySem.W.mg_of X G aF2
 have FBe:=ZaJ (st:=Zkv) lF3 cF3 kF3
 have bBe:=FBe.binds (ps:=["web", "place"]) λ_ _ _ _ _ _ us hl=>match us,hl with | [_,_],_=>rfl
 have mBe:mg "beside" = some (.ref f3):=PySem.W.mg_of X G aF3
 have FCe:=ZaJ (st:=Zkw) lF4 cF4 kF4
 have bCe:=FCe.binds (ps:=["web", "one", "other"]) λ_ _ _ _ _ _ us hl=>match us,hl with | [_,_,_],_=>rfl
 have mCe:mg "check_ends" = some (.ref f4):=PySem.W.mg_of X G aF4
 have FNb:=ZaJ (st:=Zjm) lF5 cF5 kF5
 have bNb:=FNb.binds (ps:=["web"]) λ_ _ _ _ _ _ us hl=>match us,hl with | [_],_=>rfl
 have mNb:mg "numbers_by_step" = some (.ref f5):=PySem.W.mg_of X G aF5
 have FSo:=ZaJ (st:=Zkx) lF6 cF6 kF6
 have bSo:=FSo.binds (ps:=["places", "closed"]) λ_ _ _ _ _ _ us hl=>match us,hl with | [_,_],_=>rfl
 have mSo:mg "steps_of" = some (.ref f6):=PySem.W.mg_of X G aF6
 have FRo:=Zke (st:=Zfi) lF7 cF7 kF7
 have bRo:Binds K _ ["web", "places", "closed"] []:=λs us X' hl=>match us,hl with | [_,_,_],_=>PySem.W.binds_K (fd:=PySem.W.fnOf "roads_of" "roads_of" (Zaq Zfi) (Zao Zfi) (Zaf Zfi) (.ref dT) kV7 dc7 pm7 an7 cd7 ct7) X' rfl dTl rfl rfl rfl
 have bRo2:Binds K _ ["web", "places", "closed"] [.bool false]:=λs us X' hl=>match us,(show us.length=2 by rw [List.length_append] at hl;simpa using hl) with | [_,_],_=>PySem.W.binds_K (fd:=PySem.W.fnOf "roads_of" "roads_of" (Zaq Zfi) (Zao Zfi) (Zaf Zfi) (.ref dT) kV7 dc7 pm7 an7 cd7 ct7) X' rfl dTl rfl rfl rfl
 have mRo:mg "roads_of" = some (.ref f7):=PySem.W.mg_of X G aF7
 have FRe:=ZaJ (st:=Zjn) lF8 cF8 kF8
 have bRe:=FRe.binds (ps:=["links", "start", "gone"]) λ_ _ _ _ _ _ us hl=>match us,hl with | [_,_,_],_=>rfl
 have mRe:mg "reached" = some (.ref f8):=PySem.W.mg_of X G aF8
 have FWb:=ZaJ (st:=ZiH) lF9 cF9 kF9
 have bWb:=FWb.binds (ps:=["web", "one", "other"]) λ_ _ _ _ _ _ us hl=>match us,hl with | [_,_,_],_=>rfl
 have mWb:mg "ways_between" = some (.ref f9):=PySem.W.mg_of X G aF9
 have FTs:=ZaJ (st:=Zjo) lF10 cF10 kF10
 have bTs:=FTs.binds (ps:=["sets"]) λ_ _ _ _ _ _ us hl=>match us,hl with | [_],_=>rfl
 have mTs:mg "told_sets" = some (.ref f10):=PySem.W.mg_of X G aF10
 have FEw:=ZaJ (st:=Zky) lF11 cF11 kF11
 have bEw:=FEw.binds (ps:=["web", "one", "other"]) λ_ _ _ _ _ _ us hl=>match us,hl with | [_,_,_],_=>rfl
 have mEw:mg "every_way" = some (.ref f11):=PySem.W.mg_of X G aF11
 have FEc:=ZaJ (st:=Zkz) lF12 cF12 kF12
 have bEc:=FEc.binds (ps:=["web"]) λ_ _ _ _ _ _ us hl=>match us,hl with | [_],_=>rfl
 have mEc:mg "every_closed" = some (.ref f12):=PySem.W.mg_of X G aF12
 have FSt:=ZaJ (st:=Zfj) lF13 cF13 kF13
 have bSt:=FSt.binds (ps:=["cell", "k"]) λ_ _ _ _ _ _ us hl=>match us,hl with | [_,_],_=>rfl
 have mSt:mg "_law_stir" = some (.ref f13):=PySem.W.mg_of X G aF13
 have FDe:=ZaJ (st:=Zfk) lF14 cF14 kF14
 have bDe:=FDe.binds (ps:=["cell"]) λ_ _ _ _ _ _ us hl=>match us,hl with | [_],_=>rfl
 have mDe:mg "_law_deck" = some (.ref f14):=PySem.W.mg_of X G aF14
 have FTa:=ZaJ (st:=ZeH) lF15 cF15 kF15
 have bTa:=FTa.binds (ps:=["deck", "many"]) λ_ _ _ _ _ _ us hl=>match us,hl with | [_,_],_=>rfl
 have mTa:mg "_law_take" = some (.ref f15):=PySem.W.mg_of X G aF15
 have FIs:=ZaJ (st:=Zjp) lF16 cF16 kF16
 have bIs:=FIs.binds (ps:=["web", "roads"]) λ_ _ _ _ _ _ us hl=>match us,hl with | [_,_],_=>rfl
 have mIs:mg "_law_is_set" = some (.ref f16):=PySem.W.mg_of X G aF16
 have FLw:=ZaJ (st:=Zht) lF17 cF17 kF17
 have bLw:=FLw.binds (ps:=["web", "roads", "place"]) λ_ _ _ _ _ _ us hl=>match us,hl with | [_,_,_],_=>rfl
 have mLw:mg "_law_walk" = some (.ref f17):=PySem.W.mg_of X G aF17
 have FAt:=ZaJ (st:=Zjq) lF18 cF18 kF18
 have bAt:=FAt.binds (ps:=["web", "roads", "place"]) λ_ _ _ _ _ _ us hl=>match us,hl with | [_,_,_],_=>rfl
 have mAt:mg "_law_at" = some (.ref f18):=PySem.W.mg_of X G aF18
 have FOp:=ZaJ (st:=ZkA) lF19 cF19 kF19
 have bOp:=FOp.binds (ps:=["web", "one", "other", "roads"]) λ_ _ _ _ _ _ us hl=>match us,hl with | [_,_,_,_],_=>rfl
 have mOp:mg "_law_open" = some (.ref f19):=PySem.W.mg_of X G aF19
 have FRi:=ZaJ (st:=Zjr) lF20 cF20 kF20
 have bRi:=FRi.binds (ps:=["web", "roads"]) λ_ _ _ _ _ _ us hl=>match us,hl with | [_,_],_=>rfl
 have mRi:mg "_law_ring" = some (.ref f20):=PySem.W.mg_of X G aF20
 have FBl:=ZaJ (st:=Zh2) lF21 cF21 kF21
 have bBl:=FBl.binds (ps:=["first", "many", "lacking"]) λ_ _ _ _ _ _ us hl=>match us,hl with | [_,_,_],_=>rfl
 have mBl:mg "_law_block" = some (.ref f21):=PySem.W.mg_of X G aF21
 have FCh:=ZaJ (st:=ZkB) lF22 cF22 kF22
 have bCh:=FCh.binds (ps:=["sizes"]) λ_ _ _ _ _ _ us hl=>match us,hl with | [_],_=>rfl
 have mCh:mg "_law_chain" = some (.ref f22):=PySem.W.mg_of X G aF22
 have FRk:=ZaJ (st:=ZkC) lF23 cF23 kF23
 have bRk:=FRk.binds (ps:=["few"]) λ_ _ _ _ _ _ us hl=>match us,hl with | [_],_=>rfl
 have mRk:mg "_law_rings_known" = some (.ref f23):=PySem.W.mg_of X G aF23
 have FKn:=ZaJ (st:=ZkD) lF24 cF24 kF24
 have bKn:=FKn.binds (ps:=["way"]) λ_ _ _ _ _ _ us hl=>match us,hl with | [_],_=>rfl
 have mKn:mg "_law_known" = some (.ref f24):=PySem.W.mg_of X G aF24
 have FTu:=ZaJ (st:=ZkE) lF25 cF25 kF25
 have bTu:=FTu.binds (ps:=["deck", "web"]) λ_ _ _ _ _ _ us hl=>match us,hl with | [_,_],_=>rfl
 have mTu:mg "_law_turned" = some (.ref f25):=PySem.W.mg_of X G aF25
 have FTo:=ZaJ (st:=ZkF) lF26 cF26 kF26
 have bTo:=FTo.binds (ps:=["web", "one", "other", "closed"]) λ_ _ _ _ _ _ us hl=>match us,hl with | [_,_,_,_],_=>rfl
 have mTo:mg "_law_told" = some (.ref f26):=PySem.W.mg_of X G aF26
 have FRg:=ZaJ (st:=Zjs) lF27 cF27 kF27
 have bRg:=FRg.binds (ps:=["web", "one", "other", "closed", "many"]) λ_ _ _ _ _ _ us hl=>match us,hl with | [_,_,_,_,_],_=>rfl
 have mRg:mg "_law_right" = some (.ref f27):=PySem.W.mg_of X G aF27
 have FL:=ZaJ (st:=ZiI) lF28 cF28 kF28
 refine ⟨PySem.W.fnOf "law" "law" (Zaq ZiI) (Zao ZiI) (Zaf ZiI) .none kV28 dc28 pm28 an28 cd28 ct28,λs v=>.of_eq rfl,λbase _ _=>?_⟩
 have T:ClsR K mg no way a1 a2 a3 a4 a5 a6 a7 a8 a9 a10 a11 a12:=⟨⟨xex,xga,xnga,xcl,xob,xbe⟩,(PySem.W.mg_of X G gno),(PySem.W.mg_of X G gway),(PySem.W.mg_of X G ga1),(PySem.W.mg_of X G ga2),(PySem.W.mg_of X G ga3),(PySem.W.mg_of X G ga4),(PySem.W.mg_of X G ga5),(PySem.W.mg_of X G ga6),(PySem.W.mg_of X G ga7),(PySem.W.mg_of X G ga8),(PySem.W.mg_of X G ga9),(PySem.W.mg_of X G ga10),(PySem.W.mg_of X G ga11),(PySem.W.mg_of X G ga12),wbe,cw,nne,t10,t2,ve,(PySem.W.mg_none_of X G nisi),(PySem.W.mg_none_of X G nvee)⟩
 have GDe:=ZkH (P:=l.prog) (w:=w) (base:=base) FDe FSt bSt mSt
 have GOp:=Zmn (P:=l.prog) (w:=w) (base:=base) FOp FIs bIs mIs FAt bAt mAt FLw bLw mLw (PySem.W.mg_none_of X G nrange) (PySem.W.mg_none_of X G nlen) (PySem.W.mg_none_of X G nint) (PySem.W.mg_none_of X G nlist) (PySem.W.mg_none_of X G nmin)
 have GRi:=Zmp (P:=l.prog) (w:=w) (base:=base) FRi FIs bIs mIs FAt bAt mAt FLw bLw mLw (PySem.W.mg_none_of X G nrange) (PySem.W.mg_none_of X G nlen) (PySem.W.mg_none_of X G nint) (PySem.W.mg_none_of X G nlist) (PySem.W.mg_none_of X G nmin)
 have GCe:=Zl4 (P:=l.prog) (w:=w) (base:=base) FCe FIp bIp mIp T.m1 xE
 have GCp:=Zl7 (P:=l.prog) (w:=w) (base:=base) FCp FIp bIp mIp T.m5 xP
 have GBe:=Zl9 (P:=l.prog) (w:=w) (base:=base) FBe FCp bCp mCp GCp (PySem.W.mg_none_of X G nsorted)
 have GRo:=Zl5 (P:=l.prog) (w:=w) (base:=base) FRo FNb bNb mNb FSo bSo mSo (PySem.W.mg_none_of X G nenumerate) (PySem.W.mg_none_of X G nlist) (PySem.W.mg_none_of X G nzip) (PySem.W.mg_none_of X G nsorted)
 have GWb:=Zmg (P:=l.prog) (w:=w) (base:=base) FWb FBe bBe mBe GBe FRe bRe mRe (PySem.W.mg_of X G gMW) (PySem.W.mg_none_of X G nrange) (PySem.W.mg_none_of X G nlen)
 have GTs:=Zmh (P:=l.prog) (w:=w) (base:=base) FTs (PySem.W.mg_of X G gMW) T.mno T.k.ex (PySem.W.mg_none_of X G nlen) (PySem.W.mg_none_of X G nsorted)
 have GEw:=Zmj (P:=l.prog) (w:=w) (base:=base) FEw FCe bCe mCe GCe FWb bWb mWb GWb FTs bTs mTs GTs FRo bRo2 mRo GRo
 have GEc:=Zml (P:=l.prog) (w:=w) (base:=base) FEc FWb bWb mWb GWb FTs bTs mTs GTs FRo bRo mRo GRo (PySem.W.mg_none_of X G nenumerate)
 have GBl:=Zmu (P:=l.prog) (w:=w) (base:=base) FBl (PySem.W.mg_none_of X G nrange)
 have GCh:=Zmw (P:=l.prog) (w:=w) (base:=base) FCh FBl bBl mBl GBl
 have GRk:=Zmy (P:=l.prog) (w:=w) (base:=base) FRk FBl bBl mBl GBl (PySem.W.mg_none_of X G nrange)
 have GKn:=ZmA (P:=l.prog) (w:=w) (base:=base) FKn FBl bBl mBl GBl FCh bCh mCh GCh FRk bRk mRk GRk (PySem.W.mg_none_of X G nint)
 have GTu:=ZmC (P:=l.prog) (w:=w) (base:=base) FTu FTa bTa mTa (PySem.W.mg_none_of X G nrange) (PySem.W.mg_none_of X G nlist) (PySem.W.mg_none_of X G nlen) (PySem.W.mg_none_of X G nmin) (PySem.W.mg_none_of X G nmax)
 have GTo:=ZmG (P:=l.prog) (w:=w) (base:=base) FTo T FEc bEc mEc GEc FEw bEw mEw GEw (PySem.W.mg_none_of X G nint)
 have GRg:=ZmI (P:=l.prog) (w:=w) (base:=base) FRg FTo bTo mTo GTo FRi bRi mRi GRi FOp bOp mOp GOp (PySem.W.mg_none_of X G nisi) (PySem.W.mg_none_of X G nlist) (PySem.W.mg_none_of X G nlen) (PySem.W.mg_none_of X G nrange)
 exact ZmJ FL FDe bDe mDe GDe FTa bTa mTa FKn bKn mKn GKn FTu bTu mTu GTu FRg bRg mRg GRg (PySem.W.mg_none_of X G nlist)
theorem walk {l:PySem.W.OpenLaw} {q:Program} {loose:List Str} {XP:(Str->Option Value)->Heap->Prop} {YP:World->Heap->Prop} {d:DefRec} {K:Params->PySem.W.Frag} (hn:l.most=some 63) (hdf:d.params.defaults=[])
  (hY:∀ (w:World) (h:Heap),YP w h->(K w.params).In h)
  (F:∀ (w:World) (mg:Str->Option Value) (fa:Addr) (h:Heap),(K w.params).In h->h.Ns mainGlobals mg->mg d.name=some (.ref fa) ->
   ∃ fd:FuncData,(∀ (s:Shared) (u:Value),BindsTo s fd ⟨[u],[]⟩ [("script", u)])/\∀ base:Heap,(K w.params).In base->base.Ns mainGlobals mg->ZaO l.prog w (K w.params) mg base CX0 8 fa fd ["script"] (Zi6 (K w.params))) :
  PySem.W.WalkO q loose XP YP l.row.toRowW d [] (λf vs=>PySem.call f vs):=
 L2.walk_of (n:=63) (k:=8) (x := "script") (CX:=λ_=>CX0) (sp:=λw=>Zi6 (K w.params)) hn (by decide) hdf ⟨rfl,by decide,by decide⟩ hY F (λ_ _ a ns hl _ hS=>⟨a,ns,rfl,hS,hl,λ_=>rfl⟩) λ_ _ _ _ _ z=>z
end M
open PySem PySem.W PyProof.Rows
local macro_rules
 | `(tactic| o_head $H)=>`(tactic| (
  refine @holds_open _ M.seenP M.loosely M.hookX (XL M.seenP []) _ (Hook.obs $H) (Hook.val $H) (Hook.says $H) _ _ 7834
   (@M.left_boot M.rowP M.seenP M.loosely M.hookX _ (Hook.obs $H) (Hook.val $H) 7834 ?b1 ?b2 ?b3 M.topC M.topA ?hl)
   (Hook.of $H) (Hook.keeps $H) ?h1 XL.keeps (by rfl) (by rfl) (by rfl) ?h5 ?h6 ?h7 ?h8 ?h9 ?hw ?hc
  (case h1=>exact λs e=>xl_of s (Bool.and_eq_true_iff.mp e).1)
  (case h5=>exact λs e=>recFacts_of (Bool.and_eq_true_iff.mp e).2)
  (case h6=>rfl)
  (case h7=>first | assumption | decide +kernel)
  (case h8=>decide +kernel)
  (case h9=>exact ⟨rfl,rfl,rfl,rfl,rfl,by decide +kernel⟩)
  (case b1=>kernel_rfl)
  (case b2=>decide)
  (case b3=>(intro s;kernel_rfl))
  (case hl=>(intro w os;unfold M.topOf;rw [PySem.W.Fast.te14082659384304107361,PySem.W.Fast.te14364793385576792824];kernel_rfl))))
set_option maxRecDepth 100000 in
set_option maxHeartbeats 0 in
theorem PySem.Challenge.cw_onceways_k11_three_hundred_ways_holds : PySem.Challenge.rw_onceways_k11_three_hundred_ways.Holds := by
 w_on;o_law;k_head;(case hw=>w_witness2)
 k_fill
 refine M.walk (l:=PySem.Challenge.rw_onceways_k11_three_hundred_ways) rfl rfl (λw h Y=>PySem.W.kIn_of Y) ?F
 case F=>
  intro w mg fa h KX G hmg
  refine' M.all_mk KX G hmg ?aF1 ?lF1 ?cF1 ?kF1 ?aF2 ?lF2 ?cF2 ?kF2 ?aF3 ?lF3 ?cF3 ?kF3 ?aF4 ?lF4 ?cF4 ?kF4 ?aF5 ?lF5 ?cF5 ?kF5 ?aF6 ?lF6 ?cF6 ?kF6 ?aF7 ?lF7 ?cF7 ?kF7 ?aF8 ?lF8 ?cF8 ?kF8 ?aF9 ?lF9 ?cF9 ?kF9 ?aF10 ?lF10 ?cF10 ?kF10 ?aF11 ?lF11 ?cF11 ?kF11 ?aF12 ?lF12 ?cF12 ?kF12 ?aF13 ?lF13 ?cF13 ?kF13 ?aF14 ?lF14 ?cF14 ?kF14 ?aF15 ?lF15 ?cF15 ?kF15 ?aF16 ?lF16 ?cF16 ?kF16 ?aF17 ?lF17 ?cF17 ?kF17 ?aF18 ?lF18 ?cF18 ?kF18 ?aF19 ?lF19 ?cF19 ?kF19 ?aF20 ?lF20 ?cF20 ?kF20 ?aF21 ?lF21 ?cF21 ?kF21 ?aF22 ?lF22 ?cF22 ?kF22 ?aF23 ?lF23 ?cF23 ?kF23 ?aF24 ?lF24 ?cF24 ?kF24 ?aF25 ?lF25 ?cF25 ?kF25 ?aF26 ?lF26 ?cF26 ?kF26 ?aF27 ?lF27 ?cF27 ?kF27 ?aF28 ?lF28 ?cF28 ?kF28 ?gno ?gway ?ga1 ?ga2 ?ga3 ?ga4 ?ga5 ?ga6 ?ga7 ?ga8 ?ga9 ?ga10 ?ga11 ?ga12 ?xex ?xga ?xnga ?xcl ?xob ?xbe ?wbe ?cw ?nne ?t10 ?t2 ?ve ?xP ?xE ?gMW ?dTl ?nrange ?nlist ?nlen ?nint ?nmin ?nmax ?nsorted ?nzip ?nenumerate ?nisi ?nvee
  (case aF1=>k_is)
  (case lF1=>k_is)
  (case cF1=>k_is)
  (case kF1=>k_is)
  (case aF2=>k_is)
  (case lF2=>k_is)
  (case cF2=>k_is)
  (case kF2=>k_is)
  (case aF3=>k_is)
  (case lF3=>k_is)
  (case cF3=>k_is)
  (case kF3=>k_is)
  (case aF4=>k_is)
  (case lF4=>k_is)
  (case cF4=>k_is)
  (case kF4=>k_is)
  (case aF5=>k_is)
  (case lF5=>k_is)
  (case cF5=>k_is)
  (case kF5=>k_is)
  (case aF6=>k_is)
  (case lF6=>k_is)
  (case cF6=>k_is)
  (case kF6=>k_is)
  (case aF7=>k_is)
  (case lF7=>k_is)
  (case cF7=>k_is)
  (case kF7=>k_is)
  (case aF8=>k_is)
  (case lF8=>k_is)
  (case cF8=>k_is)
  (case kF8=>k_is)
  (case aF9=>k_is)
  (case lF9=>k_is)
  (case cF9=>k_is)
  (case kF9=>k_is)
  (case aF10=>k_is)
  (case lF10=>k_is)
  (case cF10=>k_is)
  (case kF10=>k_is)
  (case aF11=>k_is)
  (case lF11=>k_is)
  (case cF11=>k_is)
  (case kF11=>k_is)
  (case aF12=>k_is)
  (case lF12=>k_is)
  (case cF12=>k_is)
  (case kF12=>k_is)
  (case aF13=>k_is)
  (case lF13=>k_is)
  (case cF13=>k_is)
  (case kF13=>k_is)
  (case aF14=>k_is)
  (case lF14=>k_is)
  (case cF14=>k_is)
  (case kF14=>k_is)
  (case aF15=>k_is)
  (case lF15=>k_is)
  (case cF15=>k_is)
  (case kF15=>k_is)
  (case aF16=>k_is)
  (case lF16=>k_is)
  (case cF16=>k_is)
  (case kF16=>k_is)
  (case aF17=>k_is)
  (case lF17=>k_is)
  (case cF17=>k_is)
  (case kF17=>k_is)
  (case aF18=>k_is)
  (case lF18=>k_is)
  (case cF18=>k_is)
  (case kF18=>k_is)
  (case aF19=>k_is)
  (case lF19=>k_is)
  (case cF19=>k_is)
  (case kF19=>k_is)
  (case aF20=>k_is)
  (case lF20=>k_is)
  (case cF20=>k_is)
  (case kF20=>k_is)
  (case aF21=>k_is)
  (case lF21=>k_is)
  (case cF21=>k_is)
  (case kF21=>k_is)
  (case aF22=>k_is)
  (case lF22=>k_is)
  (case cF22=>k_is)
  (case kF22=>k_is)
  (case aF23=>k_is)
  (case lF23=>k_is)
  (case cF23=>k_is)
  (case kF23=>k_is)
  (case aF24=>k_is)
  (case lF24=>k_is)
  (case cF24=>k_is)
  (case kF24=>k_is)
  (case aF25=>k_is)
  (case lF25=>k_is)
  (case cF25=>k_is)
  (case kF25=>k_is)
  (case aF26=>k_is)
  (case lF26=>k_is)
  (case cF26=>k_is)
  (case kF26=>k_is)
  (case aF27=>k_is)
  (case lF27=>k_is)
  (case cF27=>k_is)
  (case kF27=>k_is)
  (case aF28=>k_is)
  (case lF28=>k_is)
  (case cF28=>k_is)
  (case kF28=>k_is)
  (case gno=>k_is)
  (case gway=>k_is)
  (case ga1=>k_is)
  (case ga2=>k_is)
  (case ga3=>k_is)
  (case ga4=>k_is)
  (case ga5=>k_is)
  (case ga6=>k_is)
  (case ga7=>k_is)
  (case ga8=>k_is)
  (case ga9=>k_is)
  (case ga10=>k_is)
  (case ga11=>k_is)
  (case ga12=>k_is)
  (case xex=>(unfold L2.ExcC;k_exc))
  (case xga=>k_is)
  (case xnga=>k_is)
  (case xcl=>k_is)
  (case xob=>k_is)
  (case xbe=>k_is)
  (case wbe=>k_is)
  (case cw=>kit_is)
  (case nne=>decide)
  (case t10=>kit_is)
  (case t2=>kit_is)
  (case ve=>kit_is)
  (case xP=>(unfold L2.ExcC;k_exc))
  (case xE=>(unfold L2.ExcC;k_exc))
  (case gMW=>k_is)
  (case dTl=>k_is)
  (case nrange=>k_is)
  (case nlist=>k_is)
  (case nlen=>k_is)
  (case nint=>k_is)
  (case nmin=>k_is)
  (case nmax=>k_is)
  (case nsorted=>k_is)
  (case nzip=>k_is)
  (case nenumerate=>k_is)
  (case nisi=>k_is)
  (case nvee=>k_is)
#print axioms PySem.Challenge.cw_onceways_k11_three_hundred_ways_holds
