import PyProof.Rows.All
import Wide.All
import OpenK.AllK
import Wide.FinOn
import Lean
import PyProof.EqAt
import PyProof.EqKinds
import PyProof.TupleCall
import PySem.Challenge.RW_onceways_k40_whole_ways_leave_parts
set_option Elab.async false
set_option linter.all false
set_option maxRecDepth 100000
set_option maxHeartbeats 4000000
namespace L2
open PySem PySem.Spec PyProof.Rows
abbrev Key:=Sum Int Str
def Zfn:Key->Value->Bool
 | .inl k,v=>Value.isInt k v
 | .inr x,v=>Value.isStrOf x v
def Zo5 (w:World):Key->Int
 | .inl k=>hashInt k
 | .inr x=>hashStr w x
theorem ZaH:∀ {k:Key} {v:Value},Zfn k v=true->(∃ i t,k=Sum.inl i/\v=Value.int i t)\/(∃ x t,k=Sum.inr x/\v=Value.str x t)
 | .inl i,v,h=>by
  obtain ⟨t,e⟩:=Value.isInt_shape (k:=i) (v:=v) h
  exact .inl ⟨i,t,rfl,e⟩
 | .inr x,v,h=>by
  obtain ⟨t,e⟩:=Value.isStrOf_shape (x:=x) (v:=v) h
  exact .inr ⟨x,t,rfl,e⟩
theorem Zho (i:Int) (t:Tok):Zfn (.inl i) (.int i t)=true:=by simp [Zfn,Value.isInt]
theorem Zhp (x:Str) (t:Tok):Zfn (.inr x) (.str x t)=true:=by simp [Zfn,Value.isStrOf]
theorem Zl6 (a b:Int):decide ((Sum.inl a:Key)=Sum.inl b)=(a == b):=by
 by_cases e:a=b
 ·subst e;simp
 ·have h:¬ (Sum.inl a:Key)=Sum.inl b:=λq=>e (Sum.inl.inj q)
  rw [decide_eq_false h]
  exact (beq_eq_false_iff_ne.mpr e).symm
theorem Zl7 (a b:Str):decide ((Sum.inr a:Key)=Sum.inr b)=decide (a=b):=by
 by_cases e:a=b
 ·subst e;simp
 ·have h:¬ (Sum.inr a:Key)=Sum.inr b:=λq=>e (Sum.inr.inj q)
  rw [decide_eq_false h,decide_eq_false e]
theorem Zl8 (a:Int) (b:Str):decide ((Sum.inl a:Key)=Sum.inr b)=false:=decide_eq_false (λq=>nomatch q)
theorem Zl9 (a:Str) (b:Int):decide ((Sum.inr a:Key)=Sum.inl b)=false:=decide_eq_false (λq=>nomatch q)
def ZaQ (prog:Program) (w:World):PySem.KeyKind prog w Key where
 is:=Zfn
 hash:=Zo5 w
 inj:=λv a b ha hb=>by
  rcases ZaH ha with ⟨i,t,rfl,rfl⟩ | ⟨x,t,rfl,rfl⟩
  ·rcases ZaH hb with ⟨j,u,rfl,e⟩ | ⟨y,u,rfl,e⟩
   ·injection e with e1 _;rw [e1]
   ·exact nomatch e
  ·rcases ZaH hb with ⟨j,u,rfl,e⟩ | ⟨y,u,rfl,e⟩
   ·exact nomatch e
   ·injection e with e1 _;rw [e1]
 byValue:=λk v h=>by
  rcases ZaH h with ⟨i,t,rfl,rfl⟩ | ⟨x,t,rfl,rfl⟩ <;> rfl
 pyHash:=λhv h=>by
  rcases ZaH hv with ⟨i,t,rfl,rfl⟩ | ⟨x,t,rfl,rfl⟩
  ·exact wpAny_pyHash_int h
  ·exact wpAny_pyHash_str h
 eqBool:=λhu hv h=>by
  rcases ZaH hu with ⟨i,t,rfl,rfl⟩ | ⟨x,t,rfl,rfl⟩
  ·rcases ZaH hv with ⟨j,u,rfl,rfl⟩ | ⟨y,u,rfl,rfl⟩
   ·rw [Zl6] at h;exact wpAny_eqBool_int h
   ·rw [Zl8] at h;exact SeqAt.EqAt.int_str i t y u _ _ _ _ h
  ·rcases ZaH hv with ⟨j,u,rfl,rfl⟩ | ⟨y,u,rfl,rfl⟩
   ·rw [Zl9] at h;exact SeqAt.EqAt.str_int x t j u _ _ _ _ h
   ·rw [Zl7] at h;exact wpAny_eqBool_str h
 «strs»:=λk x t v h=>by
  rcases ZaH h with ⟨i,u,rfl,e⟩ | ⟨y,u,rfl,e⟩
  ·exact nomatch e
  ·injection e with e1 _
   subst e1
   cases v <;> rfl
theorem Zfo (prog:Program) (w:World) (i:Int) (t:Tok):(ZaQ prog w).is (.inl i) (.int i t)=true:=Zho i t
theorem Zfp (prog:Program) (w:World) (x:Str) (t:Tok):(ZaQ prog w).is (.inr x) (.str x t)=true:=Zhp x t
end L2
namespace L2
open PySem PySem.Spec PyProof.Rows
inductive V where
 | non | bl (b:Bool) | int (i:Int) | str (x:Str) | byt (b:Array UInt8) | flt (b:UInt64) | ref (a:Addr) | ty (n:String)
 deriving DecidableEq
def RelV:V->Value->Prop
 | .non,u=>u=Value.none
 | .bl b,u=>u=Value.bool b
 | .int i,u=>∃ t,u=Value.int i t
 | .str x,u=>∃ t,u=Value.str x t
 | .byt b,u=>∃ t,u=Value.bytes b t
 | .flt b,u=>∃ t,u=Value.float b t
 | .ref a,u=>u=Value.ref a
 | .ty n,u=>u=Value.type n
abbrev Vals:List V->List Value->Prop:=Paired RelV
theorem Vals.length {xs:List V} {us:List Value} (r:Vals xs us):xs.length=us.length:=Paired.length r
theorem Vals.get:∀ {xs:List V} {us:List Value} {i:Nat} {x:V},Vals xs us->xs[i]?=some x->∃ u,us[i]?=some u/\RelV x u
 | _,_,_,_,.nil,e=>by simp at e
 | _,_,0,_,.cons r _,e=>by simp at e;subst e;exact ⟨_,rfl,r⟩
 | _,_,i+1,x,.cons _ t,e=>by
  obtain ⟨u,h1,h2⟩:=Vals.get (i:=i) (x:=x) t (by simpa using e)
  exact ⟨u,by simpa using h1,h2⟩
theorem Vals.set {x:V} {u:Value} (r:RelV x u):∀ {xs:List V} {us:List Value} (i:Nat),Vals xs us->Vals (xs.set i x) (us.set i u)
 | _,_,_,.nil=>.nil
 | _,_,0,.cons _ t=>.cons r t
 | _,_,i+1,.cons q t=>.cons q (Vals.set r i t)
theorem Vals.append:∀ {xs ys:List V} {us ws:List Value},Vals xs us->Vals ys ws->Vals (xs++ys) (us++ws)
 | _,_,_,_,.nil,s=>s
 | _,_,_,_,.cons r t,s=>.cons r (Vals.append t s)
theorem Vals.take:∀ {xs:List V} {us:List Value} (n:Nat),Vals xs us->Vals (xs.take n) (us.take n)
 | _,_,0,_=>.nil
 | _,_,_+1,.nil=>.nil
 | _,_,n+1,.cons r t=>.cons r (Vals.take n t)
theorem Vals.drop:∀ {xs:List V} {us:List Value} (n:Nat),Vals xs us->Vals (xs.drop n) (us.drop n)
 | _,_,0,r=>r
 | _,_,_+1,.nil=>.nil
 | _,_,n+1,.cons _ t=>Vals.drop n t
def RelO:Option V->Option Value->Prop
 | some v,some u=>RelV v u
 | none,none=>True
 | _,_=>False
def KV {κ:Type}:List (κ×V)->List (κ×Value)->Prop:=Paired λ(p:κ×V) (q:κ×Value)=>p.1=q.1/\RelV p.2 q.2
def kV:Key->V
 | .inl i=>.int i
 | .inr x=>.str x
inductive HO where
  | lst (xs:List V)
  | tup (xs:List V)
  | dK (kvs:List (Key×V)) | dT (kvs:List (List Key×V))
  | set (S:Int->Bool) (n:Nat)
  | ins (C dx:Addr) (fs:List (Str×V))
  | own (x:Addr)
  | xd (fs:List (Str×V))
  | met (f x:Addr)
  | rng (lo hi:Int)
  | frz (o:Obj) (u:HO)
  | tbl (ps:Array Value)
  | ext (φ:Heap->Prop)
abbrev Hp:=Addr->Option HO
def upd (H:Hp) (a:Addr) (o:HO):Hp:=λb=>if b=a then some o else H b
theorem Zab {H:Hp} {a:Addr} {o:HO}:upd H a o a=some o:=by unfold upd;rw [if_pos rfl]
theorem Zam {H:Hp} {a b:Addr} {o:HO} (h:b≠a):upd H a o b=H b:=by unfold upd;rw [if_neg h]
theorem Zhq {H:Hp} {a b:Addr} {o u:HO} (h:H a=some o) (h':H b=some u) (d:o≠u):a≠b:=by
 intro e;subst e;rw [h] at h';exact d (Option.some.inj h')
theorem Zag {H:Hp} {a b:Addr} {o:HO} (h:H a=some o) (h':H b=none):a≠b:=by
 intro e;subst e;rw [h] at h';cases h'
section
variable (P:Program) (w:World)
def ObjOk (H:Hp) (h:Heap) (a:Addr):HO->Prop
 | .lst xs=>xs.length<=sizeLine/\∃ (its:List Value) (n:Nat),Vals xs its/\h.get? a=some { cls:=.type "list", data:=.seq its.toArray n }
 | .tup xs=>xs.length<=sizeLine/\∃ its:List Value,Vals xs its/\IsTup h a its.toArray
 | .dK kvs=>kvs.length<=sizeLine/\(a == sysModules)=false/\∃ vs,KV kvs vs/\h.DictOf (ZaQ P w) a vs
 | .dT kvs=>kvs.length<=sizeLine/\(a == sysModules)=false/\∃ xs:List (List Key×Addr×Value),
   Paired (λ(p:List Key×V) (q:List Key×Addr×Value)=>p.1=q.1/\H q.2.1=some (.tup (p.1.map kV))/\RelV p.2 q.2.2) kvs xs /\
   ∃ o es ep,h.get? a=some o/\o.ExactDict/\o.data=.dict es ep/\es.toList=xs.map (entryOfKey (tupleKind (ZaQ P w)))/\(xs.map (·.1)).Nodup
 | .set S n=>h.SetOf (intKind P w) a S n
 | .ins C dx fs=>H dx=some (.own a)/\fs.length<=1000/\dx≠a/\h.get? a=some (PySem.W.instObj C dx) /\
   ∃ mA,h.Ns1 dx mA/\(∀ f,RelO (fs.lookup f) (mA f))/\PySem.Within mA (fs.map (·.1))
 | .own _=>∃ o,h.get? a=some o
 | .xd fs=>∃ mA,h.Ns1 a mA/\∀ f,RelO (fs.lookup f) (mA f)
 | .rng lo hi=>∃ t u v,h.get? a=some { cls:=.type "range", data:=.fields #[.int lo t,.int hi u,.int 1 v] }
 | .frz o u=>h.get? a=some o/\ObjOk H h a u
 | .tbl ps=>h.get? a=some { cls:=.none,data:=.fields ps }
 | .met f x=>h.get? a=some (PySem.W.methodObj (.ref f) (.ref x))
 | .ext φ=>φ h/\(∃ o,h.get? a=some o)/\∀ h1 h2:Heap,φ h1->(∀ o,h1.get? a=some o->h2.get? a=some o)->φ h2
def HOk (H:Hp) (h:Heap):Prop:=∀ a o,H a=some o->ObjOk P w H h a o
end
section
variable {P:Program} {w:World} {H H':Hp} {h h':Heap} {a:Addr} {o:HO}
theorem ObjOk.lt (x:ObjOk P w H h a o):a<h.objs.size:=by
 cases o with
 | lst xs=>obtain ⟨_,_,_,_,e⟩:=x;exact Heap.lt_size e
 | tup xs=>obtain ⟨_,_,_,p⟩:=x;exact p.lt
 | dK kvs=>obtain ⟨_,_,_,_,o,_,_,e,_⟩:=x;exact Heap.lt_size e
 | dT kvs=>obtain ⟨_,_,_,_,o,_,_,e,_⟩:=x;exact Heap.lt_size e
 | set S n=>obtain ⟨o,_,_,_,e,_⟩:=x;exact Heap.lt_size e
 | ins C dx fs=>obtain ⟨_,_,_,e,_⟩:=x;exact Heap.lt_size e
 | own y=>obtain ⟨_,e⟩:=x;exact Heap.lt_size e
 | xd fs=>obtain ⟨_,⟨_,_,_,e,_⟩,_⟩:=x;exact Heap.lt_size e
 | rng lo hi=>obtain ⟨_,_,_,e⟩:=x;exact Heap.lt_size e
 | frz ob u=>obtain ⟨e,_⟩:=x;exact Heap.lt_size e
 | tbl ps=>exact Heap.lt_size (show h.get? a=some _ from x)
 | met f y=>exact Heap.lt_size (show h.get? a=some _ from x)
 | ext φ=>obtain ⟨_,⟨_,e⟩,_⟩:=x;exact Heap.lt_size e
theorem Paired.mapP {α β:Type} {F G:α->β->Prop}:∀ {l₁:List α} {l₂:List β},Paired F l₁ l₂->(∀ a b,F a b->G a b)->Paired G l₁ l₂
 | _,_,.nil,_=>.nil
 | _,_,.cons r t,f=>.cons (f _ _ r) (Paired.mapP t f)
theorem ObjOk.stay (x:ObjOk P w H h a o) (k:∀ b u,(b=a\/H b=some (.own a))->h.get? b=some u->h'.get? b=some u)
  (ho:∀ b,H b=some (.own a)->H' b=some (.own a)) (ht:∀ b xs,H b=some (.tup xs)->H' b=some (.tup xs)):ObjOk P w H' h' a o:=by
 induction o with
 | lst xs=>obtain ⟨z,its,n,r,e⟩:=x;exact ⟨z,its,n,r,k _ _ (.inl rfl) e⟩
 | tup xs=>obtain ⟨z,its,r,ob,e,c⟩:=x;exact ⟨z,its,r,ob,k _ _ (.inl rfl) e,c⟩
 | dK kvs=>obtain ⟨z,y,vs,r,ob,es,ep,e,c⟩:=x;exact ⟨z,y,vs,r,ob,es,ep,k _ _ (.inl rfl) e,c⟩
 | dT kvs=>
  obtain ⟨z,y,xs,r,ob,es,ep,e,c⟩:=x
  exact ⟨z,y,xs,Paired.mapP r λp q z=>⟨z.1,ht _ _ z.2.1,z.2.2⟩,ob,es,ep,k _ _ (.inl rfl) e,c⟩
 | set S n=>obtain ⟨ob,es,ep,t,e,c⟩:=x;exact ⟨ob,es,ep,t,k _ _ (.inl rfl) e,c⟩
 | ins C dx fs=>
  obtain ⟨d,z,ne,e,mA,⟨od,es,ep,e2,c⟩,r⟩:=x
  exact ⟨ho _ d,z,ne,k _ _ (.inl rfl) e,mA,⟨od,es,ep,k _ _ (.inr d) e2,c⟩,r⟩
 | own y=>obtain ⟨ob,e⟩:=x;exact ⟨ob,k _ _ (.inl rfl) e⟩
 | xd fs=>obtain ⟨mA,⟨od,es,ep,e,c⟩,r⟩:=x;exact ⟨mA,⟨od,es,ep,k _ _ (.inl rfl) e,c⟩,r⟩
 | rng lo hi=>obtain ⟨t,u,v,e⟩:=x;exact ⟨t,u,v,k _ _ (.inl rfl) e⟩
 | frz ob u ih=>obtain ⟨e,q⟩:=x;exact ⟨k _ _ (.inl rfl) e,ih q⟩
 | tbl ps=>
  have e:h.get? a=some { cls:=.none,data:=.fields ps }:=x
  show h'.get? a=some { cls:=.none,data:=.fields ps }
  exact k a _ (.inl rfl) e
 | met f y=>
  have e:h.get? a=some (PySem.W.methodObj (.ref f) (.ref y)):=x
  show h'.get? a=some (PySem.W.methodObj (.ref f) (.ref y))
  exact k a _ (.inl rfl) e
 | ext φ=>obtain ⟨p,⟨o,e⟩,st⟩:=x;exact ⟨st _ _ p λo q=>k _ _ (.inl rfl) q,⟨o,k _ _ (.inl rfl) e⟩,st⟩
theorem HOk.lt (x:HOk P w H h) (e:H a=some o):a<h.objs.size:=(x a o e).lt
theorem HOk.fresh (x:HOk P w H h) (e:h.objs.size<=a):H a=none:=by
 cases q:H a with
 | none=>rfl
 | some u=>exact absurd (Nat.lt_of_lt_of_le (x.lt q) e) (Nat.lt_irrefl _)
theorem HOk.kept (x:HOk P w H h) (k:∀ b u,h.get? b=some u->h'.get? b=some u):HOk P w H h':=λa o e=>
 (x a o e).stay (λb u _ q=>k b u q) (λ_ q=>q) λ_ _ q=>q
theorem HOk.laid (x:HOk P w H h) (k:∀ b u,h.get? b=some u->h'.get? b=some u) (hp:h.objs.size<=a) (new:ObjOk P w (upd H a o) h' a o):HOk P w (upd H a o) h':=λb u e=>by
 have hn:=x.fresh hp
 by_cases hb:b=a
 ·subst hb;rw [Zab] at e;cases e;exact new
 ·rw [Zam hb] at e
  exact (x b u e).stay (λc v _ q=>k c v q) (λc q=>by rw [Zam (Zag q hn)];exact q) λc xs q=>by rw [Zam (Zag q hn)];exact q
end
def Rd (H:Hp) (a:Addr) (u:HO):Prop:=H a=some u\/∃ o,H a=some (.frz o u)
theorem Rd.ok {P:Program} {w:World} {H:Hp} {h:Heap} {a:Addr} {u:HO} (r:Rd H a u) (x:HOk P w H h):ObjOk P w H h a u:=by
 rcases r with r | ⟨o,r⟩
 ·exact x a u r
 ·obtain ⟨_,q⟩:=x a _ r
  exact q
def Mut:Option HO->Prop
 | some (.lst _)=>True
 | some (.dK _)=>True
 | some (.dT _)=>True
 | some (.set _ _)=>True
 | some (.ins _ _ _)=>True
 | some (.ext _)=>True
 | _=>False
section
variable {P:Program} {w:World} {H:Hp} {h h':Heap} {x e:Addr} {o':HO}
theorem HOk.write (ok:HOk P w H h) (mu:Mut (H x)) (he:e=x\/H e=some (.own x)) (k:∀ b u,b≠e->h.get? b=some u->h'.get? b=some u) (heo:∃ u,h'.get? e=some u)
  (new:ObjOk P w (upd H x o') h' x o'):HOk P w (upd H x o') h':=λb u q=>by
 have nown:∀ c y,H c=some (.own y)->c≠x:=λc y r z=>by subst z;rw [r] at mu;exact mu
 have ntup:∀ c xs,H c=some (.tup xs)->c≠x:=λc xs r z=>by subst z;rw [r] at mu;exact mu
 by_cases hb:b=x
 ·subst hb;rw [Zab] at q;cases q;exact new
 ·rw [Zam hb] at q
  by_cases hbe:b=e
  ·have q':H b=some (.own x):=by
    rcases he with z | z
    ·exact absurd (hbe.trans z) hb
    ·rw [hbe];exact z
   rw [q] at q';cases q'
   obtain ⟨v,hv⟩:=heo
   exact ⟨v,by rw [hbe];exact hv⟩
  ·refine (ok b u q).stay (λc v hc r=>k c v ?_ r) (λc r=>by rw [Zam (nown c b r)];exact r) λc xs r=>by rw [Zam (ntup c xs r)];exact r
   rcases hc with rfl | hc
   ·exact hbe
   ·rintro rfl
    rcases he with z | z
    ·exact nown c b hc z
    ·rw [hc] at z;cases z;exact hb rfl
end
structure Un (fs ex:List Addr) (H H':Hp) (h h':Heap):Prop where
 keep:∀ b o,h.get? b=some o->H b=none->b ∉ fs->b ∉ ex->h'.get? b=some o
 slot:∀ b o,h.get? b=some o->H b=none->b∈fs->b ∉ ex->∃ sl,h'.get? b=some { o with slots:=sl }
 free:∀ b o,h.get? b=some o->H b=none->b ∉ ex->H' b=none
 there:∀ b o,h.get? b=some o->b ∉ ex->∃ o',h'.get? b=some o'
 tups:∀ b xs,H b=some (.tup xs)->H' b=some (.tup xs)
 frzs:∀ b o u,H b=some (.frz o u)->H' b=some (.frz o u)
 tbls:∀ b ps,H b=some (.tbl ps)->∃ more,H' b=some (.tbl (ps++more))
section
variable {fs fs' ex ex':List Addr} {H H1 H2:Hp} {h h1 h2 h':Heap} {a x e:Addr} {o:HO}
theorem Un.any (u:Un fs ex H H1 h h1) {b:Addr} {ob:Obj} (q:h.get? b=some ob) (n:H b=none) (hx:b ∉ ex):∃ sl,h1.get? b=some { ob with slots:=sl }:=by
 by_cases hb:b∈fs
 ·exact u.slot b ob q n hb hx
 ·exact ⟨ob.slots,u.keep b ob q n hb hx⟩
theorem Un.trans (a:Un fs ex H H1 h h1) (b:Un fs ex H1 H2 h1 h2):Un fs ex H H2 h h2 where
 keep:=λc ob q n hc hx=>b.keep c ob (a.keep c ob q n hc hx) (a.free c ob q n hx) hc hx
 slot:=λc ob q n hc hx=>by
  obtain ⟨sl,e1⟩:=a.slot c ob q n hc hx
  obtain ⟨sl',e2⟩:=b.slot c _ e1 (a.free c ob q n hx) hc hx
  exact ⟨sl',e2⟩
 free:=λc ob q n hx=>by
  obtain ⟨o',e1⟩:=a.there c ob q hx
  exact b.free c o' e1 (a.free c ob q n hx) hx
 there:=λc ob q hx=>by
  obtain ⟨o',e1⟩:=a.there c ob q hx
  exact b.there c o' e1 hx
 tups:=λc xs q=>b.tups c xs (a.tups c xs q)
 frzs:=λc ob xs q=>b.frzs c ob xs (a.frzs c ob xs q)
 tbls:=λc ps q=>by
  obtain ⟨m1,e1⟩:=a.tbls c ps q
  obtain ⟨m2,e2⟩:=b.tbls c _ e1
  exact ⟨m1++m2,by rw [e2,Array.append_assoc]⟩
theorem Un.kept (k:∀ b u,h.get? b=some u->h'.get? b=some u):Un fs ex H H h h':=
 ⟨λb ob q _ _ _=>k b ob q,λb ob q _ _ _=>⟨ob.slots,k b ob q⟩,λ_ _ _ n _=>n,λb ob q _=>⟨ob,k b ob q⟩,λ_ _ q=>q,λ_ _ _ q=>q,λ_ ps q=>⟨#[],by rw [q];simp⟩⟩
theorem Un.refl:Un fs ex H H h h:=Un.kept λ_ _ q=>q
theorem Un.laid (k:∀ b u,h.get? b=some u->h'.get? b=some u) (hp:h.objs.size<=a) (hn:H a=none):Un fs ex H (upd H a o) h h' where
 keep:=λb u q _ _ _=>k b u q
 slot:=λb u q _ _ _=>⟨u.slots,k b u q⟩
 free:=λb u q n _=>by rw [Zam (Nat.ne_of_lt (Nat.lt_of_lt_of_le (Heap.lt_size q) hp))];exact n
 there:=λb u q _=>⟨u,k b u q⟩
 tups:=λb xs q=>by rw [Zam (Zag q hn)];exact q
 frzs:=λb u xs q=>by rw [Zam (Zag q hn)];exact q
 tbls:=λb ps q=>⟨#[],by rw [Zam (Zag q hn),q];simp⟩
theorem Un.write (mu:Mut (H x)) (he:e=x\/H e=some (.own x)) (k:∀ b u,b≠e->h.get? b=some u->h'.get? b=some u) (heo:∃ u,h'.get? e=some u):Un fs ex H (upd H x o) h h':=by
 have hx:∀ b,H b=none->b≠x:=λb n z=>by subst z;rw [n] at mu;exact mu
 have hb:∀ b,H b=none->b≠e:=λb n z=>by
  subst z
  rcases he with r | r
  ·exact hx b n r
  ·rw [n] at r;cases r
 have hm:∀ b u,H b=some u->¬ Mut (some u)->b≠x:=λb u q nm z=>by subst z;rw [q] at mu;exact nm mu
 refine ⟨λb u q n _ _=>k b u (hb b n) q,λb u q n _ _=>⟨u.slots,k b u (hb b n) q⟩,λb u q n _=>by rw [Zam (hx b n)];exact n,λb u q _=>?_,
  λb xs q=>by rw [Zam (hm b _ q λz=>z)];exact q,λb u xs q=>by rw [Zam (hm b _ q λz=>z)];exact q,λb ps q=>⟨#[],by rw [Zam (hm b _ q λz=>z),q];simp⟩⟩
 by_cases hbe:b=e
 ·subst hbe;exact heo
 ·exact ⟨u,k b u hbe q⟩
theorem Un.mono (u:Un fs ex H H1 h h1) (hs:∀ b∈fs,b∈fs') (hx:∀ b∈ex,b∈ex'):Un fs' ex' H H1 h h1:=
 ⟨λb ob q n hb he=>u.keep b ob q n (λz=>hb (hs b z)) λz=>he (hx b z),λ_ _ q n _ he=>u.any q n λz=>he (hx _ z),λb ob q n he=>u.free b ob q n λz=>he (hx b z),λb ob q he=>u.there b ob q λz=>he (hx b z),u.tups,u.frzs,u.tbls⟩
end
def trk (h:Heap) (H:Hp):List Addr:=(List.range h.objs.size).filter λa=>(H a).isSome
def Zi4 (h:Heap) (H:Hp):Heap:=PySem.W.hideAll h (trk h H)
theorem Zhr (h:Heap) (H:Hp):(Zi4 h H).objs.size=h.objs.size:=PySem.W.hideAll_size _ _
theorem Zi5 {h:Heap} {H:Hp} {b:Addr} {o:Obj} (e:h.get? b=some o) (n:H b=none):(Zi4 h H).get? b=some o:=
 PySem.W.hideAll_get _ e λhm=>by
  have q:(H b).isSome=true:=(List.mem_filter.mp hm).2
  rw [n] at q;simp at q
theorem ZkM {h:Heap} {H:Hp} {b:Addr} {o:Obj} (e:(Zi4 h H).get? b=some o):h.get? b=some o/\H b=none:=by
 have e':h.get? b=some o:=PySem.W.of_hideAll (trk h H) e
 refine ⟨e',?_⟩
 cases q:H b with
 | none=>rfl
 | some x=>
  have hm:b∈trk h H:=List.mem_filter.mpr ⟨List.mem_range.mpr (Heap.lt_size e'),by simp [q]⟩
  have z:(Zi4 h H).get? b=none:=PySem.W.hideAll_none (trk h H) hm
  rw [z] at e;cases e
def ZkN (g h:Heap) (L:Addr):List (Addr×Obj):=(List.range h.objs.size).filterMap λa=>if a=L\/(g.get? a).isSome=true then none else (h.get? a).map λo=>(a,o)
def rest (g h:Heap) (L d:Addr):List (Addr×Obj):=(ZkN g h L).filter λp=>decide (p.1≠d)
end L2
namespace L2
open PySem PySem.Spec PyProof.Rows
structure Mod (K:PySem.W.Frag) (mg:Str->Option Value) (base:Heap):Prop where
 kin:K.In base
 glob:base.Ns mainGlobals mg
 blt:∃ mb,base.Ns builtinsNs mb/\∀ x:Str,x ≠ "__name__" -> mb x=bootBuiltins x
 nolimit:base.NoLimit
structure Cx where
 prog:Program
 w:World
 K:PySem.W.Frag
 mg:Str->Option Value
 base:Heap
 A:Around
 N:List Str
 s₀:Shared
 H₀:Hp
 env:Env
 outer:List Env
 stack:List Env
 ex:List Addr
 fn:Str->Bool
 calm:Bool
 pn:List (Addr×Obj)
 xe:Value->Shared->Prop
def frs (l:List Env):List Addr:=l.filterMap (·.frame)
abbrev Cx.fs (X:Cx):List Addr:=frs X.outer
def Vis (sc:Scope) (x:Str):Prop:=sc.names.lookup x=some .local\/sc.names.lookup x=some .cell\/sc.names.lookup x=some .free
def Loc (sc:Scope) (x:Str):Prop:=sc.names.lookup x=some .local\/sc.names.lookup x=some .cell
def Zo6 (env:Env) (h:Heap) (m:Str->Option Value) (x:Str) (u:Value):Prop:=
 (env.kindOf x=some .local/\m x=some u)\/((env.kindOf x=some .cell\/env.kindOf x=some .free)/\∃ c,env.cells.lookup x=some c/\h.IsCell c (some u))
structure Cx.Ok (X:Cx):Prop where
 mod:Mod X.K X.mg X.base
 kind:X.env.scope.kind=.function
 glob:X.env.globals=mainGlobals
 blt:X.env.builtins=builtinsNs
 above:X.s₀.heap.objs.size<=X.env.locals
 inj:∀ x y c,X.env.cells.lookup x=some c->X.env.cells.lookup y=some c->x=y
 has:∀ x,(X.env.kindOf x=some .cell\/X.env.kindOf x=some .free)->∃ c,X.env.cells.lookup x=some c
 cab:∀ x c,X.fn x=true->X.env.cells.lookup x=some c->X.s₀.heap.objs.size<=c
 hd:X.calm=true->X.A.handled=none
 frames:X.A.frames=some X.stack
 stk:X.stack=X.outer\/(X.stack=X.env::X.outer/\X.env.frame=some X.env.locals)
 exf:∀ b∈X.ex,b≠X.env.locals/\∀ x c,X.env.cells.lookup x=some c->c≠b
 bs:∀ b o,X.base.get? b=some o->X.s₀.heap.get? b=some o/\X.H₀ b=none
 bsz:X.base.objs.size<=X.s₀.heap.objs.size
 noex:∀ b o,X.base.get? b=some o->b ∉ X.ex
 exfs:∀ b∈X.ex,b ∉ X.fs
 funs:X.s₀.heap.FunFrames X.base X.outer
 frf:∀ b∈X.fs,X.H₀ b=none
structure Inv (X:Cx) (pins:List (Addr×Obj)) (σ:List (Option V)) (H:Hp) (s:Shared):Prop where
 ok:X.Ok
 os:s.os=X.s₀.os
 bare:AllBare s.gens
 base:Un X.fs X.ex X.H₀ H X.s₀.heap s.heap
 loc:∃ m,s.heap.Ns X.env.locals m/\∀ (i:Nat) (x:Str) (v:V),X.N[i]?=some x->σ[i]?=some (some v)->Vis X.env.scope x->∃ u,RelV v u/\Zo6 X.env s.heap m x u
 cell:∀ x c,X.env.cells.lookup x=some c->∃ v,s.heap.IsCell c v
 free:H X.env.locals=none
 freeC:∀ x c,X.env.cells.lookup x=some c->H c=none
 pin:∀ p∈X.pn++pins,s.heap.get? p.1=some p.2/\H p.1=none/\p.1≠X.env.locals/\p.1 ∉ X.fs/\∀ v,p.2.data≠.cell v
 hok:HOk X.prog X.w H s.heap
 len:σ.length=X.N.length
section
variable {X:Cx} {pins:List (Addr×Obj)} {σ:List (Option V)} {H H':Hp} {s:Shared} {h':Heap}
theorem Cx.Ok.nofr (ok:X.Ok) {b:Addr} {o:Obj} (e:X.base.get? b=some o):b ∉ X.fs:=λhb=>by
 have:=(ok.funs.mem hb).1
 rw [e] at this;cases this
theorem Inv.bs (I:Inv X pins σ H s):∀ b o,X.base.get? b=some o->s.heap.get? b=some o/\H b=none:=λb o e=>
 ⟨I.base.keep b o (I.ok.bs b o e).1 (I.ok.bs b o e).2 (I.ok.nofr e) (I.ok.noex b o e),I.base.free b o (I.ok.bs b o e).1 (I.ok.bs b o e).2 (I.ok.noex b o e)⟩
theorem Inv.bk (I:Inv X pins σ H s):∀ b o,X.base.get? b=some o->s.heap.get? b=some o:=λb o e=>(I.bs b o e).1
theorem Inv.mod (I:Inv X pins σ H s):Mod X.K X.mg X.base:=I.ok.mod
theorem Inv.kIn (I:Inv X pins σ H s):X.K.In s.heap:=I.ok.mod.kin.keeps I.bk
theorem Inv.lt (I:Inv X pins σ H s):X.env.locals<s.heap.objs.size:=let ⟨_,hn,_⟩:=I.loc;hn.lt
theorem Inv.sz (I:Inv X pins σ H s):X.s₀.heap.objs.size<=s.heap.objs.size:=Nat.le_trans I.ok.above (Nat.le_of_lt I.lt)
theorem Inv.nofs (I:Inv X pins σ H s) {a:Addr} (h:s.heap.objs.size<=a):a ∉ X.fs:=λhb=>by
 obtain ⟨_,o,ho,_⟩:=I.ok.funs.mem hb
 exact absurd (Nat.lt_of_lt_of_le (Heap.lt_size ho) (Nat.le_trans I.sz h)) (Nat.lt_irrefl _)
theorem Inv.cne (I:Inv X pins σ H s):∀ x c,X.env.cells.lookup x=some c->c≠X.env.locals:=λx c e z=>by
 obtain ⟨v,o,ho,hd⟩:=I.cell x c e
 obtain ⟨m,⟨o',es,ep,ho',hd',_⟩,_⟩:=I.loc
 rw [z,ho'] at ho;cases ho;rw [hd'] at hd;cases hd
theorem Inv.funs (I:Inv X pins σ H s):s.heap.FunFrames X.base X.outer:=by
 have all:∀ (l:List Env),(∀ b∈frs l,b∈X.fs)->X.s₀.heap.FunFrames X.base l->s.heap.FunFrames X.base l:=by
  intro l
  induction l with
  | nil=>intro _ _;trivial
  | cons env r ih=>
   intro hs hl
   obtain ⟨hk,⟨L,o,hf,hn,ho,hd⟩,hr⟩:=hl
   have hL:L∈X.fs:=hs L (by unfold frs;rw [List.filterMap_cons,hf];exact List.mem_cons_self)
   obtain ⟨sl,e⟩:=I.base.slot L o ho (I.ok.frf L hL) hL λz=>I.ok.exfs L z hL
   exact ⟨hk,⟨L,_,hf,hn,e,hd⟩,ih (λb hb=>hs b (by unfold frs;rw [List.filterMap_cons,hf];exact List.mem_cons_of_mem _ hb)) hr⟩
 exact all X.outer (λ_ hb=>hb) I.ok.funs
theorem Inv.stack (I:Inv X pins σ H s):s.heap.FunFrames X.base X.stack:=by
 rcases I.ok.stk with e | ⟨e,hf⟩
 ·rw [e];exact I.funs
 ·rw [e]
  obtain ⟨m,hn,_⟩:=I.loc
  refine .cons (by rw [I.ok.kind];decide) hf hn ?_ I.funs
  exact Heap.get?_none_of_le (Nat.le_trans I.ok.bsz I.ok.above)
theorem Inv.stkSub (I:Inv X pins σ H s):∀ b∈frs X.stack,b∈X.env.locals::X.fs:=λb hb=>by
 rcases I.ok.stk with e | ⟨e,hf⟩
 ·rw [e] at hb;exact List.mem_cons_of_mem _ hb
 ·rw [e] at hb
  unfold frs at hb
  rw [List.filterMap_cons,hf] at hb
  exact hb
theorem Inv.stkFree (I:Inv X pins σ H s):∀ b∈frs X.stack,H b=none:=λb hb=>by
 rcases List.mem_cons.mp (I.stkSub b hb) with e | hb
 ·rw [e];exact I.free
 ·obtain ⟨_,o,ho,_⟩:=I.ok.funs.mem hb
  exact I.base.free b o ho (I.ok.frf b hb) λz=>I.ok.exfs b z hb
theorem Inv.step {g':Array GenState} {t':Nat} {d':Drawn} {ch:List Addr} (I:Inv X pins σ H s)
  (hch:∀ b∈ch,(b∈X.ex\/X.s₀.heap.objs.size<=b)/\b≠X.env.locals/\(∀ x c,X.env.cells.lookup x=some c->c≠b)/\∀ p∈X.pn++pins,p.1≠b)
  (keep:∀ b o,b≠X.env.locals->b ∉ X.fs->b ∉ ch->s.heap.get? b=some o->H b=none->h'.get? b=some o)
  (slot:∀ b o,b≠X.env.locals->b∈X.fs->b ∉ ch->s.heap.get? b=some o->H b=none->∃ sl,h'.get? b=some { o with slots:=sl }) (free:∀ b o,b ∉ ch->s.heap.get? b=some o->H b=none->H' b=none)
  (there:∀ b o,b ∉ ch->s.heap.get? b=some o->∃ o',h'.get? b=some o')
  (tups:∀ b xs,H b=some (.tup xs)->H' b=some (.tup xs)) (frzs:∀ b o u,H b=some (.frz o u)->H' b=some (.frz o u)) (tbls:∀ b ps,H b=some (.tbl ps)->∃ more,H' b=some (.tbl (ps++more)))
  (ns:∀ m,s.heap.Ns X.env.locals m->h'.Ns X.env.locals m) (hok:HOk X.prog X.w H' h') (hg:AllBare g') :
  Inv X pins σ H' { s with heap:=h',gens:=g',drawn:=d',toks:=t' }:=by
 have neL:∀ b o,X.s₀.heap.get? b=some o->b≠X.env.locals:=λb o e=>Nat.ne_of_lt (Nat.lt_of_lt_of_le (Heap.lt_size e) I.ok.above)
 have neC:∀ b o,X.s₀.heap.get? b=some o->b ∉ X.ex->b ∉ ch:=λb o e hx hb=>by
  rcases (hch b hb).1 with z | z
  ·exact hx z
  ·exact absurd (Nat.lt_of_lt_of_le (Heap.lt_size e) z) (Nat.lt_irrefl _)
 have cellK:∀ x c,X.env.cells.lookup x=some c->∀ v,s.heap.IsCell c v->h'.IsCell c v:=λx c e v ⟨o,ho,hd⟩=>by
  have nch:c ∉ ch:=λz=>(hch c z).2.2.1 x c e rfl
  by_cases hc:c∈X.fs
  ·obtain ⟨sl,q⟩:=slot c o (I.cne x c e) hc nch ho (I.freeC x c e)
   exact ⟨_,q,hd⟩
  ·exact ⟨o,keep c o (I.cne x c e) hc nch ho (I.freeC x c e),hd⟩
 refine ⟨I.ok,I.os,hg,⟨λb o e n hb hx=>?_,λb o e n hb hx=>?_,λb o e n hx=>?_,λb o e hx=>?_,λb xs e=>tups b xs (I.base.tups b xs e),λb o xs e=>frzs b o xs (I.base.frzs b o xs e),λb ps e=>?_⟩,?_,λx c e=>?_,?_,λx c e=>?_,λp hp=>?_,hok,I.len⟩
 ·exact keep b o (neL b o e) hb (neC b o e hx) (I.base.keep b o e n hb hx) (I.base.free b o e n hx)
 ·obtain ⟨sl,e1⟩:=I.base.slot b o e n hb hx
  obtain ⟨sl',e2⟩:=slot b _ (neL b o e) hb (neC b o e hx) e1 (I.base.free b o e n hx)
  exact ⟨sl',e2⟩
 ·obtain ⟨o',e1⟩:=I.base.there b o e hx
  exact free b o' (neC b o e hx) e1 (I.base.free b o e n hx)
 ·obtain ⟨o',e1⟩:=I.base.there b o e hx
  exact there b o' (neC b o e hx) e1
 ·obtain ⟨m1,e1⟩:=I.base.tbls b ps e
  obtain ⟨m2,e2⟩:=tbls b _ e1
  exact ⟨m1++m2,by rw [e2,Array.append_assoc]⟩
 ·obtain ⟨m,hn,hl⟩:=I.loc
  refine ⟨m,ns m hn,λi x v e1 e2 e3=>?_⟩
  obtain ⟨u,r,l⟩:=hl i x v e1 e2 e3
  refine ⟨u,r,?_⟩
  rcases l with l | ⟨k,c,e,z⟩
  ·exact .inl l
  ·exact .inr ⟨k,c,e,cellK x c e _ z⟩
 ·obtain ⟨v,z⟩:=I.cell x c e
  exact ⟨v,cellK x c e v z⟩
 ·obtain ⟨m,⟨o,_,_,ho,_⟩,_⟩:=I.loc
  exact free _ o (λz=>(hch _ z).2.1 rfl) ho I.free
 ·obtain ⟨v,o,ho,hd⟩:=I.cell x c e
  exact free c o (λz=>(hch c z).2.2.1 x c e rfl) ho (I.freeC x c e)
 ·obtain ⟨e,n,ne,nf,d⟩:=I.pin p hp
  have nch:p.1 ∉ ch:=λz=>(hch p.1 z).2.2.2 p hp rfl
  exact ⟨keep p.1 p.2 ne nf nch e n,free p.1 p.2 nch e n,ne,nf,d⟩
theorem Inv.un {t':Nat} (I:Inv X pins σ H s) (u:Un X.fs [] H H' s.heap h') (hok:HOk X.prog X.w H' h'):Inv X pins σ H' { s with heap:=h',toks:=t' }:=by
 obtain ⟨m,⟨o,es,ep,ho,r⟩,_⟩:=id I.loc
 obtain ⟨sl,hL⟩:=u.any ho I.free (by simp)
 exact I.step (g':=s.gens) (d':=s.drawn) (ch:=[]) (λ_ z=>nomatch z) (λb o _ hb _ e n=>u.keep b o e n hb (by simp)) (λb o _ hb _ e n=>u.slot b o e n hb (by simp)) (λb o _ e n=>u.free b o e n (by simp)) (λb o _ e=>u.there b o e (by simp)) u.tups u.frzs u.tbls (λm' hm=>by
  obtain ⟨o',es',ep',ho',r'⟩:=hm
  rw [ho] at ho';cases ho'
  exact ⟨_,es',ep',hL,r'⟩) hok I.bare
theorem Inv.call {g':Array GenState} {t':Nat} {d':Drawn} {ch:List Addr} (I:Inv X pins σ H s) (u:Un (frs X.stack) ch H H' s.heap h') (hok:HOk X.prog X.w H' h') (hg:AllBare g')
  (hch:∀ b∈ch,(b∈X.ex\/X.s₀.heap.objs.size<=b)/\b≠X.env.locals/\(∀ x c,X.env.cells.lookup x=some c->c≠b)/\∀ p∈X.pn++pins,p.1≠b) :
  Inv X pins σ H' { s with heap:=h',gens:=g',drawn:=d',toks:=t' }:=by
 obtain ⟨m,⟨o,es,ep,ho,r⟩,_⟩:=id I.loc
 obtain ⟨sl,hL⟩:=u.any ho I.free λz=>(hch _ z).2.1 rfl
 exact I.step (ch:=ch) hch (λb o hL hb hc e n=>u.keep b o e n (λz=>(List.mem_cons.mp (I.stkSub b z)).elim hL hb) hc) (λb o _ _ hc e n=>u.any e n hc) (λb o hc e n=>u.free b o e n hc) (λb o hc e=>u.there b o e hc) u.tups u.frzs u.tbls (λm' hm=>by
  obtain ⟨o',es',ep',ho',r'⟩:=hm
  rw [ho] at ho';cases ho'
  exact ⟨_,es',ep',hL,r'⟩) hok hg
theorem Inv.turned {t':Nat} {it:Addr} (I:Inv X pins σ H s) (k:∀ b o,b≠it->s.heap.get? b=some o->h'.get? b=some o) (hn:H it=none) (hL:it≠X.env.locals)
  (h1:it∈X.ex\/X.s₀.heap.objs.size<=it) (h2:∀ x c,X.env.cells.lookup x=some c->c≠it) (h3:∀ p∈X.pn++pins,p.1≠it):Inv X pins σ H { s with heap:=h',toks:=t' }:=by
 have nit:∀ b u,H b=some u->b≠it:=λb u e z=>by rw [z,hn] at e;cases e
 refine I.step (g':=s.gens) (d':=s.drawn) (ch:=[it]) (λb hb=>?_) (λb o _ _ hc e _=>k b o (λz=>hc (by simp [z])) e) (λb o _ _ hc e _=>⟨o.slots,k b o (λz=>hc (by simp [z])) e⟩) (λ_ _ _ _ n=>n)
  (λb o hc e=>⟨o,k b o (λz=>hc (by simp [z])) e⟩) (λ_ _ e=>e) (λ_ _ _ e=>e) (λb ps e=>⟨#[],by rw [e];simp⟩) (λm hm=>?_) (λb u e=>?_) I.bare
 ·have e:b=it:=by simpa using hb
  subst e
  exact ⟨h1,hL,h2,h3⟩
 ·obtain ⟨o,es,ep,ho,r⟩:=hm
  exact ⟨o,es,ep,k _ o (Ne.symm hL) ho,r⟩
 ·refine (I.hok b u e).stay (λc v hc q=>k c v ?_ q) (λ_ q=>q) λ_ _ q=>q
  rcases hc with z | z
  ·rw [z];exact nit b u e
  ·exact nit c _ z
theorem Inv.tok (I:Inv X pins σ H s) (t:Nat):Inv X pins σ H { s with toks:=t }:=I.un (h':=s.heap) (t':=t) Un.refl I.hok
theorem Inv.kept {t':Nat} (I:Inv X pins σ H s) (k:∀ b u,s.heap.get? b=some u->h'.get? b=some u):Inv X pins σ H { s with heap:=h',toks:=t' }:=I.un (Un.kept k) (I.hok.kept k)
theorem Inv.laid {a:Addr} {o:HO} {t':Nat} (I:Inv X pins σ H s) (k:∀ b u,s.heap.get? b=some u->h'.get? b=some u) (hp:s.heap.objs.size<=a) (new:ObjOk X.prog X.w (upd H a o) h' a o) :
  Inv X pins σ (upd H a o) { s with heap:=h',toks:=t' }:=I.un (Un.laid k hp (I.hok.fresh hp)) (I.hok.laid k hp new)
theorem Inv.write {x e:Addr} {o:HO} {t':Nat} (I:Inv X pins σ H s) (mu:Mut (H x)) (he:e=x\/H e=some (.own x)) (k:∀ b u,b≠e->s.heap.get? b=some u->h'.get? b=some u) (heo:∃ u,h'.get? e=some u)
  (new:ObjOk X.prog X.w (upd H x o) h' x o):Inv X pins σ (upd H x o) { s with heap:=h',toks:=t' }:=I.un (Un.write mu he k heo) (I.hok.write mu he k heo new)
theorem Inv.weak {σ':List (Option V)} (I:Inv X pins σ H s) (hl:σ'.length=σ.length) (w:∀ (i:Nat) v,σ'[i]?=some (some v)->σ[i]?=some (some v)):Inv X pins σ' H s:=
 ⟨I.ok,I.os,I.bare,I.base,let ⟨m,hn,hl'⟩:=I.loc;⟨m,hn,λi x v e1 e2 e3=>hl' i x v e1 (w i v e2) e3⟩,I.cell,I.free,I.freeC,I.pin,I.hok,hl.trans I.len⟩
theorem Inv.pins_of {pins':List (Addr×Obj)} (I:Inv X pins σ H s) (h:∀ p∈pins',s.heap.get? p.1=some p.2/\H p.1=none/\p.1≠X.env.locals/\p.1 ∉ X.fs/\∀ v,p.2.data≠.cell v):Inv X pins' σ H s:=
 ⟨I.ok,I.os,I.bare,I.base,I.loc,I.cell,I.free,I.freeC,λp hp=>(List.mem_append.mp hp).elim (λz=>I.pin p (List.mem_append_left _ z)) (h p),I.hok,I.len⟩
theorem Zf1 {N:List Str} (hN:N.Nodup) {i j:Nat} {x:Str} (a:N[i]?=some x) (b:N[j]?=some x):i=j:=by
 obtain ⟨h1,e1⟩:=List.getElem?_eq_some_iff.mp a
 obtain ⟨h2,e2⟩:=List.getElem?_eq_some_iff.mp b
 exact (List.getElem_inj hN).mp (e1.trans e2.symm)
theorem ZeB {M:Model} {A:Around} {E:Value->Shared->Prop} {i:Nat} {x:Str} {v:V} {u:Value} {Q:Unit->Shared->Prop} (I:Inv X pins σ H s) (hN:X.N.Nodup) (hi:X.N[i]?=some x) (hx:Loc X.env.scope x) (r:RelV v u)
  (h:∀ s',Inv X pins (σ.set i (some v)) H s'->(∃ a,Heap.SameBut a s.heap s'.heap/\(a=X.env.locals\/X.env.cells.lookup x=some a))->Q () s') (hf:X.fn x=true\/X.env.scope.names.lookup x=some .local:=by first | exact .inl rfl | exact .inr rfl | assumption):wpAny M A (storeName X.env x u) Q E s:=by
 obtain ⟨m,hn,hl⟩:=id I.loc
 have hcls:(X.env.scope.kind == .class || (X.env.scope.kind == .module && X.env.locals != X.env.globals))=false:=by rw [I.ok.kind];rfl
 have hiσ:i<σ.length:=by rw [I.len];exact (List.getElem?_eq_some_iff.mp hi).1
 have cne:=I.cne
 have tracked:∀ {a:Addr} {h':Heap},(∃ o,s.heap.get? a=some o/\H a=none)->Heap.SameBut a s.heap h'->HOk X.prog X.w H h':=λ{a h'} ha hs b ob e=>by
  obtain ⟨_,_,hfree⟩:=ha
  refine (I.hok b ob e).stay (λc w' hc q=>(hs.2 c ?_).trans q) (λ_ q=>q) λ_ _ q=>q
  rintro rfl
  rcases hc with rfl | hc
  ·rw [hfree] at e;cases e
  ·rw [hfree] at hc;cases hc
 rcases hx with hk | hk
 ·refine wpAny_storeName_local hk hn (λh' hn' hs=>?_) hcls
  obtain ⟨oL,_,_,hoL,_⟩:=id hn
  refine h _ ⟨I.ok,I.os,I.bare,⟨λb o e n hb hx=>?_,λb o e n hb hx=>?_,I.base.free,λb o e hx=>?_,I.base.tups,I.base.frzs,I.base.tbls⟩,⟨_,hn',λj y v' e1 e2 e3=>?_⟩,λy c e=>?_,I.free,I.freeC,λp hp=>?_,tracked ⟨oL,hoL,I.free⟩ hs,by simpa using I.len⟩ ⟨_,hs,.inl rfl⟩
  ·exact (hs.2 b (Nat.ne_of_lt (Nat.lt_of_lt_of_le (Heap.lt_size e) I.ok.above))).trans (I.base.keep b o e n hb hx)
  ·obtain ⟨sl,e1⟩:=I.base.slot b o e n hb hx
   exact ⟨sl,(hs.2 b (Nat.ne_of_lt (Nat.lt_of_lt_of_le (Heap.lt_size e) I.ok.above))).trans e1⟩
  ·obtain ⟨o',e1⟩:=I.base.there b o e hx
   exact ⟨o',(hs.2 b (Nat.ne_of_lt (Nat.lt_of_lt_of_le (Heap.lt_size e) I.ok.above))).trans e1⟩
  ·by_cases hj:j=i
   ·subst hj
    rw [hi] at e1;cases e1
    rw [List.getElem?_set_self hiσ] at e2
    cases e2
    exact ⟨u,r,.inl ⟨hk,by simp⟩⟩
   ·rw [List.getElem?_set_ne (Ne.symm hj)] at e2
    obtain ⟨u',r',q⟩:=hl j y v' e1 e2 e3
    refine ⟨u',r',?_⟩
    rcases q with ⟨k,e⟩ | ⟨k,c,e,z⟩
    ·refine .inl ⟨k,?_⟩
     have:y≠x:=λe=>hj (Zf1 hN e1 (e▸hi))
     simp [this,e]
    ·exact .inr ⟨k,c,e,z.sameBut hs (cne y c e)⟩
  ·obtain ⟨w',z⟩:=I.cell y c e
   exact ⟨w',z.sameBut hs (cne y c e)⟩
  ·obtain ⟨e,n,ne,nf,d⟩:=I.pin p hp
   exact ⟨(hs.2 p.1 ne).trans e,n,ne,nf,d⟩
 ·have hfn:X.fn x=true:=by
   rcases hf with z | z
   ·exact z
   ·rw [z] at hk;cases hk
  obtain ⟨c,hc⟩:=I.ok.has x (.inl hk)
  obtain ⟨w',z⟩:=I.cell x c hc
  refine wpAny_storeName_cell I.ok.kind hk hc z (λh' hc' hs=>?_)
  obtain ⟨oc,hoc,hocd⟩:=id z
  refine h { s with heap:=h' } ⟨I.ok,I.os,I.bare,⟨λb o e n hb hx=>?_,λb o e n hb hx=>?_,I.base.free,λb o e hx=>?_,I.base.tups,I.base.frzs,I.base.tbls⟩,⟨m,hn.sameBut hs (Ne.symm (cne x c hc)),λj y v' e1 e2 e3=>?_⟩,λy c' e=>?_,I.free,I.freeC,λp hp=>?_,tracked ⟨oc,hoc,I.freeC x c hc⟩ hs,by simpa using I.len⟩ ⟨c,hs,.inr hc⟩
  ·exact (hs.2 b (Nat.ne_of_lt (Nat.lt_of_lt_of_le (Heap.lt_size e) (I.ok.cab x c hfn hc)))).trans (I.base.keep b o e n hb hx)
  ·obtain ⟨sl,e1⟩:=I.base.slot b o e n hb hx
   exact ⟨sl,(hs.2 b (Nat.ne_of_lt (Nat.lt_of_lt_of_le (Heap.lt_size e) (I.ok.cab x c hfn hc)))).trans e1⟩
  ·obtain ⟨o',e1⟩:=I.base.there b o e hx
   exact ⟨o',(hs.2 b (Nat.ne_of_lt (Nat.lt_of_lt_of_le (Heap.lt_size e) (I.ok.cab x c hfn hc)))).trans e1⟩
  ·by_cases hj:j=i
   ·subst hj
    rw [hi] at e1;cases e1
    rw [List.getElem?_set_self hiσ] at e2
    cases e2
    exact ⟨u,r,.inr ⟨.inl hk,c,hc,hc'⟩⟩
   ·rw [List.getElem?_set_ne (Ne.symm hj)] at e2
    obtain ⟨u',r',q⟩:=hl j y v' e1 e2 e3
    refine ⟨u',r',?_⟩
    rcases q with q | ⟨k,c',e,z'⟩
    ·exact .inl q
    ·refine .inr ⟨k,c',e,z'.sameBut hs ?_⟩
     rintro rfl
     exact hj (Zf1 hN e1 (I.ok.inj _ _ _ e hc▸hi))
  ·by_cases hcc:c'=c
   ·subst hcc;exact ⟨_,hc'⟩
   ·obtain ⟨w2,z2⟩:=I.cell y c' e
    exact ⟨w2,z2.sameBut hs hcc⟩
  ·obtain ⟨e,n,ne,nf,d⟩:=I.pin p hp
   refine ⟨(hs.2 p.1 ?_).trans e,n,ne,nf,d⟩
   intro q
   rw [q,hoc] at e
   have q':oc=p.2:=Option.some.inj e
   exact d w' (by rw [<-q'];exact hocd)
theorem Zd1 {M:Model} {A:Around} {E:Value->Shared->Prop} {i:Nat} {x:Str} {v:V} {u:Value} {Q:Unit->Shared->Prop} (I:Inv X pins σ H s) (hN:X.N.Nodup) (hi:X.N[i]?=some x) (hx:Loc X.env.scope x) (r:RelV v u)
  (h:∀ s',Inv X pins (σ.set i (some v)) H s'->Q () s') (hf:X.fn x=true\/X.env.scope.names.lookup x=some .local:=by first | exact .inl rfl | exact .inr rfl | assumption):wpAny M A (storeName X.env x u) Q E s:=
 ZeB I hN hi hx r (λs' I' _=>h s' I') hf
theorem Inv.call' {s':Shared} {ch:List Addr} (I:Inv X pins σ H s) (ho:s'.os=s.os) (u:Un (frs X.stack) ch H H' s.heap s'.heap) (hok:HOk X.prog X.w H' s'.heap) (hg:AllBare s'.gens)
  (hch:∀ b∈ch,(b∈X.ex\/X.s₀.heap.objs.size<=b)/\b≠X.env.locals/\(∀ x c,X.env.cells.lookup x=some c->c≠b)/\∀ p∈X.pn++pins,p.1≠b):Inv X pins σ H' s':=by
 obtain ⟨h',g',d',t',o'⟩:=s'
 have e:o'=s.os:=ho
 subst e
 exact I.call (g':=g') (t':=t') (d':=d') u hok hg hch
end
abbrev XK:=Value->Option Addr->Hp->Prop
abbrev St:=List (Option V)
abbrev VK:=V->Hp->Prop
abbrev TE:=St->Hp->VK->Prop
abbrev TT:=St->Hp->(Bool->Hp->Prop)->Prop
abbrev TA:=St->Hp->(List V->Hp->Prop)->Prop
structure Ends where
 nx:St->Hp->Prop
 rt:VK
 bk:St->Hp->Prop:=λ_ _=>False
 ct:St->Hp->Prop:=λ_ _=>False
abbrev TS:=Ends->St->Hp->Prop
def EP (X:Cx) (pins:List (Addr×Obj)) (σ:St) (Q:VK) (u:Value) (s':Shared):Prop:=∃ v H',Inv X pins σ H' s'/\RelV v u/\Q v H'
def TP (X:Cx) (pins:List (Addr×Obj)) (σ:St) (Q:Bool->Hp->Prop) (b:Bool) (s':Shared):Prop:=∃ H',Inv X pins σ H' s'/\Q b H'
def AP (X:Cx) (pins:List (Addr×Obj)) (σ:St) (Q:List V->Hp->Prop) (us:List Value) (s':Shared):Prop:=∃ vs H',Inv X pins σ H' s'/\Vals vs us/\Q vs H'
def SP (X:Cx) (pins:List (Addr×Obj)) (D:Ends) (f:Flow) (s':Shared):Prop:=
 match f with
 | .next=>∃ σ' H',Inv X pins σ' H' s'/\D.nx σ' H'
 | .brk=>∃ σ' H',Inv X pins σ' H' s'/\D.bk σ' H'
 | .cont=>∃ σ' H',Inv X pins σ' H' s'/\D.ct σ' H'
 | .ret u=>∃ v σ' H',Inv X pins σ' H' s'/\RelV v u/\D.rt v H'
def PE (X:Cx) (e:Expr) (t:TE):Prop:=
 ∀ (pins:List (Addr×Obj)) (s:Shared) (σ:St) (H:Hp) (Q:VK),Inv X pins σ H s->t σ H Q->wpAny (model X.prog X.w) X.A (eval e X.env) (EP X pins σ Q) X.xe s
def PT (X:Cx) (e:Expr) (t:TT):Prop:=
 ∀ (pins:List (Addr×Obj)) (s:Shared) (σ:St) (H:Hp) (Q:Bool->Hp->Prop),Inv X pins σ H s->t σ H Q->wpAny (model X.prog X.w) X.A (isTrue e X.env (eval e X.env)) (TP X pins σ Q) X.xe s
def PW (X:Cx) (e:Expr) (t:TT):Prop:=
 ∀ (whole:Sem Value) (pins:List (Addr×Obj)) (s:Shared) (σ:St) (H:Hp) (Q:Bool->Hp->Prop),Inv X pins σ H s->t σ H Q->wpAny (model X.prog X.w) X.A (isTrue e X.env whole) (TP X pins σ Q) X.xe s
theorem PW.pt {X:Cx} {e:Expr} {t:TT} (h:PW X e t):PT X e t:=h _
def PA (X:Cx) (es:List Expr) (t:TA):Prop:=
 ∀ (pos:Pos) (pins:List (Addr×Obj)) (s:Shared) (σ:St) (H:Hp) (Q:List V->Hp->Prop),Inv X pins σ H s->t σ H Q->wpAny (model X.prog X.w) X.A (spliced (backTo pos (starEach es X.env))) (AP X pins σ Q) X.xe s
def PS (X:Cx) (st:Stmt) (t:TS):Prop:=
 ∀ (pins:List (Addr×Obj)) (s:Shared) (σ:St) (H:Hp) (D:Ends),Inv X pins σ H s->t D σ H->wpAny (model X.prog X.w) X.A (exec st X.env) (SP X pins D) X.xe s
def PSs (X:Cx) (st:List Stmt) (t:TS):Prop:=
 ∀ (pins:List (Addr×Obj)) (s:Shared) (σ:St) (H:Hp) (D:Ends),Inv X pins σ H s->t D σ H->wpAny (model X.prog X.w) X.A (execs st X.env) (SP X pins D) X.xe s
theorem thn {α:Type} {t:Sem α} {Q Q':α->Shared->Prop} {M:Model} {A:Around} {E:Value->Shared->Prop} {s:Shared} (h:wpAny M A t Q E s) (hQ:∀ a s,Q a s->Q' a s):wpAny M A t Q' E s:=wpAny_mono h hQ λ_ _ x=>x
end L2
namespace L2
open PySem PySem.Spec PyProof.Rows
section
variable {X:Cx}
def Zow (i:Nat):TE:=λσ H Q=>∃ v,σ[i]?=some (some v)/\Q v H
def tC (v:V):TE:=λ_ H Q=>Q v H
theorem Zma {i:Nat} {x:Str} {pos:Pos} (hN:X.N[i]?=some x) (hv:Vis X.env.scope x) (hd:(x == ("__debug__" : Str))=false:=by decide) (hcd:(x == ("__classdict__" : Str))=false:=by decide):PE X (.Name x pos) (Zow i):=by
 intro pins s σ H Q I h
 obtain ⟨v,e,h⟩:=h
 obtain ⟨m,hn,hl⟩:=I.loc
 obtain ⟨u,r,l⟩:=hl i x v hN e hv
 have fin:EP X pins σ Q u s:=⟨v,H,I,r,h⟩
 rcases l with ⟨hk,hm⟩ | ⟨hk,c,hc,hcell⟩
 ·exact wpAny_Name (wpAny_loadName_local I.ok.kind hk hn hm fin) hd
 ·rcases hk with hk | hk
  ·exact wpAny_Name (wpAny_loadName_cell I.ok.kind hk hc hcell fin) hd
  ·exact wpAny_Name (wpAny_loadName_free I.ok.kind hk hc hcell fin hcd) hd
theorem Zai {i j pos}:PE X (.Constant (.int i) j pos) (tC (.int i)):=λ_ _ _ H _ I h=>wpAny_Constant_int ⟨.int i,H,I.tok _,⟨_,rfl⟩,h⟩
theorem ZbB {b j pos}:PE X (.Constant (.bool b) j pos) (tC (.bl b)):=λ_ _ _ H _ I h=>Constant_bool ⟨.bl b,H,I,rfl,h⟩
theorem Zcg {j pos}:PE X (.Constant .none j pos) (tC .non):=λ_ _ _ H _ I h=>Constant_none ⟨.non,H,I,rfl,h⟩
theorem Zf2 {x j pos}:PE X (.Constant (.str x) j pos) (tC (.str x)):=λ_ _ _ H _ I h=>Calls.Constant_str ⟨.str x,H,I.tok _,⟨_,rfl⟩,h⟩
def Gl (X:Cx) (x:Str):Prop:=X.env.kindOf x=some .globalImplicit
theorem Zde {E:Value->Shared->Prop} {pins:List (Addr×Obj)} {s:Shared} {σ:St} {H:Hp} {x:Str} {u:Value} {pos:Pos} {Q:Value->Shared->Prop} (I:Inv X pins σ H s) (hg:Gl X x) (hm:X.mg x=some u) (h:Q u s)
  (hd:(x == ("__debug__" : Str))=false:=by decide):wpAny (model X.prog X.w) X.A (eval (.Name x pos) X.env) Q E s:=
 Calls.Name_function_global I.ok.kind hg (Calls.loadGlobal_global (by rw [I.ok.glob];exact I.mod.glob.keeps I.bk) hm h) hd
theorem Zdf {E:Value->Shared->Prop} {pins:List (Addr×Obj)} {s:Shared} {σ:St} {H:Hp} {x:Str} {u:Value} {pos:Pos} {Q:Value->Shared->Prop} (I:Inv X pins σ H s) (hg:Gl X x) (hm:X.mg x=none) (hv:bootBuiltins x=some u) (h:Q u s)
  (hn:x ≠ "__name__" := by decide) (hd:(x == ("__debug__" : Str))=false:=by decide):wpAny (model X.prog X.w) X.A (eval (.Name x pos) X.env) Q E s:=by
 obtain ⟨mb,h1,h2⟩:=I.mod.blt
 exact Calls.Name_function_global I.ok.kind hg (Calls.loadGlobal_builtin (by rw [I.ok.glob];exact I.mod.glob.keeps I.bk) hm (by rw [I.ok.blt];exact h1.keeps I.bk) ((h2 x hn).trans hv) h) hd
theorem Zhs {x:Str} {v:V} {u:Value} {pos:Pos} (hg:Gl X x) (hm:X.mg x=some u) (r:RelV v u) (hd:(x == ("__debug__" : Str))=false:=by decide):PE X (.Name x pos) (tC v):=
 λ_ _ _ H _ I h=>Zde I hg hm ⟨v,H,I,r,h⟩ hd
def t2I (ta tb:TE) (k:Int->Int->Hp->Prop):St->Hp->Prop:=λσ H=>ta σ H λx H1=>tb σ H1 λy H2=>∃ i j,x=.int i/\y=.int j/\k i j H2
def Zp1 (ta tb:TE):TE:=λσ H Q=>t2I ta tb (λi j H2=>Q (.int (i+j)) H2) σ H
def Zp2 (ta tb:TE):TE:=λσ H Q=>t2I ta tb (λi j H2=>Q (.int (i-j)) H2) σ H
def Zp3 (ta tb:TE):TE:=λσ H Q=>t2I ta tb (λi j H2=>(-(2 ^ 64)<i/\i<2 ^ 64)/\Q (.int (i * j)) H2) σ H
variable {a b:Expr} {ta tb:TE} {pos:Pos}
def PC (X:Cx) (op:CmpOp) (a b:Expr) (t:TE):Prop:=
 ∀ (pins:List (Addr×Obj)) (s:Shared) (σ:St) (H:Hp) (Q:VK),Inv X pins σ H s->t σ H Q ->
  wpAny (model X.prog X.w) X.A (eval a X.env) (λv s₁=>wpAny (model X.prog X.w) X.A (eval b X.env) (λu s₂=>wpAny (model X.prog X.w) X.A (compareOp op v u) (EP X pins σ Q) X.xe s₂) X.xe s₁) X.xe s
def Zl3 (p:Int->Int->Bool) (ta tb:TE):TE:=λσ H Q=>t2I ta tb (λi j H2=>Q (.bl (p i j)) H2) σ H
abbrev tLt:TE->TE->TE:=Zl3 λi j=>decide (i<j)
abbrev tLe:TE->TE->TE:=Zl3 λi j=>decide (i<=j)
abbrev tGt:TE->TE->TE:=Zl3 λi j=>decide (j<i)
abbrev tGe:TE->TE->TE:=Zl3 λi j=>decide (j<=i)
abbrev Zp4:TE->TE->TE:=Zl3 λi j=>decide (i=j)
abbrev Zp5:TE->TE->TE:=Zl3 λi j=>!decide (i=j)
def Zp6 (ta:TE):TE:=λσ H Q=>ta σ H λx H1=>Q (.bl (decide (x=.non))) H1
def Zo7 (ta:TE):TE:=λσ H Q=>ta σ H λx H1=>Q (.bl (!decide (x=.non))) H1
def tB (t:TE):TT:=λσ H Q=>t σ H λx H1=>∃ c,x=.bl c/\Q c H1
theorem Zht {op:CmpOp} {t:TE} (h:PC X op a b t) (h1:behindInMarks op b=false:=by first | exact nobehind _ (by decide) (by decide) | rfl):PT X (.Compare a [op] [b] pos) (tB t):=by
 intro pins s σ H Q I hw
 refine wpAny_isTrue_Compare1 (thn (h pins s σ H _ I hw) λv s1 h1=>thn h1 λu s2 h2=>thn h2 λc s3 ⟨x,H1,I1,r1,q1⟩=>?_) h1
 obtain ⟨d,rfl,q⟩:=q1
 cases r1
 exact wpAny_truthy_bool ⟨H1,I1,q⟩
theorem Zch {e:Expr} {t:TE} (h:PE X e t) (he:∀ whole,isTrue e X.env whole=(do let v <- whole;standAt e.pos;holding [v] (truthy v)):=by intro _;rfl):PT X e (tB t):=by
 intro pins s σ H Q I hw
 refine isTrue_plain (thn (h pins s σ H _ I hw) λv s1 ⟨x,H1,I1,r1,q1⟩=>?_) (he _)
 obtain ⟨d,rfl,q⟩:=q1
 cases r1
 exact wpAny_truthy_bool ⟨H1,I1,q⟩
variable {tA tB':TT} {rest:List Expr}
def Zo8 (t u:TT):TT:=λσ H Q=>t σ H λc H1=>if c=true then u σ H1 Q else Q false H1
def tOr (t u:TT):TT:=λσ H Q=>t σ H λc H1=>if c=true then Q true H1 else u σ H1 Q
def Zo9 (t:TT):TT:=λσ H Q=>t σ H λc H1=>Q (!c) H1
theorem Zdg (ha:PT X a tA):PW X (.BoolOp .And [a] pos) tA:=by
 intro wh pins s σ H Q I h
 refine isTrue_and (thn (ha pins s σ H Q I h) λc s1 e=>?_)
 cases c with
 | true=>exact isTrue_and_nil e
 | false=>exact e
theorem ZdK (ha:PT X a tA):PW X (.BoolOp .Or [a] pos) tA:=by
 intro wh pins s σ H Q I h
 refine isTrue_or (thn (ha pins s σ H Q I h) λc s1 e=>?_)
 cases c with
 | false=>exact isTrue_or_nil e
 | true=>exact e
theorem ZeC (ha:PT X a tA) (hb:PW X (.BoolOp .And (b::rest) pos) tB'):PW X (.BoolOp .And (a::b::rest) pos) (Zo8 tA tB'):=by
 intro wh pins s σ H Q I h
 refine isTrue_and (thn (ha pins s σ H _ I h) λc s1 ⟨H1,I1,q1⟩=>?_)
 cases c with
 | true=>exact hb wh pins s1 σ H1 Q I1 q1
 | false=>exact ⟨H1,I1,q1⟩
theorem Zfq (ha:PT X a tA) (hb:PW X (.BoolOp .Or (b::rest) pos) tB'):PW X (.BoolOp .Or (a::b::rest) pos) (tOr tA tB'):=by
 intro wh pins s σ H Q I h
 refine isTrue_or (thn (ha pins s σ H _ I h) λc s1 ⟨H1,I1,q1⟩=>?_)
 cases c with
 | true=>exact ⟨H1,I1,q1⟩
 | false=>exact hb wh pins s1 σ H1 Q I1 q1
theorem ZcU (ha:PT X a tA):PT X (.UnaryOp .Not a pos) (Zo9 tA):=by
 intro pins s σ H Q I h
 exact isTrue_not (ha pins s σ H (λc H1=>Q (!c) H1) I h)
def Zpa (ta tb:TE):TE:=λσ H Q=>ta σ H λx H1=>∃ c,x=.bl c/\if c=true then tb σ H1 Q else Q (.bl false) H1
def Zp7 (ta tb:TE):TE:=λσ H Q=>ta σ H λx H1=>∃ c,x=.bl c/\if c=true then Q (.bl true) H1 else tb σ H1 Q
def Zpb (ta:TE):TE:=λσ H Q=>ta σ H λx H1=>∃ c,x=.bl c/\Q (.bl (!c)) H1
def tIf (t:TT) (ta tb:TE):TE:=λσ H Q=>t σ H λc H1=>if c=true then ta σ H1 Q else tb σ H1 Q
theorem Zi6 {c:Expr} (hc:PT X c tA) (ha:PE X a ta) (hb:PE X b tb):PE X (.IfExp c a b pos) (tIf tA ta tb):=by
 intro pins s σ H Q I h
 refine wpAny_IfExp (thn (hc pins s σ H _ I h) λd s1 ⟨H1,I1,q1⟩=>?_)
 cases d with
 | true=>exact ha pins s1 σ H1 Q I1 q1
 | false=>exact hb pins s1 σ H1 Q I1 q1
end
end L2
namespace L2
open PySem PySem.Spec PyProof.Rows
def SqL (K:PySem.W.Frag) (H:Hp) (a:Addr) (xs:List V):Prop:=
 Rd H a (.lst xs) \/
  ∃ (o:Obj) (its:Array Value) (n:Nat),K.lookup a=some o/\o.cls=.type "list" /\ o.dict=none/\o.data=.seq its n/\its.size<=sizeLine/\Vals xs its.toList
def SqT (K:PySem.W.Frag) (H:Hp) (a:Addr) (xs:List V):Prop:=
 Rd H a (.tup xs) \/
  ∃ (o:Obj) (its:Array Value) (n:Nat),K.lookup a=some o/\o.cls=.type "tuple" /\ o.data=.seq its n/\its.size<=sizeLine/\Vals xs its.toList
def Zpc:Value->Option V
 | .none=>some .non
 | .bool b=>some (.bl b)
 | .int i _=>some (.int i)
 | .str x _=>some (.str x)
 | .bytes b _=>some (.byt b)
 | .float b _=>some (.flt b)
 | .ref a=>some (.ref a)
 | .type n=>some (.ty n)
 | _=>none
theorem RelV.abs {x:V} {u:Value} (r:RelV x u):Zpc u=some x:=by
 cases x with
 | non=>cases r;rfl
 | bl _=>cases r;rfl
 | int _=>obtain ⟨t,rfl⟩:=r;rfl
 | str _=>obtain ⟨t,rfl⟩:=r;rfl
 | byt _=>obtain ⟨t,rfl⟩:=r;rfl
 | flt _=>obtain ⟨t,rfl⟩:=r;rfl
 | ref _=>cases r;rfl
 | ty _=>cases r;rfl
theorem RelV.inj {x y:V} {u:Value} (r:RelV x u) (q:RelV y u):x=y:=Option.some.inj (r.abs.symm.trans q.abs)
theorem Vals.inj:∀ {xs ys:List V} {us:List Value},Vals xs us->Vals ys us->xs=ys
 | _,_,_,.nil,.nil=>rfl
 | _,_,_,.cons r t,.cons r' t'=>by rw [r.inj r',Vals.inj t t']
section
variable {X:Cx} {pins:List (Addr×Obj)} {σ:St} {H:Hp} {s:Shared} {a:Addr} {xs ys:List V}
theorem SqL.of {K:PySem.W.Frag} (h:H a=some (.lst xs)):SqL K H a xs:=.inl (.inl h)
theorem SqT.of {K:PySem.W.Frag} (h:H a=some (.tup xs)):SqT K H a xs:=.inl (.inl h)
theorem Inv.list (I:Inv X pins σ H s) (h:SqL X.K H a xs):∃ its:List Value,Vals xs its/\PlainL s.heap a its.toArray/\xs.length<=sizeLine:=by
 rcases h with h | ⟨o,its,n,hk,hc,hd,hs,hz,r⟩
 ·obtain ⟨z,its,n,r,e⟩:=h.ok I.hok
  exact ⟨its,r,⟨_,n,e,rfl,rfl,rfl⟩,z⟩
 ·refine ⟨its.toList,r,⟨o,n,I.kIn a o hk,hc,hd,by simpa using hs⟩,?_⟩
  have e:=r.length
  simp only [Array.length_toList] at e
  omega
theorem Inv.tuple (I:Inv X pins σ H s) (h:SqT X.K H a xs):∃ its:List Value,Vals xs its/\IsTup s.heap a its.toArray/\xs.length<=sizeLine:=by
 rcases h with h | ⟨o,its,n,hk,hc,hs,hz,r⟩
 ·obtain ⟨z,its,r,p⟩:=h.ok I.hok
  exact ⟨its,r,p,z⟩
 ·refine ⟨its.toList,r,⟨o,I.kIn a o hk,hc,n,by simpa using hs⟩,?_⟩
  have e:=r.length
  simp only [Array.length_toList] at e
  omega
theorem Inv.list_inj (I:Inv X pins σ H s) (h:SqL X.K H a xs) (h':SqL X.K H a ys):xs=ys:=by
 obtain ⟨its,r,⟨o,n,e,_,_,d⟩,_⟩:=I.list h
 obtain ⟨its',r',⟨o',n',e',_,_,d'⟩,_⟩:=I.list h'
 rw [e] at e';cases e'
 rw [d] at d'
 injection d' with d1 _
 have:its=its':=by simpa using congrArg Array.toList d1
 subst this
 exact r.inj r'
end
abbrev Cx.wish (X:Cx) (E:Value->Shared->Prop):Cx:={ X with xe:=E }
abbrev Cx.nox (X:Cx):Cx:=X.wish λ_ _=>False
theorem Cx.Ok.wish {X:Cx} (ok:X.Ok) (E:Value->Shared->Prop):(X.wish E).Ok:=
 ⟨ok.mod,ok.kind,ok.glob,ok.blt,ok.above,ok.inj,ok.has,ok.cab,ok.hd,ok.frames,ok.stk,ok.exf,ok.bs,ok.bsz,ok.noex,ok.exfs,ok.funs,ok.frf⟩
theorem Cx.Ok.unwish {X:Cx} {E:Value->Shared->Prop} (ok:(X.wish E).Ok):X.Ok:=
 ⟨ok.mod,ok.kind,ok.glob,ok.blt,ok.above,ok.inj,ok.has,ok.cab,ok.hd,ok.frames,ok.stk,ok.exf,ok.bs,ok.bsz,ok.noex,ok.exfs,ok.funs,ok.frf⟩
section
variable {X:Cx} {pins:List (Addr×Obj)} {σ:St} {H:Hp} {s:Shared} {E:Value->Shared->Prop}
theorem Inv.wish (I:Inv X pins σ H s) (E:Value->Shared->Prop):Inv (X.wish E) pins σ H s:=⟨I.ok.wish E,I.os,I.bare,I.base,I.loc,I.cell,I.free,I.freeC,I.pin,I.hok,I.len⟩
theorem Inv.unwish (I:Inv (X.wish E) pins σ H s):Inv X pins σ H s:=⟨I.ok.unwish,I.os,I.bare,I.base,I.loc,I.cell,I.free,I.freeC,I.pin,I.hok,I.len⟩
theorem SP.unwish {D:Ends} {f:Flow} {s':Shared} (h:SP (X.wish E) pins D f s'):SP X pins D f s':=by
 cases f with
 | next=>obtain ⟨σ',H',I,q⟩:=h;exact ⟨σ',H',I.unwish,q⟩
 | brk=>obtain ⟨σ',H',I,q⟩:=h;exact ⟨σ',H',I.unwish,q⟩
 | cont=>obtain ⟨σ',H',I,q⟩:=h;exact ⟨σ',H',I.unwish,q⟩
 | ret u=>obtain ⟨v,σ',H',I,r,q⟩:=h;exact ⟨v,σ',H',I.unwish,r,q⟩
theorem PSs.nox {st:List Stmt} {t:TS} (h:PSs X.nox st t):PSs X st t:=λpins s σ H D I hw=>
 wpAny_mono (h pins s σ H D (I.wish _) hw) (λ_ _ q=>q.unwish) λ_ _ z=>False.elim z
end
section
variable {X:Cx} {st:Stmt} {rest:List Stmt} {t u:TS} {e:Expr} {te:TE} {pos:Pos}
def Zmb:TS:=λD σ H=>D.nx σ H
def Zox (t u:TS):TS:=λD σ H=>t { D with nx:=u D } σ H
theorem ZaC:PSs X [] Zmb:=λ_ _ σ H _ I h=>wpAny_execs_nil ⟨σ,H,I,h⟩
theorem Zad (h1:PS X st t) (h2:PSs X rest u):PSs X (st::rest) (Zox t u):=by
 intro pins s σ H D I h
 refine wpAny_execs_cons (thn (h1 pins s σ H { D with nx:=u D } I h) λf s1 q=>?_)
 cases f with
 | next=>
  obtain ⟨σ',H',I',q⟩:=q
  exact h2 pins s1 σ' H' D I' q
 | ret v=>exact q
 | brk=>exact q
 | cont=>exact q
theorem Zah (h1:PS X st t):PSs X [st] t:=by
 intro pins s σ H D I h
 refine wpAny_execs_cons (thn (h1 pins s σ H D I h) λf s1 q=>?_)
 cases f with
 | next=>exact wpAny_execs_nil q
 | ret v=>exact q
 | brk=>exact q
 | cont=>exact q
def Zoy:TS:=λD σ H=>D.bk σ H
def Zpd:TS:=λD σ H=>D.ct σ H
theorem Inv.quiet {pins:List (Addr×Obj)} {σ:St} {H:Hp} {s:Shared} (I:Inv X pins σ H s):interactive X.env=false:=by simp [interactive,I.ok.kind]
def ZnJ (te:TE):TS:=λD σ H=>te σ H λ_ H1=>D.nx σ H1
theorem Za6 (he:PE X e te) (hs:swapsWith e none pos.line X.env=pure false:=by rfl):PS X (.Expr e pos) (ZnJ te):=by
 intro pins s σ H D I h
 exact wpAny_Expr_any (thn (he pins s σ H _ I h) λv s1 ⟨x,H1,I1,r1,q1⟩=>⟨σ,H1,I1,q1⟩) I.quiet hs
def Zpe (te:TE):TS:=λD σ H=>te σ H D.rt
theorem Zaw (he:PE X e te):PS X (.Return (some e) pos) (Zpe te):=by
 intro pins s σ H D I h
 exact wpAny_Return_some (thn (he pins s σ H _ I h) λv s1 ⟨x,H1,I1,r1,q1⟩=>⟨x,σ,H1,I1,r1,q1⟩)
def Zpf:TS:=λD _ H=>D.rt .non H
def Zpg (c:TT) (t u:TS):TS:=λD σ H=>c σ H λb H1=>if b=true then t D σ H1 else u D σ H1
theorem Zbb {c:Expr} {a b:List Stmt} {tc:TT} (hc:PT X c tc) (ha:PSs X a t) (hb:PSs X b u):PS X (.If c a b pos) (Zpg tc t u):=by
 intro pins s σ H D I h
 refine wpAny_If (thn (hc pins s σ H _ I h) λd s1 ⟨H1,I1,q1⟩=>?_)
 cases d with
 | true=>exact ha pins s1 σ H1 D I1 q1
 | false=>exact hb pins s1 σ H1 D I1 q1
def Zoz:TS:=λ_ _ _=>False
end
abbrev TG:=V->St->Hp->(St->Hp->Prop)->Prop
abbrev TGs:=List V->St->Hp->(St->Hp->Prop)->Prop
def PG (X:Cx) (target:Expr) (t:TG):Prop:=
 ∀ (pins:List (Addr×Obj)) (s:Shared) (σ:St) (H:Hp) (v:V) (u:Value) (Q:St->Hp->Prop),Inv X pins σ H s->RelV v u->t v σ H Q ->
  wpAny (model X.prog X.w) X.A (assign target X.env u) (λ_ s'=>∃ σ' H',Inv X pins σ' H' s'/\Q σ' H') X.xe s
def PGs (X:Cx) (ts:List Expr) (t:TGs):Prop:=
 ∀ (pins:List (Addr×Obj)) (s:Shared) (σ:St) (H:Hp) (vs:List V) (us:List Value) (Q:St->Hp->Prop),Inv X pins σ H s->Vals vs us->t vs σ H Q ->
  wpAny (model X.prog X.w) X.A (assignInOrder ((assignEach ts X.env).map (·.2)) us) (λ_ s'=>∃ σ' H',Inv X pins σ' H' s'/\Q σ' H') X.xe s
abbrev Znz:=V->V->V->Hp->(Hp->Prop)->Prop
def ZoA (X:Cx) (t:Znz):Prop:=
 ∀ (pins:List (Addr×Obj)) (s:Shared) (σ:St) (H:Hp) (o i v:V) (ov iv u:Value) (Q:Hp->Prop),Inv X pins σ H s->RelV o ov->RelV i iv->RelV v u->t o i v H Q ->
  wpAny (model X.prog X.w) X.A (setItem ov iv u) (λ_ s'=>∃ H',Inv X pins σ H' s'/\Q H') X.xe s
abbrev TIp:=V->V->Hp->VK->Prop
def PIp (X:Cx) (op:Operator) (t:TIp):Prop:=
 ∀ (pins:List (Addr×Obj)) (s:Shared) (σ:St) (H:Hp) (x y:V) (v u:Value) (Q:VK),Inv X pins σ H s->RelV x v->RelV y u->t x y H Q ->
  wpAny (model X.prog X.w) X.A (inplaceOp op v u) (EP X pins σ Q) X.xe s
section
variable {X:Cx} {pos:Pos}
def ZcL (i:Nat):TG:=λv σ H Q=>Q (σ.set i (some v)) H
theorem Zao {i:Nat} {x:Str} (hN:X.N.Nodup) (hi:X.N[i]?=some x) (hx:Loc X.env.scope x) (hf:X.fn x=true\/X.env.scope.names.lookup x=some .local:=by first | exact .inl rfl | exact .inr rfl | assumption):PG X (.Name x pos) (ZcL i):=by
 intro pins s σ H v u Q I r h
 exact wpAny_assign_Name (Zd1 I hN hi hx r (λs' I'=>⟨_,H,I',h⟩) hf)
def Zph:TGs:=λvs σ H Q=>vs=[]/\Q σ H
def ZnK (t:TG) (u:TGs):TGs:=λvs σ H Q=>∃ v r,vs=v::r/\t v σ H λσ' H'=>u r σ' H' Q
theorem Zca:PGs X [] Zph:=by
 intro pins s σ H vs us Q I r h
 obtain ⟨e,h⟩:=h
 subst e
 cases r
 exact assignInOrder_nil ⟨σ,H,I,h⟩
theorem ZaP {e:Expr} {es:List Expr} {t:TG} {u:TGs} (h1:PG X e t) (h2:PGs X es u)
  (hs:(assignEach (e::es) X.env).map (·.2)=assign e X.env::(assignEach es X.env).map (·.2):=by rfl):PGs X (e::es) (ZnK t u):=by
 intro pins s σ H vs us Q I r h
 obtain ⟨v,vr,e1,h⟩:=h
 subst e1
 cases r with
 | cons r rr=>
  rw [hs]
  refine assignInOrder_cons (thn (h1 pins s σ H _ _ _ I r h) λ_ s1 ⟨σ1,H1,I1,q1⟩=>?_)
  exact h2 pins s1 σ1 H1 _ _ Q I1 rr q1
def ZoB (K:PySem.W.Frag) (n:Nat) (t:TGs):TG:=λv σ H Q=>∃ a xs,v=.ref a/\SqT K H a xs/\xs.length=n/\t xs σ H Q
theorem Zmc {es:List Expr} {k:Nat} {t:TGs} {n:Nat} (hc:X.calm=true) (h:PGs X es t)
  (hn:(assignEach es X.env).length=n:=by rfl) (hst:(assignEach es X.env).findIdx? (·.1)=none:=by rfl):PG X (.Tuple es k pos) (ZoB X.K n t):=by
 intro pins s σ H v u Q I r hw
 obtain ⟨a,xs,e1,hq,hl,hw⟩:=hw
 subst e1
 cases r
 obtain ⟨its,rv,ht,hz⟩:=I.tuple hq
 refine assign_Tuple_tuple (I.ok.hd hc) ht (by simp [hn,<-hl,rv.length]) hst λh' hx=>?_
 have I1:Inv X pins σ H { s with heap:=h' }:=I.kept (t':=s.toks) λb o e=>hx b o (Nat.ne_of_lt (Heap.lt_size e)) e
 exact h pins _ σ H xs _ Q I1 (by simpa using rv) hw
def Zpi (to ti:TE) (t:Znz):TG:=λv σ H Q=>to σ H λo H1=>ti σ H1 λi H2=>t o i v H2 λH3=>Q σ H3
theorem Zmd {o i:Expr} {to ti:TE} {t:Znz} (ho:PE X o to) (hi:PE X i ti) (hs:ZoA X t)
  (ha:∀ v,assign (.Subscript o i pos) X.env v=(do
   let ov <- holding [v] (eval o X.env)
   let iv <- holding [v,ov] (eval i X.env)
   standAt pos
   holding [v,ov,iv] (setItem ov iv v)
   release [v,ov,iv] []):=by intro _;rfl):PG X (.Subscript o i pos) (Zpi to ti t):=by
 intro pins s σ H v u Q I r h
 rw [ha]
 refine wpAny_bind (wpAny_holding (thn (ho pins s σ H _ I h) λov s1 ⟨x,H1,I1,r1,q1⟩=>?_))
 refine wpAny_bind (wpAny_holding (thn (hi pins s1 σ H1 _ I1 q1) λiv s2 ⟨y,H2,I2,r2,q2⟩=>?_))
 refine wpAny_bind (wpAny_standAt (wpAny_bind (wpAny_holding (thn (hs pins s2 σ H2 x y v ov iv u _ I2 r1 r2 r q2) λ_ s3 ⟨H3,I3,q3⟩=>?_))))
 exact wpAny_release ⟨σ,H3,I3,q3⟩
def ZnL (te:TE) (g:TG):TS:=λD σ H=>te σ H λx H1=>g x σ H1 D.nx
theorem Zhu {tg e:Expr} {te:TE} {g:TG} (he:PE X e te) (hg:PG X tg g) (hs:swapsWithSole [tg] e pos.line X.env=pure false:=by rfl) (hw:swappedStores [tg] e X.env=pure none:=by rfl)
  (h1:(assignEach [tg] X.env).map (·.2)=[assign tg X.env]:=by rfl):PS X (.Assign [tg] e pos) (ZnL te g):=by
 intro pins s σ H D I h
 refine wpAny_Assign_stores (thn (he pins s σ H _ I h) λv s1 ⟨x,H1,I1,r1,q1⟩=>?_) hs hw
 rw [h1]
 exact thn (hg pins s1 σ H1 x v _ I1 r1 q1) λ_ s2 q=>q
theorem Zav {i:Nat} {x:Str} {e:Expr} {te:TE} {pos':Pos} (hN:X.N.Nodup) (hi:X.N[i]?=some x) (hx:Loc X.env.scope x) (he:PE X e te) (hs:swapsWith e (some (.Name x pos')) pos.line X.env=pure false:=by rfl) (hf:X.fn x=true\/X.env.scope.names.lookup x=some .local:=by first | exact .inl rfl | exact .inr rfl | assumption) :
  PS X (.Assign [.Name x pos'] e pos) (ZnL te (ZcL i)):=by
 intro pins s σ H D I h
 refine wpAny_Assign_Name (thn (he pins s σ H _ I h) λv s1 ⟨y,H1,I1,r1,q1⟩=>?_) hs
 exact Zd1 I1 hN hi hx r1 (λs2 I2=>⟨_,H1,I2,q1⟩) hf
def Zp8 (i j:Nat) (ta:TA):TS:=λD σ H=>ta σ H λvs H1=>∃ v w,vs=[v,w]/\D.nx ((σ.set i (some v)).set j (some w)) H1
def Zp9 (i:Nat) (te:TE) (ti:TIp):TS:=λD σ H=>∃ x,σ[i]?=some (some x)/\te σ H λy H1=>ti x y H1 λz H2=>D.nx (σ.set i (some z)) H2
def Zpj (to ti te:TE) (tget:V->V->Hp->VK->Prop) (tip:TIp) (tset:Znz):TS:=λD σ H=>to σ H λo H1=>ti σ H1 λi H2=>tget o i H2 λx H3=>te σ H3 λy H4=>tip x y H4 λz H5=>tset o i z H5 λH6=>D.nx σ H6
def Zqa (X:Cx) (t:V->V->Hp->VK->Prop):Prop:=
 ∀ (pins:List (Addr×Obj)) (s:Shared) (σ:St) (H:Hp) (o i:V) (ov iv:Value) (Q:VK),Inv X pins σ H s->RelV o ov->RelV i iv->t o i H Q ->
  wpAny (model X.prog X.w) X.A (getItem ov iv) (EP X pins σ Q) X.xe s
def ipI (f:Int->Int->Int):TIp:=λx y H Q=>∃ i j,x=.int i/\y=.int j/\Q (.int (f i j)) H
end
section
variable {X:Cx} {pos:Pos}
def Zme (c:TT) (tb:TS):TS:=λD σ H=>∃ W:Nat->St->Hp->Prop,(∃ m,W m σ H)/\∀ m σ H,W m σ H ->
 c σ H λb H1=>if b=true then ∃ N:St->Hp->Prop,(∀ σ' H',N σ' H'->∃ m',m'<m/\W m' σ' H')/\tb { D with nx:=N,ct:=N,bk:=D.nx } σ H1 else D.nx σ H1
theorem Zd2 {c:Expr} {body:List Stmt} {tc:TT} {tb:TS} (hp:PassesOwn (model X.prog X.w) X.A X.env X.xe) (hc:PT X c tc) (hb:PSs X body tb):PS X (.While c body [] pos) (Zme tc tb):=by
 intro pins s σ H D I h
 obtain ⟨W,⟨m0,w0⟩,turn⟩:=h
 refine wpAny_While (codeAny_whileLoop (λn s'=>∃ σ' H',Inv X pins σ' H' s'/\W n σ' H') ?_ m0 ⟨σ,H,I,w0⟩)
 rintro n s1 ⟨σ1,H1,I1,w1⟩
 refine wpAny_passesOwn hp (thn (hc pins s1 σ1 H1 _ I1 (turn n σ1 H1 w1)) λb s2 ⟨H2,I2,q2⟩=>?_)
 cases b with
 | true=>
  obtain ⟨N,hN,q2⟩:=q2
  rw [if_pos rfl]
  refine wpAny_passesOwn hp (thn (hb pins s2 σ1 H2 _ I2 q2) λf s3 q3=>?_)
  cases f with
  | next=>
   obtain ⟨σ3,H3,I3,n3⟩:=q3
   obtain ⟨m',hm,w3⟩:=hN σ3 H3 n3
   exact ⟨m',hm,σ3,H3,I3,w3⟩
  | cont=>
   obtain ⟨σ3,H3,I3,n3⟩:=q3
   obtain ⟨m',hm,w3⟩:=hN σ3 H3 n3
   exact ⟨m',hm,σ3,H3,I3,w3⟩
  | brk=>exact q3
  | ret v=>exact q3
 | false=>
  rw [if_neg Bool.false_ne_true]
  exact wpAny_execs_nil ⟨σ1,H2,I2,q2⟩
end
structure It where
 go:Nat->Hp->Prop
 yld:Nat->Hp->V->Hp->Prop
 stop:Nat->Hp->Prop
def Zi1 (X:Cx) (pins:List (Addr×Obj)) (H:Hp) (b:Addr):Prop:=
 H b=none/\b≠X.env.locals/\b ∉ X.fs/\(b∈X.ex\/X.s₀.heap.objs.size<=b)/\(∀ x c,X.env.cells.lookup x=some c->c≠b)/\∀ p∈X.pn++pins,p.1≠b
theorem Inv.fpOk {X:Cx} {pins:List (Addr×Obj)} {σ:St} {H H':Hp} {s:Shared} {b:Addr} (I:Inv X pins σ H s) (hb:s.heap.objs.size<=b) (hn:H' b=none):Zi1 X pins H' b:=by
 refine ⟨hn,Nat.ne_of_gt (Nat.lt_of_lt_of_le I.lt hb),I.nofs hb,.inr (Nat.le_trans I.sz hb),λx c e z=>?_,λp hp z=>?_⟩
 ·obtain ⟨v,q⟩:=I.cell x c e
  exact absurd (Nat.lt_of_lt_of_le q.lt (by rw [z];exact hb)) (Nat.lt_irrefl _)
 ·exact absurd (Nat.lt_of_lt_of_le (Heap.lt_size (I.pin p hp).1) (by rw [z];exact hb)) (Nat.lt_irrefl _)
structure Zmf (P:Program) (w:World) (K:PySem.W.Frag) (tg:Expr) (J:It) (fp:List Addr) (it:Addr) (tn:Nat->Heap->Prop):Prop where
 mem:it∈fp
 obj:∀ i h,tn i h->∀ b∈fp,∃ o,h.get? b=some o/\∀ v,o.data≠.cell v
 keep:∀ i h h',tn i h->(∀ b∈fp,∀ o,h.get? b=some o->h'.get? b=some o)->tn i h'
 item:∀ (X:Cx),X.prog=P->X.w=w->X.K=K->X.calm=true->∀ (i:Nat) (pins:List (Addr×Obj)) (s:Shared) (σ:St) (H:Hp) (E:Value->Shared->Prop),Inv X pins σ H s->(∀ b∈fp,Zi1 X pins H b)->tn i s.heap->J.go i H ->
  wpAny (model P w) X.A (pyNext (.ref it)) (λr s1=>∃ u,r=some u /\
   wpAny (model P w) X.A (letOwnedTupleGo tg (.ref it) u) (λ_ s2=>∃ x H',Inv X pins σ H' s2/\RelV x u/\J.yld i H x H'/\tn (i+1) s2.heap/\∀ b∈fp,H' b=none) E s1) E s
 done:∀ (X:Cx),X.prog=P->X.w=w->X.K=K->X.calm=true->∀ (i:Nat) (pins:List (Addr×Obj)) (s:Shared) (σ:St) (H:Hp) (E:Value->Shared->Prop),Inv X pins σ H s->(∀ b∈fp,Zi1 X pins H b)->tn i s.heap->J.stop i H ->
  wpAny (model P w) X.A (pyNext (.ref it)) (λr s1=>r=none/\Inv X pins σ H s1) E s
 self:∀ (A:Around) (i:Nat) (s:Shared) (Q:Value->Shared->Prop) (E:Value->Shared->Prop),tn i s.heap->Q (.ref it) s->wpAny (model P w) A (pyIter (.ref it)) Q E s
abbrev TI:=St->Hp->(It->Hp->Prop)->Prop
def PIE (X:Cx) (pins:List (Addr×Obj)) (σ:St) (tg:Expr) (R:It->Hp->Prop) (itv:Value) (s2:Shared):Prop:=
 ∃ (it:Addr) (fp:List Addr) (tn:Nat->Heap->Prop) (J:It) (H':Hp),itv=.ref it/\Inv X pins σ H' s2/\Zmf X.prog X.w X.K tg J fp it tn/\tn 0 s2.heap/\(∀ b∈fp,Zi1 X pins H' b)/\R J H'
def PI (X:Cx) (tg iter:Expr) (wi:TI):Prop:=
 ∀ (pins:List (Addr×Obj)) (s:Shared) (σ:St) (H:Hp) (R:It->Hp->Prop),Inv X pins σ H s->wi σ H R ->
  wpAny (model X.prog X.w) X.A (eval iter X.env) (λv s1=>wpAny (model X.prog X.w) X.A (pyIter v) (PIE X pins σ tg R) X.xe s1) X.xe s
theorem Zmg {M:Model} {A:Around} {E:Value->Shared->Prop} {s:Shared} {tg:Expr} {it:Addr} {u:Value} {o:Obj} {n:String} {vs:Array Value} {Q:Unit->Shared->Prop} (ho:s.heap.get? it=some o) (hc:o.cls=.type n) (hd:o.data=.fields vs)
  (hn:["enumerate", "zip", "dict_itemiterator", "dict_reverseitemiterator", "odict_iterator", "itertools.zip_longest", "itertools.pairwise"].contains n=false) (hQ:Q () s):wpAny M A (letOwnedTupleGo tg (.ref it) u) Q E s:=by
 unfold letOwnedTupleGo
 cases tg <;> first
  | exact wpAny_pure hQ
  | (cases u <;> first
    | exact wpAny_pure hQ
    | (refine wpAny_bind (wpAny_load ho ?_)
       rw [hc,hd]
       show wpAny M A (if (["enumerate", "zip", "dict_itemiterator", "dict_reverseitemiterator", "odict_iterator", "itertools.zip_longest", "itertools.pairwise"].contains n && vs[0]? == some (rawInt _))=true then _ else _) Q E s
       rw [if_neg (by intro h;rw [hn,Bool.false_and] at h;cases h)]
       exact wpAny_pure hQ))
def Itl (K:PySem.W.Frag) (a:Addr):It:=
 ⟨λi H=>∃ xs x,SqL K H a xs/\xs[i]?=some x,λi H x H'=>H'=H/\∀ xs,SqL K H a xs->xs[i]?=some x,λi H=>∃ xs,SqL K H a xs/\xs.length<=i⟩
def Itt (K:PySem.W.Frag) (a:Addr):It:=
 ⟨λi H=>∃ xs x,SqT K H a xs/\xs[i]?=some x,λi H x H'=>H'=H/\∀ xs,SqT K H a xs->xs[i]?=some x,λi H=>∃ xs,SqT K H a xs/\xs.length<=i⟩
def Itr (lo:Int) (n:Nat):It:=⟨λi _=>i<n,λi H x H'=>H'=H/\x=.int (lo+i),λi _=>n<=i⟩
theorem Zhv {P:Program} {w:World} {K:PySem.W.Frag} {tg:Expr} (a it:Addr):Zmf P w K tg (Itl K a) [it] it (λi h=>h.IsListIter it a i) where
 mem:=by simp
 obj:=λi h st b hb=>by
  have e:b=it:=by simpa using hb
  subst e
  obtain ⟨o,e,c,d⟩:=st
  exact ⟨o,e,λv z=>by rw [d] at z;cases z⟩
 keep:=λi h h' st k=>st.at λo e=>k it (by simp) o e
 item:=by
  intro X hP hw hK hc i pins s σ H E I hf st hg
  subst hP hw hK
  obtain ⟨xs,x,hq,hx⟩:=hg
  obtain ⟨its,rv,p,hz⟩:=I.list hq
  obtain ⟨u,hu,ru⟩:=rv.get hx
  obtain ⟨f0,f1,f2,f3,f4,f5⟩:=hf it (by simp)
  refine wpAny_pyNext_list_item st p.isList (x:=u) (by simpa using hu) λh' st' sb=>?_
  have I1:Inv X pins σ H { s with heap:=h' }:=I.turned (t':=s.toks) (λb o hb e=>(sb.2 b hb).trans e) f0 f1 f3 f4 f5
  obtain ⟨o,e,c,d⟩:=id st'
  exact ⟨u,rfl,Zmg (s:={ s with heap:=h' }) e c d (by decide) ⟨x,H,I1,ru,⟨rfl,λys hy=>by rw [I.list_inj hy hq];exact hx⟩,st',λb hb=>(hf b hb).1⟩⟩
 done:=by
  intro X hP hw hK hc i pins s σ H E I hf st hg
  subst hP hw hK
  obtain ⟨xs,hq,hx⟩:=hg
  obtain ⟨its,rv,p,hz⟩:=I.list hq
  obtain ⟨f0,f1,f2,f3,f4,f5⟩:=hf it (by simp)
  have hl:=rv.length
  exact wpAny_pyNext_list_end (I.ok.hd hc) st p.isList (by simp;omega) λh' eb=>⟨rfl,I.turned (t':=s.toks) (λb o hb e=>eb b o hb e) f0 f1 f3 f4 f5⟩
 self:=λ_ _ _ _ _ st h=>wpAny_pyIter_listiter st h
theorem ZgN {P:Program} {w:World} {K:PySem.W.Frag} {tg:Expr} (it:Addr) (lo:Int) (n:Nat):Zmf P w K tg (Itr lo n) [it] it (λi h=>IsRangeIter h it (lo+(i:Nat) * 1) ((n:Int)-(i:Nat)) 1) where
 mem:=by simp
 obj:=λi h st b hb=>by
  have e:b=it:=by simpa using hb
  subst e
  exact ⟨_,st,λv z=>by
   have z':Data.fields _=Data.cell v:=z
   cases z'⟩
 keep:=λi h h' st k=>k it (by simp) _ st
 item:=by
  intro X hP hw hK hc i pins s σ H E I hf st hg
  subst hP hw hK
  obtain ⟨f0,f1,f2,f3,f4,f5⟩:=hf it (by simp)
  have W:=Walks.range (prog:=X.prog) (w:=X.w) (I.ok.hd hc) it lo 1 n
  refine W.item i s _ _ hg st λv h' tk hv st' kk=>?_
  obtain ⟨t,rfl⟩:=hv
  have I1:Inv X pins σ H { s with heap:=h',toks:=tk }:=I.turned (λb o hb e=>kk b o (by simpa using hb) e) f0 f1 f3 f4 f5
  refine ⟨_,rfl,Zmg (s:={ s with heap:=h',toks:=tk }) (n := "range_iterator") st' rfl rfl (by decide) ⟨.int (lo+i),H,I1,⟨t,?_⟩,⟨rfl,rfl⟩,st',λb hb=>(hf b hb).1⟩⟩
  rw [Int.mul_one]
 done:=by
  intro X hP hw hK hc i pins s σ H E I hf st hg
  subst hP hw hK
  obtain ⟨f0,f1,f2,f3,f4,f5⟩:=hf it (by simp)
  exact wpAny_pyNext_range_end (I.ok.hd hc) st (by have:n<=i:=hg;omega) λh' eb=>⟨rfl,I.turned (t':=s.toks) (λb o hb e=>eb b o hb e) f0 f1 f3 f4 f5⟩
 self:=λ_ _ _ _ _ st h=>wpAny_pyIter_rangeiter st h
end L2
namespace L2
open PySem PySem.Spec PyProof.Rows
section
variable {X:Cx} {tg:Expr}
def Zmh (K:PySem.W.Frag) (tl:TE):TI:=λσ H R=>tl σ H λx H1=>∃ a,x=.ref a/\(∃ xs,SqL K H1 a xs)/\R (Itl K a) H1
def Zqb (K:PySem.W.Frag) (tl:TE):TI:=λσ H R=>tl σ H λx H1=>∃ a,x=.ref a/\(∃ xs,SqT K H1 a xs)/\R (Itt K a) H1
theorem ZkO {l:Expr} {tl:TE} (hl:PE X l tl):PI X tg l (Zmh X.K tl):=by
 intro pins s σ H R I h
 refine thn (hl pins s σ H _ I h) λv s1 ⟨x,H1,I1,r1,q1⟩=>?_
 obtain ⟨a,e,⟨xs,hq⟩,q⟩:=q1
 subst e
 cases r1
 obtain ⟨its,rv,p,hz⟩:=I1.list hq
 refine wpAny_pyIter_list p.isList ?_
 refine ⟨s1.heap.objs.size,[s1.heap.objs.size],_,_,H1,rfl,I1.kept (t':=s1.toks) λb o e=>Heap.get?_push_of_some _ e,Zhv a _,⟨_,Heap.get?_push_size _ rfl,rfl,rfl⟩,λb hb=>?_,q⟩
 have e:b=s1.heap.objs.size:=by simpa using hb
 subst e
 exact I1.fpOk (Nat.le_refl _) (I1.hok.fresh (Nat.le_refl _))
theorem Zi7 {pins:List (Addr×Obj)} {σ:St} {H:Hp} {s:Shared} {R:It->Hp->Prop} {E:Value->Shared->Prop} {lo hi:Int} {t u v:Tok} {tk:Nat} (I:Inv X pins σ H s) (h1:-(2 ^ 62)<=lo) (h2:lo<2 ^ 62) (h3:-(2 ^ 62)<=hi) (h4:hi<2 ^ 62)
  (q:R (Itr lo (hi-lo).toNat) H):wpAny (model X.prog X.w) X.A (pyIter (.ref s.heap.objs.size)) (PIE X pins σ tg R) E { s with heap:=s.heap.push { cls:=.type "range", data:=.fields #[.int lo t,.int hi u,.int 1 v] },toks:=tk }:=by
 refine wpAny_pyIter_range (IsRange.new ..) (small_one h1 h2 h3 h4) ?_
 have I1:Inv X pins σ H { s with heap:=s.heap.push { cls:=.type "range", data:=.fields #[.int lo t,.int hi u,.int 1 v] },toks:=tk }:=I.kept λb o e=>Heap.get?_push_of_some _ e
 refine ⟨(s.heap.push { cls:=.type "range", data:=.fields #[.int lo t,.int hi u,.int 1 v] }).objs.size,[(s.heap.push { cls:=.type "range", data:=.fields #[.int lo t,.int hi u,.int 1 v] }).objs.size],_,_,H,rfl,
  I1.kept (t':=tk) λb o e=>Heap.get?_push_of_some _ e,ZgN _ lo (hi-lo).toNat,?_,λb hb=>?_,q⟩
 ·have e1:lo+((0:Nat):Int) * 1=lo:=by simp
  have e2:(((hi-lo).toNat:Nat):Int)-((0:Nat):Int)=Builtin.Range.rangeSize lo hi 1:=by rw [rangeSize_one];split <;> omega
  show IsRangeIter _ _ (lo+((0:Nat):Int) * 1) ((((hi-lo).toNat:Nat):Int)-((0:Nat):Int)) 1
  rw [e1,e2]
  exact Heap.get?_push_size _ rfl
 ·have e:b=(s.heap.push { cls:=.type "range", data:=.fields #[.int lo t,.int hi u,.int 1 v] }).objs.size:=by simpa using hb
  subst e
  exact I1.fpOk (Nat.le_refl _) (I1.hok.fresh (Nat.le_refl _))
def ZnM (ta:TA):TI:=λσ H R=>ta σ H λvs H1=>∃ j:Int,vs=[.int j]/\-(2 ^ 62)<=j/\j<2 ^ 62/\R (Itr 0 j.toNat) H1
def Zpk (ta:TA):TI:=λσ H R=>ta σ H λvs H1=>∃ i j:Int,vs=[.int i,.int j]/\(-(2 ^ 62)<=i/\i<2 ^ 62/\-(2 ^ 62)<=j/\j<2 ^ 62)/\R (Itr i (j-i).toNat) H1
theorem ZaT {a:Expr} {ta:TA} {p pos:Pos} (hg:Gl X "range") (hm:X.mg "range" = none) (ha:PA X [a] ta) (hs:starEach [a] X.env=[(false,eval a X.env)]:=by rfl):PI X tg (.Call (.Name "range" p) [a] [] pos) (ZnM ta):=by
 intro pins s σ H R I h
 refine Call_ (Zdf I hg hm boot_range (PyProof.Rows.callWith_type1 (thn (ha pos pins s σ H _ I h) λus s1 ⟨vs,H1,I1,r1,q1⟩=>?_) hs rfl))
 obtain ⟨j,e,q1,q2,q⟩:=q1
 subst e
 cases r1 with
 | cons r rr=>
  cases rr
  obtain ⟨t,rfl⟩:=r
  exact call_range_1 (Zi7 I1 (by omega) (by omega) q1 q2 (by simpa using q))
def Zpl (wi:TI) (g:TG) (tb:TS):TS:=λD σ H=>wi σ H λJ H1=>∃ W:Nat->Nat->St->Hp->Prop,(∃ m,W 0 m σ H1)/\∀ i m σ H,W i m σ H ->
 (J.stop i H/\D.nx σ H)\/(J.go i H/\∃ N:St->Hp->Prop,(∀ σ' H',N σ' H'->∃ m',m'<m/\W (i+1) m' σ' H')/\∀ x H',J.yld i H x H'->g x σ H' λσ2 H2=>tb { D with nx:=N,ct:=N,bk:=D.nx } σ2 H2)
def ZeD (fp:List Addr) (h:Heap):List (Addr×Obj):=fp.filterMap λb=>(h.get? b).map λo=>(b,o)
theorem ZbP {fp:List Addr} {h:Heap} {b:Addr} {o:Obj} (hb:b∈fp) (e:h.get? b=some o):(b,o)∈ZeD fp h:=List.mem_filterMap.mpr ⟨b,hb,by rw [e];rfl⟩
theorem Zhw {fp:List Addr} {h:Heap} {p:Addr×Obj} (hp:p∈ZeD fp h):p.1∈fp/\h.get? p.1=some p.2:=by
 obtain ⟨b,hb,e⟩:=List.mem_filterMap.mp hp
 cases q:h.get? b with
 | none=>rw [q] at e;cases e
 | some o=>
  rw [q] at e
  have e':(b,o)=p:=Option.some.inj e
  subst e'
  exact ⟨hb,q⟩
theorem Inv.pinned {pins:List (Addr×Obj)} {σ:St} {H:Hp} {s:Shared} {fp:List Addr} (I:Inv X pins σ H s) (hf:∀ b∈fp,Zi1 X pins H b) (ho:∀ b∈fp,∃ o,s.heap.get? b=some o/\∀ v,o.data≠.cell v):Inv X (pins++ZeD fp s.heap) σ H s:=
 I.pins_of λp hp=>(List.mem_append.mp hp).elim (λz=>I.pin p (List.mem_append_right _ z)) λz=>by
  obtain ⟨hb,e⟩:=Zhw z
  obtain ⟨f0,f1,f2,_⟩:=hf p.1 hb
  obtain ⟨o,e',d⟩:=ho p.1 hb
  rw [e] at e';cases e'
  exact ⟨e,f0,f1,f2,d⟩
theorem Inv.unpinned {pins pl:List (Addr×Obj)} {σ:St} {H:Hp} {s:Shared} (I:Inv X (pins++pl) σ H s):Inv X pins σ H s:=I.pins_of λp hp=>I.pin p (List.mem_append_right _ (List.mem_append_left _ hp))
theorem Zci {iter:Expr} {body:List Stmt} {wi:TI} {g:TG} {tb:TS} {pos:Pos} (hp:PassesOwn (model X.prog X.w) X.A X.env X.xe) (hc:X.calm=true) (hi:PI X tg iter wi) (hg:PG X tg g) (hb:PSs X body tb)
  (hs:∀ x,foldedSetIterable iter X.env x=pure x:=by intro _;rfl):PS X (.For tg iter body [] pos) (Zpl wi g tb):=by
 intro pins s σ H D I h
 refine wpAny_For (thn (hi pins s σ H _ I h) λv s1 h1=>thn h1 λitv s2 h2=>?_) hs
 obtain ⟨it,fp,tn,J,H2,e,I2,T,st2,f2,W,⟨m0,w0⟩,turn⟩:=h2
 subst e
 have stat:∀ {H':Hp},(∀ b∈fp,H' b=none)->∀ b∈fp,Zi1 X pins H' b:=λhn b hb=>⟨hn b hb,(f2 b hb).2⟩
 refine codeAny_forLoop_any (λn s'=>∃ i σ' H',Inv X pins σ' H' s'/\tn i s'.heap/\(∀ b∈fp,H' b=none)/\W i n σ' H') ?_ m0 ⟨0,σ,H2,I2,st2,λb hb=>(f2 b hb).1,w0⟩
 rintro n s3 ⟨i,σ3,H3,I3,st3,fr3,w3⟩
 rcases turn i n σ3 H3 w3 with ⟨stop,qn⟩ | ⟨go,N,hN,step⟩
 ·refine wpAny_passesOwn hp (thn (T.done X rfl rfl rfl hc i pins s3 σ3 H3 X.xe I3 (stat fr3) st3 stop) λr s4 ⟨hr,I4⟩=>?_)
  subst hr
  exact wpAny_execs_nil ⟨σ3,H3,I4,qn⟩
 ·refine wpAny_passesOwn hp (thn (T.item X rfl rfl rfl hc i pins s3 σ3 H3 X.xe I3 (stat fr3) st3 go) λr s4 ⟨u,hr,h4⟩=>?_)
  subst hr
  refine wpAny_passesOwn hp (thn h4 λ_ s5 ⟨x,H5,I5,r5,y5,st5,fr5⟩=>?_)
  have I5':=I5.pinned (stat fr5) (T.obj _ _ st5)
  refine wpAny_passesOwn hp (thn (hg _ s5 σ3 H5 x u _ I5' r5 (step x H5 y5)) λ_ s6 ⟨σ6,H6,I6,q6⟩=>?_)
  refine wpAny_passesOwn hp (thn (hb _ s6 σ6 H6 _ I6 q6) λf s7 q7=>?_)
  have again:∀ {σ7:St} {H7:Hp},Inv X (pins++ZeD fp s5.heap) σ7 H7 s7->N σ7 H7->∃ m,m<n/\∃ i σ' H',Inv X pins σ' H' s7/\tn i s7.heap/\(∀ b∈fp,H' b=none)/\W i m σ' H':=λ{σ7 H7} I7 n7=>by
   obtain ⟨m',hm,w7⟩:=hN σ7 H7 n7
   refine ⟨m',hm,i+1,σ7,H7,I7.unpinned,T.keep _ _ _ st5 λb hb o e=>(I7.pin (b,o) (List.mem_append_right _ (List.mem_append_right _ (ZbP hb e)))).1,λb hb=>?_,w7⟩
   obtain ⟨o,e,d⟩:=T.obj _ _ st5 b hb
   exact (I7.pin (b,o) (List.mem_append_right _ (List.mem_append_right _ (ZbP hb e)))).2.1
  cases f with
  | next=>obtain ⟨σ7,H7,I7,n7⟩:=q7;exact again I7 n7
  | cont=>obtain ⟨σ7,H7,I7,n7⟩:=q7;exact again I7 n7
  | brk=>obtain ⟨σ7,H7,I7,q7⟩:=q7;exact ⟨σ7,H7,I7.unpinned,q7⟩
  | ret v=>obtain ⟨x7,σ7,H7,I7,r7,q7⟩:=q7;exact ⟨x7,σ7,H7,I7.unpinned,r7,q7⟩
end
theorem Zd3 {K:PySem.W.Frag} {a:Addr} {xs:List V} {g:TG} {tb:TS} {D:Ends} {σ:St} {H:Hp} (Pv:Nat->St->Hp->Prop) (h0:Pv 0 σ H) (hl:∀ i σ H,i<=xs.length->Pv i σ H->SqL K H a xs)
  (hs:∀ i x σ H,xs[i]?=some x->Pv i σ H->g x σ H λσ2 H2=>tb { D with nx:=Pv (i+1),ct:=Pv (i+1),bk:=D.nx } σ2 H2) (hd:∀ σ H,Pv xs.length σ H->D.nx σ H) :
  ∃ W:Nat->Nat->St->Hp->Prop,(∃ m,W 0 m σ H)/\∀ i m σ H,W i m σ H ->
   ((Itl K a).stop i H/\D.nx σ H)\/((Itl K a).go i H/\∃ N:St->Hp->Prop,(∀ σ' H',N σ' H'->∃ m',m'<m/\W (i+1) m' σ' H')/\∀ x H',(Itl K a).yld i H x H'->g x σ H' λσ2 H2=>tb { D with nx:=N,ct:=N,bk:=D.nx } σ2 H2):=by
 refine ⟨λi m σ H=>m=xs.length-i/\i<=xs.length/\Pv i σ H,⟨xs.length,by simp,Nat.zero_le _,h0⟩,?_⟩
 rintro i m σ H ⟨rfl,hi,p⟩
 have q:=hl i σ H hi p
 by_cases hlt:i<xs.length
 ·refine .inr ⟨⟨xs,xs[i],q,by simp [hlt]⟩,Pv (i+1),λσ' H' p'=>⟨xs.length-(i+1),by omega,rfl,hlt,p'⟩,λx H' y=>?_⟩
  obtain ⟨e,y⟩:=y
  subst e
  exact hs i x σ _ (y xs q) p
 ·have e:i=xs.length:=by omega
  subst e
  exact .inl ⟨⟨xs,q,Nat.le_refl _⟩,hd σ H p⟩
theorem Zcj {lo:Int} {n:Nat} {g:TG} {tb:TS} {D:Ends} {σ:St} {H:Hp} (Pv:Nat->St->Hp->Prop) (h0:Pv 0 σ H)
  (hs:∀ i σ H,i<n->Pv i σ H->g (.int (lo+i)) σ H λσ2 H2=>tb { D with nx:=Pv (i+1),ct:=Pv (i+1),bk:=D.nx } σ2 H2) (hd:∀ σ H,Pv n σ H->D.nx σ H) :
  ∃ W:Nat->Nat->St->Hp->Prop,(∃ m,W 0 m σ H)/\∀ i m σ H,W i m σ H ->
   ((Itr lo n).stop i H/\D.nx σ H)\/((Itr lo n).go i H/\∃ N:St->Hp->Prop,(∀ σ' H',N σ' H'->∃ m',m'<m/\W (i+1) m' σ' H')/\∀ x H',(Itr lo n).yld i H x H'->g x σ H' λσ2 H2=>tb { D with nx:=N,ct:=N,bk:=D.nx } σ2 H2):=by
 refine ⟨λi m σ H=>m=n-i/\i<=n/\Pv i σ H,⟨n,by simp,Nat.zero_le _,h0⟩,?_⟩
 rintro i m σ H ⟨rfl,hi,p⟩
 by_cases hlt:i<n
 ·refine .inr ⟨hlt,Pv (i+1),λσ' H' p'=>⟨n-(i+1),by omega,rfl,hlt,p'⟩,λx H' y=>?_⟩
  obtain ⟨e,y⟩:=y
  subst e y
  exact hs i σ _ hlt p
 ·have e:i=n:=by omega
  subst e
  exact .inl ⟨Nat.le_refl _,hd σ H p⟩
end L2
namespace L2
open PySem PySem.Spec PyProof.Rows
abbrev R2:=V->V->Hp->VK->Prop
def OpR (X:Cx) (f:Value->Value->Sem Value) (r:R2):Prop:=
 ∀ (pins:List (Addr×Obj)) (s:Shared) (σ:St) (H:Hp) (x y:V) (v u:Value) (Q:VK),Inv X pins σ H s->RelV x v->RelV y u->r x y H Q ->
  wpAny (model X.prog X.w) X.A (f v u) (EP X pins σ Q) X.xe s
def UnR (X:Cx) (f:Value->Sem Value) (r:V->Hp->VK->Prop):Prop:=
 ∀ (pins:List (Addr×Obj)) (s:Shared) (σ:St) (H:Hp) (x:V) (v:Value) (Q:VK),Inv X pins σ H s->RelV x v->r x H Q ->
  wpAny (model X.prog X.w) X.A (f v) (EP X pins σ Q) X.xe s
def ZbC (X:Cx) (f:Value) (r:List V->Hp->VK->Prop):Prop:=
 ∀ (pins:List (Addr×Obj)) (s:Shared) (σ:St) (H:Hp) (xs:List V) (us:List Value) (Q:VK),Inv X pins σ H s->Vals xs us->r xs H Q ->
  wpAny (model X.prog X.w) X.A (call f us) (EP X pins σ Q) X.xe s
def Zpm (X:Cx) (r:V->Hp->(Bool->Hp->Prop)->Prop):Prop:=
 ∀ (pins:List (Addr×Obj)) (s:Shared) (σ:St) (H:Hp) (x:V) (v:Value) (Q:Bool->Hp->Prop),Inv X pins σ H s->RelV x v->r x H Q ->
  wpAny (model X.prog X.w) X.A (truthy v) (TP X pins σ Q) X.xe s
def tOp (r:R2) (ta tb:TE):TE:=λσ H Q=>ta σ H λx H1=>tb σ H1 λy H2=>r x y H2 Q
def tUn (r:V->Hp->VK->Prop) (ta:TE):TE:=λσ H Q=>ta σ H λx H1=>r x H1 Q
def rI (C:Int->Int->Prop) (g:Int->Int->V):R2:=λx y H Q=>∃ i j,x=.int i/\y=.int j/\C i j/\Q (g i j) H
def rI0 (g:Int->Int->V):R2:=λx y H Q=>∃ i j,x=.int i/\y=.int j/\Q (g i j) H
def rU (g:Int->V):V->Hp->VK->Prop:=λx H Q=>∃ i,x=.int i/\Q (g i) H
section
variable {X:Cx} {a b c:Expr} {ta tb tc:TE} {pos:Pos}
theorem ZnN (ha:PE X a ta) (hb:PE X b tb) {pins:List (Addr×Obj)} {s:Shared} {σ:St} {H:Hp} {R:V->V->Hp->Prop} (I:Inv X pins σ H s)
  (h:ta σ H λx H1=>tb σ H1 λy H2=>R x y H2) {Q:Value->Shared->Prop} {f:Value->Value->Sem Value}
  (hf:∀ v u s2 x y H2,Inv X pins σ H2 s2->RelV x v->RelV y u->R x y H2->wpAny (model X.prog X.w) X.A (f v u) Q X.xe s2) :
  wpAny (model X.prog X.w) X.A (eval a X.env) (λv s₁=>wpAny (model X.prog X.w) X.A (eval b X.env) (λu s₂=>wpAny (model X.prog X.w) X.A (f v u) Q X.xe s₂) X.xe s₁) X.xe s:=by
 refine thn (ha pins s σ H _ I h) λv s1 ⟨x,H1,I1,r1,q1⟩=>?_
 refine thn (hb pins s1 σ H1 _ I1 q1) λu s2 ⟨y,H2,I2,r2,q2⟩=>?_
 exact hf v u s2 x y H2 I2 r1 r2 q2
theorem Zaz {op:Operator} {r:R2} (ho:OpR X (binaryOp op) r) (ha:PE X a ta) (hb:PE X b tb):PE X (.BinOp a op b pos) (tOp r ta tb):=by
 intro pins s σ H Q I h
 exact wpAny_BinOp (ZnN ha hb I h λv u s2 x y H2 I2 rx ry q=>ho pins s2 σ H2 x y v u Q I2 rx ry q)
theorem ZkP {op:UnaryOp} {r:V->Hp->VK->Prop} (ho:UnR X (unaryOp op) r) (ha:PE X a ta):PE X (.UnaryOp op a pos) (tUn r ta):=by
 intro pins s σ H Q I h
 exact UnaryOp_ (thn (ha pins s σ H _ I h) λv s1 ⟨x,H1,I1,r1,q1⟩=>ho pins s1 σ H1 x v Q I1 r1 q1)
theorem opI {f:Value->Value->Sem Value} {C:Int->Int->Prop} {g:Int->Int->Int}
  (rule:∀ (i j:Int) (t u:Tok) (s:Shared) (Q:Value->Shared->Prop) (E:Value->Shared->Prop),C i j->Q (.int (g i j) s.toks) { s with toks:=s.toks+1 }->wpAny (model X.prog X.w) X.A (f (.int i t) (.int j u)) Q E s) :
  OpR X f (rI C λi j=>.int (g i j)):=by
 intro pins s σ H x y v u Q I rx ry h
 obtain ⟨i,j,rfl,rfl,hc,q⟩:=h
 obtain ⟨t,rfl⟩:=rx
 obtain ⟨t',rfl⟩:=ry
 exact rule i j t t' s _ _ hc ⟨.int (g i j),H,I.tok _,⟨_,rfl⟩,q⟩
theorem ZnO {f:Value->Value->Sem Value} {g:Int->Int->Int}
  (rule:∀ (i j:Int) (t u:Tok) (s:Shared) (Q:Value->Shared->Prop) (E:Value->Shared->Prop),Q (.int (g i j) s.toks) { s with toks:=s.toks+1 }->wpAny (model X.prog X.w) X.A (f (.int i t) (.int j u)) Q E s) :
  OpR X f (rI0 λi j=>.int (g i j)):=by
 intro pins s σ H x y v u Q I rx ry h
 obtain ⟨i,j,rfl,rfl,q⟩:=h
 obtain ⟨t,rfl⟩:=rx
 obtain ⟨t',rfl⟩:=ry
 exact rule i j t t' s _ _ ⟨.int (g i j),H,I.tok _,⟨_,rfl⟩,q⟩
theorem ZnA {f:Value->Value->Sem Value} {g:Int->Int->Bool}
  (rule:∀ (i j:Int) (t u:Tok) (s:Shared) (Q:Value->Shared->Prop) (E:Value->Shared->Prop),Q (.bool (g i j)) s->wpAny (model X.prog X.w) X.A (f (.int i t) (.int j u)) Q E s) :
  OpR X f (rI0 λi j=>.bl (g i j)):=by
 intro pins s σ H x y v u Q I rx ry h
 obtain ⟨i,j,rfl,rfl,q⟩:=h
 obtain ⟨t,rfl⟩:=rx
 obtain ⟨t',rfl⟩:=ry
 exact rule i j t t' s _ _ ⟨.bl (g i j),H,I,rfl,q⟩
def Zqc (i j:Int):Prop:=0<j/\j<1073741824
def Zpn (i j:Int):Prop:=j≠0/\j.natAbs<1073741824
def ZoC (i j:Int):Prop:=0<=j/\j<=1000000/\i.natAbs<2 ^ 64
def CMul (i j:Int):Prop:=(-(2 ^ 64)<i/\i<2 ^ 64)\/(-(2 ^ 64)<j/\j<2 ^ 64)
theorem CMul.ok {i j:Int} (h:CMul i j):IntMulOk i j:=by
 rcases h with ⟨h1,h2⟩ | ⟨h1,h2⟩
 ·exact .of_left (intBits_le_64 h1 h2)
 ·exact .of_right (intBits_le_64 h1 h2)
theorem ZgO (k:Nat):(0:Int)<=2 ^ k:=by
 rw [two_pow_cast]
 exact Int.natCast_nonneg _
theorem ZaW:OpR X (binaryOp .Add) (rI0 λi j=>.int (i+j)):=ZnO λ_ _ _ _ _ _ _ q=>add_int q
theorem Zhx:OpR X (binaryOp .Sub) (rI0 λi j=>.int (i-j)):=ZnO λ_ _ _ _ _ _ _ q=>sub_int q
theorem Zhy:OpR X (binaryOp .Mult) (rI CMul λi j=>.int (i * j)):=opI λ_ _ _ _ _ _ _ hc q=>mul_int q hc.ok
theorem ZdL:OpR X (binaryOp .Mod) (rI (λ_ j=>0<j) λi j=>.int (i % j)):=opI λi j _ _ _ _ _ hc q=>by
 have h1:(0:Int)<j:=hc
 exact mod_int' (by omega) (by rw [Int.fmod_eq_emod_of_nonneg i (by omega)];exact q)
theorem ZcV:OpR X (binaryOp .Pow) (rI ZoC λi j=>.int (i ^ j.toNat)):=opI λ_ _ _ _ _ _ _ hc q=>pow_int_small hc.1 hc.2.1 hc.2.2 q
theorem Zmi:OpR X (binaryOp .LShift) (rI ZoC λi j=>.int (i * 2 ^ j.toNat)):=opI λ_ _ _ _ _ _ _ hc q=>lshift_int_small hc.1 hc.2.1 hc.2.2 q
theorem Zmj:OpR X (binaryOp .RShift) (rI (λ_ j=>0<=j) λi j=>.int (i / 2 ^ j.toNat)):=opI λi j _ _ _ _ _ hc q=>
 rshift_int hc (by rw [Int.fdiv_eq_ediv_of_nonneg i (ZgO _)];exact q)
theorem Zmk:OpR X (binaryOp .BitAnd) (rI0 λi j=>.int (Builtin.bitAnd i j)):=ZnO λ_ _ _ _ _ _ _ q=>and_int q
end
def ZoD:V->V->Bool
 | .non,.non=>true | .non,.int _=>true | .int _,.non=>true | .non,.bl _=>true | .bl _,.non=>true | .non,.str _=>true | .str _,.non=>true
 | .int _,.int _=>true | .bl _,.bl _=>true | .str _,.str _=>true | .byt _,.byt _=>true
 | .int _,.str _=>true | .str _,.int _=>true | .bl _,.str _=>true | .str _,.bl _=>true
 | _,_=>false
def rEq:R2:=λx y H Q=>ZoD x y=true/\Q (.bl (decide (x=y))) H
def rNe:R2:=λx y H Q=>ZoD x y=true/\Q (.bl (!decide (x=y))) H
theorem Zhz {i j:Int}:decide (V.int i=V.int j)=(i == j):=by
 rw [Bool.eq_iff_iff]
 simp
theorem Zke {i j:Bool}:decide (V.bl i=V.bl j)=(i == j):=by
 rw [Bool.eq_iff_iff]
 simp
theorem ZhA {i j:Str}:decide (V.str i=V.str j)=(i == j):=by
 rw [Bool.eq_iff_iff]
 simp
theorem ZhB {i j:Array UInt8}:decide (V.byt i=V.byt j)=(i.toList == j.toList):=by
 rw [Bool.eq_iff_iff]
 cases i
 cases j
 simp
section
variable {X:Cx} {a b c:Expr} {ta tb tc:TE} {pos:Pos}
theorem ZaE {pins:List (Addr×Obj)} {σ:St} {H:Hp} {s:Shared} {Q:VK} {k k':Bool} (I:Inv X pins σ H s) (q:Q (.bl k) H) (e:k=k'):EP X pins σ Q (.bool k') s:=by
 subst e
 exact ⟨.bl k,H,I,rfl,q⟩
theorem ZdH:OpR X (compareOp .Eq) rEq:=by
 intro pins s σ H x y v u Q I rx ry h
 obtain ⟨hs,q⟩:=h
 cases x with
 | non=>
  cases rx
  cases y with
  | non=>cases ry;exact PySem.EqNone.eq_none_none (ZaE I q (by simp))
  | bl j=>cases ry;exact PySem.EqNone.eq_none_bool (ZaE I q (by simp))
  | int j=>obtain ⟨t',rfl⟩:=ry;exact PySem.EqNone.eq_none_int (ZaE I q (by simp))
  | str j=>obtain ⟨t',rfl⟩:=ry;exact PySem.EqNone.eq_none_str (ZaE I q (by simp))
  | _=>exact absurd (show false=true from hs) Bool.false_ne_true
 | bl i=>
  cases rx
  cases y with
  | non=>cases ry;exact PySem.EqNone.eq_bool_none (ZaE I q (by simp))
  | bl j=>cases ry;exact eq_bool (ZaE I q Zke)
  | str j=>obtain ⟨t',rfl⟩:=ry;exact PySem.EqMixed.eq_bool_str (ZaE I q (by simp))
  | _=>exact absurd (show false=true from hs) Bool.false_ne_true
 | int i=>
  obtain ⟨t,rfl⟩:=rx
  cases y with
  | non=>cases ry;exact PySem.EqNone.eq_int_none (ZaE I q (by simp))
  | int j=>obtain ⟨t',rfl⟩:=ry;exact eq_int (ZaE I q Zhz)
  | str j=>obtain ⟨t',rfl⟩:=ry;exact PySem.EqMixed.eq_int_str (ZaE I q (by simp))
  | _=>exact absurd (show false=true from hs) Bool.false_ne_true
 | str i=>
  obtain ⟨t,rfl⟩:=rx
  cases y with
  | non=>cases ry;exact PySem.EqNone.eq_str_none (ZaE I q (by simp))
  | bl j=>cases ry;exact PySem.EqMixed.eq_str_bool (ZaE I q (by simp))
  | int j=>obtain ⟨t',rfl⟩:=ry;exact PySem.EqMixed.eq_str_int (ZaE I q (by simp))
  | str j=>obtain ⟨t',rfl⟩:=ry;exact eq_str (ZaE I q ZhA)
  | _=>exact absurd (show false=true from hs) Bool.false_ne_true
 | byt i=>
  obtain ⟨t,rfl⟩:=rx
  cases y with
  | byt j=>obtain ⟨t',rfl⟩:=ry;exact PySem.W.eq_bytes (ZaE I q ZhB)
  | _=>exact absurd (show false=true from hs) Bool.false_ne_true
 | _=>cases y <;> exact absurd (show false=true from hs) Bool.false_ne_true
theorem ZhC:OpR X (compareOp .NotEq) rNe:=by
 intro pins s σ H x y v u Q I rx ry h
 obtain ⟨hs,q⟩:=h
 cases x with
 | non=>
  cases rx
  cases y with
  | non=>cases ry;exact PySem.EqNone.ne_none_none (ZaE I q (by simp))
  | bl j=>cases ry;exact PySem.EqNone.ne_none_bool (ZaE I q (by simp))
  | int j=>obtain ⟨t',rfl⟩:=ry;exact PySem.EqNone.ne_none_int (ZaE I q (by simp))
  | str j=>obtain ⟨t',rfl⟩:=ry;exact PySem.EqNone.ne_none_str (ZaE I q (by simp))
  | _=>exact absurd (show false=true from hs) Bool.false_ne_true
 | bl i=>
  cases rx
  cases y with
  | non=>cases ry;exact PySem.EqNone.ne_bool_none (ZaE I q (by simp))
  | bl j=>cases ry;exact ne_bool (ZaE I q (congrArg not Zke))
  | str j=>obtain ⟨t',rfl⟩:=ry;exact PySem.EqMixed.ne_bool_str (ZaE I q (by simp))
  | _=>exact absurd (show false=true from hs) Bool.false_ne_true
 | int i=>
  obtain ⟨t,rfl⟩:=rx
  cases y with
  | non=>cases ry;exact PySem.EqNone.ne_int_none (ZaE I q (by simp))
  | int j=>obtain ⟨t',rfl⟩:=ry;exact ne_int (ZaE I q (congrArg not Zhz))
  | str j=>obtain ⟨t',rfl⟩:=ry;exact PySem.EqMixed.ne_int_str (ZaE I q (by simp))
  | _=>exact absurd (show false=true from hs) Bool.false_ne_true
 | str i=>
  obtain ⟨t,rfl⟩:=rx
  cases y with
  | non=>cases ry;exact PySem.EqNone.ne_str_none (ZaE I q (by simp))
  | bl j=>cases ry;exact PySem.EqMixed.ne_str_bool (ZaE I q (by simp))
  | int j=>obtain ⟨t',rfl⟩:=ry;exact PySem.EqMixed.ne_str_int (ZaE I q (by simp))
  | str j=>obtain ⟨t',rfl⟩:=ry;exact ne_str (ZaE I q (congrArg not ZhA))
  | _=>exact absurd (show false=true from hs) Bool.false_ne_true
 | byt i=>
  obtain ⟨t,rfl⟩:=rx
  cases y with
  | byt j=>obtain ⟨t',rfl⟩:=ry;exact PySem.W.ne_bytes (ZaE I q (congrArg not ZhB))
  | _=>exact absurd (show false=true from hs) Bool.false_ne_true
 | _=>cases y <;> exact absurd (show false=true from hs) Bool.false_ne_true
theorem Zi8:OpR X (compareOp .Lt) (rI0 λi j=>.bl (decide (i<j))):=ZnA λ_ _ _ _ _ _ _ q=>lt_int q
theorem Zml:OpR X (compareOp .LtE) (rI0 λi j=>.bl (decide (i<=j))):=ZnA λ_ _ _ _ _ _ _ q=>le_int q
theorem ZnP:OpR X (compareOp .Gt) (rI0 λi j=>.bl (decide (j<i))):=ZnA λ_ _ _ _ _ _ _ q=>gt_int q
theorem ZnQ:OpR X (compareOp .GtE) (rI0 λi j=>.bl (decide (j<=i))):=ZnA λ_ _ _ _ _ _ _ q=>ge_int q
theorem ZhD:OpR X (compareOp .Is) (λx y H Q=>y=.non/\Q (.bl (decide (x=.non))) H):=by
 intro pins s σ H x y v u Q I rx ry h
 obtain ⟨rfl,q⟩:=h
 cases ry
 refine is_none_gen (ZaE I q ?_)
 cases x <;> first
  | (cases rx;rfl)
  | (obtain ⟨t,rfl⟩:=rx;rfl)
theorem ZhE:OpR X (compareOp .IsNot) (λx y H Q=>y=.non/\Q (.bl (!decide (x=.non))) H):=by
 intro pins s σ H x y v u Q I rx ry h
 obtain ⟨rfl,q⟩:=h
 cases ry
 refine isnot_none_gen (ZaE I q ?_)
 cases x <;> first
  | (cases rx;rfl)
  | (obtain ⟨t,rfl⟩:=rx;rfl)
def Zpo:HO->Bool
 | .lst _=>true
 | .ins _ _ _=>true
 | _=>false
theorem ZaB (b:Expr) {op:CmpOp} (h:op≠.In:=by decide) (h2:op≠.NotIn:=by decide):behindInMarks op b=false:=by
 have e1:(op == CmpOp.In)=false:=by cases op <;> first | rfl | exact absurd rfl h
 have e2:(op == CmpOp.NotIn)=false:=by cases op <;> first | rfl | exact absurd rfl h2
 cases b <;> simp [behindInMarks,e1,e2]
theorem Zbh {op:CmpOp} {r:R2} (ho:OpR X (compareOp op) r) (ha:PE X a ta) (hb:PE X b tb) (hm:behindInMarks op b=false):PE X (.Compare a [op] [b] pos) (tOp r ta tb):=by
 intro pins s σ H Q I h
 exact wpAny_Compare1 (ZnN ha hb I h λv u s2 x y H2 I2 rx ry q=>ho pins s2 σ H2 x y v u Q I2 rx ry q) hm
def ZnR (t:TE):TT:=λσ H Q=>t σ H λx H'=>∃ k,x=.bl k/\Q k H'
theorem Zar {op:CmpOp} {r:R2} (ho:OpR X (compareOp op) r) (ha:PE X a ta) (hb:PE X b tb) (hm:behindInMarks op b=false):PT X (.Compare a [op] [b] pos) (ZnR (tOp r ta tb)):=by
 intro pins s σ H Q I h
 refine wpAny_isTrue_Compare1 (thn (ha pins s σ H _ I h) λv s1 ⟨x,H1,I1,r1,q1⟩=>thn (hb pins s1 σ H1 _ I1 q1) λu s2 ⟨y,H2,I2,r2,q2⟩=>
  thn (ho pins s2 σ H2 x y v u _ I2 r1 r2 q2) λc s3 ⟨z,H3,I3,r3,k,e,q3⟩=>?_) hm
 subst e
 cases r3
 exact wpAny_truthy_bool ⟨H3,I3,q3⟩
def Zmm (r r':R2) (ta tb tc:TE):TE:=λσ H Q=>ta σ H λx H1=>tb σ H1 λy H2=>r x y H2 λz H3=>∃ k,z=.bl k /\
 (if k=true then tc σ H3 λw' H4=>r' y w' H4 Q else Q (.bl false) H3)
theorem Zi9 {op op':CmpOp} {r r':R2} (ho:OpR X (compareOp op) r) (ho':OpR X (compareOp op') r') (ha:PE X a ta) (hb:PE X b tb) (hc:PE X c tc)
  (hm:lastMarks [op,op'] [b,c]=false:=by with_unfolding_all rfl):PE X (.Compare a [op,op'] [b,c] pos) (Zmm r r' ta tb tc):=by
 intro pins s σ H Q I h
 refine Compare_chain (thn (ha pins s σ H _ I h) λv s1 ⟨x,H1,I1,r1,q1⟩=>chain_link (thn (hb pins s1 σ H1 _ I1 q1) λu s2 ⟨y,H2,I2,r2,q2⟩=>
  thn (ho pins s2 σ H2 x y v u _ I2 r1 r2 q2) λd s3 ⟨z,H3,I3,r3,k,e,q3⟩=>?_)) hm
 subst e
 cases r3
 refine wpAny_truthy_bool ?_
 cases k with
 | false=>exact ite_ff ⟨.bl false,H3,I3,rfl,q3⟩
 | true=>exact ite_tt (chain_last (thn (hc pins s3 σ H3 _ I3 q3) λw' s4 ⟨z',H4,I4,r4,q4⟩=>ho' pins s4 σ H4 y z' u w' Q I4 r2 r4 q4))
def ZoE (K:PySem.W.Frag) (x:V) (H:Hp) (k:Bool):Prop:=
 match x with
 | .non=>k=false
 | .bl b=>k=b
 | .int i=>k=(i != 0)
 | .str y=>y.length<=sizeLine/\k=((y.length:Int) != 0)
 | .byt y=>y.size<=sizeLine/\k=((y.size:Int) != 0)
 | .ref p=>(∃ xs,SqL K H p xs/\k=!xs.isEmpty)\/(∃ xs,SqT K H p xs/\k=!xs.isEmpty)\/∃ kvs,H p=some (.dK kvs)/\k=!kvs.isEmpty
 | _=>False
theorem ZgP {κ:Type} {kvs:List (κ×V)} {vs:List (κ×Value)} (r:KV kvs vs):(!vs.isEmpty)=!kvs.isEmpty:=by
 cases r <;> rfl
theorem ZdM {xs:List V} {its:List Value} (r:Vals xs its):(!its.toArray.isEmpty)=!xs.isEmpty:=by
 cases r <;> simp
theorem ZeE:(sizeLine:Nat)<2 ^ 63:=by rw [sizeLine_eq];decide
theorem Zmn:Zpm X (λx H Q=>∃ k,ZoE X.K x H k/\Q k H):=by
 intro pins s σ H x v Q I rx h
 obtain ⟨k,e,q⟩:=h
 have hl:=ZeE
 have hs:sizeLine=16777216:=sizeLine_eq
 cases x with
 | non=>
  cases rx
  have e':k=false:=e
  subst e'
  exact truthy_none ⟨H,I,q⟩
 | bl b=>
  cases rx
  have e':k=b:=e
  subst e'
  exact wpAny_truthy_bool ⟨H,I,q⟩
 | int i=>
  obtain ⟨t,rfl⟩:=rx
  have e':k=(i != 0):=e
  subst e'
  exact PySem.P.truthy_int ⟨H,I,q⟩
 | str y=>
  obtain ⟨t,rfl⟩:=rx
  obtain ⟨hy,e'⟩:y.length<=sizeLine/\k=((y.length:Int) != 0):=e
  subst e'
  exact PySem.P.truthy_str (by omega) ⟨H,I.tok _,q⟩
 | byt y=>
  obtain ⟨t,rfl⟩:=rx
  obtain ⟨hy,e'⟩:y.size<=sizeLine/\k=((y.size:Int) != 0):=e
  subst e'
  exact PySem.W.truthy_bytes (by omega) ⟨H,I.tok _,q⟩
 | ref p=>
  cases rx
  have e':(∃ xs,SqL X.K H p xs/\k=!xs.isEmpty)\/(∃ xs,SqT X.K H p xs/\k=!xs.isEmpty)\/∃ kvs,H p=some (.dK kvs)/\k=!kvs.isEmpty:=e
  rcases e' with ⟨xs,hx,e'⟩ | ⟨xs,hx,e'⟩ | ⟨kvs,hx,e'⟩
  ·subst e'
   obtain ⟨its,r,pl,hz⟩:=I.list hx
   have hlen:=r.length
   exact wpAny_truthy_list pl.isList (by simp only [List.size_toArray];omega) ⟨H,I.tok _,by rw [ZdM r];exact q⟩
  ·subst e'
   obtain ⟨its,r,pl,hz⟩:=I.tuple hx
   have hlen:=r.length
   exact truthy_tuple pl (by simp only [List.size_toArray];omega) ⟨H,I.tok _,by rw [ZdM r];exact q⟩
  ·subst e'
   obtain ⟨hz,hS,vs,r,m⟩:kvs.length<=sizeLine/\(p == sysModules)=false/\∃ vs,KV kvs vs/\s.heap.DictOf (ZaQ X.prog X.w) p vs:=I.hok p _ hx
   have hlen:kvs.length=vs.length:=Paired.length r
   exact wpAny_truthy_dict hS m (by omega) ⟨H,I.tok _,by rw [ZgP r];exact q⟩
 | _=>exact (show False from e).elim
theorem Zd4 (ha:PE X a ta) (he:∀ whole,isTrue a X.env whole=(do let v <- whole;standAt a.pos;holding [v] (truthy v))) :
  PT X a (λσ H Q=>ta σ H λx H'=>∃ k,ZoE X.K x H' k/\Q k H'):=by
 intro pins s σ H Q I h
 exact isTrue_plain (thn (ha pins s σ H _ I h) λv s1 ⟨x,H1,I1,r1,q1⟩=>Zmn pins s1 σ H1 x v Q I1 r1 q1) (he _)
def ZnB (b:Expr):Prop:=∀ o i,subscripted b false o i=operate [o,i] (getItem o i)
theorem Zmo {x:V} {us:List Value} (r:Vals [x] us):∃ u,us=[u]/\RelV x u:=by
 cases r with
 | cons r1 r2=>cases r2;exact ⟨_,rfl,r1⟩
theorem Zmp {x y:V} {us:List Value} (r:Vals [x,y] us):∃ u w',us=[u,w']/\RelV x u/\RelV y w':=by
 cases r with
 | cons r1 r2=>
  cases r2 with
  | cons r3 r4=>cases r4;exact ⟨_,_,rfl,r1,r3⟩
theorem ZhF (hc:X.calm=true):ZbC X (.builtin "max") (λxs H Q=>∃ i j,xs=[.int i,.int j]/\Q (.int (if j > i then j else i)) H):=by
 intro pins s σ H xs us Q I r h
 obtain ⟨i,j,rfl,q⟩:=h
 obtain ⟨u,w',rfl,⟨t,rfl⟩,⟨t',rfl⟩⟩:=Zmp r
 refine max_two_ints (I.ok.hd hc) λh' tk k=>⟨_,H,I.kept k,?_,q⟩
 by_cases hj:j > i
 ·rw [if_pos hj,if_pos hj];exact ⟨_,rfl⟩
 ·rw [if_neg hj,if_neg hj];exact ⟨_,rfl⟩
theorem ZhG (hc:X.calm=true):ZbC X (.builtin "min") (λxs H Q=>∃ i j,xs=[.int i,.int j]/\Q (.int (if j<i then j else i)) H):=by
 intro pins s σ H xs us Q I r h
 obtain ⟨i,j,rfl,q⟩:=h
 obtain ⟨u,w',rfl,⟨t,rfl⟩,⟨t',rfl⟩⟩:=Zmp r
 refine min_two_ints (I.ok.hd hc) λh' tk k=>⟨_,H,I.kept k,?_,q⟩
 by_cases hj:j<i
 ·rw [if_pos hj,if_pos hj];exact ⟨_,rfl⟩
 ·rw [if_neg hj,if_neg hj];exact ⟨_,rfl⟩
def Zqd (K:PySem.W.Frag) (x:V) (H:Hp) (n:Nat):Prop:=
 match x with
 | .str y=>y.length<=sizeLine/\n=y.length
 | .byt y=>y.size<=sizeLine/\n=y.size
 | .ref p=>(∃ xs,SqL K H p xs/\n=xs.length)\/∃ xs,SqT K H p xs/\n=xs.length
 | _=>False
end
end L2
namespace L2
open PySem PySem.Spec PyProof.Rows
structure Zqe (h:Heap) (x dx C:Addr) (mA:Str->Option Value):Prop where
 obj:h.get? x=some (PySem.W.instObj C dx)
 ns:h.Ns1 dx mA
 ne:dx≠x
section
variable {prog:Program} {w:World} {A:Around} {E:Value->Shared->Prop} {s:Shared} {K:PySem.W.Frag} {x dx C f:Addr} {mA:Str->Option Value} {name:Str} {v:Value}
end
def ZnS (f:Str) (v:V):List (Str×V)->List (Str×V)
 | []=>[(f,v)]
 | (g,x)::r=>if g=f then (g,v)::r else (g,x)::ZnS f v r
theorem RelO.some_of {v:V} {o:Option Value} (r:RelO (some v) o):∃ u,o=some u/\RelV v u:=by
 cases o with
 | none=>exact (show False from r).elim
 | some u=>exact ⟨u,rfl,r⟩
section
variable {P:Program} {w:World} {H H':Hp} {h h':Heap} {a C dx:Addr} {fs fs':List (Str×V)}
end
structure Cls (K:PySem.W.Frag) (C:Addr):Prop where
 pg:PySem.W.plainGet K C Str.empty=true
 hd:PySem.W.hasDictIn K C=true
 po:PySem.W.plainOver K C=true
 sa:PySem.W.findIn K (.ref C) "__setattr__" = some (some (.builtin "object.__setattr__"))
def ZhH (K:PySem.W.Frag) (C:Addr) (f:Str):Prop:=PySem.W.findIn K (.ref C) f=some none
structure Con (K:PySem.W.Frag) (C:Addr) (f:Str) (v:V) (u:Value):Prop where
 at_:PySem.W.findIn K (.ref C) f=some (some u)
 rel:RelV v u
 get:PySem.W.specialIn K u "__get__" = some none
 cp:PySem.W.copiedNames.contains f=false
structure Zqf (K:PySem.W.Frag) (C:Addr) (m:Str) (f:Addr):Prop where
 at_:PySem.W.findIn K (.ref C) m=some (some (.ref f))
 fn:PySem.W.isFn K (.ref f)=true
 kp:PySem.W.keepIn K (.ref f)=true
section
variable {X:Cx} {pins:List (Addr×Obj)} {σ:St} {H:Hp} {s:Shared} {a C dx:Addr} {fs:List (Str×V)} {f:Str} {v:V} {A:Around} {E:Value->Shared->Prop}
end
def Zqg (K:PySem.W.Frag) (ta:TE) (f:Str):TE:=λσ H Q=>ta σ H λx H1=>∃ a C dx fs v,x=.ref a/\H1 a=some (.ins C dx fs)/\Cls K C/\ZhH K C f/\fs.lookup f=some v/\Q v H1
def Zqh (K:PySem.W.Frag) (ta:TE) (f:Str):TE:=λσ H Q=>ta σ H λx H1=>∃ a C dx fs v u,x=.ref a/\H1 a=some (.ins C dx fs)/\Cls K C/\Con K C f v u/\fs.lookup f=none/\Q v H1
def Zqi (K:PySem.W.Frag) (ta tv:TE) (f:Str):TS:=λD σ H=>tv σ H λy H1=>ta σ H1 λx H2=>∃ a C dx fs,x=.ref a/\H2 a=some (.ins C dx fs)/\Cls K C/\ZhH K C f/\fs.length<1000 /\
 D.nx σ (upd H2 a (.ins C dx (ZnS f y fs)))
def Zqj (X:Cx) (op:Operator) (rd:V->V->Hp->VK->Prop):Prop:=
 ∀ (pins:List (Addr×Obj)) (s:Shared) (σ:St) (H:Hp) (x y:V) (u v:Value) (Q:VK),Inv X pins σ H s->RelV x u->RelV y v->rd x y H Q->wpAny (model X.prog X.w) X.A (inplaceOp op u v) (EP X pins σ Q) X.xe s
def ZnT (K:PySem.W.Frag) (ta tv:TE) (rd:V->V->Hp->VK->Prop) (f:Str):TS:=λD σ H=>ta σ H λx H1=>∃ a C dx fs v,x=.ref a/\H1 a=some (.ins C dx fs)/\Cls K C/\ZhH K C f/\fs.lookup f=some v /\
 tv σ H1 λy H2=>rd v y H2 λz H3=>∃ dx' fs',H3 a=some (.ins C dx' fs')/\fs'.length<1000/\D.nx σ (upd H3 a (.ins C dx' (ZnS f z fs')))
section
variable {X:Cx} {o e value:Expr} {f:Str} {pos pos' tpos:Pos} {ta tv:TE}
def Zqk:V->V->Hp->VK->Prop:=λx y H Q=>∃ i j,x=.int i/\y=.int j/\Q (.int (i+j)) H
def Zql:V->V->Hp->VK->Prop:=λx y H Q=>∃ i j,x=.int i/\y=.int j/\Q (.int (i-j)) H
end
section
variable {X:Cx} {pins:List (Addr×Obj)} {σ:St} {H:Hp} {s:Shared} {A:Around} {E:Value->Shared->Prop} {Q:Value->Shared->Prop} {c:Value} {b:Bool}
inductive Zhj (K:PySem.W.Frag) (H:Hp):V->Value->Prop where
 | non:Zhj K H .non (.type "NoneType")
 | bl (x:Bool):Zhj K H (.bl x) (.type "bool")
 | int (i:Int):Zhj K H (.int i) (.type "int")
 | str (x:Str):Zhj K H (.str x) (.type "str")
 | flt (x:UInt64):Zhj K H (.flt x) (.type "float")
 | lst {a:Addr} {xs:List V} (e:H a=some (.lst xs)):Zhj K H (.ref a) (.type "list")
 | frz {a:Addr} {o:Obj} {xs:List V} (e:H a=some (.frz o (.lst xs))):Zhj K H (.ref a) (.type "list")
 | tup {a:Addr} {xs:List V} (e:H a=some (.tup xs)):Zhj K H (.ref a) (.type "tuple")
 | dK {a:Addr} {kvs:List (Key×V)} (e:H a=some (.dK kvs)):Zhj K H (.ref a) (.type "dict")
 | dT {a:Addr} {kvs:List (List Key×V)} (e:H a=some (.dT kvs)):Zhj K H (.ref a) (.type "dict")
 | ins {a C dx:Addr} {fs:List (Str×V)} (e:H a=some (.ins C dx fs)) (cl:Cls K C) (ha:PySem.W.findIn K (.ref C) "__class__" = some (some (.builtin "object.__class__")))
   (hn:PySem.W.specialIn K (.builtin "object.__class__") "__get__" = some (some (.builtin "getset_descriptor.__get__"))) (htk:PySem.W.takesIn K (.builtin "object.__class__")=some true)
   (hm:PySem.W.mroIn K C (.type "object")=some true):Zhj K H (.ref a) (.ref C)
end
end L2
namespace L2
open PySem PySem.Spec PyProof.Rows
structure Room (k:Nat) (A:Around):Prop where
 hd:A.handled=none
 dp:A.depth+3 * k+5<recursionLimit
 un:A.units+16 * k+200<cLine
theorem Room.mono {j k:Nat} {A:Around} (r:Room k A) (h:j<=k):Room j A:=⟨r.hd,by have:=r.dp;omega,by have:=r.un;omega⟩
theorem Room.deeper {k:Nat} {A:Around} (r:Room (k+1) A) (env:Env):Room k (A.deeper env):=
 ⟨r.hd,by have:=r.dp;show A.depth+1+3 * k+5<_;omega,by have:=r.un;show A.units+3+16 * k+200<_;omega⟩
theorem Room.depth {k:Nat} {A:Around} (r:Room k A):A.depth<recursionLimit:=by have:=r.dp;omega
theorem Room.units {k:Nat} {A:Around} (r:Room k A):A.units+64<cLine:=by have:=r.un;omega
def Zpp:TA:=λ_ H Q=>Q [] H
def ZnU (ta:TE) (tr:TA):TA:=λσ H Q=>ta σ H λx H1=>tr σ H1 λxs H2=>Q (x::xs) H2
section
variable {X:Cx} {e:Expr} {es:List Expr} {te:TE} {t:TA} {pos:Pos}
theorem Zac:PA X [] Zpp:=λ_ _ _ _ H Q I h=>Calls.spliced_nil ⟨[],H,I,.nil,h⟩
theorem Zaa (ha:PE X e te) (hr:PA X es t) (hs:starEach (e::es) X.env=(false,eval e X.env)::starEach es X.env:=by rfl):PA X (e::es) (ZnU te t):=by
 intro pos pins s σ H Q I h
 rw [hs]
 show wpAny _ _ (spliced ((false,eval e X.env)::backTo pos (starEach es X.env))) _ _ s
 refine Calls.spliced_cons (thn (ha pins s σ H _ I h) λu s1 ⟨x,H1,I1,r1,q1⟩=>?_)
 exact thn (hr pos pins s1 σ H1 _ I1 q1) λus s2 ⟨xs,H2,I2,r2,q2⟩=>⟨x::xs,H2,I2,.cons r1 r2,q2⟩
def Zpq (t:TA):TE:=λσ H Q=>t σ H λxs H1=>xs.length<=sizeLine/\∀ p,H1 p=none->Q (.ref p) (upd H1 p (.tup xs))
def Zpr (t:TA):TE:=λσ H Q=>t σ H λxs H1=>xs.length<=sizeLine/\∀ p,H1 p=none->Q (.ref p) (upd H1 p (.lst xs))
theorem Zbn {x1} (h:PA X es t):PE X (.Tuple es x1 pos) (Zpq t):=by
 intro pins s σ H Q I hq
 refine wpAny_Tuple_spliced (thn (h pos pins s σ H _ I hq) λus s1 ⟨xs,H1,I1,r,z,q⟩=>⟨by rw [<-r.length];exact z,?_⟩)
 have hf:H1 s1.heap.objs.size=none:=I1.hok.fresh (Nat.le_refl _)
 refine ⟨.ref s1.heap.objs.size,upd H1 s1.heap.objs.size (.tup xs),I1.laid (t':=s1.toks) (λb u e=>Heap.get?_push_of_some _ e) (Nat.le_refl _) ?_,rfl,q _ hf⟩
 exact ⟨z,us,r,⟨_,Heap.get?_push_size _ rfl,rfl,_,rfl⟩⟩
theorem ZaX (h:PA X es t):PE X (.List es pos) (Zpr t):=by
 intro pins s σ H Q I hq
 refine wpAny_List_spliced (thn (h pos pins s σ H _ I hq) λus s1 ⟨xs,H1,I1,r,z,q⟩=>⟨by rw [<-r.length];exact z,?_⟩)
 have hf:H1 s1.heap.objs.size=none:=I1.hok.fresh (Nat.le_refl _)
 refine ⟨.ref s1.heap.objs.size,upd H1 s1.heap.objs.size (.lst xs),I1.laid (t':=s1.toks) (λb u e=>Heap.get?_push_of_some _ e) (Nat.le_refl _) ?_,rfl,q _ hf⟩
 exact ⟨z,us,0,r,Heap.get?_push_size _ rfl⟩
end
abbrev Sp:=List V->Hp->VK->XK->Prop
abbrev CXT:=List Env->Hp->Shared->XK->Value->Shared->Prop
structure ZnC (P:Program) (w:World) (K:PySem.W.Frag) (mg:Str->Option Value) (base:Heap) (A:Around) (outer:List Env) (s:Shared) (H:Hp):Prop where
 frames:A.frames=some outer
 mod:Mod K mg base
 bs:∀ b o,base.get? b=some o->s.heap.get? b=some o/\H b=none
 bsz:base.objs.size<=s.heap.objs.size
 funs:s.heap.FunFrames base outer
 frf:∀ b∈frs outer,H b=none
 hok:HOk P w H s.heap
 bare:AllBare s.gens
def CE (outer:List Env) (P:Program) (w:World) (H:Hp) (s:Shared) (Q:VK) (u:Value) (s':Shared):Prop:=
 ∃ v H',s'.os=s.os/\AllBare s'.gens/\Un (frs outer) [] H H' s.heap s'.heap/\HOk P w H' s'.heap/\RelV v u/\Q v H'
def CR (CX:CXT) (outer:List Env) (P:Program) (w:World) (H:Hp) (s:Shared) (Q:VK) (E:XK) (r:Result) (s':Shared):Prop:=
 match r with
 | .ok (.ret u)=>CE outer P w H s Q u s'
 | .ok _=>False
 | .error e=>CX outer H s E e s'
structure ZaI (P:Program) (w:World) (K:PySem.W.Frag) (mg:Str->Option Value) (base:Heap) (CX:CXT) (k:Nat) (f:Addr) (fd:FuncData) (ps:List Str) (sp:Sp):Prop where
 len:∀ vs H Q E,sp vs H Q E->vs.length=ps.length
 run:∀ (A:Around) (outer:List Env) (s:Shared) (H:Hp) (args:Args) (us:List Value) (vs:List V) (Q:VK) (E:XK),Room k A->ZnC P w K mg base A outer s H->BindsTo s fd args (ps.zip us)->Vals vs us->sp vs H Q E ->
  codeAny (model P w) A (.call (.ref f) args) (CR CX outer P w H s Q E) s
section
variable {X:Cx} {pins:List (Addr×Obj)} {σ:St} {H:Hp} {s s':Shared}
theorem Inv.env0 (I:Inv X pins σ H s):ZnC X.prog X.w X.K X.mg X.base X.A X.stack s H:=
 ⟨I.ok.frames,I.ok.mod,I.bs,Nat.le_trans I.ok.bsz I.sz,I.stack,I.stkFree,I.hok,I.bare⟩
theorem Inv.after {Q:VK} {u:Value} (I:Inv X pins σ H s) (h:CE X.stack X.prog X.w H s Q u s'):EP X pins σ Q u s':=by
 obtain ⟨v,H',os,bare,un,hok,r,q⟩:=h
 obtain ⟨hh,g,d,t,os'⟩:=s'
 obtain rfl:os'=s.os:=os
 exact ⟨v,H',I.call (h':=hh) (g':=g) (d':=d) (t':=t) (ch:=[]) un hok bare (λb z=>absurd z (by simp)),r,q⟩
end
def ZnV (sp:Sp) (dvs:List V) (E:XK) (t:TA):TE:=λσ H Q=>t σ H λvs H1=>sp (vs++dvs) H1 Q E
def Zps (C:Addr) (m:Str) (sp:Sp) (dvs:List V) (E:XK) (ta:TE) (t:TA):TE:=λσ H Q=>ta σ H λx H1=>∃ a dx fs,x=.ref a/\H1 a=some (.ins C dx fs)/\fs.lookup m=none /\
 t σ H1 λvs H2=>sp (x::(vs++dvs)) H2 Q E
def Zpt (C:Addr) (sp:Sp) (dvs:List V) (E:XK) (t:TA):TE:=λσ H Q=>t σ H λvs H1=>∀ x dx,H1 x=none->H1 dx=none->dx≠x ->
 sp (.ref x::(vs++dvs)) (upd (upd H1 dx (.own x)) x (.ins C dx [])) (λv H2=>v=.non/\Q (.ref x) H2) E
def Binds (K:PySem.W.Frag) (fd:FuncData) (ps:List Str) (ds:List Value):Prop:=
 ∀ (s:Shared) (us:List Value),K.In s.heap->(us++ds).length=ps.length->BindsTo s fd ⟨us,[]⟩ (ps.zip (us++ds))
theorem Binds.all {K:PySem.W.Frag} {fd:FuncData} {ps:List Str} (h:∀ us:List Value,us.length=ps.length->bindArgs fd ⟨us,[]⟩=pure (ps.zip us)):Binds K fd ps []:=λs us _ hl=>by
 rw [List.append_nil] at hl ⊢
 exact .of_eq (h us hl)
def ZeF (CX:CXT) (X:Cx) (E:XK):Prop:=∀ (pins:List (Addr×Obj)) (σ:St) (H:Hp) (s:Shared) (e:Value) (s':Shared),Inv X pins σ H s->CX X.stack H s E e s'->X.xe e s'
section
variable {X:Cx} {CX:CXT} {k:Nat} {f C:Addr} {fd:FuncData} {ps:List Str} {sp:Sp} {dvs:List V} {ds:List Value} {E:XK} {x m:Str} {p pos apos:Pos} {e o:Expr} {es:List Expr} {ta:TE} {t:TA}
theorem Zmq {pins:List (Addr×Obj)} {σ:St} {H:Hp} {s:Shared} {Q:VK} {us:List Value} {vs:List V} (F:ZaI X.prog X.w X.K X.mg X.base CX k f fd ps sp) (hr:Room k X.A) (hb:Binds X.K fd ps ds) (hd:Vals dvs ds) (hx:ZeF CX X E)
  (I:Inv X pins σ H s) (r:Vals vs us) (h:sp (vs++dvs) H Q E):wpAny (model X.prog X.w) X.A (call (.ref f) us) (EP X pins σ Q) X.xe s:=by
 have r2:Vals (vs++dvs) (us++ds):=r.append hd
 have hl:(us++ds).length=ps.length:=by rw [<-r2.length];exact F.len _ _ _ _ h
 refine wpAny_call (codeAny_mono (F.run X.A X.stack s H ⟨us,[]⟩ (us++ds) (vs++dvs) Q E hr I.env0 (hb s us I.kIn hl) r2 h) λr s' hq=>?_)
 cases r with
 | error e=>exact hx pins σ H s e s' I hq
 | ok fl=>
  cases fl with
  | ret u=>exact I.after hq
  | next=>exact False.elim hq
  | brk=>exact False.elim hq
  | cont=>exact False.elim hq
theorem Zak (F:ZaI X.prog X.w X.K X.mg X.base CX k f fd ps sp) (hr:Room k X.A) (hg:Gl X x) (hm:X.mg x=some (.ref f)) (hk:PySem.W.keepIn X.K (.ref f)=true) (hb:Binds X.K fd ps ds) (hd:Vals dvs ds) (hx:ZeF CX X E)
  (ha:PA X (e::es) t) (hdb:(x == ("__debug__" : Str))=false:=by decide) (he:starEach (e::es) X.env=(false,eval e X.env)::starEach es X.env:=by rfl) (hpl:(backTo pos (starEach es X.env)).any (·.1)=false:=by rfl) :
  PE X (.Call (.Name x p) (e::es) [] pos) (ZnV sp dvs E t):=by
 intro pins s σ H Q I h
 refine wpAny_Call_Name_kw (Zde I hg hm ?_ hdb)
 refine PySem.W.callWith_K (h₀:=X.base) I.ok.mod.kin hk (thn (ha pos pins s σ H _ I h) λus s1 ⟨vs,H1,I1,r,q⟩=>⟨I1.kIn,?_⟩) he hpl
 exact Zmq F hr hb hd hx I1 r q
structure Mk (K:PySem.W.Frag) (C f:Addr):Prop where
 makes:PySem.W.makesIn K C=true
 init:PySem.W.findIn K (.ref C) "__init__" = some (some (.ref f))
 fn:PySem.W.isFn K (.ref f)=true
 kp:PySem.W.keepIn K (.ref C)=true
end
def PK (X:Cx) (kws:List Keyword) (t:TA):Prop:=
 ∀ (pos:Pos) (pins:List (Addr×Obj)) (s:Shared) (σ:St) (H:Hp) (Q:List V->Hp->Prop),Inv X pins σ H s->t σ H Q->wpAny (model X.prog X.w) X.A (evalAll ((backToKw pos (keywordEach kws X.env)).map (·.2))) (AP X pins σ Q) X.xe s
section
variable {X:Cx} {CX:CXT} {k:Nat} {f C:Addr} {fd:FuncData} {ps ks:List Str} {sp:Sp} {E:XK} {x m:Str} {p pos apos kpos:Pos} {e o:Expr} {es:List Expr} {kws:List Keyword} {te ta:TE} {t tk:TA} {nm:Option Str}
structure ZoF (K:PySem.W.Frag) (fd:FuncData) (ps ks:List Str) (g:List Value->List Value->List Value) (gV:List V->List V->List V):Prop where
 to:∀ (s:Shared) (us ws:List Value),K.In s.heap->(g us ws).length=ps.length->BindsTo s fd ⟨us,ks.zip ws⟩ (ps.zip (g us ws))
 rel:∀ {vs:List V} {us:List Value} {zs:List V} {ws:List Value},Vals vs us->Vals zs ws->Vals (gV vs zs) (g us ws)
def ZoG (sp:Sp) (gV:List V->List V->List V) (E:XK) (t tk:TA):TE:=λσ H Q=>t σ H λvs H1=>tk σ H1 λzs H2=>sp (gV vs zs) H2 Q E
variable {g:List Value->List Value->List Value} {gV:List V->List V->List V}
end
structure Zau (N P:List Str) (sc:Scope):Prop where
 kind:sc.kind=.function
 co:sc.isCoroutine=false
 gen:sc.isGenerator=false
 nd:N.Nodup
 pre:N.take P.length=P
 par:∀ x∈P,sc.names.lookup x=some .local\/sc.names.lookup x=some .cell
 nofree:∀ y∈sc.names,y.2≠.free
theorem ZeG {kindOf:Str->Option NameKind} {x:Str}:∀ {binds:List (Str×Value)} {m:Str->Option Value},(∀ v,(x,v) ∉ binds)->bindL kindOf binds m x=m x
 | [],_,_=>rfl
 | (n,v)::r,m,h=>by
  unfold bindL
  rw [ZeG λw hw=>h w (List.mem_cons_of_mem _ hw)]
  split
  ·have:x≠n:=by rintro rfl;exact h v List.mem_cons_self
   simp [this]
  ·rfl
theorem ZeH {kindOf:Str->Option NameKind} {x:Str}:∀ {binds:List (Str×Value)} {m:Str->Option Value},(∀ v,(x,v) ∉ binds)->bindC kindOf binds m x=m x
 | [],_,_=>rfl
 | (n,v)::r,m,h=>by
  unfold bindC
  rw [ZeH λw hw=>h w (List.mem_cons_of_mem _ hw)]
  split
  ·rfl
  ·have:x≠n:=by rintro rfl;exact h v List.mem_cons_self
   simp [this]
theorem ZeI {kindOf:Str->Option NameKind} {x:Str} {v:Value}:∀ {P:List Str} {vs:List Value} {i:Nat} {m:Str->Option Value},P.Nodup->P[i]?=some x->vs[i]?=some v->kindOf x=some .local ->
  bindL kindOf (P.zip vs) m x=some v
 | [],_,_,_,_,h,_,_=>by simp at h
 | _::_,[],_,_,_,_,h,_=>by simp at h
 | p::P,w::vs,0,m,nd,h1,h2,hk=>by
  simp at h1 h2;subst h1;subst h2
  show bindL kindOf ((p,w)::P.zip vs) m p=_
  unfold bindL
  rw [ZeG λv hv=>(List.nodup_cons.mp nd).1 (List.of_mem_zip hv).1,if_pos hk]
  simp
 | p::P,w::vs,i+1,m,nd,h1,h2,hk=>by
  show bindL kindOf ((p,w)::P.zip vs) m x=_
  unfold bindL
  exact ZeI (i:=i) (List.nodup_cons.mp nd).2 (by simpa using h1) (by simpa using h2) hk
theorem ZeJ {kindOf:Str->Option NameKind} {x:Str} {v:Value}:∀ {P:List Str} {vs:List Value} {i:Nat} {m:Str->Option Value},P.Nodup->P[i]?=some x->vs[i]?=some v->kindOf x≠some .local ->
  bindC kindOf (P.zip vs) m x=some v
 | [],_,_,_,_,h,_,_=>by simp at h
 | _::_,[],_,_,_,_,h,_=>by simp at h
 | p::P,w::vs,0,m,nd,h1,h2,hk=>by
  simp at h1 h2;subst h1;subst h2
  show bindC kindOf ((p,w)::P.zip vs) m p=_
  unfold bindC
  rw [ZeH λv hv=>(List.nodup_cons.mp nd).1 (List.of_mem_zip hv).1,if_neg hk]
  simp
 | p::P,w::vs,i+1,m,nd,h1,h2,hk=>by
  show bindC kindOf ((p,w)::P.zip vs) m x=_
  unfold bindC
  exact ZeJ (i:=i) (List.nodup_cons.mp nd).2 (by simpa using h1) (by simpa using h2) hk
def start (N:List Str) (vs:List V):St:=vs.map some++List.replicate (N.length-vs.length) none
def ZhI (CX:CXT) (P:Program) (w:World) (K:PySem.W.Frag) (mg:Str->Option Value) (base:Heap) (N:List Str) (qual:Str) (scope:Scope) (f:Addr) (cd:Value) (A:Around) (outer:List Env) (s:Shared) (H:Hp) (E:XK):Cx where
 prog:=P
 w:=w
 K:=K
 mg:=mg
 base:=base
 A:=A.deeper (envOfC qual scope s.heap.objs.size f cd)
 N:=N
 s₀:=s
 H₀:=H
 env:=envOfC qual scope s.heap.objs.size f cd
 outer:=outer
 stack:=envOfC qual scope s.heap.objs.size f cd::outer
 ex:=[]
 calm:=true
 fn:=λ_=>true
 pn:=[]
 xe:=λe s'=>wpAny (model P w) (A.deeper (envOfC qual scope s.heap.objs.size f cd)) (leaving (envOfC qual scope s.heap.objs.size f cd) e) (λ_ s''=>CX outer H s E e s'') (λe' s''=>CX outer H s E e' s'') s'
theorem Zf3 {sc:Scope} {n:Nat} {x:Str} (h:sc.names.lookup x=some .cell):∃ c,(cellsFrom n sc.names []).lookup x=some c:=by
 have q:=PySem.W.cellsFrom_some sc.names n [] (.inl h)
 exact Option.isSome_iff_exists.mp q
theorem ZhJ {CX:CXT} {P:Program} {w:World} {K:PySem.W.Frag} {mg:Str->Option Value} {base:Heap} {N ps:List Str} {qual:Str} {scope:Scope} {f:Addr} {cd:Value} {A:Around} {outer:List Env} {s s1:Shared} {H:Hp} {E:XK} {us:List Value} {vs:List V}
  (S:Zau N ps scope) (hd:A.handled=none) (e0:ZnC P w K mg base A outer s H) (hl:vs.length=ps.length) (r:Vals vs us)
  (x:InCallC s s.heap.objs.size (bindL (envOfC qual scope s.heap.objs.size f cd).kindOf (ps.zip us) λ_=>none) (cellsFrom (s.heap.objs.size+1) scope.names []) (bindC (envOfC qual scope s.heap.objs.size f cd).kindOf (ps.zip us) λ_=>none) s1) :
  Inv (ZhI CX P w K mg base N qual scope f cd A outer s H E) [] (start N vs) H s1:=by
 have hpl:ps.length<=N.length:=by have:=congrArg List.length S.pre;rw [List.length_take] at this;omega
 obtain ⟨h1,tk,rfl,hk⟩:=x.done
 have noA:∀ b:Addr,b ∉ (ZhI CX P w K mg base N qual scope f cd A outer s H E).ex:=λb z=>absurd (show b∈([]:List Addr) from z) (by simp)
 refine ⟨⟨e0.mod,S.kind,rfl,rfl,Nat.le_refl _,λy z c h1 h2=>?_,λy hy=>?_,λy c _ h=>?_,λ_=>hd,Around.frames_deeper e0.frames,.inr ⟨rfl,rfl⟩,λb z=>absurd z (noA b),e0.bs,e0.bsz,λb _ _=>noA b,λb z=>absurd z (noA b),e0.funs,e0.frf⟩,
  rfl,e0.bare,Un.kept hk,⟨_,x.toInCall.ns,λi y v h1 h2 h3=>?_⟩,λy c h=>⟨_,x.cell y c h⟩,e0.hok.fresh (Nat.le_refl _),λy c h=>?_,λp hp=>absurd (show p∈([]:List (Addr×Obj)) from hp) (by simp),e0.hok.kept hk,?_⟩
 ·exact name_of_addr x.apart (PySem.mem_of_lookup h1) (PySem.mem_of_lookup h2)
 ·have hy:scope.names.lookup y=some .cell\/scope.names.lookup y=some .free:=hy
  rcases hy with hy | hy
  ·exact Zf3 hy
  ·exact absurd rfl (S.nofree _ (PySem.mem_of_lookup hy))
 ·exact Nat.le_of_lt (x.above y c (PySem.mem_of_lookup h))
 ·have hi:i<vs.length:=by
   unfold start at h2
   by_cases hi:i<vs.length
   ·exact hi
   ·rw [List.getElem?_append_right (by simpa using hi)] at h2
    rw [List.getElem?_replicate] at h2
    split at h2 <;> cases h2
  have ha:vs[i]?=some v:=by
   unfold start at h2
   rw [List.getElem?_append_left (by simpa using hi),List.getElem?_map] at h2
   cases e:vs[i]? with
   | none=>rw [e] at h2;cases h2
   | some a=>rw [e] at h2;cases h2;rfl
  obtain ⟨u,hu,rv⟩:=r.get ha
  have hp:ps[i]?=some y:=by
   rw [<-S.pre,List.getElem?_take_of_lt (by omega)];exact h1
  have ndP:ps.Nodup:=by rw [<-S.pre];exact S.nd.sublist (List.take_sublist _ _)
  refine ⟨u,rv,?_⟩
  rcases S.par y (List.mem_of_getElem? hp) with k | k
  ·exact .inl ⟨k,ZeI ndP hp hu k⟩
  ·obtain ⟨c,e⟩:=Zf3 (n:=s.heap.objs.size+1) k
   refine .inr ⟨.inl k,c,e,?_⟩
   have q:=x.cell y c e
   rw [ZeJ ndP hp hu (by show scope.names.lookup y≠_;rw [k];decide)] at q
   exact q
 ·exact e0.hok.fresh (Nat.le_of_lt (x.above y c (PySem.mem_of_lookup h)))
 ·unfold start
  show _=N.length
  rw [List.length_append,List.length_map,List.length_replicate]
  omega
theorem ZkQ {CX:CXT} {P:Program} {w:World} {K:PySem.W.Frag} {mg:Str->Option Value} {base:Heap} {k:Nat} {f:Addr} {name qual:Str} {params:Arguments} {body:List Stmt} {scope:Scope} {dV kV doc pm cdv ct oc:Value} {an od:Option Addr}
  {osl:Array (Option Value)} {N ps:List Str} {sp:Sp} (lk:K.lookup f=some ⟨oc,od,.func (PySem.W.fnOf name qual params body scope dV kV doc pm an cdv ct),osl⟩) (hcd:PySem.W.codeIn K cdv qual=true) (S:Zau N ps scope)
  (len:∀ vs H Q E,sp vs H Q E->vs.length=ps.length)
  (hbody:∀ (A:Around) (outer:List Env) (s:Shared) (H:Hp) (vs:List V) (Q:VK) (E:XK),Room k (A.deeper (envOfC qual scope s.heap.objs.size f cdv))->sp vs H Q E ->
   ∃ t,PSs (ZhI CX P w K mg base N qual scope f cdv A outer s H E) body t/\t { nx:=λ_ H'=>Q .non H',rt:=Q } (start N vs) H) :
  ZaI P w K mg base CX (k+1) f (PySem.W.fnOf name qual params body scope dV kV doc pm an cdv ct) ps sp:=by
 refine ⟨len,λA outer s H args us vs Q E hr e0 hb r hsp=>?_⟩
 have hl:=len _ _ _ _ hsp
 have KX:K.In s.heap:=e0.mod.kin.keeps λb o e=>(e0.bs b o e).1
 have lim:s.heap.NoLimit:=e0.mod.nolimit.keeps λb o e=>(e0.bs b o e).1
 have hkind:∀ y∈ps.zip us,scope.names.lookup y.1=some .local\/(scope.names.lookup y.1=some .cell/\((cellsFrom (s.heap.objs.size+1) scope.names []).lookup y.1).isSome=true):=λ⟨n,v⟩ hy=>by
  rcases S.par n (List.of_mem_zip hy).1 with q | q
  ·exact .inl q
  ·exact .inr ⟨q,PySem.W.cellsFrom_some _ _ _ (.inl q)⟩
 refine codeAny_call_function hr.depth (KX _ _ lk) rfl S.co S.gen rfl (PySem.W.codeRec_of KX hcd) (hb _ _ _ _ ?_)
 refine wpAny_newFunctionEnv_cells S.kind hkind λenv he s1 x=>?_
 subst he
 refine ⟨lim.keeps x.toInCall.keep,codeAny_func ?_⟩
 obtain ⟨t,ht,hq⟩:=hbody A outer s H vs Q E (hr.deeper _) hsp
 have I:Inv (ZhI CX P w K mg base N qual scope f cdv A outer s H E) [] (start N vs) H s1:=ZhJ S hr.hd e0 hl r x
 refine wpAny_mono (ht [] s1 (start N vs) H _ I hq) (λfl s' hs=>?_) λe s' hs=>hs
 have fin:∀ {σ':St} {H':Hp} {v:V} {u:Value},Inv (ZhI CX P w K mg base N qual scope f cdv A outer s H E) [] σ' H' s'->RelV v u->Q v H'->CE outer P w H s Q u s':=
  λ{σ' H' v u} J rv q=>⟨v,H',J.os,J.bare,J.base,J.hok,rv,q⟩
 cases fl with
 | ret u=>
  obtain ⟨v,σ',H',J,rv,q⟩:=hs
  exact fin J rv q
 | next=>
  obtain ⟨σ',H',J,q⟩:=hs
  exact fin (v:=V.non) (u:=Value.none) J rfl q
 | brk=>
  obtain ⟨_,_,_,q⟩:=hs
  exact False.elim q
 | cont=>
  obtain ⟨_,_,_,q⟩:=hs
  exact False.elim q
end L2
namespace L2
open PySem PySem.Spec PyProof.Rows
section
variable {X:Cx} {x:Str} {p pos:Pos} {e:Expr} {es:List Expr} {t:TA} {id T:String} {r:List V->Hp->VK->Prop}
def tCB (r:List V->Hp->VK->Prop) (t:TA):TE:=λσ H Q=>t σ H λvs H1=>r vs H1 Q
theorem Zax (hc:ZbC X (.builtin id) r) (hg:Gl X x) (hm:X.mg x=none) (hv:bootBuiltins x=some (.builtin id)) (ha:PA X (e::es) t) (hn:x ≠ "__name__" := by decide) (hdb:(x == ("__debug__" : Str))=false:=by decide)
  (he:starEach (e::es) X.env=(false,eval e X.env)::starEach es X.env:=by rfl) (hpl:(backTo pos (starEach es X.env)).any (·.1)=false:=by rfl):PE X (.Call (.Name x p) (e::es) [] pos) (tCB r t):=by
 intro pins s σ H Q I h
 refine wpAny_Call_Name_kw (Zdf I hg hm hv ?_ hn hdb)
 exact PyProof.Rows.callWith_builtin1 (thn (ha pos pins s σ H _ I h) λus s1 ⟨vs,H1,I1,r1,q1⟩=>hc pins s1 σ H1 vs us Q I1 r1 q1) he hpl
theorem Zbt (hc:ZbC X (.type T) r) (hg:Gl X x) (hm:X.mg x=none) (hv:bootBuiltins x=some (.type T)) (ha:PA X (e::es) t) (hn:x ≠ "__name__" := by decide) (hdb:(x == ("__debug__" : Str))=false:=by decide)
  (he:starEach (e::es) X.env=(false,eval e X.env)::starEach es X.env:=by rfl) (hpl:(backTo pos (starEach es X.env)).any (·.1)=false:=by rfl):PE X (.Call (.Name x p) (e::es) [] pos) (tCB r t):=by
 intro pins s σ H Q I h
 refine wpAny_Call_Name_kw (Zdf I hg hm hv ?_ hn hdb)
 exact PyProof.Rows.callWith_type1 (thn (ha pos pins s σ H _ I h) λus s1 ⟨vs,H1,I1,r1,q1⟩=>hc pins s1 σ H1 vs us Q I1 r1 q1) he hpl
end
end L2
namespace HT
open PySem PyProof.Rows
def lexLt:List Int->List Int->Bool
 | [],[]=>false
 | [],_::_=>true
 | _::_,[]=>false
 | x::xs,y::ys=>if x=y then lexLt xs ys else decide (x<y)
section
open PySem.SeqAt
open PySem.AutoSeq1 (wpAny_loadPart')
open PySem.MeetsSeq PySem.MeetsSeq2 PySem.MeetsSeq3
end
section
variable {prog:Program} {w:World} {A:Around} {E:Value->Shared->Prop} {s:Shared}
def sIx (n d:Nat):Option Int->Nat
 | none=>d
 | some v=>if v<0 then (v+(n:Int)).toNat else min v.toNat n
theorem sIx_none (n d:Nat):sIx n d none=d:=rfl
theorem sIx_nat (n d k:Nat):sIx n d (some (k:Int))=min k n:=by
 show (if (k:Int)<0 then ((k:Int)+(n:Int)).toNat else min (k:Int).toNat n)=min k n
 rw [if_neg (by omega),Int.toNat_natCast]
end
end HT
namespace L2
open PySem PySem.Spec PyProof.Rows
abbrev TO:=St->Hp->(Option Int->Hp->Prop)->Prop
def PO (X:Cx) (e:Option Expr) (t:TO):Prop:=
 ∀ (pins:List (Addr×Obj)) (s:Shared) (σ:St) (H:Hp) (Q:Option Int->Hp->Prop),Inv X pins σ H s->t σ H Q ->
  wpAny (model X.prog X.w) X.A (evalPart e X.env) (λu s'=>∃ o H',Inv X pins σ H' s'/\IsPart u o/\Q o H') X.xe s
def ZkR:TO:=λ_ H Q=>Q none H
def ZnW (t:TE):TO:=λσ H Q=>t σ H λx H1=>∃ i,x=.int i/\Q (some i) H1
theorem ZbQ {ns:List Int}:∀ {us:List Value},Vals (ns.map V.int) us->IntsAre us ns:=by
 induction ns with
 | nil=>intro us r;rw [List.map_nil] at r;cases r;exact .nil
 | cons n ns ih=>
  intro us r
  rw [List.map_cons] at r
  cases r with
  | cons r1 r2=>
   obtain ⟨t,e⟩:=r1
   subst e
   exact .cons n t (ih r2)
section
variable {X:Cx} {e:Expr} {te:TE} {lo hi:Option Expr} {tl th:TO} {pos p2:Pos}
theorem Zfr:PO X none ZkR:=by
 intro pins s σ H Q I h
 rw [evalPart_none]
 exact wpAny_pure ⟨none,H,I,.none,h⟩
theorem Zfs (h:PE X e te):PO X (some e) (ZnW te):=by
 intro pins s σ H Q I hw
 rw [evalPart_some]
 refine thn (h pins s σ H _ I hw) λu s1 ⟨x,H1,I1,r1,q1⟩=>?_
 obtain ⟨i,rfl,q⟩:=q1
 obtain ⟨t,rfl⟩:=r1
 exact ⟨some i,H1,I1,.int i t,q⟩
def SlR (X:Cx) (r:V->Option Int->Option Int->Hp->VK->Prop):Prop:=
 ∀ (pins:List (Addr×Obj)) (s:Shared) (σ:St) (H:Hp) (x:V) (v vl vu:Value) (lo hi:Option Int) (sl:Addr) (Q:VK),Inv X pins σ H s->RelV x v->s.heap.IsSliceOf sl vl vu .none->IsPart vl lo->IsPart vu hi->r x lo hi H Q ->
  ∃ T id,typeLookup (.type T) "__getitem__" = pure (some (.builtin id))/\s.TypeIs v T/\wpAny (model X.prog X.w) X.A (getItem v (.ref sl)) (EP X pins σ Q) X.xe s
def tSl (r:V->Option Int->Option Int->Hp->VK->Prop) (te:TE) (tl th:TO):TE:=λσ H Q=>te σ H λx H1=>tl σ H1 λl H2=>th σ H2 λu H3=>r x l u H3 Q
theorem Zd5 {r:V->Option Int->Option Int->Hp->VK->Prop} (hr:SlR X r) (he:PE X e te) (hl:PO X lo tl) (hu:PO X hi th):PE X (.Subscript e (.Slice lo hi none p2) pos) (tSl r te tl th):=by
 intro pins s σ H Q I h
 refine Subscript_ (thn (he pins s σ H _ I h) λv s1 ⟨x,H1,I1,r1,q1⟩=>?_)
 refine wpAny_Slice (thn (hl pins s1 σ H1 _ I1 q1) λvl s2 ⟨l,H2,I2,pl,q2⟩=>thn (hu pins s2 σ H2 _ I2 q2) λvu s3 ⟨u,H3,I3,pu,q3⟩=>?_)
 rw [evalPart_none]
 refine wpAny_pure ?_
 have I4:Inv X pins σ H3 { s3 with heap:=s3.heap.push { cls:=.type "slice", data:=.fields #[vl,vu,.none] } }:=I3.kept (t':=s3.toks) λb ob q=>Heap.get?_push_of_some _ q
 obtain ⟨T,id,hT,ht,hg⟩:=hr pins { s3 with heap:=s3.heap.push { cls:=.type "slice", data:=.fields #[vl,vu,.none] } } σ H3 x v vl vu l u s3.heap.objs.size Q I4 r1 (Heap.IsSliceOf.new ..) pl pu q3
 show wpAny (model X.prog X.w) X.A (subscriptTail e (.Slice lo hi none p2) v (.ref s3.heap.objs.size)) (EP X pins σ Q) X.xe { s3 with heap:=s3.heap.push { cls:=.type "slice", data:=.fields #[vl,vu,.none] } }
 exact tail_any (ops:=[.ref s3.heap.objs.size,v]) ht hT hg (by with_unfolding_all rfl)
def Zfl (xs:List V) (lo hi:Option Int):List V:=(xs.drop (HT.sIx xs.length 0 lo)).take (HT.sIx xs.length xs.length hi-HT.sIx xs.length 0 lo)
theorem Zdh (xs:List V) (lo hi:Option Int):(Zfl xs lo hi).length<=xs.length:=by
 unfold Zfl
 rw [List.length_take,List.length_drop]
 omega
def Zqm (K:PySem.W.Frag):V->Option Int->Option Int->Hp->VK->Prop:=λx lo hi H Q=>∃ a xs,x=.ref a/\SqT K H a xs /\
 ¬ (HT.sIx xs.length 0 lo=0/\HT.sIx xs.length xs.length hi=xs.length)/\∀ p,H p=none->Q (.ref p) (upd H p (.tup (Zfl xs lo hi)))
def Zqn (K:PySem.W.Frag):R2:=λx y H Q=>∃ a b ns ms,x=.ref a/\y=.ref b/\SqT K H a (ns.map V.int)/\SqT K H b (ms.map V.int)/\Q (.bl (HT.lexLt ns ms)) H
def Zpu (K:PySem.W.Frag):R2:=λx y H Q=>∃ a b xs ys,x=.ref a/\y=.ref b/\SqT K H a xs/\SqT K H b ys/\xs≠[]/\xs.length+ys.length<=sizeLine /\
 (ys=[]->Q (.ref a) H)/\(ys≠[]->∀ p,H p=none->Q (.ref p) (upd H p (.tup (xs++ys))))
end
end L2
namespace L2
open PySem PySem.Spec PyProof.Rows
def ixN (n:Nat) (i:Int):Option Nat:=if 0<=i then (if i<n then some i.toNat else none) else if -(n:Int)<=i then some (i+n).toNat else none
def atI {α:Type} (xs:List α) (i:Int):Option α:=(ixN xs.length i).bind λj=>xs[j]?
theorem Zft {n:Nat} {i:Int} {j:Nat} (h:ixN n i=some j):seqIndex? i n=some j/\j<n/\-(n:Int)<=i/\i<n:=by
 unfold ixN at h
 by_cases h0:0<=i
 ·rw [if_pos h0] at h
  by_cases h1:i<n
  ·rw [if_pos h1] at h
   have e:i.toNat=j:=Option.some.inj h
   exact ⟨by rw [seqIndex_of h0 h1,e],by omega,by omega,h1⟩
  ·rw [if_neg h1] at h;cases h
 ·rw [if_neg h0] at h
  by_cases h1:-(n:Int)<=i
  ·rw [if_pos h1] at h
   have e:(i+n).toNat=j:=Option.some.inj h
   exact ⟨by rw [seqIndex_neg (by omega) h1,e],by omega,h1,by omega⟩
  ·rw [if_neg h1] at h;cases h
theorem ZhK {α:Type} {xs:List α} {i:Int} {v:α} (h:atI xs i=some v):∃ j,seqIndex? i xs.length=some j/\xs[j]?=some v/\j<xs.length/\-(xs.length:Int)<=i/\i<xs.length:=by
 unfold atI at h
 cases e:ixN xs.length i with
 | none=>rw [e] at h;cases h
 | some j=>
  rw [e] at h
  obtain ⟨h1,h2,h3,h4⟩:=Zft e
  exact ⟨j,h1,h,h2,h3,h4⟩
theorem Zas {α:Type} {xs:List α} {j:Nat} {v:α} (h:xs[j]?=some v):atI xs (j:Int)=some v:=by
 have hj:j<xs.length:=(List.getElem?_eq_some_iff.mp h).1
 have e:ixN xs.length (j:Int)=some j:=by
  unfold ixN
  rw [if_pos (by omega),if_pos (by omega)];simp
 unfold atI;rw [e];exact h
def ZkS (b:Expr):Prop:=∀ o i,subscripted b false o i=operate [o,i] (getItem o i)
def IxR (X:Cx) (r:R2):Prop:=
 ∀ (value slice:Expr) (pins:List (Addr×Obj)) (s:Shared) (σ:St) (H:Hp) (x y:V) (v u:Value) (Q:VK),Inv X pins σ H s->RelV x v->RelV y u->r x y H Q ->
  subscripted slice false v u=operate [v,u] (getItem v u)->wpAny (model X.prog X.w) X.A (subscriptTail value slice v u) (EP X pins σ Q) X.xe s
def MtR (X:Cx) (id:String) (r:V->List V->Hp->VK->Prop):Prop:=
 ∀ (pins:List (Addr×Obj)) (s:Shared) (σ:St) (H:Hp) (x:V) (xs:List V) (v:Value) (us:List Value) (Q:VK),Inv X pins σ H s->RelV x v->Vals xs us->r x xs H Q ->
  wpAny (model X.prog X.w) X.A (call (.builtin id) (v::us)) (EP X pins σ Q) X.xe s
section
variable {X:Cx} {a b:Expr} {ta tb:TE} {pos:Pos}
theorem ZaJ {r:R2} (hr:IxR X r) (ha:PE X a ta) (hb:PE X b tb) (hs:ZkS b):PE X (.Subscript a b pos) (tOp r ta tb):=by
 intro pins s σ H Q I h
 exact Subscript_ (ZnN ha hb I h λv u s2 x y H2 I2 rx ry q=>hr a b pins s2 σ H2 x y v u Q I2 rx ry q (hs _ _))
def ZnX (K:PySem.W.Frag):R2:=λx y H Q=>∃ p xs i v,x=.ref p/\y=.int i/\SqL K H p xs/\atI xs i=some v/\Q v H
def ZnY (K:PySem.W.Frag):R2:=λx y H Q=>∃ p xs i v,x=.ref p/\y=.int i/\SqT K H p xs/\atI xs i=some v/\Q v H
def Zpv:R2:=λx y H Q=>∃ z i c,x=.str z/\y=.int i/\z.length<=sizeLine/\atI z.cps.toList i=some c/\Q (.str ⟨#[c]⟩) H
theorem Zfu:IxR X (ZnX X.K):=by
 intro value slice pins s σ H x y v u Q I rx ry h hs
 obtain ⟨p,xs,i,z,rfl,rfl,hq,he,q⟩:=h
 cases rx
 obtain ⟨t,rfl⟩:=ry
 obtain ⟨its,r,pl,hz⟩:=I.list hq
 obtain ⟨j,h1,h2,h3,h4,h5⟩:=ZhK he
 obtain ⟨w,ew,rw'⟩:=r.get h2
 have hl:=r.length
 have hn:=ZeE
 have fin:EP X pins σ Q w s:=⟨z,H,I,rw',q⟩
 by_cases h0:0<=i
 ·have hj:i.toNat=j:=by
   rw [seqIndex_of h0 h5] at h1
   exact Option.some.inj h1
  exact item_listR pl.isList h0 (by omega) (by rw [hj];simpa using ew) fin hs
 ·have hj:(i+(its.toArray.size:Int)).toNat=j:=by
   rw [seqIndex_neg (by omega) h4] at h1
   rw [List.size_toArray,<-hl]
   exact Option.some.inj h1
  exact subscriptTail_builtinR (x:=w) pl.isList.typeIs slot_list_getitem.lookup
   (wpAny_getItem_list_neg (Q:=λr s'=>r=w/\EP X pins σ Q r s') pl.isList (by omega) (by rw [List.size_toArray] <;> omega) (by omega) (by rw [hj];simpa using ew) ⟨rfl,fin⟩) hs
theorem Zmr:IxR X (ZnY X.K):=by
 intro value slice pins s σ H x y v u Q I rx ry h hs
 obtain ⟨p,xs,i,z,rfl,rfl,hq,he,q⟩:=h
 cases rx
 obtain ⟨t,rfl⟩:=ry
 obtain ⟨its,r,pl,hz⟩:=I.tuple hq
 obtain ⟨j,h1,h2,h3,h4,h5⟩:=ZhK he
 obtain ⟨w,ew,rw'⟩:=r.get h2
 have hl:=r.length
 have hn:=ZeE
 have fin:EP X pins σ Q w s:=⟨z,H,I,rw',q⟩
 exact subscriptTail_builtinR (x:=w) pl.typeIs slot_tuple_getitem.lookup
  (getItem_tuple (j:=j) (Q:=λr s'=>r=w/\EP X pins σ Q r s') pl (by omega) (by omega) (by rw [List.size_toArray,<-hl];exact h1) (by simpa using ew) ⟨rfl,fin⟩) hs
def rIx (K:PySem.W.Frag):R2:=λx y H Q=>ZnX K x y H Q\/ZnY K x y H Q\/Zpv x y H Q
theorem ZgQ (its:List Value) (n j:Nat) (u:Value):Obj.mapSeq (·.setIfInBounds j u) { cls:=.type "list", data:=.seq its.toArray n }={ cls:=.type "list", data:=.seq (its.set j u).toArray n }:=by
 simp [Obj.mapSeq]
theorem Inv.lst {pins:List (Addr×Obj)} {σ:St} {H:Hp} {s:Shared} {p:Addr} {xs:List V} (I:Inv X pins σ H s) (h:H p=some (.lst xs)) :
  ∃ (its:List Value) (n:Nat),Vals xs its/\s.heap.get? p=some { cls:=.type "list", data:=.seq its.toArray n }/\xs.length<=sizeLine:=by
 obtain ⟨z,its,n,r,e⟩:=I.hok p _ h
 exact ⟨its,n,r,e,z⟩
theorem Inv.lstUpd {pins:List (Addr×Obj)} {σ:St} {H:Hp} {s:Shared} {p:Addr} {xs ys:List V} {its its':List Value} {n n':Nat} {f:Obj->Obj} (I:Inv X pins σ H s) (h:H p=some (.lst xs))
  (ho:s.heap.get? p=some { cls:=.type "list", data:=.seq its.toArray n }) (hf:f { cls:=.type "list", data:=.seq its.toArray n }={ cls:=.type "list", data:=.seq its'.toArray n' }) (r:Vals ys its') (hz:ys.length<=sizeLine) (t:Nat) :
  Inv X pins σ (upd H p (.lst ys)) { s with heap:=s.heap.update p f,toks:=t }:=by
 have e:(s.heap.update p f).get? p=some { cls:=.type "list", data:=.seq its'.toArray n' }:=by
  rw [Heap.get?_update_self f ho (by rw [hf] <;> rfl),hf]
 refine I.write (x:=p) (e:=p) (by rw [h];trivial) (.inl rfl) (λb u hb q=>(Heap.get?_update_other _ _ (Ne.symm hb)).trans q) ⟨_,e⟩ ?_
 exact ⟨hz,its',n',r,e⟩
def ZnZ:V->V->V->Hp->(Hp->Prop)->Prop:=λo i v H Q=>∃ p xs k j,o=.ref p/\i=.int k/\H p=some (.lst xs)/\ixN xs.length k=some j/\Q (upd H p (.lst (xs.set j v)))
theorem Zja:ZoA X ZnZ:=by
 intro pins s σ H o i v ov iv u Q I ro ri rv h
 obtain ⟨p,xs,k,j,rfl,rfl,hp,hj,q⟩:=h
 cases ro
 obtain ⟨t,rfl⟩:=ri
 obtain ⟨its,n,r,ho,hz⟩:=I.lst hp
 obtain ⟨h1,h2,h3,h4⟩:=Zft hj
 have hl:=r.length
 have hn:=ZeE
 have I':Inv X pins σ (upd H p (.lst (xs.set j v))) { s with heap:=s.heap.update p (Obj.mapSeq (·.setIfInBounds j u)) }:=
  I.lstUpd hp ho (ZgQ its n j u) (r.set rv j) (by rw [List.length_set];exact hz) s.toks
 by_cases h0:0<=k
 ·have hk:k.toNat=j:=by
   rw [seqIndex_of h0 h4] at h1
   exact Option.some.inj h1
  exact PySem.W.ki_setAt ho h0 (by omega) (by rw [List.size_toArray,<-hl];exact h4) (by rw [hk];exact ⟨_,I',q⟩)
 ·have hk:(k+(its.toArray.size:Int)).toNat=j:=by
   rw [seqIndex_neg (by omega) h3] at h1
   rw [List.size_toArray,<-hl]
   exact Option.some.inj h1
  exact PySem.W.ki_setBack ho (by omega) (by rw [List.size_toArray,<-hl];exact h3) (by omega) (by rw [hk];exact ⟨_,I',q⟩)
theorem ZeK (lo hi:Option Int) (n:Nat):(sliceBounds lo hi none n).1=((HT.sIx n 0 lo:Nat):Int)/\(sliceBounds lo hi none n).2.1=((HT.sIx n n hi:Nat):Int)/\(sliceBounds lo hi none n).2.2=1:=by
 refine ⟨?_,?_,rfl⟩
 ·cases lo with
  | none=>simp [sliceBounds,HT.sIx]
  | some i=>
   simp only [sliceBounds,HT.sIx,Option.getD_none,show (1:Int) > 0 by decide,if_true]
   by_cases h:i<0
   ·simp only [h,if_true] <;> omega
   ·simp only [h,if_false] <;> omega
 ·cases hi with
  | none=>simp [sliceBounds,HT.sIx]
  | some i=>
   simp only [sliceBounds,HT.sIx,Option.getD_none,show (1:Int) > 0 by decide,if_true]
   by_cases h:i<0
   ·simp only [h,if_true] <;> omega
   ·simp only [h,if_false] <;> omega
theorem Zd6 (its:List Value) (lo hi:Option Int):slicePick its.toArray lo hi none=((its.drop (HT.sIx its.length 0 lo)).take (HT.sIx its.length its.length hi-HT.sIx its.length 0 lo)).toArray:=by
 obtain ⟨h1,h2,h3⟩:=ZeK lo hi its.toArray.size
 unfold slicePick
 rw [h1,h2,h3]
 simp only [sliceRange_one,pick_run,List.size_toArray] <;> rfl
def ZoH (K:PySem.W.Frag):V->Option Int->Option Int->Hp->VK->Prop:=λx lo hi H Q=>∃ a xs,x=.ref a/\SqL K H a xs/\∀ p,H p=none->Q (.ref p) (upd H p (.lst (Zfl xs lo hi)))
theorem ZkT:SlR X (ZoH X.K):=by
 intro pins s σ H x v vl vu lo hi sl Q I rx hs pl pu h
 obtain ⟨a,xs,rfl,hx,q⟩:=h
 cases rx
 obtain ⟨its,r,ht,hz⟩:=I.list hx
 have hlen:=r.length
 refine ⟨"list", _,slot_list_getitem.lookup,ht.isList.typeIs,?_⟩
 refine wpAny_getItem_list_slice ht.isList hs pl pu .none (by simp) ?_ (by rw [List.size_toArray] <;> omega)
 rw [Zd6,<-hlen]
 refine ⟨.ref s.heap.objs.size,_,I.laid (t':=s.toks) (o:=.lst (Zfl xs lo hi)) (λb ob q=>Heap.get?_push_of_some _ q) (Nat.le_refl _) ?_,rfl,q _ (I.hok.fresh (Nat.le_refl _))⟩
 exact ⟨Nat.le_trans (Zdh xs lo hi) hz,_,0,(r.drop (HT.sIx xs.length 0 lo)).take (HT.sIx xs.length xs.length hi-HT.sIx xs.length 0 lo),Heap.get?_push_size _ rfl⟩
def Zck:V->Bool
 | .non=>true
 | .bl _=>true
 | .int _=>true
 | .str _=>true
 | _=>false
def eqV:V->V->Bool
 | .non,.non=>true
 | .bl a,.bl b=>a == b
 | .bl a,.int b=>(if a then 1 else 0) == b
 | .int a,.bl b=>a == (if b then 1 else 0)
 | .int a,.int b=>a == b
 | .str a,.str b=>a == b
 | _,_=>false
theorem Zms {A:Around} {s:Shared} {y x:V} {u v:Value} (ry:RelV y u) (rx:RelV x v) (fy:Zck y=true) (fx:Zck x=true):SeqAt.EqAt A s u v (eqV y x):=by
 cases y with
 | non=>
  cases ry
  cases x with
  | non=>cases rx;exact SeqAt.EqAt.same _
  | bl b=>cases rx;exact SeqAt.EqAt.none_bool b
  | int b=>obtain ⟨t,rfl⟩:=rx;exact SeqAt.EqAt.none_int b t
  | str b=>obtain ⟨t,rfl⟩:=rx;exact SeqAt.EqAt.none_str b t
  | _=>exact absurd (show false=true from fx) Bool.false_ne_true
 | bl a=>
  cases ry
  cases x with
  | non=>cases rx;exact SeqAt.EqAt.bool_none a
  | bl b=>cases rx;exact SeqAt.EqAt.bool_bool a b
  | int b=>obtain ⟨t,rfl⟩:=rx;exact SeqAt.EqAt.bool_int a b t
  | str b=>obtain ⟨t,rfl⟩:=rx;exact SeqAt.EqAt.bool_str a b t
  | _=>exact absurd (show false=true from fx) Bool.false_ne_true
 | int a=>
  obtain ⟨t',rfl⟩:=ry
  cases x with
  | non=>cases rx;exact SeqAt.EqAt.int_none a t'
  | bl b=>cases rx;exact SeqAt.EqAt.int_bool a t' b
  | int b=>obtain ⟨t,rfl⟩:=rx;exact SeqAt.EqAt.int_int a t' b t
  | str b=>obtain ⟨t,rfl⟩:=rx;exact SeqAt.EqAt.int_str a t' b t
  | _=>exact absurd (show false=true from fx) Bool.false_ne_true
 | str a=>
  obtain ⟨t',rfl⟩:=ry
  cases x with
  | non=>cases rx;exact SeqAt.EqAt.str_none a t'
  | bl b=>cases rx;exact SeqAt.EqAt.str_bool a t' b
  | int b=>obtain ⟨t,rfl⟩:=rx;exact SeqAt.EqAt.str_int a t' b t
  | str b=>obtain ⟨t,rfl⟩:=rx;exact SeqAt.EqAt.str_str a t' b t
  | _=>exact absurd (show false=true from fx) Bool.false_ne_true
 | _=>exact absurd (show false=true from fy) Bool.false_ne_true
def eqU (x:V) (u:Value):Bool:=match u with
 | .none=>eqV .non x
 | .bool b=>eqV (.bl b) x
 | .int i _=>eqV (.int i) x
 | .str z _=>eqV (.str z) x
 | _=>false
theorem Zkf {x y:V} {u:Value} (r:RelV y u) (f:Zck y=true):eqU x u=eqV y x:=by
 cases y with
 | non=>cases r;rfl
 | bl b=>cases r;rfl
 | int i=>obtain ⟨t,rfl⟩:=r;rfl
 | str z=>obtain ⟨t,rfl⟩:=r;rfl
 | _=>exact absurd (show false=true from f) Bool.false_ne_true
theorem Zdi {x:V}:∀ {xs:List V} {us:List Value},Vals xs us->xs.all Zck=true->us.any (eqU x)=xs.any λy=>eqV y x
 | _,_,.nil,_=>rfl
 | y::xs,u::us,.cons r t,f=>by
  rw [List.all_cons,Bool.and_eq_true] at f
  rw [List.any_cons,List.any_cons,Zkf r f.1,Zdi t f.2]
theorem Zcl {A:Around} {s:Shared} {x:V} {v:Value} (rx:RelV x v) (fx:Zck x=true):∀ {xs:List V} {us:List Value},Vals xs us->xs.all Zck=true->∀ u∈us,SeqAt.EqAt A s u v (eqU x u)
 | _,_,.nil,_=>λu hu=>by cases hu
 | y::xs,u::us,.cons r t,f=>λu' hu=>by
  rw [List.all_cons,Bool.and_eq_true] at f
  rcases List.mem_cons.mp hu with rfl | hu
  ·rw [Zkf r f.1];exact Zms r rx f.1 fx
  ·exact Zcl rx fx t f.2 u' hu
def inV (x:V) (xs:List V):Bool:=xs.any λy=>eqV y x
def rIn (K:PySem.W.Frag) (neg:Bool):R2:=λx y H Q=>∃ p xs,y=.ref p/\(SqL K H p xs\/SqT K H p xs)/\Zck x=true/\xs.all Zck=true/\Q (.bl (if neg then !inV x xs else inV x xs)) H
theorem ZhL:OpR X (compareOp .In) (rIn X.K false):=by
 intro pins s σ H x y v u Q I rx ry h
 obtain ⟨p,xs,rfl,hq,fx,fs,q⟩:=h
 cases ry
 rcases hq with hq | hq
 ·obtain ⟨its,r,pl,hz⟩:=I.list hq
  refine SeqAt.in_listAt (eqU x) pl.isList (λw hw=>Zcl rx fx r fs w (by simpa using hw)) ⟨.bl _,H,I,rfl,?_⟩
  rw [show its.toArray.any (eqU x)=its.any (eqU x) by simp,Zdi r fs]
  exact q
 ·obtain ⟨its,r,pl,hz⟩:=I.tuple hq
  refine SeqAt.in_tupleAt (eqU x) pl (λw hw=>Zcl rx fx r fs w (by simpa using hw)) ⟨.bl _,H,I,rfl,?_⟩
  rw [show its.toArray.any (eqU x)=its.any (eqU x) by simp,Zdi r fs]
  exact q
theorem ZeL:OpR X (compareOp .NotIn) (rIn X.K true):=by
 intro pins s σ H x y v u Q I rx ry h
 obtain ⟨p,xs,rfl,hq,fx,fs,q⟩:=h
 cases ry
 rcases hq with hq | hq
 ·obtain ⟨its,r,pl,hz⟩:=I.list hq
  refine SeqAt.notIn_listAt (eqU x) pl.isList (λw hw=>Zcl rx fx r fs w (by simpa using hw)) ⟨.bl _,H,I,rfl,?_⟩
  rw [show its.toArray.any (eqU x)=its.any (eqU x) by simp,Zdi r fs]
  exact q
 ·obtain ⟨its,r,pl,hz⟩:=I.tuple hq
  refine SeqAt.notIn_tupleAt (eqU x) pl (λw hw=>Zcl rx fx r fs w (by simpa using hw)) ⟨.bl _,H,I,rfl,?_⟩
  rw [show its.toArray.any (eqU x)=its.any (eqU x) by simp,Zdi r fs]
  exact q
theorem ZeM:ZbC X (.builtin "len") (λxs H Q=>∃ p ys,xs=[.ref p]/\(SqL X.K H p ys\/SqT X.K H p ys)/\Q (.int ys.length) H):=by
 intro pins s σ H xs us Q I r h
 obtain ⟨p,ys,rfl,hq,q⟩:=h
 obtain ⟨u,rfl,rx⟩:=Zmo r
 cases rx
 have hn:=ZeE
 rcases hq with hq | hq
 ·obtain ⟨its,r',pl,hz⟩:=I.list hq
  have hlen:=r'.length
  exact Calls.call_len_list pl.isList (by simp only [List.size_toArray] <;> omega) ⟨.int ys.length,H,I.tok _,⟨s.toks+1,by rw [List.size_toArray,hlen]⟩,q⟩
 ·obtain ⟨its,r',pl,hz⟩:=I.tuple hq
  have hlen:=r'.length
  exact len_tuple pl (by simp only [List.size_toArray] <;> omega) ⟨.int ys.length,H,I.tok _,⟨s.toks+1,by rw [List.size_toArray,hlen]⟩,q⟩
theorem ZeN:ZbC X (.type "list") (λxs H Q=>∃ p ys,xs=[.ref p]/\(SqL X.K H p ys\/SqT X.K H p ys)/\∀ l,H l=none->Q (.ref l) (upd H l (.lst ys))):=by
 intro pins s σ H xs us Q I r h
 obtain ⟨p,ys,rfl,hq,q⟩:=h
 obtain ⟨u,rfl,rx⟩:=Zmo r
 cases rx
 have fin:∀ (its:List Value),Vals ys its->ys.length<=sizeLine->∀ (h':Heap) (c':Nat),(∀ b o',s.heap.get? b=some o'->h'.get? b=some o') ->
   h'.get? s.heap.objs.size=some { cls:=.type "list", dict:=none,data:=.seq its.toArray c',slots:=#[] }->EP X pins σ Q (.ref s.heap.objs.size) { s with heap:=h' }:=λits r' hz h' c' kp e=>
  ⟨.ref s.heap.objs.size,_,I.laid (t':=s.toks) kp (Nat.le_refl _) (show ObjOk X.prog X.w _ h' _ (.lst ys) from ⟨hz,its,c',r',e⟩),rfl,q _ (I.hok.fresh (Nat.le_refl _))⟩
 rcases hq with hq | hq
 ·obtain ⟨its,r',pl,hz⟩:=I.list hq
  have hlen:=r'.length
  obtain ⟨o,ho,hc,n,hd⟩:=pl.isList
  exact call_list_seq p (.inl rfl) ho hc hd (λh' c' kp e=>fin its r' hz h' c' kp e) (by simp only [List.size_toArray] <;> omega)
 ·obtain ⟨its,r',pl,hz⟩:=I.tuple hq
  have hlen:=r'.length
  obtain ⟨o,ho,hc,n,hd⟩:=pl
  exact call_list_seq p (.inr rfl) ho hc hd (λh' c' kp e=>fin its r' hz h' c' kp e) (by simp only [List.size_toArray] <;> omega)
def tyV (K:PySem.W.Frag) (T:String) (x:V) (H:Hp):Prop:=match x with
 | .str _=>T = "str"
 | .int _=>T = "int"
 | .ref p=>(T = "list" /\ ∃ xs,SqL K H p xs)\/(T = "tuple" /\ ∃ o,K.lookup p=some o/\o.cls=.type "tuple" /\ o.dict=none) \/
   (T = "dict" /\ ((∃ kvs,H p=some (.dK kvs))\/∃ kvs,H p=some (.dT kvs)))\/(T = "set" /\ ∃ S n,H p=some (.set S n))
 | _=>False
theorem Zkg {pins:List (Addr×Obj)} {σ:St} {H:Hp} {s:Shared} {T:String} {x:V} {v:Value} (I:Inv X pins σ H s) (r:RelV x v) (ty:tyV X.K T x H) :
  s.TypeIs v T/\∀ a,v=.ref a->∃ ob,s.heap.get? a=some ob/\ob.dict=none:=by
 cases x with
 | str z=>
  obtain ⟨t,rfl⟩:=r
  cases (show T = "str" from ty)
  exact ⟨typeIs_str s z t,λ_ e=>nomatch e⟩
 | int i=>
  obtain ⟨t,rfl⟩:=r
  cases (show T = "int" from ty)
  exact ⟨typeIs_int s i t,λ_ e=>nomatch e⟩
 | ref p=>
  cases r
  rcases ty with ⟨rfl,xs,hq⟩ | ⟨rfl,o,hk,hc,hd⟩ | ⟨rfl,hk⟩ | ⟨rfl,S,n,hk⟩
  ·obtain ⟨its,_,pl,_⟩:=I.list hq
   refine ⟨pl.isList.typeIs,λa e=>?_⟩
   cases e
   obtain ⟨o,n,e,c,hd,_⟩:=pl
   exact ⟨o,e,hd⟩
  ·refine ⟨⟨o,I.kIn p o hk,hc⟩,λa e=>?_⟩
   cases e
   exact ⟨o,I.kIn _ o hk,hd⟩
  ·have z:∃ o,s.heap.get? p=some o/\o.ExactDict:=by
    rcases hk with ⟨kvs,hk⟩ | ⟨kvs,hk⟩
    ·obtain ⟨_,_,_,_,o,_,_,e,ex,_⟩:=I.hok p _ hk
     exact ⟨o,e,ex⟩
    ·obtain ⟨_,_,_,_,o,_,_,e,ex,_⟩:=I.hok p _ hk
     exact ⟨o,e,ex⟩
   obtain ⟨o,e,ex⟩:=z
   refine ⟨⟨o,e,ex.1⟩,λa e2=>?_⟩
   cases e2
   exact ⟨o,e,ex.2.1⟩
  ·obtain ⟨o,_,_,_,e,ex,_⟩:=I.hok p _ hk
   refine ⟨⟨o,e,ex.1⟩,λa e2=>?_⟩
   cases e2
   exact ⟨o,e,ex.2.1⟩
 | _=>exact False.elim ty
def Zpw (K:PySem.W.Frag) (T:String) (r:V->List V->Hp->VK->Prop) (to:TE):TE:=λσ H Q=>to σ H λx H1=>tyV K T x H1/\r x [] H1 Q
def tBM (K:PySem.W.Frag) (T:String) (r:V->List V->Hp->VK->Prop) (to:TE) (t:TA):TE:=λσ H Q=>to σ H λx H1=>tyV K T x H1/\t σ H1 λxs H2=>r x xs H2 Q
variable {o e:Expr} {es:List Expr} {to:TE} {t:TA} {name:Str} {apos cpos:Pos} {T id:String} {r:V->List V->Hp->VK->Prop}
theorem ZhM (pa:PlainAttrs T) (slot:Slot T name id) (hty:typeOf (.builtin id)=pure (.type "method_descriptor")) (hm:MtR X id r) (ho:PE X o to)
  (hbase:attributeBase o name X.env (eval o X.env)=eval o X.env:=by rfl) (hline:(apos.endLine == cpos.line)=true:=by rfl):PE X (.Call (.Attribute o name apos) [] [] cpos) (Zpw X.K T r to):=by
 intro pins s σ H Q I h
 refine wpAny_Call_method0_late hbase hline (thn (ho pins s σ H _ I h) λv s1 ⟨x,H1,I1,r1,ty,q1⟩=>?_)
 obtain ⟨h1,h2⟩:=Zkg I1 r1 ty
 exact ⟨T,id,pa,slot,hty,h1,h2,Calls.callWith_builtin rfl (PySem.evalArgs_none (hm pins s1 σ H1 x [] v [] Q I1 r1 .nil q1))⟩
theorem Zdj (pa:PlainAttrs T) (slot:Slot T name id) (hty:typeOf (.builtin id)=pure (.type "method_descriptor")) (hm:MtR X id r) (ho:PE X o to) (ha:PA X (e::es) t)
  (hbase:attributeBase o name X.env (eval o X.env)=eval o X.env:=by rfl)
  (hfew:((backTo cpos (starEach (e::es) X.env)).all (λx=>!x.1) && (backToKw cpos (keywordEach [] X.env)).all (λx=>x.1.isSome)
   && decide ((e::es).length+([]:List Keyword).length+(if ([]:List Keyword).isEmpty then 0 else 1)<30))=true:=by rfl)
  (hline:(apos.endLine == cpos.line)=true:=by rfl) (hs:starEach (e::es) X.env=(false,eval e X.env)::starEach es X.env:=by rfl) (hplain:(backTo cpos (starEach es X.env)).any (·.1)=false:=by rfl) :
  PE X (.Call (.Attribute o name apos) (e::es) [] cpos) (tBM X.K T r to t):=by
 intro pins s σ H Q I h
 refine wpAny_Call_method_late hbase hfew hline rfl (thn (ho pins s σ H _ I h) λv s1 ⟨x,H1,I1,r1,ty,q1⟩=>?_)
 obtain ⟨h1,h2⟩:=Zkg I1 r1 ty
 refine ⟨T,id,pa,slot,hty,h1,h2,?_⟩
 have hA:=ha cpos pins s1 σ H1 _ I1 q1
 rw [hs] at hA ⊢
 refine Calls.callWith_builtin (by show (false || (backTo cpos (starEach es X.env)).any (·.1))=false;rw [hplain] <;> rfl) (Calls.evalArgs_plain ?_)
 exact thn hA λus s2 ⟨vs,H2,I2,r2,q2⟩=>hm pins s2 σ H2 x vs v us Q I2 r1 r2 q2
/- xs.append(e),list.index on a module's tuple .. are MtR facts of 06m -/
end
end L2
namespace L2
open PySem PySem.Spec PyProof.Rows
def MtM (X:Cx) (id:String) (r:V->List V->Hp->VK->Prop):Prop:=
 ∀ (pins:List (Addr×Obj)) (s:Shared) (σ:St) (H:Hp) (x:V) (xs:List V) (v:Value) (us:List Value) (Q:VK),Inv X pins σ H s->RelV x v->Vals xs us->r x xs H Q ->
  wpAny (model X.prog X.w) X.A (call (.builtin id) (v::us)) (EP X pins σ Q) X.xe s
theorem Vals.one:∀ {x:V} {us:List Value},Vals [x] us->∃ u,us=[u]/\RelV x u
 | _,_,.cons r .nil=>⟨_,rfl,r⟩
theorem Vals.two:∀ {x y:V} {us:List Value},Vals [x,y] us->∃ u v,us=[u,v]/\RelV x u/\RelV y v
 | _,_,_,.cons r (.cons q .nil)=>⟨_,_,rfl,r,q⟩
theorem Vals.zero:∀ {us:List Value},Vals [] us->us=[]
 | _,.nil=>rfl
theorem Vals.dropLast {xs:List V} {us:List Value} (h:Vals xs us):Vals xs.dropLast us.dropLast:=by
 induction h with
 | nil=>exact .nil
 | cons r t ih=>
  cases t with
  | nil=>exact .nil
  | cons q t'=>exact .cons r ih
theorem Vals.eraseIdx:∀ {xs:List V} {us:List Value} (i:Nat),Vals xs us->Vals (xs.eraseIdx i) (us.eraseIdx i)
 | _,_,_,.nil=>.nil
 | _,_,0,.cons _ t=>t
 | _,_,i+1,.cons r t=>.cons r (Vals.eraseIdx i t)
theorem ZgR {α:Type} (l:List α):l.eraseIdx (l.length-1)=l.dropLast:=by
 induction l with
 | nil=>rfl
 | cons a r ih=>
  cases r with
  | nil=>rfl
  | cons b r=>
   have e:(a::b::r).length-1=((b::r).length-1)+1:=by
    have h1:(a::b::r).length=r.length+2:=rfl
    have h2:(b::r).length=r.length+1:=rfl
    omega
   rw [e,List.eraseIdx_cons_succ,ih]
   all_goals rfl
theorem ZeO {α:Type}:∀ (l:List α) (i:Nat),(l.eraseIdx i).length<=l.length
 | [],_=>Nat.le_refl _
 | _::_,0=>Nat.le_succ _
 | _::r,i+1=>Nat.succ_le_succ (ZeO r i)
section
variable {X:Cx} {pins:List (Addr×Obj)} {σ:St} {H:Hp} {s:Shared} {l b:Addr} {xs ys zs:List V}
theorem Inv.lset {its its':List Value} {n:Nat} {f:Array Value->Array Value} {t':Nat} (I:Inv X pins σ H s) (hH:H l=some (.lst xs))
  (e:s.heap.get? l=some { cls:=.type "list", data:=.seq its.toArray n }) (hf:f its.toArray=its'.toArray) (hv:Vals ys its') (hz:ys.length<=sizeLine) :
  Inv X pins σ (upd H l (.lst ys)) { s with heap:=s.heap.update l (Obj.mapSeq f),toks:=t' }:=by
 have q:=PySem.IsL.update e f
 rw [hf] at q
 refine I.write (x:=l) (e:=l) (by rw [hH];exact trivial) (.inl rfl) (λb' u hb hu=>(Heap.get?_update_other s.heap (Obj.mapSeq f) (Ne.symm hb)).trans hu) ⟨_,q⟩ ?_
 exact ⟨hz,its',_,hv,q⟩
theorem Inv.lnew {its:List Value} {t':Nat} (I:Inv X pins σ H s) (hv:Vals ys its) (hz:ys.length<=sizeLine) :
  Inv X pins σ (upd H s.heap.objs.size (.lst ys)) { s with heap:=s.heap.push { cls:=.type "list", data:=.seq its.toArray },toks:=t' }:=
 I.laid (λ_ _ q=>Heap.get?_push_of_some _ q) (Nat.le_refl _) ⟨hz,its,0,hv,Heap.get?_push_size _ rfl⟩
theorem Inv.fresh (I:Inv X pins σ H s):H s.heap.objs.size=none:=I.hok.fresh (Nat.le_refl _)
theorem Inv.lstM (I:Inv X pins σ H s) (hH:H l=some (.lst xs)):xs.length<=sizeLine/\∃ (its:List Value) (n:Nat),Vals xs its/\xs.length=its.length/\s.heap.get? l=some { cls:=.type "list", data:=.seq its.toArray n }:=by
 obtain ⟨z,its,n,r,e⟩:=I.hok l _ hH
 exact ⟨z,its,n,r,r.length,e⟩
theorem Zjb {n:Nat} (h:n<=sizeLine):Builtin.List.listTooLong n=false:=by
 unfold Builtin.List.listTooLong
 exact decide_eq_false (by omega)
end
section
variable {X:Cx}
def ZkU:V->List V->Hp->VK->Prop:=λx vs H Q=>∃ l xs y,x=.ref l/\vs=[y]/\H l=some (.lst xs)/\xs.length<sizeLine/\Q .non (upd H l (.lst (xs++[y])))
theorem ZaY:MtM X "list.append" ZkU:=by
 intro pins s σ H x vs v us Q I rx rv h
 obtain ⟨l,xs,y,rfl,rfl,hH,hz,q⟩:=h
 cases rx
 obtain ⟨u,rfl,ru⟩:=rv.one
 obtain ⟨z,its,n,r,hl,e⟩:=I.lstM hH
 refine call_meets F.slot_list_append ⟨_,e,rfl⟩ F.entry_list_append (F.args_list_append_2 _ _) (PySem.list_append l its.toArray n u (by rw [List.size_toArray];omega)) ⟨e,?_⟩
 refine ⟨.non,_,I.lset (its':=its++[u]) hH e (by simp) (r.append (.cons ru .nil)) ?_,rfl,q⟩
 rw [List.length_append,List.length_singleton]
 omega
def ZkV:V->List V->Hp->VK->Prop:=λx vs H Q=>∃ l b xs zs,x=.ref l/\vs=[.ref b]/\H l=some (.lst xs)/\H b=some (.lst zs)/\xs.length+zs.length<=sizeLine/\Q .non (upd H l (.lst (xs++zs)))
theorem ZhN:MtM X "list.extend" ZkV:=by
 intro pins s σ H x vs v us Q I rx rv h
 obtain ⟨l,b,xs,zs,rfl,rfl,hH,hB,hz,q⟩:=h
 cases rx
 obtain ⟨u,rfl,ru⟩:=rv.one
 cases ru
 obtain ⟨z,its,n,r,hl,e⟩:=I.lstM hH
 obtain ⟨z2,its2,n2,r2,hl2,e2⟩:=I.lstM hB
 have hsz:its.toArray.size+its2.toArray.size<=sizeLine:=by rw [List.size_toArray,List.size_toArray];omega
 have hlong:¬ (!its.toArray.isEmpty && Builtin.List.listTooLong (its.toArray.size+its2.toArray.size))=true:=by
  rw [Zjb hsz,Bool.and_false]
  exact Bool.false_ne_true
 refine call_meets F.slot_list_extend ⟨_,e,rfl⟩ F.entry_list_extend (F.args_list_extend_2 _ _)
  (AutoSeq1.list_extend_list_list_0 l its.toArray n b its2.toArray n2 hlong (by rw [List.size_toArray];omega) (by omega)) ⟨e,e2,?_⟩
 refine ⟨.non,_,I.lset (its':=its++its2) hH e (by simp) (r.append r2) ?_,rfl,q⟩
 rw [List.length_append]
 omega
def Zpx:V->List V->Hp->VK->Prop:=λx vs H Q=>∃ l xs y,x=.ref l/\vs=[]/\H l=some (.lst xs)/\xs[xs.length-1]?=some y/\Q y (upd H l (.lst xs.dropLast))
theorem ZhO:MtM X "list.pop" Zpx:=by
 intro pins s σ H x vs v us Q I rx rv h
 obtain ⟨l,xs,y,rfl,rfl,hH,hy,q⟩:=h
 cases rx
 have hus:=rv.zero
 subst hus
 obtain ⟨z,its,n,r,hl,e⟩:=I.lstM hH
 obtain ⟨u,hu,ru⟩:=r.get hy
 have hy':its.toArray[its.toArray.size-1]?=some u:=by
  show its.toArray[its.length-1]?=some u
  rw [<-Array.getElem?_toList,<-hl]
  exact hu
 refine call_meets F.slot_list_pop ⟨_,e,rfl⟩ F.entry_list_pop (F.args_list_pop_1 _) (MeetsSeq.list_pop_last l its.toArray n u hy' (by rw [List.size_toArray];omega)) ⟨e,?_⟩
 refine ⟨y,_,I.lset (its':=its.dropLast) hH e ?_ r.dropLast ?_,ru,q⟩
 ·show its.toArray.eraseIdxIfInBounds (its.toArray.size-1)=its.dropLast.toArray
  rw [List.size_toArray,List.eraseIdxIfInBounds_toArray,ZgR]
 ·rw [List.length_dropLast]
  omega
def Zmt:V->List V->Hp->VK->Prop:=λx vs H Q=>∃ l xs i k y,x=.ref l/\vs=[.int i]/\H l=some (.lst xs)/\-(2 ^ 63)<=i/\i<2 ^ 63/\seqIndex? i xs.length=some k/\xs[k]?=some y/\Q y (upd H l (.lst (xs.eraseIdx k)))
theorem Zf4:MtM X "list.pop" Zmt:=by
 intro pins s σ H x vs v us Q I rx rv h
 obtain ⟨l,xs,i,k,y,rfl,rfl,hH,h1,h2,hk,hy,q⟩:=h
 cases rx
 obtain ⟨u,rfl,ru⟩:=rv.one
 obtain ⟨t,rfl⟩:=ru
 obtain ⟨z,its,n,r,hl,e⟩:=I.lstM hH
 obtain ⟨w,hw,rw'⟩:=r.get hy
 refine call_meets F.slot_list_pop ⟨_,e,rfl⟩ F.entry_list_pop (F.args_list_pop_2 _ _)
  (MeetsSeq.list_pop_at l its.toArray n i t k w (fitsIndex_both h1 h2) (by rw [List.size_toArray,<-hl];exact hk) (by rw [<-Array.getElem?_toList];exact hw) (by rw [List.size_toArray];omega)) ⟨e,?_⟩
 refine ⟨y,_,I.lset (its':=its.eraseIdx k) hH e ?_ (r.eraseIdx k) ?_,rw',q⟩
 ·show its.toArray.eraseIdxIfInBounds k=(its.eraseIdx k).toArray
  rw [List.eraseIdxIfInBounds_toArray]
 ·have:=ZeO xs k
  omega
def ZnD:V->List V->Hp->VK->Prop:=λx vs H Q=>∃ l xs,x=.ref l/\vs=[]/\H l=some (.lst xs)/\Q .non (upd H l (.lst xs.reverse))
def ZoI:V->List V->Hp->VK->Prop:=λx vs H Q=>∃ l xs,x=.ref l/\vs=[]/\H l=some (.lst xs)/\Q .non (upd H l (.lst []))
def Zpy:R2:=λx y H Q=>∃ l b xs zs,x=.ref l/\y=.ref b/\H l=some (.lst xs)/\H b=some (.lst zs)/\xs.length+zs.length<=sizeLine/\∀ p,H p=none->Q (.ref p) (upd H p (.lst (xs++zs)))
theorem Zf5:OpR X (binaryOp .Add) Zpy:=by
 intro pins s σ H x y v u Q I rx ry h
 obtain ⟨l,b,xs,zs,rfl,rfl,hH,hB,hz,q⟩:=h
 cases rx
 cases ry
 obtain ⟨z,its,n,r,hl,e⟩:=I.lstM hH
 obtain ⟨z2,its2,n2,r2,hl2,e2⟩:=I.lstM hB
 refine PySem.P.add_list e e2 ?_ (by rw [List.size_toArray,List.size_toArray];omega)
 have ea:its.toArray++its2.toArray=(its++its2).toArray:=by simp
 rw [ea]
 exact ⟨.ref _,_,I.lnew (t':=s.toks) (r.append r2) (by rw [List.length_append];omega),rfl,q _ I.fresh⟩
def Zqo:R2:=λx y H Q=>∃ l k xs,x=.ref l/\y=.int k/\H l=some (.lst xs)/\-(2 ^ 63)<=k/\k<2 ^ 63/\xs.length * k.toNat<=sizeLine /\
 ∀ p,H p=none->Q (.ref p) (upd H p (.lst (List.replicate k.toNat xs).flatten))
end
section
variable {prog:Program} {w:World} {A:Around} {E:Value->Shared->Prop} {s:Shared}
end
section
variable {X:Cx}
end
end L2
namespace Att
open PySem PySem.W PySem.Calls PyProof.Rows
theorem Zdk {P:Params} {h:Heap}:∀ (ns:List Int) (vs:List Value),WellAll P h vs (ns.map WData.int)->IntsAre vs ns:=by
 intro ns
 induction ns with
 | nil=>
  intro vs w
  rw [List.map_nil] at w
  cases w
  exact .nil
 | cons n ns ih=>
  intro vs w
  rw [List.map_cons] at w
  cases w with
  | cons a b=>
   cases a
   exact .cons _ _ (ih _ b)
theorem ZhP {l:OpenLaw} {n:Nat} (hn:l.most=some n) {P:Params} {h:Heap} {args:List WData} {vals:List Value}
  (hpre:l.row.toRowW.claim.pre args=true) (hwl:WellAll P h vals args) :
  ∃ a vs ns,vals=[Value.ref a]/\args=[WData.list (ns.map WData.int)]/\h.get? a=some { cls:=.type "list", data:=.seq vs.toArray }/\IntsAre vs ns/\ns.length<=n:=by
 have hsh:WShape.hasAll [] args [.list .int]=true:=(pre_splitW hpre).1
 have hc:l.pre.holds [] { args:=args }=true:=(pre_splitW hpre).2
 obtain ⟨d,r,rfl,h1,h2⟩:=hasAllW_cons hsh
 obtain rfl:=hasAllW_nil h2
 obtain ⟨xs,rfl,h3⟩:=hasW_list h1
 obtain ⟨ns,rfl⟩:=items_int h3
 have hlen:ns.length<=n:=by
  unfold OpenLaw.pre at hc
  have h4:(WTm.not (.lt (.lit (.int (n:Int))) (.len (.arg 0)))).holds [] { args:=[.list (ns.map .int)] }=true:=by
   have h4:=(holds_andW hc).1
   rw [hn] at h4
   exact h4
  have h5:=condW_of h4 (w_not (w_lt w_lit (w_len_list (w_arg rfl))))
  rw [List.length_map] at h5
  refine Nat.le_of_not_lt λq=>?_
  have q':(n:Int)<((ns.length:Nat):Int):=by omega
  first
   | (rw [decide_eq_true q'] at h5;exact absurd h5 (by decide))
   | (simp at h5;omega)
 cases hwl with
 | cons w1 w2=>
  cases w2
  cases w1 with
  | list ho hall=>exact ⟨_,_,ns,rfl,rfl,ho,Zdk ns _ hall,hlen⟩
theorem ZhQ (l:OpenLaw) (args:List WData):l.row.toRowW.claim.post args (.bool true) args=true:=
 postW_of (r:=l.row.toRowW) (X:=(true == true))
  (show WShape.has [] (.bool true) .bool=true by first | rfl | decide | simp [WShape.has,WShape.arms,WShape.armsAll])
  (show (WTm.eq .res (.lit (.bool true))).value [] { args:=args,res:=some (.bool true),after:=args }=some (.bool (true == true)) from w_eq_bool (w_res rfl) w_lit) rfl
theorem attach_call {l:OpenLaw} {n:Nat} {q:Program} {loose:List Str} {XP:(Str->Option Value)->Heap->Prop} {YP:World->Heap->Prop} {d:DefRec}
  (hn:l.most=some n) (hdf:d.params.defaults=[])
  (call:∀ (w:World) (s₀ s₁:Shared) (mg mb:Str->Option Value) (fa:Addr) (o:Obj) (pm cd doc:Value) (a:Addr) (vs:List Value) (ns:List Int),
   Ground q loose [] XP w s₀ mg mb s₁.heap->YP w s₁.heap ->
   s₁.heap.get? fa=some o->o.data=.func (docDef d.name d.params d.body d.scope pm cd doc)->s₁.heap.CodeRec cd d.name->mg d.name=some (.ref fa) ->
   s₁.heap.get? a=some { cls:=.type "list", data:=.seq vs.toArray }->IntsAre vs ns->ns.length<=n->s₁.gens=#[] ->
   codeAny (model l.prog w) callerA (.call (.ref fa) ⟨[.ref a],[]⟩) (λr s'=>r=.ok (.ret (.bool true))/\OldK s₁.heap s'.heap/\s'.os=s₁.os/\AllBare s'.gens) s₁) :
  WalkO q loose XP YP l.row.toRowW d [] (λf vs=>PySem.call f vs):=by
 intro w s₀ s₁ mg mb G Y fa o pm cd doc dV kV ho hd hcd hD hmg hg args vals as hpre hlay hrd hwl hlo
 obtain rfl:dV=.none:=Dflts.none hD hdf
 obtain rfl:kV=.none:=Dflts.noKw hD
 obtain ⟨a,vs,ns,rfl,rfl,hobj,hints,hlen⟩:=ZhP hn hpre hwl
 refine enter_call (codeAny_mono (call w s₀ s₁ mg mb fa o pm cd doc a vs ns G Y ho (fd_plain hd) hcd hmg hobj hints hlen hg) λr s' hq=>?_)
 obtain ⟨rfl,h2,h3,h4⟩:=hq
 exact ⟨.inl ⟨.bool true,.bool true,[],rfl,λ_=>rfl,.bool true,ZhQ l _,λ_=>⟨List.Pairwise.nil,λ_ hm=>(nomatch hm)⟩⟩,h2,h3,h4⟩
section
variable {prog:Program} {w:World} {A:Around} {E:Value->Shared->Prop} {s:Shared} {K:Frag}
def ZoJ (h:Heap):Heap:={ h with objs:=#[] }
def ZoK (h:Heap) (L d:Addr):List (Addr×Obj):=(List.range h.objs.size).filterMap λa=>if a=L\/a=d then none else (h.get? a).map λo=>(a,o)
end
end Att
namespace L2
open PySem PySem.Spec PyProof.Rows
theorem ZbD:∀ {vs:List Value} {ns:List Int},IntsAre vs ns->Vals (ns.map V.int) vs
 | _,_,.nil=>.nil
 | _,_,.cons n t h=>.cons ⟨t,rfl⟩ (ZbD h)
def Zn0 (H:Hp):Prop:=∀ b,H b=none\/∃ o xs,H b=some (.frz o (.lst xs))
theorem Zjc {P:Program} {w:World} {K:PySem.W.Frag} {mg mb:Str->Option Value} {CX:CXT} {k:Nat} {fa a:Addr} {fd:FuncData} {x:Str} {sp:Sp} {s₁:Shared} {vs:List Value} {ns:List Int}
  (KX:K.In s₁.heap) (hns:s₁.heap.Ns mainGlobals mg) (hb:s₁.heap.Ns builtinsNs mb) (hbb:∀ x:Str,x ≠ "__name__" -> mb x=bootBuiltins x) (hlim:s₁.heap.NoLimit) (hg:s₁.gens=#[])
  (ha:s₁.heap.get? a=some { cls:=.type "list", data:=.seq vs.toArray }) (hi:IntsAre vs ns) (hl:ns.length<=sizeLine) (hr:Room k callerA)
  (F:∀ base:Heap,K.In base->base.Ns mainGlobals mg->ZaI P w K mg base CX k fa fd [x] sp) (hbind:∀ (s:Shared) (u:Value),BindsTo s fd ⟨[u],[]⟩ [(x,u)])
  (hsp:∀ H:Hp,Zn0 H->SqL K H a (ns.map V.int)->sp [.ref a] H (λv _=>v=.bl true) λ_ _ _=>False)
  (hCX:∀ H e s',CX [] H s₁ (λ_ _ _=>False) e s'->False) :
  codeAny (model P w) callerA (.call (.ref fa) ⟨[.ref a],[]⟩) (λr s'=>r=.ok (.ret (.bool true))/\OldK s₁.heap s'.heap/\s'.os=s₁.os/\AllBare s'.gens) s₁:=by
 have rv:=ZbD hi
 have lenV:=hi.length
 have core:∀ H:Hp,Zn0 H->SqL K H a (ns.map V.int)->HOk P w H s₁.heap->(∀ b,H b≠none->b=a)->(H a≠none->K.lookup a=none) ->
   codeAny (model P w) callerA (.call (.ref fa) ⟨[.ref a],[]⟩) (λr s'=>r=.ok (.ret (.bool true))/\OldK s₁.heap s'.heap/\s'.os=s₁.os/\AllBare s'.gens) s₁:=by
  intro H hO hS hok hA hK
  have base_of:∀ {b:Addr} {o:Obj},s₁.heap.get? b=some o->H b=none->(Zi4 s₁.heap H).get? b=some o:=λe n=>Zi5 e n
  have noA:∀ {b:Addr} {o:Obj} {es:Array DictEntry} {ep:Nat},s₁.heap.get? b=some o->o.data=.dict es ep->H b=none:=λ{b o es ep} e d=>by
   cases q:H b with
   | none=>rfl
   | some u=>
    have e':b=a:=hA b (by rw [q];simp)
    subst e'
    rw [ha] at e;cases e
    have d':Data.seq vs.toArray _=Data.dict es ep:=d
    cases d'
  have nsK:∀ {b:Addr} {m:Str->Option Value},s₁.heap.Ns b m->(Zi4 s₁.heap H).Ns b m:=λ{b m} ⟨o,es,ep,e,d,r⟩=>⟨o,es,ep,base_of e (noA e d),d,r⟩
  have hKb:K.In (Zi4 s₁.heap H):=λb o e=>base_of (KX b o e) (by
   cases q:H b with
   | none=>rfl
   | some u=>
    have e':b=a:=hA b (by rw [q];simp)
    subst e'
    rw [hK (by rw [q];simp)] at e;cases e)
  have hM:Mod K mg (Zi4 s₁.heap H):=⟨hKb,nsK hns,⟨mb,nsK hb,hbb⟩,let ⟨mc,h1,h2⟩:=hlim;⟨mc,nsK h1,h2⟩⟩
  have e0:ZnC P w K mg (Zi4 s₁.heap H) callerA [] s₁ H:=⟨rfl,hM,λb o e=>ZkM e,Nat.le_of_eq (Zhr _ _),trivial,λb hb=>absurd (show b∈([]:List Addr) from hb) (by simp),hok,.of_eq hg⟩
  refine codeAny_mono ((F _ hKb (nsK hns)).run callerA [] s₁ H ⟨[.ref a],[]⟩ [.ref a] [.ref a] _ _ hr e0 (hbind s₁ (.ref a)) (.cons rfl .nil) (hsp H hO hS)) λr s' h=>?_
  cases r with
  | error e=>exact (hCX H e s' h).elim
  | ok fl=>
   cases fl with
   | next=>exact False.elim h
   | brk=>exact False.elim h
   | cont=>exact False.elim h
   | ret u=>
    obtain ⟨v,H',os,bare,un,hok',r',q⟩:=h
    have q':v=.bl true:=q
    subst q'
    obtain rfl:u=Value.bool true:=r'
    refine ⟨rfl,OldK.of_keep λb o e=>?_,os,bare⟩
    cases q:H b with
    | none=>exact un.keep b o e q (by intro z;exact absurd (show b∈([]:List Addr) from z) (by simp)) (by simp)
    | some u=>
     rcases hO b with z | ⟨ob,xs,z⟩
     ·rw [q] at z;cases z
     ·have z2:=un.frzs b ob _ z
      obtain ⟨e1,_⟩:=hok b _ z
      obtain ⟨e2,_⟩:=hok' b _ z2
      rw [e] at e1;cases e1
      exact e2
 cases hk:K.lookup a with
 | some o=>
  have e:=KX a o hk
  rw [ha] at e
  cases e
  refine core (λ_=>none) (λ_=>.inl rfl) (.inr ⟨_,vs.toArray,_,hk,rfl,rfl,rfl,by rw [List.size_toArray,lenV];exact hl,by simpa using rv⟩) (λb u z=>by have z':(none:Option HO)=some u:=z;cases z') (λb z=>absurd rfl z) λz=>absurd rfl z
 | none=>
  refine core (λb=>if b=a then some (.frz { cls:=.type "list", data:=.seq vs.toArray } (.lst (ns.map V.int))) else none) (λb=>?_) (.inl (.inr ⟨{ cls:=.type "list", data:=.seq vs.toArray },if_pos rfl⟩)) (λb u z=>?_) (λb z=>?_) λ_=>hk
  ·by_cases hb:b=a
   ·exact .inr ⟨_,_,if_pos hb⟩
   ·exact .inl (if_neg hb)
  ·by_cases hb:b=a
   ·have z':=(if_pos hb).symm.trans z
    cases z'
    subst hb
    exact ⟨ha,by rw [List.length_map];exact hl,vs,_,rv,ha⟩
   ·have z':=(if_neg hb).symm.trans z
    cases z'
  ·by_cases hb:b=a
   ·exact hb
   ·exact absurd (if_neg hb) z
end L2
namespace L2
open PySem PySem.Spec PyProof.Rows
abbrev KOf {K:PySem.W.Frag} {h:Heap} (_:K.In h):PySem.W.Frag:=K
theorem walk_of {l:PySem.W.OpenLaw} {n k:Nat} {q:Program} {loose:List Str} {XP:(Str->Option Value)->Heap->Prop} {YP:World->Heap->Prop} {d:DefRec} {K:Params->PySem.W.Frag} {CX:World->CXT} {sp:World->Sp} {x:Str}
  (hn:l.most=some n) (hn2:n<=sizeLine) (hdf:d.params.defaults=[]) (hr:Room k callerA)
  (hY:∀ (w:World) (h:Heap),YP w h->(K w.params).In h)
  (F:∀ (w:World) (mg:Str->Option Value) (fa:Addr) (h:Heap),(K w.params).In h->h.Ns mainGlobals mg->mg d.name=some (.ref fa) ->
   ∃ fd:FuncData,(∀ (s:Shared) (u:Value),BindsTo s fd ⟨[u],[]⟩ [(x,u)]) /\
    ∀ base:Heap,(K w.params).In base->base.Ns mainGlobals mg->ZaI l.prog w (K w.params) mg base (CX w) k fa fd [x] (sp w))
  (hsp:∀ (w:World) (H:Hp) (a:Addr) (ns:List Int),ns.length<=n->Zn0 H->SqL (K w.params) H a (ns.map V.int)->sp w [.ref a] H (λv _=>v=.bl true) λ_ _ _=>False)
  (hCX:∀ (w:World) (H:Hp) (s:Shared) (e:Value) (s':Shared),CX w [] H s (λ_ _ _=>False) e s'->False) :
  PySem.W.WalkO q loose XP YP l.row.toRowW d [] (λf vs=>PySem.call f vs):=by
 refine Att.attach_call hn hdf λw s₀ s₁ mg mb fa o pm cd doc a vs ns G Y ho hd hcd hmg hobj hints hlen hg=>?_
 have KX:=hY w _ Y
 obtain ⟨fd,hb,hF⟩:=F w mg fa _ KX G.T.g hmg
 exact Zjc KX G.T.g G.T.b G.T.builtins G.T.nolimit hg hobj hints (Nat.le_trans hlen hn2) hr hF hb (λH hO hS=>hsp w H a ns hlen hO hS) λH e s'=>hCX w H s₁ e s'
end L2
/- THE LAST THEOREM (shape;LID,My.* are yours):
  My.Adr: a structure of the addresses that your layer names (classes,functions);My.Txt K t: a structure (Prop) of the equations over K;
  My.txt_mk:{K} {implicit addresses ..} (e1:nsIn K mainGlobals "law" = some (some (.ref f))) (e2:K.lookup f=some ⟨oc,od,.func (fnOf "law" "law" params body scope dV kV doc pm an cdv ct),sl⟩) (e3:codeIn K cdv "law" = true) ..:∃ t,My.Txt K t
set_option maxRecDepth 100000 in
set_option maxHeartbeats 0 in
theorem PySem.Challenge.cw_LID_holds:PySem.Challenge.rw_LID.Holds:=by
 w_on;o_law;k_head;(case hw=>w_witness2)
 k_fill
 refine L2.walk_of (l:=PySem.Challenge.rw_LID) (n:=63) (k:=40) (x := "script") (CX:=λw=>..) (sp:=λ_=>My.sp_law) rfl (by decide) rfl ⟨rfl,by decide,by decide⟩ (λw h Y=>PySem.W.kIn_of Y) ?F ?S ?C
 case F=>
  intro w mg fa h KX G hmg
  have T:∃ t,My.Txt (L2.KOf KX) t:=by
   dsimp only [L2.KOf]                          -- K must stand as «<heap const> w.params» for k_is
   refine' My.txt_mk ?e1 ?e2 ?e3 ..
   (case e1=>PySem.W.k_is)                    -- in the order: a name->its address->its object->its parts
   (case e2=>PySem.W.k_is)
   ..
  obtain ⟨t,T⟩:=T
  have e0:=hmg.symm.trans (PySem.W.mg_of KX G T.law)
  cases e0                                       -- fa is the law's own address
  exact ⟨_,λs u=>.of_eq rfl,λbase kb nb=>My.law_fn T kb nb⟩     -- if «.of_eq rfl» comes too early: refine' ⟨_,?b,λbase kb nb=>My.law_fn T kb nb⟩;exact λs u=>.of_eq rfl
 case S=>exact λw H a ns hl hO hS=>..
 case C=>exact ..
(the tactic k_is has no namespace: write k_is) -/
namespace L2
open PySem PySem.Spec PyProof.Rows
def Zn1 (s:Stmt) (j:Nat):Stmt:=match s with
 | .ClassDef _ _ _ body _ _ _ _ _ _ _=>body.getD j (.Pass ⟨0,0,0,0⟩)
 | _=>.Pass ⟨0,0,0,0⟩
def Zat (s:Stmt):Arguments:=match s with
 | .FunctionDef _ a _ _ _ _ _ _ _ _=>a
 | _=>{ posonlyargs:=[],args:=[],vararg:=none,kwonlyargs:=[],kw_defaults:=[],kwarg:=none,defaults:=[] }
def Zaq (s:Stmt):List Stmt:=match s with
 | .FunctionDef _ _ b _ _ _ _ _ _ _=>b
 | _=>[]
def Zae (s:Stmt):Scope:=match s with
 | .FunctionDef _ _ _ _ _ _ sc _ _ _=>sc
 | _=>{ kind:=.function,names:=[],isGenerator:=false,isCoroutine:=false }
abbrev CX0:CXT:=λ_ _ _ _ _ _=>False
abbrev E0:XK:=λ_ _ _=>False
theorem ZaL {X:Cx}:ZeF CX0 X E0:=λ_ _ _ _ _ _ _ h=>h.elim
structure Fun (K:PySem.W.Frag) (x qual:Str) (st:Stmt) (f:Addr) (fd:FuncData):Prop where
 ex:∃ (oc:Value) (od:Option Addr) (kV doc pm:Value) (an:Option Addr) (cdv ct:Value) (osl:Array (Option Value)),
  fd=PySem.W.fnOf x qual (Zat st) (Zaq st) (Zae st) .none kV doc pm an cdv ct/\K.lookup f=some ⟨oc,od,.func fd,osl⟩/\PySem.W.codeIn K cdv qual=true
 kp:PySem.W.keepIn K (.ref f)=true
section
variable {P:Program} {w:World} {K:PySem.W.Frag} {mg:Str->Option Value} {base:Heap}
theorem Fun.ok {x qual:Str} {st:Stmt} {f:Addr} {fd:FuncData} {N ps:List Str} {k:Nat} {sp:Sp} (F:Fun K x qual st f fd) (S:Zau N ps (Zae st)) (len:∀ vs H Q E,sp vs H Q E->vs.length=ps.length)
  (hbody:∀ (cdv:Value) (A:Around) (outer:List Env) (s:Shared) (H:Hp) (vs:List V) (Q:VK) (E:XK),Room k (A.deeper (envOfC qual (Zae st) s.heap.objs.size f cdv))->sp vs H Q E ->
   ∃ t,PSs (ZhI CX0 P w K mg base N qual (Zae st) f cdv A outer s H E).nox (Zaq st) t/\t { nx:=λ_ H'=>Q .non H',rt:=Q } (start N vs) H):ZaI P w K mg base CX0 (k+1) f fd ps sp:=by
 obtain ⟨oc,od,kV,doc,pm,an,cdv,ct,osl,rfl,lk,hcd⟩:=F.ex
 refine ZkQ lk hcd S len λA outer s H vs Q E hr hsp=>?_
 obtain ⟨t,h,q⟩:=hbody cdv A outer s H vs Q E hr hsp
 exact ⟨t,h.nox,q⟩
theorem Fun.binds {x qual:Str} {st:Stmt} {f:Addr} {fd:FuncData} {ps:List Str} (F:Fun K x qual st f fd)
  (h:∀ (kV doc pm:Value) (an:Option Addr) (cdv ct:Value) (us:List Value),us.length=ps.length->bindArgs (PySem.W.fnOf x qual (Zat st) (Zaq st) (Zae st) .none kV doc pm an cdv ct) ⟨us,[]⟩=pure (ps.zip us)):Binds K fd ps []:=by
 obtain ⟨oc,od,kV,doc,pm,an,cdv,ct,osl,rfl,lk,hcd⟩:=F.ex
 exact .all (h kV doc pm an cdv ct)
theorem ZaK {x qual:Str} {st:Stmt} {f:Addr} {oc:Value} {od an:Option Addr} {osl:Array (Option Value)} {kV doc pm cdv ct:Value} (l:K.lookup f=some ⟨oc,od,.func (PySem.W.fnOf x qual (Zat st) (Zaq st) (Zae st) .none kV doc pm an cdv ct),osl⟩)
  (c:PySem.W.codeIn K cdv qual=true) (k:PySem.W.keepIn K (.ref f)=true):Fun K x qual st f (PySem.W.fnOf x qual (Zat st) (Zaq st) (Zae st) .none kV doc pm an cdv ct):=⟨⟨oc,od,kV,doc,pm,an,cdv,ct,osl,rfl,l,c⟩,k⟩
end
section
variable {X:Cx}
theorem pv (i:Nat) {x:Str} {pos:Pos} (hN:X.N[i]?=some x:=by rfl) (hv:Vis X.env.scope x:=by first | exact Or.inl rfl | exact Or.inr (Or.inl rfl) | exact Or.inr (Or.inr rfl)) (hd:(x == ("__debug__" : Str))=false:=by decide)
  (hcd:(x == ("__classdict__" : Str))=false:=by decide):PE X (.Name x pos) (Zow i):=Zma hN hv hd hcd
end
theorem Zbo {A B:Prop} (h:B):if false=true then A else B:=by
 rw [if_neg Bool.false_ne_true]
 exact h
theorem Zbz {A B:Prop} (h:A):if true=true then A else B:=by
 rw [if_pos rfl]
 exact h
theorem Zfv {c A B:Prop} [Decidable c] (h1:c->A) (h2:¬ c->B):if c then A else B:=by
 by_cases h:c
 ·rw [if_pos h]
  exact h1 h
 ·rw [if_neg h]
  exact h2 h
def Same (H H':Hp):Prop:=∀ b o,H b=some o->H' b=some o
theorem Same.refl (H:Hp):Same H H:=λ_ _ h=>h
theorem Same.trans {H H1 H2:Hp} (a:Same H H1) (b:Same H1 H2):Same H H2:=λc o h=>b c o (a c o h)
theorem Same.free {H H':Hp} (e:Same H H') {l:Addr} (h:H' l=Option.none):H l=Option.none:=by
 cases q:H l with
 | none=>rfl
 | some o=>
  rw [e l o q] at h
  cases h
theorem Same.seq {K:PySem.W.Frag} {H H':Hp} {a:Addr} {xs:List V} (e:Same H H') (h:SqL K H a xs):SqL K H' a xs:=by
 rcases h with (h | ⟨o,h⟩) | h
 ·exact .inl (.inl (e _ _ h))
 ·exact .inl (.inr ⟨o,e _ _ h⟩)
 ·exact .inr h
end L2
namespace L2
open PySem PySem.Spec PyProof.Rows
section
variable {prog:Program} {w:World} {A:Around} {R:Result->Shared->Prop} {s:Shared}
theorem ZeP {elt target iter:Expr} {ifs:List Expr} {scope:Scope} {pos:Pos} {it acc:Value} {env:Env} (I:Nat->Shared->Prop)
  (turn:∀ n s,I n s->wpAny (model prog w) A (pyNext it) (λr s1=>match r with
   | none=>R (.ok .next) s1
   | some v=>wpAny (model prog w) A (letOwnedTupleGo target it v) (λ_ s1'=>wpAny (model prog w) A (assign target env v) (λ_ s2=>
     wpAny (model prog w) A (forIn ifs true λc r=>if r=true then do let ok <- isTrue c env (eval c env);pure (ForInStep.yield ok) else pure (ForInStep.yield r)) (λok s3=>
      if ok=true then wpAny (model prog w) A (eval elt env) (λx s4=>
       wpAny (model prog w) A (call (.builtin "list.append") [acc,x]) (λ_ s5=>∃ m,m<n/\I m s5) (λ_ _=>False) s4) (λ_ _=>False) s3
      else ∃ m,m<n/\I m s3) (λ_ _=>False) s2) (λ_ _=>False) s1') (λ_ _=>False) s1) (λ_ _=>False) s)
  (n:Nat) (h:I n s) :
  codeAny (model prog w) A (.compLoop (.ListComp elt [⟨target,iter,ifs,0⟩] scope pos) 0 it acc env) R s:=by
 have ff:∀ {E:Value->Shared->Prop},∀ (x:Value) (s:Shared),(λ(_:Value) (_:Shared)=>False) x s->E x s:=λ_ _ z=>False.elim z
 refine codeAny_loop rfl I (λn s hI=>?_) n h
 show wpAny _ A ((compTurn (.ListComp elt [⟨target,iter,ifs,0⟩] scope pos) 0 it acc env).onRaise (λx=>do noteFrame x env;theTreesLotGoes x)) _ _ s
 refine wpAny_noted ?_
 rw [compTurn_list]
 refine wpAny_bind (wpAny_standAt (wpAny_bind (wpAny_mono (turn n s hI) (λr s1 h1=>?_) ff)))
 cases r with
 | none=>exact wpAny_pure h1
 | some v=>
  refine wpAny_bind (wpAny_mono h1 (λ_ s1' h1'=>?_) ff)
  refine wpAny_bind (wpAny_mono h1' (λ_ s2 h2=>wpAny_bind (wpAny_mono h2 (λok s3 h3=>?_) ff)) ff)
  cases ok with
  | false=>exact wpAny_pure ⟨rfl,h3⟩
  | true=>
   exact wpAny_bind (wpAny_bind (wpAny_mono h3 (λx s4 h4=>wpAny_bind (wpAny_mono h4 (λ_ s5 h5=>wpAny_pure (wpAny_pure ⟨rfl,h5⟩)) ff)) ff))
end
def Cx.comp (X:Cx) (scope:Scope) (cl:List (Str×Addr)) (N:List Str) (C:Addr) (s:Shared) (H:Hp) (fp:List Addr):Cx:=
 { X with N:=N,s₀:=s,H₀:=H,env:=compEnvC scope cl C X.env,outer:=X.stack,ex:=fp,fn:=λ_=>false,pn:=[],xe:=λ_ _=>False }
def Zmu (X:Cx) (ifs:List Expr) (t:TT):Prop:=
 ∀ (pins:List (Addr×Obj)) (s:Shared) (σ:St) (H:Hp) (Q:Bool->Hp->Prop),Inv X pins σ H s->t σ H Q ->
  wpAny (model X.prog X.w) X.A (forIn ifs true λc r=>if r=true then do let ok <- isTrue c X.env (eval c X.env);pure (ForInStep.yield ok) else pure (ForInStep.yield r)) (TP X pins σ Q) X.xe s
def Zhk:TT:=λ_ H Q=>Q true H
theorem ZaZ {X:Cx}:Zmu X [] Zhk:=λ_ _ _ H _ I h=>wpAny_tests_nil ⟨H,I,h⟩
theorem Za0 {X:Cx} {c:Expr} {t:TT} (h:PT X c t):Zmu X [c] t:=λpins s σ H Q I hw=>wpAny_tests_one (h pins s σ H Q I hw)
structure ZbE (X:Cx) (scope:Scope) (cl:List (Str×Addr)) (own:List Str) (fr:List (Str×Nat)):Prop where
 clos:closureFor scope X.env=pure cl
 nocell:∀ y∈scope.names,y.2≠.cell
 kind:scope.kind=.function
 names:∀ y∈scope.names,y.2=.local->scope.names.lookup y.1=some .local
 cls:∀ y c,cl.lookup y=some c->X.env.cells.lookup y=some c
 has:∀ y,((relabel scope X.env).names.lookup y=some .cell\/(relabel scope X.env).names.lookup y=some .free)->∃ c,cl.lookup y=some c
 free:∀ p∈fr,X.N[p.2]?=some p.1/\(X.env.kindOf p.1=some .cell\/X.env.kindOf p.1=some .free)/\((relabel scope X.env).names.lookup p.1=some .cell\/(relabel scope X.env).names.lookup p.1=some .free)
def Zb4 (own:List Str) (fr:List (Str×Nat)) (σ:St):St:=own.map (λ_=>none)++fr.map λp=>(σ[p.2]?).join
def Zdl:St->St->Prop
 | [],[]=>True
 | none::r,_::r'=>Zdl r r'
 | some v::r,some v'::r'=>v=v'/\Zdl r r'
 | _,_=>False
theorem ZbR:∀ {a b:St},Zdl a b->∀ (i:Nat) (v:V),a[i]?=some (some v)->b[i]?=some (some v)
 | [],[],_,i,v,h=>by simp at h
 | [],_::_,z,_,_,_=>z.elim
 | none::r,[],z,_,_,_=>z.elim
 | some _::r,[],z,_,_,_=>z.elim
 | some _::r,none::_,z,_,_,_=>z.elim
 | none::r,_::r',z,0,v,h=>by simp at h
 | none::r,_::r',z,i+1,v,h=>by
  have:=ZbR (a:=r) (b:=r') z i v (by simpa using h)
  simpa using this
 | some x::r,some x'::r',z,0,v,h=>by
  obtain ⟨e,_⟩:=z
  subst e
  simpa using h
 | some x::r,some x'::r',z,i+1,v,h=>by
  have:=ZbR (a:=r) (b:=r') z.2 i v (by simpa using h)
  simpa using this
def ZbF (J:It) (D:Addr) (g:TG) (tc:TT) (te:TE) (σ0:St) (W:Nat->Nat->List V->Hp->Prop) (R:Hp->Prop):Prop:=
 ∀ i m ys H2,W i m ys H2->(J.stop i H2/\R H2)\/(J.go i H2/\∃ N:List V->Hp->Prop,(∀ ys' H',N ys' H'->∃ m',m'<m/\W (i+1) m' ys' H')/\∀ x H3,J.yld i H2 x H3->g x σ0 H3 λσ4 H4=>Zdl σ0 σ4/\tc σ4 H4 λb H5=>
  if b=true then te σ4 H5 λy H6=>H6 D=some (.lst ys)/\ys.length<sizeLine/\N (ys++[y]) (upd H6 D (.lst (ys++[y])))
  else N ys H5)
def Zmv (wi:TI) (g:TG) (tc:TT) (te:TE) (own:List Str) (fr:List (Str×Nat)):TE:=λσ H Q=>wi σ H λJ H1=>∀ D,H1 D=none ->
 ∃ W:Nat->Nat->List V->Hp->Prop,(∃ m,W 0 m [] (upd H1 D (.lst [])))/\ZbF J D g tc te (Zb4 own fr σ) W λH2=>Q (.ref D) H2
section
variable {X:Cx} {target iter elt:Expr} {ifs:List Expr} {scope:Scope} {cl:List (Str×Addr)} {own:List Str} {fr:List (Str×Nat)} {pos:Pos} {wi:TI} {g:TG} {tc:TT} {te:TE}
theorem Inv.sub_pins {pins pins':List (Addr×Obj)} {σ:St} {H:Hp} {s:Shared} (I:Inv X pins σ H s) (h:∀ p∈pins',p∈pins):Inv X pins' σ H s:=I.pins_of λp hp=>I.pin p (List.mem_append_right _ (h p hp))
theorem ZkW {pins:List (Addr×Obj)} {σ:St} {H:Hp} {s:Shared} {C:Addr} {fp:List Addr} (S:ZbE X scope cl own fr) (I:Inv X pins σ H s) (hf:∀ b∈fp,Zi1 X pins H b) (hC:s.heap.objs.size<=C) (hfl:∀ b∈fp,b<s.heap.objs.size) :
  (X.comp scope cl (own++fr.map (·.1)) C s H fp).Ok:=by
 refine ⟨I.ok.mod,?_,I.ok.glob,I.ok.blt,hC,λx y c h1 h2=>I.ok.inj x y c (S.cls x c h1) (S.cls y c h2),S.has,λx c z=>absurd z (by simp [Cx.comp]),I.ok.hd,I.ok.frames,.inl rfl,
  λb hb=>⟨Nat.ne_of_lt (Nat.lt_of_lt_of_le (hfl b hb) hC),λx c h=>(hf b hb).2.2.2.2.1 x c (S.cls x c h)⟩,I.bs,Nat.le_trans I.ok.bsz I.sz,λb o e hb=>?_,λb hb z=>?_,I.stack,I.stkFree⟩
 ·show (relabel scope X.env).kind=.function
  exact S.kind
 ·rcases (hf b hb).2.2.2.1 with z | z
  ·exact I.ok.noex b o e z
  ·exact absurd (Nat.lt_of_lt_of_le (Heap.lt_size e) (Nat.le_trans I.ok.bsz z)) (Nat.lt_irrefl _)
 ·rcases List.mem_cons.mp (I.stkSub b z) with q | q
  ·exact (hf b hb).2.1 q
  ·exact (hf b hb).2.2.1 q
theorem ZdN (own:List Str) (fr:List (Str×Nat)) (σ:St):(Zb4 own fr σ).length=(own++fr.map (·.1)).length:=by
 unfold Zb4
 simp
theorem ZdO {pins:List (Addr×Obj)} {σ:St} {H:Hp} {s:Shared} {it:Addr} {fp:List Addr} {tn:Nat->Heap->Prop} {J:It} {E:Value->Shared->Prop} {RR:Value->Addr->Result->Shared->Prop} {Rf:Addr->Hp->Prop}
  (hc:X.calm=true) (S:ZbE X scope cl own fr) (I:Inv X pins σ H s) (T:Zmf X.prog X.w X.K target J fp it tn) (st:tn 0 s.heap) (hf:∀ b∈fp,Zi1 X pins H b)
  (hg:∀ C s H fp,PG (X.comp scope cl (own++fr.map (·.1)) C s H fp) target g) (ht:∀ C s H fp,Zmu (X.comp scope cl (own++fr.map (·.1)) C s H fp) ifs tc) (he:∀ C s H fp,PE (X.comp scope cl (own++fr.map (·.1)) C s H fp) elt te)
  (hw:∀ D,H D=none->∃ W:Nat->Nat->List V->Hp->Prop,(∃ m,W 0 m [] (upd H D (.lst [])))/\ZbF J D g tc te (Zb4 own fr σ) W (Rf D))
  (hRR:∀ D C s' H',s.heap.objs.size<=C->C≠D->(∃ m,s'.heap.Ns C m)->H' C=none->Un (frs X.stack) fp H H' s.heap s'.heap->HOk X.prog X.w H' s'.heap->AllBare s'.gens->s'.os=s.os->Rf D H'->RR (.ref D) C (.ok .next) s') :
  wpAny (model X.prog X.w) X.A (newList []) (λacc s3=>wpAny (model X.prog X.w) X.A (newFunctionEnv scope X.env.globals cl [] X.env.qual none .none (some X.env)) (λcenv s4=>
   codeAny (model X.prog X.w) X.A (.compStart (.ListComp elt [⟨target,iter,ifs,0⟩] scope pos) 0 (.ref it) acc { cenv with scope:=relabel scope X.env }) (RR acc cenv.locals) s4) E s3) E s:=by
 have hfl:∀ b∈fp,b<s.heap.objs.size:=λb hb=>by
  obtain ⟨o,e,_⟩:=T.obj 0 s.heap st b hb
  exact Heap.lt_size e
 have hD:H s.heap.objs.size=none:=I.fresh
 obtain ⟨W,⟨m0,w0⟩,turns⟩:=hw s.heap.objs.size hD
 have I1:Inv X pins σ (upd H s.heap.objs.size (.lst [])) { s with heap:=s.heap.push { cls:=.type "list", data:=.seq ([]:List Value).toArray },toks:=s.toks }:=I.lnew .nil (Nat.zero_le _)
 refine wpAny_newObj_type (wpAny_newFunctionEnv S.nocell (by intro y hy;simp at hy) (λh1 hns1 hsb1=>?_) S.kind)
 dsimp only at hns1 hsb1 ⊢
 generalize hH2:s.heap.push { cls:=.type "list", dict:=none,data:=.seq ([]:List Value).toArray }=H2 at hns1 hsb1 ⊢ I1
 have hCs:H2.objs.size=s.heap.objs.size+1:=by rw [<-hH2,Heap.size_push]
 have hCle:s.heap.objs.size<=H2.objs.size:=by omega
 have hDC:s.heap.objs.size≠H2.objs.size:=by omega
 have up1:∀ b o,H2.get? b=some o->h1.get? b=some o:=λb o e=>hsb1.extBut b o (Nat.ne_of_lt (Heap.lt_size e)) (Heap.get?_push_of_some _ e)
 have up:∀ b o,s.heap.get? b=some o->h1.get? b=some o:=λb o e=>up1 b o (hH2▸Heap.get?_push_of_some _ e)
 have okY:=ZkW (C:=H2.objs.size) S I hf hCle hfl
 have I0:∀ tk,Inv (X.comp scope cl (own++fr.map (·.1)) H2.objs.size s H fp) [] (Zb4 own fr σ) (upd H s.heap.objs.size (.lst [])) { s with heap:=h1,toks:=tk }:=by
  intro tk
  have hok1:HOk X.prog X.w (upd H s.heap.objs.size (.lst [])) h1:=I1.hok.kept up1
  refine ⟨okY,rfl,I.bare,⟨λb o e n _ _=>up b o e,λb o e n _ _=>⟨o.slots,up b o e⟩,λb o e n _=>?_,λb o e _=>⟨o,up b o e⟩,λb xs q=>?_,λb o u q=>?_,λb ps q=>⟨#[],?_⟩⟩,
   ⟨_,hns1,λi x v e1 e2 e3=>?_⟩,λx c e=>?_,?_,λx c e=>?_,λp hp=>?_,hok1,ZdN own fr σ⟩
  ·have e':s.heap.get? b=some o:=e
   show upd H s.heap.objs.size (.lst []) b=none
   rw [Zam (Nat.ne_of_lt (Heap.lt_size e'))];exact n
  ·rw [Zam (Zag q hD)];exact q
  ·rw [Zam (Zag q hD)];exact q
  ·have q':H b=some (.tbl ps):=q
   rw [Zam (Zag q' hD),q'];simp
  ·-- the free names
   have e2':(Zb4 own fr σ)[i]?=some (some v):=e2
   have e1':(own++fr.map (·.1))[i]?=some x:=e1
   unfold Zb4 at e2'
   by_cases hi:i<own.length
   ·rw [List.getElem?_append_left (by simpa using hi),List.getElem?_map] at e2'
    cases q:own[i]? with
    | none=>rw [q] at e2';cases e2'
    | some y=>rw [q] at e2';cases e2'
   ·rw [List.getElem?_append_right (by simpa using hi),List.length_map,List.getElem?_map] at e2'
    rw [List.getElem?_append_right (by omega),List.getElem?_map] at e1'
    cases q:fr[i-own.length]? with
    | none=>rw [q] at e2';cases e2'
    | some p=>
     rw [q] at e1' e2'
     have ex:p.1=x:=Option.some.inj e1'
     have ev:(σ[p.2]?).join=some v:=Option.some.inj e2'
     have ev':σ[p.2]?=some (some v):=by
      cases z:σ[p.2]? with
      | none=>rw [z] at ev;cases ev
      | some o=>rw [z] at ev;cases o with
       | none=>cases ev
       | some v'=>have:v'=v:=Option.some.inj ev;rw [this]
     obtain ⟨f1,f2,f3⟩:=S.free p (List.mem_of_getElem? q)
     subst ex
     obtain ⟨m,hn,hl⟩:=I.loc
     have vis:Vis X.env.scope p.1:=by
      rcases f2 with f2 | f2
      ·exact .inr (.inl f2)
      ·exact .inr (.inr f2)
     obtain ⟨u,ru,lk⟩:=hl p.2 p.1 v f1 ev' vis
     refine ⟨u,ru,?_⟩
     rcases lk with ⟨k,_⟩ | ⟨k,c,e,z⟩
     ·rcases f2 with f2 | f2 <;> (rw [f2] at k;cases k)
     ·obtain ⟨c',hc'⟩:=S.has p.1 f3
      have e':=S.cls _ _ hc'
      rw [e] at e';cases e'
      obtain ⟨oc,ho,hd⟩:=z
      exact .inr ⟨f3,c,hc',⟨oc,up _ _ ho,hd⟩⟩
  ·obtain ⟨v,oc,ho,hd⟩:=I.cell x c (S.cls x c e)
   exact ⟨v,oc,up _ _ ho,hd⟩
  ·show upd H s.heap.objs.size (.lst []) H2.objs.size=none
   rw [Zam (Ne.symm hDC)]
   exact I.hok.fresh hCle
  ·obtain ⟨v,z⟩:=I.cell x c (S.cls x c e)
   show upd H s.heap.objs.size (.lst []) c=none
   rw [Zam (Nat.ne_of_lt z.lt)]
   exact I.freeC x c (S.cls x c e)
  ·exact absurd (show p∈([]:List (Addr×Obj)) from hp) (by simp)
 have fpf:∀ b∈fp,upd H s.heap.objs.size (.lst []) b=none:=λb hb=>by rw [Zam (Nat.ne_of_lt (hfl b hb))];exact (hf b hb).1
 have st1:tn 0 h1:=T.keep 0 _ _ st λb hb o e=>up b o e
 have stat:∀ {H':Hp},(∀ b∈fp,H' b=none)->∀ b∈fp,Zi1 (X.comp scope cl (own++fr.map (·.1)) H2.objs.size s H fp) [] H' b:=λhn b hb=>
  ⟨hn b hb,(okY.exf b hb).1,okY.exfs b hb,.inl hb,(okY.exf b hb).2,λp hp=>absurd (show p∈([]:List (Addr×Obj)) from hp) (by simp)⟩
 have loop:∀ s3:Shared,(∃ tk,s3={ s with heap:=h1,toks:=tk }) ->
   codeAny (model X.prog X.w) X.A (.compLoop (.ListComp elt [⟨target,iter,ifs,0⟩] scope pos) 0 (.ref it) (.ref s.heap.objs.size) (compEnvC scope cl H2.objs.size X.env)) (RR (.ref s.heap.objs.size) H2.objs.size) s3:=by
  rintro s3 ⟨tk,rfl⟩
  refine ZeP (λn s'=>∃ i ys H',Inv (X.comp scope cl (own++fr.map (·.1)) H2.objs.size s H fp) [] (Zb4 own fr σ) H' s'/\tn i s'.heap/\(∀ b∈fp,H' b=none)/\W i n ys H') ?_ m0 ⟨0,[],_,I0 tk,st1,fpf,w0⟩
  rintro n s4 ⟨i,ys,H4,I4,st4,fr4,w4⟩
  rcases turns i n ys H4 w4 with ⟨stop,q⟩ | ⟨go,N,hN,step⟩
  ·refine thn (T.done (X.comp scope cl (own++fr.map (·.1)) H2.objs.size s H fp) rfl rfl rfl hc i [] s4 _ H4 _ I4 (stat fr4) st4 stop) λr s5 ⟨hr,I5⟩=>?_
   subst hr
   exact hRR _ _ s5 H4 hCle (Ne.symm hDC) ⟨_,I5.loc.choose_spec.1⟩ I5.free I5.base I5.hok I5.bare I5.os q
  ·refine thn (T.item (X.comp scope cl (own++fr.map (·.1)) H2.objs.size s H fp) rfl rfl rfl hc i [] s4 _ H4 _ I4 (stat fr4) st4 go) λr s5 ⟨u,hr,h5⟩=>?_
   subst hr
   refine thn h5 λ_ s6 ⟨x,H6,I6,r6,y6,st6,fr6⟩=>?_
   have I6':=I6.pinned (stat fr6) (T.obj _ _ st6)
   refine thn (hg H2.objs.size s H fp _ s6 _ H6 x u _ I6' r6 (step x H6 y6)) λ_ s7 ⟨σ7,H7,I7,k7,q7⟩=>?_
   refine thn (ht H2.objs.size s H fp _ s7 σ7 H7 _ I7 q7) λok s8 ⟨H8,I8,q8⟩=>?_
   have again:∀ {s9:Shared} {σ9:St} {H9:Hp} {zs:List V},Inv (X.comp scope cl (own++fr.map (·.1)) H2.objs.size s H fp) ([]++ZeD fp s6.heap) σ9 H9 s9->(∀ (i:Nat) v,(Zb4 own fr σ)[i]?=some (some v)->σ9[i]?=some (some v))->(∃ m',m'<n/\W (i+1) m' zs H9) ->
     ∃ m,m<n/\∃ i ys H',Inv (X.comp scope cl (own++fr.map (·.1)) H2.objs.size s H fp) [] (Zb4 own fr σ) H' s9/\tn i s9.heap/\(∀ b∈fp,H' b=none)/\W i m ys H':=by
    intro s9 σ9 H9 zs I9 hσ ⟨m',hm,w9⟩
    refine ⟨m',hm,i+1,zs,H9,(I9.sub_pins (λp hp=>absurd (show p∈([]:List (Addr×Obj)) from hp) (by simp))).weak ?_ hσ,T.keep _ _ _ st6 λb hb o e=>(I9.pin (b,o) (List.mem_append_right _ (List.mem_append_right _ (ZbP hb e)))).1,λb hb=>?_,w9⟩
    ·rw [I9.len];exact ZdN own fr σ
    ·obtain ⟨o,e,d⟩:=T.obj _ _ st6 b hb
     exact (I9.pin (b,o) (List.mem_append_right _ (List.mem_append_right _ (ZbP hb e)))).2.1
   cases ok with
   | false=>exact (if_neg Bool.false_ne_true).mpr (again I8 (ZbR k7) (hN _ _ ((if_neg Bool.false_ne_true).mp q8)))
   | true=>
    refine (if_pos rfl).mpr ?_
    have q8':=(if_pos rfl).mp q8
    refine thn (he H2.objs.size s H fp _ s8 σ7 H8 _ I8 q8') λy s9 ⟨yv,H9,I9,r9,hD9,hz,q9⟩=>?_
    refine thn (ZaY _ s9 σ7 H9 (.ref s.heap.objs.size) [yv] (.ref s.heap.objs.size) [y] (λ_ H'=>H'=upd H9 s.heap.objs.size (.lst (ys++[yv]))) I9 rfl (.cons r9 .nil) ⟨_,ys,yv,rfl,rfl,hD9,hz,rfl⟩) λ_ s10 ⟨_,H10,I10,_,e10⟩=>?_
    subst e10
    exact again I10 (ZbR k7) (hN _ _ q9)
 exact codeAny_compStart_list (loop _ ⟨_,rfl⟩) (T.self _ 0 _ _ _ st1 (loop _ ⟨_,rfl⟩))
theorem ZdP {pins:List (Addr×Obj)} {σ:St} {H H':Hp} {s s':Shared} {fp:List Addr} (I:Inv X pins σ H s) (hf:∀ b∈fp,Zi1 X pins H b) (un:Un (frs X.stack) fp H H' s.heap s'.heap)
  (hok:HOk X.prog X.w H' s'.heap) (bare:AllBare s'.gens) (os:s'.os=s.os):Inv X pins σ H' s':=
 I.call' os un hok bare λb hb=>⟨(hf b hb).2.2.2.1,(hf b hb).2.1,(hf b hb).2.2.2.2.1,(hf b hb).2.2.2.2.2⟩
theorem Zf6 {pins:List (Addr×Obj)} {σ σ':St} {H H':Hp} {s s':Shared} {C:Addr} {h':Heap} (I:Inv X pins σ H s) (hC:s.heap.objs.size<=C) (hn:H' C=none) (I':Inv X pins σ' H' s') (sb:Heap.SameBut C s'.heap h') :
  Inv X pins σ' H' { s' with heap:=h' }:=by
 obtain ⟨f0,f1,f2,f3,f4,f5⟩:=I.fpOk hC hn
 exact I'.turned (t':=s'.toks) (λb o hb e=>(sb.2 b hb).trans e) f0 f1 f3 f4 f5
theorem ZaO (hc:X.calm=true) (S:ZbE X scope cl own fr) (hi:PI X target iter wi)
  (hg:∀ C s H fp,PG (X.comp scope cl (own++fr.map (·.1)) C s H fp) target g) (ht:∀ C s H fp,Zmu (X.comp scope cl (own++fr.map (·.1)) C s H fp) ifs tc) (he:∀ C s H fp,PE (X.comp scope cl (own++fr.map (·.1)) C s H fp) elt te)
  (hs:∀ x,foldedSetIterable iter X.env x=pure x:=by intro _;rfl):PE X (.ListComp elt [⟨target,iter,ifs,0⟩] scope pos) (Zmv wi g tc te own fr):=by
 intro pins s σ H Q I h
 rw [eval_ListComp]
 refine wpAny_comprehension_free (use:=none) rfl hs S.clos S.kind S.names (thn (hi pins s σ H _ I h) λv s1 h1=>thn h1 λitv s2 h2=>?_)
 obtain ⟨it,fp,tn,J,H2,e,I2,T,st2,f2,hw⟩:=h2
 subst e
 refine ZdO (RR:=λacc C=>compPost (model X.prog X.w) X.A X.xe none (EP X pins σ Q) acc C) hc S I2 T st2 f2 hg ht he hw ?_
 rintro D C s' H' hC hDC ⟨m,hn⟩ hCf un hok bare os q
 refine ⟨m,hn,λh' hs'=>⟨.ref D,H',?_,rfl,q⟩⟩
 exact Zf6 (C:=C) (σ:=σ) I2 hC hCf (ZdP I2 f2 un hok bare os) hs'
theorem Zd7 {i:Nat} {y:Str} {py spos:Pos} (hN:X.N.Nodup) (hi':X.N[i]?=some y) (hx:Loc X.env.scope y) (hc:X.calm=true) (S:ZbE X scope cl own fr) (hi:PI X target iter wi)
  (hg:∀ C s H fp,PG (X.comp scope cl (own++fr.map (·.1)) C s H fp) target g) (ht:∀ C s H fp,Zmu (X.comp scope cl (own++fr.map (·.1)) C s H fp) ifs tc) (he:∀ C s H fp,PE (X.comp scope cl (own++fr.map (·.1)) C s H fp) elt te)
  (hf:X.fn y=true\/X.env.scope.names.lookup y=some .local:=by first | exact .inl rfl | exact .inr rfl | assumption)
  (hsw:swapsWith (.ListComp elt [⟨target,iter,ifs,0⟩] scope pos) (some (.Name y py)) spos.line X.env=pure true:=by rfl)
  (hs:∀ x,foldedSetIterable iter X.env x=pure x:=by intro _;rfl):PS X (.Assign [.Name y py] (.ListComp elt [⟨target,iter,ifs,0⟩] scope pos) spos) (ZnL (Zmv wi g tc te own fr) (ZcL i)):=by
 intro pins s σ H Dn I h
 rw [exec_Assign_Name_used _ _ _ _ hsw]
 refine wpAny_bind (wpAny_standAt (wpAny_bind ?_))
 show wpAny _ X.A (do let _ <- comprehension (.ListComp elt [⟨target,iter,ifs,0⟩] scope pos) scope X.env _ (newList []) false (eval iter X.env) (some (assign (.Name y py) X.env))) _ _ s
 refine wpAny_bind (wpAny_mono (wpAny_comprehension_free (use:=some (assign (.Name y py) X.env)) (Q:=λ_ s'=>SP X pins Dn .next s') rfl hs S.clos S.kind S.names (thn (hi pins s σ H _ I h) λv s1 h1=>thn h1 λitv s2 h2=>?_))
  (λ_ s' hq=>wpAny_pure (wpAny_pure hq)) λ_ _ e=>e)
 obtain ⟨it,fp,tn,J,H2,e,I2,T,st2,f2,hw⟩:=h2
 subst e
 refine ZdO (RR:=λacc C=>compPost (model X.prog X.w) X.A X.xe (some (assign (.Name y py) X.env)) (λ_ s'=>SP X pins Dn .next s') acc C) hc S I2 T st2 f2 hg ht he hw ?_
 rintro D C s' H' hC hDC ⟨m,hn⟩ hCf un hok bare os q
 have I3:Inv X pins σ H' s':=ZdP I2 f2 un hok bare os
 show wpAny _ X.A (assign (.Name y py) X.env (.ref D)) _ _ s'
 refine wpAny_assign_Name (ZeB I3 hN hi' hx (v:=.ref D) rfl (λs4 I4 ⟨a,hsa,ha⟩=>?_) hf)
 have hCa:C≠a:=by
  rcases ha with z | z
  ·rw [z];exact Nat.ne_of_gt (Nat.lt_of_lt_of_le I2.lt hC)
  ·obtain ⟨v,q⟩:=I2.cell y a z
   exact Nat.ne_of_gt (Nat.lt_of_lt_of_le q.lt hC)
 refine ⟨m,hn.sameBut hsa hCa,λh' hs'=>⟨_,H',Zf6 (C:=C) (σ:=σ) I2 hC hCf I4 hs',q⟩⟩
end
theorem ZaF {K:PySem.W.Frag} {a D:Addr} {xs:List V} {g:TG} {tc:TT} {te:TE} {σ0:St} {R:Hp->Prop} {H1:Hp} (Pv:Nat->List V->Hp->Prop) (h0:Pv 0 [] (upd H1 D (.lst []))) (hl:∀ i ys H,i<=xs.length->Pv i ys H->SqL K H a xs)
  (hs:∀ i x ys H,xs[i]?=some x->Pv i ys H->g x σ0 H λσ4 H4=>Zdl σ0 σ4/\tc σ4 H4 λb H5=>if b=true then te σ4 H5 λy H6=>H6 D=some (.lst ys)/\ys.length<sizeLine/\Pv (i+1) (ys++[y]) (upd H6 D (.lst (ys++[y]))) else Pv (i+1) ys H5)
  (hd:∀ ys H,Pv xs.length ys H->R H):∃ W:Nat->Nat->List V->Hp->Prop,(∃ m,W 0 m [] (upd H1 D (.lst [])))/\ZbF (Itl K a) D g tc te σ0 W R:=by
 refine ⟨λi m ys H=>m=xs.length-i/\i<=xs.length/\Pv i ys H,⟨_,rfl,Nat.zero_le _,h0⟩,?_⟩
 rintro i m ys H ⟨rfl,hi,p⟩
 have q:=hl i ys H hi p
 by_cases hlt:i<xs.length
 ·refine .inr ⟨⟨xs,xs[i],q,by simp [hlt]⟩,Pv (i+1),λys' H' p'=>⟨xs.length-(i+1),by omega,rfl,hlt,p'⟩,λx H' y=>?_⟩
  obtain ⟨e,y⟩:=y
  subst e
  exact hs i x ys _ (y xs q) p
 ·have e:i=xs.length:=by omega
  subst e
  exact .inl ⟨⟨xs,q,Nat.le_refl _⟩,hd ys H p⟩
theorem Zbf {lo:Int} {n:Nat} {D:Addr} {g:TG} {tc:TT} {te:TE} {σ0:St} {R:Hp->Prop} {H1:Hp} (Pv:Nat->List V->Hp->Prop) (h0:Pv 0 [] (upd H1 D (.lst [])))
  (hs:∀ i ys H,i<n->Pv i ys H->g (.int (lo+i)) σ0 H λσ4 H4=>Zdl σ0 σ4/\tc σ4 H4 λb H5=>if b=true then te σ4 H5 λy H6=>H6 D=some (.lst ys)/\ys.length<sizeLine/\Pv (i+1) (ys++[y]) (upd H6 D (.lst (ys++[y]))) else Pv (i+1) ys H5)
  (hd:∀ ys H,Pv n ys H->R H):∃ W:Nat->Nat->List V->Hp->Prop,(∃ m,W 0 m [] (upd H1 D (.lst [])))/\ZbF (Itr lo n) D g tc te σ0 W R:=by
 refine ⟨λi m ys H=>m=n-i/\i<=n/\Pv i ys H,⟨_,rfl,Nat.zero_le _,h0⟩,?_⟩
 rintro i m ys H ⟨rfl,hi,p⟩
 by_cases hlt:i<n
 ·refine .inr ⟨hlt,Pv (i+1),λys' H' p'=>⟨n-(i+1),by omega,rfl,hlt,p'⟩,λx H' y=>?_⟩
  obtain ⟨e,y⟩:=y
  subst e y
  exact hs i ys _ hlt p
 ·have e:i=n:=by omega
  subst e
  exact .inl ⟨Nat.le_refl _,hd ys H p⟩
end L2
namespace L2
open PySem PySem.Spec PyProof.Rows
def Zjd (a C:Addr) (h:Heap):Prop:=∃ ob vs,h.get? a=some ob/\ob.cls=.ref C/\ob.data=.fields vs
def Zl4 (a C:Addr):HO:=.ext (Zjd a C)
theorem ZkX {P:Program} {w:World} {H:Hp} {h:Heap} {a C:Addr} (x:Zjd a C h):ObjOk P w H h a (Zl4 a C):=by
 refine ⟨x,?_,λh1 h2 p k=>?_⟩
 ·obtain ⟨ob,_,e,_⟩:=x
  exact ⟨ob,e⟩
 ·obtain ⟨ob,vs,e,c,d⟩:=p
  exact ⟨ob,vs,k ob e,c,d⟩
theorem ObjOk.there {P:Program} {w:World} {H:Hp} {h:Heap} {a:Addr} {u:HO} (ok:ObjOk P w H h a u):∃ v,h.get? a=some v:=by
 cases u with
 | lst xs=>obtain ⟨_,_,_,_,e⟩:=ok;exact ⟨_,e⟩
 | tup xs=>obtain ⟨_,_,_,o,e,_⟩:=ok;exact ⟨_,e⟩
 | dK kvs=>obtain ⟨_,_,_,_,o,_,_,e,_⟩:=ok;exact ⟨_,e⟩
 | dT kvs=>obtain ⟨_,_,_,_,o,_,_,e,_⟩:=ok;exact ⟨_,e⟩
 | set S n=>obtain ⟨o,_,_,_,e,_⟩:=ok;exact ⟨_,e⟩
 | ins C dx fs=>obtain ⟨_,_,_,e,_⟩:=ok;exact ⟨_,e⟩
 | own y=>obtain ⟨_,e⟩:=ok;exact ⟨_,e⟩
 | xd fs=>obtain ⟨_,⟨_,_,_,e,_⟩,_⟩:=ok;exact ⟨_,e⟩
 | rng lo hi=>obtain ⟨_,_,_,e⟩:=ok;exact ⟨_,e⟩
 | frz ob u=>obtain ⟨e,_⟩:=ok;exact ⟨_,e⟩
 | tbl ps=>exact ⟨_,show h.get? a=some _ from ok⟩
 | met f y=>exact ⟨_,show h.get? a=some _ from ok⟩
 | ext φ=>obtain ⟨_,⟨_,e⟩,_⟩:=ok;exact ⟨_,e⟩
def Zn2 (P:Program) (w:World) (outer:List Env) (H H':Hp) (s:Shared) (a C:Addr) (s':Shared):Prop:=
 ∃ (t:Addr) (B:Heap),s'.os=s.os/\AllBare s'.gens/\Un (frs outer) [] H H' s.heap s'.heap/\HOk P w H' s'.heap/\Heap.FlyingW B outer a (.ref C) (.ref t) s'.heap /\
  (∀ b o,s'.heap.get? b=some o->H' b≠none->B.get? b=some o)/\(∀ b o0 o,s.heap.get? b=some o0->s'.heap.get? b=some o->b ∉ frs outer->B.get? b=some o)
def CXr (P:Program) (w:World):CXT:=λouter H s E e s'=>∃ (a C:Addr) (H':Hp),e=.ref a/\Zn2 P w outer H H' s a C s'/\E (.ref C) none H'
section
variable {X:Cx} {pins:List (Addr×Obj)} {σ:St} {H:Hp} {s:Shared}
def Zf7 (X:Cx) (E:XK):Prop:=∀ (pins:List (Addr×Obj)) (σ:St) (H:Hp) (s:Shared) (h':Heap) (a C:Addr) (vs:List Value),Inv X pins σ H s->Heap.MadeExcOf s.heap h' a (.ref C) vs->E (.ref C) none H->X.xe (.ref a) { s with heap:=h' }
theorem Zbp {P:Program} {w:World} {K:PySem.W.Frag} {mg:Str->Option Value} {base:Heap} {N:List Str} {qual:Str} {scope:Scope} {f:Addr} {cd:Value} {A:Around} {outer:List Env} {s:Shared} {H:Hp} {E:XK} :
  Zf7 (ZhI (CXr P w) P w K mg base N qual scope f cd A outer s H E) E:=by
 intro pins σ H1 s1 h' a C vs I hx hE
 have hfr:=I.ok.frames
 have hst:s1.heap.FunFrames base (envOfC qual scope s.heap.objs.size f cd::outer):=I.stack
 have hin:∀ env∈(envOfC qual scope s.heap.objs.size f cd::outer),∀ b,env.frame=some b->b∈frs (envOfC qual scope s.heap.objs.size f cd::outer):=λenv he b hb=>List.mem_filterMap.mpr ⟨env,he,hb⟩
 have inB:∀ b o,s1.heap.get? b=some o->b ∉ frs (envOfC qual scope s.heap.objs.size f cd::outer)->(PySem.W.hideAll s1.heap (frs (envOfC qual scope s.heap.objs.size f cd::outer))).get? b=some o:=λb o e n=>PySem.W.hideAll_get _ e n
 refine wpAny_leaves_madeW (base:=PySem.W.hideAll s1.heap (frs (envOfC qual scope s.heap.objs.size f cd::outer))) hfr rfl (λb o q=>PySem.W.of_hideAll _ q) (PySem.W.funFrames_hide hst hin) hx λh2 t fl tu tn sm=>?_
 refine ⟨a,C,H1,rfl,⟨t,_,I.os,I.bare,⟨λb o e n hb _=>?_,λb o e n hb _=>?_,λb o e n _=>?_,λb o e _=>?_,I.base.tups,I.base.frzs,I.base.tbls⟩,λb u e=>?_,fl,λb o e n=>?_,λb o0 o e0 e nb=>?_⟩,hE⟩
 ·have e1:s1.heap.get? b=some o:=I.base.keep b o e n hb (by intro z;exact absurd (show b∈([]:List Addr) from z) (by simp))
  refine fl.1 b o (inB b o e1 λz=>?_)
  rcases List.mem_cons.mp (I.stkSub b z) with q | q
  ·exact absurd (Nat.lt_of_lt_of_le (Heap.lt_size e) I.ok.above) (by rw [q];exact Nat.lt_irrefl _)
  ·exact hb q
 ·obtain ⟨sl,e1⟩:=I.base.slot b o e n hb (by intro z;exact absurd (show b∈([]:List Addr) from z) (by simp))
  have nf:∀ vs,o.data≠.fields vs:=by
   obtain ⟨_,o',ho',hnf⟩:=I.funs.mem (show b∈(outer.filterMap (·.frame)) from hb)
   rw [e1] at ho';cases ho'
   exact hnf
  obtain ⟨sl',e2⟩:=sm b { o with slots:=sl } (hx.keeps b _ e1) nf
  exact ⟨sl',e2⟩
 ·exact I.base.free b o e n (by intro z;exact absurd (show b∈([]:List Addr) from z) (by simp))
 ·obtain ⟨o1,e1⟩:=I.base.there b o e (by intro z;exact absurd (show b∈([]:List Addr) from z) (by simp))
  by_cases hb:b∈frs (envOfC qual scope s.heap.objs.size f cd::outer)
  ·obtain ⟨_,o',ho',hnf⟩:=hst.mem hb
   rw [e1] at ho';cases ho'
   obtain ⟨sl',e2⟩:=sm b o1 (hx.keeps b _ e1) hnf
   exact ⟨_,e2⟩
  ·exact ⟨o1,fl.1 b o1 (inB b o1 e1 hb)⟩
 ·have trk:∀ c v,s1.heap.get? c=some v->H1 c≠none->h2.get? c=some v:=λc v q hc=>fl.1 c v (inB c v q λz=>hc (I.stkFree c z))
  refine (I.hok b u e).stay (λc v hc q=>trk c v q ?_) (λ_ q=>q) λ_ _ q=>q
  rcases hc with z | z
  ·rw [z,e];simp
  ·rw [z];simp
 ·cases q':H1 b with
  | none=>exact absurd q' n
  | some u=>
   obtain ⟨v,q⟩:=(I.hok b u q').there
   have nb:b ∉ frs (envOfC qual scope s.heap.objs.size f cd::outer):=λz=>n (I.stkFree b z)
   have e2:=fl.1 b v (inB b v q nb)
   rw [e] at e2;cases e2
   exact inB b _ q nb
 ·obtain ⟨o1,e1⟩:=I.base.there b o0 e0 (by intro z;exact absurd (show b∈([]:List Addr) from z) (by simp))
  have nb':b ∉ frs (envOfC qual scope s.heap.objs.size f cd::outer):=λz=>by
   rcases List.mem_cons.mp (I.stkSub b z) with q | q
   ·exact absurd (Nat.lt_of_lt_of_le (Heap.lt_size e0) I.ok.above) (by rw [q];exact Nat.lt_irrefl _)
   ·exact nb q
  have e2:=fl.1 b o1 (inB b o1 e1 nb')
  have e':h2.get? b=some o:=e
  rw [e'] at e2;cases e2
  exact inB b _ e1 nb'
theorem Zf8 {P:Program} {w:World} {outer:List Env} {H H':Hp} {s s':Shared} {a C t:Addr} {B h2:Heap} (un:Un (frs outer) [] H H' s.heap s'.heap) (hok:HOk P w H' s'.heap) (fr:s'.heap.FunFrames B outer)
  (trk:∀ b o,s'.heap.get? b=some o->H' b≠none->B.get? b=some o) (old:∀ b o0 o,s.heap.get? b=some o0->s'.heap.get? b=some o->b ∉ frs outer->B.get? b=some o) (st:B.StaysIn h2) (sm:s'.heap.UpToSlots h2) :
  Un (frs outer) [] H H' s.heap h2/\HOk P w H' h2:=by
 refine ⟨⟨λb o e n hb hx=>st b o (old b o o e (un.keep b o e n hb hx) hb),λb o e n hb hx=>?_,un.free,λb o e hx=>?_,un.tups,un.frzs,un.tbls⟩,λb u e=>?_⟩
 ·obtain ⟨sl,e1⟩:=un.slot b o e n hb hx
  obtain ⟨_,o',ho',hnf⟩:=fr.mem hb
  rw [e1] at ho';cases ho'
  obtain ⟨sl',e2⟩:=sm b _ e1 hnf
  exact ⟨sl',e2⟩
 ·obtain ⟨o1,e1⟩:=un.there b o e hx
  by_cases hb:b∈frs outer
  ·obtain ⟨_,o',ho',hnf⟩:=fr.mem hb
   rw [e1] at ho';cases ho'
   obtain ⟨sl',e2⟩:=sm b _ e1 hnf
   exact ⟨_,e2⟩
  ·exact ⟨o1,st b o1 (old b o o1 e e1 hb)⟩
 ·refine (hok b u e).stay (λc v hc q=>st c v (trk c v q ?_)) (λ_ q=>q) λ_ _ q=>q
  rcases hc with z | z
  ·rw [z,e];simp
  ·rw [z];simp
theorem Inv.track {a:Addr} {u:HO} (I:Inv X pins σ H s) (hn:H a=none) (f1:a≠X.env.locals) (f4:∀ x c,X.env.cells.lookup x=some c->c≠a) (f5:∀ p∈X.pn++pins,p.1≠a) (hs:X.s₀.heap.get? a=none)
  (ok:∀ H',ObjOk X.prog X.w H' s.heap a u):Inv X pins σ (upd H a u) s:=by
 refine ⟨I.ok,I.os,I.bare,⟨I.base.keep,I.base.slot,λb o e n z=>?_,I.base.there,λb xs e=>?_,λb o x e=>?_,λb ps e=>?_⟩,I.loc,I.cell,?_,λx c e=>?_,λp hp=>?_,λb v e=>?_,I.len⟩
 ·rw [Zam (show b≠a from λq=>by rw [q,hs] at e;cases e)]
  exact I.base.free b o e n z
 ·have:=I.base.tups b xs e
  rw [Zam (Zag this hn)];exact this
 ·have:=I.base.frzs b o x e
  rw [Zam (Zag this hn)];exact this
 ·obtain ⟨more,this⟩:=I.base.tbls b ps e
  exact ⟨more,by rw [Zam (Zag this hn)];exact this⟩
 ·rw [Zam (Ne.symm f1)];exact I.free
 ·rw [Zam (f4 x c e)];exact I.freeC x c e
 ·obtain ⟨e,n,r⟩:=I.pin p hp
  exact ⟨e,by rw [Zam (f5 p hp)];exact n,r⟩
 ·by_cases hb:b=a
  ·subst hb
   rw [Zab] at e;cases e
   exact ok _
  ·rw [Zam hb] at e
   exact (I.hok b v e).stay (λ_ _ _ q=>q) (λc q=>by rw [Zam (Zag q hn)];exact q) λc xs q=>by rw [Zam (Zag q hn)];exact q
end
end L2
namespace L2
open PySem PySem.Spec PyProof.Rows
abbrev ZoL:List Value:=[.type "ValueError", .type "Exception", .type "BaseException", .type "object"]
abbrev ExcC (K:PySem.W.Frag) (C:Addr):Prop:=PySem.W.excIn K C ZoL "ValueError.__new__" = true
theorem ZkY {K:PySem.W.Frag} {h:Heap} {C:Addr} (KX:K.In h) (ex:ExcC K C):∃ mro' ns' mN',(∃ nm' qn' bs' hd' sn' sub' ab' col' dd' j0 j1 j2 j3 j5,
  h.get? C=some (excClassObj nm' qn' C ns' bs' mro' hd' sn' sub' ab' col' dd' j0 j1 j2 j3 j5 "ValueError.__new__"))/\h.Ns ns' mN'/\mN' "__init__" = none/\OwnTail h ZoL mro':=by
 have ex':=ex
 unfold ExcC PySem.W.excIn at ex'
 split at ex'
 ·rename_i dd' cd' sl' lk
  have lk':=KX _ _ lk
  split at ex'
  ·rename_i C' rest' j0 j1 j2 j3 n' j5 hm hs
   rw [Bool.and_eq_true,Bool.and_eq_true,Bool.and_eq_true,Bool.and_eq_true,Bool.and_eq_true,beq_iff_eq,beq_iff_eq,beq_iff_eq] at ex'
   obtain ⟨⟨⟨⟨⟨z1,z2⟩,z3⟩,z4⟩,z5⟩,z6⟩:=ex'
   have z3':cd'.hasDel=false:=by simpa using z3
   subst z1 z2
   cases cd' with
   | mk a1 a2 a3 a4 a5 a6 a7 a8 a9 a10 a11=>
    have hm':a3=.ref C'::rest':=hm
    have h11:a11=false:=z3'
    subst hm' h11
    have es:sl'=#[j0,j1,j2,j3,some (.builtin "ValueError.__new__"),j5]:=by
     cases sl' with
     | mk l=>exact congrArg Array.mk hs
    subst es
    exact ⟨rest',a4,_,⟨_,_,_,_,_,_,_,_,_,_,_,_,_,_,lk'⟩,.of_isNs (PySem.W.isNs_of_in KX z5),PySem.W.nsMap_none_of_in KX z5 z6,PySem.W.tail_of_in KX z4⟩
  ·cases ex'
 ·cases ex'
section
variable {X:Cx}
def Zmw (C:Addr) (E:XK) (t:TA):TS:=λ_ σ H=>t σ H λvs H1=>vs.length<=sizeLine/\E (.ref C) none H1
theorem Zc3 {C:Addr} {E:XK} {x:Str} {np cpos pos:Pos} {e:Expr} {es:List Expr} {t:TA} (hc:X.calm=true) (hR:Zf7 X E) (hg:Gl X x) (hm:X.mg x=some (.ref C)) (ex:ExcC X.K C) (ha:PA X (e::es) t)
  (hdb:(x == ("__debug__" : Str))=false:=by decide) (he:starEach (e::es) X.env=(false,eval e X.env)::starEach es X.env:=by rfl) (hpl:(backTo cpos (starEach es X.env)).any (·.1)=false:=by rfl) :
  PS X (.Raise (some (.Call (.Name x np) (e::es) [] cpos)) none pos) (Zmw C E t):=by
 intro pins s σ H D I h
 obtain ⟨mro',ns',mN',⟨nm',qn',bs',hd',sn',sub',ab',col',dd',j0,j1,j2,j3,j5,hC⟩,hN,hni,T⟩:=ZkY I.mod.kin ex
 refine wpAny_Raise_call_subT (C:=C) (nm:=nm') (q:=qn') (N:=ns') (bs:=bs') (bm:=mro') (hdct:=hd') (sn:=sn') (sub:=sub') (ab:=ab') (col:=col') (dd:=dd') (k0:=j0) (k1:=j1) (k2:=j2) (k3:=j3) (k5:=j5)
  PySem.F.excBase_ValueError (mN:=mN') (T.hasType PySem.F.excBase_ValueError.hasBase) (I.ok.hd hc) (by rw [he];show (false || (backTo cpos (starEach es X.env)).any (·.1))=false;rw [hpl];rfl) hni (Zde I hg hm ⟨rfl,?_⟩ hdb)
 have hA:=ha cpos pins s σ H _ I h
 rw [he] at hA ⊢
 refine Calls.evalArgs_plain (thn hA λus s2 ⟨vs,H2,I2,r2,hl,q2⟩=>?_)
 exact ⟨rfl,by rw [<-r2.length];exact hl,I2.bk _ _ hC,hN.keeps I2.bk,T.keeps I2.bk,λh' a hm=>hR pins σ H2 s2 h' a C us I2 hm q2⟩
def Cx.inExc (X:Cx) (a:Addr):Cx:={ X with A:=X.A.mark (some (.ref a)),calm:=false,xe:=λ_ _=>False }
theorem Cx.Ok.inExc {X:Cx} (ok:X.Ok) (a:Addr):(X.inExc a).Ok:=
 ⟨ok.mod,ok.kind,ok.glob,ok.blt,ok.above,ok.inj,ok.has,ok.cab,(λz=>nomatch z),ok.frames,ok.stk,ok.exf,ok.bs,ok.bsz,ok.noex,ok.exfs,ok.funs,ok.frf⟩
variable {pins:List (Addr×Obj)} {σ:St} {H:Hp} {s:Shared}
theorem Inv.inExc (I:Inv X pins σ H s) (a:Addr):Inv (X.inExc a) pins σ H s:=⟨I.ok.inExc a,I.os,I.bare,I.base,I.loc,I.cell,I.free,I.freeC,I.pin,I.hok,I.len⟩
theorem Inv.outExc {a:Addr} (ok:X.Ok) (I:Inv (X.inExc a) pins σ H s):Inv X pins σ H s:=⟨ok,I.os,I.bare,I.base,I.loc,I.cell,I.free,I.freeC,I.pin,I.hok,I.len⟩
end
end L2
namespace L2
open PySem PySem.Spec PyProof.Rows
theorem Zje {M:Model} {h:Heap} {a C:Addr} (hx:Zjd a C h):PySem.W.Looks M h (typeOf (.ref a)) (.ref C):=by
 obtain ⟨ob,vs,e,c,d⟩:=hx
 exact c▸(PySem.W.Looks.ld e).andThen .now
theorem ZhR {K:PySem.W.Frag} {M:Model} {A:Around} {E:Value->Shared->Prop} {Q:Bool->Shared->Prop} {s:Shared} {a C W:Addr} {b:Bool} (KX:K.In s.heap) (hx:Zjd a C s.heap)
  (hk:PySem.W.kitCls K (.ref C) (.ref W)=some b) (hb:PySem.W.subIn K (.ref W) (.type "BaseException")=some true) (h:Q b s):wpAny M A (excMatches (.ref a) (.ref W)) Q E s:=by
 obtain ⟨hty,his,hsub⟩:=PySem.W.kit_cls (M:=M) KX hk
 have hB:=PySem.W.looks_subIn (M:=M) KX hb
 have LT:=Zje (M:=M) hx
 obtain ⟨h0,g,dd,tk,os⟩:=s
 have f:=tc_notTuple
 unfold excMatches isInstance isExcClass
 refine wpAny_bind (wpAny_bind (hty.at (wpAny_of_eq f ?_)))
 simp only [Bool.false_eq_true,if_false]
 refine wpAny_bind (wpAny_pure ?_)
 simp only [List.forIn_cons,List.forIn_nil]
 refine wpAny_bind (wpAny_bind (wpAny_bind (wpAny_bind (his.at ?_))))
 simp only [if_true]
 refine hB.at ?_
 simp only [Bool.not_true,Bool.false_eq_true,if_false]
 refine wpAny_pure (wpAny_pure ?_)
 refine wpAny_bind (LT.at ?_)
 refine wpAny_bind (wpAny_bind (wpAny_bind (hsub.at ?_)))
 cases b with
 | true=>simp only [if_true];first | exact wpAny_pure (wpAny_pure (wpAny_pure h)) | exact wpAny_pure (wpAny_pure h) | exact wpAny_pure h
 | false=>simp only [Bool.false_eq_true,if_false];first | exact wpAny_pure (wpAny_pure (wpAny_pure h)) | exact wpAny_pure (wpAny_pure h) | exact wpAny_pure h
section
variable {X:Cx} {k:Nat} {f:Addr} {fd:FuncData} {ps:List Str} {sp:Sp} {dvs:List V} {ds:List Value} {fx:Str} {fp cpos bpos np hpos pos:Pos} {e:Expr} {es:List Expr} {t:TA}
def Zmx (K:PySem.W.Frag) (W:Addr) (i:Nat) (ts:TS) (D:Ends) (σ:St):XK:=λcls _ H2=>∃ C,cls=.ref C/\PySem.W.kitCls K (.ref C) (.ref W)=some true /\
 ∀ a,H2 a=none->ts { nx:=λσ' H'=>D.nx (σ'.set i none) H',rt:=D.rt,bk:=λσ' H'=>D.bk (σ'.set i none) H',ct:=λσ' H'=>D.ct (σ'.set i none) H' } (σ.set i (some (.ref a))) (upd H2 a (Zl4 a C))
theorem Zjf {pins:List (Addr×Obj)} {σ:St} {H:Hp} {s:Shared} {Q:VK} {E:XK} {QQ:Value->Shared->Prop} {EE:Value->Shared->Prop} (F:ZaI X.prog X.w X.K X.mg X.base (CXr X.prog X.w) k f fd ps sp) (hr:Room k X.A) (hg:Gl X fx) (hm:X.mg fx=some (.ref f)) (hk:PySem.W.keepIn X.K (.ref f)=true)
  (hb:Binds X.K fd ps ds) (hd:Vals dvs ds) (ha:PA X.nox (e::es) t) (I:Inv X pins σ H s) (h:t σ H λvs H1=>sp (vs++dvs) H1 Q E)
  (hQ:∀ u s',EP X pins σ Q u s'->QQ u s') (hE:∀ ev H1 s1 s',Inv X pins σ H1 s1->CXr X.prog X.w X.stack H1 s1 E ev s'->EE ev s')
  (hdb:(fx == ("__debug__" : Str))=false:=by decide) (he:starEach (e::es) X.env=(false,eval e X.env)::starEach es X.env:=by rfl) (hpl:(backTo cpos (starEach es X.env)).any (·.1)=false:=by rfl) :
  wpAny (model X.prog X.w) X.A (eval (.Call (.Name fx fp) (e::es) [] cpos) X.env) QQ EE s:=by
 refine wpAny_Call_Name_kw (Zde I hg hm ?_ hdb)
 refine PySem.W.callWith_K (h₀:=X.base) I.ok.mod.kin hk (wpAny_mono (ha cpos pins s σ H _ (I.wish _) h) (λus s1 ⟨vs,H1,I1,r,q⟩=>⟨I1.unwish.kIn,?_⟩) (λ_ _ z=>False.elim z)) he hpl
 have I1:=I1.unwish
 have r2:Vals (vs++dvs) (us++ds):=r.append hd
 have hl:(us++ds).length=ps.length:=by rw [<-r2.length];exact F.len _ _ _ _ q
 refine wpAny_call (codeAny_mono (F.run X.A X.stack s1 H1 ⟨us,[]⟩ (us++ds) (vs++dvs) Q E hr I1.env0 (hb s1 us I1.kIn hl) r2 q) λr s' hq=>?_)
 cases r with
 | error ev=>exact hE ev H1 s1 s' I1 hq
 | ok fl=>
  cases fl with
  | ret u=>exact hQ u s' (I1.after hq)
  | next=>exact False.elim hq
  | brk=>exact False.elim hq
  | cont=>exact False.elim hq
def Zqp (K:PySem.W.Frag) (W:Addr) (i:Nat) (sp:Sp) (dvs:List V) (t:TA) (ts:TS):TS:=λD σ H=>t σ H λvs H1=>sp (vs++dvs) H1 (λ_ H2=>D.nx σ H2) (Zmx K W i ts D σ)
end
end L2
namespace L2
open PySem PySem.Spec PyProof.Rows
end L2
namespace L2
open PySem PySem.Spec PyProof.Rows
structure ZoM (K:PySem.W.Frag) (C:Addr):Prop where
 ex:ExcC K C
 ga:PySem.W.findIn K (.ref C) "__getattribute__" = some (some (.builtin "BaseException.__getattribute__"))
 nga:PySem.W.findIn K (.ref C) "__getattr__" = some none
 cl:PySem.W.findIn K (.ref C) "__class__" = some (some (.builtin "object.__class__"))
 ob:PySem.W.mroIn K C (.type "object")=some true
 be:PySem.W.subIn K (.ref C) (.type "BaseException")=some true
def ZhS:V->Value
 | .ty n=>.type n
 | .ref a=>.ref a
 | _=>.none
def ZkZ:V->Bool
 | .ty _=>true
 | .ref _=>true
 | _=>false
def Zqq (K:PySem.W.Frag):List V->Hp->VK->Prop:=λxs H Q=>∃ x c b,xs=[x,c]/\Q (.bl b) H /\
 ((∃ t,Zhj K H x t/\ZkZ c=true/\PySem.W.kitOne K t (ZhS c)=some b) \/
  (∃ a C,x=.ref a/\H a=some (Zl4 a C)/\ZoM K C/\ZkZ c=true/\PySem.W.kitOne K (.ref C) (ZhS c)=some b) \/
  (∃ a C tp cs,x=.ref a/\H a=some (Zl4 a C)/\ZoM K C/\c=.ref tp/\H tp=some (.tup cs)/\cs.all ZkZ=true/\PySem.W.kitAny K (.ref C) (cs.map ZhS)=some b))
mutual
inductive DatV (K:PySem.W.Frag) (H:Hp):V->PyData->Prop
 | non:DatV K H .non .none
 | bl (b:Bool):DatV K H (.bl b) (.bool b)
 | int (i:Int):DatV K H (.int i) (.int i)
 | str (x:Str):DatV K H (.str x) (.str x)
 | lst {a:Addr} {xs:List V} {ds:List PyData}:SqL K H a xs->DatVs K H xs ds->DatV K H (.ref a) (.list ds)
 | tup {a:Addr} {xs:List V} {ds:List PyData}:SqT K H a xs->DatVs K H xs ds->DatV K H (.ref a) (.tuple ds)
inductive DatVs (K:PySem.W.Frag) (H:Hp):List V->List PyData->Prop
 | nil:DatVs K H [] []
 | cons {x:V} {d:PyData} {xs:List V} {ds:List PyData}:DatV K H x d->DatVs K H xs ds->DatVs K H (x::xs) (d::ds)
end
section
variable {X:Cx} {pins:List (Addr×Obj)} {σ:St} {H:Hp} {s:Shared}
mutual
theorem DatV.reads (I:Inv X pins σ H s):∀ {x:V} {d:PyData} {u:Value},DatV X.K H x d->RelV x u->∃ as,Reads s.heap u d as
 | _,_,_,.non,r=>by cases r;exact ⟨_,.none⟩
 | _,_,_,.bl b,r=>by cases r;exact ⟨_,.bool b⟩
 | _,_,_,.int i,r=>by obtain ⟨t,rfl⟩:=r;exact ⟨_,.int i t⟩
 | _,_,_,.str x,r=>by obtain ⟨t,rfl⟩:=r;exact ⟨_,.str x t⟩
 | _,_,_,.lst hq hs,r=>by
  cases r
  obtain ⟨its,rv,⟨o,n,e,c,dd,dt⟩,_⟩:=I.list hq
  obtain ⟨as,ra⟩:=DatVs.reads I hs rv
  exact ⟨_,.list e c dt (by simpa using ra)⟩
 | _,_,_,.tup hq hs,r=>by
  cases r
  obtain ⟨its,rv,⟨o,e,c,n,dt⟩,_⟩:=I.tuple hq
  obtain ⟨as,ra⟩:=DatVs.reads I hs rv
  exact ⟨_,.tuple e c dt (by simpa using ra)⟩
theorem DatVs.reads (I:Inv X pins σ H s):∀ {xs:List V} {ds:List PyData} {us:List Value},DatVs X.K H xs ds->Vals xs us->∃ as,ReadsAll s.heap us ds as
 | _,_,_,.nil,.nil=>⟨_,.nil⟩
 | _,_,_,.cons h hs,.cons r rs=>by
  obtain ⟨as,ra⟩:=DatV.reads I h r
  obtain ⟨bs,rb⟩:=DatVs.reads I hs rs
  exact ⟨_,.cons ra rb⟩
end
end
def ZnE (K:PySem.W.Frag) (neg:Bool):R2:=λx y H Q=>∃ d1 d2,DatV K H x d1/\DatV K H y d2/\SeqAt.shaped d1=true/\SeqAt.shaped d2=true/\Q (.bl (neg != PyData.eqv d1 d2)) H
theorem Zmy {X:Cx} (hu:X.A.units+64<cLine):OpR X (compareOp .Eq) (ZnE X.K false):=by
 intro pins s σ H x y v u Q I rx ry h
 obtain ⟨d1,d2,h1,h2,s1,s2,q⟩:=h
 obtain ⟨as,r1⟩:=h1.reads I rx
 obtain ⟨bs,r2⟩:=h2.reads I ry
 exact eq_dataH r1 r2 s1 s2 hu ⟨.bl _,H,I,by cases PyData.eqv d1 d2 <;> rfl,q⟩
theorem Zmz {X:Cx} (hu:X.A.units+64<cLine):OpR X (compareOp .NotEq) (ZnE X.K true):=by
 intro pins s σ H x y v u Q I rx ry h
 obtain ⟨d1,d2,h1,h2,s1,s2,q⟩:=h
 obtain ⟨as,r1⟩:=h1.reads I rx
 obtain ⟨bs,r2⟩:=h2.reads I ry
 exact ne_dataH r1 r2 s1 s2 hu ⟨.bl _,H,I,by cases PyData.eqv d1 d2 <;> rfl,q⟩
def Lt2 (p:Nat) (a:Int):Prop:=a.natAbs<2 ^ p
theorem Lt2.bits {a:Int} {n:Nat} (h:Lt2 n a):Builtin.Int.intBits a<=n:=by
 unfold Builtin.Int.intBits
 by_cases z:a=0
 ·subst z
  exact Nat.zero_le _
 ·have hp:a.natAbs≠0:=by omega
  have hz:¬ ((a == 0)=true):=by simpa using z
  rw [if_neg hz]
  exact Nat.succ_le_of_lt ((Nat.log2_lt hp).mpr h)
theorem Lt2.mul {a b:Int} {p q:Nat} (h1:Lt2 p a) (h2:Lt2 q b):Lt2 (p+q) (a * b):=by
 show (a * b).natAbs<2 ^ (p+q)
 rw [Int.natAbs_mul,Nat.pow_add]
 exact Nat.mul_lt_mul_of_lt_of_lt h1 h2
theorem Lt2.add {a b:Int} {p:Nat} (h1:Lt2 p a) (h2:Lt2 p b):Lt2 (p+1) (a+b):=by
 have h1':a.natAbs<2 ^ p:=h1
 have h2':b.natAbs<2 ^ p:=h2
 show (a+b).natAbs<2 ^ (p+1)
 rw [Nat.pow_succ]
 omega
theorem Lt2.mono {a:Int} {p q:Nat} (h:Lt2 p a) (hp:p<=q):Lt2 q a:=Nat.lt_of_lt_of_le h (Nat.pow_le_pow_right (by decide) hp)
theorem Lt2.mod {a b:Int} {p:Nat} (hb:0<b) (h:Lt2 p b):Lt2 p (a % b):=by
 have h1:=Int.emod_nonneg a (Int.ne_of_gt hb)
 have h2:=Int.emod_lt_of_pos a hb
 have h':b.natAbs<2 ^ p:=h
 show (a % b).natAbs<2 ^ p
 omega
theorem Lt2.div {a b:Int} {p:Nat} (ha:0<=a) (hb:0<=b) (h:Lt2 p a):Lt2 p (a / b):=by
 have h':a.natAbs<2 ^ p:=h
 have h1:=Int.ediv_nonneg ha hb
 have h2:=Int.ediv_le_self b ha
 show (a / b).natAbs<2 ^ p
 omega
def Zn3 (i j:Int):Prop:=∃ p q,Lt2 p i/\Lt2 q j/\p<=100000/\q<=100000
theorem ZbG {X:Cx}:OpR X (binaryOp .Mult) (rI Zn3 λi j=>.int (i * j)):=opI λi j _ _ _ _ _ hc q=>by
 obtain ⟨p,r,h1,h2,hp,hr⟩:=hc
 have e:(2:Nat) ^ 20=1048576:=by decide
 exact mul_int q (.of_bits (by have:=h1.bits;omega) (by have:=h2.bits;omega))
def Zn4 (i j:Int):Prop:=0<j/\Lt2 9000 j
theorem Zf9 {X:Cx}:OpR X (binaryOp .FloorDiv) (rI Zn4 λi j=>.int (i / j)):=opI λi j _ _ _ _ _ hc q=>by
 have h1:(0:Int)<j:=hc.1
 have h2:j.natAbs<2 ^ 9000:=hc.2
 refine floordiv_int (by omega) (by rw [Int.fdiv_eq_ediv_of_nonneg i (by omega)];exact q) (.inl (PyProof.noPylong_of_log2 ?_))
 exact (Nat.log2_lt (by omega)).mpr h2
theorem Same.new {H:Hp} {p:Addr} {o:HO} (h:H p=none):Same H (upd H p o):=λb u e=>by rw [Zam (Zag e h)];exact e
theorem Same.put {H H1:Hp} {p:Addr} {o:HO} (s:Same H H1) (h:H p=none):Same H (upd H1 p o):=λb u e=>by rw [Zam (Zag e h)];exact s b u e
theorem Zal {H:Hp} {p b:Addr} {o u:HO} (h:H b=some u) (n:b≠p):upd H p o b=some u:=by rw [Zam n];exact h
inductive Prs (H:Hp):List V->List (Int×Int)->Prop
 | nil:Prs H [] []
 | cons {p:Addr} {a b:Int} {xs:List V} {rs:List (Int×Int)}:H p=some (.tup [.int a,.int b])->Prs H xs rs->Prs H (.ref p::xs) ((a,b)::rs)
theorem Prs.len {H:Hp} {xs:List V} {rs:List (Int×Int)} (h:Prs H xs rs):xs.length=rs.length:=by
 induction h with
 | nil=>rfl
 | cons _ _ ih=>rw [List.length_cons,List.length_cons,ih]
theorem Prs.snoc {H:Hp} {xs:List V} {rs:List (Int×Int)} (h:Prs H xs rs) {p:Addr} {a b:Int} (e:H p=some (.tup [.int a,.int b])):Prs H (xs++[.ref p]) (rs++[(a,b)]):=by
 induction h with
 | nil=>exact .cons e .nil
 | cons e1 _ ih=>exact .cons e1 ih
theorem Prs.keep {H H':Hp} {xs:List V} {rs:List (Int×Int)} (h:Prs H xs rs) (k:∀ p ys,H p=some (.tup ys)->H' p=some (.tup ys)):Prs H' xs rs:=by
 induction h with
 | nil=>exact .nil
 | cons e1 _ ih=>exact .cons (k _ _ e1) ih
theorem Prs.same {H H':Hp} {xs:List V} {rs:List (Int×Int)} (h:Prs H xs rs) (k:Same H H'):Prs H' xs rs:=h.keep λp ys e=>k p _ e
theorem Za1 {H:Hp} {l:Addr} {zs:List V} {o:HO} (h:H l=some (.lst zs)):∀ p ys,H p=some (.tup ys)->upd H l o p=some (.tup ys):=λp ys e=>Zal e (Zhq e h (λz=>by cases z))
theorem ZbS {H:Hp} {l:Addr} {o:HO} (h:H l=none):∀ p ys,H p=some (.tup ys)->upd H l o p=some (.tup ys):=λp ys e=>Zal e (Zag e h)
def prD (r:Int×Int):PyData:=.tuple [.int r.1,.int r.2]
end L2
namespace L2
open PySem PySem.Spec PyProof.Rows
section
variable {P:Program} {w:World} {K:PySem.W.Frag} {mg:Str->Option Value} {base:Heap}
theorem Fun.okR {x qual:Str} {st:Stmt} {f:Addr} {fd:FuncData} {N ps:List Str} {k:Nat} {sp:Sp} (F:Fun K x qual st f fd) (S:Zau N ps (Zae st)) (len:∀ vs H Q E,sp vs H Q E->vs.length=ps.length)
  (hbody:∀ (cdv:Value) (A:Around) (outer:List Env) (s:Shared) (H:Hp) (vs:List V) (Q:VK) (E:XK),Room k (A.deeper (envOfC qual (Zae st) s.heap.objs.size f cdv))->sp vs H Q E ->
   ∃ t,PSs (ZhI (CXr P w) P w K mg base N qual (Zae st) f cdv A outer s H E) (Zaq st) t/\t { nx:=λ_ H'=>Q .non H',rt:=Q } (start N vs) H):ZaI P w K mg base (CXr P w) (k+1) f fd ps sp:=by
 obtain ⟨oc,od,kV,doc,pm,an,cdv,ct,osl,rfl,lk,hcd⟩:=F.ex
 refine ZkQ lk hcd S len λA outer s H vs Q E hr hsp=>?_
 obtain ⟨t,h,q⟩:=hbody cdv A outer s H vs Q E hr hsp
 exact ⟨t,h,q⟩
theorem ZcX {X:Cx}:ZeF (CXr X.prog X.w) X E0:=λ_ _ _ _ _ _ _ ⟨_,_,_,_,_,h⟩=>h.elim
end
section
variable {X:Cx}
end
theorem Zbu:bootBuiltins "list" = some (.type "list"):=by first | rfl | decide +kernel
section
variable {X:Cx} (K:PySem.W.Frag)
theorem ZhT (h:X.K=K:=by rfl):IxR X (ZnX K):=h▸Zfu
theorem ZcM (h:X.K=K:=by rfl):IxR X (ZnY K):=h▸Zmr
theorem kIn (h:X.K=K:=by rfl):OpR X (compareOp .In) (rIn K false):=h▸ZhL
theorem ZeQ (h:X.K=K:=by rfl):OpR X (compareOp .NotIn) (rIn K true):=h▸ZeL
theorem ZhU (h:X.K=K:=by rfl):ZbC X (.builtin "len") (λxs H Q=>∃ p ys,xs=[.ref p]/\(SqL K H p ys\/SqT K H p ys)/\Q (.int ys.length) H):=h▸ZeM
theorem Zfw (h:X.K=K:=by rfl):ZbC X (.type "list") (λxs H Q=>∃ p ys,xs=[.ref p]/\(SqL K H p ys\/SqT K H p ys)/\∀ l,H l=none->Q (.ref l) (upd H l (.lst ys))):=h▸ZeN
theorem ZoN (hu:X.A.units+64<cLine) (h:X.K=K:=by rfl):OpR X (compareOp .Eq) (ZnE K false):=h▸Zmy hu
theorem Zkh (hu:X.A.units+64<cLine) (h:X.K=K:=by rfl):OpR X (compareOp .NotEq) (ZnE K true):=h▸Zmz hu
theorem kSl (h:X.K=K:=by rfl):SlR X (ZoH K):=h▸ZkT
theorem Zk0 {es:List Expr} {k:Nat} {t:TGs} {n:Nat} {pos:Pos} (hc:X.calm=true) (h:PGs X es t) (hK:X.K=K:=by rfl)
  (hn:(assignEach es X.env).length=n:=by rfl) (hst:(assignEach es X.env).findIdx? (·.1)=none:=by rfl):PG X (.Tuple es k pos) (ZoB K n t):=hK▸Zmc hc h hn hst
theorem ZbA {tg l:Expr} {tl:TE} (hl:PE X l tl) (h:X.K=K:=by rfl):PI X tg l (Zmh K tl):=h▸ZkO hl
end
end L2
namespace L2
open PySem
def ZgS (r c:Nat) (p:Nat):List (Int×Int):=
 (if ((p:Int)+1) % (c:Int)=0 then [] else [((p:Int),(p:Int)+1)])++(if (p:Int)+(c:Int)<(r:Int) * (c:Int) then [((p:Int),(p:Int)+(c:Int))] else [])
def Zcm (r c i:Nat):List (Int×Int):=(List.range i).flatMap (ZgS r c)
def Zn5 (r c i j:Nat):List (Int×Int):=
 (if (j:Int)<(c:Int)-1 then [((i:Int) * (c:Int)+(j:Int),(i:Int) * (c:Int)+(j:Int)+1)] else []) ++
 (if (i:Int)<(r:Int)-1 then [((i:Int) * (c:Int)+(j:Int),((i:Int)+1) * (c:Int)+(j:Int))] else [])
def Zpz (r c i j:Nat):List (Int×Int):=(List.range j).flatMap (Zn5 r c i)
def ZoO (r c i:Nat):List (Int×Int):=(List.range i).flatMap λk=>Zpz r c k c
theorem Zcb (r c i:Nat):Zcm r c (i+1)=Zcm r c i++ZgS r c i:=by
 unfold Zcm
 rw [List.range_succ,List.flatMap_append,List.flatMap_singleton]
theorem Zd8 {H H2:Hp} {l t:Addr} {xs:List V} {rs:List (Int×Int)} {a b:Int} (s:Same H H2) (hl:H l=none) (h2:H2 l=some (.lst xs)) (hp:Prs H2 xs rs) (ht:H2 t=none) :
  Same H (upd (upd H2 t (.tup [.int a,.int b])) l (.lst (xs++[.ref t])))/\upd (upd H2 t (.tup [.int a,.int b])) l (.lst (xs++[.ref t])) l=some (.lst (xs++[.ref t])) /\
   Prs (upd (upd H2 t (.tup [.int a,.int b])) l (.lst (xs++[.ref t]))) (xs++[.ref t]) (rs++[(a,b)]):=by
 have hne:t≠l:=λz=>by rw [z,h2] at ht;cases ht
 have s1:Same H (upd H2 t (.tup [.int a,.int b])):=s.put (s.free ht)
 refine ⟨s1.put hl,Zab,?_⟩
 have k1:=hp.keep (ZbS (o:=.tup [.int a,.int b]) ht)
 have k2:=k1.keep (Za1 (H:=upd H2 t (.tup [.int a,.int b])) (l:=l) (zs:=xs) (o:=.lst (xs++[.ref t])) (Zal h2 (Ne.symm hne)))
 exact k2.snoc (by rw [Zam hne,Zab])
end L2
namespace L2
open PySem PySem.Spec PyProof.Rows
def AllP {α:Type} (P:α->Prop):List α->Prop
 | []=>True
 | x::r=>P x/\AllP P r
theorem AllP.mem {α:Type} {P:α->Prop}:∀ {l:List α},AllP P l->∀ x∈l,P x
 | _::_,h,_,.head _=>h.1
 | _::_,h,x,.tail _ m=>AllP.mem h.2 x m
theorem Zaj {X:Cx} {scope:Scope} {cl:List (Str×Addr)} {own:List Str} {fr:List (Str×Nat)} (L:List (Str×NameKind)) (hcl:closureFor scope X.env=pure cl) (hL:(relabel scope X.env).names=L)
  (hc:∀ y∈scope.names,y.2≠.cell) (hk:scope.kind=.function) (hn:∀ y∈scope.names,y.2=.local->scope.names.lookup y.1=some .local)
  (hcs:AllP (λp=>X.env.cells.lookup p.1=some p.2) cl) (hall:AllP (λp=>(p.2=.cell\/p.2=.free)->∃ c,cl.lookup p.1=some c) L)
  (hfr:AllP (λp=>X.N[p.2]?=some p.1/\(X.env.kindOf p.1=some .cell\/X.env.kindOf p.1=some .free)/\(L.lookup p.1=some .cell\/L.lookup p.1=some .free)) fr):ZbE X scope cl own fr:=
 ⟨hcl,hc,hk,hn,λy c h=>hcs.mem (y,c) (PySem.mem_of_lookup h),λy h=>by
  rw [hL] at h
  rcases h with h | h
  ·exact hall.mem _ (PySem.mem_of_lookup h) (.inl rfl)
  ·exact hall.mem _ (PySem.mem_of_lookup h) (.inr rfl),λp hp=>by
  rw [hL]
  exact hfr.mem p hp⟩
theorem ZaA {k:NameKind} {P:Prop} (h:k=.cell\/k=.free) (h1:(k == .cell)=false:=by rfl) (h2:(k == .free)=false:=by rfl):P:=by
 rcases h with z | z
 ·subst z;exact absurd h1 (by decide)
 ·subst z;exact absurd h2 (by decide)
theorem Zjg:bootBuiltins "min" = some (.builtin "min"):=by first | rfl | decide +kernel
def Zaf (n:Int) (rs:List (Int×Int)):Prop:=1<=n/\n<=16/\rs.length<=30/\(∀ p∈rs,0<=p.1/\p.1<p.2/\p.2<n)/\rs.Nodup
instance (n:Int) (rs:List (Int×Int)):Decidable (Zaf n rs):=by unfold Zaf;infer_instance
theorem ZhV {r c:Nat} (hr0:1<=r) (hr:r<=3) (hc0:1<=c) (hc:c<=4):Zaf ((r:Int) * (c:Int)) (Zcm r c (r * c)):=by
 have h1:r=1\/r=2\/r=3:=by omega
 have h2:c=1\/c=2\/c=3\/c=4:=by omega
 rcases h1 with rfl | rfl | rfl <;> rcases h2 with rfl | rfl | rfl | rfl <;> decide +kernel
structure Dk (H0 H:Hp) (d:Addr):Prop where
 keep:∀ b o,b≠d->H0 b=some o->H b=some o
 at_:∃ n:Int,H d=some (.lst [.int n])
section
variable {H0 H H':Hp} {d p:Addr} {o:HO}
theorem Dk.start {n:Int} (h:H d=some (.lst [.int n])):Dk H H d:=⟨λ_ _ _ e=>e,n,h⟩
theorem Dk.take (h:Dk H0 H d) (n':Int):Dk H0 (upd H d (.lst [.int n'])) d:=⟨λb o n e=>by rw [Zam n];exact h.keep b o n e,n',Zab⟩
theorem Dk.grow (h:Dk H0 H d) (s:Same H H'):Dk H0 H' d:=⟨λb o n e=>s b o (h.keep b o n e),h.at_.elim λn e=>⟨n,s _ _ e⟩⟩
theorem Dk.new (h:Dk H0 H d) (hp:H p=none):Dk H0 (upd H p o) d:=h.grow (Same.new hp)
theorem Dk.free (h:Dk H0 H d) (hp:H p=none):H0 p=none:=by
 cases q:H0 p with
 | none=>rfl
 | some u=>
  by_cases z:p=d
  ·obtain ⟨n,e⟩:=h.at_
   rw [<-z,hp] at e;cases e
  ·rw [h.keep p u z q] at hp;cases hp
theorem Dk.ne (h:Dk H0 H d) (hp:H p=none):d≠p:=by
 obtain ⟨n,e⟩:=h.at_
 exact Zag e hp
theorem Dk.put (h:Dk H0 H d) (hp:H0 p=none) (hd:d≠p):Dk H0 (upd H p o) d:=⟨λb u n e=>Zal (h.keep b u n e) (Zag e hp),h.at_.elim λn e=>⟨n,Zal e hd⟩⟩
theorem Dk.tups (h:Dk H0 H d) {n:Int} (h0:H0 d=some (.lst [.int n])):∀ q ys,H0 q=some (.tup ys)->H q=some (.tup ys):=λq ys e=>h.keep q _ (Zhq e h0 (λz=>by cases z)) e
end
theorem Prs.get {H:Hp}:∀ {xs:List V} {rs:List (Int×Int)},Prs H xs rs->∀ {i:Nat} {x:V},xs[i]?=some x->∃ t r,x=.ref t/\H t=some (.tup [.int r.1,.int r.2])/\rs[i]?=some r
 | _,_,.nil,_,_,h=>by simp at h
 | _,_,.cons (a:=a) (b:=b) e _,0,_,h=>by
  simp at h
  subst h
  exact ⟨_,(a,b),rfl,e,rfl⟩
 | _,_,.cons _ r,i+1,x,h=>by
  obtain ⟨t,q,h1,h2,h3⟩:=Prs.get r (i:=i) (x:=x) (by simpa using h)
  exact ⟨t,q,h1,h2,by simpa using h3⟩
theorem Prs.app {H:Hp} {xs ys:List V} {rs qs:List (Int×Int)} (h:Prs H xs rs) (k:Prs H ys qs):Prs H (xs++ys) (rs++qs):=by
 induction h with
 | nil=>exact k
 | cons e _ ih=>exact .cons e ih
theorem Prs.erase {H:Hp}:∀ {xs:List V} {rs:List (Int×Int)},Prs H xs rs->∀ i:Nat,Prs H (xs.eraseIdx i) (rs.eraseIdx i)
 | _,_,.nil,_=>.nil
 | _,_,.cons _ r,0=>r
 | _,_,.cons e r,i+1=>.cons e (Prs.erase r i)
theorem Za7 {t u:TS} {D:Ends} {σ:St} {H:Hp} (Pm:St->Hp->Prop) (h2:∀ σ' H',Pm σ' H'->u D σ' H') (h1:(∀ σ' H',Pm σ' H'->u D σ' H')->t { D with nx:=u D } σ H):Zox t u D σ H:=h1 h2
theorem ZmA {n:Nat} {r:Int} (h0:0<=r) (h1:r<n):seqIndex? r n=some r.toNat:=by
 have h:ixN n r=some r.toNat:=by
  unfold ixN
  rw [if_pos h0,if_pos h1]
 exact (Zft h).1
theorem Zc4 {α:Type}:∀ (ps rs:List α) (k:Nat) (y:α),ps[k]?=some y->((rs++[y])++ps.eraseIdx k).Perm (rs++ps)
 | [],_,k,y,h=>by simp at h
 | x::r,rs,0,y,h=>by
  simp at h
  subst h
  rw [List.append_assoc]
  exact List.Perm.refl _
 | x::r,rs,k+1,y,h=>by
  have ih:=Zc4 r [] k y (by simpa using h)
  rw [List.eraseIdx_cons_succ,List.append_assoc]
  refine List.Perm.append_left rs ?_
  have ih':(y::r.eraseIdx k).Perm r:=by simpa using ih
  exact (List.Perm.swap x y _).trans (ih'.cons x)
end L2
namespace L2
open PySem PySem.Spec PyProof.Rows
theorem Zc5:∀ {xs:List V} {us:List Value},xs.length=us.length->(∀ (i:Nat) x u,xs[i]?=some x->us[i]?=some u->RelV x u)->Vals xs us
 | [],[],_,_=>.nil
 | [],_::_,h,_=>by simp at h
 | _::_,[],h,_=>by simp at h
 | x::xs,u::us,h,k=>.cons (k 0 x u rfl rfl) (Zc5 (by simpa using h) λi y v e1 e2=>k (i+1) y v (by simpa using e1) (by simpa using e2))
section
variable {X:Cx} (K:PySem.W.Frag)
def Zk1:List V->Hp->VK->Prop:=λxs H Q=>∃ (p:Addr) (ns:List Int),xs=[.ref p]/\SqL K H p (ns.map V.int)/\ns.length<64/\∀ (l:Addr) (ns':List Int),H l=none->ns'.Perm ns->ns'.Pairwise (· <= ·)->Q (.ref l) (upd H l (.lst (ns'.map V.int)))
theorem Zfx (h:X.K=K:=by rfl):ZbC X (.builtin "sorted") (Zk1 K):=by
 subst h
 intro pins s σ H xs us Q I rv h
 obtain ⟨p,ns,rfl,hq,h64,q⟩:=h
 obtain ⟨u,rfl,ru⟩:=rv.one
 cases ru
 obtain ⟨its,r,pl,hz⟩:=I.list hq
 have hl:=r.length
 rw [List.length_map] at hl
 refine sorted_ints pl.isList (ZbQ r) (by omega) λout ns' h1 h2 h3=>?_
 obtain ⟨e,he⟩:=sortedAll_at s.heap its out
 have rv':=ZbD h1
 have hlen:(ns'.map V.int).length<=sizeLine:=by
  have:=h2.length_eq
  rw [List.length_map] at hz ⊢
  omega
 refine ⟨.ref _,_,I.laid (a:=s.heap.objs.size+1) (t':=s.toks) (o:=.lst (ns'.map V.int)) (λb o e=>sortedAll_old e) (Nat.le_succ _) ⟨hlen,out.toList,e,rv',he⟩,rfl,q _ ns' (I.hok.fresh (Nat.le_succ _)) h2 h3⟩
end
section
variable {X:Cx}
theorem ZhW {a:Expr} {ta:TA} {p pos:Pos} (hg:Gl X "range") (hm:X.mg "range" = none) (ha:PA X [a] ta) (hs:starEach [a] X.env=[(false,eval a X.env)]:=by rfl) :
  PE X (.Call (.Name "range" p) [a] [] pos) (λσ H Q=>ta σ H λvs H1=>∃ j:Int,vs=[.int j]/\∀ r,H1 r=none->Q (.ref r) (upd H1 r (.rng 0 j))):=by
 intro pins s σ H Q I h
 refine Call_ (Zdf I hg hm boot_range (PyProof.Rows.callWith_type1 (thn (ha pos pins s σ H _ I h) λus s1 ⟨vs,H1,I1,r1,q1⟩=>?_) hs rfl))
 obtain ⟨j,rfl,q⟩:=q1
 obtain ⟨u,rfl,ru⟩:=r1.one
 obtain ⟨t,rfl⟩:=ru
 refine call_range_1 ?_
 exact ⟨.ref _,_,I1.laid (o:=.rng 0 j) (λb o e=>Heap.get?_push_of_some _ e) (Nat.le_refl _) ⟨_,_,_,Heap.get?_push_size _ rfl⟩,rfl,q _ I1.fresh⟩
theorem Zcn (hc:X.calm=true):ZbC X (.type "list") (λxs H Q=>∃ r n,xs=[.ref r]/\H r=some (.rng 0 (n:Nat))/\n<=1000/\∀ l,H l=none->Q (.ref l) (upd H l (.lst ((List.range n).map λi=>V.int ((i:Nat):Int))))):=by
 intro pins s σ H xs us Q I rv h
 obtain ⟨r,n,rfl,hr,hn,q⟩:=h
 obtain ⟨u,rfl,ru⟩:=rv.one
 cases ru
 obtain ⟨t,u,v,e⟩:=I.hok r _ hr
 have h16:(16777216:Nat)=sizeLine:=sizeLine_eq.symm
 refine call_list_range (n:=n) (I.ok.hd hc) e (small_one (by omega) (by omega) (by omega) (by omega)) (by rw [rangeSize_one];split <;> omega) (by omega) λh' tk acc' c' hk hS hit=>?_
 refine ⟨.ref _,_,I.laid (o:=.lst ((List.range n).map λi=>V.int ((i:Nat):Int))) hk (Nat.le_refl _) ⟨by rw [List.length_map,List.length_range];omega,acc'.toList,c',?_,hS⟩,rfl,q _ I.fresh⟩
 refine Zc5 (by rw [List.length_map,List.length_range,Array.length_toList];exact hit.1.symm) λi x u e1 e2=>?_
 rw [Array.getElem?_toList] at e2
 obtain ⟨tk',rfl⟩:=hit.2 i u e2
 rw [List.getElem?_map] at e1
 cases z:(List.range n)[i]? with
 | none=>rw [z] at e1;cases e1
 | some k=>
  rw [z] at e1
  have hk:k=i:=by
   obtain ⟨h1,h2⟩:=List.getElem?_eq_some_iff.mp z
   rw [List.getElem_range] at h2
   exact h2.symm
  subst hk
  cases e1
  exact ⟨tk',by rw [Int.mul_one,Int.zero_add]⟩
end
section
variable {X:Cx}
theorem Zfy:UnR X (unaryOp .USub) (rU λi=>.int (-i)):=by
 intro pins s σ H x v Q I rx h
 obtain ⟨i,rfl,q⟩:=h
 obtain ⟨t,rfl⟩:=rx
 exact neg_int ⟨.int (-i),H,I.tok _,⟨_,rfl⟩,q⟩
end
theorem Zga {xs:List V} {k:Nat}:Zfl xs (some (k:Int)) none=xs.drop k:=by
 unfold Zfl
 rw [HT.sIx_none,HT.sIx_nat]
 by_cases h:k<=xs.length
 ·rw [Nat.min_eq_left h,List.take_of_length_le (by rw [List.length_drop];exact Nat.le_refl _)]
 ·rw [Nat.min_eq_right (by omega),List.drop_length,List.drop_of_length_le (by omega),List.take_nil]
theorem Zk2 {xs:List V} {n:Int} (h0:0<=n) (h1:n<xs.length):atI xs n=some (xs.getD n.toNat .non):=by
 obtain ⟨k,rfl⟩:=Int.eq_ofNat_of_zero_le h0
 have hk:k<xs.length:=by omega
 refine Zas ?_
 show xs[k]?=some (xs.getD k .non)
 rw [List.getD_eq_getElem?_getD,List.getElem?_eq_getElem hk]
 rfl
theorem Zbc {K:PySem.W.Frag} {H:Hp}:∀ ns:List Int,DatVs K H (ns.map V.int) (ns.map PyData.int)
 | []=>.nil
 | n::ns=>.cons (.int n) (Zbc ns)
theorem Zd9:∀ ns:List Int,PyData.canLayAll0 (ns.map PyData.int)=true
 | []=>by simp [PyData.canLayAll0]
 | n::ns=>by
  rw [List.map_cons]
  simp [PyData.canLayAll0,PyData.canLay0,Zd9 ns]
theorem ZcN:∀ ns:List Int,PyData.depthAll (ns.map PyData.int)<=1
 | []=>by simp [PyData.depthAll]
 | n::ns=>by
  have ih:=ZcN ns
  rw [List.map_cons]
  simp only [PyData.depthAll,PyData.depth]
  omega
theorem Za8 (ns:List Int):SeqAt.shaped (.list (ns.map PyData.int))=true:=by
 unfold SeqAt.shaped
 rw [Bool.and_eq_true]
 have:=ZcN ns
 refine ⟨by simp only [PyData.canLay0];exact Zd9 ns,decide_eq_true ?_⟩
 simp only [PyData.depth]
 omega
theorem Zc6 (ns ms:List Int):PyData.eqv (.list (ns.map PyData.int)) (.list (ms.map PyData.int))=decide (ns=ms):=by
 rw [<-PySem.W.ked_eqvAll]
 simp only [PyData.eqv]
theorem Zgb {a b c:List Int} (h1:a.Perm b) (h2:a.Pairwise (· <= ·)) (h3:c.Pairwise (· <= ·)):a=c↔b.Perm c:=by
 constructor
 ·rintro rfl
  exact h1.symm
 ·intro h
  exact PySem.W.ksm_same (h1.trans h) h2 h3
end L2
namespace L2
open PySem PySem.Spec PyProof.Rows
theorem ZgT {P:Program} {w:World} {K:PySem.W.Frag} {mg:Str->Option Value} {base:Heap} {N:List Str} {qual:Str} {scope:Scope} {f:Addr} {cd:Value} {A:Around} {outer:List Env} {s:Shared} {H:Hp} {E:XK} :
  ZeF (CXr P w) (ZhI (CXr P w) P w K mg base N qual scope f cd A outer s H E) E:=by
 intro pins σ H1 s1 ev s' I h
 obtain ⟨a,C,H',rfl,⟨t,B,os,bare,un,hok,fl,trk,old⟩,hE⟩:=h
 have hfr:=I.ok.frames
 have nox:∀ b:Addr,b ∉ (ZhI (CXr P w) P w K mg base N qual scope f cd A outer s H E).ex:=λb z=>absurd (show b∈([]:List Addr) from z) (by simp)
 refine wpAny_leaves_onW hfr rfl fl λh2 fl2 sm=>?_
 obtain ⟨u2,k2⟩:=Zf8 (t:=t) (a:=a) (C:=C) un hok fl.2.2.1 trk old fl2.1 sm
 have u1:Un (frs (envOfC qual scope s.heap.objs.size f cd::outer)) [] H H1 s.heap s1.heap:=Un.mono I.base (λb hb=>by
  have hb':b∈frs outer:=hb
  obtain ⟨env,he,q⟩:=List.mem_filterMap.mp hb'
  exact List.mem_filterMap.mpr ⟨env,List.mem_cons_of_mem _ he,q⟩) (λb hb=>absurd hb (nox b))
 have u3:=u1.trans u2
 have nst:∀ b o,s.heap.get? b=some o->b ∉ frs outer->b ∉ frs (envOfC qual scope s.heap.objs.size f cd::outer):=λb o e hb z=>by
  rcases List.mem_cons.mp (I.stkSub b z) with q | q
  ·exact absurd (Nat.lt_of_lt_of_le (Heap.lt_size e) I.ok.above) (by rw [q];exact Nat.lt_irrefl _)
  ·exact hb q
 have inst:∀ b,b∈frs outer->b∈frs (envOfC qual scope s.heap.objs.size f cd::outer):=λb hb=>by
  obtain ⟨env,he,q⟩:=List.mem_filterMap.mp hb
  exact List.mem_filterMap.mpr ⟨env,List.mem_cons_of_mem _ he,q⟩
 refine ⟨a,C,H',rfl,⟨t,B,os.trans I.os,bare,⟨λb o e n hb hx=>u3.keep b o e n (nst b o e hb) hx,λb o e n hb hx=>u3.slot b o e n (inst b hb) hx,u3.free,u3.there,u3.tups,u3.frzs,u3.tbls⟩,k2,fl2,λb o e n=>?_,λb o0 o e0 e nb=>?_⟩,hE⟩
 ·cases q':H' b with
  | none=>exact absurd q' n
  | some u=>
   obtain ⟨v,q⟩:=(hok b u q').there
   have e1:=trk b v q n
   have e2:=fl2.1 b v e1
   have e':h2.get? b=some o:=e
   rw [e'] at e2;cases e2
   exact e1
 ·obtain ⟨o1,e1⟩:=u1.there b o0 e0 (by simp)
  obtain ⟨o2,e2⟩:=un.there b o1 e1 (by simp)
  have e3:=old b o1 o2 e1 e2 (nst b o0 e0 nb)
  have e4:=fl2.1 b o2 e3
  have e':h2.get? b=some o:=e
  rw [e'] at e4;cases e4
  exact e3
section
variable {X:Cx}
def Zqr (K:PySem.W.Frag) (neg:Bool):R2:=λx y H Q=>∃ p xs d ds,y=.ref p/\(SqL K H p xs\/SqT K H p xs)/\DatV K H x d/\DatVs K H xs ds/\SeqAt.shaped d=true/\(∀ e∈ds,SeqAt.shaped e=true)/\Q (.bl (neg != ds.any λe=>PyData.eqv e d)) H
open Classical in
noncomputable def ZpA (h:Heap) (u:Value):PyData:=if q:∃ d as,Reads h u d as/\SeqAt.shaped d=true then choose q else .none
def ZnF:V->List V->Hp->VK->Prop:=λx vs H Q=>∃ l xs y,x=.ref l/\vs=[.int 0,y]/\H l=some (.lst xs)/\xs.length<sizeLine/\Q .non (upd H l (.lst (y::xs)))
end
end L2
namespace L2
open PySem PySem.Spec PyProof.Rows
section
variable {X:Cx}
def Zn6:V->List V->Hp->VK->Prop:=λx vs H Q=>∃ l xs i y,x=.ref l/\vs=[.int i,y]/\H l=some (.lst xs)/\0<=i/\i<=xs.length/\xs.length<sizeLine/\Q .non (upd H l (.lst (xs.take i.toNat++y::xs.drop i.toNat)))
def Ite (K:PySem.W.Frag) (a:Addr):It:=
 ⟨λi H=>∃ xs x,SqL K H a xs/\xs[i]?=some x,λi H x H'=>∃ T y,x=.ref T/\H T=none/\H'=upd H T (.tup [.int (i:Nat),y])/\∀ xs,SqL K H a xs->xs[i]?=some y,λi H=>∃ xs,SqL K H a xs/\xs.length<=i⟩
theorem ZhX {P:Program} {w:World} {K:PySem.W.Frag} {elts:List Expr} {k:Nat} {pos:Pos} (a e it:Addr) (hne:e≠it) :
  Zmf P w K (.Tuple elts k pos) (Ite K a) [e,it] e (λi h=>(∃ old,IsEnum h e it ((i:Nat):Int) old)/\h.IsListIter it a i) where
 mem:=by simp
 obj:=λi h st b hb=>by
  obtain ⟨⟨old,he⟩,⟨o,ei,c,d⟩⟩:=st
  rcases List.mem_cons.mp hb with rfl | hb
  ·exact ⟨_,he,λv z=>by
    have z':Data.fields _=Data.cell v:=z
    cases z'⟩
  ·have eb:b=it:=by simpa using hb
   subst eb
   exact ⟨o,ei,λv z=>by rw [d] at z;cases z⟩
 keep:=λi h h' st q=>by
  obtain ⟨⟨old,he⟩,hi⟩:=st
  exact ⟨⟨old,q e (by simp) _ he⟩,hi.at λo ho=>q it (by simp) o ho⟩
 item:=by
  intro X hP hw hK hc i pins s σ H E I hf st hg
  subst hP hw hK
  obtain ⟨xs,x,hq,hx⟩:=hg
  obtain ⟨its,rv,p,hz⟩:=I.list hq
  obtain ⟨u,hu,ru⟩:=rv.get hx
  obtain ⟨⟨old,he⟩,hit⟩:=st
  refine wpAny_pyNext_enum_item he hit p.isList (x:=u) (by simpa using hu) hne λh1 heo hit1 ht1 hz1 hk1=>?_
  refine ⟨_,rfl,wpAny_letOwnedTupleGo_enum (s:={ s with heap:=h1,toks:=s.toks+1 }) heo λh2 he2 hs2=>?_⟩
  have hs2':Heap.SameBut e h1 h2:=hs2
  have hfr:H s.heap.objs.size=none:=I.fresh
  have hel:e<s.heap.objs.size:=Heap.lt_size he
  have kk:∀ b o,b ∉ [e,it]->s.heap.get? b=some o->h2.get? b=some o:=λb o hb q=>by
   have n1:b≠e:=λz=>hb (by simp [z])
   have n2:b≠it:=λz=>hb (by simp [z])
   exact (hs2'.2 b n1).trans (hk1 b o n1 n2 q)
  have nT:∀ b o,s.heap.get? b=some o->b≠s.heap.objs.size:=λb o q=>Nat.ne_of_lt (Heap.lt_size q)
  have trk:∀ c u,H c=some u->c ∉ [e,it]:=λc u q z=>by
   rw [(hf c z).1] at q;cases q
  refine ⟨.ref s.heap.objs.size,upd H s.heap.objs.size (.tup [.int (i:Nat),x]),I.call' (ch:=[e,it]) rfl ⟨λb o q _ _ hb=>kk b o hb q,λb o q _ _ hb=>⟨o.slots,kk b o hb q⟩,λb o q n _=>by rw [Zam (nT b o q)];exact n,
   λb o q hb=>⟨o,kk b o hb q⟩,λb ys q=>by rw [Zam (Zag q hfr)];exact q,λb o u q=>by rw [Zam (Zag q hfr)];exact q,λb ps q=>⟨#[],by rw [Zam (Zag q hfr),q];simp⟩⟩ (λb v q=>?_) I.bare (λb hb=>?_),
   rfl,⟨_,x,rfl,hfr,rfl,λys hy=>by rw [I.list_inj hy hq];exact hx⟩,⟨⟨_,by rw [Int.natCast_add];exact he2⟩,hit1.extBut hs2'.extBut (Ne.symm hne)⟩,λb hb=>?_⟩
  ·by_cases hb:b=s.heap.objs.size
   ·subst hb
    rw [Zab] at q;cases q
    refine ⟨by have h16:(16777216:Nat)=sizeLine:=sizeLine_eq.symm;rw [<-h16];show 2<=16777216;omega,[.int (i:Nat) s.toks,u],.cons ⟨_,rfl⟩ (.cons ru .nil),⟨_,(hs2'.2 _ (Nat.ne_of_gt hel)).trans ht1,rfl,_,rfl⟩⟩
   ·rw [Zam hb] at q
    refine (I.hok b v q).stay (λc v' hc z=>kk c v' ?_ z) (λc z=>by rw [Zam (Zag z hfr)];exact z) λc ys z=>by rw [Zam (Zag z hfr)];exact z
    rcases hc with rfl | hc
    ·exact trk _ _ q
    ·exact trk _ _ hc
  ·obtain ⟨f0,f1,f2,f3,f4,f5⟩:=hf b hb
   exact ⟨f3,f1,f4,f5⟩
  ·have ho:∃ o,s.heap.get? b=some o:=by
    rcases List.mem_cons.mp hb with rfl | hb
    ·exact ⟨_,he⟩
    ·have eb:b=it:=by simpa using hb
     subst eb
     obtain ⟨o,ei,_⟩:=hit
     exact ⟨o,ei⟩
   obtain ⟨o,ho⟩:=ho
   rw [Zam (nT b o ho)]
   exact (hf b hb).1
 done:=by
  intro X hP hw hK hc i pins s σ H E I hf st hg
  subst hP hw hK
  obtain ⟨xs,hq,hx⟩:=hg
  obtain ⟨its,rv,p,hz⟩:=I.list hq
  obtain ⟨⟨old,he⟩,hit⟩:=st
  obtain ⟨f0,f1,f2,f3,f4,f5⟩:=hf it (by simp)
  have hl:=rv.length
  exact wpAny_pyNext_enum_end (I.ok.hd hc) he hit p.isList (by simp;omega) λh' eb=>⟨rfl,I.turned (t':=s.toks) (λb o hb q=>eb b o hb q) f0 f1 f3 f4 f5⟩
 self:=λ_ _ _ _ _ ⟨⟨_,he⟩,_⟩ h=>wpAny_pyIter_enum he h
def ZmB (K:PySem.W.Frag) (ta:TA):TI:=λσ H R=>ta σ H λvs H1=>∃ a xs,vs=[.ref a]/\SqL K H1 a xs/\R (Ite K a) H1
theorem Zk3 {elts:List Expr} {k:Nat} {p0:Pos} {l:Expr} {ta:TA} {p pos:Pos} (hg:Gl X "enumerate") (hm:X.mg "enumerate" = none) (ha:PA X [l] ta) (hs:starEach [l] X.env=[(false,eval l X.env)]:=by rfl) :
  PI X (.Tuple elts k p0) (.Call (.Name "enumerate" p) [l] [] pos) (ZmB X.K ta):=by
 intro pins s σ H R I h
 refine Call_ (Zdf I hg hm boot_enumerate (PyProof.Rows.callWith_type1 (thn (ha pos pins s σ H _ I h) λus s1 ⟨vs,H1,I1,r1,q1⟩=>?_) hs rfl))
 obtain ⟨a,xs,e,hq,q⟩:=q1
 subst e
 obtain ⟨u,rfl,ru⟩:=r1.one
 cases ru
 obtain ⟨its,rv,pl,hz⟩:=I1.list hq
 refine call_enumerate_list pl.isList λh' hE hI hsz hk=>?_
 refine wpAny_pyIter_enum hE ?_
 refine ⟨s1.heap.objs.size+1,[s1.heap.objs.size+1,s1.heap.objs.size],_,_,H1,rfl,I1.kept (t':=s1.toks) hk,ZhX a _ _ (Nat.succ_ne_self _),⟨⟨_,hE⟩,hI⟩,λb hb=>?_,q⟩
 have e:s1.heap.objs.size<=b:=by
  rcases List.mem_cons.mp hb with rfl | hb
  ·exact Nat.le_succ _
  ·have eb:b=s1.heap.objs.size:=by simpa using hb
   rw [eb];exact Nat.le_refl _
 exact I1.fpOk e (I1.hok.fresh e)
theorem Zk4 (K:PySem.W.Frag) {elts:List Expr} {k:Nat} {p0:Pos} {l:Expr} {ta:TA} {p pos:Pos} (hg:Gl X "enumerate") (hm:X.mg "enumerate" = none) (ha:PA X [l] ta) (h:X.K=K:=by rfl) (hs:starEach [l] X.env=[(false,eval l X.env)]:=by rfl) :
  PI X (.Tuple elts k p0) (.Call (.Name "enumerate" p) [l] [] pos) (ZmB K ta):=h▸Zk3 hg hm ha hs
end
theorem ZhY {K:PySem.W.Frag} {a D:Addr} {xs:List V} {g:TG} {tc:TT} {te:TE} {σ0:St} {R:Hp->Prop} {H1:Hp} (Pv:Nat->List V->Hp->Prop) (h0:Pv 0 [] (upd H1 D (.lst []))) (hl:∀ i ys H,i<=xs.length->Pv i ys H->SqL K H a xs)
  (hs:∀ i x ys H T,xs[i]?=some x->Pv i ys H->H T=none->g (.ref T) σ0 (upd H T (.tup [.int (i:Nat),x])) λσ4 H4=>Zdl σ0 σ4/\tc σ4 H4 λb H5=>if b=true then te σ4 H5 λy H6=>H6 D=some (.lst ys)/\ys.length<sizeLine/\Pv (i+1) (ys++[y]) (upd H6 D (.lst (ys++[y]))) else Pv (i+1) ys H5)
  (hd:∀ ys H,Pv xs.length ys H->R H):∃ W:Nat->Nat->List V->Hp->Prop,(∃ m,W 0 m [] (upd H1 D (.lst [])))/\ZbF (Ite K a) D g tc te σ0 W R:=by
 refine ⟨λi m ys H=>m=xs.length-i/\i<=xs.length/\Pv i ys H,⟨_,rfl,Nat.zero_le _,h0⟩,?_⟩
 rintro i m ys H ⟨rfl,hi,p⟩
 have q:=hl i ys H hi p
 by_cases hlt:i<xs.length
 ·refine .inr ⟨⟨xs,xs[i],q,by simp [hlt]⟩,Pv (i+1),λys' H' p'=>⟨xs.length-(i+1),by omega,rfl,hlt,p'⟩,λx H' y=>?_⟩
  obtain ⟨T,y',rfl,hT,rfl,y⟩:=y
  exact hs i y' ys _ T (y xs q) p hT
 ·have e:i=xs.length:=by omega
  subst e
  exact .inl ⟨⟨xs,q,Nat.le_refl _⟩,hd ys H p⟩
abbrev TB:=Ends->(St->XK)->St->Hp->Prop
def PB (X:Cx) (body:List Stmt) (tb:TB):Prop:=∀ (pins:List (Addr×Obj)) (s:Shared) (σ:St) (H:Hp) (D:Ends) (Eσ:St->XK) (QQ:Flow->Shared->Prop) (EE:Value->Shared->Prop),Inv X pins σ H s->tb D Eσ σ H ->
 (∀ fl s',SP X pins D fl s'->QQ fl s')->(∀ σ1 ev H1 s1 s',Inv X pins σ1 H1 s1->CXr X.prog X.w X.stack H1 s1 (Eσ σ1) ev s'->EE ev s')->wpAny (model X.prog X.w) X.A (execs body X.env) QQ EE s
section
variable {X:Cx} {k:Nat} {f:Addr} {fd:FuncData} {ps:List Str} {sp:Sp} {dvs:List V} {ds:List Value} {fx:Str} {fp cpos bpos np hpos pos:Pos} {e:Expr} {es:List Expr} {t:TA}
theorem Zn7 {c:Expr} {a b:List Stmt} {tc:TT} {ta tb:TB} (hc:PT X.nox c tc) (ha:PB X a ta) (hb:PB X b tb):PB X [.If c a b pos] (λD Eσ σ H=>tc σ H λd H1=>if d=true then ta D Eσ σ H1 else tb D Eσ σ H1):=by
 intro pins s σ H D Eσ QQ EE I h hQ hE
 refine wpAny_execs_cons (wpAny_If (wpAny_mono (hc pins s σ H _ (I.wish _) h) (λd s1 ⟨H1,I1,q1⟩=>?_) (λ_ _ z=>False.elim z)))
 have I1:=I1.unwish
 have fin:∀ fl s',SP X pins D fl s'->(match (generalizing:=false) fl with
   | .next=>wpAny (model X.prog X.w) X.A (execs [] X.env) QQ EE s'
   | other=>QQ other s'):=λfl s' hs=>by
  cases fl with
  | next=>exact wpAny_execs_nil (hQ _ _ hs)
  | brk=>exact hQ _ _ hs
  | cont=>exact hQ _ _ hs
  | ret u=>exact hQ _ _ hs
 cases d with
 | true=>exact ha pins s1 σ H1 D Eσ _ _ I1 ((if_pos rfl).mp q1) fin hE
 | false=>exact hb pins s1 σ H1 D Eσ _ _ I1 ((if_neg Bool.false_ne_true).mp q1) fin hE
end
end L2
namespace L2
open PySem PySem.Spec PyProof.Rows
section
variable {X:Cx} {a b c d:Expr} {ta tb tc td:TE} {pos:Pos}
def Zn8 (r1 r2 r3:R2) (ta tb tc td:TE):TE:=λσ H Q=>ta σ H λx H1=>tb σ H1 λy H2=>r1 x y H2 λz H3=>∃ k,z=.bl k /\
 (if k=true then tc σ H3 λw' H4=>r2 y w' H4 λz' H5=>∃ k',z'=.bl k'/\(if k'=true then td σ H5 λu' H6=>r3 w' u' H6 Q else Q (.bl false) H5) else Q (.bl false) H3)
theorem Zgc:bootBuiltins "all" = some (.builtin "all"):=by first | rfl | decide +kernel
theorem Zjh:bootBuiltins "set" = some (.type "set"):=by first | rfl | decide +kernel
theorem ZeR:∀ {bs:List Bool} {us:List Value},Vals (bs.map V.bl) us->us=bs.map Value.bool
 | [],_,.nil=>rfl
 | b::bs,_,.cons r t=>by rw [List.map_cons,<-ZeR t];cases r;rfl
theorem ZhZ (bs:List Bool):(List.range bs.length).all (λi=>bs.getD i false)=bs.all id:=by
 induction bs with
 | nil=>rfl
 | cons b bs ih=>
  rw [List.length_cons,List.range_succ_eq_map,List.all_cons,List.all_map,List.all_cons]
  show (b && _)=(b && _)
  congr 1
theorem ZoP (K:PySem.W.Frag) (hc:X.calm=true) (h:X.K=K:=by rfl):ZbC X (.builtin "all") (λxs H Q=>∃ (p:Addr) (bs:List Bool),xs=[.ref p]/\SqL K H p (bs.map V.bl)/\Q (.bl (bs.all id)) H):=by
 subst h
 intro pins s σ H xs us Q I rv h
 obtain ⟨p,bs,rfl,hq,q⟩:=h
 obtain ⟨u,rfl,ru⟩:=rv.one
 cases ru
 obtain ⟨its,r,pl,hz⟩:=I.list hq
 have e:=ZeR r
 have hh:X.A.in1.handled=none:=I.ok.hd hc
 obtain ⟨o,eo,_⟩:=id pl.isList
 have hlt:p<s.heap.objs.size:=Heap.lt_size eo
 refine call_all_walk (wpAny_pyIter_list pl.isList ?_)
 refine ⟨s.heap.objs.size,_,_,_,_,_,λi=>bs.getD i false,rfl,Walks.list hh s.heap.objs.size p (Nat.ne_of_lt hlt) its.toArray,⟨⟨_,Heap.get?_push_size _ rfl,rfl,rfl⟩,pl.isList.at λo e=>Heap.get?_push_of_some _ e⟩,?_,λh' tk hk=>?_⟩
 ·intro i v s' Q' E' hv hq'
  have hv':its[i]?=some v:=by simpa using hv
  rw [e,List.getElem?_map] at hv'
  cases z:bs[i]? with
  | none=>rw [z] at hv';cases hv'
  | some b=>
   rw [z] at hv'
   cases hv'
   have eb:bs.getD i false=b:=by rw [List.getD_eq_getElem?_getD,z];rfl
   exact wpAny_truthy_bool (by rw [<-eb];exact hq')
 ·have hl:its.toArray.size=bs.length:=by rw [List.size_toArray,e,List.length_map]
  have I1:Inv X pins σ H { s with heap:=s.heap.push { cls:=.type "list_iterator", data:=.fields #[.ref p,.int 0 0] } }:=I.kept (t':=s.toks) λb o e=>Heap.get?_push_of_some _ e
  refine ⟨.bl _,H,I.kept λb o e'=>hk b o ?_ (Heap.get?_push_of_some _ e'),?_,q⟩
  ·intro z
   have:b=s.heap.objs.size:=by simpa using z
   exact absurd (Heap.lt_size e') (by rw [this];exact Nat.lt_irrefl _)
  ·show Value.bool _=Value.bool _
   rw [hl,ZhZ]
end
end L2
namespace L2
open PySem PySem.Spec PyProof.Rows
section
variable {κ:Type} [DecidableEq κ]
def ZbT (kvs:List (κ×V)) (k:κ):Option V:=(kvs.find? λkv=>decide (kv.1=k)).map (·.2)
def Zc7 (kvs:List (κ×V)) (k:κ) (v:V):List (κ×V):=
 if (kvs.any λkv=>decide (kv.1=k))=true then kvs.map (λkv=>if kv.1=k then (kv.1,v) else kv) else kvs++[(k,v)]
def Zk5 (kvs:List (κ×V)) (k:κ):List (κ×V):=kvs.filter λkv=>decide (kv.1≠k)
theorem Za2 {p:κ×V} {r:List (κ×V)} {k:κ} (e:p.1=k):ZbT (p::r) k=some p.2:=by simp [ZbT,List.find?_cons,e]
theorem Za3 {p:κ×V} {r:List (κ×V)} {k:κ} (e:¬ p.1=k):ZbT (p::r) k=ZbT r k:=by simp [ZbT,List.find?_cons,e]
theorem ZbU (k:κ):∀ kvs:List (κ×V),(kvs.any λkv=>decide (kv.1=k))=(ZbT kvs k).isSome
 | []=>rfl
 | p::r=>by
  rw [List.any_cons]
  by_cases e:p.1=k
  ·simp only [Za2 e,decide_eq_true e,Bool.true_or,Option.isSome_some]
  ·rw [Za3 e,decide_eq_false e,Bool.false_or];exact ZbU k r
theorem Zgd (k j:κ) (y:V):∀ kvs:List (κ×V),ZbT (kvs.map λkv=>if kv.1=k then (kv.1,y) else kv) j=(ZbT kvs j).map λx=>if j=k then y else x
 | []=>rfl
 | p::r=>by
  have ih:=Zgd k j y r
  rw [List.map_cons]
  by_cases h:p.1=k
  ·rw [if_pos h]
   by_cases e:p.1=j
   ·rw [Za2 (p:=(p.1,y)) e,Za2 e,Option.map_some,if_pos (e.symm.trans h)]
   ·rw [Za3 (p:=(p.1,y)) e,Za3 e,ih]
  ·rw [if_neg h]
   by_cases e:p.1=j
   ·rw [Za2 (p:=p) e,Za2 e,Option.map_some,if_neg (λz=>h (e.trans z))]
   ·rw [Za3 (p:=p) e,Za3 e,ih]
theorem ZeS (k j:κ) (y:V):∀ kvs:List (κ×V),ZbT kvs k=none->ZbT (kvs++[(k,y)]) j=if j=k then some y else ZbT kvs j
 | [],_=>by
  by_cases e:k=j
  ·rw [if_pos e.symm];exact Za2 (p:=(k,y)) e
  ·rw [if_neg (λz=>e z.symm)];exact Za3 (p:=(k,y)) e
 | p::r,hn=>by
  rw [List.cons_append]
  have hk:¬ p.1=k:=λz=>by rw [Za2 z] at hn;cases hn
  rw [Za3 hk] at hn
  have ih:=ZeS k j y r hn
  by_cases e:p.1=j
  ·rw [Za2 e,Za2 e,if_neg (λz=>hk (e.trans z))]
  ·rw [Za3 e,Za3 e,ih]
theorem Zge (kvs:List (κ×V)) (k j:κ) (y:V):ZbT (Zc7 kvs k y) j=if j=k then some y else ZbT kvs j:=by
 unfold Zc7
 by_cases a:(kvs.any λkv=>decide (kv.1=k))=true
 ·rw [if_pos a,Zgd]
  rw [ZbU] at a
  by_cases e:j=k
  ·obtain ⟨x,hx⟩:=Option.isSome_iff_exists.mp a
   rw [if_pos e,e,hx,Option.map_some,if_pos rfl]
  ·rw [if_neg e]
   cases ZbT kvs j with
   | none=>rfl
   | some x=>rw [Option.map_some,if_neg e]
 ·rw [if_neg a]
  refine ZeS k j y kvs ?_
  rw [ZbU] at a
  cases q:ZbT kvs k with
  | none=>rfl
  | some x=>rw [q] at a;exact (a rfl).elim
theorem Zbi (kvs:List (κ×V)) (k:κ) (v:V):(Zc7 kvs k v).length<=kvs.length+1:=by
 unfold Zc7
 split
 ·rw [List.length_map];omega
 ·rw [List.length_append,List.length_cons,List.length_nil];omega
theorem Zji {kvs:List (κ×V)} {k:κ} (v:V) (h:ZbT kvs k=none):Zc7 kvs k v=kvs++[(k,v)]:=by
 unfold Zc7
 rw [ZbU,h]
 exact if_neg (by decide)
theorem RelO.isSome_eq {o:Option V} {u:Option Value} (r:RelO o u):o.isSome=u.isSome:=by
 cases o with
 | none=>cases u with
  | none=>rfl
  | some _=>exact (show False from r).elim
 | some _=>cases u with
  | none=>exact (show False from r).elim
  | some _=>rfl
theorem KV.val {kvs:List (κ×V)} {vs:List (κ×Value)} (r:KV kvs vs) (k:κ):RelO (ZbT kvs k) (valueAt vs k):=by
 unfold KV at r
 induction r with
 | nil=>exact True.intro
 | @cons p q ps qs h t ih=>
  obtain ⟨h1,h2⟩:=h
  by_cases e:p.1=k
  ·have e':q.1=k:=h1.symm.trans e
   have b:valueAt (q::qs) k=some q.2:=by simp [valueAt,List.find?_cons,e']
   rw [Za2 e,b];exact h2
  ·have e':¬ q.1=k:=λz=>e (h1.trans z)
   have b:valueAt (q::qs) k=valueAt qs k:=by simp [valueAt,List.find?_cons,e']
   rw [Za3 e,b];exact ih
theorem KV.any {kvs:List (κ×V)} {vs:List (κ×Value)} (r:KV kvs vs) (k:κ):(kvs.any λkv=>decide (kv.1=k))=vs.any λkv=>decide (kv.1=k):=by
 unfold KV at r
 induction r with
 | nil=>rfl
 | cons h t ih=>rw [List.any_cons,List.any_cons,ih,h.1]
theorem KV.repl {kvs:List (κ×V)} {vs:List (κ×Value)} (r:KV kvs vs) (k:κ) {y:V} {u:Value} (ry:RelV y u) :
  KV (kvs.map λkv=>if kv.1=k then (kv.1,y) else kv) (vs.map λkv=>if kv.1=k then (kv.1,u) else kv):=by
 unfold KV at r ⊢
 induction r with
 | nil=>exact .nil
 | @cons p q ps qs h t ih=>
  rw [List.map_cons,List.map_cons]
  refine .cons ?_ ih
  obtain ⟨h1,h2⟩:=h
  by_cases e:p.1=k
  ·rw [if_pos e,if_pos (h1.symm.trans e)];exact ⟨h1,ry⟩
  ·rw [if_neg e,if_neg (λz=>e (h1.trans z))];exact ⟨h1,h2⟩
theorem KV.put {kvs:List (κ×V)} {vs:List (κ×Value)} (r:KV kvs vs) (k:κ) {y:V} {u:Value} (ry:RelV y u):KV (Zc7 kvs k y) (stored vs k u):=by
 unfold Zc7 stored
 rw [r.any k]
 by_cases e:(vs.any λkv=>decide (kv.1=k))=true
 ·rw [if_pos e,if_pos e];exact r.repl k ry
 ·rw [if_neg e,if_neg e];exact Paired.snoc r ⟨rfl,ry⟩
theorem KV.length {kvs:List (κ×V)} {vs:List (κ×Value)} (r:KV kvs vs):kvs.length=vs.length:=Paired.length r
end
theorem ZgU {P:Program} {w:World} {k:Key} {u:Value} (r:RelV (kV k) u):(ZaQ P w).is k u=true:=by
 cases k with
 | inl i=>obtain ⟨t,e⟩:=(show ∃ t,u=Value.int i t from r);subst e;exact Zfo P w i t
 | inr x=>obtain ⟨t,e⟩:=(show ∃ t,u=Value.str x t from r);subst e;exact Zfp P w x t
theorem ZeT {P:Program} {w:World}:∀ {ks:List Key} {us:List Value},Vals (ks.map kV) us->ItemsAre (ZaQ P w) ks us
 | [],_,r=>by rw [List.map_nil] at r;cases r;exact .nil
 | k::ks,_,r=>by
  rw [List.map_cons] at r
  cases r with
  | cons h t=>exact .cons (ZgU h) (ZeT t)
abbrev KT (H:Hp):List (List Key×V)->List (List Key×Addr×Value)->Prop:=Paired λp q=>p.1=q.1/\H q.2.1=some (.tup (p.1.map kV))/\RelV p.2 q.2.2
theorem KT.val {H:Hp} {kvs:List (List Key×V)} {xs:List (List Key×Addr×Value)} (r:KT H kvs xs) (k:List Key):RelO (ZbT kvs k) ((atKey xs k).map (·.2)):=by
 induction r with
 | nil=>exact True.intro
 | @cons p q ps qs h t ih=>
  obtain ⟨h1,_,h2⟩:=h
  by_cases e:p.1=k
  ·have e':q.1=k:=h1.symm.trans e
   have b:atKey (q::qs) k=some q.2:=by simp [atKey,List.find?_cons,e']
   rw [Za2 e,b];exact h2
  ·have e':¬ q.1=k:=λz=>e (h1.trans z)
   have b:atKey (q::qs) k=atKey qs k:=by simp [atKey,List.find?_cons,e']
   rw [Za3 e,b];exact ih
theorem KT.repl {H:Hp} {kvs:List (List Key×V)} {xs:List (List Key×Addr×Value)} (r:KT H kvs xs) (k:List Key) {y:V} {u:Value} (ry:RelV y u) :
  KT H (kvs.map λkv=>if kv.1=k then (kv.1,y) else kv) (xs.map (putAt k u)):=by
 induction r with
 | nil=>exact .nil
 | @cons p q ps qs h t ih=>
  rw [List.map_cons,List.map_cons]
  refine .cons ?_ ih
  obtain ⟨h1,h2,h3⟩:=h
  unfold putAt
  by_cases e:p.1=k
  ·rw [if_pos e,if_pos (h1.symm.trans e)];exact ⟨h1,h2,ry⟩
  ·rw [if_neg e,if_neg (λz=>e (h1.trans z))];exact ⟨h1,h2,h3⟩
theorem KT.put {H:Hp} {kvs:List (List Key×V)} {xs:List (List Key×Addr×Value)} (r:KT H kvs xs) (k:List Key) {b:Addr} {y:V} {u:Value} (hb:H b=some (.tup (k.map kV))) (ry:RelV y u) :
  KT H (Zc7 kvs k y) (storedH xs k b u):=by
 have e:(kvs.any λkv=>decide (kv.1=k))=(atKey xs k).isSome:=by
  rw [ZbU,(r.val k).isSome_eq,Option.isSome_map]
 unfold Zc7 storedH
 rw [e]
 by_cases q:(atKey xs k).isSome=true
 ·rw [if_pos q,if_pos q];exact r.repl k ry
 ·rw [if_neg q,if_neg q];exact Paired.snoc r ⟨rfl,hb,ry⟩
theorem KT.keeps {H H':Hp} {kvs:List (List Key×V)} {xs:List (List Key×Addr×Value)} (r:KT H kvs xs) (ht:∀ b ys,H b=some (.tup ys)->H' b=some (.tup ys)):KT H' kvs xs:=
 Paired.mapP r λ_ _ z=>⟨z.1,ht _ _ z.2.1,z.2.2⟩
section
variable {P:Program} {w:World} {H:Hp} {h:Heap} {a:Addr}
theorem ZmC {u:HO} (ok:HOk P w H h) (e:Rd H a u):ObjOk P w H h a u:=e.ok ok
theorem Zh0 {kvs:List (Key×V)} (ok:HOk P w H h) (e:Rd H a (.dK kvs)):kvs.length<=sizeLine/\(a == sysModules)=false/\∃ vs,KV kvs vs/\h.DictOf (ZaQ P w) a vs:=
 show ObjOk P w H h a (.dK kvs) from ZmC ok e
theorem Zk6 {kvs:List (Key×V)} (ok:HOk P w H h) (e:H a=some (.dK kvs)):kvs.length<=sizeLine/\(a == sysModules)=false/\∃ vs,KV kvs vs/\h.DictOf (ZaQ P w) a vs:=Zh0 ok (.inl e)
theorem ZeU {ks:List Key} (ok:HOk P w H h) (e:H a=some (.tup (ks.map kV))):(tupleKind (ZaQ P w)).is h ks a:=by
 obtain ⟨_,its,r,o,h1,h2,n,h3⟩:=(show ObjOk P w H h a (.tup (ks.map kV)) from ok a _ e)
 exact ⟨o,its.toArray,n,h1,h2,h3,by simpa using ZeT r⟩
theorem Zh1 {kvs:List (List Key×V)} (ok:HOk P w H h) (e:Rd H a (.dT kvs)):kvs.length<=sizeLine/\(a == sysModules)=false /\
  ∃ xs,KT H kvs xs/\h.DictOfH (tupleKind (ZaQ P w)) a xs:=by
 obtain ⟨z,y,xs,r,o,es,ep,h1,h2,h3,h4,h5⟩:=(show ObjOk P w H h a (.dT kvs) from ZmC ok e)
 refine ⟨z,y,xs,r,o,es,ep,h1,h2,h3,h4,λx hx=>?_,h5⟩
 have all:∀ {l:List (List Key×V)} {m:List (List Key×Addr×Value)},KT H l m->∀ x∈m,(tupleKind (ZaQ P w)).is h x.1 x.2.1:=by
  intro l m q
  induction q with
  | nil=>intro x hx;exact nomatch hx
  | @cons p q ps qs hq t ih=>
   intro x hx
   rcases List.mem_cons.mp hx with e | hx
   ·subst e
    exact ZeU ok (by rw [<-hq.1];exact hq.2.1)
   ·exact ih x hx
 exact all r x hx
theorem Zn9 {kvs:List (List Key×V)} (ok:HOk P w H h) (e:H a=some (.dT kvs)):kvs.length<=sizeLine/\(a == sysModules)=false /\
  ∃ xs,KT H kvs xs/\h.DictOfH (tupleKind (ZaQ P w)) a xs:=Zh1 ok (.inl e)
end
def DGet (H:Hp) (a:Addr) (y:V) (r:Option V):Prop:=
 (∃ kvs k,Rd H a (.dK kvs)/\y=kV k/\r=ZbT kvs k)\/∃ kvs k b,Rd H a (.dT kvs)/\y=.ref b/\H b=some (.tup (k.map kV))/\r=ZbT kvs k
def DPut (H:Hp) (a:Addr) (y v:V) (H':Hp):Prop:=
 (∃ kvs k,H a=some (.dK kvs)/\y=kV k/\kvs.length<sizeLine/\H'=upd H a (.dK (Zc7 kvs k v))) \/
 ∃ kvs k b,H a=some (.dT kvs)/\y=.ref b/\H b=some (.tup (k.map kV))/\kvs.length<sizeLine/\H'=upd H a (.dT (Zc7 kvs k v))
theorem DGet.k {H:Hp} {a:Addr} {kvs:List (Key×V)} {k:Key} (e:H a=some (.dK kvs)):DGet H a (kV k) (ZbT kvs k):=.inl ⟨kvs,k,.inl e,rfl,rfl⟩
theorem DGet.t {H:Hp} {a b:Addr} {kvs:List (List Key×V)} {k:List Key} (e:H a=some (.dT kvs)) (eb:H b=some (.tup (k.map kV))):DGet H a (.ref b) (ZbT kvs k):=.inr ⟨kvs,k,b,.inl e,rfl,eb,rfl⟩
theorem DPut.k {H:Hp} {a:Addr} {kvs:List (Key×V)} {k:Key} {v:V} (e:H a=some (.dK kvs)) (hl:kvs.length<sizeLine):DPut H a (kV k) v (upd H a (.dK (Zc7 kvs k v))):=.inl ⟨kvs,k,e,rfl,hl,rfl⟩
theorem DPut.t {H:Hp} {a b:Addr} {kvs:List (List Key×V)} {k:List Key} {v:V} (e:H a=some (.dT kvs)) (eb:H b=some (.tup (k.map kV))) (hl:kvs.length<sizeLine) :
  DPut H a (.ref b) v (upd H a (.dT (Zc7 kvs k v))):=.inr ⟨kvs,k,b,e,rfl,eb,hl,rfl⟩
section
variable {X:Cx} {pins:List (Addr×Obj)} {σ:St} {H:Hp} {s:Shared} {a:Addr} {y v:V} {u r:Value} {o:Option V} {A:Around} {E:Value->Shared->Prop}
theorem Inv.big (I:Inv X pins σ H s):sysModules<s.heap.objs.size:=by
 have h:mainGlobals<s.heap.objs.size:=(I.mod.glob.keeps I.bk).lt
 exact Nat.lt_trans (by decide) h
theorem Zh2 {Q:Value->Shared->Prop} (hu:A.units+1<cLine) (I:Inv X pins σ H s) (g:DGet H a y (some v)) (ry:RelV y u) (h:∀ w' s',Inv X pins σ H s'->RelV v w'->Q w' s') :
  wpAny (model X.prog X.w) A (getItem (.ref a) u) Q E s:=by
 rcases g with ⟨kvs,k,e,ey,l⟩ | ⟨kvs,k,b,e,ey,eb,l⟩
 ·subst ey
  obtain ⟨z,hd,vs,rel,dd⟩:=Zh0 I.hok e
  obtain ⟨w',hw,rw'⟩:=RelO.some_of (v:=v) (o:=valueAt vs k) (by rw [l];exact rel.val k)
  exact wpAny_getItem_of (ZgU ry) dd.mapOf hw (h w' _ (I.tok _) rw')
 ·subst ey
  cases (show u=Value.ref b from ry)
  obtain ⟨z,hd,xs,rel,dd⟩:=Zh1 I.hok e
  obtain ⟨w',hw,rw'⟩:=RelO.some_of (v:=v) (o:=(atKey xs k).map (·.2)) (by rw [l];exact rel.val k)
  obtain ⟨p,hp,hp2⟩:=Option.map_eq_some_iff.mp hw
  refine wpAny_getItem_heap (tupleKind_room_in1 hu) (ZeU I.hok eb) dd hp ?_
  rw [hp2]
  exact h w' _ (I.tok _) rw'
theorem ZpB {Q:Value->Shared->Prop} (hu:A.units+1<cLine) (I:Inv X pins σ H s) (g:DGet H a y o) (ry:RelV y u) (h:∀ s',Inv X pins σ H s'->Q (.bool o.isSome) s') :
  wpAny (model X.prog X.w) A (compareOp .In u (.ref a)) Q E s:=by
 rcases g with ⟨kvs,k,e,ey,l⟩ | ⟨kvs,k,b,e,ey,eb,l⟩
 ·subst ey
  obtain ⟨z,hd,vs,rel,dd⟩:=Zh0 I.hok e
  refine wpAny_in_of (ZgU ry) hd dd.mapOf ?_
  rw [<-(rel.val k).isSome_eq,<-l]
  exact h _ (I.tok _)
 ·subst ey
  cases (show u=Value.ref b from ry)
  obtain ⟨z,hd,xs,rel,dd⟩:=Zh1 I.hok e
  refine wpAny_in_heap (tupleKind_room_in1 hu) (ZeU I.hok eb) hd dd ?_
  have q:=(rel.val k).isSome_eq
  rw [Option.isSome_map] at q
  rw [<-q,<-l]
  exact h _ (I.tok _)
theorem Zk7 {Q:Value->Shared->Prop} (hu:A.units+1<cLine) (I:Inv X pins σ H s) (g:DGet H a y o) (ry:RelV y u) (h:∀ s',Inv X pins σ H s'->Q (.bool (!o.isSome)) s') :
  wpAny (model X.prog X.w) A (compareOp .NotIn u (.ref a)) Q E s:=by
 rcases g with ⟨kvs,k,e,ey,l⟩ | ⟨kvs,k,b,e,ey,eb,l⟩
 ·subst ey
  obtain ⟨z,hd,vs,rel,dd⟩:=Zh0 I.hok e
  refine wpAny_notIn_of (ZgU ry) hd dd.mapOf ?_
  rw [<-(rel.val k).isSome_eq,<-l]
  exact h _ (I.tok _)
 ·subst ey
  cases (show u=Value.ref b from ry)
  obtain ⟨z,hd,xs,rel,dd⟩:=Zh1 I.hok e
  refine wpAny_notIn_heap (tupleKind_room_in1 hu) (ZeU I.hok eb) hd dd ?_
  have q:=(rel.val k).isSome_eq
  rw [Option.isSome_map] at q
  rw [<-q,<-l]
  exact h _ (I.tok _)
theorem Zfz {h':Heap} {t':Nat} {ob:HO} (I:Inv X pins σ H s) (mu:Mut (H a)) (hs:Heap.SameBut a s.heap h') (he:∃ q,h'.get? a=some q) (new:ObjOk X.prog X.w (upd H a ob) h' a ob) :
  Inv X pins σ (upd H a ob) { s with heap:=h',toks:=t' }:=
 I.write (x:=a) (e:=a) mu (.inl rfl) (λb q hb z=>(hs.2 b hb).trans z) he new
theorem Zki {P:Program} {w:World} {H':Hp} {h':Heap} {kvs:List (Key×V)} {vs:List (Key×Value)} (z:kvs.length<=sizeLine) (hd:(a == sysModules)=false) (rel:KV kvs vs) (dd:h'.DictOf (ZaQ P w) a vs) :
  ObjOk P w H' h' a (.dK kvs):=⟨z,hd,vs,rel,dd⟩
theorem Zh3 {H':Hp} {Q:Unit->Shared->Prop} (hu:A.units+1<cLine) (I:Inv X pins σ H s) (g:DPut H a y v H') (ry:RelV y u) (rv:RelV v r) (h:∀ s',Inv X pins σ H' s'->Q () s') :
  wpAny (model X.prog X.w) A (setItem (.ref a) u r) Q E s:=by
 rcases g with ⟨kvs,k,e,ey,l,eH⟩ | ⟨kvs,k,b,e,ey,eb,l,eH⟩
 ·subst ey eH
  obtain ⟨z,hd,vs,rel,dd⟩:=Zk6 I.hok e
  have hz:vs.length<=sizeLine:=by rw [<-rel.length];exact z
  have hl:(Zc7 kvs k v).length<=sizeLine:=by have:=Zbi kvs k v;omega
  refine wpAny_setItem_pairs (hsz:=hz) (ZgU ry) dd λh' dd' hs=>h _ ?_
  have he:∃ q,h'.get? a=some q:=let ⟨q,_,_,hq,_⟩:=dd';⟨q,hq⟩
  exact Zfz I (by rw [e];exact True.intro) hs he (Zki hl hd (rel.put k rv) dd')
 ·subst ey eH
  cases (show u=Value.ref b from ry)
  obtain ⟨z,hd,xs,rel,dd⟩:=Zn9 I.hok e
  have hz:xs.length<=sizeLine:=by rw [<-Paired.length rel];exact z
  have hl:(Zc7 kvs k v).length<=sizeLine:=by have:=Zbi kvs k v;omega
  refine wpAny_setItem_heap (hsz:=hz) (tupleKind_room_in1 hu) (ZeU I.hok eb) dd λh' dd' hs=>h _ ?_
  obtain ⟨q,es,ep,hq,h2,h3,h4,_,h5⟩:=dd'
  refine Zfz I (by rw [e];exact True.intro) hs ⟨q,hq⟩ ⟨hl,hd,_,(rel.put k eb rv).keeps λc ys ec=>?_,q,es,ep,hq,h2,h3,h4,h5⟩
  rw [Zam (Zhq ec e (λz=>nomatch z))]
  exact ec
end
section
variable {X:Cx} {pins:List (Addr×Obj)} {σ:St} {H:Hp} {s:Shared} {a:Addr} {kvs:List (Key×V)} {k:Key} {u:Value} {A:Around} {E:Value->Shared->Prop}
end
def ZoQ (i:Expr):Prop:=∀ ov iv,subscripted i false ov iv=operate [ov,iv] (getItem ov iv)
theorem Zk8 {prog:Program} {w:World} {A:Around} {E:Value->Shared->Prop} {s:Shared} {env:Env} {value slice:Expr} {pos:Pos} {T id:String} {Q:Value->Shared->Prop}
  (hl:typeLookup (.type T) "__getitem__" = pure (some (.builtin id))) (hs:ZoQ slice)
  (h:wpAny (model prog w) A (eval value env) (λo s₁=>wpAny (model prog w) A (eval slice env) (λi s₂=>s₂.TypeIs o T/\wpAny (model prog w) A (getItem o i) Q E s₂) E s₁) E s) :
  wpAny (model prog w) A (eval (.Subscript value slice pos) env) Q E s:=by
 refine Subscript_ (wpAny_mono h (λo s₁ h₁=>wpAny_mono h₁ (λi s₂ h₂=>?_) λ_ _ x=>x) λ_ _ x=>x)
 obtain ⟨hT,h₂⟩:=h₂
 unfold subscriptTail
 refine wpAny_bind ?_
 rw [getitemInPython_of_ne hT.not_modules]
 refine wpAny_bind (wpAny_specialOf hT hl ?_)
 have fin:wpAny (model prog w) A (subscripted slice false o i) (λr s₃=>wpAny (model prog w) A (letTemporaryGo value o r >>= λ_=>pure r) Q E s₃) E s₂:=by
  rw [hs o i]
  exact wpAny_operating (wpAny_mono h₂ (λr s₃ h₃=>wpAny_bind (wpAny_letTemporaryGo (wpAny_pure h₃))) λ_ _ x=>x)
 first
  | exact wpAny_pure (wpAny_bind fin)
  | exact wpAny_bind (wpAny_pure (wpAny_bind fin))
  | exact wpAny_bind fin
theorem ZfA {X:Cx} {pins:List (Addr×Obj)} {σ:St} {H:Hp} {s:Shared} {a:Addr} {y:V} {o:Option V} (I:Inv X pins σ H s) (g:DGet H a y o):s.TypeIs (.ref a) "dict" := by
 rcases g with ⟨kvs,k,e,_,_⟩ | ⟨kvs,k,b,e,_,_,_⟩
 ·obtain ⟨_,_,vs,_,dd⟩:=Zh0 I.hok e
  exact dd.typeIs
 ·obtain ⟨_,_,xs,_,dd⟩:=Zh1 I.hok e
  exact dd.typeIs
def Zoa (td ty:TE):TE:=λσ H Q=>td σ H λx H1=>ty σ H1 λy H2=>∃ a v,x=.ref a/\DGet H2 a y (some v)/\Q v H2
def ZpC (ty td:TE):TE:=λσ H Q=>ty σ H λy H1=>td σ H1 λx H2=>∃ a o,x=.ref a/\DGet H2 a y o/\Q (.bl o.isSome) H2
def Zk9 (ty td:TE):TE:=λσ H Q=>ty σ H λy H1=>td σ H1 λx H2=>∃ a o,x=.ref a/\DGet H2 a y o/\Q (.bl (!o.isSome)) H2
def Zob (td ty tv:TE):TS:=λD σ H=>tv σ H λv H1=>td σ H1 λx H2=>ty σ H2 λy H3=>∃ a H4,x=.ref a/\DPut H3 a y v H4/\D.nx σ H4
def ZpD (td ty tv:TE) (rd:V->V->Hp->VK->Prop):TS:=λD σ H=>td σ H λx H1=>ty σ H1 λy H2=>∃ a v,x=.ref a/\DGet H2 a y (some v) /\
 tv σ H2 λy2 H3=>rd v y2 H3 λz H4=>∃ H5,DPut H4 a y z H5/\D.nx σ H5
def ZpE (td ty:TE):TS:=λD σ H=>td σ H λx H1=>ty σ H1 λy H2=>∃ a kvs k,x=.ref a/\H2 a=some (.dK kvs)/\y=kV k/\(ZbT kvs k).isSome=true/\D.nx σ (upd H2 a (.dK (Zk5 kvs k)))
section
variable {X:Cx} {o i e value:Expr} {pos pos' tpos:Pos} {td ty tv:TE}
theorem Zla (hu:X.A.units+1<cLine) (ho:PE X o td) (hi:PE X i ty) (hs:ZoQ i):PE X (.Subscript o i pos) (Zoa td ty):=by
 intro pins s σ H Q I h
 refine Zk8 PySem.F.slot_dict_getitem.lookup hs (thn (ho pins s σ H _ I h) λu s1 ⟨x,H1,I1,rx,q1⟩=>thn (hi pins s1 σ H1 _ I1 q1) λiv s2 ⟨y,H2,I2,ry,a,v,ex,g,q2⟩=>?_)
 subst ex
 obtain rfl:u=Value.ref a:=rx
 exact ⟨ZfA I2 g,Zh2 hu I2 g ry λw' s3 I3 rw'=>⟨v,H2,I3,rw',q2⟩⟩
theorem ZmD (hu:X.A.units+1<cLine) (hi:PE X i ty) (ho:PE X o td):PC X .In i o (ZpC ty td):=by
 intro pins s σ H Q I h
 refine thn (hi pins s σ H _ I h) λiv s1 ⟨y,H1,I1,ry,q1⟩=>thn (ho pins s1 σ H1 _ I1 q1) λu s2 ⟨x,H2,I2,rx,a,ov,ex,g,q2⟩=>?_
 subst ex
 obtain rfl:u=Value.ref a:=rx
 exact ZpB hu I2 g ry λs3 I3=>⟨.bl ov.isSome,H2,I3,rfl,q2⟩
theorem ZeV (hu:X.A.units+1<cLine) (hi:PE X i ty) (ho:PE X o td):PC X .NotIn i o (Zk9 ty td):=by
 intro pins s σ H Q I h
 refine thn (hi pins s σ H _ I h) λiv s1 ⟨y,H1,I1,ry,q1⟩=>thn (ho pins s1 σ H1 _ I1 q1) λu s2 ⟨x,H2,I2,rx,a,ov,ex,g,q2⟩=>?_
 subst ex
 obtain rfl:u=Value.ref a:=rx
 exact Zk7 hu I2 g ry λs3 I3=>⟨.bl (!ov.isSome),H2,I3,rfl,q2⟩
theorem Zea (hu:X.A.units+1<cLine) (ho:PE X o td) (hi:PE X i ty) (hv:PE X value tv) (hs:swapsWith value (some (.Subscript o i pos')) pos.line X.env=pure false) :
  PS X (.Assign [.Subscript o i pos'] value pos) (Zob td ty tv):=by
 intro pins s σ H D I h
 refine wpAny_Assign_Subscript (thn (hv pins s σ H _ I h) λr s1 ⟨v,H1,I1,rv,q1⟩=>thn (ho pins s1 σ H1 _ I1 q1) λu s2 ⟨x,H2,I2,rx,q2⟩=>thn (hi pins s2 σ H2 _ I2 q2) λiv s3 ⟨y,H3,I3,ry,a,H4,ex,g,q3⟩=>?_) hs
 subst ex
 obtain rfl:u=Value.ref a:=rx
 exact Zh3 hu I3 g ry rv λs4 I4=>⟨σ,H4,I4,q3⟩
end
theorem Zjj {P:Program} {w:World} {H:Hp} (h:Heap) (hb:sysModules<h.objs.size):ObjOk P w H (h.push { cls:=.type "dict", data:=.dict #[] }) h.objs.size (.dK []):=
 ⟨Nat.zero_le _,beq_eq_false_iff_ne.mpr (Ne.symm (Nat.ne_of_lt hb)),[],.nil,Heap.DictOf.new h⟩
theorem Zjk {P:Program} {w:World} {H:Hp} (h:Heap) (hb:sysModules<h.objs.size):ObjOk P w H (h.push { cls:=.type "dict", data:=.dict #[] }) h.objs.size (.dT []):=
 ⟨Nat.zero_le _,beq_eq_false_iff_ne.mpr (Ne.symm (Nat.ne_of_lt hb)),[],.nil,_,#[],0,Heap.get?_push_size _ rfl,⟨rfl,rfl,rfl⟩,rfl,rfl,List.nodup_nil⟩
def ZoR:TE:=λ_ H Q=>∀ p,H p=none->Q (.ref p) (upd H p (.dK []))
def ZmE:TE:=λ_ H Q=>∀ p,H p=none->Q (.ref p) (upd H p (.dT []))
section
variable {X:Cx} {pos:Pos}
theorem Zjl:PE X (.Dict [] [] pos) ZmE:=λpins s σ H Q I h=>
 wpAny_Dict_empty ⟨.ref s.heap.objs.size,_,I.laid (a:=s.heap.objs.size) (o:=.dT []) (t':=s.toks) (λ_ _ q=>Heap.get?_push_of_some _ q) (Nat.le_refl _) (Zjk s.heap I.big),rfl,h _ (I.hok.fresh (Nat.le_refl _))⟩
end
def Zh4:List (TE×TE)->St->Hp->(List (V×V)->Hp->Prop)->Prop
 | [],_,H,Q=>Q [] H
 | (tk,tv)::r,σ,H,Q=>tk σ H λx H1=>tv σ H1 λy H2=>Zh4 r σ H2 λps H3=>Q ((x,y)::ps) H3
abbrev VV:List (V×V)->List (Value×Value)->Prop:=Paired λp q=>RelV p.1 q.1/\RelV p.2 q.2
def PPs (X:Cx) (pos:Pos) (keys:List (Option Expr)) (values:List Expr) (trs:List (TE×TE)):Prop:=
 ∀ (pins:List (Addr×Obj)) (s:Shared) (σ:St) (H:Hp) (Q:List (V×V)->Hp->Prop),Inv X pins σ H s->Zh4 trs σ H Q ->
  wpAny (model X.prog X.w) X.A (evalPairs (pairTrees keys values X.env pos)) (λvs s'=>∃ ps H',Inv X pins σ H' s'/\VV ps vs/\Q ps H') X.xe s
theorem Zh5 {X:Cx} {pos:Pos}:PPs X pos [] [] []:=λpins s σ H Q I h=>pairTrees_nil_walk ⟨[],H,I,.nil,h⟩
theorem Zgf {X:Cx} {pos:Pos} {k v:Expr} {ks:List (Option Expr)} {vs:List Expr} {tk tv:TE} {trs:List (TE×TE)} (hk:PE X k tk) (hv:PE X v tv) (hr:PPs X pos ks vs trs) :
  PPs X pos (some k::ks) (v::vs) ((tk,tv)::trs):=λpins s σ H Q I h=>
 pairTrees_cons_walk (thn (hk pins s σ H _ I h) λu s1 ⟨x,H1,I1,rx,q1⟩=>thn (hv pins s1 σ H1 _ I1 q1) λw2 s2 ⟨y,H2,I2,ry,q2⟩=>
  thn (hr pins s2 σ H2 _ I2 q2) λws s3 ⟨ps,H3,I3,rel,q3⟩=>⟨(x,y)::ps,H3,I3,.cons ⟨rx,ry⟩ rel,q3⟩)
def ZbH (kvs more:List (Key×V)):List (Key×V):=more.foldl (λacc kv=>Zc7 acc kv.1 kv.2) kvs
theorem KV.merge:∀ {more:List (Key×V)} {rs:List (Key×Value)} {kvs:List (Key×V)} {vs:List (Key×Value)},KV more rs->KV kvs vs->KV (ZbH kvs more) (merged vs rs):=by
 intro more rs kvs vs r
 unfold KV at r
 induction r generalizing kvs vs with
 | nil=>intro q;exact q
 | @cons p q ps qs h t ih=>
  intro r0
  have e:KV (Zc7 kvs p.1 p.2) (stored vs q.1 q.2):=by
   have:=r0.put p.1 h.2
   rw [<-h.1];exact this
  exact ih e
theorem Zco:∀ (more kvs:List (Key×V)),(ZbH kvs more).length<=kvs.length+more.length
 | [],kvs=>by show kvs.length<=kvs.length+0;omega
 | p::r,kvs=>by
  have h1:=Zco r (Zc7 kvs p.1 p.2)
  have h2:=Zbi kvs p.1 p.2
  show (ZbH (Zc7 kvs p.1 p.2) r).length<=_
  rw [List.length_cons];omega
theorem ZdQ {P:Program} {w:World}:∀ {kvs:List (Key×V)} {ws:List (Value×Value)},VV (kvs.map λkv=>(kV kv.1,kv.2)) ws->∃ rs,Carries (ZaQ P w) ws rs/\KV kvs rs
 | [],_,r=>by rw [List.map_nil] at r;cases r;exact ⟨[],True.intro,.nil⟩
 | p::kvs,_,r=>by
  rw [List.map_cons] at r
  cases r with
  | @cons a b as bs h t=>
   obtain ⟨rs,c,q⟩:=ZdQ (P:=P) (w:=w) t
   obtain ⟨b1,b2⟩:=b
   exact ⟨(p.1,b2)::rs,⟨ZgU h.1,rfl,c⟩,.cons ⟨rfl,h.2⟩ q⟩
def Zoc (trs:List (TE×TE)):TE:=λσ H Q=>∀ p,H p=none->Zh4 trs σ (upd H p (.dK [])) λps H2=>H2 p=some (.dK [])/\∃ kvs:List (Key×V),ps=kvs.map (λkv=>(kV kv.1,kv.2))/\kvs.length<=15/\Q (.ref p) (upd H2 p (.dK (ZbH [] kvs)))
theorem Zh6 {X:Cx} {pos:Pos} {keys:List (Option Expr)} {values:List Expr} {trs:List (TE×TE)} (h:PPs X pos keys values trs) (hall:keys.all (·.isSome)=true) (hl:keys.length=values.length) (h0:keys≠[])
  (h15:keys.length<=15):PE X (.Dict keys values pos) (Zoc trs):=by
 intro pins s σ H Q I q
 have hn:=I.hok.fresh (Nat.le_refl s.heap.objs.size)
 have I1:=I.laid (a:=s.heap.objs.size) (o:=.dK []) (h':=s.heap.push { cls:=.type "dict", data:=.dict #[] }) (t':=s.toks) (λ_ _ q=>Heap.get?_push_of_some _ q) (Nat.le_refl _) (Zjj s.heap I.big)
 refine wpAny_Dict_walk (knd:=ZaQ X.prog X.w) hall hl h0 h15 (thn (h pins _ σ _ _ I1 (q _ hn)) λws s2 ⟨ps,H2,I2,rel,e,kvs,ep,lk,q2⟩=>?_)
 subst ep
 obtain ⟨rs,c,rk⟩:=ZdQ (P:=X.prog) (w:=X.w) rel
 obtain ⟨z,hd,vs0,r0,dd⟩:=Zk6 I2.hok e
 cases r0
 refine ⟨rs,c,dd,λh' dd' hs=>⟨.ref s.heap.objs.size,_,?_,rfl,q2⟩⟩
 have hz:(ZbH [] kvs).length<=sizeLine:=by
  have h1:=Zco kvs []
  rw [List.length_nil] at h1
  rw [sizeLine_eq];omega
 have he:∃ q,h'.get? s.heap.objs.size=some q:=let ⟨q,_,_,hq,_⟩:=dd';⟨q,hq⟩
 exact Zfz I2 (by rw [e];exact True.intro) hs he (Zki hz hd (rk.merge .nil) dd')
structure M1 (X:Cx) (o:Expr) (m:Str) (apos:Pos) (e:Expr) (cpos:Pos):Prop where
 base:attributeBase o m X.env (eval o X.env)=eval o X.env
 few:((backTo cpos (starEach [e] X.env)).all (λx=>!x.1) && (backToKw cpos (keywordEach [] X.env)).all (λx=>x.1.isSome)
  && decide (([e]:List Expr).length+([]:List Keyword).length+(if ([]:List Keyword).isEmpty then 0 else 1)<30))=true
 line:(apos.endLine == cpos.line)=true
 trees:backTo cpos (starEach [e] X.env)=[(false,eval e X.env)]
structure M2 (X:Cx) (o:Expr) (m:Str) (apos:Pos) (e f:Expr) (cpos:Pos):Prop where
 base:attributeBase o m X.env (eval o X.env)=eval o X.env
 few:((backTo cpos (starEach [e,f] X.env)).all (λx=>!x.1) && (backToKw cpos (keywordEach [] X.env)).all (λx=>x.1.isSome)
  && decide (([e,f]:List Expr).length+([]:List Keyword).length+(if ([]:List Keyword).isEmpty then 0 else 1)<30))=true
 line:(apos.endLine == cpos.line)=true
 trees:backTo cpos (starEach [e,f] X.env)=[(false,eval e X.env),(false,eval f X.env)]
def IsD (H:Hp) (a:Addr):Prop:=(∃ kvs,Rd H a (.dK kvs))\/∃ kvs,Rd H a (.dT kvs)
section
variable {X:Cx} {pins:List (Addr×Obj)} {σ:St} {H:Hp} {s:Shared} {a:Addr} {y d:V} {u r:Value} {o:Option V} {A:Around} {E:Value->Shared->Prop}
end
def ZoS (td ty:TE):TE:=λσ H Q=>td σ H λx H1=>∃ a,x=.ref a/\IsD H1 a/\ty σ H1 λy H2=>∃ o,DGet H2 a y o/\Q (o.getD .non) H2
def ZoT (td ty tx:TE):TE:=λσ H Q=>td σ H λx H1=>∃ a,x=.ref a/\IsD H1 a/\ty σ H1 λy H2=>tx σ H2 λz H3=>∃ o,DGet H3 a y o/\Q (o.getD z) H3
def ZoU (td ty:TE):TE:=λσ H Q=>td σ H λx H1=>∃ a,x=.ref a/\IsD H1 a/\ty σ H1 λy H2=>∃ kvs k v,H2 a=some (.dK kvs)/\y=kV k/\ZbT kvs k=some v/\Q v (upd H2 a (.dK (Zk5 kvs k)))
def ZoV (td ty tx:TE):TE:=λσ H Q=>td σ H λx H1=>∃ a,x=.ref a/\IsD H1 a/\ty σ H1 λy H2=>tx σ H2 λz H3=>∃ kvs k,H3 a=some (.dK kvs)/\y=kV k /\
 (∀ v,ZbT kvs k=some v->Q v (upd H3 a (.dK (Zk5 kvs k))))/\(ZbT kvs k=none->Q z H3)
section
variable {X:Cx} {o e f:Expr} {apos cpos:Pos} {td ty tx:TE}
end
section
variable {X:Cx} {pins:List (Addr×Obj)} {σ:St} {H:Hp} {s:Shared} {a:Addr} {kvs:List (Key×V)} {A:Around} {E:Value->Shared->Prop}
end
section
variable {X:Cx} {pins:List (Addr×Obj)} {σ:St} {H:Hp} {s:Shared} {a:Addr} {y:V} {u:Value} {A:Around} {E:Value->Shared->Prop}
end
end L2
namespace L2
open PySem PySem.Spec PyProof.Rows
section
variable {X:Cx}
def ZoW:V->List V->Hp->VK->Prop:=λx vs H Q=>∃ (l:Addr) (ns:List Int) (i:Int),x=.ref l/\vs=[.int i]/\H l=some (.lst (ns.map V.int))/\i∈ns/\Q (.int ((ns.idxOf i:Nat):Int)) H
end
end L2
namespace L2
open PySem PySem.Spec PyProof.Rows
structure Lane where
 it:Addr
 l:Addr
 xs:Array Value
def Lane.On (r:Lane) (k:Nat) (h:Heap):Prop:=h.IsListIter r.it r.l k/\h.IsList r.l r.xs
theorem Lane.On.keep {r:Lane} {k:Nat} {h h':Heap} (x:r.On k h) (e:∀ c,c=r.it\/c=r.l->∀ o,h.get? c=some o->h'.get? c=some o):r.On k h':=
 ⟨x.1.at (e _ (.inl rfl)),x.2.at (e _ (.inr rfl))⟩
structure ZmF (rs:List Lane):Prop where
 nd:(rs.map Lane.it).Nodup
 ls:∀ r∈rs,∀ q∈rs,q.l≠r.it
abbrev ZfB (h:Heap) (z TI TO:Addr) (f0:Value) (f1:Bool):Prop:=
 h.get? z=some { cls:=.type "zip", dict:=none,data:=.fields #[f0,.bool f1,.bool false,.ref TI,.ref TO],slots:=#[] }
section
variable {prog:Program} {w:World} {A:Around} {E:Value->Shared->Prop} {s:Shared}
theorem Zh7 {z TI TO T:Addr} {f1:Bool} {o:Obj} {Q:Bool->Shared->Prop} (hz:ZfB s.heap z TI TO (rawInt T) f1) (hT:s.heap.get? T=some o)
  (h:∀ h',ZfB h' z TI TO (rawInt T) true->Heap.SameBut z s.heap h'->Q false { s with heap:=h' }):wpAny (model prog w) A (Builtin.SmallTypes.ownedTupleIsFree (.ref z)) Q E s:=by
 wp_walk using wpAny_field hz rfl rfl
 refine PySem.W.kdx_alive (a:=T) hT ?_
 cases f1
 ·wp_walk using wpAny_field hz rfl rfl
  exact h _ (Heap.get?_update_self _ hz rfl) (Heap.SameBut.update ..)
 ·wp_walk using wpAny_field hz rfl rfl
  exact h s.heap hz ⟨rfl,λ_ _=>rfl⟩
theorem Zjm {z TI TO T:Addr} {f1:Bool} {o:Obj} {rs:List Lane} {k:Nat} {Q:Value->Shared->Prop} (hh:A.handled=none) (ap:ZmF rs) (hz:ZfB s.heap z TI TO (rawInt T) f1) (hT:s.heap.get? T=some o) (hr:∀ r∈rs,r.it≠z/\r.l≠z)
  (hTI:s.heap.get? TI=some { cls:=.type "tuple", data:=.seq (rs.map λr=>Value.ref r.it).toArray }) (h0:rs≠[]) (hl:rs.length<=64) (on:∀ r∈rs,r.On k s.heap)
  (hQ:∀ (vs:List Value) h',rs.map (λr=>r.xs[k]?)=vs.map some->ZfB h' z TI TO (rawInt T) true->(∀ r∈rs,r.On (k+1) h')->h'.get? s.heap.objs.size=some { cls:=.type "tuple", data:=.seq vs.toArray }->h'.objs.size=s.heap.objs.size+1 ->
   (∀ c o,c≠z->c ∉ rs.map Lane.it->s.heap.get? c=some o->h'.get? c=some o)->Q (.ref s.heap.objs.size) { s with heap:=h' })
  (hE:∀ h' e,(∃ r∈rs,r.xs[k]?=none)->(∀ c o,c≠z->c ∉ rs.map Lane.it->s.heap.get? c=some o->h'.get? c=some o)->(∃ o,h'.get? e=some o/\o.cls=.type "StopIteration")->E (.ref e) { s with heap:=h' }) :
  wpAny (model prog w) A (Builtin.«zip.__next__» ⟨[.ref z],[]⟩) (λfin s'=>∃ v,fin=.done (.ret v)/\Q v s') E s:=by
 have hne:(rs.map λr=>Value.ref r.it).toArray.isEmpty=false:=by cases rs with
  | nil=>exact absurd rfl h0
  | cons=>rfl
 wp_walk using wpAny_field hz rfl rfl,wpAny_seqItems hTI rfl,Zh7 hz hT
 intro h1 z1 s1
 wp_walk
 refine MeetsSeq2.wpAny_forIn_array _ (λrest b s'=>∃ dn rm h',rs=dn++rm/\rest=rm.map (λr=>Value.ref r.it)/\b.1=none/\dn.map (λr=>r.xs[k]?)=b.2.toList.map some/\s'={ s with heap:=h' }/\h'.objs.size=s.heap.objs.size /\
   (∀ r∈dn,r.On (k+1) h')/\(∀ r∈rm,r.On k h')/\∀ c o,c ∉ rs.map Lane.it->h1.get? c=some o->h'.get? c=some o) _ ?_ ?_ _ _ ?_
 ·rintro x rest ⟨b1,b2⟩ s' ⟨dn,rm,h',hd,hx,hb,hv,rfl,hsz,on1,on0,kp⟩
  cases rm with
  | nil=>cases hx
  | cons r rm=>
   obtain ⟨rfl,rfl⟩:x=Value.ref r.it/\rest=rm.map (λr=>Value.ref r.it):=by cases hx;exact ⟨rfl,rfl⟩
   have mr:r∈rs:=by rw [hd];simp
   have nd:=ap.nd
   rw [hd,List.map_append,List.map_cons,List.nodup_append] at nd
   obtain ⟨-,nd2,nd3⟩:=nd
   have nr:∀ q,q∈dn\/q∈rm->q.it≠r.it/\q.l≠r.it:=λq hq=>⟨hq.elim (λy=>nd3 _ (List.mem_map_of_mem y) _ List.mem_cons_self) (λy e=>(List.nodup_cons.1 nd2).1 (e▸List.mem_map_of_mem y)),ap.ls r mr q (by rw [hd];rcases hq with y | y <;> simp [y])⟩
   have o0:=on0 r List.mem_cons_self
   refine wpAny_bind (wpAny_holding (?_:wpAny _ _ (Builtin.SmallTypes.nextOf (.ref r.it) >>= λv=>pure (some v)) _ _ _))
   cases e:r.xs[k]? with
   | none=>
    refine wpAny_bind (wpAny_nextOf_list_end hh o0.1 o0.2 e λh2 e2 x2 c2=>?_)
    exact hE h2 e2 ⟨r,mr,e⟩ (λc o c1 c3 q=>x2 c o (λy=>c3 (y▸List.mem_map_of_mem mr)) (kp c o c3 (by rw [s1.2 c c1];exact q))) c2
   | some v=>
    refine wpAny_bind (wpAny_nextOf_list_item o0.1 o0.2 e λh2 on2 x2=>?_)
    wp_walk
    have ot:∀ q,q∈dn\/q∈rm->∀ c,c=q.it\/c=q.l->∀ o,h'.get? c=some o->h2.get? c=some o:=λq hq c hc o y=>by
     rw [x2.2 c (hc.elim (λy=>y▸(nr q hq).1) (λy=>y▸(nr q hq).2))];exact y
    refine ⟨dn++[r],rm,h2,by rw [hd];simp,rfl,rfl,?_,rfl,x2.1.trans hsz,λq hq=>?_,λq hq=>(on0 q (List.mem_cons_of_mem _ hq)).keep (ot q (.inr hq)),λc o c1 q=>?_⟩
    ·rw [List.map_append,hv];simp [e]
    ·rcases List.mem_append.1 hq with y | y
     ·exact (on1 q y).keep (ot q (.inl y))
     ·cases List.mem_singleton.1 y
      exact ⟨on2,o0.2.at λo y=>by rw [x2.2 _ (ap.ls r mr r mr)];exact y⟩
    ·rw [x2.2 c (λy=>c1 (y▸List.mem_map_of_mem mr))];exact kp c o c1 q
 ·rintro ⟨b1,b2⟩ s' ⟨dn,rm,h',hd,hx,hb,hv,rfl,hsz,on1,on0,kp⟩
  cases rm with
  | cons=>cases hx
  | nil=>
   cases hb
   rw [List.append_nil] at hd
   subst hd
   have hlv:b2.toList.length<=sizeLine:=by
    have:=congrArg List.length hv
    rw [List.length_map,List.length_map] at this
    rw [<-this,sizeLine_eq];omega
   wp_walk using wpAny_newTuple (hsz:=hlv)
   have pu:∀ c o,h'.get? c=some o->(h'.push { cls:=.type "tuple", data:=.seq b2.toList.toArray }).get? c=some o:=λc o=>Heap.get?_push_of_some _
   refine ⟨_,rfl,?_⟩
   rw [hsz]
   refine hQ b2.toList _ hv (pu _ _ (kp _ _ (λy=>?_) z1)) (λr y=>(on1 r y).keep λc _=>pu c) ?_ (by rw [Heap.size_push,hsz]) λc o c1 c2 q=>pu _ _ (kp _ _ c2 (by rw [s1.2 c c1];exact q))
   ·obtain ⟨r,y,e⟩:=List.mem_map.1 y
    exact (hr r y).1 e
   ·rw [<-hsz];exact Heap.get?_push_size _ rfl
 ·exact ⟨[],rs,h1,rfl,rfl,rfl,rfl,rfl,s1.1,λ_ y=>absurd y (List.not_mem_nil),λr y=>(on r y).keep λc hc o q=>by rw [s1.2 c (hc.elim (λe=>e▸(hr r y).1) (λe=>e▸(hr r y).2))];exact q,λ_ _ _ q=>q⟩
theorem Zjn {z TI TO T:Addr} {f1:Bool} {o:Obj} {rs:List Lane} {k:Nat} {Q:Option Value->Shared->Prop} (hh:A.in1.handled=none) (ap:ZmF rs) (hz:ZfB s.heap z TI TO (rawInt T) f1) (hT:s.heap.get? T=some o) (hr:∀ r∈rs,r.it≠z/\r.l≠z)
  (hTI:s.heap.get? TI=some { cls:=.type "tuple", data:=.seq (rs.map λr=>Value.ref r.it).toArray }) (h0:rs≠[]) (hl:rs.length<=64) (on:∀ r∈rs,r.On k s.heap)
  (hQ:∀ (vs:List Value) h',rs.map (λr=>r.xs[k]?)=vs.map some->ZfB h' z TI TO (rawInt T) true->(∀ r∈rs,r.On (k+1) h')->h'.get? s.heap.objs.size=some { cls:=.type "tuple", data:=.seq vs.toArray }->h'.objs.size=s.heap.objs.size+1 ->
   (∀ c o,c≠z->c ∉ rs.map Lane.it->s.heap.get? c=some o->h'.get? c=some o)->Q (some (.ref s.heap.objs.size)) { s with heap:=h' })
  (hN:∀ h',(∃ r∈rs,r.xs[k]?=none)->(∀ c o,c≠z->c ∉ rs.map Lane.it->s.heap.get? c=some o->h'.get? c=some o)->Q none { s with heap:=h' }):wpAny (model prog w) A (pyNext (.ref z)) Q E s:=by
 have ty:s.TypeIs (.ref z) "zip" := ⟨_,hz,rfl⟩
 refine wpAny_bind (wpAny_attempt (wpAny_callSpecial?_slot ty F.slot_zip_next (wpAny_call_entry F.slot_zip_next ty F.entry_zip_next (Zjm hh ap hz hT hr hTI h0 hl on ?_ ?_) (F.args_zip_next_1 _))))
 ·intro vs h' a1 a2 a3 a4 a5 a6
  wp_walk
  exact hQ vs h' a1 a2 a3 a4 a5 a6
 ·rintro h' e a1 a2 ⟨o',e1,e2⟩
  exact wpAny_bind (wpAny_isInstance ⟨o',e1,e2⟩ isSubtype_stop (wpAny_pure (hN h' a1 a2)))
def ZipSt (S z TI TO:Addr) (a b:Lane) (i:Nat) (h:Heap):Prop:=
 ((IsZip h z TI TO .none/\∃ x y,IsPair h TO x y)\/∃ (T:Addr) (f1:Bool) (o:Obj),ZfB h z TI TO (rawInt T) f1/\h.get? T=some o/\T≠z/\T≠a.it/\T≠b.it/\T≠S)/\IsPair h TI (.ref a.it) (.ref b.it)/\a.On i h/\b.On i h/\S<h.objs.size
abbrev Zap (z TI TO:Addr) (a b:Lane):Prop:=ZipApart z TI TO a.it b.it a.l b.l
theorem ZipSt.next {S z TI TO:Addr} {a b:Lane} {i:Nat} {Q:Option Value->Shared->Prop} (hh:A.in1.handled=none) (D:Zap z TI TO a b) (st:ZipSt S z TI TO a b i s.heap)
  (hQ:∀ x y h',a.xs[i]?=some x->b.xs[i]?=some y->ZipSt S z TI TO a b (i+1) h'->IsPair h' s.heap.objs.size x y->h'.objs.size=s.heap.objs.size+1->(∀ c o,c ∉ [z,TO,a.it,b.it]->s.heap.get? c=some o->h'.get? c=some o)->Q (some (.ref s.heap.objs.size)) { s with heap:=h' })
  (hN:∀ h',a.xs[i]?=none\/b.xs[i]?=none->(∀ c o,c ∉ [z,TO,a.it,b.it]->s.heap.get? c=some o->h'.get? c=some o)->Q none { s with heap:=h' }) :
  wpAny (model prog w) A (pyNext (.ref z)) Q E s:=by
 obtain ⟨st,hTI,oa,ob,lS⟩:=st
 have new:∀ c,(∃ o,s.heap.get? c=some o)->s.heap.objs.size≠c:=λc ⟨o,y⟩ e=>Nat.lt_irrefl _ (e▸Heap.lt_size y)
 have na:=new a.it ⟨_,oa.1.choose_spec.1⟩
 have nb:=new b.it ⟨_,ob.1.choose_spec.1⟩
 have four:∀ {c},c≠z->c≠TO->c≠a.it->c≠b.it->c ∉ [z,TO,a.it,b.it]:=λh1 h2 h3 h4 h=>by simp [h1,h2,h3,h4] at h
 have not4:∀ {c},c ∉ [z,TO,a.it,b.it]->c≠z/\c≠TO/\c≠a.it/\c≠b.it:=λh=>by simpa using h
 rcases st with ⟨hz,p,q,hTO⟩ | ⟨T,f1,o,hz,hT,t1,t2,t3,t4⟩
 ·have nz:=new z ⟨_,hz⟩
  cases ea:a.xs[i]? with
  | none=>exact wpAny_pyNext_zip_end hh D hz hTI hTO oa.1 ob.1 oa.2 ob.2 (.inl ea) λh' k1=>hN h' (.inl ea) λc o y=>k1 c o (not4 y).1 (not4 y).2.1 (not4 y).2.2.1 (not4 y).2.2.2
  | some x=>
   cases eb:b.xs[i]? with
   | none=>exact wpAny_pyNext_zip_end hh D hz hTI hTO oa.1 ob.1 oa.2 ob.2 (.inr eb) λh' k1=>hN h' (.inr eb) λc o y=>k1 c o (not4 y).1 (not4 y).2.1 (not4 y).2.2.1 (not4 y).2.2.2
   | some y=>
    refine wpAny_pyNext_zip_item D hz hTI hTO oa.1 ob.1 oa.2 ob.2 ea eb λh' b1 b2 b3 b4 b5 b6 k1=>hQ x y h' ea eb ⟨.inr ⟨_,_,_,b1,b5,nz,na,nb,Nat.ne_of_gt lS⟩,?_,⟨b3,oa.2.at λo=>?_⟩,⟨b4,ob.2.at λo=>?_⟩,by rw [b6];exact Nat.lt_succ_of_lt lS⟩ b5 b6 λc o y=>k1 c o (not4 y).1 (not4 y).2.1 (not4 y).2.2.1 (not4 y).2.2.2
    ·exact k1 _ _ D.TIz D.TITO D.TIi1 D.TIi2 hTI
    ·exact k1 _ o D.l1z D.l1TO D.l1i1 D.l1i2
    ·exact k1 _ o D.l2z D.l2TO D.l2i1 D.l2i2
 ·refine Zjn (rs:=[a,b]) hh ⟨?_,?_⟩ hz hT ?_ hTI (by simp) (by simp) (k:=i) (λr hr=>?_) ?_ ?_
  ·simpa using D.i12
  ·simpa using ⟨⟨D.l1i1,D.l2i1⟩,D.l1i2,D.l2i2⟩
  ·simpa using ⟨⟨D.i1z,D.l1z⟩,D.i2z,D.l2z⟩
  ·simp only [List.mem_cons,List.not_mem_nil,or_false] at hr
   rcases hr with rfl | rfl
   ·exact oa
   ·exact ob
  ·intro vs h' e b1 on b5 b6 k1
   match vs,e with
   | [x,y],e=>
    simp only [List.map_cons,List.map_nil,List.cons.injEq,and_true] at e
    refine hQ x y h' e.1 e.2 ⟨.inr ⟨T,true,o,b1,k1 _ _ t1 (by simp [t2,t3]) hT,t1,t2,t3,t4⟩,k1 _ _ D.TIz (by simp [D.TIi1,D.TIi2]) hTI,on a (by simp),on b (by simp),by rw [b6];exact Nat.lt_succ_of_lt lS⟩ b5 b6 λc o y=>k1 c o (not4 y).1 (by simp [(not4 y).2.2.1,(not4 y).2.2.2])
   | [],e=>simp at e
   | [_],e=>simp at e
   | _::_::_::_,e=>simp at e
  ·intro h' e k1
   refine hN h' (by simpa using e) λc o y=>k1 c o (not4 y).1 (by simp [(not4 y).2.2.1,(not4 y).2.2.2])
theorem ZipSt.aside {S z TI TO:Addr} {a b:Lane} {i:Nat} {h:Heap} (f:Obj->Obj) (hS:S ∉ [z,TI,TO,a.it,b.it,a.l,b.l]) (st:ZipSt S z TI TO a b i h):ZipSt S z TI TO a b i (h.update S f):=by
 obtain ⟨st,hTI,oa,ob,lS⟩:=st
 have kp:∀ c o,c≠S->h.get? c=some o->(h.update S f).get? c=some o:=λc o hc y=>(Heap.get?_update_other _ _ (Ne.symm hc)).trans y
 have k1:∀ c,c∈[z,TI,TO,a.it,b.it,a.l,b.l]->∀ o,h.get? c=some o->(h.update S f).get? c=some o:=λc hc o=>kp c o λe=>hS (e▸hc)
 refine ⟨st.imp (λ⟨hz,x,y,p⟩=>⟨k1 z (by simp) _ hz,x,y,k1 TO (by simp) _ p⟩) λ⟨T,f1,o,hz,hT,t1,t2,t3,t4⟩=>⟨T,f1,o,k1 z (by simp) _ hz,kp T o t4 hT,t1,t2,t3,t4⟩,k1 TI (by simp) _ hTI,oa.keep λc hc=>k1 c (by rcases hc with rfl | rfl <;> simp),
  ob.keep λc hc=>k1 c (by rcases hc with rfl | rfl <;> simp),by rw [Heap.size_update];exact lS⟩
end
end L2
namespace L2
open PySem PySem.Spec PyProof.Rows
theorem HOk.stayOn {P:Program} {w:World} {H:Hp} {h h':Heap} (x:HOk P w H h) (k:∀ b u o,H b=some u->h.get? b=some o->h'.get? b=some o):HOk P w H h':=λa o e=>
 (x a o e).stay (λb u hb q=>hb.elim (λz=>k b o u (by rw [z];exact e) q) (λz=>k b _ u z q)) (λ_ q=>q) λ_ _ q=>q
def ZL (P:Program) (w:World) (H0:Hp) (h0:Heap) (z TO i1 i2 S:Addr) (ns ms:List Int) (i:Nat) (h:Heap) (acc:Array Value):Prop:=
 ∃ (Hj:Hp) (vs:List V),Same H0 Hj/\(∀ b o,Hj b=some o->H0 b=none->h0.objs.size<=b)/\(Hj z=none/\Hj TO=none/\Hj i1=none/\Hj i2=none/\Hj S=none)/\HOk P w Hj h/\Vals vs acc.toList/\Prs Hj vs ((ns.zip ms).take i) /\
  (∀ b o,h0.get? b=some o->h.get? b=some o)/\h0.objs.size<=h.objs.size
section
variable {P:Program} {w:World} {H0:Hp} {h0:Heap} {z TO i1 i2 S:Addr} {ns ms:List Int} {i:Nat} {h h':Heap} {acc:Array Value}
theorem ZL.put (L:ZL P w H0 h0 z TO i1 i2 S ns ms i h acc) (hS:h0.objs.size<=S) (hk:∀ b o,b≠S->h.get? b=some o->h'.get? b=some o) (hsz:h.objs.size<=h'.objs.size):ZL P w H0 h0 z TO i1 i2 S ns ms i h' acc:=by
 obtain ⟨Hj,vs,a1,a2,a3,a4,a5,a6,a7,a8⟩:=L
 refine ⟨Hj,vs,a1,a2,a3,a4.stayOn λb u o e q=>hk b o (λy=>?_) q,a5,a6,λb o e=>hk b o (Nat.ne_of_lt (Nat.lt_of_lt_of_le (Heap.lt_size e) hS)) (a7 b o e),Nat.le_trans a8 hsz⟩
 rw [y,a3.2.2.2.2] at e
 cases e
theorem ZL.next {a b:Int} {x y:Value} (L:ZL P w H0 h0 z TO i1 i2 S ns ms i h acc) (hlt:z<h.objs.size/\TO<h.objs.size/\i1<h.objs.size/\i2<h.objs.size/\S<h.objs.size) (hge:h0.objs.size<=z/\h0.objs.size<=TO/\h0.objs.size<=i1/\h0.objs.size<=i2)
  (ha:ns[i]?=some a) (hb:ms[i]?=some b) (rx:RelV (.int a) x) (ry:RelV (.int b) y) (hT:IsPair h' h.objs.size x y) (hsz:h'.objs.size=h.objs.size+1)
  (hk:∀ c o,c≠z->c≠TO->c≠i1->c≠i2->h.get? c=some o->h'.get? c=some o):ZL P w H0 h0 z TO i1 i2 S ns ms (i+1) h' (acc.push (.ref h.objs.size)):=by
 obtain ⟨Hj,vs,a1,a2,⟨f1,f2,f3,f4,f5⟩,a4,a5,a6,a7,a8⟩:=L
 obtain ⟨l1,l2,l3,l4,l5⟩:=hlt
 obtain ⟨g1,g2,g3,g4⟩:=hge
 have hn:Hj h.objs.size=none:=a4.fresh (Nat.le_refl _)
 have nn:∀ c o,Hj c=some o->c≠z/\c≠TO/\c≠i1/\c≠i2:=λc o e=>⟨λq=>(by rw [q,f1] at e;cases e),λq=>(by rw [q,f2] at e;cases e),λq=>(by rw [q,f3] at e;cases e),λq=>(by rw [q,f4] at e;cases e)⟩
 have b1:HOk P w Hj h':=a4.stayOn λc u o e q=>hk c o (nn c u e).1 (nn c u e).2.1 (nn c u e).2.2.1 (nn c u e).2.2.2 q
 have sm:Same Hj (upd Hj h.objs.size (.tup [.int a,.int b])):=Same.new hn
 refine ⟨upd Hj h.objs.size (.tup [.int a,.int b]),vs++[.ref h.objs.size],a1.trans sm,λc o e n=>?_,⟨?_,?_,?_,?_,?_⟩,λc o e=>?_,?_,?_,λc o e=>?_,by omega⟩
 ·by_cases hc:c=h.objs.size
  ·rw [hc];exact a8
  ·rw [Zam hc] at e;exact a2 c o e n
 ·rw [Zam (Nat.ne_of_lt l1)];exact f1
 ·rw [Zam (Nat.ne_of_lt l2)];exact f2
 ·rw [Zam (Nat.ne_of_lt l3)];exact f3
 ·rw [Zam (Nat.ne_of_lt l4)];exact f4
 ·rw [Zam (Nat.ne_of_lt l5)];exact f5
 ·by_cases hc:c=h.objs.size
  ·subst hc
   rw [Zab] at e;cases e
   exact ⟨by show 2<=sizeLine;decide,[x,y],.cons rx (.cons ry .nil),⟨_,hT,rfl,_,rfl⟩⟩
  ·rw [Zam hc] at e
   exact (b1 c o e).stay (λ_ _ _ q=>q) (λd q=>sm _ _ q) λd xs q=>sm _ _ q
 ·rw [Array.toList_push]
  exact a5.append (.cons rfl .nil)
 ·have e:(ns.zip ms)[i]?=some (a,b):=by
   rw [List.getElem?_zip_eq_some]
   exact ⟨ha,hb⟩
  rw [List.take_add_one,e]
  exact (a6.same sm).snoc Zab
 ·have hc:=Heap.lt_size e
  exact hk c o (Nat.ne_of_lt (Nat.lt_of_lt_of_le hc g1)) (Nat.ne_of_lt (Nat.lt_of_lt_of_le hc g2)) (Nat.ne_of_lt (Nat.lt_of_lt_of_le hc g3)) (Nat.ne_of_lt (Nat.lt_of_lt_of_le hc g4)) (a7 c o e)
end
abbrev Zjo (h:Heap) (S:Addr) (acc:Array Value) (c:Nat):Prop:=h.get? S=some { cls:=.type "list", dict:=none,data:=.seq acc c,slots:=#[] }
structure Fed (prog:Program) (w:World) (A:Around) (I S:Addr) (n:Nat) (St:Nat->Heap->Array Value->Prop) (Fi:Heap->Array Value->Prop):Prop where
 give:∀ i (s:Shared) acc (Q:Option Value->Shared->Prop) E,i<n->St i s.heap acc ->
  (∀ v h',(∀ o,s.heap.get? S=some o->h'.get? S=some o)->St (i+1) h' (acc.push v)->Q (some v) { s with heap:=h' })->wpAny (model prog w) A (pyNext (.ref I)) Q E s
 stop:∀ (s:Shared) acc (o:Obj) (Q:Option Value->Shared->Prop) E,s.heap.get? S=some o->St n s.heap acc->(∀ h',(∀ o,s.heap.get? S=some o->h'.get? S=some o)->Fi h' acc->Q none { s with heap:=h' })->wpAny (model prog w) A (pyNext (.ref I)) Q E s
 aside:∀ i h f acc,St i h acc->St i (h.update S f) acc
section
variable {prog:Program} {w:World} {A:Around} {I S:Addr} {n:Nat} {St:Nat->Heap->Array Value->Prop} {Fi:Heap->Array Value->Prop}
theorem Fed.loop (W:Fed prog w A.in1 I S n St Fi) (hn:n<=1000) (res:Value) {R:Result->Shared->Prop}:∀ (k:Nat) (s:Shared) (acc:Array Value) (c:Nat),acc.size+k=n->St acc.size s.heap acc->Zjo s.heap S acc c ->
  (∀ h' acc' c',acc'.size=n->Fi h' acc'->Zjo h' S acc' c'->R (.ok (.ret res)) { s with heap:=h' })->codeAny (model prog w) A (.builtin "list.extend.loop" ⟨[.ref S,.ref I,res],[]⟩) R s
 | 0,s,acc,c,e,st,hS,hR=>codeAny_builtin F.entry_extend_loop <| (Around.under_plainId F.plain_extend_loop _)▸wpAny_bind (W.stop s acc _ _ _ hS (by rw [Nat.add_zero] at e;exact e▸st) λh' k1 f=>wpAny_pure (hR h' acc c e f (k1 _ hS)))
 | k+1,s,acc,c,e,st,hS,hR=>codeAny_builtin F.entry_extend_loop <| (Around.under_plainId F.plain_extend_loop _)▸wpAny_bind (W.give _ s acc _ _ (by omega) st λv h' k1 st1=>by
   have h16:=sizeLine_eq
   have hS1:=k1 _ hS
   refine wpAny_bind (wpAny_updateSeq (s:={ s with heap:=h' }) (f:=(·.push v)) hS1 rfl (wpAny_pure ⟨plainId_quiet F.plain_extend_loop _,?_⟩) (by omega) (by rw [Array.size_push];omega))
   have es:acc.size+1=(acc.push v).size:=(Array.size_push ..).symm
   exact W.loop hn res k _ (acc.push v) _ (by omega) (W.aside _ _ _ _ (es▸st1)) (Heap.get?_update_self _ hS1 rfl) hR)
end
section
variable {prog:Program} {w:World} {A:Around} {E:Value->Shared->Prop} {s:Shared}
namespace ZF
theorem no_len:typeLookup (.type "zip") "__len__" = pure none:=by rw [typeLookup_type,builtinLookup_eq_fast];kernel_rfl
theorem no_hint:typeLookup (.type "zip") "__length_hint__" = pure none:=by rw [typeLookup_type,builtinLookup_eq_fast];kernel_rfl
end ZF
theorem Zjp {z TI TO:Addr} {f0:Value} {n:Nat} {St:Nat->Heap->Array Value->Prop} {Fi:Heap->Array Value->Prop} {Q:Value->Shared->Prop} (hz:IsZip s.heap z TI TO f0) (W:Fed prog w A.in1.in1 z s.heap.objs.size n St Fi) (hn:n<=1000)
  (st:St 0 (s.heap.push { cls:=.type "list", data:=.seq #[] }) #[])
  (hQ:∀ h' acc c,acc.size=n->Fi h' acc->Zjo h' s.heap.objs.size acc c->Q (.ref s.heap.objs.size) { s with heap:=h' }):wpAny (model prog w) A (call (.type "list") [.ref z]) Q E s:=by
 have hS:Zjo (s.heap.push { cls:=.type "list", data:=.seq #[] }) s.heap.objs.size #[] 0:=Heap.get?_push_size _ rfl
 have hz1:IsZip (s.heap.push { cls:=.type "list", data:=.seq #[] }) z TI TO f0:=Heap.get?_push_of_some _ hz
 have nz:s.heap.objs.size≠z:=λe=>Nat.lt_irrefl _ (e▸Heap.lt_size hz)
 refine callType_codes F.called_list (F.typeCall_list_1 _) F.entry_list_init (code_list_new (.ref z) (Q₁:=λv t=>v=.ref s.heap.objs.size/\t.heap=s.heap.push { cls:=.type "list", data:=.seq #[] }/\t={ s with heap:=t.heap }) ⟨rfl,rfl,rfl⟩) ?_
 rintro _ t ⟨rfl,ht,he⟩
 rw [he,ht]
 clear he ht t
 refine ⟨⟨_,hS,rfl⟩,F.args_list_init_2 _ _,?_⟩
 generalize s.heap.push { cls:=.type "list", data:=.seq #[] }=h1 at *
 generalize s.heap.objs.size=S at *
 wp_walk
 rw [if_neg (by simp [Builtin.List.listSameRef,nz])]
 have hz2:IsZip (h1.update S (Obj.mapSeq λ_=>#[])) z TI TO f0:=(Heap.get?_update_other _ _ nz).trans hz1
 have hS2:=Heap.get?_update_self (Obj.mapSeq λ_=>(#[]:Array Value)) hS rfl
 have st2:=W.aside 0 h1 (Obj.mapSeq λ_=>#[]) _ st
 generalize h1.update S (Obj.mapSeq λ_=>#[])=h2 at *
 refine wpAny_bind (wpAny_pyIter_zip hz2 ?_)
 have nl:=ZF.no_len
 have nh:=ZF.no_hint
 have ty:Shared.TypeIs { s with heap:=h2 } (.ref z) "zip" := ⟨_,hz2,rfl⟩
 wp_walk
 exact ⟨plainId_quiet F.plain_extend_loop _,W.loop hn .none n _ #[] _ (by simp) (W.aside _ _ _ _ (W.aside _ _ _ _ st2)) (Heap.get?_update_self _ (Heap.get?_update_self _ hS2 rfl) rfl) λh' acc c e f l=>⟨rfl,hQ h' acc c e f l⟩⟩
theorem Zlb {P:Program} {H0:Hp} {h0:Heap} {z TI TO S:Addr} {a b:Lane} {ns ms:List Int} (hh:A.in1.handled=none) (D:Zap z TI TO a b) (hS:S ∉ [z,TI,TO,a.it,b.it,a.l,b.l]) (hlt:z<S/\TO<S/\a.it<S/\b.it<S)
  (hge:h0.objs.size<=z/\h0.objs.size<=TO/\h0.objs.size<=a.it/\h0.objs.size<=b.it) (hgS:h0.objs.size<=S) (vx:Vals (ns.map V.int) a.xs.toList) (vy:Vals (ms.map V.int) b.xs.toList) :
  Fed prog w A z S (min ns.length ms.length) (λi h acc=>ZipSt S z TI TO a b i h/\ZL P w H0 h0 z TO a.it b.it S ns ms i h acc) (ZL P w H0 h0 z TO a.it b.it S ns ms (min ns.length ms.length)):=by
 have S4:S ∉ [z,TO,a.it,b.it]:=λh=>hS (by simp only [List.mem_cons,List.not_mem_nil,or_false] at h ⊢;rcases h with h | h | h | h <;> simp [h])
 have item:∀ {ls:List Int} {r:Lane} {i:Nat},Vals (ls.map V.int) r.xs.toList->(hi:i<ls.length)->∃ u,r.xs[i]?=some u/\RelV (.int ls[i]) u:=λ{ls r i} v hi=>by
  obtain ⟨u,g,x⟩:=v.get (show (ls.map V.int)[i]?=some (.int ls[i]) by rw [List.getElem?_map,List.getElem?_eq_getElem hi];rfl)
  exact ⟨u,by simpa using g,x⟩
 have last:∀ {ls:List Int} {r:Lane} {i:Nat} {u:Value},Vals (ls.map V.int) r.xs.toList->r.xs[i]?=some u->i<ls.length:=λ{ls r i u} v e=>by
  have l:=v.length
  rw [List.length_map] at l
  rw [l,Array.length_toList]
  exact (Array.getElem?_eq_some_iff.1 e).1
 have out:∀ {c},c≠z->c≠TO->c≠a.it->c≠b.it->c ∉ [z,TO,a.it,b.it]:=λh1 h2 h3 h4 h=>by simp [h1,h2,h3,h4] at h
 refine ⟨λi s acc Q E hi ⟨st,L⟩ hQ=>?_,λs acc oS Q E eS ⟨st,L⟩ hQ=>?_,λi h f acc ⟨st,L⟩=>⟨st.aside f hS,L.put hgS (λc o hc y=>(Heap.get?_update_other _ _ (Ne.symm hc)).trans y) (Nat.le_of_eq (Heap.size_update ..).symm)⟩⟩
 ·obtain ⟨x,ex,rx⟩:=item (i:=i) vx (by omega)
  obtain ⟨y,ey,ry⟩:=item (i:=i) vy (by omega)
  have lS:=st.2.2.2.2
  refine st.next hh D (λx' y' h' fx fy st' p sz k1=>?_) λh' e=>?_
  ·rw [ex] at fx;rw [ey] at fy
   cases fx;cases fy
   exact hQ _ h' (λo=>k1 S o S4) ⟨st',L.next ⟨Nat.lt_trans hlt.1 lS,Nat.lt_trans hlt.2.1 lS,Nat.lt_trans hlt.2.2.1 lS,Nat.lt_trans hlt.2.2.2 lS,lS⟩ hge (List.getElem?_eq_getElem (by omega)) (List.getElem?_eq_getElem (by omega)) rx ry p sz λc o h1 h2 h3 h4=>k1 c o (out h1 h2 h3 h4)⟩
  ·rw [ex,ey] at e;simp at e
 ·refine st.next hh D (λx' y' h' fx fy=>?_) λh' e k1=>hQ h' (λo=>k1 S o S4) ?_
  ·have:=last vx fx;have:=last vy fy;omega
  ·obtain ⟨Hj,vs,a1,a2,a3,a4,a5,a6,a7,a8⟩:=L
   have old:∀ c,h0.objs.size > c->c ∉ [z,TO,a.it,b.it]:=λc hc=>out (Nat.ne_of_lt (Nat.lt_of_lt_of_le hc hge.1)) (Nat.ne_of_lt (Nat.lt_of_lt_of_le hc hge.2.1)) (Nat.ne_of_lt (Nat.lt_of_lt_of_le hc hge.2.2.1)) (Nat.ne_of_lt (Nat.lt_of_lt_of_le hc hge.2.2.2))
   have ours:∀ c o,Hj c=some o->c ∉ [z,TO,a.it,b.it]:=λc o y h=>by
    simp only [List.mem_cons,List.not_mem_nil,or_false] at h
    rcases h with rfl | rfl | rfl | rfl <;> simp [a3] at y
   exact ⟨Hj,vs,a1,a2,a3,a4.stayOn λc u o e y=>k1 c o (ours c u e) y,a5,a6,λc o y=>k1 c o (old c (Heap.lt_size y)) (a7 c o y),Nat.le_of_lt (Nat.lt_of_le_of_lt hgS (Heap.lt_size (k1 S oS S4 eS)))⟩
end
section
variable {X:Cx}
theorem Zh8:bootBuiltins "zip" = some (.type "zip"):=by first | rfl | decide +kernel
def Zjq (K:PySem.W.Frag) (ta:TA):TE:=λσ H Q=>ta σ H λvs H1=>∃ (l1 l2:Addr) (ns ms:List Int),vs=[.ref l1,.ref l2]/\SqL K H1 l1 (ns.map V.int)/\SqL K H1 l2 (ms.map V.int)/\ns.length<=1000 /\
 ∀ (S:Addr) (ws:List V) (H':Hp),Same H1 H'->H1 S=none->H' S=some (.lst ws)->Prs H' ws (ns.zip ms)->Q (.ref S) H'
theorem ZgV {a b:Expr} {ta:TA} {p p2 pos pos2:Pos} (K:PySem.W.Frag) (hc:X.calm=true) (hg:Gl X "list") (hm:X.mg "list" = none) (hg2:Gl X "zip") (hm2:X.mg "zip" = none) (ha:PA X [a,b] ta) (hK:X.K=K:=by rfl)
  (hs:starEach [Expr.Call (.Name "zip" p2) [a,b] [] pos2] X.env=[(false,eval (.Call (.Name "zip" p2) [a,b] [] pos2) X.env)]:=by rfl)
  (hs2:starEach [a,b] X.env=(false,eval a X.env)::starEach [b] X.env:=by rfl) (hp2:(backTo pos2 (starEach [b] X.env)).any (·.1)=false:=by rfl) :
  PE X (.Call (.Name "list" p) [.Call (.Name "zip" p2) [a,b] [] pos2] [] pos) (Zjq K ta):=by
 subst hK
 intro pins s σ H Q I h
 refine wpAny_Call_Name_kw (Zdf I hg hm Zbu (PyProof.Rows.callWith_type1 ?_ hs rfl) (by decide) (by decide))
 rw [hs]
 refine Calls.spliced_cons ?_
 refine wpAny_Call_Name_kw (Zdf I hg2 hm2 Zh8 (PyProof.Rows.callWith_type1 (thn (ha pos2 pins s σ H _ I h) λus s1 ⟨vs,H1,I1,r1,q1⟩=>?_) hs2 hp2) (by decide) (by decide))
 obtain ⟨l1,l2,ns,ms,rfl,hq1,hq2,hn,q⟩:=q1
 obtain ⟨u1,u2,rfl,ru1,ru2⟩:=r1.two
 cases ru1
 cases ru2
 obtain ⟨xs,v1,p1,hz1⟩:=I1.list hq1
 obtain ⟨ys,v2,p2',hz2⟩:=I1.list hq2
 refine call_zip_2 p1.isList p2'.isList λh' hz hTI hTO hi1 hi2 hsz hk=>?_
 refine Calls.spliced_nil ?_
 have lt1:l1<s1.heap.objs.size:=by obtain ⟨_,e,_⟩:=p1.isList;exact Heap.lt_size e
 have lt2:l2<s1.heap.objs.size:=by obtain ⟨_,e,_⟩:=p2'.isList;exact Heap.lt_size e
 have D:ZipApart (s1.heap.objs.size+4) (s1.heap.objs.size+2) (s1.heap.objs.size+3) s1.heap.objs.size (s1.heap.objs.size+1) l1 l2:=by
  constructor <;> (first | exact Nat.ne_of_lt (by omega) | exact Nat.ne_of_gt (by omega) | (apply Nat.ne_of_lt;exact Nat.lt_of_lt_of_le (by assumption) (by omega)))
 have l1x:=v1.length
 rw [List.length_map] at l1x
 have fr:∀ b,s1.heap.objs.size<=b->H1 b=none:=λb hb=>I1.hok.fresh hb
 have hS:h'.objs.size ∉ [s1.heap.objs.size+4,s1.heap.objs.size+2,s1.heap.objs.size+3,s1.heap.objs.size,s1.heap.objs.size+1,l1,l2]:=by
  simp only [List.mem_cons,List.not_mem_nil,or_false]
  have g1:l1<h'.objs.size:=by rw [hsz];exact Nat.lt_of_lt_of_le lt1 (by omega)
  have g2:l2<h'.objs.size:=by rw [hsz];exact Nat.lt_of_lt_of_le lt2 (by omega)
  rintro (e | e | e | e | e | e | e) <;> first | omega | exact Nat.ne_of_gt g1 e | exact Nat.ne_of_gt g2 e
 have up:∀ b o,s1.heap.get? b=some o->(h'.push { cls:=.type "list", data:=.seq #[] }).get? b=some o:=λb o e=>Heap.get?_push_of_some _ (hk b o e)
 have pu:∀ b o,h'.get? b=some o->(h'.push { cls:=.type "list", data:=.seq #[] }).get? b=some o:=λb o e=>Heap.get?_push_of_some _ e
 have l2x:=v2.length
 rw [List.length_map] at l2x
 refine Zjp hz (Zlb (P:=X.prog) (H0:=H1) (h0:=s1.heap) (a:=⟨s1.heap.objs.size,l1,xs.toArray⟩) (b:=⟨s1.heap.objs.size+1,l2,ys.toArray⟩) (I1.ok.hd hc) D hS ⟨by show _<h'.objs.size;omega,by show _<h'.objs.size;omega,by show s1.heap.objs.size<h'.objs.size;omega,by show s1.heap.objs.size+1<h'.objs.size;omega⟩
  ⟨by omega,by omega,Nat.le_refl _,by show _<=s1.heap.objs.size+1;omega⟩ (by show _<=h'.objs.size;omega) v1 v2) (by omega)
  ⟨⟨.inl ⟨pu _ _ hz,_,_,pu _ _ hTO⟩,pu _ _ hTI,⟨hi1.at λo=>pu _ o,p1.isList.at λo=>up _ o⟩,⟨hi2.at λo=>pu _ o,p2'.isList.at λo=>up _ o⟩,by rw [Heap.size_push];exact Nat.lt_succ_self _⟩,
   H1,[],Same.refl _,λb o e n=>(by rw [n] at e;cases e),⟨fr _ (by omega),fr _ (by omega),fr _ (Nat.le_refl _),fr _ (by show _<=s1.heap.objs.size+1;omega),fr _ (by show _<=h'.objs.size;omega)⟩,I1.hok.kept λb u e=>up b u e,.nil,.nil,up,by rw [Heap.size_push];show _<=h'.objs.size+1;omega⟩ ?_
 ·intro h2 acc c z2 L e2
  obtain ⟨Hj,ws,a1,a2,⟨f1,f2,f3,f4,f5⟩,a4,a5,a6,a7,a8⟩:=L
  have h16:(16777216:Nat)=sizeLine:=sizeLine_eq.symm
  have hzl:(ns.zip ms).take (min ns.length ms.length)=ns.zip ms:=List.take_of_length_le (by rw [List.length_zip];omega)
  rw [hzl] at a6
  have hwl:ws.length<=sizeLine:=by rw [a5.length,Array.length_toList,z2];omega
  have sm:Same Hj (upd Hj h'.objs.size (.lst ws)):=Same.new f5
  have S1:=a1.trans sm
  refine ⟨.ref h'.objs.size,upd Hj h'.objs.size (.lst ws),I1.un (h':=h2) (t':=s1.toks) ⟨λb o e _ _ _=>a7 b o e,λb o e _ _ _=>⟨o.slots,a7 b o e⟩,λb o e n _=>?_,λb o e _=>⟨o,a7 b o e⟩,λb ys e=>S1 _ _ e,λb o u e=>S1 _ _ e,λb ps e=>⟨#[],by rw [S1 _ _ e];simp⟩⟩ (λb o e=>?_),rfl,?_⟩
  ·have hb:=Heap.lt_size e
   rw [Zam (Nat.ne_of_lt (Nat.lt_of_lt_of_le hb (show s1.heap.objs.size<=h'.objs.size by omega)))]
   cases z:Hj b with
   | none=>rfl
   | some u=>exact absurd (Nat.lt_of_lt_of_le hb (a2 b u z n)) (Nat.lt_irrefl _)
  ·by_cases hb:b=h'.objs.size
   ·subst hb
    rw [Zab] at e;cases e
    exact ⟨hwl,acc.toList,c,a5,e2⟩
   ·rw [Zam hb] at e
    exact (a4 b o e).stay (λ_ _ _ q=>q) (λd q=>sm _ _ q) λd xs q=>sm _ _ q
  ·refine q _ ws _ S1 ?_ Zab (a6.same sm)
   exact I1.hok.fresh (by omega)
end
end L2
namespace L2
open PySem PySem.Spec PyProof.Rows
section
variable {X:Cx}
end
theorem Zgg {K:PySem.W.Frag} {a:Addr} {xs:List V} {g:TG} {tb:TS} {D:Ends} {σ:St} {H:Hp} (Pv:Nat->St->Hp->Prop) (h0:Pv 0 σ H) (hl:∀ i σ H,i<=xs.length->Pv i σ H->SqL K H a xs)
  (hs:∀ i x σ H T,xs[i]?=some x->Pv i σ H->H T=none->g (.ref T) σ (upd H T (.tup [.int (i:Nat),x])) λσ2 H2=>tb { D with nx:=Pv (i+1),ct:=Pv (i+1),bk:=D.nx } σ2 H2) (hd:∀ σ H,Pv xs.length σ H->D.nx σ H) :
  ∃ W:Nat->Nat->St->Hp->Prop,(∃ m,W 0 m σ H)/\∀ i m σ H,W i m σ H ->
   ((Ite K a).stop i H/\D.nx σ H)\/((Ite K a).go i H/\∃ N:St->Hp->Prop,(∀ σ' H',N σ' H'->∃ m',m'<m/\W (i+1) m' σ' H')/\∀ x H',(Ite K a).yld i H x H'->g x σ H' λσ2 H2=>tb { D with nx:=N,ct:=N,bk:=D.nx } σ2 H2):=by
 refine ⟨λi m σ H=>m=xs.length-i/\i<=xs.length/\Pv i σ H,⟨xs.length,by simp,Nat.zero_le _,h0⟩,?_⟩
 rintro i m σ H ⟨rfl,hi,p⟩
 have q:=hl i σ H hi p
 by_cases hlt:i<xs.length
 ·refine .inr ⟨⟨xs,xs[i],q,by simp [hlt]⟩,Pv (i+1),λσ' H' p'=>⟨xs.length-(i+1),by omega,rfl,hlt,p'⟩,λx H' y=>?_⟩
  obtain ⟨T,y',rfl,hT,rfl,hy⟩:=y
  exact hs i y' σ H T (hy xs q) p hT
 ·have e:i=xs.length:=by omega
  subst e
  exact .inl ⟨⟨xs,q,Nat.le_refl _⟩,hd σ H p⟩
def ZpF (lo:Int) (n:Nat):It:=⟨λi _=>i<n,λi H x H'=>H'=H/\x=.int (lo-i),λi _=>n<=i⟩
section
variable {X:Cx} {tg:Expr}
def ZpG (ta:TA):TI:=λσ H R=>ta σ H λvs H1=>∃ i j:Int,vs=[.int i,.int j,.int (-1)]/\(-1000<=i/\i<1000/\-1000<=j/\j<1000)/\R (ZpF i (i-j).toNat) H1
end
section
variable {X:Cx}
def ZpH (hi:Option Int) (xs:List V):List V:=match hi with
 | none=>xs.reverse
 | some _=>(xs.drop 1).reverse
def Zqs (K:PySem.W.Frag) (te:TE) (th:TO):TE:=λσ H Q=>te σ H λx H1=>th σ H1 λu H2=>∃ a xs,x=.ref a/\SqL K H2 a xs/\(u=none\/u=some 0)/\∀ p,H2 p=none->Q (.ref p) (upd H2 p (.lst (ZpH u xs)))
end
end L2
namespace L2
open PySem PySem.Spec PyProof.Rows
structure FunD (K:PySem.W.Frag) (x qual:Str) (st:Stmt) (dV:Value) (f:Addr) (fd:FuncData):Prop where
 ex:∃ (oc:Value) (od:Option Addr) (kV doc pm:Value) (an:Option Addr) (cdv ct:Value) (osl:Array (Option Value)),
  fd=PySem.W.fnOf x qual (Zat st) (Zaq st) (Zae st) dV kV doc pm an cdv ct/\K.lookup f=some ⟨oc,od,.func fd,osl⟩/\PySem.W.codeIn K cdv qual=true
 kp:PySem.W.keepIn K (.ref f)=true
section
variable {P:Program} {w:World} {K:PySem.W.Frag} {mg:Str->Option Value} {base:Heap}
theorem FunD.ok {x qual:Str} {st:Stmt} {dV:Value} {f:Addr} {fd:FuncData} {N ps:List Str} {k:Nat} {sp:Sp} (F:FunD K x qual st dV f fd) (S:Zau N ps (Zae st)) (len:∀ vs H Q E,sp vs H Q E->vs.length=ps.length)
  (hbody:∀ (cdv:Value) (A:Around) (outer:List Env) (s:Shared) (H:Hp) (vs:List V) (Q:VK) (E:XK),Room k (A.deeper (envOfC qual (Zae st) s.heap.objs.size f cdv))->sp vs H Q E ->
   ∃ t,PSs (ZhI CX0 P w K mg base N qual (Zae st) f cdv A outer s H E).nox (Zaq st) t/\t { nx:=λ_ H'=>Q .non H',rt:=Q } (start N vs) H):ZaI P w K mg base CX0 (k+1) f fd ps sp:=by
 obtain ⟨oc,od,kV,doc,pm,an,cdv,ct,osl,rfl,lk,hcd⟩:=F.ex
 refine ZkQ lk hcd S len λA outer s H vs Q E hr hsp=>?_
 obtain ⟨t,h,q⟩:=hbody cdv A outer s H vs Q E hr hsp
 exact ⟨t,h.nox,q⟩
theorem Zlc {x qual:Str} {st:Stmt} {f:Addr} {oc:Value} {od an:Option Addr} {osl:Array (Option Value)} {dV kV doc pm cdv ct:Value} (l:K.lookup f=some ⟨oc,od,.func (PySem.W.fnOf x qual (Zat st) (Zaq st) (Zae st) dV kV doc pm an cdv ct),osl⟩)
  (c:PySem.W.codeIn K cdv qual=true) (k:PySem.W.keepIn K (.ref f)=true):FunD K x qual st dV f (PySem.W.fnOf x qual (Zat st) (Zaq st) (Zae st) dV kV doc pm an cdv ct):=⟨⟨oc,od,kV,doc,pm,an,cdv,ct,osl,rfl,l,c⟩,k⟩
end
end L2
namespace L2
open PySem PySem.Spec PyProof.Rows
theorem Zh9 {P:Program} {w:World} {kvs:List (Key×V)} {vs:List (Key×Value)} {ns:List Int} (r:KV kvs vs) (hk:kvs.map (·.1)=ns.map Sum.inl):vs.map (·.1)=ns.map Sum.inl:=by
 rw [<-hk]
 induction r generalizing ns with
 | nil=>rfl
 | cons h _ ih=>
  cases ns with
  | nil=>simp at hk
  | cons n ns=>
   rw [List.map_cons,List.map_cons,h.1]
   congr 1
   rw [List.map_cons,List.map_cons] at hk
   exact ih (List.cons.inj hk).2
theorem Zjr {X:Cx} (hc:X.calm=true):ZbC X (.builtin "sorted") (λxs H Q=>∃ (p:Addr) (kvs:List (Key×V)) (ns:List Int),xs=[.ref p]/\H p=some (.dK kvs)/\kvs.map (·.1)=ns.map Sum.inl/\ns.length<64 /\
  ∀ (l:Addr) (ns':List Int),H l=none->ns'.Perm ns->ns'.Pairwise (· <= ·)->Q (.ref l) (upd H l (.lst (ns'.map V.int)))):=by
 intro pins s σ H xs us Q I rv h
 obtain ⟨p,kvs,ns,rfl,hp,hk,h64,q⟩:=h
 obtain ⟨u,rfl,ru⟩:=rv.one
 cases ru
 obtain ⟨z,hd,vs,rel,dd⟩:=Zk6 I.hok hp
 obtain ⟨ep,hat⟩:=dd.dictAt
 have h16:(16777216:Nat)=sizeLine:=sizeLine_eq.symm
 have hkv:=Zh9 (P:=X.prog) (w:=X.w) rel hk
 have hlen:vs.length=ns.length:=by have:=congrArg List.length hkv;rw [List.length_map,List.length_map] at this;exact this
 have hh:X.A.in1.handled=none:=I.ok.hd hc
 refine Calls.call_function_entry kind_sorted plain_sorted entry_sorted (args_sorted1 _) ?_
 unfold Builtin.«sorted»
 refine wpAny_bind (m:=checkCount "sorted" 1 1 _) (wpAny_pure ?_)
 refine wpAny_bind (PySem.W.kdu_collect (PySem.W.kdl_dict (knd:=ZaQ X.prog X.w) (kvs:=vs) (ep:=ep) hd) hh hat (by omega) λh' tk acc hk' hacc=>?_)
 have hal:acc.toList.length=vs.length:=by rw [Array.length_toList];exact hacc.1
 have hI:IntsAre acc.toList ns:=by
  refine ZbQ (Zc5 (by rw [List.length_map,hal,hlen]) λi x u e1 e2=>?_)
  rw [Array.getElem?_toList] at e2
  obtain ⟨k,v,e3,e4⟩:=hacc.2 i u e2
  rw [List.getElem?_map] at e1
  cases zz:ns[i]? with
  | none=>rw [zz] at e1;cases e1
  | some n=>
   rw [zz] at e1
   cases e1
   have e5:(vs.map (·.1))[i]?=some k:=by rw [List.getElem?_map,e3];rfl
   rw [hkv,List.getElem?_map,zz] at e5
   cases e5
   have e6:Zfn (Sum.inl n) u=true:=e4
   rcases ZaH e6 with ⟨i',t,h1,h2⟩ | ⟨x',t,h1,_⟩
   ·cases h1
    exact ⟨t,h2⟩
   ·cases h1
 refine wpAny_bind (wpAny_newList ?_ (by rw [hal];omega))
 have hoL:(h'.push (seqObj "list" acc.toList.toArray 0)).get? h'.objs.size=some (seqObj "list" acc.toList.toArray 0):=Heap.get?_push_size _ rfl
 refine wpAny_bind (wpAny_holding (wpAny_call_entry slot_list_sort ⟨_,hoL,rfl⟩ entry_list_sort (list_sort_tree hoL hI (by omega) λout ns' a1 a2 a3=>⟨_,rfl,?_⟩) (args_list_sort _)))
 refine wpAny_pure ⟨_,rfl,?_⟩
 obtain ⟨e,he⟩:=sortedHeap_at (out:=out) hoL
 have hkeep:∀ b o,s.heap.get? b=some o->(sortedHeap (h'.push (seqObj "list" acc.toList.toArray 0)) h'.objs.size acc.toList out).get? b=some o:=λb o e=>by
  have e':=hk' b o e
  have hb:=Heap.lt_size e'
  rw [sortedHeap_old (Nat.ne_of_lt hb) (by rw [Heap.size_push];exact Nat.lt_succ_of_lt hb)]
  exact Heap.get?_push_of_some _ e'
 have hl':(ns'.map V.int).length<=sizeLine:=by rw [List.length_map,a2.length_eq];omega
 have hn:H h'.objs.size=none:=by
  cases zz:H h'.objs.size with
  | none=>rfl
  | some o=>
   obtain ⟨x,ex⟩:∃ x,s.heap.get? h'.objs.size=some x:=by
    have lt:=(I.hok _ _ zz).lt
    exact (I.hok _ _ zz).there
   exact absurd (Heap.lt_size (hk' _ _ ex)) (Nat.lt_irrefl _)
 have sm:Same H (upd H h'.objs.size (.lst (ns'.map V.int))):=Same.new hn
 refine ⟨.ref h'.objs.size,upd H h'.objs.size (.lst (ns'.map V.int)),I.un (t':=tk) ⟨λb o e _ _ _=>hkeep b o e,λb o e _ _ _=>⟨o.slots,hkeep b o e⟩,λb o e n _=>?_,λb o e _=>⟨o,hkeep b o e⟩,λb ys e=>sm _ _ e,λb o u e=>sm _ _ e,λb ps e=>⟨#[],by rw [sm _ _ e];simp⟩⟩ (λb o e'=>?_),rfl,q _ ns' hn a2 a3⟩
 ·rw [Zam (Nat.ne_of_lt (Heap.lt_size (hk' b o e)))]
  exact n
 ·by_cases hb:b=h'.objs.size
  ·subst hb
   rw [Zab] at e';cases e'
   exact ⟨hl',out.toList,e,ZbD a1,he⟩
  ·rw [Zam hb] at e'
   exact (I.hok b o e').stay (λc v _ x=>hkeep c v x) (λd x=>sm _ _ x) λd ys x=>sm _ _ x
end L2
namespace L2
open PySem
def itf (M:Nat):Nat->Nat->Nat
 | 0,x=>x
 | k+1,x=>itf M k ((x * 5+1) % M)
theorem Zeb (M:Nat):∀ (a b x:Nat),itf M (a+b) x=itf M b (itf M a x)
 | 0,b,x=>by rw [Nat.zero_add];rfl
 | a+1,b,x=>by rw [Nat.add_right_comm];exact Zeb M a b _
def orb (M:Nat):Nat->Nat->List Nat
 | 0,_=>[]
 | n+1,x=>x::orb M n ((x * 5+1) % M)
theorem ZfC {M y:Nat}:∀ {n x:Nat},y∈orb M n x->∃ k,k<n/\itf M k x=y
 | 0,x,h=>by simp [orb] at h
 | n+1,x,h=>by
  rcases List.mem_cons.mp h with e | e
  ·exact ⟨0,by omega,e.symm⟩
  ·obtain ⟨k,h1,h2⟩:=ZfC e
   exact ⟨k+1,by omega,h2⟩
def Zhl (M:Nat):Bool:=(List.range M).all (λj=>(orb M M 0).contains j) && itf M M 0 == 0
theorem ZpI:Zhl 8=true:=by decide +kernel
theorem ZmG:Zhl 32=true:=by decide +kernel
theorem Zkj:Zhl 128=true:=by decide +kernel
theorem Zld {M i j:Nat} (h:Zhl M=true) (hi:i<M) (hj:j<M):∃ k,k<M/\itf M k i=j:=by
 unfold Zhl at h
 rw [Bool.and_eq_true,beq_iff_eq,List.all_eq_true] at h
 obtain ⟨h1,h2⟩:=h
 obtain ⟨a,ha,ea⟩:=ZfC (List.contains_iff_mem.mp (h1 i (List.mem_range.mpr hi)))
 obtain ⟨b,hb,eb⟩:=ZfC (List.contains_iff_mem.mp (h1 j (List.mem_range.mpr hj)))
 by_cases hab:a<=b
 ·refine ⟨b-a,by omega,?_⟩
  rw [<-ea,<-Zeb,Nat.add_sub_cancel' hab]
  exact eb
 ·refine ⟨b+M-a,by omega,?_⟩
  rw [<-ea,<-Zeb,show a+(b+M-a)=M+b by omega,Zeb,h2]
  exact eb
def adv (mask:Nat) (p:SetTable.Probe):SetTable.Probe:=
 if p.more > 0 then { p with j:=p.j+1,more:=p.more-1 }
 else { p with j:=(SetTable.leap mask p.i p.perturb).1,more:=SetTable.runEnd mask (SetTable.leap mask p.i p.perturb).1-(SetTable.leap mask p.i p.perturb).1,i:=(SetTable.leap mask p.i p.perturb).1,perturb:=(SetTable.leap mask p.i p.perturb).2 }
theorem Zkk (t:SetTable) (p:SetTable.Probe):t.advance p=adv t.mask p:=rfl
def Zbe (mask:Nat):Nat->SetTable.Probe->SetTable.Probe
 | 0,p=>p
 | n+1,p=>Zbe mask n (adv mask p)
theorem ZbV (mask:Nat):∀ (a b:Nat) (p:SetTable.Probe),Zbe mask (a+b) p=Zbe mask b (Zbe mask a p)
 | 0,b,p=>by rw [Nat.zero_add];rfl
 | a+1,b,p=>by rw [Nat.add_right_comm];exact ZbV mask a b _
theorem ZeW (mask n:Nat) (p:SetTable.Probe):Zbe mask (n+1) p=adv mask (Zbe mask n p):=ZbV mask n 1 p
theorem Zia (mask:Nat) (p:SetTable.Probe):(adv mask p).dummy=p.dummy:=by
 unfold adv;split <;> rfl
def rs (mask i pt:Nat):SetTable.Probe:={ j:=i,more:=SetTable.runEnd mask i-i,i:=i,perturb:=pt,dummy:=none }
def st0 (mask:Nat) (h:Int):SetTable.Probe:=rs mask (SetTable.bits h % (mask+1)) (SetTable.bits h)
theorem ZmH (t:SetTable) (h:Int):t.probeStart h=st0 t.mask h:=rfl
theorem Zdm {mask i:Nat} (h:i<=mask):SetTable.runEnd mask i<=mask:=by
 unfold SetTable.runEnd;split <;> omega
theorem ZgW (mask i:Nat):SetTable.runEnd mask i-i<=9:=by
 unfold SetTable.runEnd;split <;> omega
theorem Zdn (mask i:Nat):i<=SetTable.runEnd mask i:=by
 unfold SetTable.runEnd;split <;> omega
theorem ZbW (mask i pt:Nat):∀ k,k<=SetTable.runEnd mask i-i->Zbe mask k (rs mask i pt)={ j:=i+k,more:=SetTable.runEnd mask i-i-k,i:=i,perturb:=pt,dummy:=none }
 | 0,_=>rfl
 | k+1,h=>by
  rw [ZeW,ZbW mask i pt k (by omega)]
  unfold adv
  rw [if_pos (by show SetTable.runEnd mask i-i-k > 0;omega)]
  show SetTable.Probe.mk _ _ _ _ _=_
  congr 1
theorem Zcp (mask i pt:Nat):Zbe mask (SetTable.runEnd mask i-i+1) (rs mask i pt)=rs mask (SetTable.leap mask i pt).1 (SetTable.leap mask i pt).2:=by
 rw [ZeW,ZbW mask i pt _ (Nat.le_refl _)]
 unfold adv
 rw [if_neg (by show ¬ (SetTable.runEnd mask i-i-(SetTable.runEnd mask i-i) > 0);omega)]
 rfl
theorem ZdR (x mask:Nat):x % (mask+1)<=mask:=Nat.le_of_lt_succ (Nat.mod_lt _ (Nat.succ_pos _))
def lps (mask:Nat):Nat->Nat×Nat->Nat×Nat
 | 0,x=>x
 | m+1,x=>lps mask m (SetTable.leap mask x.1 x.2)
theorem Zib (mask:Nat):∀ (a b:Nat) (x:Nat×Nat),lps mask (a+b) x=lps mask b (lps mask a x)
 | 0,b,x=>by rw [Nat.zero_add];rfl
 | a+1,b,x=>by rw [Nat.add_right_comm];exact Zib mask a b _
theorem Zgh (mask:Nat):∀ (m:Nat) (x:Nat×Nat),∃ n,n<=10 * m/\Zbe mask n (rs mask x.1 x.2)=rs mask (lps mask m x).1 (lps mask m x).2
 | 0,x=>⟨0,Nat.le_refl _,rfl⟩
 | m+1,x=>by
  obtain ⟨n,h1,h2⟩:=Zgh mask m (SetTable.leap mask x.1 x.2)
  refine ⟨SetTable.runEnd mask x.1-x.1+1+n,?_,?_⟩
  ·have:=ZgW mask x.1
   omega
  ·rw [ZbV,Zcp]
   exact h2
theorem Zgi (mask:Nat):∀ (m i:Nat),lps mask m (i,0)=(itf (mask+1) m i,0)
 | 0,i=>rfl
 | m+1,i=>by
  show lps mask m (SetTable.leap mask i 0)=_
  have e:SetTable.leap mask i 0=((i * 5+1) % (mask+1),0):=by unfold SetTable.leap;simp
  rw [e]
  exact Zgi mask m _
theorem Zgj (mask:Nat):∀ (m i b:Nat),(lps mask m (i,b)).2=b / 32 ^ m
 | 0,i,b=>by simp [lps]
 | m+1,i,b=>by
  show (lps mask m (SetTable.leap mask i b)).2=_
  have e:SetTable.leap mask i b=((SetTable.leap mask i b).1,b / 32):=rfl
  rw [e,Zgj mask m _ _,Nat.div_div_eq_div_mul,Nat.pow_succ,Nat.mul_comm]
theorem Zkl (mask:Nat):∀ (m i b:Nat),i<=mask->(lps mask m (i,b)).1<=mask
 | 0,i,b,h=>h
 | m+1,i,b,h=>Zkl mask m _ _ (ZdR _ _)
theorem Zle (h:Int):SetTable.bits h<2 ^ 64:=by
 unfold SetTable.bits
 have h1:=Int.emod_nonneg h (show (2 ^ 64:Int)≠0 by decide)
 have h2:=Int.emod_lt_of_pos h (show (0:Int)<2 ^ 64 by decide)
 omega
theorem ZeX {mask j:Nat} (hc:Zhl (mask+1)=true) (h:Int) (hj:j<=mask):∃ m,m<mask+14/\(lps mask m (SetTable.bits h % (mask+1),SetTable.bits h)).1=j:=by
 have hb:=Zle h
 generalize SetTable.bits h=b at hb ⊢
 have h13:(lps mask 13 (b % (mask+1),b)).2=0:=by
  rw [Zgj]
  exact Nat.div_eq_of_lt (Nat.lt_trans hb (by decide))
 have hi:(lps mask 13 (b % (mask+1),b)).1<=mask:=Zkl mask 13 _ _ (ZdR _ _)
 obtain ⟨k,hk,ek⟩:=Zld hc (Nat.lt_succ_of_le hi) (Nat.lt_succ_of_le hj)
 refine ⟨13+k,by omega,?_⟩
 rw [Zib]
 have e:lps mask 13 (b % (mask+1),b)=((lps mask 13 (b % (mask+1),b)).1,0):=by rw [<-h13]
 rw [e,Zgi]
 exact ek
theorem Zic {mask j:Nat} (hc:Zhl (mask+1)=true) (h:Int) (hj:j<=mask):∃ n,n+10<10 * SetTable.turns mask/\(Zbe mask n (st0 mask h)).j=j:=by
 obtain ⟨m,hm,em⟩:=ZeX hc h hj
 obtain ⟨n,hn,en⟩:=Zgh mask m (SetTable.bits h % (mask+1),SetTable.bits h)
 refine ⟨n,by unfold SetTable.turns;omega,?_⟩
 show (Zbe mask n (rs mask _ _)).j=j
 rw [en]
 exact em
theorem ZmI {mask:Nat} {p:SetTable.Probe} (h:p.j+p.more<=mask):(adv mask p).j+(adv mask p).more<=mask:=by
 unfold adv
 split
 ·show p.j+1+(p.more-1)<=mask
  omega
 ·have h1:(SetTable.leap mask p.i p.perturb).1<=mask:=ZdR _ _
  have h2:=Zdm h1
  have h3:=Zdn mask (SetTable.leap mask p.i p.perturb).1
  show (SetTable.leap mask p.i p.perturb).1+(SetTable.runEnd mask (SetTable.leap mask p.i p.perturb).1-(SetTable.leap mask p.i p.perturb).1)<=mask
  omega
theorem Zid {mask:Nat}:∀ {n:Nat} {p:SetTable.Probe},p.j+p.more<=mask->(Zbe mask n p).j+(Zbe mask n p).more<=mask
 | 0,_,h=>h
 | n+1,p,h=>Zid (n:=n) (ZmI h)
theorem ZmJ (mask:Nat) (h:Int):(st0 mask h).j+(st0 mask h).more<=mask:=by
 have h1:SetTable.bits h % (mask+1)<=mask:=ZdR _ _
 have h2:=Zdm h1
 have h3:=Zdn mask (SetTable.bits h % (mask+1))
 show SetTable.bits h % (mask+1)+(SetTable.runEnd mask (SetTable.bits h % (mask+1))-SetTable.bits h % (mask+1))<=mask
 omega
theorem Zie (mask n:Nat) (h:Int):(Zbe mask n (st0 mask h)).j<=mask:=by
 have:=Zid (n:=n) (ZmJ mask h)
 omega
def Rise (xs:Array Nat):Prop:=xs.toList.Pairwise (· < ·)
theorem Rise.lt {xs:Array Nat} (h:Rise xs) {q r a b:Nat} (hqr:q<r) (ha:xs[q]?=some a) (hb:xs[r]?=some b):a<b:=by
 rw [<-Array.getElem?_toList] at ha hb
 obtain ⟨h1,e1⟩:=List.getElem?_eq_some_iff.mp ha
 obtain ⟨h2,e2⟩:=List.getElem?_eq_some_iff.mp hb
 have:=List.pairwise_iff_getElem.mp h q r h1 h2 hqr
 rw [e1,e2] at this
 exact this
theorem Zec {xs:Array Nat} {j:Nat} (hr:Rise xs):∀ (fuel lo hi:Nat),hi-lo<=fuel->lo<=hi->hi<=xs.size ->
  (∀ q a,q<lo->xs[q]?=some a->a<j)->(∀ q a,hi<=q->xs[q]?=some a->j<=a) ->
  SetTable.below.go xs j fuel lo hi<=xs.size/\(∀ q a,q<SetTable.below.go xs j fuel lo hi->xs[q]?=some a->a<j)/\(∀ q a,SetTable.below.go xs j fuel lo hi<=q->xs[q]?=some a->j<=a)
 | 0,lo,hi,h0,h1,h2,hl,hh=>by
  have e:hi=lo:=by omega
  subst e
  exact ⟨h2,hl,hh⟩
 | fuel+1,lo,hi,h0,h1,h2,hl,hh=>by
  unfold SetTable.below.go
  by_cases hlt:lo<hi
  ·rw [if_pos hlt]
   have hm:(lo+hi) / 2<xs.size:=by omega
   have em:xs[(lo+hi) / 2]?=some xs[(lo+hi) / 2]:=Array.getElem?_eq_getElem hm
   have ed:xs.getD ((lo+hi) / 2) j=xs[(lo+hi) / 2]:=by
    rw [Array.getD_eq_getD_getElem?,em];rfl
   dsimp only
   rw [ed]
   by_cases hc:xs[(lo+hi) / 2]<j
   ·rw [if_pos hc]
    refine Zec hr fuel _ _ (by omega) (by omega) h2 (λq a hq ha=>?_) hh
    by_cases hq':q=(lo+hi) / 2
    ·rw [hq',em] at ha;cases ha;exact hc
    ·exact Nat.lt_trans (hr.lt (by omega) ha em) hc
   ·rw [if_neg hc]
    refine Zec hr fuel _ _ (by omega) (by omega) (by omega) hl (λq a hq ha=>?_)
    by_cases hq':q=(lo+hi) / 2
    ·rw [hq',em] at ha;cases ha;omega
    ·have:=hr.lt (show (lo+hi) / 2<q by omega) em ha
     omega
  ·rw [if_neg hlt]
   have e:hi=lo:=by omega
   subst e
   exact ⟨h2,hl,hh⟩
theorem ZcO {xs:Array Nat} {j:Nat} (hr:Rise xs):SetTable.below xs j<=xs.size/\(∀ q a,q<SetTable.below xs j->xs[q]?=some a->a<j)/\(∀ q a,SetTable.below xs j<=q->xs[q]?=some a->j<=a):=by
 unfold SetTable.below
 refine Zec hr xs.size 0 xs.size (by omega) (by omega) (Nat.le_refl _) (λq a hq=>absurd hq (Nat.not_lt_zero _)) λq a hq ha=>?_
 rw [Array.getElem?_eq_none hq] at ha;cases ha
theorem Zjs {xs:Array Nat} {i j:Nat} (hr:Rise xs) (h:xs[i]?=some j):SetTable.below xs j=i:=by
 obtain ⟨h1,h2,h3⟩:=ZcO (j:=j) hr
 rcases Nat.lt_trichotomy (SetTable.below xs j) i with z | z | z
 ·have hs:SetTable.below xs j<xs.size:=by
   have:=(Array.getElem?_eq_some_iff.mp h).1
   omega
  have:=hr.lt z (Array.getElem?_eq_getElem hs) h
  have:=h3 _ _ (Nat.le_refl _) (Array.getElem?_eq_getElem hs)
  omega
 ·exact z
 ·have:=h2 i j z h
  omega
theorem ZgX (t:SetTable) (hr:Rise t.place) (hd:t.dummies=#[]) (j:Nat):(t.slot j=.empty/\j ∉ t.place.toList)\/∃ i,t.slot j=.live i/\t.place[i]?=some j:=by
 unfold SetTable.slot
 dsimp only
 by_cases h:t.place[SetTable.below t.place j]?=some j
 ·refine .inr ⟨SetTable.below t.place j,?_,h⟩
  rw [if_pos (by rw [h];exact beq_self_eq_true _)]
 ·refine .inl ⟨?_,λhm=>?_⟩
  ·rw [if_neg (by rw [beq_iff_eq];exact h),hd]
   have e:SetTable.has #[] j=false:=by unfold SetTable.has;simp
   rw [e]
   rfl
  ·obtain ⟨i,hi,e⟩:=List.getElem_of_mem hm
   have e':t.place[i]?=some j:=by
    rw [<-Array.getElem?_toList,List.getElem?_eq_getElem hi,e]
   rw [Zjs hr e'] at h
   exact h e'
theorem Zdo {xs:Array Nat} {i j:Nat} (h:xs[i]?=some j):j∈xs.toList:=by
 rw [<-Array.getElem?_toList] at h
 exact List.mem_of_getElem? h
section
variable {t:SetTable} {ha:Nat->Int} {h:Int}
theorem Zif (hr:Rise t.place) (hd:t.dummies=#[]):∀ (F:Nat) (p:SetTable.Probe),(∃ n,n<F/\(Zbe t.mask n p).j ∉ t.place.toList) ->
  (∃ n,SetTable.probe.go t ha h F p=some (.empty (Zbe t.mask n p).j p.dummy)/\(Zbe t.mask n p).j ∉ t.place.toList/\∀ q,q<n->∃ i,t.place[i]?=some (Zbe t.mask q p).j/\ha i≠h) \/
  (∃ n i,SetTable.probe.go t ha h F p=some (.candidate (Zbe t.mask n p).j i (Zbe t.mask (n+1) p))/\t.place[i]?=some (Zbe t.mask n p).j/\ha i=h/\∀ q,q<n->∃ i,t.place[i]?=some (Zbe t.mask q p).j/\ha i≠h)
 | 0,p,⟨n,hn,_⟩=>absurd hn (Nat.not_lt_zero _)
 | F+1,p,⟨n,hn,hf⟩=>by
  rcases ZgX t hr hd p.j with ⟨e,hm⟩ | ⟨i,e,hi⟩
  ·refine .inl ⟨0,?_,hm,λq hq=>absurd hq (Nat.not_lt_zero _)⟩
   unfold SetTable.probe.go
   rw [e]
   rfl
  ·by_cases hh:ha i=h
   ·refine .inr ⟨0,i,?_,hi,hh,λq hq=>absurd hq (Nat.not_lt_zero _)⟩
    unfold SetTable.probe.go
    rw [e]
    dsimp only
    rw [if_pos (by rw [hh];exact beq_self_eq_true _),Zkk]
    rfl
   ·have hs:SetTable.probe.go t ha h (F+1) p=SetTable.probe.go t ha h F (adv t.mask p):=by
     rw [SetTable.probe.go,e]
     dsimp only
     rw [if_neg (by rw [beq_iff_eq];exact hh),Zkk]
    cases n with
    | zero=>exact absurd (Zdo hi) hf
    | succ n=>
     rw [hs]
     rcases Zif hr hd F (adv t.mask p) ⟨n,by omega,hf⟩ with ⟨m,g1,g2,g3⟩ | ⟨m,i',g1,g2,g3,g4⟩
     ·refine .inl ⟨m+1,?_,g2,λq hq=>?_⟩
      ·rw [g1,Zia];rfl
      ·cases q with
       | zero=>exact ⟨i,hi,hh⟩
       | succ q=>exact g3 q (by omega)
     ·refine .inr ⟨m+1,i',g1,g2,g3,λq hq=>?_⟩
      cases q with
      | zero=>exact ⟨i,hi,hh⟩
      | succ q=>exact g4 q (by omega)
theorem ZdS {mask:Nat} {l:List Nat} (h:l.length<=mask):∃ j,j<=mask/\j ∉ l:=by
 apply Classical.byContradiction
 intro hn
 have hs:List.range (mask+1) ⊆ l:=λj hj=>Classical.byContradiction λhm=>hn ⟨j,by have:=List.mem_range.mp hj;omega,hm⟩
 have:=List.Nodup.length_le_of_subset List.nodup_range hs
 rw [List.length_range] at this
 omega
end
end L2
namespace L2
open PySem
theorem isN {ow:Array (Option Nat)} {x:Nat} (hx:x<ow.size):(ow.getD x (some 0)).isNone=true↔ow[x]?=some none:=by
 rw [Array.getD_eq_getD_getElem?,Array.getElem?_eq_getElem hx]
 show ow[x].isNone=true↔some ow[x]=some none
 cases ow[x] <;> simp
theorem ZeY {mask:Nat} {ow:Array (Option Nat)} (hz:ow.size=mask+1):∀ (F i pt:Nat),i<=mask ->
  (∃ m,m<F/\ow[(lps mask m (i,pt)).1]?=some none) ->
  ∃ n,SetTable.layClean.free mask ow F i pt=some (Zbe mask n (rs mask i pt)).j/\ow[(Zbe mask n (rs mask i pt)).j]?=some none/\∀ q,q<n->ow[(Zbe mask q (rs mask i pt)).j]?≠some none
 | 0,i,pt,_,⟨m,hm,_⟩=>absurd hm (Nat.not_lt_zero _)
 | F+1,i,pt,hi,⟨m,hm,em⟩=>by
  have hre:=Zdm hi
  have hrg:=Zdn mask i
  unfold SetTable.layClean.free
  cases hf:List.find? (λk=>(ow.getD (i+k) (some 0)).isNone) (List.range (SetTable.runEnd mask i+1-i)) with
  | some k=>
   obtain ⟨p1,p2,p3⟩:=List.find?_range_eq_some.mp hf
   have hk:=List.mem_range.mp p2
   refine ⟨k,?_,?_,λq hq=>?_⟩
   ·rw [ZbW mask i pt k (by omega)]
   ·rw [ZbW mask i pt k (by omega)]
    show ow[i+k]?=some none
    exact (isN (by omega)).mp p1
   ·rw [ZbW mask i pt q (by omega)]
    show ow[i+q]?≠some none
    intro z
    have h1:=p3 q hq
    rw [(isN (by omega)).mpr z] at h1
    cases h1
  | none=>
   have hall:=List.find?_eq_none.mp hf
   have hno:∀ q,q<=SetTable.runEnd mask i-i->ow[i+q]?≠some none:=λq hq z=>hall q (List.mem_range.mpr (by omega)) ((isN (by omega)).mpr z)
   cases m with
   | zero=>exact absurd em (hno 0 (Nat.zero_le _))
   | succ m=>
    obtain ⟨n,g1,g2,g3⟩:=ZeY hz F (SetTable.leap mask i pt).1 (SetTable.leap mask i pt).2 (ZdR _ _) ⟨m,by omega,em⟩
    refine ⟨SetTable.runEnd mask i-i+1+n,?_,?_,λq hq=>?_⟩
    ·rw [ZbV,Zcp]
     exact g1
    ·rw [ZbV,Zcp]
     exact g2
    ·by_cases hq':q<=SetTable.runEnd mask i-i
     ·rw [ZbW mask i pt q hq']
      exact hno q hq'
     ·have e:q=SetTable.runEnd mask i-i+1+(q-(SetTable.runEnd mask i-i+1)):=by omega
      rw [e,ZbV,Zcp]
      exact g3 _ (by omega)
def Zgk (mask:Nat) (acc:Option (Array (Option Nat)×Nat)) (h:Int):Option (Array (Option Nat)×Nat):=
 acc.bind λx=>(SetTable.layClean.free mask x.1 (SetTable.turns mask) (SetTable.bits h % (mask+1)) (SetTable.bits h)).bind λj=>some (x.1.setIfInBounds j (some x.2),x.2+1)
theorem Zed (mask:Nat) (hashes:Array Int):SetTable.layClean mask hashes=(hashes.toList.foldl (Zgk mask) (some (Array.replicate (mask+1) none,0))).map (·.1):=by
 unfold SetTable.layClean
 rw [Array.foldl_toList]
 rfl
structure Lc (mask:Nat) (ow:Array (Option Nat)) (js:List Nat) (hs:List Int):Prop where
 sz:ow.size=mask+1
 len:js.length=hs.length
 at_:∀ (q j:Nat),js[q]?=some j↔ow[j]?=some (some q)
 rch:∀ (q:Nat) (h:Int) (j:Nat),hs[q]?=some h->js[q]?=some j->∃ n,(Zbe mask n (st0 mask h)).j=j/\∀ r,r<n->ow[(Zbe mask r (st0 mask h)).j]?≠some none
theorem Lc.nil (mask:Nat):Lc mask (Array.replicate (mask+1) none) [] []:=
 ⟨Array.size_replicate,rfl,λq j=>⟨λz=>by simp at z,λz=>by
  rw [Array.getElem?_replicate] at z
  split at z <;> simp at z⟩,λq h j z=>by simp at z⟩
theorem Lc.step {mask:Nat} {ow:Array (Option Nat)} {js:List Nat} {hs:List Int} (L:Lc mask ow js hs) (hc:Zhl (mask+1)=true) (hl:hs.length<=mask) (h:Int) :
  ∃ j,Zgk mask (some (ow,hs.length)) h=some (ow.setIfInBounds j (some hs.length),hs.length+1)/\Lc mask (ow.setIfInBounds j (some hs.length)) (js++[j]) (hs++[h]):=by
 have hjl:=L.len
 obtain ⟨j0,hj0,hn0⟩:=ZdS (mask:=mask) (l:=js) (by omega)
 have e0:ow[j0]?=some none:=by
  have hs0:j0<ow.size:=by rw [L.sz];omega
  rw [Array.getElem?_eq_getElem hs0]
  cases q:ow[j0] with
  | none=>rfl
  | some k=>
   exact absurd (List.mem_of_getElem? ((L.at_ k j0).mpr (by rw [Array.getElem?_eq_getElem hs0,q]))) hn0
 obtain ⟨m,hm,em⟩:=ZeX hc h hj0
 obtain ⟨n,g1,g2,g3⟩:=ZeY L.sz (SetTable.turns mask) (SetTable.bits h % (mask+1)) (SetTable.bits h) (ZdR _ _) ⟨m,by unfold SetTable.turns;omega,by rw [em];exact e0⟩
 have est:rs mask (SetTable.bits h % (mask+1)) (SetTable.bits h)=st0 mask h:=rfl
 rw [est] at g1 g2 g3
 have hjlt:(Zbe mask n (st0 mask h)).j<ow.size:=by rw [L.sz];have:=Zie mask n h;omega
 refine ⟨(Zbe mask n (st0 mask h)).j,?_,?_⟩
 ·unfold Zgk
  rw [Option.bind_some,g1]
  rfl
 ·generalize hj:(Zbe mask n (st0 mask h)).j=j at g2 hjlt ⊢
  have hget:∀ x,(ow.setIfInBounds j (some hs.length))[x]?=if j=x then some (some hs.length) else ow[x]?:=λx=>by
   rw [Array.getElem?_setIfInBounds,if_pos hjlt]
  have hjs:j ∉ js:=λhm=>by
   obtain ⟨q,hq,e⟩:=List.getElem_of_mem hm
   have:=(L.at_ q j).mp (by rw [List.getElem?_eq_getElem hq,e])
   rw [g2] at this;cases this
  have occ:∀ x,ow[x]?≠some none->(ow.setIfInBounds j (some hs.length))[x]?≠some none:=λx hx=>by
   rw [hget]
   split
   ·simp
   ·exact hx
  refine ⟨by rw [Array.size_setIfInBounds];exact L.sz,by simp [hjl],λq x=>?_,λq g x e1 e2=>?_⟩
  ·rw [hget]
   by_cases hq:q<js.length
   ·rw [List.getElem?_append_left hq]
    by_cases hx:j=x
    ·rw [if_pos hx]
     constructor
     ·intro z
      exact absurd (hx▸List.mem_of_getElem? z) hjs
     ·intro z
      have:hs.length=q:=by simpa using z
      omega
    ·rw [if_neg hx]
     exact L.at_ q x
   ·rw [List.getElem?_append_right (by omega)]
    by_cases hx:j=x
    ·rw [if_pos hx]
     by_cases hq':q=js.length
     ·subst hq'
      simp [hx,hjl]
     ·constructor
      ·intro z
       have:([j]:List Nat)[q-js.length]?=none:=List.getElem?_eq_none (by simp;omega)
       rw [this] at z;cases z
      ·intro z
       have:hs.length=q:=by simpa using z
       omega
    ·rw [if_neg hx]
     constructor
     ·intro z
      have:=List.mem_of_getElem? z
      simp at this
      exact absurd this.symm hx
     ·intro z
      have:=(L.at_ q x).mpr z
      rw [List.getElem?_eq_none (by omega)] at this
      cases this
  ·by_cases hq:q<hs.length
   ·rw [List.getElem?_append_left hq] at e1
    rw [List.getElem?_append_left (by omega)] at e2
    obtain ⟨n',r1,r2⟩:=L.rch q g x e1 e2
    exact ⟨n',r1,λr hr=>occ _ (r2 r hr)⟩
   ·rw [List.getElem?_append_right (by omega)] at e1 e2
    have h1:=List.mem_of_getElem? e1
    have h2:=List.mem_of_getElem? e2
    simp at h1 h2
    subst h1 h2
    exact ⟨n,hj,λr hr=>occ _ (g3 r hr)⟩
theorem Zig {mask:Nat} (hc:Zhl (mask+1)=true):∀ (rest:List Int) (ow:Array (Option Nat)) (js:List Nat) (hs:List Int),Lc mask ow js hs->hs.length+rest.length<=mask ->
  ∃ ow' js',rest.foldl (Zgk mask) (some (ow,hs.length))=some (ow',(hs++rest).length)/\Lc mask ow' js' (hs++rest)
 | [],ow,js,hs,L,_=>⟨ow,js,by simp,by simpa using L⟩
 | h::rest,ow,js,hs,L,hl=>by
  rw [List.length_cons] at hl
  obtain ⟨j,e,L'⟩:=L.step hc (by omega) h
  obtain ⟨ow',js',e',L''⟩:=Zig hc rest _ _ (hs++[h]) L' (by simp;omega)
  refine ⟨ow',js',?_,by simpa using L''⟩
  rw [List.foldl_cons,e]
  have hlen:(hs++[h]).length=hs.length+1:=by simp
  rw [hlen] at e'
  rw [e']
  simp
theorem ZcW {α β:Type} (f:α->Option β):∀ (l:List α),(∀ x∈l,(f x).isSome=true)->∀ r:Nat,(l.filterMap f)[r]?=(l[r]?).bind f
 | [],_,r=>by simp
 | x::l,h,r=>by
  obtain ⟨y,hy⟩:=Option.isSome_iff_exists.mp (h x (List.mem_cons_self))
  rw [List.filterMap_cons_some hy]
  cases r with
  | zero=>simp [hy]
  | succ r=>
   rw [List.getElem?_cons_succ,List.getElem?_cons_succ]
   exact ZcW f l (λz hz=>h z (List.mem_cons_of_mem _ hz)) r
structure ZpJ (t:SetTable) (od:Array Nat) (mask finger moves:Nat) (led plain:Bool) (hashes:Array Int):Prop where
 tm:t.mask=mask
 tl:t.led=led
 tp:t.plain=plain
 td:t.dummies=#[]
 rise:Rise t.place
 le:∀ j∈t.place.toList,j<=mask
 perm:od.toList.Perm (List.range hashes.size)
 sz:t.place.size=hashes.size
 rch:∀ (r q j:Nat) (h:Int),od[r]?=some q->t.place[r]?=some j->hashes[q]?=some h->∃ n,(Zbe mask n (st0 mask h)).j=j/\∀ r',r'<n->(Zbe mask r' (st0 mask h)).j∈t.place.toList
theorem Zih {mask:Nat} (hc:Zhl (mask+1)=true) (finger moves:Nat) (led plain:Bool) (hashes:Array Int) (hz:hashes.size<=mask) :
  ∃ t od,SetTable.laid mask finger moves led plain hashes=some (t,od)/\ZpJ t od mask finger moves led plain hashes:=by
 obtain ⟨ow,js,e,L⟩:=Zig hc hashes.toList _ [] [] (Lc.nil mask) (by simpa using hz)
 simp only [List.nil_append,List.length_nil] at e L
 have hn:js.length=hashes.size:=by rw [L.len,Array.length_toList]
 have e':SetTable.layClean mask hashes=some ow:=by rw [Zed,e];rfl
 generalize hlive:(List.range (mask+1)).filterMap (λj=>(ow.getD j none).map (j,·))=live
 have mem:∀ j q,(j,q)∈live↔j<=mask/\ow[j]?=some (some q):=by
  intro j q
  rw [<-hlive,List.mem_filterMap]
  constructor
  ·rintro ⟨a,ha,hb⟩
   have ha':=List.mem_range.mp ha
   have hs':a<ow.size:=by rw [L.sz];omega
   rw [Array.getD_eq_getD_getElem?,Array.getElem?_eq_getElem hs'] at hb
   cases hq:ow[a] with
   | none=>rw [hq] at hb;cases hb
   | some k=>
    rw [hq] at hb
    have hb':(a,k)=(j,q):=Option.some.inj hb
    cases hb'
    exact ⟨by omega,by rw [Array.getElem?_eq_getElem hs',hq]⟩
  ·rintro ⟨h1,h2⟩
   refine ⟨j,List.mem_range.mpr (by omega),?_⟩
   rw [Array.getD_eq_getD_getElem?,h2]
   rfl
 have pw1:(live.map (·.1)).Pairwise (· < ·):=by
  rw [List.pairwise_map,<-hlive]
  refine List.Pairwise.filterMap (R:=(· < ·)) _ (λa a' haa b hb b' hb'=>?_) List.pairwise_lt_range
  obtain ⟨x,_,rfl⟩:=Option.map_eq_some_iff.mp hb
  obtain ⟨x',_,rfl⟩:=Option.map_eq_some_iff.mp hb'
  exact haa
 have pw2:(live.map (·.2)).Nodup:=by
  unfold List.Nodup
  rw [List.pairwise_map]
  have:=List.Pairwise.and_mem.mp (List.pairwise_map.mp pw1)
  refine this.imp λ{a b} hab z=>?_
  obtain ⟨ha,hb,hlt⟩:=hab
  have h1:=(L.at_ a.2 a.1).mpr ((mem a.1 a.2).mp ha).2
  have h2:=(L.at_ b.2 b.1).mpr ((mem b.1 b.2).mp hb).2
  rw [z,h2] at h1
  have:=Option.some.inj h1
  omega
 have hperm:(live.map (·.2)).Perm (List.range hashes.size):=by
  refine (List.perm_ext_iff_of_nodup pw2 List.nodup_range).mpr λq=>?_
  rw [List.mem_range,List.mem_map]
  constructor
  ·rintro ⟨⟨j,q'⟩,hm,rfl⟩
   have h1:=(L.at_ q' j).mpr ((mem j q').mp hm).2
   have:=(List.getElem?_eq_some_iff.mp h1).1
   show q'<_
   omega
  ·intro hq
   have hq':q<js.length:=by omega
   have h1:=(L.at_ q js[q]).mp (List.getElem?_eq_getElem hq')
   have h2:=(Array.getElem?_eq_some_iff.mp h1).1
   rw [L.sz] at h2
   exact ⟨(js[q],q),(mem _ _).mpr ⟨by omega,h1⟩,rfl⟩
 refine ⟨_,_,by unfold SetTable.laid;rw [e'];rfl,rfl,rfl,rfl,rfl,?_,?_,?_,?_,?_⟩
 ·unfold Rise
  dsimp only
  rw [hlive]
  exact pw1
 ·dsimp only
  rw [hlive]
  intro j hj
  obtain ⟨⟨a,q⟩,hm,rfl⟩:=List.mem_map.mp (show j∈live.map (·.1) from hj)
  exact ((mem a q).mp hm).1
 ·dsimp only
  rw [hlive]
  exact hperm
 ·dsimp only
  rw [hlive,List.size_toArray,List.length_map]
  have:=hperm.length_eq
  rw [List.length_map,List.length_range] at this
  exact this
 ·dsimp only
  rw [hlive]
  intro r q j h e1 e2 e3
  rw [List.getElem?_toArray,List.getElem?_map] at e1 e2
  cases hl:live[r]? with
  | none=>rw [hl] at e1;cases e1
  | some x=>
   rw [hl] at e1 e2
   have e1':x.2=q:=Option.some.inj e1
   have e2':x.1=j:=Option.some.inj e2
   subst e1' e2'
   have h1:=(L.at_ x.2 x.1).mpr ((mem x.1 x.2).mp (List.mem_of_getElem? hl)).2
   obtain ⟨n,r1,r2⟩:=L.rch x.2 h x.1 (by rw [Array.getElem?_toList];exact e3) h1
   refine ⟨n,r1,λr' hr'=>?_⟩
   have h2:=r2 r' hr'
   have hle:=Zie mask r' h
   have hs':(Zbe mask r' (st0 mask h)).j<ow.size:=by rw [L.sz];omega
   rw [Array.getElem?_eq_getElem hs'] at h2
   cases hq:ow[(Zbe mask r' (st0 mask h)).j] with
   | none=>rw [hq] at h2;exact absurd rfl h2
   | some k=>
    show _∈live.map (·.1)
    exact List.mem_map.mpr ⟨(_,k),(mem _ _).mpr ⟨hle,by rw [Array.getElem?_eq_getElem hs',hq]⟩,rfl⟩
end L2
namespace L2
open PySem
def ins {α:Type} (l:List α) (p:Nat) (x:α):List α:=l.take p++x::l.drop p
theorem Zgl {α:Type} {l:List α} {p:Nat} {x:α} (hp:p<=l.length) (i:Nat):(ins l p x)[i]?=if i<p then l[i]? else if i=p then some x else l[i-1]?:=by
 unfold ins
 have hl:(l.take p).length=p:=by rw [List.length_take];omega
 by_cases h:i<p
 ·rw [if_pos h,List.getElem?_append_left (by omega),List.getElem?_take,if_pos h]
 ·rw [if_neg h,List.getElem?_append_right (by omega),hl]
  by_cases h':i=p
  ·subst h';simp
  ·rw [if_neg h']
   have e:i-p=(i-p-1)+1:=by omega
   rw [e,List.getElem?_cons_succ,List.getElem?_drop]
   congr 1
   omega
theorem Zee {α:Type} {l:List α} {p:Nat} {x:α} (hp:p<=l.length):(ins l p x).length=l.length+1:=by
 unfold ins
 simp
 omega
theorem Zlf {α β:Type} (f:α->β) (l:List α) (p:Nat) (x:α):(ins l p x).map f=ins (l.map f) p (f x):=by
 unfold ins
 simp
theorem ins_mem {α:Type} {l:List α} {p:Nat} {x y:α}:y∈ins l p x↔y=x\/y∈l:=by
 unfold ins
 rw [List.mem_append,List.mem_cons]
 constructor
 ·rintro (h | h | h)
  ·exact .inr (List.mem_of_mem_take h)
  ·exact .inl h
  ·exact .inr (List.mem_of_mem_drop h)
 ·rintro (h | h)
  ·exact .inr (.inl h)
  ·rw [<-List.take_append_drop p l,List.mem_append] at h
   rcases h with h | h
   ·exact .inl h
   ·exact .inr (.inr h)
structure TOk (t:SetTable) (hs:List Int):Prop where
 mask:t.mask=7\/t.mask=31\/t.mask=127
 dum:t.dummies=#[]
 len:t.place.size=hs.length
 rise:Rise t.place
 le:∀ j∈t.place.toList,j<=t.mask
 rch:∀ (i:Nat) (h:Int) (j:Nat),hs[i]?=some h->t.place[i]?=some j->∃ n,(Zbe t.mask n (st0 t.mask h)).j=j/\∀ q,q<n->(Zbe t.mask q (st0 t.mask h)).j∈t.place.toList
theorem TOk.cov {t:SetTable} {hs:List Int} (T:TOk t hs):Zhl (t.mask+1)=true:=by
 rcases T.mask with e | e | e <;> rw [e]
 ·exact ZpI
 ·exact ZmG
 ·exact Zkj
theorem TOk.fill {t:SetTable} {hs:List Int} (T:TOk t hs):t.fill=hs.length:=by
 unfold SetTable.fill
 rw [T.dum,T.len]
 rfl
theorem TOk.fits {t:SetTable} {hs:List Int} (T:TOk t hs) (h:hs.length<=t.mask):t.fits hs.length=true:=by
 unfold SetTable.fits
 rw [Bool.and_eq_true,beq_iff_eq,decide_eq_true_eq,T.fill]
 exact ⟨T.len,h⟩
theorem TOk.fresh (f m:Nat) (led:Bool):TOk (SetTable.fresh f m led) []:=
 ⟨.inl rfl,rfl,rfl,List.Pairwise.nil,λj hj=>by simp [SetTable.fresh] at hj,λi h j e=>by simp at e⟩
theorem TOk.empty {t:SetTable} {hs:List Int} (T:TOk t hs) (hl:hs.length<=t.mask) (h:Int):∃ n,n+10<10 * SetTable.turns t.mask/\(Zbe t.mask n (st0 t.mask h)).j ∉ t.place.toList:=by
 obtain ⟨j,h1,h2⟩:=ZdS (mask:=t.mask) (l:=t.place.toList) (by rw [Array.length_toList,T.len];exact hl)
 obtain ⟨n,h3,h4⟩:=Zic T.cov h h1
 exact ⟨n,h3,by rw [h4];exact h2⟩
theorem Zod {t:SetTable} {j:Nat}:(t.put j).2=SetTable.below t.place j:=rfl
theorem ZbI {t:SetTable} {j:Nat}:(t.put j).1.place.toList=ins t.place.toList (SetTable.below t.place j) j:=by
 show (SetTable.insertAt t.place (SetTable.below t.place j) j).toList=_
 rw [SetTable.toList_insertAt]
 rfl
theorem TOk.put {t:SetTable} {hs:List Int} (T:TOk t hs) {h:Int} {n:Nat} (hn:(Zbe t.mask n (st0 t.mask h)).j ∉ t.place.toList) (hr:∀ q,q<n->(Zbe t.mask q (st0 t.mask h)).j∈t.place.toList) :
  SetTable.below t.place (Zbe t.mask n (st0 t.mask h)).j<=hs.length/\TOk (t.put (Zbe t.mask n (st0 t.mask h)).j).1 (ins hs (SetTable.below t.place (Zbe t.mask n (st0 t.mask h)).j) h):=by
 have hle:=Zie t.mask n h
 generalize hj:(Zbe t.mask n (st0 t.mask h)).j=j at hn hle ⊢
 obtain ⟨b1,b2,b3⟩:=ZcO (j:=j) T.rise
 have hb:SetTable.below t.place j<=hs.length:=by rw [<-T.len];exact b1
 have hb':SetTable.below t.place j<=t.place.toList.length:=by rw [Array.length_toList];exact b1
 have pm:∀ x,x∈t.place.toList->x∈(t.put j).1.place.toList:=λx hx=>by rw [ZbI];exact ins_mem.mpr (.inr hx)
 refine ⟨hb,T.mask,?_,?_,?_,λx hx=>?_,λi g x e1 e2=>?_⟩
 ·show (if SetTable.has t.dummies j=true then SetTable.eraseAt t.dummies (SetTable.below t.dummies j) else t.dummies)=#[]
  rw [T.dum]
  have e:SetTable.has #[] j=false:=by unfold SetTable.has;simp
  rw [e]
  rfl
 ·rw [Zee hb,<-Array.length_toList,ZbI,Zee hb',Array.length_toList,T.len]
 ·unfold Rise
  rw [ZbI]
  unfold ins
  rw [List.pairwise_append]
  refine ⟨List.Pairwise.sublist (List.take_sublist _ _) T.rise,?_,λa ha b hb2=>?_⟩
  ·refine List.pairwise_cons.mpr ⟨λb hb2=>?_,List.Pairwise.sublist (List.drop_sublist _ _) T.rise⟩
   obtain ⟨k,hk,e⟩:=List.getElem_of_mem hb2
   rw [List.getElem_drop] at e
   rw [List.length_drop] at hk
   have e':t.place[SetTable.below t.place j+k]?=some b:=by
    rw [<-Array.getElem?_toList,List.getElem?_eq_getElem (by omega),e]
   have h1:=b3 _ _ (Nat.le_add_right _ _) e'
   have h2:j≠b:=λz=>hn (z▸Zdo e')
   omega
  ·have hlt:a<j:=by
    obtain ⟨k,hk,e⟩:=List.getElem_of_mem ha
    rw [List.getElem_take] at e
    rw [List.length_take] at hk
    have e':t.place[k]?=some a:=by rw [<-Array.getElem?_toList,List.getElem?_eq_getElem (by omega),e]
    exact b2 k a (by omega) e'
   rcases List.mem_cons.mp hb2 with rfl | hb2
   ·exact hlt
   ·obtain ⟨k,hk,e⟩:=List.getElem_of_mem hb2
    rw [List.getElem_drop] at e
    rw [List.length_drop] at hk
    have e':t.place[SetTable.below t.place j+k]?=some b:=by
     rw [<-Array.getElem?_toList,List.getElem?_eq_getElem (by omega),e]
    have h1:=b3 _ _ (Nat.le_add_right _ _) e'
    omega
 ·rw [ZbI] at hx
  rcases ins_mem.mp hx with rfl | hx
  ·exact hle
  ·exact T.le x hx
 ·rw [<-Array.getElem?_toList,ZbI,Zgl hb'] at e2
  rw [Zgl hb] at e1
  by_cases c1:i<SetTable.below t.place j
  ·rw [if_pos c1] at e1 e2
   obtain ⟨m,r1,r2⟩:=T.rch i g x e1 (by rw [<-Array.getElem?_toList];exact e2)
   exact ⟨m,r1,λq hq=>pm _ (r2 q hq)⟩
  ·rw [if_neg c1] at e1 e2
   by_cases c2:i=SetTable.below t.place j
   ·rw [if_pos c2] at e1 e2
    cases e1
    cases e2
    exact ⟨n,hj,λq hq=>pm _ (hr q hq)⟩
   ·rw [if_neg c2] at e1 e2
    obtain ⟨m,r1,r2⟩:=T.rch (i-1) g x e1 (by rw [<-Array.getElem?_toList];exact e2)
    exact ⟨m,r1,λq hq=>pm _ (r2 q hq)⟩
abbrev Zi2 (es:Array (Int×Value)):List Int:=es.toList.map (·.1)
structure SOk (t:SetTable) (es:Array (Int×Value)):Prop where
 T:TOk t (Zi2 es)
 room:es.size * 5<t.mask * 3
theorem Zbx (es:Array (Int×Value)):(Zi2 es).length=es.size:=by rw [List.length_map,Array.length_toList]
theorem SOk.le {t:SetTable} {es:Array (Int×Value)} (S:SOk t es):(Zi2 es).length<=t.mask:=by
 have:=S.room
 rw [Zbx]
 omega
theorem SOk.fits {t:SetTable} {es:Array (Int×Value)} (S:SOk t es):t.fits es.size=true:=by
 have:=S.T.fits S.le
 rw [Zbx] at this
 exact this
theorem SOk.fresh (f m:Nat) (led:Bool):SOk (SetTable.fresh f m led) #[]:=⟨TOk.fresh f m led,by show 0 * 5<7 * 3;decide⟩
theorem ZfD (es:Array (Int×Value)) (p:Nat) (h:Int) (x:Value):Zi2 (SetTable.insertAt es p (h,x))=ins (Zi2 es) p h:=by
 unfold Zi2
 rw [SetTable.toList_insertAt]
 exact Zlf (·.1) es.toList p (h,x)
theorem Zef (es:Array (Int×Value)) (p:Nat) (x:Int×Value):(SetTable.insertAt es p x).size=es.size+1:=by
 rw [<-Array.length_toList,(SetTable.insertAt_perm es p x).length_eq,Array.length_toList,Array.size_push]
theorem SOk.put {t:SetTable} {es:Array (Int×Value)} (S:SOk t es) {h:Int} {n:Nat} (x:Value) (hn:(Zbe t.mask n (st0 t.mask h)).j ∉ t.place.toList) (hr:∀ q,q<n->(Zbe t.mask q (st0 t.mask h)).j∈t.place.toList) :
  TOk (t.put (Zbe t.mask n (st0 t.mask h)).j).1 (Zi2 (SetTable.insertAt es (t.put (Zbe t.mask n (st0 t.mask h)).j).2 (h,x)))/\(t.put (Zbe t.mask n (st0 t.mask h)).j).1.fits (es.size+1)=true:=by
 obtain ⟨h1,h2⟩:=S.T.put hn hr
 rw [Zod,ZfD]
 refine ⟨h2,?_⟩
 have h3:=h2.fits (by rw [Zee h1,Zbx];show es.size+1<=t.mask;have:=S.room;rcases S.T.mask with e | e | e <;> omega)
 rw [Zee h1,Zbx] at h3
 exact h3
theorem ZeZ {es:Array (Int×Value)} {od:Array Nat} (h:od.toList.Perm (List.range es.size)) (r:Nat):(od.filterMap (es[·]?))[r]?=(od[r]?).bind (es[·]?):=by
 rw [<-Array.getElem?_toList,Array.toList_filterMap,ZcW _ _ (λx hx=>?_),Array.getElem?_toList]
 have:=List.mem_range.mp (h.mem_iff.mp hx)
 rw [Array.getElem?_eq_getElem this]
 rfl
theorem Zbs {es:Array (Int×Value)} {od:Array Nat} (h:od.toList.Perm (List.range es.size)):(od.filterMap (es[·]?)).toList.Perm es.toList:=by
 rw [Array.toList_filterMap]
 exact (h.filterMap _).trans (by rw [PySem.filterMap_getElem?_range])
theorem Zjt {t:SetTable} {es:Array (Int×Value)} (T:TOk t (Zi2 es)) (hn:es.size=5/\t.mask=7\/es.size=19/\t.mask=31) :
  ∃ t2 od,t.relaid (es.map (·.1)) (SetTable.grown es.size)=some (t2,od)/\od.toList.Perm (List.range es.size)/\SOk t2 (od.filterMap (es[·]?))/\t2.led=t.led/\t2.plain=t.plain/\SetTable.sizeAbove (SetTable.grown es.size)<=128:=by
 have hsz:(es.map (·.1)).size=es.size:=Array.size_map
 have hm:∃ m,SetTable.sizeAbove (SetTable.grown es.size)-1=m/\(m=31\/m=127)/\es.size * 5<m * 3/\SetTable.sizeAbove (SetTable.grown es.size)<=128:=by
  rcases hn with ⟨e,_⟩ | ⟨e,_⟩ <;> rw [e]
  ·exact ⟨31,by decide,.inl rfl,by decide,by decide⟩
  ·exact ⟨127,by decide,.inr rfl,by decide,by decide⟩
 obtain ⟨m,e,hmm,hroom,h128⟩:=hm
 have hc:Zhl (m+1)=true:=by
  rcases hmm with rfl | rfl
  ·exact ZmG
  ·exact Zkj
 obtain ⟨t2,od,e2,L⟩:=Zih hc t.finger (t.movedTo m) t.led t.plain (es.map (·.1)) (by rw [hsz];omega)
 have hp:=L.perm
 rw [hsz] at hp
 refine ⟨t2,od,by unfold SetTable.relaid;rw [e];exact e2,hp,⟨⟨by rw [L.tm];exact .inr hmm,L.td,?_,L.rise,by rw [L.tm];exact L.le,λi h j e1 e3=>?_⟩,?_⟩,L.tl,L.tp,h128⟩
 ·rw [L.sz,hsz,Zbx]
  have:=(Zbs hp).length_eq
  rw [Array.length_toList,Array.length_toList] at this
  exact this.symm
 ·rw [L.tm]
  have e1':((od[i]?).bind (es[·]?)).map (·.1)=some h:=by
   rw [<-ZeZ hp,<-Array.getElem?_toList,<-List.getElem?_map]
   exact e1
  cases hq:od[i]? with
  | none=>rw [hq] at e1';cases e1'
  | some q=>
   rw [hq] at e1'
   exact L.rch i q j h hq e3 (by rw [Array.getElem?_map];exact e1')
 ·rw [L.tm]
  have:=(Zbs hp).length_eq
  rw [Array.length_toList,Array.length_toList] at this
  rw [this]
  exact hroom
theorem Zii {t:SetTable} {es:Array (Int×Value)} (S:SOk t es) (h76:es.size+1<=76) {t1:SetTable} {hs1:List Int} (T1:TOk t1 hs1) (hl:hs1.length=es.size+1) (hm:t1.mask=t.mask) :
  (t1.tooFull=true/\(es.size+1=5/\t1.mask=7\/es.size+1=19/\t1.mask=31))\/(t1.tooFull=false/\(es.size+1) * 5<t1.mask * 3):=by
 have hr:=S.room
 have e:t1.tooFull=decide ((es.size+1) * 5>=t1.mask * 3):=by
  unfold SetTable.tooFull
  rw [T1.fill,hl]
 rw [e]
 by_cases h:(es.size+1) * 5>=t1.mask * 3
 ·refine .inl ⟨decide_eq_true h,?_⟩
  rcases T1.mask with q | q | q
  ·left;omega
  ·right;omega
  ·omega
 ·exact .inr ⟨decide_eq_false h,by omega⟩
theorem Zij {t:SetTable} {es:Array (Int×Value)} (S:SOk t es) (h:Int) (x:Value) :
  ∃ es1 t1,layNew t es h x=(es1,t1,false,false)/\TOk t1 (Zi2 es1)/\t1.fits es1.size=true/\es1.size=es.size+1/\t1.mask=t.mask/\t1.led=t.led/\t1.plain=t.plain:=by
 obtain ⟨n0,h0,f0⟩:=S.T.empty S.le h
 rcases Zif (t:=t) (ha:=λ_=>h+1) (h:=h) S.T.rise S.T.dum (10 * SetTable.turns t.mask) (st0 t.mask h) ⟨n0,by omega,f0⟩ with ⟨n,g1,g2,g3⟩ | ⟨n,i,_,_,g3,_⟩
 ·obtain ⟨p1,p2⟩:=S.put x g2 λq hq=>by obtain ⟨i,hi,_⟩:=g3 q hq;exact Zdo hi
  have ef:t.freeSlot h=some ((Zbe t.mask n (st0 t.mask h)).j,false):=by
   unfold SetTable.freeSlot SetTable.probe
   rw [ZmH,g1]
   rfl
  have hsz:(SetTable.insertAt es (t.put (Zbe t.mask n (st0 t.mask h)).j).2 (h,x)).size=es.size+1:=Zef _ _ _
  refine ⟨_,_,?_,p1,by rw [hsz];exact p2,hsz,rfl,rfl,rfl⟩
  unfold layNew
  rw [ef]
  dsimp only
  unfold SetTable.orStandIn
  rw [hsz,if_pos p2,p2]
  rfl
 ·omega
theorem ZfE {t:SetTable} {es:Array (Int×Value)} (T:TOk t (Zi2 es)) (hn:es.size=5/\t.mask=7\/es.size=19/\t.mask=31) :
  ∃ es2 t2,relayAll t es (SetTable.grown es.size)=(es2,t2,false)/\es2.toList.Perm es.toList/\SOk t2 es2/\t2.led=t.led/\t2.plain=t.plain:=by
 obtain ⟨t2,od,e,hp,S,h1,h2,_⟩:=Zjt T hn
 refine ⟨_,t2,?_,Zbs hp,S,h1,h2⟩
 unfold relayAll
 rw [e]
 dsimp only
 have hc:coversAll od es.size=true:=by unfold coversAll;exact List.isPerm_iff.mpr hp
 rw [hc,S.fits]
 rfl
end L2
namespace L2
open PySem PySem.Spec PyProof.Rows
theorem sit_slot_next:Slot "set_iterator" "__next__" "set_iterator.__next__" := by
 refine .of (owner := "set_iterator") (n := "__next__") ?_ (by decide +kernel) (by decide +kernel) (by decide +kernel) ?_ ?_
 ·rw [typeLookup_type,builtinLookup_eq_fast];kernel_rfl
 ·first | exact .inl (by decide +kernel) | exact .inr (by decide +kernel)
 ·rw [isSubtype_type];kernel_rfl
theorem Zcq:Slot "set_iterator" "__iter__" "set_iterator.__iter__" := by
 refine .of (owner := "set_iterator") (n := "__iter__") ?_ (by decide +kernel) (by decide +kernel) (by decide +kernel) ?_ ?_
 ·rw [typeLookup_type,builtinLookup_eq_fast];kernel_rfl
 ·first | exact .inl (by decide +kernel) | exact .inr (by decide +kernel)
 ·rw [isSubtype_type];kernel_rfl
theorem Zb5:entryFor table "set_iterator.__next__" = some Builtin.«set_iterator.__next__»:=by
 first | exact entryFor_of_tree (by kernel_rfl) | exact entryFor_of_fast (by kernel_rfl)
theorem Zcr (a:Value):argsOk "set_iterator.__next__" ⟨[a],[]⟩:=by
 unfold argsOk;kernel_rfl
theorem ZdI:entryFor table "set.__iter__" = some Builtin.«frozenset.__iter__»:=by
 first | exact entryFor_alias (id' := "frozenset.__iter__") (by kernel_rfl) (by decide +kernel) (by decide +kernel) (by kernel_rfl) | exact entryFor_alias (id' := "frozenset.__iter__") (by kernel_rfl) rfl (by decide +kernel) (by kernel_rfl)
end L2
namespace L2
open PySem PySem.Spec PyProof.Rows
def ZbJ (w:World):Bool:=w.params.followText "set-order"
section
variable {P:Program} {w:World} {A:Around} {E:Value->Shared->Prop} {s:Shared}
theorem Zdp {Q:Bool->Shared->Prop} (h:Q (ZbJ w) s):wpAny (model P w) A setsByText Q E s:=by
 unfold setsByText
 exact wpAny_bind (wpAny_askSetting (wpAny_pure h))
def ZgY (P:Program) (w:World) (e:Int×Value) (n:Int):Prop:=e.1=(intKind P w).hash n/\∃ tk,e.2=Value.int n tk
def SetI (P:Program) (w:World) (o:Obj) (σ:List Int):Prop:=∃ es ep t,o.ExactSet/\o.data=.set es ep t/\Paired (ZgY P w) es.toList σ/\σ.Nodup/\SOk t es/\t.plain=true/\t.led=!ZbJ w
theorem Zkm {e:Int×Value} {n m:Int} (h:ZgY P w e n):(intKind P w).is m e.2=decide (m=n):=by
 obtain ⟨_,tk,e2⟩:=h
 rw [e2]
 exact KeyKind.is_eq_decide (intKind_is _ _ _ _) m
theorem ZdT:∀ {l:List (Int×Value)} {σ:List Int},Paired (ZgY P w) l σ->ElemsOf (intKind P w) l
 | _,_,.nil=>λe he=>by simp at he
 | _,_,.cons h t=>λe he=>by
  rcases List.mem_cons.mp he with rfl | he
  ·obtain ⟨h1,tk,h2⟩:=h
   exact ⟨⟨_,by rw [h2];exact intKind_is _ _ _ _,h1⟩,by rw [h2];rfl⟩
  ·exact ZdT t e he
theorem Zeg:∀ {l:List (Int×Value)} {σ:List Int},Paired (ZgY P w) l σ->∀ n:Int,n∈σ↔∃ e∈l,(intKind P w).is n e.2=true
 | _,_,.nil,n=>by simp
 | _,_,.cons (a:=a) (b:=b) h t,n=>by
  rw [List.mem_cons,Zeg t n]
  constructor
  ·rintro (rfl | ⟨e,he,hq⟩)
   ·exact ⟨a,List.mem_cons_self,by rw [Zkm h];exact decide_eq_true rfl⟩
   ·exact ⟨e,List.mem_cons_of_mem _ he,hq⟩
  ·rintro ⟨e,he,hq⟩
   rcases List.mem_cons.mp he with rfl | he
   ·rw [Zkm h] at hq
    exact .inl (of_decide_eq_true hq)
   ·exact .inr ⟨e,he,hq⟩
theorem Zdq {l l':List (Int×Value)} (p:l'.Perm l):∀ {σ:List Int},Paired (ZgY P w) l σ->∃ σ',Paired (ZgY P w) l' σ'/\σ'.Perm σ:=by
 induction p with
 | nil=>intro σ h;cases h;exact ⟨[],.nil,.refl _⟩
 | cons x _ ih=>
  intro σ h
  cases h with
  | cons h t=>
   obtain ⟨σ',h1,h2⟩:=ih t
   exact ⟨_,.cons h h1,h2.cons _⟩
 | swap x y l=>
  intro σ h
  cases h with
  | cons h t=>
   cases t with
   | cons h' t=>exact ⟨_,.cons h' (.cons h t),.swap _ _ _⟩
 | trans _ _ ih1 ih2=>
  intro σ h
  obtain ⟨σ1,h1,p1⟩:=ih2 h
  obtain ⟨σ2,h2,p2⟩:=ih1 h1
  exact ⟨σ2,h2,p2.trans p1⟩
theorem Zgm:∀ {l k:List (Int×Value)} {σ τ:List Int},Paired (ZgY P w) l σ->Paired (ZgY P w) k τ->Paired (ZgY P w) (l++k) (σ++τ)
 | _,_,_,_,.nil,h=>h
 | _,_,_,_,.cons h t,k=>.cons h (Zgm t k)
theorem Ze0 {h:Heap} {a:Addr} {o:Obj} {es:Array (Int×Value)} {ep:Nat} {t:SetTable} (ho:h.get? a=some o) (hd:o.data=.set es ep t) (es':Array (Int×Value)) (t':SetTable) :
  (h.update a (Obj.putSet es' t')).get? a=some { o with data:=.set es' (ep+1) t' }:=by
 have:=Heap.get?_update_self (Obj.putSet es' t') ho (by rw [putSet_of es' t' hd];rfl)
 rw [putSet_of es' t' hd] at this
 exact this
theorem Zlg {a:Addr} {o:Obj} {σ:List Int} {n:Int} {tk:Tok} {Q:Bool->Shared->Prop} (ho:s.heap.get? a=some o) (hS:SetI P w o σ) (h76:σ.length+1<=76)
  (h:∀ (b:Bool) (h':Heap) (o':Obj) (σ':List Int),Heap.SameBut a s.heap h'->h'.get? a=some o'->SetI P w o' σ'->σ'.Perm (if n∈σ then σ else σ++[n])->Q b { s with heap:=h' }) :
  wpAny (model P w) A (setAddHashed a (.int n tk) ((intKind P w).hash n)) Q E s:=by
 obtain ⟨es,ep,t,hx,hd,hE,hnd,S,hpl,hled⟩:=id hS
 have hel:=ZdT hE
 have hlen:=Paired.length hE
 rw [Array.length_toList] at hlen
 have hf:=S.fits
 have h4096:scanBound=4096:=rfl
 unfold setAddHashed setAddHashedIn
 refine wpAny_holding (wpAny_bind (wpAny_setState_of ho hd hf ?_))
 dsimp only
 rw [byScan_of (knd:=intKind P w) (x:=.int n tk) rfl (by omega) hel,if_pos rfl]
 unfold setAddByScan
 refine wpAny_bind (wpAny_bind (wpAny_rule (wpAny_bind (wpAny_setScan_of (intKind_is P w n tk) ho hd hf hel ?_))))
 cases hr:List.findIdx? (λe=>(intKind P w).is n e.2) es.toList with
 | some j=>
  obtain ⟨hj,hpj,_⟩:=List.findIdx?_eq_some_iff_getElem.mp hr
  have hin:n∈σ:=(Zeg hE n).mpr ⟨_,List.getElem_mem hj,hpj⟩
  refine wpAny_pure (wpAny_pure ?_)
  exact h false s.heap o σ (Heap.SameBut.refl a s.heap) ho hS (by rw [if_pos hin])
 | none=>
  have hnot:n ∉ σ:=λhin=>by
   obtain ⟨e,he,hq⟩:=(Zeg hE n).mp hin
   have:=List.findIdx?_eq_none_iff.mp hr e he
   rw [hq] at this;cases this
  obtain ⟨es1,t1,eL,T1,hf1,hz1,hm1,hl1,hp1⟩:=Zij S ((intKind P w).hash n) (.int n tk)
  have hperm:=layNew_perm t es ((intKind P w).hash n) (.int n tk)
  dsimp only
  rw [eL] at hperm ⊢
  dsimp only at hperm ⊢
  rw [Array.toList_push] at hperm
  have hE1:Paired (ZgY P w) (es.toList++[((intKind P w).hash n,Value.int n tk)]) (σ++[n]):=Zgm hE (.cons ⟨rfl,tk,rfl⟩ .nil)
  obtain ⟨σ1,hE2,hp2⟩:=Zdq hperm hE1
  have hnd1:(σ++[n]).Nodup:=List.nodup_append.mpr ⟨hnd,by simp,λa ha b hb=>by
   rw [List.mem_singleton] at hb
   subst hb
   intro z
   exact hnot (z▸ha)⟩
  refine wpAny_bind (wpAny_pure ?_)
  rw [hp1,hpl,if_pos rfl]
  refine wpAny_bind ?_
  rw [hashByValue_scannable 8 (x:=.int n tk) rfl]
  refine wpAny_pure ?_
  dsimp only [plainKind]
  rw [if_pos rfl]
  have hz:es1.size<=sizeLine:=by rw [sizeLine_eq];omega
  refine wpAny_bind (wpAny_storeSet_of ho hd ?_ hz)
  have ho1:=Ze0 ho hd es1 t1
  have sb1:=Heap.SameBut.update s.heap a (Obj.putSet es1 t1)
  rcases Zii S (by omega) T1 (by rw [Zbx];exact hz1) hm1 with ⟨hfull,hwhen⟩ | ⟨hfull,hroom⟩
  ·rw [hfull,if_pos (show (!false && true)=true from rfl)]
   rw [<-hz1] at hwhen
   obtain ⟨es2,t2,eR,hp3,S2,hl2,hpl2⟩:=ZfE T1 hwhen
   rw [eR]
   obtain ⟨σ2,hE3,hp4⟩:=Zdq hp3 hE2
   have hz2:es2.size=es1.size:=by
    have:=hp3.length_eq
    rw [Array.length_toList,Array.length_toList] at this
    exact this
   refine wpAny_bind (wpAny_pure ?_)
   refine wpAny_bind (wpAny_storeSet_of ho1 rfl ?_ (by rw [hz2];exact hz))
   refine wpAny_pure (wpAny_pure (h true _ _ σ2 (sb1.trans (Heap.SameBut.update _ a _)) (Ze0 ho1 rfl es2 t2) ⟨es2,_,t2,hx,rfl,hE3,(hp4.trans hp2).nodup_iff.mpr hnd1,S2,by rw [hpl2,hp1,hpl],by rw [hl2,hl1,hled]⟩ ?_))
   rw [if_neg hnot]
   exact hp4.trans hp2
  ·rw [hfull,if_neg (show ¬ ((!false && false)=true) from Bool.false_ne_true)]
   refine wpAny_pure (wpAny_pure (h true _ _ σ1 sb1 ho1 ⟨es1,_,t1,hx,rfl,hE2,hp2.nodup_iff.mpr hnd1,⟨T1,by rw [hz1];exact hroom⟩,by rw [hp1,hpl],by rw [hl1,hled]⟩ ?_))
   rw [if_neg hnot]
   exact hp2
end
end L2
namespace L2
open PySem PySem.Spec PyProof.Rows
def ZaV (w:World):Obj:={ cls:=.type "set", dict:=none,data:=.set #[] 0 (.fresh 0 0 (!ZbJ w)) }
theorem Zju (P:Program) (w:World):SetI P w (ZaV w) []:=⟨#[],0,_,⟨rfl,rfl,rfl⟩,rfl,.nil,List.nodup_nil,SOk.fresh 0 0 _,rfl,rfl⟩
section
variable {P:Program} {w:World} {A:Around} {E:Value->Shared->Prop} {s:Shared}
theorem Zjv (a:Value) {Q1:Value->Shared->Prop} (h:Q1 (.ref s.heap.objs.size) { s with heap:=s.heap.push (ZaV w) }) :
  codeAny (model P w) A (.call (.builtin "set.__new__") ⟨[.type "set", a],[]⟩) (wants Q1 E) s:=by
 apply codeAny_of_tree
 show wpAny _ A.in1 (checkBuiltinCall "set.__new__" ⟨[.type "set", a],[]⟩ >>= λ_=>again (.builtin "set.__new__" ⟨[.type "set", a],[]⟩)) _ _ s
 apply wpAny_bind
 apply wpAny_of_eq (F.newCall_set_1 a)
 refine wpAny_pure ⟨plainId_quiet F.plain_set_new _,?_⟩
 apply codeAny_builtin F.entry_set_new
 rw [Around.under_plainId F.plain_set_new _]
 unfold Builtin.«set.__new__» Builtin.Frozenset.newClass
 have hsb:=sub_set_self
 obtain ⟨hp,g,d,tk,os⟩:=s
 dsimp only
 wp_walk
 apply wpAny_askSetting
 apply wpAny_pure
 dsimp only
 simp only [newObj]
 apply wpAny_bind
 apply wpAny_alloc
 apply wpAny_pure
 apply wpAny_pure
 exact h
theorem Zjw {I:Addr} {fp wr:List Addr} {G:Array GenState->Array GenState->Prop} {n:Nat} {Pv:Nat->Value->Prop} {St:Nat->Shared->Prop} {R:Result->Shared->Prop}
  (W:WalksS P w A.in1 I fp wr G n Pv St) (S:Addr) (hSf:S ∉ fp) (J:Nat->Obj->Prop) (Kp:Heap->Prop) (hK:∀ h h':Heap,Kp h->(∀ b o,b ∉ S::wr->h.get? b=some o->h'.get? b=some o)->Kp h')
  (hadd:∀ (i:Nat) (v:Value) (s1:Shared) (o:Obj) (Q:Bool->Shared->Prop) (E1:Value->Shared->Prop),i<n->Pv i v->Kp s1.heap->s1.heap.get? S=some o->J i o ->
   (∀ (b:Bool) (h':Heap) (tk:Nat) (o':Obj),s1.toks<=tk->Heap.SameBut S s1.heap h'->h'.get? S=some o'->J (i+1) o'->Q b { s1 with heap:=h',toks:=tk })->wpAny (model P w) A.in1 (setAdd S v) Q E1 s1) :
  ∀ (k i:Nat) (s:Shared) (o:Obj),n-i=k->i<=n->St i s->Kp s.heap->s.heap.get? S=some o->J i o ->
   (∀ (s':Shared) (o':Obj),Moved (S::wr) G s s'->s'.heap.get? S=some o'->J n o'->R (.ok (.ret .none)) s') ->
   codeAny (model P w) A (.builtin "set.update.loop" ⟨[.ref S,.ref I],[]⟩) R s:=by
 have hSw:S ∉ wr:=λz=>hSf (W.sub _ z)
 have up:∀ b∈wr,b∈S::wr:=λb z=>List.mem_cons_of_mem _ z
 intro k
 induction k with
 | zero=>
  intro i s o hk hi st kp ho hj hR
  have e:i=n:=by omega
  subst e
  apply codeAny_builtin PyProof.Rows.F.entry_set_update_loop
  rw [Around.under_plainId PyProof.Rows.F.plain_set_update_loop _]
  apply wpAny_bind
  refine W.done s _ _ st λs1 hm=>?_
  apply wpAny_pure
  exact hR s1 o (hm.mono up) (hm.heap S _ hSw ho) hj
 | succ k ih=>
  intro i s o hk hi st kp ho hj hR
  have hlt:i<n:=by omega
  apply codeAny_builtin PyProof.Rows.F.entry_set_update_loop
  rw [Around.under_plainId PyProof.Rows.F.plain_set_update_loop _]
  apply wpAny_bind
  refine W.item i s _ _ hlt st λv s1 hv st1 hm=>?_
  have ho1:=hm.heap S _ hSw ho
  have kp1:Kp s1.heap:=hK _ _ kp λb o' hb e=>hm.heap b o' (λz=>hb (up _ z)) e
  apply wpAny_bind
  apply wpAny_holding
  refine hadd i v s1 o _ _ hlt hv kp1 ho1 hj λb h' tk o' htk sb ho' hj'=>?_
  refine wpAny_pure ⟨plainId_quiet PyProof.Rows.F.plain_set_update_loop _,ih (i+1) _ o' (by omega) hlt (W.frame _ s1 _ _ st1 htk λb hb o2 e=>?_) (hK _ _ kp1 λb o2 hb e=>?_) ho' hj' λs2 o2 hm2 ho2 hj2=>?_⟩
  ·rw [sb.2 b (λz:b=S=>hSf (z▸hb))];exact e
  ·show h'.get? b=some o2
   rw [sb.2 b (λz:b=S=>hb (by rw [z];exact List.mem_cons_self))];exact e
  ·refine hR s2 o2 (Moved.trans W.gtrans ((hm.mono up).then_heap htk λb o3 hb e=>?_) hm2) ho2 hj2
   rw [sb.2 b (λz:b=S=>hb (by rw [z];exact List.mem_cons_self))];exact e
theorem Zik {l:Addr} {items:Array Value} {Q:Value->Shared->Prop} (hh:A.handled=none) (hl:s.heap.IsList l items) (J:Nat->Obj->Prop) (Kp:Heap->Prop)
  (h0:J 0 (ZaV w)) (hK0:∀ h':Heap,(∀ b o,b<s.heap.objs.size->s.heap.get? b=some o->h'.get? b=some o)->Kp h')
  (hadd:∀ (i:Nat) (v:Value) (s1:Shared) (o:Obj) (Q:Bool->Shared->Prop) (E1:Value->Shared->Prop),i<items.size->items[i]?=some v->Kp s1.heap->s1.heap.get? s.heap.objs.size=some o->J i o ->
   (∀ (b:Bool) (h':Heap) (tk:Nat) (o':Obj),s1.toks<=tk->Heap.SameBut s.heap.objs.size s1.heap h'->h'.get? s.heap.objs.size=some o'->J (i+1) o'->Q b { s1 with heap:=h',toks:=tk })->wpAny (model P w) A.in1.in1.in1 (setAdd s.heap.objs.size v) Q E1 s1)
  (h:∀ (h':Heap) (tk:Nat) (o':Obj),h'.get? s.heap.objs.size=some o'->J items.size o'->(∀ b o,b<s.heap.objs.size->s.heap.get? b=some o->h'.get? b=some o)->Q (.ref s.heap.objs.size) { s with heap:=h',toks:=tk }) :
  wpAny (model P w) A (call (.type "set") [.ref l]) Q E s:=by
 obtain ⟨c,tl,hmro⟩:=F.called_set.mro
 have hmade:=F.called_set.made
 have hsub:=F.called_set.sub
 apply wpAny_call
 apply codeAny_of_tree
 show wpAny _ _ (callAny (.type "set") _) _ _ _
 refine wpAny_pure ⟨Code.quiet_builtin _ (by decide +kernel),?_⟩
 apply codeAny_builtin F.entry_type_call
 rw [Around.under_plain (weight_type_call_type "set" [.ref l] []) rfl]
 have h1:=F.called_set.notType
 have h2:=F.called_set.canCreate
 have hct:=F.typeCall_set_1 (.ref l)
 repeat (any_goals (first | assumption | wp_step))
 refine codeAny_mono (Zjv (.ref l) (E:=E) (Q1:=λobj s1=>obj=.ref s.heap.objs.size/\s1={ s with heap:=s.heap.push (ZaV w) }) ⟨rfl,rfl⟩) λr s1 hr=>?_
 cases r with
 | error e=>exact hr
 | ok fl=>
  cases fl with
  | ret obj=>
   obtain ⟨rfl,rfl⟩:=hr
   have hS:(s.heap.push (ZaV w)).get? s.heap.objs.size=some (ZaV w):=Heap.get?_push_size _ rfl
   have hT:Shared.TypeIs { s with heap:=s.heap.push (ZaV w) } (.ref s.heap.objs.size) "set" := ⟨_,hS,rfl⟩
   have hli:=F.called_set.init.lookup
   have hbi:=F.called_set.init.bind (.ref s.heap.objs.size)
   repeat (any_goals (first | assumption | wp_step))
   refine codeAny_mono (codeAny_call_builtin (R:=wants (λr s2=>r=.none/\∃ (h':Heap) (tk:Nat) (o':Obj),s2={ s with heap:=h',toks:=tk }/\h'.get? s.heap.objs.size=some o'/\J items.size o' /\
     (∀ b o,b<s.heap.objs.size->s.heap.get? b=some o->h'.get? b=some o)) E) F.called_set.init.plain F.entry_set_init (check_set_init_1 hT ?_)) λr2 s2 hr2=>?_
   ·obtain ⟨ol,hol,hcl,nl,hdl⟩:=hl
    obtain ⟨ocls,odict,odata,oslots⟩:=ol
    simp only at hcl hdl
    subst hcl;subst hdl
    have hol':(s.heap.push (ZaV w)).get? l=some { cls:=.type "list", dict:=odict,data:=.seq items nl,slots:=oslots }:=Heap.get?_push_of_some _ hol
    have hsls:=F.sub_list_set
    have hslf:=F.sub_list_frozenset
    have hne:(Value.type "list" == Value.type "dict")=false:=by decide
    have hl1:(s.heap.push (ZaV w)).IsList l items:=⟨_,hol',rfl,nl,rfl⟩
    have hS':(s.heap.push (ZaV w)).get? s.heap.objs.size=some { cls:=.type "set", dict:=none,data:=.set #[] 0 (.fresh 0 0 (!ZbJ w)) }:=hS
    unfold Builtin.«set.__init__» noKeywords Builtin.Frozenset.updateFrom
    generalize hPI:pyIter=PI
    wp_walk
    subst hPI
    apply wpAny_pyIter_list hl1
    apply wpAny_bind
    apply wpAny_runValue
    have hlS:l<s.heap.objs.size:=Heap.lt_size hol
    have hh3:A.in1.in1.in1.handled=none:=by simp [hh]
    have hz:(s.heap.push (ZaV w)).objs.size=s.heap.objs.size+1:=Heap.size_push ..
    have hneI:l≠(s.heap.push (ZaV w)).objs.size:=by rw [hz];exact Nat.ne_of_lt (Nat.lt_succ_of_lt hlS)
    have hSf:s.heap.objs.size ∉ [(s.heap.push (ZaV w)).objs.size,l]:=by
     rw [hz]
     intro z
     rcases List.mem_cons.mp z with z | z
     ·exact Nat.ne_of_lt (Nat.lt_succ_self _) z
     ·exact Nat.ne_of_gt hlS (List.mem_singleton.mp z)
    have kold:∀ b o,b<s.heap.objs.size->s.heap.get? b=some o->((s.heap.push (ZaV w)).push { cls:=.type "list_iterator", data:=.fields #[.ref l,.int 0 0] }).get? b=some o:=
     λb o _ e=>Heap.get?_push_of_some _ (Heap.get?_push_of_some _ e)
    refine Zjw ((Walks.list hh3 _ l hneI items).toS) s.heap.objs.size hSf J (λh'=>∀ b o,b<s.heap.objs.size->s.heap.get? b=some o->h'.get? b=some o) ?_ ?_ (items.size-0) 0 _ (ZaV w) (by omega) (Nat.zero_le _)
     ⟨⟨_,Heap.get?_push_size _ rfl,rfl,rfl⟩,(hl1.push _)⟩ kold (Heap.get?_push_of_some _ hS) h0 ?_
    ·intro ha hb hab hst b o hlt e
     refine hst b o ?_ (hab b o hlt e)
     intro z
     rcases List.mem_cons.mp z with z | z
     ·exact Nat.ne_of_lt hlt z
     ·exact Nat.ne_of_lt (Nat.lt_succ_of_lt hlt) ((List.mem_singleton.mp z).trans hz)
    ·intro i v s1 o Q1 E1 hi hv kp ho hj hq
     exact hadd i v s1 o Q1 E1 hi hv (hK0 _ kp) ho hj hq
    ·intro s' o' hm ho' hj'
     obtain ⟨h',g',d',tk',os'⟩:=s'
     have eg:g'=s.gens:=hm.gens
     have ed:d'=s.drawn:=hm.drawn
     have eo:os'=s.os:=hm.os
     subst eg;subst ed;subst eo
     apply wpAny_pure
     refine wpAny_pure ⟨rfl,h',tk',o',rfl,ho',hj',λb o hb e=>?_⟩
     refine hm.heap b o ?_ (Heap.get?_push_of_some _ (Heap.get?_push_of_some _ e))
     intro z
     rcases List.mem_cons.mp z with z | z
     ·exact Nat.ne_of_lt hb z
     ·exact Nat.ne_of_lt (Nat.lt_succ_of_lt hb) ((List.mem_singleton.mp z).trans hz)
   ·cases r2 with
    | error e=>exact hr2
    | ok fl2=>
     cases fl2 with
     | ret r=>
      obtain ⟨rfl,h',tk,o',rfl,ho',hj',hk'⟩:=hr2
      repeat (any_goals (first | assumption | wp_step))
      exact h _ _ _ ho' hj' hk'
     | _=>exact hr2.elim
  | _=>exact hr.elim
end
end L2
namespace L2
open PySem PySem.Spec PyProof.Rows
theorem Zil {α:Type} (next:Nat->Nat):∀ (fuel k:Nat) (left:List α) (out:Array α),left.length=fuel->(pickOrder.go next fuel k left out).toList.Perm (out.toList++left)
 | 0,k,left,out,h=>by
  have:left=[]:=List.length_eq_zero_iff.mp h
  subst this
  unfold pickOrder.go
  simp
 | fuel+1,k,left,out,h=>by
  have hlt:next k % left.length<left.length:=Nat.mod_lt _ (by omega)
  unfold pickOrder.go
  rw [List.getElem?_eq_getElem hlt]
  dsimp only
  refine (Zil next fuel (k+1) _ _ (by rw [List.length_eraseIdx,if_pos hlt];omega)).trans ?_
  rw [Array.toList_push]
  exact Zc4 left out.toList _ _ (List.getElem?_eq_getElem hlt)
theorem Zim {α:Type} (next:Nat->Nat) (xs:Array α):(pickOrder next xs).toList.Perm xs.toList:=by
 unfold pickOrder
 have:=Zil next xs.size 0 xs.toList #[] (by simp)
 simpa using this
def Zcs (t:SetTable):Nat->Nat
 | 0=>0
 | i+1=>t.place.getD i 0+1
theorem ZgZ {t:SetTable} (hr:Rise t.place) {i:Nat} (hi:i<=t.place.size):SetTable.below t.place (Zcs t i)=i:=by
 obtain ⟨b1,b2,b3⟩:=ZcO (j:=Zcs t i) hr
 have lo:∀ q a,q<i->t.place[q]?=some a->a<Zcs t i:=λq a hq ha=>by
  cases i with
  | zero=>omega
  | succ i=>
   have hi':i<t.place.size:=by omega
   have e:t.place.getD i 0=t.place[i]:=by rw [Array.getD_eq_getD_getElem?,Array.getElem?_eq_getElem hi'];rfl
   show a<t.place.getD i 0+1
   rw [e]
   by_cases hq':q=i
   ·subst hq'
    rw [Array.getElem?_eq_getElem hi'] at ha
    cases ha
    exact Nat.lt_succ_self _
   ·have:=hr.lt (show q<i by omega) ha (Array.getElem?_eq_getElem hi')
    omega
 have hi2:∀ q a,i<=q->t.place[q]?=some a->Zcs t i<=a:=λq a hq ha=>by
  cases i with
  | zero=>exact Nat.zero_le _
  | succ i=>
   have hi':i<t.place.size:=by omega
   have e:t.place.getD i 0=t.place[i]:=by rw [Array.getD_eq_getD_getElem?,Array.getElem?_eq_getElem hi'];rfl
   show t.place.getD i 0+1<=a
   rw [e]
   exact hr.lt (show i<q by omega) (Array.getElem?_eq_getElem hi') ha
 rcases Nat.lt_trichotomy (SetTable.below t.place (Zcs t i)) i with z | z | z
 ·have hs:SetTable.below t.place (Zcs t i)<t.place.size:=by omega
  have h1:=lo _ _ z (Array.getElem?_eq_getElem hs)
  have h2:=b3 _ _ (Nat.le_refl _) (Array.getElem?_eq_getElem hs)
  omega
 ·exact z
 ·have hs:i<t.place.size:=by omega
  have h1:=hi2 _ _ (Nat.le_refl _) (Array.getElem?_eq_getElem hs)
  have h2:=b2 _ _ z (Array.getElem?_eq_getElem hs)
  omega
section
variable {P:Program} {w:World} {A:Around} {E:Value->Shared->Prop} {s:Shared}
def SAt (w:World) (h:Heap) (a:Addr) (es:Array (Int×Value)) (ep:Nat) (t:SetTable):Prop:=
 (∃ o,h.get? a=some o/\o.ExactSet/\o.data=.set es ep t)/\SOk t es/\t.plain=true/\t.led=!ZbJ w
def Zbq (w:World) (a:Addr) (es:Array (Int×Value)) (ep:Nat):List (Int×Value):=if ZbJ w then (pickOrder (w.params.setOrder a ep) es).toList else es.toList
theorem Zbj (a:Addr) (es:Array (Int×Value)) (ep:Nat):(Zbq w a es ep).Perm es.toList:=by
 unfold Zbq
 split
 ·exact Zim _ _
 ·exact .refl _
def ZcY (w:World) (t:SetTable) (i:Nat):Nat:=if ZbJ w then 0 else Zcs t i
def IsSetIter (w:World) (h:Heap) (it a:Addr) (t:SetTable) (i n ep:Nat):Prop:=
 ∃ o,h.get? it=some o/\o.cls=.type "set_iterator" /\ o.data=.fields #[.int (ZcY w t i) 0,.int i 0,.ref a,.int n 0,.int ep 0]
theorem IsSetIter.typeIs {it a:Addr} {t:SetTable} {i n ep:Nat} (h:IsSetIter w s.heap it a t i n ep):s.TypeIs (.ref it) "set_iterator" := let ⟨o,h1,h2,_⟩:=h;⟨o,h1,h2⟩
theorem SAt.typeIs {a:Addr} {es:Array (Int×Value)} {ep:Nat} {t:SetTable} (h:SAt w s.heap a es ep t):s.TypeIs (.ref a) "set" := let ⟨⟨o,h1,h2,_⟩,_⟩:=h;⟨o,h1,h2.1⟩
theorem Zg0 {a:Addr} {es:Array (Int×Value)} {ep:Nat} {t:SetTable} {Q:Array (Int×Value)->Shared->Prop} (h:SAt w s.heap a es ep t) (hq:∀ r:Array (Int×Value),r.toList=Zbq w a es ep->Q r s) :
  wpAny (model P w) A (setWalk a) Q E s:=by
 obtain ⟨⟨o,ho,hx,hd⟩,S,hpl,hled⟩:=h
 unfold setWalk
 apply wpAny_bind
 apply wpAny_setState_of ho hd S.fits
 dsimp only
 apply wpAny_bind
 apply Zdp
 unfold Zbq at hq
 cases hb:ZbJ w with
 | true=>
  rw [hb] at hq
  rw [if_pos rfl]
  apply wpAny_bind
  apply wpAny_askSetting
  exact wpAny_pure (hq _ rfl)
 | false=>
  rw [hb] at hq hled
  rw [if_neg Bool.false_ne_true]
  have e1:(!t.plain && decide (es.size > 1))=false:=by rw [hpl];rfl
  show wpAny _ _ (if (!t.plain && decide (es.size > 1))=true then _ else _) _ _ s
  rw [e1,if_neg Bool.false_ne_true]
  apply wpAny_bind
  show wpAny _ _ (if (!t.led && decide (es.size > 1))=true then _ else _) _ _ s
  have e2:(!t.led && decide (es.size > 1))=false:=by rw [hled];rfl
  rw [e2,if_neg Bool.false_ne_true]
  apply wpAny_pure
  exact wpAny_pure (hq es rfl)
theorem ZdU {a:Addr} {es:Array (Int×Value)} {ep i:Nat} {t:SetTable} {Q:Option (Value×Nat)->Shared->Prop} (h:SAt w s.heap a es ep t) (hi:i<=es.size)
  (hq:Q (((Zbq w a es ep)[i]?).map λe=>(e.2,ZcY w t (i+1))) s):wpAny (model P w) A (setNext a (ZcY w t i) i ep) Q E s:=by
 obtain ⟨⟨o,ho,hx,hd⟩,S,hpl,hled⟩:=id h
 have hlen:t.place.size=es.size:=by rw [S.T.len,Zbx]
 unfold setNext
 apply wpAny_bind
 apply wpAny_setState_of ho hd S.fits
 dsimp only
 apply wpAny_bind
 apply Zdp
 cases hb:ZbJ w with
 | true=>
  rw [if_pos rfl,if_neg (by simp)]
  apply wpAny_bind
  refine Zg0 h λr hr=>?_
  refine wpAny_pure ?_
  have e0:∀ k,ZcY w t k=0:=λk=>by unfold ZcY;rw [hb];rfl
  rw [e0] at hq ⊢
  rw [<-Array.getElem?_toList,hr]
  exact hq
 | false=>
  rw [hb] at hled
  rw [if_neg Bool.false_ne_true]
  have e1:(!t.plain && decide (es.size > 1))=false:=by rw [hpl];rfl
  show wpAny _ _ (if (!t.plain && decide (es.size > 1))=true then _ else _) _ _ s
  rw [e1,if_neg Bool.false_ne_true]
  apply wpAny_bind
  show wpAny _ _ (if (!t.led && !es.isEmpty)=true then _ else _) _ _ s
  have e2:(!t.led && !es.isEmpty)=false:=by rw [hled];rfl
  rw [e2,if_neg Bool.false_ne_true]
  apply wpAny_pure
  have e3:∀ k,ZcY w t k=Zcs t k:=λk=>by unfold ZcY;rw [hb];rfl
  rw [e3] at hq ⊢
  rw [ZgZ S.T.rise (by omega)]
  have e4:Zbq w a es ep=es.toList:=by unfold Zbq;rw [hb];rfl
  rw [e4,Array.getElem?_toList] at hq
  by_cases hlt:i<es.size
  ·rw [Array.getElem?_eq_getElem hlt] at hq ⊢
   have hp:i<t.place.size:=by omega
   rw [Array.getElem?_eq_getElem hp]
   have e5:Zcs t (i+1)=t.place[i]+1:=by
    show t.place.getD i 0+1=_
    rw [Array.getD_eq_getD_getElem?,Array.getElem?_eq_getElem hp]
    rfl
   rw [e5] at hq
   exact wpAny_pure hq
  ·rw [Array.getElem?_eq_none (by omega)] at hq ⊢
   exact wpAny_pure hq
theorem SAt.ext {h h':Heap} {a:Addr} {es:Array (Int×Value)} {ep:Nat} {t:SetTable} (x:SAt w h a es ep t) (k:∀ o,h.get? a=some o->h'.get? a=some o):SAt w h' a es ep t:=
 let ⟨⟨o,h1,h2⟩,r⟩:=x;⟨⟨o,k _ h1,h2⟩,r⟩
theorem IsSetIter.ext {h h':Heap} {it a:Addr} {t:SetTable} {i n ep:Nat} (x:IsSetIter w h it a t i n ep) (k:∀ o,h.get? it=some o->h'.get? it=some o):IsSetIter w h' it a t i n ep:=
 let ⟨o,h1,h2⟩:=x;⟨o,k _ h1,h2⟩
theorem ZfF {it a:Addr} {es:Array (Int×Value)} {ep i:Nat} {t:SetTable} {e:Int×Value} {Q:Option Value->Shared->Prop} (hit:IsSetIter w s.heap it a t i es.size ep) (hs:SAt w s.heap a es ep t)
  (he:(Zbq w a es ep)[i]?=some e) (hne:a≠it) (hq:∀ h':Heap,IsSetIter w h' it a t (i+1) es.size ep->Heap.SameBut it s.heap h'->Q (some e.2) { s with heap:=h' }) :
  wpAny (model P w) A (pyNext (.ref it)) Q E s:=by
 obtain ⟨o,ho,hc,hd⟩:=id hit
 obtain ⟨⟨oa,hoa,hxa,hda⟩,S,hpl,hled⟩:=id hs
 have hwl:(Zbq w a es ep).length=es.size:=by rw [(Zbj a es ep).length_eq,Array.length_toList]
 have hi:i<es.size:=by
  have:=(List.getElem?_eq_some_iff.mp he).1
  omega
 unfold pyNext
 apply wpAny_bind
 apply wpAny_attempt
 refine wpAny_callSpecial?_slot (name:=Str.ofString "__next__") hit.typeIs sit_slot_next (wpAny_call_entry sit_slot_next hit.typeIs Zb5 ?_ (Zcr _))
 unfold Builtin.«set_iterator.__next__»
 apply wpAny_bind
 apply wpAny_pure
 apply wpAny_bind
 apply wpAny_fieldsOf ho hd
 dsimp only
 apply wpAny_bind
 apply wpAny_setEntries_of hoa hda S.fits
 rw [if_neg (by simp)]
 apply wpAny_bind
 have hn:=λE1=>ZdU (P:=P) (A:=A.in1) (E:=E1) (s:=s) (i:=i) hs (Nat.le_of_lt hi) (Q:=λr s1=>r=some (e.2,ZcY w t (i+1))/\s1=s) ⟨by rw [he];rfl,rfl⟩
 refine wpAny_mono (by simpa using hn _) (λr s1 hr=>?_) λ_ _ x=>x
 obtain ⟨rfl,rfl⟩:=hr
 dsimp only
 apply wpAny_bind
 apply wpAny_setField ho hd (by simp)
 have ho2:=Heap.get?_update_self (Obj.mapFields (·.setIfInBounds 0 (rawInt ((ZcY w t (i+1):Nat):Int)))) ho (Obj.isFreed_of_fields (Obj.data_mapFields hd _))
 have hd2:=Obj.data_mapFields hd (·.setIfInBounds 0 (rawInt ((ZcY w t (i+1):Nat):Int)))
 apply wpAny_bind
 apply wpAny_setField ho2 hd2 (by simp)
 refine wpAny_pure ⟨_,rfl,wpAny_pure (hq _ ⟨_,Heap.get?_update_self _ ho2 (Obj.isFreed_of_fields (Obj.data_mapFields hd2 _)),?_,?_⟩ ((Heap.SameBut.update ..).trans (Heap.SameBut.update ..)))⟩
 ·rw [Obj.cls_mapFields,Obj.cls_mapFields];exact hc
 ·rw [Obj.data_mapFields hd2];simp [rawInt]
theorem Zg1 {it a:Addr} {es:Array (Int×Value)} {ep:Nat} {t:SetTable} {Q:Option Value->Shared->Prop} (hh:A.handled=none) (hit:IsSetIter w s.heap it a t es.size es.size ep) (hs:SAt w s.heap a es ep t)
  (hq:∀ h':Heap,Heap.ExtBut it s.heap h'->Q none { s with heap:=h' }):wpAny (model P w) A (pyNext (.ref it)) Q E s:=by
 obtain ⟨o,ho,hc,hd⟩:=id hit
 obtain ⟨⟨oa,hoa,hxa,hda⟩,S,hpl,hled⟩:=id hs
 have hwl:(Zbq w a es ep).length=es.size:=by rw [(Zbj a es ep).length_eq,Array.length_toList]
 unfold pyNext
 apply wpAny_bind
 apply wpAny_attempt
 refine wpAny_callSpecial?_slot (name:=Str.ofString "__next__") hit.typeIs sit_slot_next (wpAny_call_entry sit_slot_next hit.typeIs Zb5 ?_ (Zcr _))
 unfold Builtin.«set_iterator.__next__»
 apply wpAny_bind
 apply wpAny_pure
 apply wpAny_bind
 apply wpAny_fieldsOf ho hd
 dsimp only
 apply wpAny_bind
 apply wpAny_setEntries_of hoa hda S.fits
 rw [if_neg (by simp)]
 apply wpAny_bind
 have hn:=λE1=>ZdU (P:=P) (A:=A.in1) (E:=E1) (s:=s) (i:=es.size) hs (Nat.le_refl _) (Q:=λr s1=>r=none/\s1=s) ⟨by rw [List.getElem?_eq_none (by omega)];rfl,rfl⟩
 refine wpAny_mono (by simpa using hn _) (λr s1 hr=>?_) λ_ _ x=>x
 obtain ⟨rfl,rfl⟩:=hr
 dsimp only
 apply wpAny_bind
 apply wpAny_setField ho hd (by simp)
 apply wpAny_bind
 simp only [newExc,newTuple]
 apply wpAny_bind
 refine wpAny_newObj_type ?_ (by size_fits)
 refine wpAny_bind (m:=firstArgMember _ _) (wpAny_of_eq (a:=Value.none) (by first | (simp only [firstArgMember];rfl) | rfl) ?_)
 refine wpAny_newObj_type ?_ (by size_fits)
 simp only [raiseNew]
 apply wpAny_bind
 apply wpAny_handled
 rw [show A.in1.handled=none from hh]
 refine wpAny_throw ?_
 apply wpAny_bind
 refine wpAny_isInstance (b:=true) (T := "StopIteration") ⟨_,Heap.get?_push_size _ rfl,rfl⟩ isSubtype_stop ?_
 exact wpAny_pure (hq _ (((Heap.SameBut.update ..).extBut.push _).push _))
end
end L2
namespace L2
open PySem PySem.Spec PyProof.Rows
section
variable {P:Program} {w:World} {A:Around} {E:Value->Shared->Prop} {s:Shared}
theorem Zg2 {a:Addr} {es:Array (Int×Value)} {ep:Nat} {t:SetTable} {Q:Value->Shared->Prop} (h:SAt w s.heap a es ep t)
  (hq:Q (.ref s.heap.objs.size) { s with heap:=s.heap.push { cls:=.type "set_iterator", data:=.fields #[.int 0 0,.int 0 0,.ref a,.int es.size 0,.int ep 0] } }):wpAny (model P w) A (pyIter (.ref a)) Q E s:=by
 obtain ⟨⟨o,ho,hx,hd⟩,S,hpl,hled⟩:=id h
 refine wpAny_pyIter_slot h.typeIs F.slot_set_iter (wpAny_call_entry F.slot_set_iter h.typeIs ZdI ?_ (F.args_set_iter_1 _))
 unfold Builtin.«frozenset.__iter__»
 apply wpAny_bind
 refine wpAny_pure ?_
 apply wpAny_bind
 unfold Builtin.Frozenset.sizeOf
 apply wpAny_bind
 apply wpAny_setEntries_of ho hd S.fits
 apply wpAny_pure
 apply wpAny_bind
 apply wpAny_bind
 apply wpAny_setState_of ho hd S.fits
 dsimp only
 apply wpAny_bind
 apply Zdp
 apply wpAny_pure
 have e1:(!ZbJ w && (!t.plain && decide (es.size > 1)))=false:=by rw [hpl];simp
 show wpAny _ _ (if (!ZbJ w && (!t.plain && decide (es.size > 1)))=true then _ else _) _ _ _
 rw [e1,if_neg Bool.false_ne_true]
 apply wpAny_bind
 apply wpAny_pure
 apply wpAny_bind
 apply wpAny_setEpoch_of ho hd S.fits
 apply wpAny_bind
 refine wpAny_newObj_type (wpAny_pure ⟨_,rfl, "set_iterator", _,⟨_,Heap.get?_push_size _ rfl,rfl⟩,sit_slot_next.lookup,?_⟩)
 simpa [rawInt] using hq
theorem Zjx {r:Addr} {Q:Bool->Shared->Prop} (hT:s.TypeIs (.ref r) "set") (h:Q false s):wpAny (model P w) A (Builtin.List.listLengthHint (.ref r)) Q E s:=by
 unfold Builtin.List.listLengthHint
 apply wpAny_bind
 refine wpAny_specialOf hT F.slot_set_len.lookup ?_
 generalize hid:("set.__len__" : String)=nm
 wp_delta
 rw [show splitId nm=some ("set", "__len__") from by subst hid;decide +kernel]
 subst hid
 apply wpAny_bind
 refine wpAny_isInstance (T := "set") (b:=true) hT (by rw [isSubtype_type];kernel_rfl) ?_
 refine wpAny_ite_split (λz=>absurd z (by decide)) λ_=>?_
 refine wpAny_ite_split (λ_=>?_) λz=>absurd (by decide +kernel) z
 apply wpAny_bind
 apply wpAny_typeOf hT
 exact wpAny_pure h
theorem Zlh {a:Addr} {es:Array (Int×Value)} {ep:Nat} {t:SetTable}:PySem.W.KdlSrc P w "set" a a es.size (λi v=>∃ e,(Zbq w a es ep)[i]?=some e/\v=e.2) (λh=>SAt w h a es ep t) where
 type:=λ_ h=>h.typeIs
 there:=λ_ h=>by
  obtain ⟨⟨o,ho,_⟩,_⟩:=h
  exact ⟨Heap.lt_size ho,Heap.lt_size ho⟩
 keep:=λ_ _ h k=>h.ext λo e=>k a (.inl rfl) o e
 notList:=by decide
 notTuple:=by decide
 hint:=λ_ _ _ _ h q=>Zjx h.typeIs q
 iter:=λA s hh h=>by
  have hlt:a<s.heap.objs.size:=by
   obtain ⟨⟨o,ho,_⟩,_⟩:=h
   exact Heap.lt_size ho
  have hwl:(Zbq w a es ep).length=es.size:=by rw [(Zbj a es ep).length_eq,Array.length_toList]
  refine ⟨{ cls:=.type "set_iterator", data:=.fields #[.int 0 0,.int 0 0,.ref a,.int es.size 0,.int ep 0] },λi h'=>IsSetIter w h' s.heap.objs.size a t i es.size ep/\SAt w h' a es ep t,λ_ _ q=>Zg2 h q,?_,?_⟩
  ·refine ⟨λb hb=>?_,λi h1 h2 st k=>⟨st.1.ext λo e=>k _ (by simp) o e,st.2.ext λo e=>k a (by simp) o e⟩,λi s1 Q E hi st hq=>?_,λs1 Q E st hq=>?_,λi s1 Q E st hq=>?_⟩
   ·rw [List.mem_singleton.mp hb];exact List.mem_cons_self
   ·have he:(Zbq w a es ep)[i]?=some (Zbq w a es ep)[i]:=List.getElem?_eq_getElem (by omega)
    refine ZfF st.1 st.2 he (Nat.ne_of_lt hlt) λh' hi' sb=>?_
    refine hq _ h' s1.toks ⟨_,he,rfl⟩ ⟨hi',st.2.ext λo e=>?_⟩ λb o hb e=>?_
    ·rw [sb.2 a (Nat.ne_of_lt hlt)];exact e
    ·rw [sb.2 b (λz=>hb (by rw [z];exact List.mem_cons_self))];exact e
   ·refine Zg1 hh st.1 st.2 λh' he=>hq h' s1.toks λb o hb e=>he b o (λz=>hb (by rw [z];exact List.mem_cons_self)) e
   ·refine wpAny_pyIter_slot st.1.typeIs Zcq (wpAny_call_entry Zcq st.1.typeIs (b:=Builtin.«dict_keyiterator.__iter__») ?_ ?_ ?_)
    ·exact entryFor_alias (id' := "dict_keyiterator.__iter__") (by kernel_rfl) rfl (by decide +kernel) (by kernel_rfl)
    ·show wpAny _ _ (ret (Value.ref s.heap.objs.size)) _ _ s1
     exact wpAny_pure ⟨_,rfl, "set_iterator", _,st.1.typeIs,sit_slot_next.lookup,hq⟩
    ·unfold argsOk;kernel_rfl
  ·refine ⟨⟨_,Heap.get?_push_size _ rfl,rfl,?_⟩,h.ext λo e=>Heap.get?_push_of_some _ e⟩
   have:ZcY w t 0=0:=by unfold ZcY;split <;> rfl
   rw [this]
   rfl
end
def Zjy (P:Program) (w:World) (a:Addr) (ms:List Int):HO:=.ext λh=>∃ o σ,h.get? a=some o/\SetI P w o σ/\σ.Perm ms
theorem Zli {P:Program} {w:World} {H:Hp} {h:Heap} {a:Addr} {ms σ:List Int} {o:Obj} (ho:h.get? a=some o) (hs:SetI P w o σ) (hp:σ.Perm ms):ObjOk P w H h a (Zjy P w a ms):=
 ⟨⟨o,σ,ho,hs,hp⟩,⟨o,ho⟩,λh1 h2 ⟨o',σ',e,s',p'⟩ k=>⟨o',σ',k _ e,s',p'⟩⟩
theorem SetI.at_ {P:Program} {w:World} {o:Obj} {σ:List Int} (h:SetI P w o σ) {a:Addr} {hp:Heap} (ho:hp.get? a=some o):∃ es ep t,SAt w hp a es ep t/\Paired (ZgY P w) es.toList σ/\σ.Nodup:=by
 obtain ⟨es,ep,t,h1,h2,h3,h4,h5,h6,h7⟩:=h
 exact ⟨es,ep,t,⟨⟨o,ho,h1,h2⟩,h5,h6,h7⟩,h3,h4⟩
theorem Zeh {α:Type} {l:List α} {i:Nat} {x y:α} (h:l[i]?=some x):y∈l.take (i+1)↔y∈l.take i\/y=x:=by
 rw [List.take_succ,h]
 simp
section
variable {X:Cx} (K:PySem.W.Frag)
theorem Zoe (hc:X.calm=true) (h:X.K=K:=by rfl):ZbC X (.type "set") (λxs H Q=>∃ (p:Addr) (ns:List Int),xs=[.ref p]/\SqL K H p (ns.map V.int)/\ns.length<=76 /\
  ∀ (l:Addr) (ms:List Int),H l=none->ms.Nodup->(∀ k,k∈ms↔k∈ns)->Q (.ref l) (upd H l (Zjy X.prog X.w l ms))):=by
 subst h
 intro pins s σ H xs us Q I rv h
 obtain ⟨p,ns,rfl,hq,hn,q⟩:=h
 obtain ⟨u,rfl,ru⟩:=rv.one
 cases ru
 obtain ⟨its,r,pl,hz⟩:=I.list hq
 have hl:=r.length
 rw [List.length_map] at hl
 have es:its.toArray.size=ns.length:=by rw [List.size_toArray];exact hl.symm
 refine Zik (I.ok.hd hc) pl.isList (λi o=>∃ τ,SetI X.prog X.w o τ/\τ.length<=i/\∀ k,k∈τ↔k∈ns.take i) (λ_=>True) ⟨[],Zju _ _,Nat.le_refl _,λk=>by simp⟩ (λ_ _=>trivial) ?_ ?_
 ·intro i v s1 o Q1 E1 hi hv _ ho ⟨τ,hτ,hle,hm⟩ hq1
  have hi':i<ns.length:=by omega
  have hv':its[i]?=some v:=by rw [List.getElem?_toArray] at hv;exact hv
  obtain ⟨u,eu,ru⟩:=r.get (i:=i) (x:=.int ns[i]) (by rw [List.getElem?_map,List.getElem?_eq_getElem hi'];rfl)
  rw [hv'] at eu
  cases eu
  obtain ⟨tk,rfl⟩:=ru
  unfold setAdd
  apply wpAny_holding
  apply wpAny_bind
  refine (intKind X.prog X.w).pyHash (k:=ns[i]) (intKind_is _ _ _ _) ?_
  refine Zlg (s:={ s1 with toks:=s1.toks+1 }) ho hτ (by omega) λb h' o' τ' sb ho' hτ' hp=>?_
  refine hq1 b h' _ o' (Nat.le_succ _) sb ho' ⟨τ',hτ',?_,λk=>?_⟩
  ·rw [hp.length_eq]
   split
   ·omega
   ·rw [List.length_append,List.length_singleton];omega
  ·rw [hp.mem_iff,Zeh (List.getElem?_eq_getElem hi')]
   split
   ·rename_i hin
    rw [hm k]
    constructor
    ·exact .inl
    ·rintro (z | rfl)
     ·exact z
     ·exact (hm _).mp hin
   ·rw [List.mem_append,hm k,List.mem_singleton]
 ·intro h' tk o' ho' ⟨τ,hτ,hle,hm⟩ hk
  rw [es] at hm
  have hnd:τ.Nodup:=by obtain ⟨_,_,_,_,_,_,z,_⟩:=hτ;exact z
  exact ⟨.ref _,_,I.laid (o:=Zjy X.prog X.w s.heap.objs.size τ) (λb o e=>hk b o (Heap.lt_size e) e) (Nat.le_refl _) (Zli ho' hτ (.refl _)),rfl,q _ τ I.fresh hnd (λk=>by rw [hm k,List.take_length])⟩
theorem Zjz (hc:X.calm=true):ZbC X (.builtin "sorted") (λxs H Q=>∃ (p:Addr) (ms:List Int),xs=[.ref p]/\H p=some (Zjy X.prog X.w p ms)/\ms.length<64 /\
  ∀ (l:Addr) (ns':List Int),H l=none->ns'.Perm ms->ns'.Pairwise (· <= ·)->Q (.ref l) (upd H l (.lst (ns'.map V.int)))):=by
 intro pins s σ H xs us Q I rv h
 obtain ⟨p,ms,rfl,hp,h64,q⟩:=h
 obtain ⟨u,rfl,ru⟩:=rv.one
 cases ru
 obtain ⟨⟨o,τ,ho,hτ,hperm⟩,_⟩:=I.hok p _ hp
 obtain ⟨es,ep,t,hat,hE,hnd⟩:=hτ.at_ ho
 have h16:(16777216:Nat)=sizeLine:=sizeLine_eq.symm
 have hlen:=Paired.length hE
 rw [Array.length_toList] at hlen
 have hml:=hperm.length_eq
 have hh:X.A.in1.handled=none:=I.ok.hd hc
 obtain ⟨ρ,hE2,hp2⟩:=Zdq (Zbj (w:=X.w) p es ep) hE
 refine Calls.call_function_entry kind_sorted plain_sorted entry_sorted (args_sorted1 _) ?_
 unfold Builtin.«sorted»
 apply wpAny_bind (m:=checkCount "sorted" 1 1 _)
 apply wpAny_pure
 apply wpAny_bind
 refine PySem.W.kdu_collect (Zlh (P:=X.prog) (es:=es) (ep:=ep) (t:=t)) hh hat (by omega) λh' tk acc hk' hacc=>?_
 have hal:acc.toList.length=es.size:=by rw [Array.length_toList];exact hacc.1
 have hI:IntsAre acc.toList ρ:=by
  have hρ:=Paired.length hE2
  rw [(Zbj (w:=X.w) p es ep).length_eq,Array.length_toList] at hρ
  refine ZbQ (Zc5 (by rw [List.length_map];omega) λi x u e1 e2=>?_)
  rw [Array.getElem?_toList] at e2
  obtain ⟨e,e3,e4⟩:=hacc.2 i u e2
  rw [List.getElem?_map] at e1
  have pg:∀ {l:List (Int×Value)} {τ:List Int},Paired (ZgY X.prog X.w) l τ->∀ (i:Nat) (e:Int×Value),l[i]?=some e->∃ n,τ[i]?=some n/\ZgY X.prog X.w e n:=by
   intro l τ hh'
   induction hh' with
   | nil=>intro i e z;simp at z
   | cons h0 _ ih=>
    intro i e z
    cases i with
    | zero=>simp at z;subst z;exact ⟨_,rfl,h0⟩
    | succ i=>exact ih i e (by simpa using z)
  obtain ⟨n,e5,_,tk',e6⟩:=pg hE2 i e e3
  rw [e5] at e1
  cases e1
  exact ⟨tk',by rw [e4,e6]⟩
 apply wpAny_bind
 refine wpAny_newList ?_ (by rw [hal];omega)
 have hoL:(h'.push (seqObj "list" acc.toList.toArray 0)).get? h'.objs.size=some (seqObj "list" acc.toList.toArray 0):=Heap.get?_push_size _ rfl
 apply wpAny_bind
 apply wpAny_holding
 refine wpAny_call_entry slot_list_sort ⟨_,hoL,rfl⟩ entry_list_sort (list_sort_tree hoL hI (by omega) λout ns' a1 a2 a3=>⟨_,rfl,?_⟩) (args_list_sort _)
 refine wpAny_pure ⟨_,rfl,?_⟩
 obtain ⟨e,he⟩:=sortedHeap_at (out:=out) hoL
 have hkeep:∀ b o,s.heap.get? b=some o->(sortedHeap (h'.push (seqObj "list" acc.toList.toArray 0)) h'.objs.size acc.toList out).get? b=some o:=λb o e=>by
  have e':=hk' b o e
  have hb:=Heap.lt_size e'
  rw [sortedHeap_old (Nat.ne_of_lt hb) (by rw [Heap.size_push];exact Nat.lt_succ_of_lt hb)]
  exact Heap.get?_push_of_some _ e'
 have hpm:ns'.Perm ms:=a2.trans (hp2.trans hperm)
 have hl':(ns'.map V.int).length<=sizeLine:=by rw [List.length_map,hpm.length_eq];omega
 have hn:H h'.objs.size=none:=by
  cases zz:H h'.objs.size with
  | none=>rfl
  | some o=>
   obtain ⟨x,ex⟩:∃ x,s.heap.get? h'.objs.size=some x:=(I.hok _ _ zz).there
   exact absurd (Heap.lt_size (hk' _ _ ex)) (Nat.lt_irrefl _)
 have sm:Same H (upd H h'.objs.size (.lst (ns'.map V.int))):=Same.new hn
 refine ⟨.ref h'.objs.size,upd H h'.objs.size (.lst (ns'.map V.int)),I.un (t':=tk) ⟨λb o e _ _ _=>hkeep b o e,λb o e _ _ _=>⟨o.slots,hkeep b o e⟩,λb o e n _=>?_,λb o e _=>⟨o,hkeep b o e⟩,λb ys e=>sm _ _ e,λb o u e=>sm _ _ e,λb ps e=>⟨#[],by rw [sm _ _ e];simp⟩⟩ (λb o e'=>?_),rfl,q _ ns' hn hpm a3⟩
 ·rw [Zam (Nat.ne_of_lt (Heap.lt_size (hk' b o e)))]
  exact n
 ·by_cases hb:b=h'.objs.size
  ·subst hb
   rw [Zab] at e';cases e'
   exact ⟨hl',out.toList,e,ZbD a1,he⟩
  ·rw [Zam hb] at e'
   exact (I.hok b o e').stay (λc v _ x=>hkeep c v x) (λd x=>sm _ _ x) λd ys x=>sm _ _ x
end
end L2
namespace L2
open PySem PySem.Spec PyProof.Rows
section
variable {P:Program} {w:World} {A:Around} {E:Value->Shared->Prop} {s:Shared}
end
section
variable {X:Cx}
end
end L2
namespace L2
open PySem PySem.Spec PyProof.Rows
section
variable {X:Cx} (P:Program) (w:World) (K:PySem.W.Frag)
theorem ZmK (hc:X.calm=true) (h:X.K=K:=by rfl) (hP:X.prog=P:=by rfl) (hw:X.w=w:=by rfl):ZbC X (.type "set") (λxs H Q=>∃ (p:Addr) (ns:List Int),xs=[.ref p]/\SqL K H p (ns.map V.int)/\ns.length<=76 /\
  ∀ (l:Addr) (ms:List Int),H l=none->ms.Nodup->(∀ k,k∈ms↔k∈ns)->Q (.ref l) (upd H l (Zjy P w l ms))):=by
 subst hP hw
 exact Zoe K hc h
theorem Zin (hc:X.calm=true) (hP:X.prog=P:=by rfl) (hw:X.w=w:=by rfl):ZbC X (.builtin "sorted") (λxs H Q=>∃ (p:Addr) (ms:List Int),xs=[.ref p]/\H p=some (Zjy P w p ms)/\ms.length<64 /\
  ∀ (l:Addr) (ns':List Int),H l=none->ns'.Perm ms->ns'.Pairwise (· <= ·)->Q (.ref l) (upd H l (.lst (ns'.map V.int)))):=by
 subst hP hw
 exact Zjz hc
end
end L2
namespace L2
open PySem PySem.Spec PyProof.Rows
section
variable {X:Cx}
def ZoX:V->List V->Hp->VK->Prop:=λx vs H Q=>∃ (l:Addr) (ns:List Int) (i:Int),x=.ref l/\vs=[.int i]/\H l=some (.lst (ns.map V.int))/\Q (.int ((ns.count i:Nat):Int)) H
end
end L2
namespace L2
open PySem PySem.Spec PyProof.Rows
section
variable {P:Program} {w:World} {A:Around} {E:Value->Shared->Prop} {s:Shared}
abbrev Zof (P:Program) (w:World) (r:Int×Int):Int:=tupleKeyHash (intKind P w) [r.1,r.2]
def ZpK (P:Program) (w:World) (h:Heap) (r:Int×Int) (a:Addr):Prop:=IsTupleKey (intKind P w) h [r.1,r.2] a
def ZpL (P:Program) (w:World) (h:Heap) (e:Int×Value) (r:Int×Int):Prop:=e.1=Zof P w r/\∃ a,e.2=.ref a/\ZpK P w h r a
def hAt (es:Array (Int×Value)) (i:Nat):Int:=(es[i]?.map (·.1)).getD 0
section
variable {a b:Addr} {o:Obj} {es:Array (Int×Value)} {ep:Nat} {t:SetTable} {ps:List (Int×Int)} {r:Int×Int} {Q:SetFound->Shared->Prop}
end
end
end L2
namespace L2
open PySem PySem.Spec PyProof.Rows
section
variable {P:Program} {w:World} {A:Around} {E:Value->Shared->Prop} {s:Shared}
def ZpM (P:Program) (w:World) (h0:Heap) (o:Obj) (ps:List (Int×Int)):Prop:=∃ es ep t,o.ExactSet/\o.data=.set es ep t/\Paired (ZpL P w h0) es.toList ps/\ps.Nodup/\SOk t es
end
def Zqt (a:Addr) (m:Nat):HO:=.ext λh=>∃ o es ep t,h.get? a=some o/\o.ExactSet/\o.data=.set es ep t/\t.fits es.size=true/\es.size=m/\m<=76
section
variable {X:Cx} (K:PySem.W.Frag)
end
end L2
namespace L2
open PySem PySem.Spec PyProof.Rows
abbrev Tri:=Int×Int×Int
inductive Trs (H:Hp):List V->List Tri->Prop
 | nil:Trs H [] []
 | cons {p:Addr} {a b c:Int} {xs:List V} {rs:List Tri}:H p=some (.tup [.int a,.int b,.int c])->Trs H xs rs->Trs H (.ref p::xs) ((a,b,c)::rs)
def trD (r:Tri):PyData:=.tuple [.int r.1,.int r.2.1,.int r.2.2]
section
variable {X:Cx} (K:PySem.W.Frag)
end
end L2
namespace L2
open PySem PySem.Spec PyProof.Rows
def Nd (ts:List Tri) (c:Int) (r:Tri):Prop:=2<=c/\ts[(c-2).toNat]?=some r
def At (ts:List Tri) (c lo:Int):Prop:=c=0\/c=1\/∃ r,Nd ts c r/\lo<r.1
def ZpN (ts:List Tri):Prop:=∀ (i:Nat) (r:Tri),ts[i]?=some r->(0<=r.1/\r.1<30)/\At ts r.2.1 r.1/\At ts r.2.2 r.1
inductive Has (ts:List Tri):Int->List Int->Prop
 | one:Has ts 1 []
 | low {c:Int} {r:Tri} {rs:List Int}:Nd ts c r->Has ts r.2.1 rs->Has ts c rs
 | high {c:Int} {r:Tri} {rs:List Int}:Nd ts c r->Has ts r.2.2 rs->Has ts c (r.1::rs)
def ZmL (fs:List Int) (n:Int):Option Int:=if n=0 then some 0 else if n=1 then some 1 else (fs.idxOf? n).map λ(i:Nat)=>(i:Int)+2
end L2
namespace L2
open PySem PySem.Spec PyProof.Rows
structure Fnd (ks:List Tri) (root:Int) (fs:List Int) (kvs:List (Key×V)) (k:Nat):Prop where
 num:∀ n:Int,ZbT kvs (.inl n)=(ZmL fs n).map V.int
 nd:fs.Nodup
 nod:∀ x∈fs,∃ r,Nd ks x r
 kle:k<=fs.length
 cl:∀ (i:Nat),i<k->∀ (x:Int) (r:Tri),fs[i]?=some x->Nd ks x r->(ZmL fs r.2.1).isSome/\(ZmL fs r.2.2).isSome
 kl:kvs.length<=fs.length+2
def Zqu (ks:List Tri) (fs:List Int) (us:List Tri) (i:Nat):Prop:=∀ (j:Nat) (x:Int),j<i->fs[j]?=some x->∃ (r:Tri) (a b:Int),Nd ks x r/\ZmL fs r.2.1=some a/\ZmL fs r.2.2=some b/\us[j]?=some (r.1,a,b)
def Bk (ts:List Tri):Prop:=∀ (i:Nat) (r:Tri),ts[i]?=some r->r.2.1<(i:Int)+2/\r.2.2<(i:Int)+2
structure ZpO (ts ks:List Tri) (sm:List Int) (i:Nat):Prop where
 len:sm.length=i+2
 at_:∀ c lo:Int,c<(i:Int)+2->At ts c lo->At ks (sm.getD c.toNat 0) lo
def ZpP (r:Tri):List Key:=[.inl r.1,.inl r.2.1,.inl r.2.2]
def ZoY (kvs:List (List Key×V)) (ks:List Tri):Prop:=∀ r:Tri,∀ v:V,ZbT kvs (ZpP r)=some v->∃ c:Int,v=.int c/\Nd ks c r
end L2
namespace L2
open PySem PySem.Spec PyProof.Rows
section
variable {P:Program} {w:World} {A:Around} {E:Value->Shared->Prop} {s:Shared}
abbrev Zog (P:Program) (w:World) (r:List Int):Int:=tupleKeyHash (intKind P w) r
def ZpQ (P:Program) (w:World) (h:Heap) (r:List Int) (a:Addr):Prop:=IsTupleKey (intKind P w) h r a
def ZpR (P:Program) (w:World) (h:Heap) (e:Int×Value) (r:List Int):Prop:=e.1=Zog P w r/\∃ a,e.2=.ref a/\ZpQ P w h r a
section
variable {a b:Addr} {o:Obj} {es:Array (Int×Value)} {ep:Nat} {t:SetTable} {ps:List (List Int)} {r:List Int} {Q:SetFound->Shared->Prop}
end
end
end L2
namespace L2
open PySem PySem.Spec PyProof.Rows
section
variable {P:Program} {w:World} {A:Around} {E:Value->Shared->Prop} {s:Shared}
def ZpS (P:Program) (w:World) (h0:Heap) (o:Obj) (ps:List (List Int)):Prop:=∃ es ep t,o.ExactSet/\o.data=.set es ep t/\Paired (ZpR P w h0) es.toList ps/\ps.Nodup/\SOk t es
end
section
variable {X:Cx} (K:PySem.W.Frag)
inductive Tus (H:Hp):List V->List (List Int)->Prop
 | nil:Tus H [] []
 | cons {p:Addr} {r:List Int} {xs:List V} {rs:List (List Int)}:H p=some (.tup (r.map V.int))->Tus H xs rs->Tus H (.ref p::xs) (r::rs)
end
end L2
namespace L2
open PySem PySem.Spec PyProof.Rows
def tl3 (r:Tri):List Int:=[r.1,r.2.1,r.2.2]
section
variable {X:Cx} (K:PySem.W.Frag)
end
end L2
namespace L2
open PySem PySem.Spec PyProof.Rows
def chT (ks:List Tri) (x:Int):List Int:=match ks[(x-2).toNat]? with | some r=>[r.2.1,r.2.2] | none=>[]
def Zoh (ks:List Tri) (root:Int) (f:List Int):List Int:=root::f.flatMap (chT ks)
def New (f:List Int) (x:Int):Prop:=x≠0/\x≠1/\x ∉ f
def Ext (ks:List Tri) (root:Int) (f:List Int) (x:Int):Prop:=∃ p q,Zoh ks root f=p++x::q/\New f x/\∀ y∈p,¬ New f y
inductive Rch (ks:List Tri) (root:Int):List Int->Prop
 | nil:Rch ks root []
 | snoc {f:List Int} {x:Int}:Rch ks root f->Ext ks root f x->Rch ks root (f++[x])
def Fin (ks:List Tri) (root:Int) (f:List Int):Prop:=∀ y∈Zoh ks root f,¬ New f y
def Zqv (n:Nat):List Int:=(List.range n).map λ(i:Nat)=>(i:Int)+2
end L2
namespace L2
open PySem PySem.Spec PyProof.Rows
section
variable {X:Cx}
def ZnG:V->List V->Hp->VK->Prop:=λx vs H Q=>∃ l b xs zs,x=.ref l/\vs=[.ref b]/\H l=some (.lst xs)/\H b=some (.tup zs)/\xs.length+zs.length<=sizeLine/\Q .non (upd H l (.lst (xs++zs)))
end
end L2
namespace L2
open PySem PySem.Spec PyProof.Rows
section
variable {X:Cx}
end
structure Wk (ks:List Tri) (root:Int) (fs:List Int) (kvs:List (Key×V)) (pr ah:List Int):Prop where
 e:Zoh ks root fs=pr++ah
 old:∀ y∈pr,¬ New fs y
 seen:∀ n:Int,ZbT kvs (.inl n)=none↔New fs n
 nd:fs.Nodup
 nod:∀ x∈fs,∃ r,Nd ks x r
 rch:Rch ks root fs
 kl:kvs.length<=fs.length+2
 ok:∀ y∈ah,At ks y (-1)
structure ZoZ (ts:List Tri) (many:Int) (r:Tri):Prop where
 road:0<=r.1/\r.1<many
 low:0<=r.2.1/\r.2.1<(ts.length:Int)+2
 high:0<r.2.2/\r.2.2<(ts.length:Int)+2
 lo:∀ q,Nd ts r.2.1 q->r.1<q.1
 hi:∀ q,Nd ts r.2.2 q->r.1<q.1
end L2
namespace L2
open PySem PySem.Spec PyProof.Rows
end L2
namespace L2
open PySem PySem.Spec PyProof.Rows
open AutoSeq1 (wpAny_loadPart') in
open AutoSeq1 (wpAny_loadPart') in
section
variable {X:Cx}
def ZpT (K:PySem.W.Frag):V->List V->Hp->VK->Prop:=λx vs H Q=>∃ l xs y d ds j,x=.ref l/\vs=[y]/\H l=some (.lst xs)/\DatV K H y d/\DatVs K H xs ds/\SeqAt.shaped d=true/\(∀ e∈ds,SeqAt.shaped e=true) /\
 j<xs.length/\(∀ e,ds[j]?=some e->PyData.eqv e d=true)/\(∀ m,m<j->∀ e,ds[m]?=some e->PyData.eqv e d=false)/\Q .non (upd H l (.lst (xs.eraseIdx j)))
end
end L2
namespace L2
open PySem PySem.Spec PyProof.Rows
def ltP (x y:Int×Int):Bool:=decide (x.1<y.1) || (decide (x.1=y.1) && decide (x.2<y.2))
section
variable {prog:Program} {w:World} {A:Around} {E:Value->Shared->Prop} {s:Shared}
theorem lt_int {x y:Int} {t u:Tok} {Q:Value->Shared->Prop} (h:Q (.bool (decide (x<y))) s):wpAny (model prog w) A (richCompare .Lt (.int x t) (.int y u)) Q E s:=
 CmpOf.ints_lt (P:=λi v=>∃ t,v=.int (if i=0 then x else y) t) (λi=>if i=0 then x else y) (λ_ _ p=>p) 0 1 _ _ s Q E ⟨t,rfl⟩ ⟨u,rfl⟩ h
end
def ZpU (prog:Program) (w:World) (A:Around) (op:CmpOp) (J:Heap->Prop) (P:Nat->Value->Prop) (bt:Nat->Nat->Bool):Prop:=
 ∀ (s:Shared) (i j:Nat) (vi vj:Value) (Q E:Value->Shared->Prop),J s.heap->P i vi->P j vj->Q (.bool (bt i j)) s->wpAny (model prog w) A (richCompare op vi vj) Q E s
section
variable {prog:Program} {w:World} {A:Around} {R:Result->Shared->Prop} {I:Addr} {fp wr:List Addr} {n:Nat} {P:Nat->Value->Prop} {St:Nat->Heap->Prop} {J:Heap->Prop} {kw:List (Str×Value)}
end
section
variable {X:Cx}
def ZmM (xs:List V) (rs:List (Int×Int)) (t:Addr) (r:Int×Int):Prop:=(∃ i:Nat,xs[i]?=some (.ref t)/\rs[i]?=some r)/\∀ r'∈rs,ltP r' r=false
def ZpV (K:PySem.W.Frag):List V->Hp->VK->Prop:=λvs H Q=>∃ (p:Addr) (xs:List V) (rs:List (Int×Int)),vs=[.ref p]/\SqL K H p xs/\Prs H xs rs/\rs≠[]/\∀ t r,ZmM xs rs t r->Q (.ref t) H
def Zo0 (X:Cx) (f:Value) (ks:List Str) (r:List V->List V->Hp->VK->Prop):Prop:=∀ (pins:List (Addr×Obj)) (s:Shared) (σ:St) (H:Hp) (xs:List V) (us:List Value) (zs:List V) (ws:List Value) (Q:VK),Inv X pins σ H s->Vals xs us->Vals zs ws->r xs zs H Q->wpAny (model X.prog X.w) X.A (call f us (ks.zip ws)) (EP X pins σ Q) X.xe s
def Zqw (r:List V->List V->Hp->VK->Prop) (t tk:TA):TE:=λσ H Q=>t σ H λvs H1=>tk σ H1 λzs H2=>r vs zs H2 Q
end
section
variable {X:Cx} {k:Nat} {f:Addr} {fd:FuncData} {ps:List Str} {sp:Sp} {dvs:List V} {ds:List Value} {fx:Str} {fp cpos bpos np:Pos} {e:Expr} {es:List Expr} {t:TA}
theorem Zkn {j:Nat} {y:Str} (F:ZaI X.prog X.w X.K X.mg X.base (CXr X.prog X.w) k f fd ps sp) (hr:Room k X.A) (hg:Gl X fx) (hm:X.mg fx=some (.ref f)) (hk:PySem.W.keepIn X.K (.ref f)=true) (hb:Binds X.K fd ps ds) (hd:Vals dvs ds) (ha:PA X.nox (e::es) t) (hN:X.N.Nodup) (hj:X.N[j]?=some y) (hx:Loc X.env.scope y)
  (hdb:(fx == ("__debug__" : Str))=false:=by decide) (he:starEach (e::es) X.env=(false,eval e X.env)::starEach es X.env:=by rfl) (hpl:(backTo cpos (starEach es X.env)).any (·.1)=false:=by rfl)
  (hs:swapsWith (.Call (.Name fx fp) (e::es) [] cpos) (some (.Name y np)) bpos.line X.env=pure false:=by rfl) (hf:X.fn y=true\/X.env.scope.names.lookup y=some .local:=by first | exact .inl rfl | exact .inr rfl | assumption) :
  PB X [.Assign [.Name y np] (.Call (.Name fx fp) (e::es) [] cpos) bpos] (λD Eσ σ H=>t σ H λvs H1=>sp (vs++dvs) H1 (λv H2=>D.nx (σ.set j (some v)) H2) (Eσ σ)):=by
 intro pins s σ H D Eσ QQ EE I h hQ hE
 refine wpAny_execs_cons (wpAny_Assign_Name (Zjf F hr hg hm hk hb hd ha I h (λu s' hq=>?_) (λev H1 s1 s' I1 hq=>hE σ ev H1 s1 s' I1 hq) hdb he hpl) hs)
 obtain ⟨v,H2,I2,rv,q⟩:=hq
 exact Zd1 I2 hN hj hx rv (λs2 I3=>wpAny_execs_nil (hQ .next s2 ⟨_,H2,I3,q⟩)) hf
end
end L2
namespace L2
open PySem PySem.Spec PyProof.Rows
section
variable {X:Cx} {k:Nat} {f:Addr} {fd:FuncData} {ps:List Str} {sp:Sp} {dvs:List V} {ds:List Value} {fx:Str} {fp cpos bpos np hpos pos:Pos} {e:Expr} {es:List Expr} {t:TA}
def Zio (K:PySem.W.Frag) (W:Addr) (ts:TS) (D:Ends) (σ:St):XK:=λcls _ H2=>∃ C,cls=.ref C/\PySem.W.kitCls K (.ref C) (.ref W)=some true/\∀ a,H2 a=none->ts D σ (upd H2 a (Zl4 a C))
theorem ZjA {pins:List (Addr×Obj)} {σ:St} {H:Hp} {s s':Shared} {D:Ends} {W:Addr} {wx:Str} {b0:Stmt} {suite:List Stmt} {rest:List ExceptHandler} {ts:TS} {ev:Value}
  (hc:X.calm=true) (hst:X.stack=X.env::X.outer) (hfr:X.env.frame=some X.env.locals) (hex:X.ex=[])
  (hgW:Gl X wx) (hmW:X.mg wx=some (.ref W)) (hbE:PySem.W.subIn X.K (.ref W) (.type "BaseException")=some true) (hsu:∀ a,PSs (X.inExc a) (b0::suite) ts) (I:Inv X pins σ H s)
  (h:CXr X.prog X.w X.stack H s (Zio X.K W ts D σ) ev s') (hdb:(wx == ("__debug__" : Str))=false:=by decide) :
  wpAny (model X.prog X.w) X.A (noteFrame ev X.env) (λ_ s2=>wpAny (model X.prog X.w) X.A (setFlight ev none) (λ_ s3=>
   wpAny (model X.prog X.w) X.A (handleBy ev X.env (.ExceptHandler (some (.Name wx np)) none (b0::suite) hpos::rest)) (SP X pins D) X.xe s3) X.xe s2) X.xe s':=by
 obtain ⟨a,C,H',rfl,⟨t,B,os,bare,un,hok,fl,trk,old⟩,C',eC,hk,q⟩:=h
 cases eC
 have ff:∀ {E:Value->Shared->Prop},∀ (x:Value) (s:Shared),(λ(_:Value) (_:Shared)=>False) x s->E x s:=λ_ _ z=>False.elim z
 have flX:=fl
 rw [hst] at flX
 have afr:=I.ok.frames
 rw [hst] at afr
 have new:s.heap.get? a=none:=by
  cases z:s.heap.get? a with
  | none=>rfl
  | some o0=>
   exfalso
   obtain ⟨ob,vs,e1,c1,d1,_⟩:=fl.first
   by_cases hb:a∈frs X.stack
   ·obtain ⟨_,o',ho',hnf⟩:=fl.2.2.1.mem hb
    rw [e1] at ho';cases ho'
    exact hnf vs d1
   ·have:=old a o0 ob z e1 hb
    rw [fl.2.1] at this;cases this
 have hna:H' a=none:=by
  cases z:H' a with
  | none=>rfl
  | some u=>
   exfalso
   obtain ⟨ob,vs,e1,_⟩:=fl.first
   have:=trk a ob e1 (by rw [z];simp)
   rw [fl.2.1] at this;cases this
 have na1:a≠X.env.locals:=λz=>by
  obtain ⟨m,⟨o,_,_,ho,_⟩,_⟩:=I.loc
  rw [<-z,new] at ho;cases ho
 have na2:∀ x c,X.env.cells.lookup x=some c->c≠a:=λx c e z=>by
  obtain ⟨v,o,ho,_⟩:=I.cell x c e
  rw [z,new] at ho;cases ho
 have na3:∀ p∈X.pn++pins,p.1≠a:=λp hp z=>by
  have:=(I.pin p hp).1
  rw [z,new] at this;cases this
 have na4:X.s₀.heap.get? a=none:=by
  cases z:X.s₀.heap.get? a with
  | none=>rfl
  | some o=>
   obtain ⟨o',e'⟩:=I.base.there a o z (by rw [hex];simp)
   rw [new] at e';cases e'
 have at_:∀ {h2:Heap} {tk:Nat},B.StaysIn h2->s'.heap.UpToSlots h2->Inv X pins σ H' { s' with heap:=h2,toks:=tk }:=λ{h2 tk} st sm=>by
  obtain ⟨u2,k2⟩:=Zf8 (t:=t) (a:=a) (C:=C) un hok fl.2.2.1 trk old st sm
  exact I.call' (ch:=[]) os u2 k2 bare (λb z=>absurd z (by simp))
 refine wpAny_looks_onW afr hfr flX λh4 held4 sm4=>?_
 refine wpAny_landsW held4 λh5 fl5 sm5=>?_
 have I5:Inv X pins σ H' { s' with heap:=h5 }:=at_ (tk:=s'.toks) fl5.1 (sm4.trans sm5)
 refine wpAny_handleBy_cons (codeAny_handlers_test ?_) (by intro q;cases q)
 refine Zde (X:=X.inExc a) (I5.inExc a) hgW hmW ?_ hdb
 obtain ⟨ob,vs,e1,c1,d1,_⟩:=fl5.first
 refine ZhR (b:=true) I5.kIn ⟨ob,vs,e1,c1,d1⟩ hk hbE ?_
 refine codeAny_handlers_suite ?_
 refine lands_againW fl5 λh6 fl6 sm6=>?_
 have I6:Inv X pins σ H' { s' with heap:=h6 }:=at_ (tk:=s'.toks) fl6.1 ((sm4.trans sm5).trans sm6)
 obtain ⟨ob6,vs6,e6,c6,d6,_⟩:=fl6.first
 have I7:=I6.track (u:=Zl4 a C) hna na1 na2 na3 na4 λH2=>ZkX ⟨ob6,vs6,e6,c6,d6⟩
 refine wpAny_mono (hsu a pins _ _ _ _ (I7.inExc a) (q a hna)) (λfl s9 q9=>?_) ff
 cases fl with
 | next=>
  obtain ⟨σ9,H9,I9,q9⟩:=q9
  exact ⟨_,_,I9.outExc I.ok,q9⟩
 | brk=>
  obtain ⟨σ9,H9,I9,q9⟩:=q9
  exact ⟨_,_,I9.outExc I.ok,q9⟩
 | cont=>
  obtain ⟨σ9,H9,I9,q9⟩:=q9
  exact ⟨_,_,I9.outExc I.ok,q9⟩
 | ret u=>
  obtain ⟨v,σ9,H9,I9,r9,q9⟩:=q9
  exact ⟨v,_,_,I9.outExc I.ok,r9,q9⟩
theorem ZjB {body:List Stmt} {tb:TB} {W:Addr} {wx:Str} {b0:Stmt} {suite:List Stmt} {ts:TS} (hB:PB X body tb) (hc:X.calm=true) (hst:X.stack=X.env::X.outer) (hfr:X.env.frame=some X.env.locals) (hex:X.ex=[])
  (hgW:Gl X wx) (hmW:X.mg wx=some (.ref W)) (hbE:PySem.W.subIn X.K (.ref W) (.type "BaseException")=some true) (hsu:∀ a,PSs (X.inExc a) (b0::suite) ts) (hdb2:(wx == ("__debug__" : Str))=false:=by decide) :
  PS X (.Try body [.ExceptHandler (some (.Name wx np)) none (b0::suite) hpos] [] [] pos) (λD σ H=>tb D (λσ1=>Zio X.K W ts D σ1) σ H):=by
 intro pins s σ H D I h
 refine wpAny_Try_except (hB pins s σ H D _ _ _ I h (λfl s' hq=>?_) (λσ1 ev H1 s1 s' I1 hq=>ZjA hc hst hfr hex hgW hmW hbE hsu I1 hq hdb2))
 cases fl with
 | next=>exact wpAny_execs_nil hq
 | brk=>exact hq
 | cont=>exact hq
 | ret u=>exact hq
end
end L2
namespace L2
open PySem PySem.Spec PyProof.Rows
def ZbK:Bool->Keyed->Array Keyed->Nat->Nat->Nat->StateT SortSt Sem (Option Nat):=sortPriv% PySem.Builtin.gallop
def Zei:Array Keyed->Array Keyed->StateT SortSt Sem (Array Keyed):=sortPriv% PySem.Builtin.mergeLo
def Zej:Array Keyed->Array Keyed->StateT SortSt Sem (Array Keyed):=sortPriv% PySem.Builtin.mergeHi
def Zdr:Nat->StateT SortSt Sem Unit:=sortPriv% PySem.Builtin.setMinGallop
def ZcP (left:Bool) (key:Keyed) (arr:Array Keyed) (base i:Nat):StateT SortSt Sem (Option Bool):=do
 let x <- elem' arr (base+i)
 if left then lt' x key else return (<- lt' key x).map (!·)
def Zct (left:Bool) (key:Keyed) (arr:Array Keyed) (base n lo hi:Nat):StateT SortSt Sem (Option Nat):=do
 let mut lo:=lo
 let mut hi:=hi
 for _ in [:n] do
  if lo>=hi then break
  let m:=lo+(hi-lo) / 2
  let some more <- ZcP left key arr base m | return none
  if more then lo:=m+1
  else hi:=m
 return some hi
def Zek (left:Bool) (key:Keyed) (arr:Array Keyed) (base n hint:Nat):StateT SortSt Sem (Option Nat):=do
 let mut lastofs:=0
 let mut ofs:=1
 let maxofs:=n-hint
 for _ in [:n] do
  if ofs>=maxofs then break
  let some more <- ZcP left key arr base (hint+ofs) | return none
  if !more then break
  lastofs:=ofs
  ofs:=2 * ofs+1
 Zct left key arr base n (hint+lastofs+1) (hint+min ofs maxofs)
def ZcQ (left:Bool) (key:Keyed) (arr:Array Keyed) (base n hint:Nat):StateT SortSt Sem (Option Nat):=do
 let mut lastofs:=0
 let mut ofs:=1
 let maxofs:=hint+1
 for _ in [:n] do
  if ofs>=maxofs then break
  let some found <- ZcP left key arr base (hint-ofs) | return none
  if found then break
  lastofs:=ofs
  ofs:=2 * ofs+1
 Zct left key arr base n (hint+1-min ofs maxofs) (hint-lastofs)
theorem Zg3 (left:Bool) (key:Keyed) (arr:Array Keyed) (base n hint:Nat):ZbK left key arr base n hint=(do
  let some right <- ZcP left key arr base hint | return none
  if right then Zek left key arr base n hint else ZcQ left key arr base n hint):=rfl
section
variable {M:Model} {A:Around} {E:Value->Shared->Prop} {s:Shared} {kd:SortKind} {b:Keyed->Keyed->Bool} {good:Keyed->Prop}
structure WO (b:Keyed->Keyed->Bool):Prop where
 irr:∀ x,b x x=false
 tr:∀ x y z,b x y=true->b y z=true->b x z=true
 neg:∀ x y z,b x z=true->b x y=true\/b y z=true
def ZcZ (M:Model) (A:Around) (E:Value->Shared->Prop) (s:Shared) (kd:SortKind) (b:Keyed->Keyed->Bool) (good:Keyed->Prop):Prop:=
 ∀ (x y:Keyed) (st:SortSt) (Q:Option Bool->SortSt->Prop),good x->good y->kindOf st=kd->Q (some (b x y)) st->wpS M A E s (lt' x y) Q st
theorem Zay {arr:Array Keyed} {i:Nat} {x:Keyed} {st:SortSt} {Q:Keyed->SortSt->Prop} (h:arr[i]?=some x) (q:Q x st):wpS M A E s (elem' arr i) Q st:=by
 rw [elem'_eq,h]
 exact wpS_pure q
def byd (b:Keyed->Keyed->Bool) (left:Bool) (key:Keyed) (arr:Array Keyed) (base i:Nat):Bool:=match arr[base+i]? with
 | some x=>if left then b x key else !b key x
 | none=>false
theorem ZbX {left:Bool} {key:Keyed} {arr:Array Keyed} {base i:Nat} {x:Keyed} {st:SortSt} {Q:Option Bool->SortSt->Prop} (L:ZcZ M A E s kd b good) (hk:good key) (hx:arr[base+i]?=some x) (gx:good x) (hs:kindOf st=kd)
  (q:Q (some (byd b left key arr base i)) st):wpS M A E s (ZcP left key arr base i) Q st:=by
 unfold ZcP
 refine wpS_bind (Zay hx ?_)
 unfold byd at q
 rw [hx] at q
 cases left with
 | true=>exact L x key st Q gx hk hs q
 | false=>exact wpS_bind (L key x st _ hk gx hs (wpS_pure q))
section
variable {left:Bool} {key:Keyed} {arr:Array Keyed} {base n hint:Nat} {st:SortSt} {Q:Option Nat->SortSt->Prop}
structure Gal (b:Keyed->Keyed->Bool) (good:Keyed->Prop) (left:Bool) (key:Keyed) (arr:Array Keyed) (base n:Nat):Prop where
 gk:good key
 it:∀ i,i<n->∃ x,arr[base+i]?=some x/\good x
 mono:∀ i j,i<=j->j<n->byd b left key arr base j=true->byd b left key arr base i=true
theorem ZaS {lo hi:Nat} (L:ZcZ M A E s kd b good) (G:Gal b good left key arr base n) (hs:kindOf st=kd) (h1:lo<=hi) (h2:hi<=n) (h3:∀ i,i<lo->byd b left key arr base i=true) (h4:∀ i,hi<=i->i<n->byd b left key arr base i=false)
  (q:∀ k,k<=n->(∀ i,i<k->byd b left key arr base i=true)->(∀ i,k<=i->i<n->byd b left key arr base i=false)->Q (some k) st):wpS M A E s (Zct left key arr base n lo hi) Q st:=by
 unfold Zct
 refine wpS_bind (wpS_forRange (λk c st'=>st'=st/\∃ lo hi,c=(none,lo,hi)/\lo<=hi/\hi<=n/\hi-lo<=n-k/\(∀ i,i<lo->byd b left key arr base i=true)/\(∀ i,hi<=i->i<n->byd b left key arr base i=false)) ?_ ?_ ⟨rfl,lo,hi,rfl,h1,h2,by omega,h3,h4⟩)
 ·rintro k c st' _ hk ⟨rfl,lo,hi,rfl,h1,h2,h5,h3,h4⟩
  dsimp only
  split
  ·rename_i h6
   have:lo=hi:=by omega
   subst this
   refine wpS_pure ?_
   dsimp only
   exact wpS_pure (q lo h2 h3 h4)
  ·rename_i h6
   obtain ⟨x,hx,gx⟩:=G.it (lo+(hi-lo) / 2) (by omega)
   refine wpS_bind (ZbX L G.gk hx gx hs ?_)
   dsimp only
   cases hb:byd b left key arr base (lo+(hi-lo) / 2) with
   | true=>
    refine wpS_pure ⟨rfl,_,_,rfl,by omega,h2,by omega,λi hi'=>G.mono i (lo+(hi-lo) / 2) (by omega) (by omega) hb,h4⟩
   | false=>
    refine wpS_pure ⟨rfl,_,_,rfl,by omega,by omega,by omega,h3,λi h8 h9=>?_⟩
    cases hc:byd b left key arr base i with
    | false=>rfl
    | true=>rw [G.mono _ i h8 h9 hc] at hb;cases hb
 ·rintro c st' ⟨rfl,lo,hi,rfl,h1,h2,h5,h3,h4⟩
  have:lo=hi:=by simp at h5;omega
  subst this
  exact wpS_pure (q lo h2 h3 h4)
theorem Zbg (L:ZcZ M A E s kd b good) (G:Gal b good left key arr base n) (hs:kindOf st=kd) (hn:hint<n)
  (q:∀ k,k<=n->(∀ i,i<k->byd b left key arr base i=true)->(∀ i,k<=i->i<n->byd b left key arr base i=false)->Q (some k) st):wpS M A E s (ZbK left key arr base n hint) Q st:=by
 rw [Zg3]
 obtain ⟨x,hx,gx⟩:=G.it hint hn
 have anti:∀ i j,byd b left key arr base i=false->i<=j->j<n->byd b left key arr base j=false:=λi j h1 h2 h3=>by
  cases hc:byd b left key arr base j with
  | false=>rfl
  | true=>rw [G.mono _ j h2 h3 hc] at h1;cases h1
 refine wpS_bind (ZbX L G.gk hx gx hs ?_)
 cases hb:byd b left key arr base hint with
 | true=>
  show wpS M A E s (Zek left key arr base n hint) Q st
  unfold Zek
  refine wpS_bind (wpS_forRange (λk c st'=>st'=st/\∃ last ofs,c=(none,last,ofs)/\last<ofs/\k+1<=ofs/\hint+last<n/\byd b left key arr base (hint+last)=true) ?_ ?_ ⟨rfl,0,1,rfl,by omega,by omega,hn,hb⟩)
  ·rintro k c st' _ hk ⟨rfl,last,ofs,rfl,h1,h2,h3,h4⟩
   dsimp only
   split
   ·rename_i h5
    refine wpS_pure ?_
    dsimp only
    rw [Nat.min_eq_right h5]
    exact ZaS L G hs (by omega) (by omega) (λi hi=>G.mono i _ (show i<=hint+last by omega) h3 h4) (λi h6 h7=>by omega) q
   ·rename_i h5
    obtain ⟨y,hy,gy⟩:=G.it (hint+ofs) (by omega)
    refine wpS_bind (ZbX L G.gk hy gy hs ?_)
    dsimp only
    cases hb2:byd b left key arr base (hint+ofs) with
    | true=>exact wpS_pure ⟨rfl,_,_,rfl,by omega,by omega,by omega,hb2⟩
    | false=>
     refine wpS_pure ?_
     dsimp only
     rw [Nat.min_eq_left (by omega)]
     exact ZaS L G hs (by omega) (by omega) (λi hi=>G.mono i _ (show i<=hint+last by omega) h3 h4) (λi h6 h7=>anti _ i hb2 h6 h7) q
  ·rintro c st' ⟨rfl,last,ofs,rfl,h1,h2,h3,h4⟩
   dsimp only
   have h5:n-hint<=ofs:=by simp at h2;omega
   rw [Nat.min_eq_right h5]
   exact ZaS L G hs (by omega) (by omega) (λi hi=>G.mono i _ (show i<=hint+last by omega) h3 h4) (λi h6 h7=>by omega) q
 | false=>
  show wpS M A E s (ZcQ left key arr base n hint) Q st
  unfold ZcQ
  refine wpS_bind (wpS_forRange (λk c st'=>st'=st/\∃ last ofs,c=(none,last,ofs)/\last<ofs/\k+1<=ofs/\last<=hint/\byd b left key arr base (hint-last)=false) ?_ ?_ ⟨rfl,0,1,rfl,by omega,by omega,by omega,hb⟩)
  ·rintro k c st' _ hk ⟨rfl,last,ofs,rfl,h1,h2,h3,h4⟩
   dsimp only
   split
   ·rename_i h5
    refine wpS_pure ?_
    dsimp only
    rw [Nat.min_eq_right h5]
    exact ZaS L G hs (by omega) (by omega) (λi hi=>by omega) (λi h6 h7=>anti _ i h4 h6 h7) q
   ·rename_i h5
    obtain ⟨y,hy,gy⟩:=G.it (hint-ofs) (by omega)
    refine wpS_bind (ZbX L G.gk hy gy hs ?_)
    dsimp only
    cases hb2:byd b left key arr base (hint-ofs) with
    | false=>exact wpS_pure ⟨rfl,_,_,rfl,by omega,by omega,by omega,hb2⟩
    | true=>
     refine wpS_pure ?_
     dsimp only
     rw [Nat.min_eq_left (by omega)]
     exact ZaS L G hs (by omega) (by omega) (λi hi=>G.mono i (hint-ofs) (by omega) (by omega) hb2) (λi h6 h7=>anti _ i h4 h6 h7) q
  ·rintro c st' ⟨rfl,last,ofs,rfl,h1,h2,h3,h4⟩
   dsimp only
   have h5:hint+1<=ofs:=by simp at h2;omega
   rw [Nat.min_eq_right h5]
   exact ZaS L G hs (by omega) (by omega) (λi hi=>by omega) (λi h6 h7=>anti _ i h4 h6 h7) q
end
end
end L2
namespace L2
open PySem PySem.Spec PyProof.Rows
abbrev MLs:=Option (Array Keyed)×Array Keyed×Nat×Nat×Nat×Nat
abbrev MLt:=Option (Array Keyed)×Array Keyed×Nat×Nat×Nat×Nat×Nat
def Zb6 (a b out:Array Keyed) (ia ib:Nat):Array Keyed:=out++a.extract ia++b.extract ib
def ZdV (a b out:Array Keyed) (ia ib:Nat):Array Keyed:=out++b.extract ib++a.extract ia
def ZjC (a b:Array Keyed) (mg:Nat):Nat->MLs->StateT SortSt Sem (ForInStep MLs):=λ_ r=>
 let out:=r.2.1;let ia:=r.2.2.1;let ib:=r.2.2.2.1;let acount:=r.2.2.2.2.1;let bcount:=r.2.2.2.2.2
 do
 let x <- elem' b ib
 let y <- elem' a ia
 match <- lt' x y with
 | some bWins=>
  if bWins=true then do
   let z <- elem' b ib
   let out:=out.push z
   let ib:=ib+1
   let bcount:=bcount+1
   let acount:=0
   if (ib == b.size)=true then pure (.done (some (Zb6 a b out ia ib),out,ia,ib,acount,bcount))
   else if bcount>=mg then pure (.done (none,out,ia,ib,acount,bcount))
   else pure (.yield (none,out,ia,ib,acount,bcount))
  else do
   let z <- elem' a ia
   let out:=out.push z
   let ia:=ia+1
   let acount:=acount+1
   let bcount:=0
   if (ia+1 == a.size)=true then pure (.done (some (ZdV a b out ia ib),out,ia,ib,acount,bcount))
   else if acount>=mg then pure (.done (none,out,ia,ib,acount,bcount))
   else pure (.yield (none,out,ia,ib,acount,bcount))
 | _=>pure (.done (some (Zb6 a b out ia ib),out,ia,ib,acount,bcount))
def mlD (a b:Array Keyed) (minGallop acount k:Nat) (out:Array Keyed) (ia ib:Nat):StateT SortSt Sem (ForInStep MLt):=do
 let bcount:=k
 let z <- elem' a ia
 let out:=out.push z
 let ia:=ia+1
 if (ia+1 == a.size)=true then pure (.done (some (ZdV a b out ia ib),out,ia,ib,minGallop,acount,bcount))
 else if (decide (acount<7) && decide (bcount<7))=true then pure (.done (none,out,ia,ib,minGallop,acount,bcount))
 else pure (.yield (none,out,ia,ib,minGallop,acount,bcount))
def mlC (a b:Array Keyed) (minGallop acount bcount:Nat) (out:Array Keyed) (ia ib:Nat):StateT SortSt Sem (ForInStep MLt):=do
 let z <- elem' b ib
 let out:=out.push z
 let ib:=ib+1
 if (ib == b.size)=true then pure (.done (some (Zb6 a b out ia ib),out,ia,ib,minGallop,acount,bcount))
 else do
  let y <- elem' a ia
  match <- ZbK true y b ib (b.size-ib) 0 with
  | some k=>
   let bcount:=k
   if k > 0 then
    let out:=out++b.extract ib (ib+k)
    let ib:=ib+k
    if (ib == b.size)=true then pure (.done (some (Zb6 a b out ia ib),out,ia,ib,minGallop,acount,bcount))
    else mlD a b minGallop acount k out ia ib
   else mlD a b minGallop acount k out ia ib
  | _=>pure (.done (some (Zb6 a b out ia ib),out,ia,ib,minGallop,acount,bcount))
def mlB (a b:Array Keyed) (minGallop acount bcount:Nat) (out:Array Keyed) (ia ib:Nat):StateT SortSt Sem (ForInStep MLt):=do
 Zdr minGallop
 let x <- elem' b ib
 match <- ZbK false x a ia (a.size-ia) 0 with
 | some k=>
  let acount:=k
  if k > 0 then
   let out:=out++a.extract ia (ia+k)
   let ia:=ia+k
   if (ia+1 == a.size)=true then pure (.done (some (ZdV a b out ia ib),out,ia,ib,minGallop,acount,bcount))
   else if (ia == a.size)=true then pure (.done (some (Zb6 a b out ia ib),out,ia,ib,minGallop,acount,bcount))
   else mlC a b minGallop acount bcount out ia ib
  else mlC a b minGallop acount bcount out ia ib
 | _=>pure (.done (some (Zb6 a b out ia ib),out,ia,ib,minGallop,acount,bcount))
def ZjD (a b:Array Keyed):Nat->MLt->StateT SortSt Sem (ForInStep MLt):=λ_ r=>
 let out:=r.2.1;let ia:=r.2.2.1;let ib:=r.2.2.2.1;let minGallop:=r.2.2.2.2.1;let acount:=r.2.2.2.2.2.1;let bcount:=r.2.2.2.2.2.2
 if minGallop > 1 then mlB a b (minGallop-1) acount bcount out ia ib else mlB a b minGallop acount bcount out ia ib
abbrev MLo:=Option (Array Keyed)×Array Keyed×Nat×Nat×Nat
def ZjE (a b:Array Keyed):Nat->MLo->StateT SortSt Sem (ForInStep MLo):=λ_ r=>
 let out:=r.2.1;let ia:=r.2.2.1;let ib:=r.2.2.2.1;let minGallop:=r.2.2.2.2
 do
 let r <- forIn [:a.size+b.size] ((none,out,ia,ib,0,0):MLs) (ZjC a b minGallop)
 match r.1 with
 | some x=>pure (.done (some x,r.2.1,r.2.2.1,r.2.2.2.1,minGallop))
 | none=>do
  liftM (rule "list.sort.gallop")
  let r <- forIn [:a.size+b.size] ((none,r.2.1,r.2.2.1,r.2.2.2.1,minGallop+1,r.2.2.2.2.1,r.2.2.2.2.2):MLt) (ZjD a b)
  match r.1 with
  | some x=>pure (.done (some x,r.2.1,r.2.2.1,r.2.2.2.1,r.2.2.2.2.1))
  | none=>do
   Zdr (r.2.2.2.2.1+1)
   pure (.yield (none,r.2.1,r.2.2.1,r.2.2.2.1,r.2.2.2.2.1+1))
theorem Za4 {α β:Type} {m:StateT SortSt Sem α} {f g:α->StateT SortSt Sem β} (h:∀ x,f x=g x):m >>= f=m >>= g:=by rw [funext h]
theorem Zel {α:Type} {c:Prop} [Decidable c] {x y u v:α} (h1:x=y) (h2:u=v):(if c then x else u)=if c then y else v:=by rw [h1,h2]
theorem Zds {β:Type} {r:Std.Legacy.Range} {c:β} {f g:Nat->β->StateT SortSt Sem (ForInStep β)} (h:∀ i x,f i x=g i x):forIn r c f=forIn r c g:=by rw [funext λi=>funext (h i)]
theorem ZfG (a b:Array Keyed):Zei a b=(do
  liftM (rule "list.sort.merge-lo")
  let x <- elem' b 0
  let out:=#[x]
  if (1 == b.size)=true then pure (Zb6 a b out 0 1)
  else if (0+1 == a.size)=true then pure (ZdV a b out 0 1)
  else do
   let st <- get
   let r <- forIn [:a.size+b.size] ((none,out,0,1,gallopOf st):MLo) (ZjE a b)
   match r.1 with
   | some r=>pure r
   | none=>liftM (unsupported "internal:list.sort.merge-bound")):=by
 refine Za4 (m:=liftM (rule "list.sort.merge-lo")) λ_=>?_
 refine Za4 (m:=elem' b 0) λx=>?_
 refine Zel (c:=(1 == b.size)=true) rfl ?_
 refine Zel (c:=(0+1 == a.size)=true) rfl ?_
 refine Za4 (m:=get) λst=>?_
 refine (congrArg (λm:StateT SortSt Sem MLo=>m >>= _) (Zds (r:=[:a.size+b.size]) (c:=((none,#[x],0,1,gallopOf st):MLo)) (g:=ZjE a b) λi r=>?_)).trans ?_
 rotate_left
 ·refine Za4 λr=>?_
  obtain ⟨r1,r2⟩:=r
  cases r1 <;> rfl
 unfold ZjE
 refine (congrArg (λm:StateT SortSt Sem MLs=>m >>= _) (Zds (r:=[:a.size+b.size]) (g:=ZjC a b r.2.2.2.2) λi r=>rfl)).trans ?_
 refine Za4 λq=>?_
 obtain ⟨q1,q2⟩:=q
 cases q1 with
 | some z=>rfl
 | none=>
  refine Za4 (m:=liftM (rule "list.sort.gallop")) λ_=>?_
  refine (congrArg (λm:StateT SortSt Sem MLt=>m >>= _) (Zds (r:=[:a.size+b.size]) (g:=ZjD a b) λi r=>rfl)).trans ?_
  refine Za4 λq=>?_
  obtain ⟨q1,q2⟩:=q
  cases q1 <;> rfl
end L2
namespace L2
open PySem PySem.Spec PyProof.Rows
section
variable {b:Keyed->Keyed->Bool}
abbrev kle (b:Keyed->Keyed->Bool) (x y:Keyed):Prop:=b y x=false
theorem WO.le_trans (W:WO b) {x y z:Keyed} (h1:kle b x y) (h2:kle b y z):kle b x z:=by
 cases h:b z x with
 | false=>exact h
 | true=>
  rcases W.neg z y x h with q | q
  ·rw [show b z y=false from h2] at q;cases q
  ·rw [show b y x=false from h1] at q;cases q
theorem WO.le_of_lt (W:WO b) {x y:Keyed} (h:b x y=true):kle b x y:=by
 cases q:b y x with
 | false=>exact q
 | true=>
  have:=W.tr _ _ _ h q
  rw [W.irr] at this;cases this
theorem WO.le_refl (W:WO b) (x:Keyed):kle b x x:=W.irr x
structure Mrg (b:Keyed->Keyed->Bool) (all out ra rb:List Keyed):Prop where
 perm:(out++ra++rb).Perm all
 so:out.Pairwise (kle b)
 le:∀ x∈out,∀ y∈ra++rb,kle b x y
 sa:ra.Pairwise (kle b)
 sb:rb.Pairwise (kle b)
theorem Mrg.len {all out ra rb:List Keyed} (h:Mrg b all out ra rb):out.length+ra.length+rb.length=all.length:=by
 have:=h.perm.length_eq
 rw [List.length_append,List.length_append] at this
 exact this
theorem Mrg.moveA {all out u ra rb:List Keyed} (h:Mrg b all out (u++ra) rb) (hu:∀ x∈u,∀ y∈rb,kle b x y):Mrg b all (out++u) ra rb:=by
 have sa:=List.pairwise_append.mp h.sa
 refine ⟨by rw [List.append_assoc out u ra];exact h.perm,List.pairwise_append.mpr ⟨h.so,sa.1,λx hx y hy=>h.le x hx y (by simp [hy])⟩,λx hx y hy=>?_,sa.2.1,h.sb⟩
 rcases List.mem_append.mp hx with hx | hx
 ·refine h.le x hx y ?_
  rcases List.mem_append.mp hy with hy | hy
  ·simp [hy]
  ·simp [hy]
 ·rcases List.mem_append.mp hy with hy | hy
  ·exact sa.2.2 x hx y hy
  ·exact hu x hx y hy
theorem Mrg.moveB {all out u ra rb:List Keyed} (h:Mrg b all out ra (u++rb)) (hu:∀ x∈u,∀ y∈ra,kle b x y):Mrg b all (out++u) ra rb:=by
 have sb:=List.pairwise_append.mp h.sb
 refine ⟨?_,List.pairwise_append.mpr ⟨h.so,sb.1,λx hx y hy=>h.le x hx y (by simp [hy])⟩,λx hx y hy=>?_,h.sa,sb.2.1⟩
 ·refine List.Perm.trans ?_ h.perm
  simp only [List.append_assoc]
  refine List.Perm.append_left _ ?_
  rw [<-List.append_assoc,<-List.append_assoc]
  exact List.Perm.append_right _ List.perm_append_comm
 ·rcases List.mem_append.mp hx with hx | hx
  ·refine h.le x hx y ?_
   rcases List.mem_append.mp hy with hy | hy
   ·simp [hy]
   ·simp [hy]
  ·rcases List.mem_append.mp hy with hy | hy
   ·exact hu x hx y hy
   ·exact sb.2.2 x hx y hy
def Zbd (b:Keyed->Keyed->Bool) (all r:List Keyed):Prop:=r.Perm all/\r.Pairwise (kle b)
theorem Mrg.endA {all out ra rb:List Keyed} (h:Mrg b all out ra rb) (hz:∀ x∈ra,∀ y∈rb,kle b x y):Zbd b all (out++ra++rb):=by
 refine ⟨h.perm,?_⟩
 rw [List.append_assoc]
 exact List.pairwise_append.mpr ⟨h.so,List.pairwise_append.mpr ⟨h.sa,h.sb,hz⟩,h.le⟩
theorem Mrg.endB {all out ra rb:List Keyed} (h:Mrg b all out ra rb) (hz:∀ x∈rb,∀ y∈ra,kle b x y):Zbd b all (out++rb++ra):=by
 refine ⟨?_,?_⟩
 ·refine List.Perm.trans ?_ h.perm
  rw [List.append_assoc,List.append_assoc]
  exact List.Perm.append_left _ List.perm_append_comm
 ·rw [List.append_assoc]
  exact List.pairwise_append.mpr ⟨h.so,List.pairwise_append.mpr ⟨h.sb,h.sa,hz⟩,λx hx y hy=>h.le x hx y (by
   rcases List.mem_append.mp hy with hy | hy <;> simp [hy])⟩
end
theorem Zc8 (a:Array Keyed) (i:Nat):(a.extract i).toList=a.toList.drop i:=by
 rw [Array.toList_extract,List.extract_eq_take_drop,List.take_of_length_le]
 rw [List.length_drop]
 exact Nat.le_refl _
theorem Zgn (a:Array Keyed) (i k:Nat):(a.extract i (i+k)).toList=(a.toList.drop i).take k:=by
 rw [Array.toList_extract,List.extract_eq_take_drop,Nat.add_sub_cancel_left]
theorem Zbk {a:Array Keyed} {i:Nat} {x:Keyed} (h:a[i]?=some x):a.toList.drop i=x::a.toList.drop (i+1):=by
 rw [<-Array.getElem?_toList] at h
 obtain ⟨h1,h2⟩:=List.getElem?_eq_some_iff.mp h
 rw [List.drop_eq_getElem_cons h1,h2]
def SameG (st st':SortSt):Prop:=kindOf st'=kindOf st/\arrOf st'=arrOf st/\pendingOf st'=pendingOf st/\failedOf st'=failedOf st
theorem SameG.refl (st:SortSt):SameG st st:=⟨rfl,rfl,rfl,rfl⟩
theorem SameG.trans {st st' st'':SortSt} (h:SameG st st') (k:SameG st' st''):SameG st st'':=⟨k.1.trans h.1,k.2.1.trans h.2.1,k.2.2.1.trans h.2.2.1,k.2.2.2.trans h.2.2.2⟩
section
variable {M:Model} {A:Around} {E:Value->Shared->Prop} {s:Shared} {kd:SortKind} {b:Keyed->Keyed->Bool} {good:Keyed->Prop}
theorem ZbY {g:Nat} {st:SortSt} {Q:Unit->SortSt->Prop} (q:∀ st',SameG st st'->Q () st'):wpS M A E s (Zdr g) Q st:=by
 refine wpS_modify (f:=λs=>SortSt.mk' (kindOf s) (arrOf s) (pendingOf s) g (failedOf s)) (q _ ⟨rfl,rfl,rfl,rfl⟩)
structure Two (b:Keyed->Keyed->Bool) (good:Keyed->Prop) (a c:Array Keyed):Prop where
 ga:∀ x∈a.toList,good x
 gc:∀ x∈c.toList,good x
 sa:a.toList.Pairwise (kle b)
 sc:c.toList.Pairwise (kle b)
 na:0<a.size
 nc:0<c.size
 first:∀ x,c[0]?=some x->∀ y∈a.toList,kle b x y
 last:∀ z,a[a.size-1]?=some z->∀ y∈c.toList,kle b y z
variable {a c:Array Keyed}
theorem Two.at (T:Two b good a c) {i:Nat} (h:i<a.size):∃ x,a[i]?=some x/\good x:=⟨a[i],by simp [h],T.ga _ (by simp)⟩
theorem Two.ct (T:Two b good a c) {i:Nat} (h:i<c.size):∃ x,c[i]?=some x/\good x:=⟨c[i],by simp [h],T.gc _ (by simp)⟩
def ML (b:Keyed->Keyed->Bool) (a c out:Array Keyed) (ia ib:Nat):Prop:=Mrg b (a.toList++c.toList) out.toList (a.toList.drop ia) (c.toList.drop ib)
theorem ML.done {out:Array Keyed} {ia ib:Nat} (h:ML b a c out ia ib) (e:ib=c.size\/ia=a.size):Zbd b (a.toList++c.toList) (Zb6 a c out ia ib).toList:=by
 unfold Zb6
 rw [Array.toList_append,Array.toList_append,Zc8,Zc8]
 refine Mrg.endA h λx hx y hy=>?_
 rcases e with e | e
 ·rw [List.drop_of_length_le (by rw [e,Array.length_toList];exact Nat.le_refl _)] at hy
  cases hy
 ·rw [List.drop_of_length_le (by rw [e,Array.length_toList];exact Nat.le_refl _)] at hx
  cases hx
theorem ML.last {out:Array Keyed} {ia ib:Nat} (T:Two b good a c) (h:ML b a c out ia ib) (e:ia+1=a.size):Zbd b (a.toList++c.toList) (ZdV a c out ia ib).toList:=by
 unfold ZdV
 rw [Array.toList_append,Array.toList_append,Zc8,Zc8]
 refine Mrg.endB h λx hx y hy=>?_
 obtain ⟨z,hz,_⟩:=T.at (i:=ia) (by omega)
 rw [Zbk hz,List.drop_of_length_le (by rw [Array.length_toList];omega)] at hy
 have:y=z:=by simpa using hy
 subst this
 exact T.last y (by rw [<-e];exact hz) x (List.mem_of_mem_drop hx)
theorem ML.pushB {out:Array Keyed} {ia ib:Nat} {x:Keyed} (h:ML b a c out ia ib) (hx:c[ib]?=some x) (hl:∀ y∈a.toList.drop ia,kle b x y):ML b a c (out.push x) ia (ib+1):=by
 unfold ML at h ⊢
 rw [Array.toList_push]
 rw [Zbk hx] at h
 exact Mrg.moveB (u:=[x]) h λz hz y hy=>by
  have:z=x:=by simpa using hz
  subst this
  exact hl y hy
theorem ML.pushA {out:Array Keyed} {ia ib:Nat} {x:Keyed} (h:ML b a c out ia ib) (hx:a[ia]?=some x) (hl:∀ y∈c.toList.drop ib,kle b x y):ML b a c (out.push x) (ia+1) ib:=by
 unfold ML at h ⊢
 rw [Array.toList_push]
 rw [Zbk hx] at h
 exact Mrg.moveA (u:=[x]) h λz hz y hy=>by
  have:z=x:=by simpa using hz
  subst this
  exact hl y hy
theorem ML.takeA {out:Array Keyed} {ia ib k:Nat} (h:ML b a c out ia ib) (hl:∀ x∈(a.toList.drop ia).take k,∀ y∈c.toList.drop ib,kle b x y):ML b a c (out++a.extract ia (ia+k)) (ia+k) ib:=by
 unfold ML at h ⊢
 rw [Array.toList_append,Zgn]
 rw [<-List.take_append_drop k (a.toList.drop ia),List.drop_drop] at h
 exact Mrg.moveA h hl
theorem ML.takeB {out:Array Keyed} {ia ib k:Nat} (h:ML b a c out ia ib) (hl:∀ x∈(c.toList.drop ib).take k,∀ y∈a.toList.drop ia,kle b x y):ML b a c (out++c.extract ib (ib+k)) ia (ib+k):=by
 unfold ML at h ⊢
 rw [Array.toList_append,Zgn]
 rw [<-List.take_append_drop k (c.toList.drop ib),List.drop_drop] at h
 exact Mrg.moveB h hl
theorem Zem {l:List Keyed} {x:Keyed} (W:WO b) (h:(x::l).Pairwise (kle b)):∀ y∈x::l,kle b x y:=λy hy=>by
 rcases List.mem_cons.mp hy with rfl | hy
 ·exact W.le_refl _
 ·exact (List.pairwise_cons.mp h).1 y hy
theorem Zip (W:WO b) (L:ZcZ M A E s kd b good) (T:Two b good a c) {out:Array Keyed} {ia ib mg:Nat} {st:SortSt} (hs:kindOf st=kd) (h:ML b a c out ia ib) (h1:ia+1<a.size) (h2:ib<c.size)
  {Q:MLs->SortSt->Prop} (q1:∀ r y st',SameG st st'->Zbd b (a.toList++c.toList) r.toList->Q (some r,y) st')
  (q2:∀ out' ia' ib' ac bc st',SameG st st'->ML b a c out' ia' ib'->ia'+1<a.size->ib'<c.size->out.size<out'.size->Q (none,out',ia',ib',ac,bc) st') :
  wpS M A E s (forIn [:a.size+c.size] ((none,out,ia,ib,0,0):MLs) (ZjC a c mg)) Q st:=by
 refine wpS_forRange (λk r st'=>SameG st st'/\∃ out' ia' ib' ac bc,r=(none,out',ia',ib',ac,bc)/\ML b a c out' ia' ib'/\ia'+1<a.size/\ib'<c.size/\out.size+k<=out'.size) ?_ ?_ ⟨SameG.refl _,_,_,_,_,_,rfl,h,h1,h2,Nat.le_refl _⟩
 ·rintro k r st1 _ hk ⟨sg,out',ia',ib',ac,bc,rfl,h,h1,h2,h3⟩
  have hs1:kindOf st1=kd:=sg.1.trans hs
  unfold ZjC
  dsimp only
  obtain ⟨x,hx,gx⟩:=T.ct h2
  obtain ⟨y,hy,gy⟩:=T.at (i:=ia') (by omega)
  refine wpS_bind (Zay hx (wpS_bind (Zay hy (wpS_bind (L x y st1 _ gx gy hs1 ?_)))))
  have sA:(a.toList.drop ia').Pairwise (kle b):=h.sa
  have sB:(c.toList.drop ib').Pairwise (kle b):=h.sb
  rw [Zbk hy] at sA
  rw [Zbk hx] at sB
  dsimp only
  cases hb:b x y with
  | true=>
   rw [if_pos rfl]
   refine wpS_bind (Zay hx ?_)
   have h':=h.pushB hx λz hz=>by
    rw [Zbk hy] at hz
    exact W.le_trans (W.le_of_lt hb) (Zem W sA z hz)
   split
   ·rename_i e
    exact wpS_pure (q1 _ _ _ sg (h'.done (.inl (eq_of_beq e))))
   ·rename_i e
    have e:ib'+1<c.size:=by
     have:ib'+1≠c.size:=λz=>e (beq_iff_eq.mpr z)
     omega
    split
    ·exact wpS_pure (q2 _ _ _ _ _ _ sg h' h1 e (by rw [Array.size_push];omega))
    ·exact wpS_pure ⟨sg,_,_,_,_,_,rfl,h',h1,e,by rw [Array.size_push];omega⟩
  | false=>
   rw [if_neg Bool.false_ne_true]
   refine wpS_bind (Zay hy ?_)
   have h':=h.pushA hy λz hz=>by
    rw [Zbk hx] at hz
    exact W.le_trans hb (Zem W sB z hz)
   split
   ·rename_i e
    exact wpS_pure (q1 _ _ _ sg (h'.last T (eq_of_beq e)))
   ·rename_i e
    have e:ia'+1+1<a.size:=by
     have:ia'+1+1≠a.size:=λz=>e (beq_iff_eq.mpr z)
     omega
    split
    ·exact wpS_pure (q2 _ _ _ _ _ _ sg h' e h2 (by rw [Array.size_push];omega))
    ·exact wpS_pure ⟨sg,_,_,_,_,_,rfl,h',e,h2,by rw [Array.size_push];omega⟩
 ·rintro r st1 ⟨sg,out',ia',ib',ac,bc,rfl,h,h1,h2,h3⟩
  exact q2 _ _ _ _ _ _ sg h h1 h2 (by have:=T.na;simp at h3;omega)
end
end L2
namespace L2
open PySem PySem.Spec PyProof.Rows
def Rng (b:Keyed->Keyed->Bool) (arr:Array Keyed) (lo hi:Nat):Prop:=∀ i j x y,lo<=i->i<=j->j<hi->arr[i]?=some x->arr[j]?=some y->kle b x y
section
variable {M:Model} {A:Around} {E:Value->Shared->Prop} {s:Shared} {kd:SortKind} {b:Keyed->Keyed->Bool} {good:Keyed->Prop}
theorem ZjF (W:WO b):∀ {l:List Keyed} {i j:Nat} {x y:Keyed},l.Pairwise (kle b)->i<=j->l[i]?=some x->l[j]?=some y->kle b x y
 | [],_,_,_,_,_,_,h,_=>by simp at h
 | z::l,0,0,x,y,_,_,h1,h2=>by
  simp at h1 h2
  subst h1 h2
  exact W.le_refl _
 | z::l,0,j+1,x,y,h,_,h1,h2=>by
  simp at h1 h2
  subst h1
  exact (List.pairwise_cons.mp h).1 y (List.mem_of_getElem? h2)
 | z::l,i+1,0,_,_,_,h,_,_=>by omega
 | z::l,i+1,j+1,x,y,h,hij,h1,h2=>by
  simp at h1 h2
  exact ZjF W (List.pairwise_cons.mp h).2 (by omega) h1 h2
theorem Zko (W:WO b) {arr:Array Keyed} {lo:Nat} (h:(arr.toList.drop lo).Pairwise (kle b)):Rng b arr lo arr.size:=λi j x y h1 h2 h3 e1 e2=>by
 refine ZjF (i:=i-lo) (j:=j-lo) W h (by omega) ?_ ?_
 ·rw [List.getElem?_drop,Nat.add_sub_cancel' h1,Array.getElem?_toList];exact e1
 ·rw [List.getElem?_drop,Nat.add_sub_cancel' (Nat.le_trans h1 h2),Array.getElem?_toList];exact e2
theorem ZdW (W:WO b) {left:Bool} {key:Keyed} {arr:Array Keyed} {base n:Nat} (hk:good key) (hg:∀ i,i<n->∃ x,arr[base+i]?=some x/\good x) (h:Rng b arr base (base+n)):Gal b good left key arr base n:=by
 refine ⟨hk,hg,λi j h1 h2 h3=>?_⟩
 obtain ⟨x,hx,_⟩:=hg i (by omega)
 obtain ⟨y,hy,_⟩:=hg j h2
 have hxy:=h (base+i) (base+j) x y (by omega) (by omega) (by omega) hx hy
 unfold byd at h3 ⊢
 rw [hy] at h3
 rw [hx]
 dsimp only at h3 ⊢
 cases left with
 | true=>
  rw [if_pos rfl] at h3 ⊢
  rcases W.neg y x key h3 with z | z
  ·rw [show b y x=false from hxy] at z;cases z
  ·exact z
 | false=>
  rw [if_neg Bool.false_ne_true] at h3 ⊢
  rw [Bool.not_eq_true'] at h3 ⊢
  exact W.le_trans (x:=x) (y:=y) (z:=key) hxy h3
variable {a c:Array Keyed}
theorem Zgo {arr:Array Keyed} {base k:Nat} {x:Keyed} (h:x∈(arr.toList.drop base).take k):∃ i,i<k/\arr[base+i]?=some x:=by
 obtain ⟨i,hi⟩:=List.mem_iff_getElem?.mp h
 rw [List.getElem?_take] at hi
 split at hi
 ·rw [List.getElem?_drop,Array.getElem?_toList] at hi
  exact ⟨i,by assumption,hi⟩
 ·cases hi
theorem Zgp {arr:Array Keyed} {base:Nat} {x:Keyed} (h:x∈arr.toList.drop base):∃ i,base+i<arr.size/\arr[base+i]?=some x:=by
 obtain ⟨i,hi⟩:=List.mem_iff_getElem?.mp h
 rw [List.getElem?_drop,Array.getElem?_toList] at hi
 exact ⟨i,(Array.getElem?_eq_some_iff.mp hi).1,hi⟩
section
variable {out:Array Keyed} {ia ib:Nat} {st:SortSt} {Q:ForInStep MLt->SortSt->Prop}
structure ZjG (b:Keyed->Keyed->Bool) (a c:Array Keyed) (n:Nat) (st:SortSt) (Q:ForInStep MLt->SortSt->Prop):Prop where
 fin:∀ r y st',SameG st st'->Zbd b (a.toList++c.toList) r.toList->Q (.done (some r,y)) st'
 brk:∀ out' ia' ib' y st',SameG st st'->ML b a c out' ia' ib'->ia'+1<a.size->ib'<c.size->n<=out'.size->Q (.done (none,out',ia',ib',y)) st'
 go:∀ out' ia' ib' y st',SameG st st'->ML b a c out' ia' ib'->ia'+1<a.size->ib'<c.size->n<=out'.size->Q (.yield (none,out',ia',ib',y)) st'
theorem Ziq (T:Two b good a c) {mg ac k n:Nat} (R:ZjG b a c n st Q) (h:ML b a c out ia ib) (h1:ia+1<a.size) (h2:ib<c.size) (hn:n<=out.size) (hl:∀ x,a[ia]?=some x->∀ y∈c.toList.drop ib,kle b x y) :
  wpS M A E s (mlD a c mg ac k out ia ib) Q st:=by
 unfold mlD
 obtain ⟨x,hx,gx⟩:=T.at (i:=ia) (by omega)
 refine wpS_bind (Zay hx ?_)
 have h':=h.pushA hx (hl x hx)
 have hn':n<=(out.push x).size:=by rw [Array.size_push];omega
 dsimp only
 split
 ·rename_i e
  exact wpS_pure (R.fin _ _ _ (SameG.refl _) (h'.last T (eq_of_beq e)))
 ·rename_i e
  have e:ia+1+1<a.size:=by
   have:ia+1+1≠a.size:=λz=>e (beq_iff_eq.mpr z)
   omega
  split
  ·exact wpS_pure (R.brk _ _ _ _ _ (SameG.refl _) h' e h2 hn')
  ·exact wpS_pure (R.go _ _ _ _ _ (SameG.refl _) h' e h2 hn')
theorem Zir (W:WO b) (L:ZcZ M A E s kd b good) (T:Two b good a c) {mg ac bc n:Nat} (R:ZjG b a c n st Q) (hs:kindOf st=kd) (h:ML b a c out ia ib) (h1:ia+1<a.size) (h2:ib<c.size) (hn:n<=out.size)
  (hl:∀ x,c[ib]?=some x->∀ y∈a.toList.drop ia,kle b x y):wpS M A E s (mlC a c mg ac bc out ia ib) Q st:=by
 unfold mlC
 obtain ⟨x,hx,gx⟩:=T.ct h2
 obtain ⟨y,hy,gy⟩:=T.at (i:=ia) (by omega)
 refine wpS_bind (Zay hx ?_)
 have h':=h.pushB hx (hl x hx)
 have hn':n<=(out.push x).size:=by rw [Array.size_push];omega
 generalize out.push x=out1 at h' hn'
 dsimp only
 split
 ·rename_i e
  exact wpS_pure (R.fin _ _ _ (SameG.refl _) (h'.done (.inl (eq_of_beq e))))
 ·rename_i e
  have e:ib+1<c.size:=by
   have:ib+1≠c.size:=λz=>e (beq_iff_eq.mpr z)
   omega
  refine wpS_bind (Zay hy ?_)
  have sB:Rng b c (ib+1) c.size:=Zko W h'.sb
  have sA:(a.toList.drop ia).Pairwise (kle b):=h'.sa
  rw [Zbk hy] at sA
  have G:Gal b good true y c (ib+1) (c.size-(ib+1)):=ZdW W gy (λi hi=>T.ct (by omega)) (by rw [Nat.add_sub_cancel' (by omega)];exact sB)
  refine wpS_bind (Zbg L G hs (by omega) λk hk k1 k2=>?_)
  dsimp only
  have tk:∀ z∈(c.toList.drop (ib+1)).take k,∀ v∈a.toList.drop ia,kle b z v:=λz hz v hv=>by
   obtain ⟨i,hi,ez⟩:=Zgo hz
   have:=k1 i hi
   unfold byd at this
   rw [ez] at this
   dsimp only at this
   rw [if_pos rfl] at this
   rw [Zbk hy] at hv
   exact W.le_trans (W.le_of_lt this) (Zem W sA v hv)
  have tr:∀ v∈c.toList.drop (ib+1+k),kle b y v:=λv hv=>by
   obtain ⟨i,hi,ev⟩:=Zgp hv
   have:=k2 (k+i) (by omega) (by omega)
   unfold byd at this
   rw [show ib+1+(k+i)=ib+1+k+i by omega,ev] at this
   dsimp only at this
   rw [if_pos rfl] at this
   exact this
  split
  ·have h3:=h'.takeB tk
   have hn3:n<=(out1++c.extract (ib+1) (ib+1+k)).size:=by rw [Array.size_append];omega
   split
   ·rename_i e2
    exact wpS_pure (R.fin _ _ _ (SameG.refl _) (h3.done (.inl (eq_of_beq e2))))
   ·rename_i e2
    have e2:ib+1+k<c.size:=by
     have:ib+1+k≠c.size:=λz=>e2 (beq_iff_eq.mpr z)
     omega
    exact Ziq T R h3 h1 e2 hn3 λx' hx' v hv=>by
     rw [hy] at hx';cases hx'
     exact tr v hv
  ·rename_i hk0
   have:k=0:=by omega
   subst this
   exact Ziq T R h' h1 e hn' λx' hx' v hv=>by
    rw [hy] at hx';cases hx'
    exact tr v hv
theorem Zlj (W:WO b) (L:ZcZ M A E s kd b good) (T:Two b good a c) {mg ac bc n:Nat} (R:∀ st',SameG st st'->ZjG b a c n st' Q) (hs:kindOf st=kd) (h:ML b a c out ia ib) (h1:ia+1<a.size) (h2:ib<c.size) (hn:n<=out.size) :
  wpS M A E s (mlB a c mg ac bc out ia ib) Q st:=by
 unfold mlB
 refine wpS_bind (ZbY λst1 sg=>?_)
 have R:=R st1 sg
 have hs1:kindOf st1=kd:=sg.1.trans hs
 obtain ⟨x,hx,gx⟩:=T.ct h2
 refine wpS_bind (Zay hx ?_)
 have sA:Rng b a ia a.size:=Zko W h.sa
 have sB:(c.toList.drop ib).Pairwise (kle b):=h.sb
 rw [Zbk hx] at sB
 have G:Gal b good false x a ia (a.size-ia):=ZdW W gx (λi hi=>T.at (by omega)) (by rw [Nat.add_sub_cancel' (by omega)];exact sA)
 refine wpS_bind (Zbg L G hs1 (by omega) λk hk k1 k2=>?_)
 dsimp only
 have tk:∀ z∈(a.toList.drop ia).take k,∀ v∈c.toList.drop ib,kle b z v:=λz hz v hv=>by
  obtain ⟨i,hi,ez⟩:=Zgo hz
  have:=k1 i hi
  unfold byd at this
  rw [ez] at this
  dsimp only at this
  rw [if_neg Bool.false_ne_true,Bool.not_eq_true'] at this
  rw [Zbk hx] at hv
  exact W.le_trans this (Zem W sB v hv)
 have tr:∀ v∈a.toList.drop (ia+k),kle b x v:=λv hv=>by
  obtain ⟨i,hi,ev⟩:=Zgp hv
  have:=k2 (k+i) (by omega) (by omega)
  unfold byd at this
  rw [show ia+(k+i)=ia+k+i by omega,ev] at this
  dsimp only at this
  rw [if_neg Bool.false_ne_true,Bool.not_eq_false'] at this
  exact W.le_of_lt this
 split
 ·have h3:=h.takeA tk
  have hn3:n<=(out++a.extract ia (ia+k)).size:=by rw [Array.size_append];omega
  split
  ·rename_i e2
   exact wpS_pure (R.fin _ _ _ (SameG.refl _) (h3.last T (eq_of_beq e2)))
  ·rename_i e2
   split
   ·rename_i e3
    exact wpS_pure (R.fin _ _ _ (SameG.refl _) (h3.done (.inr (eq_of_beq e3))))
   ·rename_i e3
    have e4:ia+k+1<a.size:=by
     have:ia+k+1≠a.size:=λz=>e2 (beq_iff_eq.mpr z)
     have:ia+k≠a.size:=λz=>e3 (beq_iff_eq.mpr z)
     omega
    exact Zir W L T R hs1 h3 e4 h2 hn3 λx' hx' v hv=>by
     rw [hx] at hx';cases hx'
     exact tr v hv
 ·have:k=0:=by omega
  subst this
  exact Zir W L T R hs1 h h1 h2 hn λx' hx' v hv=>by
   rw [hx] at hx';cases hx'
   exact tr v hv
end
theorem Zis (W:WO b) (L:ZcZ M A E s kd b good) (T:Two b good a c) {out:Array Keyed} {ia ib n:Nat} {y:Nat×Nat×Nat} {st:SortSt} (hs:kindOf st=kd) (h:ML b a c out ia ib) (h1:ia+1<a.size) (h2:ib<c.size)
  {Q:MLt->SortSt->Prop} (q1:∀ r y st',SameG st st'->Zbd b (a.toList++c.toList) r.toList->Q (some r,y) st')
  (q2:∀ out' ia' ib' y st',SameG st st'->ML b a c out' ia' ib'->ia'+1<a.size->ib'<c.size->out.size<=out'.size->Q (none,out',ia',ib',y) st') :
  wpS M A E s (forIn [:n] ((none,out,ia,ib,y):MLt) (ZjD a c)) Q st:=by
 refine wpS_forRange (λk r st'=>SameG st st'/\∃ out' ia' ib' y,r=(none,out',ia',ib',y)/\ML b a c out' ia' ib'/\ia'+1<a.size/\ib'<c.size/\out.size<=out'.size) ?_ ?_ ⟨SameG.refl _,_,_,_,_,rfl,h,h1,h2,Nat.le_refl _⟩
 ·rintro k r st1 _ hk ⟨sg,out',ia',ib',y,rfl,h,h1,h2,h3⟩
  have hs1:kindOf st1=kd:=sg.1.trans hs
  have R:∀ st',SameG st1 st'->ZjG b a c out.size st' (λr st'=>match r with
   | .done c'=>Q c' st'
   | .yield c'=>SameG st st'/\∃ out' ia' ib' y,c'=(none,out',ia',ib',y)/\ML b a c out' ia' ib'/\ia'+1<a.size/\ib'<c.size/\out.size<=out'.size):=λst' sg'=>
   ⟨λr y st2 g m=>q1 r y st2 ((sg.trans sg').trans g) m,λo i j y st2 g m p1 p2 p3=>q2 o i j y st2 ((sg.trans sg').trans g) m p1 p2 p3,λo i j y st2 g m p1 p2 p3=>⟨(sg.trans sg').trans g,o,i,j,y,rfl,m,p1,p2,p3⟩⟩
  unfold ZjD
  dsimp only
  have mono:∀ mg,wpS M A E s (mlB a c mg y.2.1 y.2.2 out' ia' ib') _ st1:=λmg=>Zlj W L T R hs1 h h1 h2 h3
  split
  ·exact wpS_mono (mono _) λr st' hr=>by cases r <;> exact hr
  ·exact wpS_mono (mono _) λr st' hr=>by cases r <;> exact hr
 ·rintro r st1 ⟨sg,out',ia',ib',y,rfl,h,h1,h2,h3⟩
  exact q2 _ _ _ _ _ sg h h1 h2 h3
theorem ZfH (W:WO b) (L:ZcZ M A E s kd b good) (T:Two b good a c) {st:SortSt} (hs:kindOf st=kd) {Q:Array Keyed->SortSt->Prop}
  (q:∀ r st',SameG st st'->Zbd b (a.toList++c.toList) r.toList->Q r st'):wpS M A E s (Zei a c) Q st:=by
 rw [ZfG]
 refine wpS_bind (wpS_lift (wpAny_rule ⟨rfl,?_⟩))
 obtain ⟨x,hx,gx⟩:=T.ct T.nc
 refine wpS_bind (Zay hx ?_)
 have h0:ML b a c #[x] 0 1:=by
  have z:ML b a c #[] 0 0:=⟨by simp,by simp,by simp,by simpa using T.sa,by simpa using T.sc⟩
  exact z.pushB hx λy hy=>T.first x hx y (by simpa using hy)
 have hc:=T.nc
 have ha:=T.na
 dsimp only
 split
 ·rename_i e
  exact wpS_pure (q _ _ (SameG.refl _) (h0.done (.inl (eq_of_beq e))))
 ·rename_i e
  have e:1<c.size:=by
   have:1≠c.size:=λz=>e (beq_iff_eq.mpr z)
   omega
  split
  ·rename_i e2
   exact wpS_pure (q _ _ (SameG.refl _) (h0.last T (eq_of_beq e2)))
  ·rename_i e2
   have e2:0+1<a.size:=by
    have:0+1≠a.size:=λz=>e2 (beq_iff_eq.mpr z)
    omega
   refine wpS_bind (wpS_get ?_)
   refine wpS_bind (wpS_forRange (λk r st'=>SameG st st'/\∃ out' ia' ib' mg,r=(none,out',ia',ib',mg)/\ML b a c out' ia' ib'/\ia'+1<a.size/\ib'<c.size/\k<out'.size) ?_ ?_ ⟨SameG.refl _,_,_,_,_,rfl,h0,e2,e,by simp⟩)
   ·rintro k r st1 _ hk ⟨sg,out',ia',ib',mg,rfl,h,h1,h2,h3⟩
    have hs1:kindOf st1=kd:=sg.1.trans hs
    unfold ZjE
    dsimp only
    refine wpS_bind (Zip W L T hs1 h h1 h2 (λr y st2 g m=>?_) (λo i j ac bc st2 g m p1 p2 p3=>?_))
    ·refine wpS_pure ?_
     dsimp only
     exact wpS_pure (q r st2 (sg.trans g) m)
    ·dsimp only
     refine wpS_bind (wpS_lift (wpAny_rule ⟨rfl,?_⟩))
     refine wpS_bind (Zis W L T (g.1.trans hs1) m p1 p2 (λr y st3 g3 m3=>?_) (λo3 i3 j3 y3 st3 g3 m3 r1 r2 r3=>?_))
     ·refine wpS_pure ?_
      dsimp only
      exact wpS_pure (q r st3 ((sg.trans g).trans g3) m3)
     ·dsimp only
      refine wpS_bind (ZbY λst4 g4=>?_)
      exact wpS_pure ⟨((sg.trans g).trans g3).trans g4,_,_,_,_,rfl,m3,r1,r2,by omega⟩
   ·rintro r st1 ⟨sg,out',ia',ib',mg,rfl,h,h1,h2,h3⟩
    exfalso
    have:=Mrg.len h
    rw [List.length_append,List.length_drop,List.length_drop,Array.length_toList,Array.length_toList,Array.length_toList] at this
    simp at h3
    omega
end
end L2
namespace L2
open PySem PySem.Spec PyProof.Rows
abbrev MHs:=Option (Array Keyed)×Nat×Nat×Array Keyed×Nat×Nat
abbrev MHt:=Option (Array Keyed)×Nat×Nat×Array Keyed×Nat×Nat×Nat
abbrev MHo:=Option (Array Keyed)×Nat×Nat×Array Keyed×Nat
def Zb7 (a b out:Array Keyed) (na nb:Nat):Array Keyed:=a.extract 0 na++b.extract 0 nb++out.reverse
def ZcR (a b out:Array Keyed) (na nb:Nat):Array Keyed:=b.extract 0 nb++a.extract 0 na++out.reverse
def ZjH (a b:Array Keyed) (mg:Nat):Nat->MHs->StateT SortSt Sem (ForInStep MHs):=λ_ r=>
 let na:=r.2.1;let nb:=r.2.2.1;let out:=r.2.2.2.1;let acount:=r.2.2.2.2.1;let bcount:=r.2.2.2.2.2
 do
 let x <- elem' b (nb-1)
 let y <- elem' a (na-1)
 match <- lt' x y with
 | some aWins=>
  if aWins=true then do
   let na:=na-1
   let z <- elem' a na
   let out:=out.push z
   let acount:=acount+1
   let bcount:=0
   if (na == 0)=true then pure (.done (some (Zb7 a b out na nb),na,nb,out,acount,bcount))
   else if acount>=mg then pure (.done (none,na,nb,out,acount,bcount))
   else pure (.yield (none,na,nb,out,acount,bcount))
  else do
   let nb:=nb-1
   let z <- elem' b nb
   let out:=out.push z
   let bcount:=bcount+1
   let acount:=0
   if (nb == 1)=true then pure (.done (some (ZcR a b out na nb),na,nb,out,acount,bcount))
   else if bcount>=mg then pure (.done (none,na,nb,out,acount,bcount))
   else pure (.yield (none,na,nb,out,acount,bcount))
 | _=>pure (.done (some (Zb7 a b out na nb),na,nb,out,acount,bcount))
def mhD (a b:Array Keyed) (minGallop acount bcount:Nat) (na nb:Nat) (out:Array Keyed):StateT SortSt Sem (ForInStep MHt):=do
 let na:=na-1
 let z <- elem' a na
 let out:=out.push z
 if (na == 0)=true then pure (.done (some (Zb7 a b out na nb),na,nb,out,minGallop,acount,bcount))
 else if (decide (acount<7) && decide (bcount<7))=true then pure (.done (none,na,nb,out,minGallop,acount,bcount))
 else pure (.yield (none,na,nb,out,minGallop,acount,bcount))
def mhC (a b:Array Keyed) (minGallop acount bcount:Nat) (na nb:Nat) (out:Array Keyed):StateT SortSt Sem (ForInStep MHt):=do
 let nb:=nb-1
 let z <- elem' b nb
 let out:=out.push z
 if (nb == 1)=true then pure (.done (some (ZcR a b out na nb),na,nb,out,minGallop,acount,bcount))
 else do
  let y <- elem' a (na-1)
  match <- ZbK true y b 0 nb (nb-1) with
  | some at_=>
   let k:=nb-at_
   let bcount:=k
   if k > 0 then
    let out:=out++(b.extract at_ nb).reverse
    let nb:=at_
    if (nb == 1)=true then pure (.done (some (ZcR a b out na nb),na,nb,out,minGallop,acount,bcount))
    else if (nb == 0)=true then pure (.done (some (Zb7 a b out na nb),na,nb,out,minGallop,acount,bcount))
    else mhD a b minGallop acount bcount na nb out
   else mhD a b minGallop acount bcount na nb out
  | _=>pure (.done (some (Zb7 a b out na nb),na,nb,out,minGallop,acount,bcount))
def mhB (a b:Array Keyed) (minGallop acount bcount:Nat) (na nb:Nat) (out:Array Keyed):StateT SortSt Sem (ForInStep MHt):=do
 Zdr minGallop
 let x <- elem' b (nb-1)
 match <- ZbK false x a 0 na (na-1) with
 | some at_=>
  let k:=na-at_
  let acount:=k
  if k > 0 then
   let out:=out++(a.extract at_ na).reverse
   let na:=at_
   if (na == 0)=true then pure (.done (some (Zb7 a b out na nb),na,nb,out,minGallop,acount,bcount))
   else mhC a b minGallop acount bcount na nb out
  else mhC a b minGallop acount bcount na nb out
 | _=>pure (.done (some (Zb7 a b out na nb),na,nb,out,minGallop,acount,bcount))
def ZjI (a b:Array Keyed):Nat->MHt->StateT SortSt Sem (ForInStep MHt):=λ_ r=>
 let na:=r.2.1;let nb:=r.2.2.1;let out:=r.2.2.2.1;let minGallop:=r.2.2.2.2.1;let acount:=r.2.2.2.2.2.1;let bcount:=r.2.2.2.2.2.2
 if minGallop > 1 then mhB a b (minGallop-1) acount bcount na nb out else mhB a b minGallop acount bcount na nb out
def ZjJ (a b:Array Keyed):Nat->MHo->StateT SortSt Sem (ForInStep MHo):=λ_ r=>
 let na:=r.2.1;let nb:=r.2.2.1;let out:=r.2.2.2.1;let minGallop:=r.2.2.2.2
 do
 let r <- forIn [:a.size+b.size] ((none,na,nb,out,0,0):MHs) (ZjH a b minGallop)
 match r.1 with
 | some x=>pure (.done (some x,r.2.1,r.2.2.1,r.2.2.2.1,minGallop))
 | none=>do
  liftM (rule "list.sort.gallop")
  let r <- forIn [:a.size+b.size] ((none,r.2.1,r.2.2.1,r.2.2.2.1,minGallop+1,r.2.2.2.2.1,r.2.2.2.2.2):MHt) (ZjI a b)
  match r.1 with
  | some x=>pure (.done (some x,r.2.1,r.2.2.1,r.2.2.2.1,r.2.2.2.2.1))
  | none=>do
   Zdr (r.2.2.2.2.1+1)
   pure (.yield (none,r.2.1,r.2.2.1,r.2.2.2.1,r.2.2.2.2.1+1))
theorem ZfI (a b:Array Keyed):Zej a b=(do
  liftM (rule "list.sort.merge-hi")
  let x <- elem' a (a.size-1)
  let out:=#[x]
  if (a.size-1 == 0)=true then pure (Zb7 a b out (a.size-1) b.size)
  else if (b.size == 1)=true then pure (ZcR a b out (a.size-1) b.size)
  else do
   let st <- get
   let r <- forIn [:a.size+b.size] ((none,a.size-1,b.size,out,gallopOf st):MHo) (ZjJ a b)
   match r.1 with
   | some r=>pure r
   | none=>liftM (unsupported "internal:list.sort.merge-bound")):=by
 refine Za4 (m:=liftM (rule "list.sort.merge-hi")) λ_=>?_
 refine Za4 (m:=elem' a (a.size-1)) λx=>?_
 refine Zel (c:=(a.size-1 == 0)=true) rfl ?_
 refine Zel (c:=(b.size == 1)=true) rfl ?_
 refine Za4 (m:=get) λst=>?_
 refine (congrArg (λm:StateT SortSt Sem MHo=>m >>= _) (Zds (r:=[:a.size+b.size]) (c:=((none,a.size-1,b.size,#[x],gallopOf st):MHo)) (g:=ZjJ a b) λi r=>?_)).trans ?_
 rotate_left
 ·refine Za4 λr=>?_
  obtain ⟨r1,r2⟩:=r
  cases r1 <;> rfl
 unfold ZjJ
 refine (congrArg (λm:StateT SortSt Sem MHs=>m >>= _) (Zds (r:=[:a.size+b.size]) (g:=ZjH a b r.2.2.2.2) λi r=>rfl)).trans ?_
 refine Za4 λq=>?_
 obtain ⟨q1,q2⟩:=q
 cases q1 with
 | some z=>rfl
 | none=>
  refine Za4 (m:=liftM (rule "list.sort.gallop")) λ_=>?_
  refine (congrArg (λm:StateT SortSt Sem MHt=>m >>= _) (Zds (r:=[:a.size+b.size]) (g:=ZjI a b) λi r=>rfl)).trans ?_
  refine Za4 λq=>?_
  obtain ⟨q1,q2⟩:=q
  cases q1 <;> rfl
end L2
namespace L2
open PySem PySem.Spec PyProof.Rows
section
variable {b:Keyed->Keyed->Bool}
structure MrgH (b:Keyed->Keyed->Bool) (all out ra rb:List Keyed):Prop where
 perm:(ra++rb++out).Perm all
 so:out.Pairwise (kle b)
 le:∀ x∈ra++rb,∀ y∈out,kle b x y
 sa:ra.Pairwise (kle b)
 sb:rb.Pairwise (kle b)
theorem MrgH.len {all out ra rb:List Keyed} (h:MrgH b all out ra rb):ra.length+rb.length+out.length=all.length:=by
 have:=h.perm.length_eq
 rw [List.length_append,List.length_append] at this
 exact this
theorem MrgH.moveB {all out u ra rb:List Keyed} (h:MrgH b all out ra (rb++u)) (hu:∀ x∈u,∀ y∈ra,kle b y x):MrgH b all (u++out) ra rb:=by
 have sb:=List.pairwise_append.mp h.sb
 refine ⟨?_,List.pairwise_append.mpr ⟨sb.2.1,h.so,λx hx y hy=>h.le x (by simp [hx]) y hy⟩,λx hx y hy=>?_,h.sa,sb.1⟩
 ·have:=h.perm
  simp only [List.append_assoc] at this ⊢
  exact this
 ·rcases List.mem_append.mp hy with hy | hy
  ·rcases List.mem_append.mp hx with hx | hx
   ·exact hu y hy x hx
   ·exact sb.2.2 x hx y hy
  ·refine h.le x ?_ y hy
   rcases List.mem_append.mp hx with hx | hx <;> simp [hx]
theorem MrgH.moveA {all out u ra rb:List Keyed} (h:MrgH b all out (ra++u) rb) (hu:∀ x∈u,∀ y∈rb,kle b y x):MrgH b all (u++out) ra rb:=by
 have sa:=List.pairwise_append.mp h.sa
 refine ⟨?_,List.pairwise_append.mpr ⟨sa.2.1,h.so,λx hx y hy=>h.le x (by simp [hx]) y hy⟩,λx hx y hy=>?_,sa.1,h.sb⟩
 ·refine List.Perm.trans ?_ h.perm
  simp only [List.append_assoc]
  refine List.Perm.append_left _ ?_
  rw [<-List.append_assoc,<-List.append_assoc]
  exact List.Perm.append_right _ List.perm_append_comm
 ·rcases List.mem_append.mp hy with hy | hy
  ·rcases List.mem_append.mp hx with hx | hx
   ·exact sa.2.2 x hx y hy
   ·exact hu y hy x hx
  ·refine h.le x ?_ y hy
   rcases List.mem_append.mp hx with hx | hx <;> simp [hx]
theorem MrgH.endA {all out ra rb:List Keyed} (h:MrgH b all out ra rb) (hz:∀ x∈ra,∀ y∈rb,kle b x y):Zbd b all (ra++rb++out):=
 ⟨h.perm,List.pairwise_append.mpr ⟨List.pairwise_append.mpr ⟨h.sa,h.sb,hz⟩,h.so,h.le⟩⟩
theorem MrgH.endB {all out ra rb:List Keyed} (h:MrgH b all out ra rb) (hz:∀ x∈rb,∀ y∈ra,kle b x y):Zbd b all (rb++ra++out):=by
 refine ⟨List.Perm.trans (List.Perm.append_right _ List.perm_append_comm) h.perm,List.pairwise_append.mpr ⟨List.pairwise_append.mpr ⟨h.sb,h.sa,hz⟩,h.so,λx hx y hy=>h.le x ?_ y hy⟩⟩
 rcases List.mem_append.mp hx with hx | hx <;> simp [hx]
end
theorem Zgq (a:Array Keyed) (k:Nat):(a.extract 0 k).toList=a.toList.take k:=by
 rw [Array.toList_extract,List.extract_eq_take_drop,List.drop_zero,Nat.sub_zero]
theorem Zit (a:Array Keyed) {i j:Nat} (h:i<=j):a.toList.take j=a.toList.take i++(a.extract i j).toList:=by
 rw [Array.toList_extract,List.extract_eq_take_drop]
 have:=List.take_append_drop i (a.toList.take j)
 rw [List.take_take,Nat.min_eq_left h,List.drop_take] at this
 exact this.symm
theorem Ziu {a:Array Keyed} {i:Nat} {x:Keyed} (h:a[i]?=some x):a.toList.take (i+1)=a.toList.take i++[x]:=by
 rw [<-Array.getElem?_toList] at h
 rw [List.take_add_one,h]
 rfl
theorem taken {arr:Array Keyed} {k:Nat} {x:Keyed} (h:x∈arr.toList.take k):∃ i,i<k/\arr[i]?=some x:=by
 obtain ⟨i,hi⟩:=List.mem_iff_getElem?.mp h
 rw [List.getElem?_take] at hi
 split at hi
 ·rw [Array.getElem?_toList] at hi
  exact ⟨i,by assumption,hi⟩
 ·cases hi
theorem ZfJ {arr:Array Keyed} {i j:Nat} {x:Keyed} (h:x∈(arr.extract i j).toList):∃ k,i<=k/\k<j/\arr[k]?=some x:=by
 rw [Array.toList_extract,List.extract_eq_take_drop] at h
 obtain ⟨k,hk⟩:=List.mem_iff_getElem?.mp h
 rw [List.getElem?_take] at hk
 split at hk
 ·rw [List.getElem?_drop,Array.getElem?_toList] at hk
  exact ⟨i+k,by omega,by omega,hk⟩
 ·cases hk
section
variable {M:Model} {A:Around} {E:Value->Shared->Prop} {s:Shared} {kd:SortKind} {b:Keyed->Keyed->Bool} {good:Keyed->Prop} {a c:Array Keyed}
def MH (b:Keyed->Keyed->Bool) (a c:Array Keyed) (na nb:Nat) (out:Array Keyed):Prop:=MrgH b (a.toList++c.toList) out.toList.reverse (a.toList.take na) (c.toList.take nb)
theorem Ziv (W:WO b) {arr:Array Keyed} {hi:Nat} (h:(arr.toList.take hi).Pairwise (kle b)):Rng b arr 0 (0+hi):=λi j x y h1 h2 h3 e1 e2=>by
 refine ZjF (i:=i) (j:=j) W h h2 ?_ ?_
 ·rw [List.getElem?_take,if_pos (by omega),Array.getElem?_toList];exact e1
 ·rw [List.getElem?_take,if_pos (by omega),Array.getElem?_toList];exact e2
theorem MH.done {out:Array Keyed} {na nb:Nat} (h:MH b a c na nb out) (e:na=0\/nb=0):Zbd b (a.toList++c.toList) (Zb7 a c out na nb).toList:=by
 unfold Zb7
 rw [Array.toList_append,Array.toList_append,Zgq,Zgq,Array.toList_reverse]
 refine MrgH.endA h λx hx y hy=>?_
 rcases e with e | e
 ·rw [e] at hx;simp at hx
 ·rw [e] at hy;simp at hy
theorem MH.first {out:Array Keyed} {na nb:Nat} (T:Two b good a c) (h:MH b a c na nb out) (e:nb=1):Zbd b (a.toList++c.toList) (ZcR a c out na nb).toList:=by
 unfold ZcR
 rw [Array.toList_append,Array.toList_append,Zgq,Zgq,Array.toList_reverse]
 refine MrgH.endB h λx hx y hy=>?_
 obtain ⟨i,hi,ex⟩:=taken hx
 have:i=0:=by omega
 subst this
 exact T.first x ex y (List.mem_of_mem_take hy)
theorem MH.pushB {out:Array Keyed} {na nb:Nat} {x:Keyed} (h:MH b a c na (nb+1) out) (hx:c[nb]?=some x) (hl:∀ y∈a.toList.take na,kle b y x):MH b a c na nb (out.push x):=by
 unfold MH at h ⊢
 rw [Array.toList_push,List.reverse_append]
 rw [Ziu hx] at h
 exact MrgH.moveB (u:=[x]) h λz hz y hy=>by
  have:z=x:=by simpa using hz
  subst this
  exact hl y hy
theorem MH.pushA {out:Array Keyed} {na nb:Nat} {x:Keyed} (h:MH b a c (na+1) nb out) (hx:a[na]?=some x) (hl:∀ y∈c.toList.take nb,kle b y x):MH b a c na nb (out.push x):=by
 unfold MH at h ⊢
 rw [Array.toList_push,List.reverse_append]
 rw [Ziu hx] at h
 exact MrgH.moveA (u:=[x]) h λz hz y hy=>by
  have:z=x:=by simpa using hz
  subst this
  exact hl y hy
theorem MH.takeA {out:Array Keyed} {na nb k:Nat} (h:MH b a c na nb out) (hk:k<=na) (hl:∀ x∈(a.extract k na).toList,∀ y∈c.toList.take nb,kle b y x):MH b a c k nb (out++(a.extract k na).reverse):=by
 unfold MH at h ⊢
 rw [Array.toList_append,Array.toList_reverse,List.reverse_append,List.reverse_reverse]
 rw [Zit a hk] at h
 exact MrgH.moveA h hl
theorem MH.takeB {out:Array Keyed} {na nb k:Nat} (h:MH b a c na nb out) (hk:k<=nb) (hl:∀ x∈(c.extract k nb).toList,∀ y∈a.toList.take na,kle b y x):MH b a c na k (out++(c.extract k nb).reverse):=by
 unfold MH at h ⊢
 rw [Array.toList_append,Array.toList_reverse,List.reverse_append,List.reverse_reverse]
 rw [Zit c hk] at h
 exact MrgH.moveB h hl
theorem Zen (W:WO b) {arr:Array Keyed} {k:Nat} {x:Keyed} (h:(arr.toList.take (k+1)).Pairwise (kle b)) (hx:arr[k]?=some x):∀ y∈arr.toList.take (k+1),kle b y x:=λy hy=>by
 obtain ⟨i,hi,ey⟩:=taken hy
 exact Ziv W h i k y x (Nat.zero_le _) (by omega) (by omega) ey hx
theorem Ziw (W:WO b) (L:ZcZ M A E s kd b good) (T:Two b good a c) {out:Array Keyed} {na nb mg:Nat} {st:SortSt} (hs:kindOf st=kd) (h:MH b a c na nb out) (h1:0<na/\na<=a.size) (h2:1<nb/\nb<=c.size)
  {Q:MHs->SortSt->Prop} (q1:∀ r y st',SameG st st'->Zbd b (a.toList++c.toList) r.toList->Q (some r,y) st')
  (q2:∀ na' nb' out' ac bc st',SameG st st'->MH b a c na' nb' out'->(0<na'/\na'<=a.size)->(1<nb'/\nb'<=c.size)->out.size<out'.size->Q (none,na',nb',out',ac,bc) st') :
  wpS M A E s (forIn [:a.size+c.size] ((none,na,nb,out,0,0):MHs) (ZjH a c mg)) Q st:=by
 refine wpS_forRange (λk r st'=>SameG st st'/\∃ na' nb' out' ac bc,r=(none,na',nb',out',ac,bc)/\MH b a c na' nb' out'/\(0<na'/\na'<=a.size)/\(1<nb'/\nb'<=c.size)/\out.size+k<=out'.size) ?_ ?_ ⟨SameG.refl _,_,_,_,_,_,rfl,h,h1,h2,Nat.le_refl _⟩
 ·rintro k r st1 _ hk ⟨sg,na',nb',out',ac,bc,rfl,h,h1,h2,h3⟩
  have hs1:kindOf st1=kd:=sg.1.trans hs
  obtain ⟨na',rfl⟩:∃ n,na'=n+1:=⟨na' - 1,by omega⟩
  obtain ⟨nb',rfl⟩:∃ n,nb'=n+1:=⟨nb' - 1,by omega⟩
  unfold ZjH
  dsimp only [Nat.add_sub_cancel]
  obtain ⟨x,hx,gx⟩:=T.ct (i:=nb') (by omega)
  obtain ⟨y,hy,gy⟩:=T.at (i:=na') (by omega)
  refine wpS_bind (Zay hx (wpS_bind (Zay hy (wpS_bind (L x y st1 _ gx gy hs1 ?_)))))
  dsimp only
  cases hb:b x y with
  | true=>
   rw [if_pos rfl]
   refine wpS_bind (Zay hy ?_)
   have h':=h.pushA hy λz hz=>W.le_trans (Zen W h.sb hx z hz) (W.le_of_lt hb)
   split
   ·rename_i e
    exact wpS_pure (q1 _ _ _ sg (h'.done (.inl (eq_of_beq e))))
   ·rename_i e
    have e:0<na':=by
     have:na'≠0:=λz=>e (beq_iff_eq.mpr z)
     omega
    split
    ·exact wpS_pure (q2 _ _ _ _ _ _ sg h' ⟨e,by omega⟩ h2 (by rw [Array.size_push];omega))
    ·exact wpS_pure ⟨sg,_,_,_,_,_,rfl,h',⟨e,by omega⟩,h2,by rw [Array.size_push];omega⟩
  | false=>
   rw [if_neg Bool.false_ne_true]
   refine wpS_bind (Zay hx ?_)
   have h':=h.pushB hx λz hz=>W.le_trans (Zen W h.sa hy z hz) hb
   split
   ·rename_i e
    exact wpS_pure (q1 _ _ _ sg (h'.first T (eq_of_beq e)))
   ·rename_i e
    have e:1<nb':=by
     have:nb'≠1:=λz=>e (beq_iff_eq.mpr z)
     omega
    split
    ·exact wpS_pure (q2 _ _ _ _ _ _ sg h' h1 ⟨e,by omega⟩ (by rw [Array.size_push];omega))
    ·exact wpS_pure ⟨sg,_,_,_,_,_,rfl,h',h1,⟨e,by omega⟩,by rw [Array.size_push];omega⟩
 ·rintro r st1 ⟨sg,na',nb',out',ac,bc,rfl,h,h1,h2,h3⟩
  exact q2 _ _ _ _ _ _ sg h h1 h2 (by have:=T.na;simp at h3;omega)
section
variable {out:Array Keyed} {na nb:Nat} {st:SortSt} {Q:ForInStep MHt->SortSt->Prop}
structure ZjK (b:Keyed->Keyed->Bool) (a c:Array Keyed) (n:Nat) (st:SortSt) (Q:ForInStep MHt->SortSt->Prop):Prop where
 fin:∀ r y st',SameG st st'->Zbd b (a.toList++c.toList) r.toList->Q (.done (some r,y)) st'
 brk:∀ na' nb' out' y st',SameG st st'->MH b a c na' nb' out'->(0<na'/\na'<=a.size)->(1<nb'/\nb'<=c.size)->n<=out'.size->Q (.done (none,na',nb',out',y)) st'
 go:∀ na' nb' out' y st',SameG st st'->MH b a c na' nb' out'->(0<na'/\na'<=a.size)->(1<nb'/\nb'<=c.size)->n<=out'.size->Q (.yield (none,na',nb',out',y)) st'
theorem Zix (T:Two b good a c) {mg ac bc n:Nat} (R:ZjK b a c n st Q) (h:MH b a c (na+1) nb out) (h1:na+1<=a.size) (h2:1<nb/\nb<=c.size) (hn:n<=out.size) (hl:∀ x,a[na]?=some x->∀ y∈c.toList.take nb,kle b y x) :
  wpS M A E s (mhD a c mg ac bc (na+1) nb out) Q st:=by
 unfold mhD
 dsimp only [Nat.add_sub_cancel]
 obtain ⟨x,hx,gx⟩:=T.at (i:=na) (by omega)
 refine wpS_bind (Zay hx ?_)
 have h':=h.pushA hx (hl x hx)
 have hn':n<=(out.push x).size:=by rw [Array.size_push];omega
 split
 ·rename_i e
  exact wpS_pure (R.fin _ _ _ (SameG.refl _) (h'.done (.inl (eq_of_beq e))))
 ·rename_i e
  have e:0<na:=by
   have:na≠0:=λz=>e (beq_iff_eq.mpr z)
   omega
  split
  ·exact wpS_pure (R.brk _ _ _ _ _ (SameG.refl _) h' ⟨e,by omega⟩ h2 hn')
  ·exact wpS_pure (R.go _ _ _ _ _ (SameG.refl _) h' ⟨e,by omega⟩ h2 hn')
theorem Ziy (W:WO b) (L:ZcZ M A E s kd b good) (T:Two b good a c) {mg ac bc n:Nat} (R:ZjK b a c n st Q) (hs:kindOf st=kd) (h:MH b a c (na+1) (nb+1) out) (h1:na+1<=a.size) (h2:0<nb/\nb+1<=c.size) (hn:n<=out.size)
  (hl:∀ x,c[nb]?=some x->∀ y∈a.toList.take (na+1),kle b y x):wpS M A E s (mhC a c mg ac bc (na+1) (nb+1) out) Q st:=by
 unfold mhC
 dsimp only [Nat.add_sub_cancel]
 obtain ⟨x,hx,gx⟩:=T.ct (i:=nb) (by omega)
 obtain ⟨y,hy,gy⟩:=T.at (i:=na) (by omega)
 refine wpS_bind (Zay hx ?_)
 have h':=h.pushB hx (hl x hx)
 have hn':n<=(out.push x).size:=by rw [Array.size_push];omega
 generalize out.push x=out1 at h' hn'
 split
 ·rename_i e
  exact wpS_pure (R.fin _ _ _ (SameG.refl _) (h'.first T (eq_of_beq e)))
 ·rename_i e
  have e:1<nb:=by
   have:nb≠1:=λz=>e (beq_iff_eq.mpr z)
   omega
  refine wpS_bind (Zay hy ?_)
  have G:Gal b good true y c 0 nb:=ZdW W gy (λi hi=>by rw [Nat.zero_add];exact T.ct (by omega)) (Ziv W h'.sb)
  refine wpS_bind (Zbg L G hs (by omega) λk hk k1 k2=>?_)
  dsimp only
  have tk:∀ z∈(c.extract k nb).toList,∀ v∈a.toList.take (na+1),kle b v z:=λz hz v hv=>by
   obtain ⟨i,hi,hj,ez⟩:=ZfJ hz
   have:=k2 i hi hj
   unfold byd at this
   rw [Nat.zero_add,ez] at this
   dsimp only at this
   rw [if_pos rfl] at this
   exact W.le_trans (Zen W h'.sa hy v hv) this
  have tr:∀ v∈c.toList.take k,kle b v y:=λv hv=>by
   obtain ⟨i,hi,ev⟩:=taken hv
   have:=k1 i hi
   unfold byd at this
   rw [Nat.zero_add,ev] at this
   dsimp only at this
   rw [if_pos rfl] at this
   exact W.le_of_lt this
  split
  ·have h3:=h'.takeB hk tk
   have hn3:n<=(out1++(c.extract k nb).reverse).size:=by rw [Array.size_append];omega
   split
   ·rename_i e2
    exact wpS_pure (R.fin _ _ _ (SameG.refl _) (h3.first T (eq_of_beq e2)))
   ·rename_i e2
    split
    ·rename_i e3
     exact wpS_pure (R.fin _ _ _ (SameG.refl _) (h3.done (.inr (eq_of_beq e3))))
    ·rename_i e3
     have e4:1<k:=by
      have:k≠1:=λz=>e2 (beq_iff_eq.mpr z)
      have:k≠0:=λz=>e3 (beq_iff_eq.mpr z)
      omega
     exact Zix T R h3 h1 ⟨e4,by omega⟩ hn3 λx' hx' v hv=>by
      rw [hy] at hx';cases hx'
      exact tr v hv
  ·have:k=nb:=by omega
   subst this
   exact Zix T R h' h1 ⟨e,by omega⟩ hn' λx' hx' v hv=>by
    rw [hy] at hx';cases hx'
    exact tr v hv
theorem Zlk (W:WO b) (L:ZcZ M A E s kd b good) (T:Two b good a c) {mg ac bc n:Nat} (R:∀ st',SameG st st'->ZjK b a c n st' Q) (hs:kindOf st=kd) (h:MH b a c na (nb+1) out) (h1:0<na/\na<=a.size) (h2:0<nb/\nb+1<=c.size) (hn:n<=out.size) :
  wpS M A E s (mhB a c mg ac bc na (nb+1) out) Q st:=by
 unfold mhB
 refine wpS_bind (ZbY λst1 sg=>?_)
 have R:=R st1 sg
 have hs1:kindOf st1=kd:=sg.1.trans hs
 dsimp only [Nat.add_sub_cancel]
 obtain ⟨x,hx,gx⟩:=T.ct (i:=nb) (by omega)
 refine wpS_bind (Zay hx ?_)
 have G:Gal b good false x a 0 na:=ZdW W gx (λi hi=>by rw [Nat.zero_add];exact T.at (by omega)) (Ziv W h.sa)
 refine wpS_bind (Zbg L G hs1 (by omega) λk hk k1 k2=>?_)
 dsimp only
 have tk:∀ z∈(a.extract k na).toList,∀ v∈c.toList.take (nb+1),kle b v z:=λz hz v hv=>by
  obtain ⟨i,hi,hj,ez⟩:=ZfJ hz
  have:=k2 i hi hj
  unfold byd at this
  rw [Nat.zero_add,ez] at this
  dsimp only at this
  rw [if_neg Bool.false_ne_true,Bool.not_eq_false'] at this
  exact W.le_trans (Zen W h.sb hx v hv) (W.le_of_lt this)
 have tr:∀ v∈a.toList.take k,kle b v x:=λv hv=>by
  obtain ⟨i,hi,ev⟩:=taken hv
  have:=k1 i hi
  unfold byd at this
  rw [Nat.zero_add,ev] at this
  dsimp only at this
  rw [if_neg Bool.false_ne_true,Bool.not_eq_true'] at this
  exact this
 split
 ·have h3:=h.takeA hk tk
  have hn3:n<=(out++(a.extract k na).reverse).size:=by rw [Array.size_append];omega
  split
  ·rename_i e2
   exact wpS_pure (R.fin _ _ _ (SameG.refl _) (h3.done (.inl (eq_of_beq e2))))
  ·rename_i e2
   have:k≠0:=λz=>e2 (beq_iff_eq.mpr z)
   obtain ⟨k,rfl⟩:∃ n,k=n+1:=⟨k-1,by omega⟩
   exact Ziy W L T R hs1 h3 (by omega) h2 hn3 λx' hx' v hv=>by
    rw [hx] at hx';cases hx'
    exact tr v hv
 ·have:k=na:=by omega
  subst this
  obtain ⟨k,rfl⟩:∃ n,k=n+1:=⟨k-1,by omega⟩
  exact Ziy W L T R hs1 h (by omega) h2 hn λx' hx' v hv=>by
   rw [hx] at hx';cases hx'
   exact tr v hv
end
theorem Ziz (W:WO b) (L:ZcZ M A E s kd b good) (T:Two b good a c) {out:Array Keyed} {na nb n:Nat} {y:Nat×Nat×Nat} {st:SortSt} (hs:kindOf st=kd) (h:MH b a c na nb out) (h1:0<na/\na<=a.size) (h2:1<nb/\nb<=c.size)
  {Q:MHt->SortSt->Prop} (q1:∀ r y st',SameG st st'->Zbd b (a.toList++c.toList) r.toList->Q (some r,y) st')
  (q2:∀ na' nb' out' y st',SameG st st'->MH b a c na' nb' out'->(0<na'/\na'<=a.size)->(1<nb'/\nb'<=c.size)->out.size<=out'.size->Q (none,na',nb',out',y) st') :
  wpS M A E s (forIn [:n] ((none,na,nb,out,y):MHt) (ZjI a c)) Q st:=by
 refine wpS_forRange (λk r st'=>SameG st st'/\∃ na' nb' out' y,r=(none,na',nb',out',y)/\MH b a c na' nb' out'/\(0<na'/\na'<=a.size)/\(1<nb'/\nb'<=c.size)/\out.size<=out'.size) ?_ ?_ ⟨SameG.refl _,_,_,_,_,rfl,h,h1,h2,Nat.le_refl _⟩
 ·rintro k r st1 _ hk ⟨sg,na',nb',out',y,rfl,h,h1,h2,h3⟩
  have hs1:kindOf st1=kd:=sg.1.trans hs
  have R:∀ st',SameG st1 st'->ZjK b a c out.size st' (λr st'=>match r with
   | .done c'=>Q c' st'
   | .yield c'=>SameG st st'/\∃ na' nb' out' y,c'=(none,na',nb',out',y)/\MH b a c na' nb' out'/\(0<na'/\na'<=a.size)/\(1<nb'/\nb'<=c.size)/\out.size<=out'.size):=λst' sg'=>
   ⟨λr y st2 g m=>q1 r y st2 ((sg.trans sg').trans g) m,λo i j y st2 g m p1 p2 p3=>q2 o i j y st2 ((sg.trans sg').trans g) m p1 p2 p3,λo i j y st2 g m p1 p2 p3=>⟨(sg.trans sg').trans g,o,i,j,y,rfl,m,p1,p2,p3⟩⟩
  unfold ZjI
  dsimp only
  obtain ⟨nb',rfl⟩:∃ n,nb'=n+1:=⟨nb' - 1,by omega⟩
  have mono:∀ mg,wpS M A E s (mhB a c mg y.2.1 y.2.2 na' (nb'+1) out') _ st1:=λmg=>Zlk W L T R hs1 h h1 ⟨by omega,h2.2⟩ h3
  split
  ·exact wpS_mono (mono _) λr st' hr=>by cases r <;> exact hr
  ·exact wpS_mono (mono _) λr st' hr=>by cases r <;> exact hr
 ·rintro r st1 ⟨sg,na',nb',out',y,rfl,h,h1,h2,h3⟩
  exact q2 _ _ _ _ _ sg h h1 h2 h3
theorem ZfK (W:WO b) (L:ZcZ M A E s kd b good) (T:Two b good a c) {st:SortSt} (hs:kindOf st=kd) {Q:Array Keyed->SortSt->Prop}
  (q:∀ r st',SameG st st'->Zbd b (a.toList++c.toList) r.toList->Q r st'):wpS M A E s (Zej a c) Q st:=by
 rw [ZfI]
 refine wpS_bind (wpS_lift (wpAny_rule ⟨rfl,?_⟩))
 have hc:=T.nc
 have ha:=T.na
 obtain ⟨x,hx,gx⟩:=T.at (i:=a.size-1) (by omega)
 refine wpS_bind (Zay hx ?_)
 have h0:MH b a c (a.size-1) c.size #[x]:=by
  have z:MH b a c (a.size-1+1) c.size #[]:=by
   unfold MH
   rw [Nat.sub_add_cancel (by omega),List.take_of_length_le (by simp),List.take_of_length_le (by simp)]
   exact ⟨by simp,by simp,by simp,T.sa,T.sc⟩
  exact z.pushA hx λy hy=>T.last x hx y (List.mem_of_mem_take hy)
 dsimp only
 split
 ·rename_i e
  exact wpS_pure (q _ _ (SameG.refl _) (h0.done (.inl (eq_of_beq e))))
 ·rename_i e
  have e:0<a.size-1:=by
   have:a.size-1≠0:=λz=>e (beq_iff_eq.mpr z)
   omega
  split
  ·rename_i e2
   exact wpS_pure (q _ _ (SameG.refl _) (h0.first T (eq_of_beq e2)))
  ·rename_i e2
   have e2:1<c.size:=by
    have:c.size≠1:=λz=>e2 (beq_iff_eq.mpr z)
    omega
   refine wpS_bind (wpS_get ?_)
   refine wpS_bind (wpS_forRange (λk r st'=>SameG st st'/\∃ na' nb' out' mg,r=(none,na',nb',out',mg)/\MH b a c na' nb' out'/\(0<na'/\na'<=a.size)/\(1<nb'/\nb'<=c.size)/\k<out'.size) ?_ ?_ ⟨SameG.refl _,_,_,_,_,rfl,h0,⟨e,by omega⟩,⟨e2,Nat.le_refl _⟩,by simp⟩)
   ·rintro k r st1 _ hk ⟨sg,na',nb',out',mg,rfl,h,h1,h2,h3⟩
    have hs1:kindOf st1=kd:=sg.1.trans hs
    unfold ZjJ
    dsimp only
    refine wpS_bind (Ziw W L T hs1 h h1 h2 (λr y st2 g m=>?_) (λo i j ac bc st2 g m p1 p2 p3=>?_))
    ·refine wpS_pure ?_
     dsimp only
     exact wpS_pure (q r st2 (sg.trans g) m)
    ·dsimp only
     refine wpS_bind (wpS_lift (wpAny_rule ⟨rfl,?_⟩))
     refine wpS_bind (Ziz W L T (g.1.trans hs1) m p1 p2 (λr y st3 g3 m3=>?_) (λo3 i3 j3 y3 st3 g3 m3 r1 r2 r3=>?_))
     ·refine wpS_pure ?_
      dsimp only
      exact wpS_pure (q r st3 ((sg.trans g).trans g3) m3)
     ·dsimp only
      refine wpS_bind (ZbY λst4 g4=>?_)
      exact wpS_pure ⟨((sg.trans g).trans g3).trans g4,_,_,_,_,rfl,m3,r1,r2,by omega⟩
   ·rintro r st1 ⟨sg,na',nb',out',mg,rfl,h,h1,h2,h3⟩
    exfalso
    have:=MrgH.len h
    rw [List.length_append,List.length_take,List.length_take,List.length_reverse,Array.length_toList,Array.length_toList,Array.length_toList] at this
    simp at h3
    omega
end
end L2
namespace L2
open PySem PySem.Spec PyProof.Rows
abbrev Asc:=Option (Option Nat)×Nat
abbrev Dsc:=Option (Option Nat)×Nat×Nat
def Zll (lo:Nat):Nat->Asc->StateT SortSt Sem (ForInStep Asc):=λ_ r=>do
 match <- ltAt' (lo+r.2) (lo+r.2-1) with
 | some smaller=>if smaller=true then pure (.done (none,r.2)) else pure (.yield (none,r.2+1))
 | _=>pure (.done (some none,r.2))
def ZnH (lo:Nat):Nat->Dsc->StateT SortSt Sem (ForInStep Dsc):=λ_ r=>do
 match <- ltAt' (lo+r.2.1) (lo+r.2.1-1) with
 | some smaller=>
  if smaller=true then
   if r.2.2 > 0 then do
    reverseSlice' (lo+r.2.1-(r.2.2+1)) (lo+r.2.1)
    pure (.yield (none,r.2.1+1,0))
   else pure (.yield (none,r.2.1+1,0))
  else do
   match <- ltAt' (lo+r.2.1-1) (lo+r.2.1) with
   | some larger=>if larger=true then pure (.done (none,r.2.1,r.2.2)) else pure (.yield (none,r.2.1+1,r.2.2+1))
   | _=>pure (.done (some none,r.2.1,r.2.2))
 | _=>pure (.done (some none,r.2.1,r.2.2))
def Ze1 (lo n nrem:Nat):StateT SortSt Sem (Option Nat):=do
 reverseSlice' lo (lo+n)
 let r <- forIn [n:nrem] ((none,n):Asc) (Zll lo)
 match r.1 with
 | some x=>pure x
 | none=>pure (some r.2)
def Zg4 (lo n nrem:Nat):StateT SortSt Sem (Option Nat):=do
 liftM (rule "list.sort.descending-run")
 let r <- forIn [n+1:nrem] ((none,n+1,0):Dsc) (ZnH lo)
 match r.1 with
 | some x=>pure x
 | none=>(if r.2.2 > 0 then (do
   reverseSlice' (lo+r.2.1-(r.2.2+1)) (lo+r.2.1)
   Ze1 lo r.2.1 nrem) else Ze1 lo r.2.1 nrem)
theorem ZfL (lo nrem:Nat):countRun' lo nrem=(do
  let r <- forIn [1:nrem] ((none,1):Asc) (Zll lo)
  match r.1 with
  | some x=>pure x
  | none=>(if (r.2 == nrem)=true then pure (some r.2) else (if r.2 > 1 then (do
    match <- ltAt' lo (lo+r.2-1) with
    | some rose=>(if rose=true then pure (some r.2) else (do
      reverseSlice' lo (lo+r.2)
      Zg4 lo r.2 nrem))
    | _=>pure none)
   else Zg4 lo r.2 nrem))):=by
 rw [countRun'_eq]
 refine (congrArg (λm:StateT SortSt Sem Asc=>m >>= _) (Zds (r:=[1:nrem]) (c:=((none,1):Asc)) (g:=Zll lo) λi r=>rfl)).trans ?_
 refine Za4 λr=>?_
 obtain ⟨r1,r2⟩:=r
 cases r1 with
 | some z=>rfl
 | none=>
  refine Zel (c:=(r2 == nrem)=true) rfl ?_
  refine Zel (c:=r2 > 1) ?_ ?_
  ·refine Za4 λz=>?_
   cases z with
   | none=>rfl
   | some z=>
    refine Zel (c:=z=true) rfl ?_
    refine Za4 λ_=>?_
    unfold Zg4
    refine Za4 λ_=>?_
    refine (congrArg (λm:StateT SortSt Sem Dsc=>m >>= _) (Zds (r:=[r2+1:nrem]) (c:=((none,r2+1,0):Dsc)) (g:=ZnH lo) λi r=>rfl)).trans ?_
    refine Za4 λr=>?_
    obtain ⟨r1,r2,r3⟩:=r
    cases r1 with
    | some z=>rfl
    | none=>
     refine Zel (c:=r3 > 0) (Za4 λ_=>?_) ?_
     all_goals
      unfold Ze1
      refine Za4 λ_=>?_
      refine (congrArg (λm:StateT SortSt Sem Asc=>m >>= _) (Zds (r:=[r2:nrem]) (c:=((none,r2):Asc)) (g:=Zll lo) λi r=>rfl)).trans ?_
      refine Za4 λr=>?_
      obtain ⟨r1,r2⟩:=r
      cases r1 <;> rfl
  ·unfold Zg4
   refine Za4 λ_=>?_
   refine (congrArg (λm:StateT SortSt Sem Dsc=>m >>= _) (Zds (r:=[r2+1:nrem]) (c:=((none,r2+1,0):Dsc)) (g:=ZnH lo) λi r=>rfl)).trans ?_
   refine Za4 λr=>?_
   obtain ⟨r1,r2,r3⟩:=r
   cases r1 with
   | some z=>rfl
   | none=>
    refine Zel (c:=r3 > 0) (Za4 λ_=>?_) ?_
    all_goals
     unfold Ze1
     refine Za4 λ_=>?_
     refine (congrArg (λm:StateT SortSt Sem Asc=>m >>= _) (Zds (r:=[r2:nrem]) (c:=((none,r2):Asc)) (g:=Zll lo) λi r=>rfl)).trans ?_
     refine Za4 λr=>?_
     obtain ⟨r1,r2⟩:=r
     cases r1 <;> rfl
end L2
namespace L2
open PySem PySem.Spec PyProof.Rows
structure Ah (lo:Nat) (st st':SortSt):Prop where
 kd:kindOf st'=kindOf st
 pe:pendingOf st'=pendingOf st
 fa:failedOf st'=failedOf st
 pm:(arrOf st').Perm (arrOf st)
 lw:∀ i,i<lo->(arrOf st')[i]?=(arrOf st)[i]?
theorem Ah.refl (lo:Nat) (st:SortSt):Ah lo st st:=⟨rfl,rfl,rfl,.refl _,λ_ _=>rfl⟩
theorem Ah.trans {lo:Nat} {st st' st'':SortSt} (h:Ah lo st st') (k:Ah lo st' st''):Ah lo st st'':=
 ⟨k.kd.trans h.kd,k.pe.trans h.pe,k.fa.trans h.fa,k.pm.trans h.pm,λi hi=>(k.lw i hi).trans (h.lw i hi)⟩
theorem Ah.size {lo:Nat} {st st':SortSt} (h:Ah lo st st'):(arrOf st').size=(arrOf st).size:=h.pm.size_eq
def AllG (good:Keyed->Prop) (arr:Array Keyed):Prop:=∀ x∈arr.toList,good x
theorem AllG.perm {good:Keyed->Prop} {a c:Array Keyed} (h:AllG good a) (p:c.Perm a):AllG good c:=λx hx=>h x (p.toList.mem_iff.mp hx)
theorem AllG.at {good:Keyed->Prop} {a:Array Keyed} (h:AllG good a) {i:Nat} (hi:i<a.size):∃ x,a[i]?=some x/\good x:=⟨a[i],by simp [hi],h _ (by simp)⟩
def Zi3 (b:Keyed->Keyed->Bool) (arr:Array Keyed) (lo hi:Nat):Prop:=∀ i j x y,lo<=i->i<=j->j<hi->arr[i]?=some x->arr[j]?=some y->kle b y x
section
variable {M:Model} {A:Around} {E:Value->Shared->Prop} {s:Shared} {kd:SortKind} {b:Keyed->Keyed->Bool} {good:Keyed->Prop}
theorem Zcu {st:SortSt} {i j:Nat} {Q:Option Bool->SortSt->Prop} (L:ZcZ M A E s kd b good) (hs:kindOf st=kd) (G:AllG good (arrOf st)) (hi:i<(arrOf st).size) (hj:j<(arrOf st).size)
  (q:∀ x y,(arrOf st)[i]?=some x->(arrOf st)[j]?=some y->Q (some (b x y)) st):wpS M A E s (ltAt' i j) Q st:=by
 obtain ⟨x,hx,gx⟩:=G.at hi
 obtain ⟨y,hy,gy⟩:=G.at hj
 rw [ltAt'_eq]
 refine wpS_bind (wpS_get ?_)
 exact wpS_bind (Zay hx (wpS_bind (Zay hy (L x y st Q gx gy hs (q x y hx hy)))))
theorem Zlm (arr:Array Keyed) (W:WO b) (lo:Nat):Rng b arr lo (lo+1):=λi j x y h1 h2 h3 e1 e2=>by
 have:i=j:=by omega
 subst this
 rw [e1] at e2;cases e2
 exact W.le_refl _
theorem ZjL {arr:Array Keyed} (W:WO b) {lo n:Nat} {x y:Keyed} (h:Rng b arr lo (lo+n)) (hn:0<n) (hx:arr[lo+n-1]?=some x) (hy:arr[lo+n]?=some y) (hxy:kle b x y):Rng b arr lo (lo+n+1):=λi j u v h1 h2 h3 e1 e2=>by
 by_cases hj:j<lo+n
 ·exact h i j u v h1 h2 hj e1 e2
 ·have:j=lo+n:=by omega
  subst this
  rw [hy] at e2;cases e2
  by_cases hi:i=lo+n
  ·subst hi
   rw [hy] at e1;cases e1
   exact W.le_refl _
  ·exact W.le_trans (h i (lo+n-1) u x h1 (by omega) (by omega) e1 hx) hxy
theorem ZbL {arr:Array Keyed} (W:WO b) {lo n:Nat} {x y:Keyed} (h:Zi3 b arr lo (lo+n)) (hn:0<n) (hx:arr[lo+n-1]?=some x) (hy:arr[lo+n]?=some y) (hxy:kle b y x):Zi3 b arr lo (lo+n+1):=λi j u v h1 h2 h3 e1 e2=>by
 by_cases hj:j<lo+n
 ·exact h i j u v h1 h2 hj e1 e2
 ·have:j=lo+n:=by omega
  subst this
  rw [hy] at e2;cases e2
  by_cases hi:i=lo+n
  ·subst hi
   rw [hy] at e1;cases e1
   exact W.le_refl _
  ·exact W.le_trans hxy (h i (lo+n-1) u x h1 (by omega) (by omega) e1 hx)
theorem ZiA (W:WO b) (L:ZcZ M A E s kd b good) {st:SortSt} {lo a nrem:Nat} {Q:Asc->SortSt->Prop} (hs:kindOf st=kd) (G:AllG good (arrOf st)) (hn:lo+nrem<=(arrOf st).size) (h1:1<=a) (h2:a<=nrem) (h3:Rng b (arrOf st) lo (lo+a))
  (q:∀ n,a<=n->n<=nrem->Rng b (arrOf st) lo (lo+n)->(n=nrem\/∃ x y,(arrOf st)[lo+n-1]?=some x/\(arrOf st)[lo+n]?=some y/\b y x=true)->Q (none,n) st):wpS M A E s (forIn [a:nrem] ((none,a):Asc) (Zll lo)) Q st:=by
 refine wpS_forRange (λk r st'=>st'=st/\r=(none,k)/\a<=k/\k<=nrem/\Rng b (arrOf st) lo (lo+k)) ?_ ?_ ⟨rfl,rfl,Nat.le_refl _,h2,h3⟩
 ·rintro k r st' _ hk ⟨rfl,rfl,h4,h5,h6⟩
  unfold Zll
  refine wpS_bind (Zcu L hs G (by show lo+k<_;omega) (by show lo+k-1<_;omega) λy x hy hx=>?_)
  dsimp only
  split
  ·rename_i hb
   exact wpS_pure (q k h4 h5 h6 (.inr ⟨x,y,hx,hy,hb⟩))
  ·rename_i hb
   exact wpS_pure ⟨rfl,rfl,by omega,by omega,ZjL W h6 (by omega) hx hy (Bool.eq_false_iff.mpr hb)⟩
 ·rintro r st' ⟨rfl,rfl,h4,h5,h6⟩
  rw [Nat.max_eq_right h2] at h6 ⊢
  exact q nrem h2 (Nat.le_refl _) h6 (.inl rfl)
def ZiB (b:Keyed->Keyed->Bool) (arr:Array Keyed) (lo hi:Nat):Prop:=∀ i j x y,lo<=i->i<hi->lo<=j->j<hi->arr[i]?=some x->arr[j]?=some y->kle b x y
theorem Zcv {st:SortSt} {lo i j:Nat} (h:lo<=i) (hj:j<=(arrOf st).size):Ah lo st (setArr st (mirror (arrOf st) i j ((j-i) / 2))):=by
 refine ⟨rfl,rfl,rfl,mirror_perm _ _ _ _,λk hk=>?_⟩
 show (mirror (arrOf st) i j ((j-i) / 2))[k]?=_
 rw [getElem?_mirror_all hj,if_neg (by omega)]
theorem Zg5 {arr:Array Keyed} {lo hi:Nat} (hj:hi<=arr.size) (h:Zi3 b arr lo hi):Rng b (mirror arr lo hi ((hi-lo) / 2)) lo hi:=λi j x y h1 h2 h3 e1 e2=>by
 rw [getElem?_mirror_all hj,if_pos (by omega)] at e1 e2
 exact h (lo+hi-1-j) (lo+hi-1-i) y x (by omega) (by omega) (by omega) e2 e1
theorem Zcc {arr:Array Keyed} {lo hi i j:Nat} (hj:j<=arr.size) (h1:lo<=i) (h2:i<=j) (h3:j<=hi) (hA:ZiB b arr i j) (h:Zi3 b arr lo hi):Zi3 b (mirror arr i j ((j-i) / 2)) lo hi:=λp q x y k1 k2 k3 e1 e2=>by
 rw [getElem?_mirror_all hj] at e1 e2
 by_cases hp:i<=p/\p<j
 ·rw [if_pos hp] at e1
  by_cases hq:i<=q/\q<j
  ·rw [if_pos hq] at e2
   exact hA (i+j-1-q) (i+j-1-p) y x (by omega) (by omega) (by omega) (by omega) e2 e1
  ·rw [if_neg hq] at e2
   exact h _ q x y (by omega) (by omega) k3 e1 e2
 ·rw [if_neg hp] at e1
  by_cases hq:i<=q/\q<j
  ·rw [if_pos hq] at e2
   exact h p _ x y k1 (by omega) (by omega) e1 e2
  ·rw [if_neg hq] at e2
   exact h p q x y k1 k2 k3 e1 e2
def Zoi (b:Keyed->Keyed->Bool) (lo nrem:Nat) (st:SortSt) (Q:Option Nat->SortSt->Prop):Prop:=∀ m st',Ah lo st st'->1<=m->m<=nrem->Rng b (arrOf st') lo (lo+m)->Q (some m) st'
theorem Ze2 (W:WO b) (L:ZcZ M A E s kd b good) {st:SortSt} {lo n nrem:Nat} {Q:Option Nat->SortSt->Prop} (hs:kindOf st=kd) (G:AllG good (arrOf st)) (hn:lo+nrem<=(arrOf st).size) (h1:1<=n) (h2:n<=nrem) (h3:Zi3 b (arrOf st) lo (lo+n))
  (q:Zoi b lo nrem st Q):wpS M A E s (Ze1 lo n nrem) Q st:=by
 unfold Ze1
 rw [reverseSlice'_eq]
 refine wpS_bind (wpS_modify ?_)
 have ah:=Zcv (st:=st) (lo:=lo) (i:=lo) (j:=lo+n) (Nat.le_refl _) (by omega)
 have r:=Zg5 (arr:=arrOf st) (lo:=lo) (hi:=lo+n) (by omega) h3
 generalize hst:setArr st (mirror (arrOf st) lo (lo+n) ((lo+n-lo) / 2))=st1 at ah
 have e1:arrOf st1=mirror (arrOf st) lo (lo+n) ((lo+n-lo) / 2):=by rw [<-hst]
 rw [<-e1] at r
 refine wpS_bind (ZiA W L (ah.kd.trans hs) (G.perm ah.pm) (by rw [ah.size];exact hn) h1 h2 r λm k1 k2 k3 _=>?_)
 dsimp only
 exact wpS_pure (q m st1 ah (by omega) k2 k3)
theorem Ze3 (W:WO b) (L:ZcZ M A E s kd b good) {st:SortSt} {lo n nrem:Nat} {Q:Option Nat->SortSt->Prop} (hs:kindOf st=kd) (G:AllG good (arrOf st)) (hn:lo+nrem<=(arrOf st).size) (h2:n+1<=nrem) (h3:Zi3 b (arrOf st) lo (lo+(n+1)))
  (q:Zoi b lo nrem st Q):wpS M A E s (Zg4 lo n nrem) Q st:=by
 unfold Zg4
 refine wpS_bind (wpS_lift (wpAny_rule ⟨rfl,?_⟩))
 have fin:∀ m neq st1,Ah lo st st1->n+1<=m->m<=nrem->Zi3 b (arrOf st1) lo (lo+m)->neq+1<=m->ZiB b (arrOf st1) (lo+m-(neq+1)) (lo+m) ->
   wpS M A E s (if neq > 0 then (do reverseSlice' (lo+m-(neq+1)) (lo+m);Ze1 lo m nrem) else Ze1 lo m nrem) Q st1:=by
  intro m neq st1 ah k1 k2 k3 k4 k5
  have G1:=G.perm ah.pm
  have hn1:lo+nrem<=(arrOf st1).size:=by rw [ah.size];exact hn
  split
  ·rw [reverseSlice'_eq]
   refine wpS_bind (wpS_modify ?_)
   have ah2:=Zcv (st:=st1) (lo:=lo) (i:=lo+m-(neq+1)) (j:=lo+m) (by omega) (by omega)
   have r:=Zcc (arr:=arrOf st1) (lo:=lo) (hi:=lo+m) (i:=lo+m-(neq+1)) (j:=lo+m) (by omega) (by omega) (by omega) (Nat.le_refl _) k5 k3
   generalize hst:setArr st1 (mirror (arrOf st1) (lo+m-(neq+1)) (lo+m) ((lo+m-(lo+m-(neq+1))) / 2))=st2 at ah2
   have e1:arrOf st2=mirror (arrOf st1) (lo+m-(neq+1)) (lo+m) ((lo+m-(lo+m-(neq+1))) / 2):=by rw [<-hst]
   rw [<-e1] at r
   have ah3:=ah.trans ah2
   exact Ze2 W L (ah3.kd.trans hs) (G.perm ah3.pm) (by rw [ah3.size];exact hn) (by omega) k2 r λm' st' a'=>q m' st' (ah3.trans a')
  ·exact Ze2 W L (ah.kd.trans hs) G1 hn1 (by omega) k2 k3 λm' st' a'=>q m' st' (ah.trans a')
 have al0:∀ (arr:Array Keyed) m,ZiB b arr (lo+m-(0+1)) (lo+m):=λarr m i j x y i1 i2 i3 i4 e1 e2=>by
  have:i=j:=by omega
  subst this
  rw [e1] at e2;cases e2
  exact W.le_refl _
 refine wpS_bind (wpS_forRange (λk r st1=>Ah lo st st1/\∃ neq,r=(none,k,neq)/\n+1<=k/\k<=nrem/\Zi3 b (arrOf st1) lo (lo+k)/\neq+1<=k/\ZiB b (arrOf st1) (lo+k-(neq+1)) (lo+k)) ?_ ?_ ⟨Ah.refl _ _,0,rfl,Nat.le_refl _,h2,h3,by omega,al0 _ _⟩)
 ·rintro k r st1 _ hk ⟨ah,neq,rfl,k1,k2,k3,k4,k5⟩
  have G1:=G.perm ah.pm
  have hn1:lo+nrem<=(arrOf st1).size:=by rw [ah.size];exact hn
  have hs1:=ah.kd.trans hs
  unfold ZnH
  refine wpS_bind (Zcu L hs1 G1 (by show lo+k<_;omega) (by show lo+k-1<_;omega) λy x hy hx=>?_)
  dsimp only
  split
  ·rename_i hb
   have hyx:=W.le_of_lt hb
   split
   ·rw [reverseSlice'_eq]
    refine wpS_bind (wpS_modify ?_)
    have ah2:=Zcv (st:=st1) (lo:=lo) (i:=lo+k-(neq+1)) (j:=lo+k) (by omega) (by omega)
    have r:=Zcc (arr:=arrOf st1) (lo:=lo) (hi:=lo+k) (i:=lo+k-(neq+1)) (j:=lo+k) (by omega) (by omega) (by omega) (Nat.le_refl _) k5 k3
    have e3:(mirror (arrOf st1) (lo+k-(neq+1)) (lo+k) ((lo+k-(lo+k-(neq+1))) / 2))[lo+k]?=some y:=by rw [getElem?_mirror_all (by omega),if_neg (by omega)];exact hy
    have e4:∃ z,(mirror (arrOf st1) (lo+k-(neq+1)) (lo+k) ((lo+k-(lo+k-(neq+1))) / 2))[lo+k-1]?=some z/\kle b y z:=by
     obtain ⟨z,hz,_⟩:=G1.at (i:=lo+k-(neq+1)) (by omega)
     refine ⟨z,?_,W.le_trans hyx (k3 (lo+k-(neq+1)) (lo+k-1) z x (by omega) (by omega) (by omega) hz hx)⟩
     rw [getElem?_mirror_all (by omega),if_pos (by omega),<-hz]
     congr 1
     omega
    generalize hst:setArr st1 (mirror (arrOf st1) (lo+k-(neq+1)) (lo+k) ((lo+k-(lo+k-(neq+1))) / 2))=st2 at ah2
    have e1:arrOf st2=mirror (arrOf st1) (lo+k-(neq+1)) (lo+k) ((lo+k-(lo+k-(neq+1))) / 2):=by rw [<-hst]
    rw [<-e1] at r e3 e4
    obtain ⟨z,hz,hyz⟩:=e4
    exact wpS_pure ⟨ah.trans ah2,0,rfl,by omega,by omega,ZbL W r (by omega) hz e3 hyz,by omega,al0 _ _⟩
   ·exact wpS_pure ⟨ah,0,rfl,by omega,by omega,ZbL W k3 (by omega) hx hy hyx,by omega,al0 _ _⟩
  ·rename_i hb
   have hxy:kle b x y:=Bool.eq_false_iff.mpr hb
   refine wpS_bind (Zcu L hs1 G1 (by show lo+k-1<_;omega) (by show lo+k<_;omega) λx' y' hx' hy'=>?_)
   rw [hx] at hx';cases hx'
   rw [hy] at hy';cases hy'
   dsimp only
   split
   ·refine wpS_pure ?_
    dsimp only
    exact fin k neq st1 ah k1 k2 k3 k4 k5
   ·rename_i hb2
    have hyx:kle b y x:=Bool.eq_false_iff.mpr hb2
    refine wpS_pure ⟨ah,neq+1,rfl,by omega,by omega,ZbL W k3 (by omega) hx hy hyx,by omega,λi j u v i1 i2 i3 i4 e1 e2=>?_⟩
    have toX:∀ i u,lo+k-(neq+1)<=i->i<lo+(k+1)->(arrOf st1)[i]?=some u->kle b u x/\kle b x u:=λi u p1 p2 e=>by
     by_cases hi:i<lo+k
     ·exact ⟨k5 i (lo+k-1) u x p1 hi (by omega) (by omega) e hx,k5 (lo+k-1) i x u (by omega) (by omega) p1 hi hx e⟩
     ·have:i=lo+k:=by omega
      subst this
      rw [hy] at e;cases e
      exact ⟨hyx,hxy⟩
    exact W.le_trans (toX i u (by omega) i2 e1).1 (toX j v (by omega) i4 e2).2
 ·rintro r st1 ⟨ah,neq,rfl,k1,k2,k3,k4,k5⟩
  dsimp only
  rw [Nat.max_eq_right h2] at *
  exact fin nrem neq st1 ah k1 k2 k3 k4 k5
theorem Zeo (W:WO b) (L:ZcZ M A E s kd b good) {st:SortSt} {lo nrem:Nat} {Q:Option Nat->SortSt->Prop} (hs:kindOf st=kd) (G:AllG good (arrOf st)) (hn:lo+nrem<=(arrOf st).size) (h1:1<=nrem)
  (q:Zoi b lo nrem st Q):wpS M A E s (countRun' lo nrem) Q st:=by
 rw [ZfL]
 refine wpS_bind (ZiA W L hs G hn (Nat.le_refl _) h1 (Zlm _ W _) λn k1 k2 k3 k4=>?_)
 dsimp only
 split
 ·exact wpS_pure (q n st (Ah.refl _ _) k1 k2 k3)
 ·rename_i e
  have e:n≠nrem:=λz=>e (beq_iff_eq.mpr z)
  obtain ⟨x,y,hx,hy,hb⟩:=k4.resolve_left e
  have hyx:=W.le_of_lt hb
  split
  ·rename_i e1
   refine wpS_bind (Zcu L hs G (by omega) (by omega) λu v hu hv=>?_)
   rw [hx] at hv;cases hv
   dsimp only
   split
   ·exact wpS_pure (q n st (Ah.refl _ _) k1 k2 k3)
   ·rename_i hb2
    have hxu:kle b x u:=Bool.eq_false_iff.mpr hb2
    have al:ZiB b (arrOf st) lo (lo+n):=λi j p r i1 i2 i3 i4 e1 e2=>
     W.le_trans (k3 i (lo+n-1) p x i1 (by omega) (by omega) e1 hx) (W.le_trans hxu (k3 lo j u r (Nat.le_refl _) i3 i4 hu e2))
    have ni:Zi3 b (arrOf st) lo (lo+n):=λi j p r i1 i2 i3 e1 e2=>al j i r p (by omega) i3 i1 (by omega) e2 e1
    rw [reverseSlice'_eq]
    refine wpS_bind (wpS_modify ?_)
    have ah:=Zcv (st:=st) (lo:=lo) (i:=lo) (j:=lo+n) (Nat.le_refl _) (by omega)
    have r:=Zcc (arr:=arrOf st) (lo:=lo) (hi:=lo+n) (i:=lo) (j:=lo+n) (by omega) (Nat.le_refl _) (by omega) (Nat.le_refl _) al ni
    have e3:(mirror (arrOf st) lo (lo+n) ((lo+n-lo) / 2))[lo+n]?=some y:=by rw [getElem?_mirror_all (by omega),if_neg (by omega)];exact hy
    have e4:(mirror (arrOf st) lo (lo+n) ((lo+n-lo) / 2))[lo+n-1]?=some u:=by
     rw [getElem?_mirror_all (by omega),if_pos (by omega),<-hu]
     congr 1
     omega
    generalize hst:setArr st (mirror (arrOf st) lo (lo+n) ((lo+n-lo) / 2))=st2 at ah
    have e1:arrOf st2=mirror (arrOf st) lo (lo+n) ((lo+n-lo) / 2):=by rw [<-hst]
    rw [<-e1] at r e3 e4
    exact Ze3 W L (ah.kd.trans hs) (G.perm ah.pm) (by rw [ah.size];exact hn) (by omega) (ZbL W r (by omega) e4 e3 (W.le_trans hyx hxu)) λm' st' a'=>q m' st' (ah.trans a')
  ·have:n=1:=by omega
   subst this
   refine Ze3 W L hs G hn (by omega) (ZbL W (λi j p r i1 i2 i3 e1 e2=>?_) (by omega) hx hy hyx) q
   have:i=j:=by omega
   subst this
   rw [e1] at e2;cases e2
   exact W.le_refl _
end
end L2
namespace L2
open PySem PySem.Spec PyProof.Rows
section
variable {M:Model} {A:Around} {E:Value->Shared->Prop} {s:Shared} {kd:SortKind} {b:Keyed->Keyed->Bool} {good:Keyed->Prop}
theorem Zg6 (W:WO b) {arr:Array Keyed} {lo k l:Nat} {p:Keyed} (hk:lo+k<arr.size) (hl:l<=k) (h:Rng b arr lo (lo+k)) (hp:arr[lo+k]?=some p) (h1:∀ i x,i<l->arr[lo+i]?=some x->kle b x p) (h2:∀ i x,l<=i->i<k->arr[lo+i]?=some x->kle b p x) :
  Rng b (bubble arr (lo+k) (lo+k-(lo+l))) lo (lo+(k+1)):=by
 have e0:lo+k-(lo+k-(lo+l))=lo+l:=by omega
 have at_:∀ q,(bubble arr (lo+k) (lo+k-(lo+l)))[q]?=if q=lo+l then some p else if lo+l<q/\q<=lo+k then arr[q-1]? else arr[q]?:=λq=>by
  rw [getElem?_bubble hk _ (by omega),e0,hp]
 intro i j x y i1 i2 i3 e1 e2
 rw [at_] at e1 e2
 have low:∀ q z,lo<=q->q<lo+l->arr[q]?=some z->kle b z p:=λq z q1 q2 e=>h1 (q-lo) z (by omega) (by rw [Nat.add_sub_cancel' q1];exact e)
 have high:∀ q z,lo+l<=q->q<lo+k->arr[q]?=some z->kle b p z:=λq z q1 q2 e=>h2 (q-lo) z (by omega) (by omega) (by rw [Nat.add_sub_cancel' (by omega)];exact e)
 by_cases ci:i=lo+l
 ·rw [if_pos ci] at e1
  cases e1
  by_cases cj:j=lo+l
  ·rw [if_pos cj] at e2
   cases e2
   exact W.le_refl _
  ·rw [if_neg cj,if_pos (by omega)] at e2
   exact high (j-1) y (by omega) (by omega) e2
 ·rw [if_neg ci] at e1
  by_cases di:lo+l<i/\i<=lo+k
  ·rw [if_pos di] at e1
   rw [if_neg (by omega),if_pos (by omega)] at e2
   exact h (i-1) (j-1) x y (by omega) (by omega) (by omega) e1 e2
  ·rw [if_neg di] at e1
   by_cases cj:j=lo+l
   ·rw [if_pos cj] at e2
    cases e2
    exact low i x i1 (by omega) e1
   ·rw [if_neg cj] at e2
    by_cases dj:lo+l<j/\j<=lo+k
    ·rw [if_pos dj] at e2
     exact h i (j-1) x y i1 (by omega) (by omega) e1 e2
    ·rw [if_neg dj] at e2
     exact h i j x y i1 i2 (by omega) e1 e2
theorem ZiC {st:SortSt} {lo src d:Nat} (h1:src<(arrOf st).size) (h2:d<=src) (h3:lo<=src-d):Ah lo st (setArr st (bubble (arrOf st) src d)):=by
 refine ⟨rfl,rfl,rfl,bubble_perm _ _ _,λk hk=>?_⟩
 show (bubble (arrOf st) src d)[k]?=_
 rw [getElem?_bubble h1 _ h2,if_neg (by omega),if_neg (by omega)]
theorem Zg7 (W:WO b) (L:ZcZ M A E s kd b good) {st:SortSt} {lo n ok:Nat} {Q:Bool->SortSt->Prop} (hs:kindOf st=kd) (G:AllG good (arrOf st)) (hn:lo+n<=(arrOf st).size) (h1:1<=ok) (h2:ok<=n) (h3:Rng b (arrOf st) lo (lo+ok))
  (q:∀ st',Ah lo st st'->Rng b (arrOf st') lo (lo+n)->Q true st'):wpS M A E s (binarySort' lo n ok) Q st:=by
 rw [binarySort'_eq,Nat.max_eq_left h1]
 refine wpS_bind (wpS_forRange (λk r st1=>Ah lo st st1/\r=(none,())/\ok<=k/\k<=n/\Rng b (arrOf st1) lo (lo+k)) ?_ ?_ ⟨Ah.refl _ _,rfl,Nat.le_refl _,h2,h3⟩)
 ·rintro k r st1 _ hk ⟨ah,rfl,k1,k2,k3⟩
  have G1:=G.perm ah.pm
  have hn1:lo+n<=(arrOf st1).size:=by rw [ah.size];exact hn
  have hs1:=ah.kd.trans hs
  obtain ⟨p,hp,gp⟩:=G1.at (i:=lo+k) (by omega)
  have fin:∀ l,l<=k->(∀ i x,i<l->(arrOf st1)[lo+i]?=some x->kle b x p)->(∀ i x,l<=i->i<k->(arrOf st1)[lo+i]?=some x->kle b p x) ->
    wpS M A E s (do moveDown' (lo+k) (lo+l);pure (ForInStep.yield ((none,()):Option Bool×Unit))) (λr st'=>match r with
     | .done c'=>False
     | .yield c'=>Ah lo st st'/\c'=(none,())/\ok<=k+1/\k+1<=n/\Rng b (arrOf st') lo (lo+(k+1))) st1:=by
   intro l hl g1 g2
   rw [moveDown'_eq]
   refine wpS_bind (wpS_modify ?_)
   have ah2:=ZiC (st:=st1) (lo:=lo) (src:=lo+k) (d:=lo+k-(lo+l)) (by omega) (by omega) (by omega)
   exact wpS_pure ⟨ah.trans ah2,rfl,by omega,by omega,Zg6 W (by omega) hl k3 hp g1 g2⟩
  dsimp only
  refine wpS_bind (wpS_forRange (λi c st'=>st'=st1/\∃ l r,c=(none,l,r)/\l<=r/\r<=k/\r-l<=k-i/\(∀ i x,i<l->(arrOf st1)[lo+i]?=some x->kle b x p)/\(∀ i x,r<=i->i<k->(arrOf st1)[lo+i]?=some x->kle b p x)) ?_ ?_ ⟨rfl,0,k,rfl,by omega,by omega,by omega,λi x hi=>by omega,λi x h1 h2=>by omega⟩)
  ·rintro i c st' _ hi ⟨rfl,l,r,rfl,g1,g2,g3,g4,g5⟩
   dsimp only
   split
   ·have:l=r:=by omega
    subst this
    refine wpS_pure ?_
    dsimp only
    exact wpS_mono (fin l g2 g4 g5) λr st' hr=>by
     cases r with
     | done z=>exact False.elim hr
     | yield z=>exact hr
   ·refine wpS_bind (Zcu L hs1 G1 (by omega) (by omega) λp' m hp' hm=>?_)
    rw [hp] at hp';cases hp'
    dsimp only
    split
    ·rename_i hb
     refine wpS_pure ⟨rfl,_,_,rfl,by omega,by omega,by omega,g4,λj x j1 j2 e=>?_⟩
     exact W.le_trans (W.le_of_lt hb) (k3 _ (lo+j) m x (by omega) (by omega) (by omega) hm e)
    ·rename_i hb
     refine wpS_pure ⟨rfl,_,_,rfl,by omega,by omega,by omega,λj x j1 e=>?_,g5⟩
     exact W.le_trans (k3 (lo+j) _ x m (by omega) (by omega) (by omega) e hm) (Bool.eq_false_iff.mpr hb)
  ·rintro c st' ⟨rfl,l,r,rfl,g1,g2,g3,g4,g5⟩
   have:l=r:=by simp at g3;omega
   subst this
   dsimp only
   exact wpS_mono (fin l g2 g4 g5) λr st' hr=>by
     cases r with
     | done z=>exact False.elim hr
     | yield z=>exact hr
 ·rintro r st1 ⟨ah,rfl,k1,k2,k3⟩
  dsimp only
  rw [Nat.max_eq_right h2] at k3
  exact wpS_pure (q st1 ah k3)
end
end L2
namespace L2
open PySem PySem.Spec PyProof.Rows
def Zcw (arr:Array Keyed) (base:Nat) (l:List Keyed):Array Keyed:=List.foldl (λa (x:Keyed×Nat)=>a.setIfInBounds (base+x.2) x.1) arr l.zipIdx
def ZjM (sa:Nat) (merged:Array Keyed):StateT SortSt Sem Bool:=do
 modify λs=>setArr s (Zcw (arrOf s) sa merged.toList)
 let s <- get
 pure (failedOf s).isNone
def ZmN (st:SortSt) (sa na sb nb:Nat):StateT SortSt Sem Bool:=(if (nb == 0)=true then pure true else (if na<=nb then (do
  let m <- Zei ((arrOf st).extract sa sb) ((arrOf st).extract sb (sb+nb))
  ZjM sa m) else (do
  let m <- Zej ((arrOf st).extract sa sb) ((arrOf st).extract sb (sb+nb))
  ZjM sa m)))
def ZmO (st:SortSt) (sa na sb nb:Nat):StateT SortSt Sem Bool:=(if (na == 0)=true then pure true else (do
  let y <- elem' (arrOf st) (sa+na-1)
  match <- ZbK true y (arrOf st) sb nb (nb-1) with
  | some nb=>ZmN st sa na sb nb
  | _=>pure false))
theorem ZfM (i:Nat):mergeAt' i=(do
  let st <- get
  match (pendingOf st)[i]?,(pendingOf st)[i+1]? with
  | some (sa,na,power),some (sb,nb,_)=>do
   set (setPending st (((pendingOf st).setIfInBounds i (sa,na+nb,power)).eraseIdxIfInBounds (i+1)))
   let x <- elem' (arrOf st) sb
   match <- ZbK false x (arrOf st) sa na 0 with
   | some k=>ZmO st (sa+k) (na-k) sb nb
   | _=>pure false
  | _,_=>liftM (unsupported "internal:list.sort.pending")):=by
 refine Za4 (m:=get) λst=>?_
 cases (pendingOf st)[i]? with
 | none=>rfl
 | some p=>
  cases (pendingOf st)[i+1]? with
  | none=>rfl
  | some q=>
   obtain ⟨sa,na,pw⟩:=p
   obtain ⟨sb,nb,pw'⟩:=q
   rfl
end L2
namespace L2
open PySem PySem.Spec PyProof.Rows
theorem Zkp:∀ (l:List Keyed) (arr:Array Keyed) (base n i:Nat),base+n+l.length<=arr.size ->
  (List.foldl (λa (x:Keyed×Nat)=>a.setIfInBounds (base+x.2) x.1) arr (l.zipIdx n))[i]?=if base+n<=i/\i<base+n+l.length then l[i-(base+n)]? else arr[i]?
 | [],arr,base,n,i,_=>by
  rw [if_neg (by simp)]
  rfl
 | x::l,arr,base,n,i,h=>by
  rw [List.zipIdx_cons,List.foldl_cons]
  rw [List.length_cons] at h
  have ih:=Zkp l (arr.setIfInBounds (base+n) x) base (n+1) i (by rw [Array.size_setIfInBounds];omega)
  refine ih.trans ?_
  rw [List.length_cons]
  by_cases h1:base+(n+1)<=i/\i<base+(n+1)+l.length
  ·rw [if_pos h1,if_pos (by omega)]
   rw [show i-(base+n)=(i-(base+(n+1)))+1 by omega,List.getElem?_cons_succ]
  ·rw [if_neg h1,Array.getElem?_setIfInBounds]
   by_cases h2:base+n=i
   ·subst h2
    rw [if_pos rfl,if_pos (by omega),if_pos (by omega),Nat.sub_self]
    rfl
   ·rw [if_neg h2,if_neg (by omega)]
theorem Zkq {arr:Array Keyed} {base:Nat} {l:List Keyed} (h:base+l.length<=arr.size) (i:Nat):(Zcw arr base l)[i]?=if base<=i/\i<base+l.length then l[i-base]? else arr[i]?:=Zkp l arr base 0 i h
theorem ZjN {arr:Array Keyed} {base:Nat} {l:List Keyed} (h:base+l.length<=arr.size) (p:l.Perm ((arr.toList.drop base).take l.length)):(Zcw arr base l).Perm arr:=by
 have e:(Zcw arr base l).toList=arr.toList.take base++l++arr.toList.drop (base+l.length):=by
  refine List.ext_getElem? λi=>?_
  have hl:arr.toList.length=arr.size:=Array.length_toList
  rw [Array.getElem?_toList,Zkq h]
  rw [List.append_assoc,List.getElem?_append,List.length_take,hl,Nat.min_eq_left (by omega)]
  by_cases h1:i<base
  ·rw [if_neg (by omega),if_pos h1,List.getElem?_take,if_pos h1,Array.getElem?_toList]
  ·rw [if_neg h1,List.getElem?_append]
   by_cases h2:i<base+l.length
   ·rw [if_pos (by omega),if_pos (by omega)]
   ·rw [if_neg (by omega),if_neg (by omega),List.getElem?_drop,Array.getElem?_toList]
    congr 1
    omega
 have e2:arr.toList=arr.toList.take base++(arr.toList.drop base).take l.length++arr.toList.drop (base+l.length):=by
  rw [List.append_assoc,<-List.drop_drop,List.take_append_drop,List.take_append_drop]
 rw [Array.perm_iff_toList_perm,e]
 exact ((List.Perm.append_left _ p).append_right _).trans (.of_eq e2.symm)
section
variable {M:Model} {A:Around} {E:Value->Shared->Prop} {s:Shared} {kd:SortKind} {b:Keyed->Keyed->Bool} {good:Keyed->Prop}
theorem Zc9 {arr:Array Keyed} {lo mid hi:Nat} (h1:Rng b arr lo mid) (h2:Rng b arr mid hi) (h3:∀ i j x y,lo<=i->i<mid->mid<=j->j<hi->arr[i]?=some x->arr[j]?=some y->kle b x y):Rng b arr lo hi:=λi j x y i1 i2 i3 e1 e2=>by
 by_cases c1:j<mid
 ·exact h1 i j x y i1 i2 c1 e1 e2
 ·by_cases c2:i<mid
  ·exact h3 i j x y i1 c2 (by omega) i3 e1 e2
  ·exact h2 i j x y (by omega) i2 i3 e1 e2
theorem Zkr {arr:Array Keyed} {lo hi:Nat} (hh:hi<=arr.size) (h:Rng b arr lo hi):(arr.extract lo hi).toList.Pairwise (kle b):=by
 rw [List.pairwise_iff_getElem]
 intro i j hi' hj' hij
 have sz:(arr.extract lo hi).toList.length=hi-lo:=by rw [Array.length_toList,Array.size_extract,Nat.min_eq_left hh]
 refine h (lo+i) (lo+j) _ _ (by omega) (by omega) (by omega) ?_ ?_
 ·simp [Array.getElem_extract]
 ·simp [Array.getElem_extract]
end
end L2
namespace L2
open PySem PySem.Spec PyProof.Rows
section
variable {M:Model} {A:Around} {E:Value->Shared->Prop} {s:Shared} {kd:SortKind} {b:Keyed->Keyed->Bool} {good:Keyed->Prop}
def MgQ (b:Keyed->Keyed->Bool) (st:SortSt) (lo hi:Nat) (Q:Bool->SortSt->Prop):Prop:=∀ st',kindOf st'=kindOf st->pendingOf st'=pendingOf st->failedOf st'=failedOf st->(arrOf st').Perm (arrOf st) ->
 (∀ i,i<lo\/hi<=i->(arrOf st')[i]?=(arrOf st)[i]?)->Rng b (arrOf st') lo hi->Q true st'
structure GalF (b:Keyed->Keyed->Bool) (arr:Array Keyed) (sa k sb nb hi:Nat):Prop where
 k0:sa<=k
 k1:k<sb
 n0:0<nb
 n1:sb+nb<=hi
 ra:Rng b arr sa sb
 rb:Rng b arr sb hi
 lowA:∀ i x y,sa<=i->i<k->arr[i]?=some x->arr[sb]?=some y->kle b x y
 highA:∀ i x y,k<=i->i<sb->arr[i]?=some x->arr[sb]?=some y->kle b y x
 lowB:∀ i x y,sb<=i->i<sb+nb->arr[i]?=some x->arr[sb-1]?=some y->kle b x y
 highB:∀ i x y,sb+nb<=i->i<hi->arr[i]?=some x->arr[sb-1]?=some y->kle b y x
theorem GalF.two {arr:Array Keyed} {sa k sb nb hi:Nat} (F:GalF b arr sa k sb nb hi) (hh:hi<=arr.size) (G:AllG good arr):Two b good (arr.extract k sb) (arr.extract sb (sb+nb)):=by
 have h0:=F.k0;have h1:=F.k1;have h2:=F.n0;have h3:=F.n1
 have memG:∀ {i j x},x∈(arr.extract i j).toList->good x:=λ{i j x} hx=>by
  obtain ⟨q,_,_,e⟩:=ZfJ hx
  rw [<-Array.getElem?_toList] at e
  exact G x (List.mem_of_getElem? e)
 refine ⟨λx=>memG,λx=>memG,Zkr (by omega) λi j x y i1 i2 i3=>F.ra i j x y (by omega) i2 i3,Zkr (by omega) λi j x y i1 i2 i3=>F.rb i j x y i1 i2 (by omega),by rw [Array.size_extract];omega,by rw [Array.size_extract];omega,λx hx y hy=>?_,λz hz y hy=>?_⟩
 ·have hx:arr[sb]?=some x:=by
   rw [Array.getElem?_extract,if_pos (by omega)] at hx
   exact hx
  obtain ⟨q,q1,q2,e⟩:=ZfJ hy
  exact F.highA q y x q1 q2 e hx
 ·have hz:arr[sb-1]?=some z:=by
   rw [Array.size_extract,Array.getElem?_extract,if_pos (by omega)] at hz
   rw [<-hz]
   congr 1
   omega
  obtain ⟨q,q1,q2,e⟩:=ZfJ hy
  exact F.lowB q y z q1 (by omega) e hz
theorem GalF.fin (W:WO b) {st:SortSt} {sa k sb nb hi:Nat} {Q:Bool->SortSt->Prop} (F:GalF b (arrOf st) sa k sb nb hi) (hh:hi<=(arrOf st).size) (q:MgQ b st sa hi Q) (hf:failedOf st=none) {m:Array Keyed} {st1:SortSt} (sg:SameG st st1)
  (hm:Zbd b (((arrOf st).extract k sb).toList++((arrOf st).extract sb (sb+nb)).toList) m.toList):wpS M A E s (ZjM k m) Q st1:=by
 have h0:=F.k0;have h1:=F.k1;have h2:=F.n0;have h3:=F.n1
 unfold ZjM
 refine wpS_bind (wpS_modify (wpS_bind (wpS_get (wpS_pure ?_))))
 show Q (failedOf st1).isNone _
 rw [sg.2.2.2,hf]
 have hl:m.toList.length=sb+nb-k:=by
  have:=hm.1.length_eq
  rw [List.length_append,Array.length_toList,Array.length_toList,Array.length_toList,Array.size_extract,Array.size_extract] at this
  rw [Array.length_toList]
  omega
 have hb:k+m.toList.length<=(arrOf st).size:=by omega
 have e1:((arrOf st).toList.drop k).take m.toList.length=((arrOf st).extract k sb).toList++((arrOf st).extract sb (sb+nb)).toList:=by
  have x1:((arrOf st).extract k (sb+nb)).toList=((arrOf st).toList.drop k).take m.toList.length:=by
   rw [hl,Array.toList_extract,List.extract_eq_take_drop]
  rw [<-x1,<-Array.toList_append,Array.extract_append_extract]
  congr 2 <;> omega
 have at_:=Zkq (arr:=arrOf st) (base:=k) (l:=m.toList) hb
 have mem:∀ i x,k<=i->i<sb+nb->(Zcw (arrOf st) k m.toList)[i]?=some x->(∃ j,k<=j/\j<sb/\(arrOf st)[j]?=some x)\/(∃ j,sb<=j/\j<sb+nb/\(arrOf st)[j]?=some x):=λi x i1 i2 e=>by
  rw [at_,if_pos (by omega)] at e
  have hx:=hm.1.mem_iff.mp (List.mem_of_getElem? e)
  rcases List.mem_append.mp hx with hx | hx
  ·exact .inl (ZfJ hx)
  ·exact .inr (ZfJ hx)
 obtain ⟨b0,hb0⟩:∃ x,(arrOf st)[sb]?=some x:=⟨_,Array.getElem?_eq_getElem (by omega)⟩
 obtain ⟨aL,haL⟩:∃ x,(arrOf st)[sb-1]?=some x:=⟨_,Array.getElem?_eq_getElem (by omega)⟩
 refine q _ sg.1 sg.2.2.1 ?_ ?_ (λi hi'=>?_) ?_
 ·show failedOf st1=failedOf st
  exact sg.2.2.2
 ·show (Zcw (arrOf st1) k m.toList).Perm (arrOf st)
  rw [sg.2.1]
  exact ZjN hb (hm.1.trans (.of_eq e1.symm))
 ·show (Zcw (arrOf st1) k m.toList)[i]?=_
  rw [sg.2.1,at_,if_neg (by omega)]
 ·show Rng b (Zcw (arrOf st1) k m.toList) sa hi
  rw [sg.2.1]
  have old:∀ i,i<k\/sb+nb<=i->(Zcw (arrOf st) k m.toList)[i]?=(arrOf st)[i]?:=λi hi'=>by rw [at_,if_neg (by omega)]
  refine Zc9 (mid:=k) (λi j x y i1 i2 i3 e1 e2=>?_) (Zc9 (mid:=sb+nb) (λi j x y i1 i2 i3 e1 e2=>?_) (λi j x y i1 i2 i3 e1 e2=>?_) (λi j x y i1 i2 i3 i4 e1 e2=>?_)) (λi j x y i1 i2 i3 i4 e1 e2=>?_)
  ·rw [old i (by omega)] at e1
   rw [old j (by omega)] at e2
   exact F.ra i j x y i1 i2 (by omega) e1 e2
  ·rw [at_,if_pos (by omega)] at e1 e2
   exact ZjF W hm.2 (by omega) e1 e2
  ·rw [old i (by omega)] at e1
   rw [old j (by omega)] at e2
   exact F.rb i j x y (by omega) i2 i3 e1 e2
  ·rw [old j (by omega)] at e2
   rcases mem i x i1 i2 e1 with ⟨p,p1,p2,e⟩ | ⟨p,p1,p2,e⟩
   ·exact W.le_trans (F.ra p (sb-1) x aL (by omega) (by omega) (by omega) e haL) (F.highB j y aL i3 i4 e2 haL)
   ·exact F.rb p j x y p1 (by omega) i4 e e2
  ·rw [old i (by omega)] at e1
   have xb:=F.lowA i x b0 i1 i2 e1 hb0
   by_cases cj:j<sb+nb
   ·rcases mem j y i3 cj e2 with ⟨p,p1,p2,e⟩ | ⟨p,p1,p2,e⟩
    ·exact F.ra i p x y i1 (by omega) p2 e1 e
    ·exact W.le_trans xb (F.rb sb p b0 y (Nat.le_refl _) p1 (by omega) hb0 e)
   ·rw [old j (by omega)] at e2
    exact W.le_trans xb (F.rb sb j b0 y (Nat.le_refl _) (by omega) i4 hb0 e2)
theorem ZfN (W:WO b) (L:ZcZ M A E s kd b good) {st:SortSt} {i sa na sb nb pw pw':Nat} {Q:Bool->SortSt->Prop} (hs:kindOf st=kd) (hf:failedOf st=none) (G:AllG good (arrOf st)) (p1:(pendingOf st)[i]?=some (sa,na,pw)) (p2:(pendingOf st)[i+1]?=some (sb,nb,pw'))
  (e:sb=sa+na) (hna:0<na) (hnb:0<nb) (hh:sb+nb<=(arrOf st).size) (ra:Rng b (arrOf st) sa sb) (rb:Rng b (arrOf st) sb (sb+nb))
  (q:MgQ b (setPending st (((pendingOf st).setIfInBounds i (sa,na+nb,pw)).eraseIdxIfInBounds (i+1))) sa (sb+nb) Q):wpS M A E s (mergeAt' i) Q st:=by
 subst e
 rw [ZfM]
 refine wpS_bind (wpS_get ?_)
 rw [p1,p2]
 dsimp only
 refine wpS_bind ?_
 show wpS M A E s (set _) _ st
 refine (show wpS M A E s (modify λ_=>setPending st (((pendingOf st).setIfInBounds i (sa,na+nb,pw)).eraseIdxIfInBounds (i+1))) _ st from wpS_modify ?_)
 generalize hst:setPending st (((pendingOf st).setIfInBounds i (sa,na+nb,pw)).eraseIdxIfInBounds (i+1))=st1 at q
 have ea:arrOf st1=arrOf st:=by rw [<-hst]
 have ek:kindOf st1=kd:=by rw [<-hst];exact hs
 have ef:failedOf st1=none:=by rw [<-hst];exact hf
 rw [<-ea] at G hh ra rb ⊢
 obtain ⟨b0,hb0,gb0⟩:=G.at (i:=sa+na) (by omega)
 obtain ⟨aL,haL,gaL⟩:=G.at (i:=sa+na-1) (by omega)
 refine wpS_bind (Zay hb0 ?_)
 have G1:Gal b good false b0 (arrOf st1) sa na:=ZdW W gb0 (λi hi=>G.at (by omega)) ra
 refine wpS_bind (Zbg L G1 ek hna λk hk k1 k2=>?_)
 have lowA:∀ i x y,sa<=i->i<sa+k->(arrOf st1)[i]?=some x->(arrOf st1)[sa+na]?=some y->kle b x y:=λi x y i1 i2 e1 e2=>by
  rw [hb0] at e2;cases e2
  have:=k1 (i-sa) (by omega)
  unfold byd at this
  rw [Nat.add_sub_cancel' i1,e1] at this
  dsimp only at this
  rw [if_neg Bool.false_ne_true,Bool.not_eq_true'] at this
  exact this
 have highA:∀ i x y,sa+k<=i->i<sa+na->(arrOf st1)[i]?=some x->(arrOf st1)[sa+na]?=some y->kle b y x:=λi x y i1 i2 e1 e2=>by
  rw [hb0] at e2;cases e2
  have:=k2 (i-sa) (by omega) (by omega)
  unfold byd at this
  rw [Nat.add_sub_cancel' (by omega),e1] at this
  dsimp only at this
  rw [if_neg Bool.false_ne_true,Bool.not_eq_false'] at this
  exact W.le_of_lt this
 dsimp only
 unfold ZmO
 rw [show arrOf st=arrOf st1 from ea.symm]
 split
 ·rename_i e0
  have e0:na-k=0:=eq_of_beq e0
  refine wpS_pure (q st1 rfl rfl rfl (.refl _) (λ_ _=>rfl) (Zc9 ra rb λi j x y i1 i2 i3 i4 e1 e2=>?_))
  exact W.le_trans (lowA i x b0 i1 (by omega) e1 hb0) (rb (sa+na) j b0 y (Nat.le_refl _) i3 i4 hb0 e2)
 ·rename_i e0
  have e0:na-k≠0:=λz=>e0 (beq_iff_eq.mpr z)
  refine wpS_bind (Zay (show (arrOf st1)[sa+k+(na-k)-1]?=some aL by rw [<-haL];congr 1;omega) ?_)
  have G2:Gal b good true aL (arrOf st1) (sa+na) nb:=ZdW W gaL (λi hi=>G.at (by omega)) rb
  refine wpS_bind (Zbg L G2 ek (by omega) λnb' hk' k1' k2'=>?_)
  have lowB:∀ i x y,sa+na<=i->i<sa+na+nb'->(arrOf st1)[i]?=some x->(arrOf st1)[sa+na-1]?=some y->kle b x y:=λi x y i1 i2 e1 e2=>by
   rw [haL] at e2;cases e2
   have:=k1' (i-(sa+na)) (by omega)
   unfold byd at this
   rw [Nat.add_sub_cancel' i1,e1] at this
   dsimp only at this
   rw [if_pos rfl] at this
   exact W.le_of_lt this
  have highB:∀ i x y,sa+na+nb'<=i->i<sa+na+nb->(arrOf st1)[i]?=some x->(arrOf st1)[sa+na-1]?=some y->kle b y x:=λi x y i1 i2 e1 e2=>by
   rw [haL] at e2;cases e2
   have:=k2' (i-(sa+na)) (by omega) (by omega)
   unfold byd at this
   rw [Nat.add_sub_cancel' (by omega),e1] at this
   dsimp only at this
   rw [if_pos rfl] at this
   exact this
  dsimp only
  unfold ZmN
  split
  ·rename_i e1
   have e1:nb'=0:=eq_of_beq e1
   refine wpS_pure (q st1 rfl rfl rfl (.refl _) (λ_ _=>rfl) (Zc9 ra rb λi j x y i1 i2 i3 i4 f1 f2=>?_))
   exact W.le_trans (ra i (sa+na-1) x aL i1 (by omega) (by omega) f1 haL) (highB j y aL (by omega) i4 f2 haL)
  ·rename_i e1
   have e1:nb'≠0:=λz=>e1 (beq_iff_eq.mpr z)
   have F:GalF b (arrOf st1) sa (sa+k) (sa+na) nb' (sa+na+nb):=⟨by omega,by omega,by omega,by omega,ra,rb,lowA,highA,lowB,highB⟩
   have T:=F.two hh G
   split
   ·refine wpS_bind ?_
    rw [show arrOf st=arrOf st1 from ea.symm]
    exact ZfH W L T ek λr st' sg m=>F.fin W hh q ef sg m
   ·refine wpS_bind ?_
    rw [show arrOf st=arrOf st1 from ea.symm]
    exact ZfK W L T ek λr st' sg m=>F.fin W hh q ef sg m
end
end L2
namespace L2
open PySem PySem.Spec PyProof.Rows
def Runs (b:Keyed->Keyed->Bool) (arr:Array Keyed):Nat->List (Nat×Nat×Nat)->Nat->Prop
 | s,[],e=>s=e
 | s,x::rest,e=>x.1=s/\0<x.2.1/\Rng b arr s (s+x.2.1)/\Runs b arr (s+x.2.1) rest e
section
variable {b:Keyed->Keyed->Bool} {arr arr':Array Keyed}
theorem Runs.le:∀ {p:List (Nat×Nat×Nat)} {s e:Nat},Runs b arr s p e->s+p.length<=e
 | [],s,e,h=>by have h:s=e:=h;simp [h]
 | x::p,s,e,h=>by
  have:=Runs.le h.2.2.2
  have:=h.2.1
  rw [List.length_cons]
  omega
theorem Runs.app:∀ {u v:List (Nat×Nat×Nat)} {s e:Nat},Runs b arr s (u++v) e↔∃ m,Runs b arr s u m/\Runs b arr m v e
 | [],v,s,e=>⟨λh=>⟨s,rfl,h⟩,λ⟨m,h1,h2⟩=>by have h1:s=m:=h1;rw [h1];exact h2⟩
 | x::u,v,s,e=>by
  constructor
  ·rintro ⟨h1,h2,h3,h4⟩
   obtain ⟨m,k1,k2⟩:=Runs.app.mp h4
   exact ⟨m,⟨h1,h2,h3,k1⟩,k2⟩
  ·rintro ⟨m,⟨h1,h2,h3,k1⟩,k2⟩
   exact ⟨h1,h2,h3,Runs.app.mpr ⟨m,k1,k2⟩⟩
theorem Runs.keep:∀ {p:List (Nat×Nat×Nat)} {s e:Nat},Runs b arr s p e->(∀ i,s<=i->i<e->arr'[i]?=arr[i]?)->Runs b arr' s p e
 | [],_,_,h,_=>h
 | x::p,s,e,h,k=>by
  have:=Runs.le h.2.2.2
  refine ⟨h.1,h.2.1,λi j u v i1 i2 i3 e1 e2=>?_,Runs.keep h.2.2.2 λi i1 i2=>k i (by omega) i2⟩
  rw [k i i1 (by omega)] at e1
  rw [k j (by omega) (by omega)] at e2
  exact h.2.2.1 i j u v i1 i2 i3 e1 e2
theorem Runs.push {p:List (Nat×Nat×Nat)} {s lo n pw:Nat} (h:Runs b arr s p lo) (hn:0<n) (hr:Rng b arr lo (lo+n)):Runs b arr s (p++[(lo,n,pw)]) (lo+n):=
 Runs.app.mpr ⟨lo,h,rfl,hn,hr,rfl⟩
theorem Runs.two {p:List (Nat×Nat×Nat)} {i e sa na pw sb nb pw':Nat} (h:Runs b arr 0 p e) (h1:p[i]?=some (sa,na,pw)) (h2:p[i+1]?=some (sb,nb,pw')) :
  sb=sa+na/\0<na/\0<nb/\sb+nb<=e/\Rng b arr sa sb/\Rng b arr sb (sb+nb) /\
   ((∀ i,i<sa\/sb+nb<=i->arr'[i]?=arr[i]?)->Rng b arr' sa (sb+nb)->Runs b arr' 0 ((p.set i (sa,na+nb,pw)).eraseIdx (i+1)) e):=by
 obtain ⟨l1,e1⟩:=List.getElem?_eq_some_iff.mp h1
 obtain ⟨l2,e2⟩:=List.getElem?_eq_some_iff.mp h2
 have d:p=p.take i++(sa,na,pw)::(sb,nb,pw')::p.drop (i+2):=by
  conv=>lhs;rw [<-List.take_append_drop i p,List.drop_eq_getElem_cons l1,e1,List.drop_eq_getElem_cons l2,e2]
 have hl:(p.take i).length=i:=by rw [List.length_take];omega
 generalize p.take i=u at d hl
 generalize p.drop (i+2)=v at d
 subst d
 obtain ⟨m,k1,k2,k3,k4,k5,k6,k7,k8⟩:=Runs.app.mp h
 have k2:sa=m:=k2
 have k3:0<na:=k3
 have k5:sb=m+na:=k5
 have k6:0<nb:=k6
 have k4:Rng b arr m (m+na):=k4
 have k7:Rng b arr (m+na) (m+na+nb):=k7
 have k8:Runs b arr (m+na+nb) v e:=k8
 subst k2 k5
 have k9:sa+na+nb+v.length<=e:=k8.le
 refine ⟨rfl,k3,k6,by omega,k4,k7,λho hr=>?_⟩
 have es:((u++(sa,na,pw)::(sa+na,nb,pw')::v).set i (sa,na+nb,pw)).eraseIdx (i+1)=u++(sa,na+nb,pw)::v:=by
  rw [List.set_append,if_neg (by omega),hl,Nat.sub_self,List.set_cons_zero,List.eraseIdx_append_of_length_le (by omega),hl,Nat.add_sub_cancel_left]
  rfl
 rw [es]
 refine Runs.app.mpr ⟨sa,k1.keep λj j1 j2=>ho j (.inl j2),rfl,by show 0<na+nb;omega,by show Rng b arr' sa (sa+(na+nb));rw [<-Nat.add_assoc];exact hr,?_⟩
 show Runs b arr' (sa+(na+nb)) v e
 rw [<-Nat.add_assoc]
 exact k8.keep λj j1 j2=>ho j (.inr j1)
theorem Runs.pow:∀ {p:List (Nat×Nat×Nat)} {s e:Nat} (i:Nat) (f:Nat×Nat×Nat->Nat×Nat×Nat),(∀ x,(f x).1=x.1/\(f x).2.1=x.2.1)->Runs b arr s p e->Runs b arr s (p.modify i f) e
 | [],_,_,i,f,_,h=>by cases i <;> exact h
 | x::p,s,e,0,f,hf,h=>by
  rw [List.modify_zero_cons]
  obtain ⟨q1,q2⟩:=hf x
  refine ⟨q1.trans h.1,by rw [q2];exact h.2.1,by rw [q2];exact h.2.2.1,by rw [q2];exact h.2.2.2⟩
 | x::p,s,e,i+1,f,hf,h=>by
  rw [List.modify_succ_cons]
  exact ⟨h.1,h.2.1,h.2.2.1,Runs.pow i f hf h.2.2.2⟩
theorem Runs.one (W:WO b) {p:List (Nat×Nat×Nat)} {e:Nat} (h:Runs b arr 0 p e) (hl:p.length<=1):Rng b arr 0 e:=by
 match p,h,hl with
 | [],h,_=>
  have h:0=e:=h
  subst h
  intro i j x y i1 i2 i3
  omega
 | [x],h,_=>
  have h4:0+x.2.1=e:=h.2.2.2
  rw [<-h4]
  exact h.2.2.1
end
end L2
namespace L2
open PySem PySem.Spec PyProof.Rows
section
variable {M:Model} {A:Around} {E:Value->Shared->Prop} {s:Shared} {kd:SortKind} {b:Keyed->Keyed->Bool} {good:Keyed->Prop}
structure SI (b:Keyed->Keyed->Bool) (kd:SortKind) (st0 st:SortSt) (lo:Nat):Prop where
 ki:kindOf st=kd
 fa:failedOf st=none
 pm:(arrOf st).Perm (arrOf st0)
 ru:Runs b (arrOf st) 0 (pendingOf st).toList lo
theorem SI.size {st0 st:SortSt} {lo:Nat} (h:SI b kd st0 st lo):(arrOf st).size=(arrOf st0).size:=h.pm.size_eq
theorem SI.merge (W:WO b) (L:ZcZ M A E s kd b good) {st0 st:SortSt} {lo i:Nat} {Q:Bool->SortSt->Prop} (G:AllG good (arrOf st0)) (h:SI b kd st0 st lo) (hlo:lo<=(arrOf st0).size) (hi:i+1<(pendingOf st).size)
  (q:∀ st',SI b kd st0 st' lo->(pendingOf st').size+1=(pendingOf st).size->(∀ i,lo<=i->(arrOf st')[i]?=(arrOf st)[i]?)->Q true st'):wpS M A E s (mergeAt' i) Q st:=by
 obtain ⟨⟨sa,na,pw⟩,p1⟩:∃ x,(pendingOf st)[i]?=some x:=⟨_,Array.getElem?_eq_getElem (by omega)⟩
 obtain ⟨⟨sb,nb,pw'⟩,p2⟩:∃ x,(pendingOf st)[i+1]?=some x:=⟨_,Array.getElem?_eq_getElem hi⟩
 have two:=λarr'=>Runs.two (arr':=arr') h.ru (by rw [Array.getElem?_toList];exact p1) (by rw [Array.getElem?_toList];exact p2)
 obtain ⟨t1,t2,t3,t4,t5,t6,_⟩:=two (arrOf st)
 have hsz:=h.size
 refine ZfN W L h.ki h.fa (G.perm h.pm) p1 p2 t1 t2 t3 (by omega) t5 t6 λst' k1 k2 k3 k4 k5 k6=>?_
 have e0:arrOf (setPending st (((pendingOf st).setIfInBounds i (sa,na+nb,pw)).eraseIdxIfInBounds (i+1)))=arrOf st:=rfl
 rw [e0] at k4 k5
 have e1:pendingOf st'=((pendingOf st).setIfInBounds i (sa,na+nb,pw)).eraseIdxIfInBounds (i+1):=k2
 have e2:(pendingOf st').toList=((pendingOf st).toList.set i (sa,na+nb,pw)).eraseIdx (i+1):=by
  rw [e1,Array.toList_eraseIdxIfInBounds,Array.toList_setIfInBounds]
 refine q st' ⟨k1.trans h.ki,k3.trans h.fa,k4.trans h.pm,?_⟩ ?_ λj hj=>k5 j (.inr (by omega))
 ·rw [e2]
  exact (two (arrOf st')).2.2.2.2.2.2 k5 k6
 ·have:=congrArg List.length e2
  rw [Array.length_toList,List.length_eraseIdx,List.length_set,Array.length_toList,if_pos hi] at this
  omega
theorem Zc0 (W:WO b) (L:ZcZ M A E s kd b good) {st:SortSt} {Q:Unit->SortSt->Prop} (hs:kindOf st=kd) (hf:failedOf st=none) (hp:pendingOf st=#[]) (G:AllG good (arrOf st))
  (q:∀ st',(arrOf st').Perm (arrOf st)->failedOf st'=none->Rng b (arrOf st') 0 (arrOf st).size->Q () st'):wpS M A E s sortRuns' Q st:=by
 rw [sortRuns'_eq]
 refine wpS_bind (wpS_get ?_)
 dsimp only
 generalize hsz:(arrOf st).size=size at q
 generalize minRun' size size 0=minrun
 refine wpS_bind (wpS_mono (Q:=λr st1=>r=(none,size)/\SI b kd st st1 size) (wpS_forRange (λk r st1=>∃ lo,r=(none,lo)/\k<=lo/\lo<=size/\SI b kd st st1 lo) ?_ ?_ ⟨0,rfl,Nat.le_refl _,Nat.zero_le _,hs,hf,.refl _,by rw [hp];rfl⟩) ?_)
 ·rintro k r st1 _ hk ⟨lo,rfl,k1,k2,I⟩
  dsimp only
  split
  ·have:lo=size:=by omega
   subst this
   exact wpS_pure ⟨rfl,I⟩
  ·rename_i hlo
   have s1:(arrOf st1).size=size:=I.size.trans hsz
   refine wpS_bind (Zeo W L I.ki (G.perm I.pm) (by omega) (by omega) λn st2 ah n1 n2 n3=>?_)
   have I2:SI b kd st st2 lo:=⟨ah.kd.trans I.ki,ah.fa.trans I.fa,ah.pm.trans I.pm,by rw [ah.pe];exact I.ru.keep λi _ hi=>ah.lw i hi⟩
   dsimp only
   have pushed:∀ st3 n,SI b kd st st3 lo->0<n->Rng b (arrOf st3) lo (lo+n)->SI b kd st (setPending st3 ((pendingOf st3).push (lo,n,0))) (lo+n):=by
    intro st3 n I3 n1 n3
    refine ⟨I3.ki,I3.fa,I3.pm,?_⟩
    show Runs b (arrOf st3) 0 ((pendingOf st3).push (lo,n,0)).toList (lo+n)
    rw [Array.toList_push]
    exact I3.ru.push n1 n3
   have pow:∀ st3 pw,SI b kd st st3 lo->SI b kd st (setPending st3 ((pendingOf st3).modify ((pendingOf st3).size-1) λx=>(x.1,x.2.1,pw))) lo:=by
    intro st3 pw I3
    refine ⟨I3.ki,I3.fa,I3.pm,?_⟩
    show Runs b (arrOf st3) 0 ((pendingOf st3).modify ((pendingOf st3).size-1) λx=>(x.1,x.2.1,pw)).toList lo
    rw [Array.toList_modify]
    exact I3.ru.pow _ _ λx=>⟨rfl,rfl⟩
   split
   ·rename_i hmr
    refine wpS_bind (wpS_lift (wpAny_rule ⟨rfl,?_⟩))
    have s2:(arrOf st2).size=size:=I2.size.trans hsz
    refine wpS_bind (Zg7 W L I2.ki (G.perm I2.pm) (by omega) n1 (by omega) n3 λst3 ah3 r3=>?_)
    have I3:SI b kd st st3 lo:=⟨ah3.kd.trans I2.ki,ah3.fa.trans I2.fa,ah3.pm.trans I2.pm,by rw [ah3.pe];exact I2.ru.keep λi _ hi=>ah3.lw i hi⟩
    rw [show (!true)=false from rfl,if_neg Bool.false_ne_true]
    have hN:1<=min (size-lo) minrun/\lo+min (size-lo) minrun<=size:=by omega
    clear hmr
    generalize min (size-lo) minrun=N at r3 hN
    refine wpS_bind (wpS_get ?_)
    cases hbk:(pendingOf st3).back? with
    | none=>exact wpS_bind (wpS_modify (wpS_pure ⟨_,rfl,by omega,by omega,pushed st3 _ I3 (by omega) r3⟩))
    | some x=>
     obtain ⟨s1,n1,pw1⟩:=x
     dsimp only
     refine wpS_bind (wpS_mono (Q:=λr st4=>r=(none,())/\SI b kd st st4 lo/\∀ i,lo<=i->(arrOf st4)[i]?=(arrOf st3)[i]?) (wpS_forRange (λ_ r st4=>r=(none,())/\SI b kd st st4 lo/\∀ i,lo<=i->(arrOf st4)[i]?=(arrOf st3)[i]?) ?_ (λ_ _ z=>z) ⟨rfl,I3,λ_ _=>rfl⟩) ?_)
     ·rintro k' r st4 _ hk' ⟨rfl,I4,same⟩
      refine wpS_bind (wpS_get ?_)
      by_cases hz:(pendingOf st4).size > 1
      ·obtain ⟨⟨z1,z2,z3⟩,pz⟩:∃ x,(pendingOf st4)[(pendingOf st4).size-2]?=some x:=⟨_,Array.getElem?_eq_getElem (by omega)⟩
       rw [if_pos hz,pz]
       dsimp only
       split
       ·exact wpS_pure ⟨rfl,I4,same⟩
       ·refine wpS_bind (I4.merge W L G (by omega) (by omega) λst5 I5 _ same5=>?_)
        rw [show (!true)=false from rfl,if_neg Bool.false_ne_true]
        exact wpS_pure ⟨rfl,I5,λi hi=>(same5 i hi).trans (same i hi)⟩
      ·rw [if_neg hz]
       exact wpS_pure ⟨rfl,I4,same⟩
     ·rintro r st4 ⟨rfl,I4,same⟩
      dsimp only
      refine wpS_bind (wpS_modify (wpS_bind (wpS_modify (wpS_pure ⟨_,rfl,by omega,by omega,?_⟩))))
      refine pushed _ _ (pow st4 _ I4) (by omega) λi j x y i1 i2 i3 e1 e2=>?_
      have e1:(arrOf st4)[i]?=some x:=e1
      have e2:(arrOf st4)[j]?=some y:=e2
      rw [same i i1] at e1
      rw [same j (by omega)] at e2
      exact r3 i j x y i1 i2 i3 e1 e2
   ·have hN:1<=n/\lo+n<=size:=by omega
    refine wpS_bind (wpS_get ?_)
    cases hbk:(pendingOf st2).back? with
    | none=>exact wpS_bind (wpS_modify (wpS_pure ⟨_,rfl,by omega,by omega,pushed st2 _ I2 (by omega) n3⟩))
    | some x=>
     obtain ⟨s1,n1,pw1⟩:=x
     dsimp only
     refine wpS_bind (wpS_mono (Q:=λr st4=>r=(none,())/\SI b kd st st4 lo/\∀ i,lo<=i->(arrOf st4)[i]?=(arrOf st2)[i]?) (wpS_forRange (λ_ r st4=>r=(none,())/\SI b kd st st4 lo/\∀ i,lo<=i->(arrOf st4)[i]?=(arrOf st2)[i]?) ?_ (λ_ _ z=>z) ⟨rfl,I2,λ_ _=>rfl⟩) ?_)
     ·rintro k' r st4 _ hk' ⟨rfl,I4,same⟩
      refine wpS_bind (wpS_get ?_)
      by_cases hz:(pendingOf st4).size > 1
      ·obtain ⟨⟨z1,z2,z3⟩,pz⟩:∃ x,(pendingOf st4)[(pendingOf st4).size-2]?=some x:=⟨_,Array.getElem?_eq_getElem (by omega)⟩
       rw [if_pos hz,pz]
       dsimp only
       split
       ·exact wpS_pure ⟨rfl,I4,same⟩
       ·refine wpS_bind (I4.merge W L G (by omega) (by omega) λst5 I5 _ same5=>?_)
        rw [show (!true)=false from rfl,if_neg Bool.false_ne_true]
        exact wpS_pure ⟨rfl,I5,λi hi=>(same5 i hi).trans (same i hi)⟩
      ·rw [if_neg hz]
       exact wpS_pure ⟨rfl,I4,same⟩
     ·rintro r st4 ⟨rfl,I4,same⟩
      dsimp only
      refine wpS_bind (wpS_modify (wpS_bind (wpS_modify (wpS_pure ⟨_,rfl,by omega,by omega,?_⟩))))
      refine pushed _ _ (pow st4 _ I4) (by omega) λi j x y i1 i2 i3 e1 e2=>?_
      have e1:(arrOf st4)[i]?=some x:=e1
      have e2:(arrOf st4)[j]?=some y:=e2
      rw [same i i1] at e1
      rw [same j (by omega)] at e2
      exact n3 i j x y i1 i2 i3 e1 e2
 ·rintro r st1 ⟨lo,rfl,k1,k2,I⟩
  have:lo=size:=by simp at k1;omega
  subst this
  exact ⟨rfl,I⟩
 ·rintro r st1 ⟨rfl,I⟩
  dsimp only
  refine wpS_bind (wpS_mono (Q:=λr st2=>r=(none,())/\SI b kd st st2 size/\(pendingOf st2).size<=1) (wpS_forRange (λk r st2=>r=(none,())/\SI b kd st st2 size/\(pendingOf st2).size+k<=size+1) ?_ ?_ ⟨rfl,I,?_⟩) ?_)
  ·rintro k r st2 _ hk ⟨rfl,I2,hz⟩
   refine wpS_bind (wpS_get ?_)
   split
   ·rename_i h1
    exact wpS_pure ⟨rfl,I2,h1⟩
   ·rename_i h1
    generalize hi:(if Option.any _ _=true then (pendingOf st2).size-2-1 else (pendingOf st2).size-2)=i
    have hi2:i+1<(pendingOf st2).size:=by
     rw [<-hi]
     have key:∀ (c:Prop) [Decidable c] (m:Nat),(if c then m-1 else m)<=m:=λc _ m=>by split <;> omega
     refine Nat.lt_of_le_of_lt (Nat.succ_le_succ (key _ ((pendingOf st2).size-2))) ?_
     omega
    refine wpS_bind (I2.merge W L G (by omega) hi2 λst3 I3 h3 _=>?_)
    rw [show (!true)=false from rfl,if_neg Bool.false_ne_true]
    exact wpS_pure ⟨rfl,I3,by omega⟩
  ·rintro r st2 ⟨rfl,I2,hz⟩
   exact ⟨rfl,I2,by simp at hz;omega⟩
  ·have:=I.ru.le
   rw [Array.length_toList] at this
   omega
  ·rintro r st2 ⟨rfl,I2,h1⟩
   refine wpS_pure (q st2 I2.pm I2.fa ?_)
   exact I2.ru.one W (by rw [Array.length_toList];exact h1)
end
end L2
namespace L2
open PySem PySem.Spec PyProof.Rows
section
variable {prog:Program} {w:World} {A:Around} {E:Value->Shared->Prop} {s:Shared} {kd:SortKind} {b:Keyed->Keyed->Bool} {good:Keyed->Prop}
def Zcx (s:Shared) (a:Addr) (vs:List Value):Shared:={ s with heap:=((s.heap.update a (Obj.mapSeq λ_=>#[])).push (seqObj "tuple" vs.toArray 0)).push (seqObj "list" #[] 0) }
theorem ZiD (W:WO b) {arr:Array Keyed} (h:arr.size<2):Rng b arr 0 arr.size:=λi j x y i1 i2 i3 e1 e2=>by
 have:i=j:=by omega
 subst this
 rw [e1] at e2;cases e2
 exact W.le_refl _
theorem Zep {a:Addr} {vs:List Value} {n:Nat} {P:PySem.Fin->Shared->Prop} (W:WO b) (ha:s.heap.get? a=some (seqObj "list" vs.toArray n)) (hz:vs.length<=sizeLine) (hg:∀ v∈vs,good (v,v))
  (hk:2<=vs.length->∀ {E':Value->Shared->Prop} {R:SortKind->Shared->Prop},R kd (Zcx s a vs)->wpAny (model prog w) A (keyKind' vs.toArray) R E' (Zcx s a vs)) (L:ZcZ (model prog w) A E (Zcx s a vs) kd b good)
  (q:∀ out:Array Keyed,out.Perm (pairsOf vs)->Rng b out 0 vs.length->P (.done (.ret .none)) { s with heap:=sortedHeap s.heap a vs (out.map (·.2)) }) :
  wpAny (model prog w) A (Builtin.«list.sort» { pos:=[.ref a] }) P E s:=by
 rw [list_sort_plain]
 refine wpAny_bind (listItems_at ha rfl ?_)
 refine wpAny_bind (listUpdate_at ha rfl ?_ (by rw [List.size_toArray];exact hz) (Nat.zero_le _))
 have ha1:=get?_update_seq ha (λ_=>#[])
 generalize (if ((#[]:Array Value).size == vs.toArray.size)=true then n else n+1)=n1 at ha1
 refine wpAny_bind (seqEpoch_at ha1 rfl ?_)
 refine wpAny_bind (wpAny_newTuple ?_ hz)
 refine wpAny_bind (wpAny_newList ?_ (Nat.zero_le _))
 refine wpAny_holding ?_
 have ha2:(Zcx s a vs).heap.get? a=some (seqObj "list" #[] n1):=Heap.get?_push_of_some _ (Heap.get?_push_of_some _ ha1)
 show wpAny (model prog w) A _ P E (Zcx s a vs)
 have hps:(pairsOf vs).size=vs.length:=pairsOf_size vs
 dsimp only [List.size_toArray]
 split
 ·rename_i h2
  have h2:vs.length<2:=by simpa using h2
  refine wpAny_bind (wpAny_pure ?_)
  refine wpAny_bind (wpAny_mono (Q:=λr s'=>s'=Zcx s a vs/\failedOf r.2=none/\(arrOf r.2).Perm (pairsOf vs)/\Rng b (arrOf r.2) 0 vs.length) (wpAny_pure ⟨rfl,rfl,.refl _,?_⟩) ?_ (λ_ _ z=>z))
  ·have:=ZiD W (arr:=pairsOf vs) (by omega)
   rw [hps] at this
   exact this
  ·rintro ⟨_,st⟩ s' ⟨rfl,e2,hp,hr⟩
   dsimp only
   refine wpAny_bind (seqEpoch_at ha2 rfl ?_)
   have e2:failedOf st=none:=e2
   have hl:((arrOf st).map (·.2)).size<=sizeLine+1:=by
    have this:(arrOf st).size=(pairsOf vs).size:=hp.size_eq
    rw [pairsOf_size] at this
    rw [Array.size_map]
    omega
   refine wpAny_bind (listUpdate_at ha2 rfl ?_ (Nat.zero_le _) hl)
   have:(n1 != n1)=false:=by simp
   rw [this,e2]
   exact wpAny_pure (q (arrOf st) hp hr)
 ·rename_i h2
  have h2:¬ vs.length<2:=by simpa using h2
  refine wpAny_bind (hk (by omega) ?_)
  refine wpAny_bind (wpAny_mono (Q:=λr s'=>s'=Zcx s a vs/\failedOf r.2=none/\(arrOf r.2).Perm (pairsOf vs)/\Rng b (arrOf r.2) 0 vs.length) ?_ ?_ (λ_ _ z=>z))
  ·refine Zc0 (st:=SortSt.mk' kd (vs.toArray.zip vs.toArray) #[] 7 none) (Q:=λ_ st=>failedOf st=none/\(arrOf st).Perm (pairsOf vs)/\Rng b (arrOf st) 0 vs.length) W L rfl rfl rfl (λx hx=>?_) λst' k1 k2 k3=>⟨k2,k1,?_⟩
   ·have hx:x∈(pairsOf vs).toList:=hx
    rw [pairsOf_toList] at hx
    obtain ⟨e,hm⟩:=mem_zip_self hx
    obtain ⟨x1,x2⟩:=x
    have e:x1=x2:=e
    subst e
    exact hg _ hm
   ·have e:(arrOf (SortSt.mk' kd (vs.toArray.zip vs.toArray) #[] 7 none)).size=vs.length:=hps
    rw [e] at k3
    exact k3
  ·rintro ⟨_,st⟩ s' ⟨rfl,e2,hp,hr⟩
   dsimp only
   refine wpAny_bind (seqEpoch_at ha2 rfl ?_)
   have e2:failedOf st=none:=e2
   have hl:((arrOf st).map (·.2)).size<=sizeLine+1:=by
    have this:(arrOf st).size=(pairsOf vs).size:=hp.size_eq
    rw [pairsOf_size] at this
    rw [Array.size_map]
    omega
   refine wpAny_bind (listUpdate_at ha2 rfl ?_ (Nat.zero_le _) hl)
   have:(n1 != n1)=false:=by simp
   rw [this,e2]
   exact wpAny_pure (q (arrOf st) hp hr)
theorem Zcy {h:Heap} {a c:Addr} {o:Obj} {f:Obj->Obj} (hc:c≠a) (e:h.get? c=some o):(h.update a f).get? c=some o:=(Heap.get?_update_ne h c a f hc).trans e
theorem Zg8 {l:Addr} {vs:List Value} {Q:Value->Shared->Prop} (W:WO b) (hl:s.heap.IsList l vs.toArray) (hz:vs.length<=sizeLine) (hg:∀ v∈vs,good (v,v))
  (hk:∀ h':Heap,(∀ c o,s.heap.get? c=some o->h'.get? c=some o)->2<=vs.length->∀ {E':Value->Shared->Prop} {R:SortKind->Shared->Prop},R kd { s with heap:=h' }->wpAny (model prog w) A.in1.in1 (keyKind' vs.toArray) R E' { s with heap:=h' })
  (L:∀ h':Heap,(∀ c o,s.heap.get? c=some o->h'.get? c=some o)->ZcZ (model prog w) A.in1.in1 E { s with heap:=h' } kd b good)
  (q:∀ out:Array Keyed,out.Perm (pairsOf vs)->Rng b out 0 vs.length->Q (.ref (s.heap.objs.size+1)) { s with heap:=sortedAll s.heap vs (out.map (·.2)) }) :
  wpAny (model prog w) A (call (.builtin "sorted") [.ref l]) Q E s:=by
 refine Calls.call_function_entry kind_sorted plain_sorted entry_sorted (args_sorted1 _) ?_
 unfold Builtin.sorted
 refine wpAny_bind (wpAny_pure ?_)
 refine wpAny_bind (collect_list hl ?_ hz)
 refine wpAny_bind (wpAny_newList ?_ hz)
 refine wpAny_bind (wpAny_holding ?_)
 generalize hh1:(s.heap.push (seqObj "list" #[] 0)).update s.heap.objs.size (Obj.mapSeq λx=>x++vs.toArray)=h1
 have sz1:h1.objs.size=s.heap.objs.size+1:=by rw [<-hh1,Heap.size_update,Heap.size_push]
 have k1:∀ c o,s.heap.get? c=some o->h1.get? c=some o:=λc o e=>by
  rw [<-hh1]
  exact Zcy (Nat.ne_of_lt (Heap.lt_size e)) (Heap.get?_push_of_some _ e)
 generalize hh2:h1.push { cls:=Value.type "list", data:=Data.seq vs.toArray }=h2
 have ha:h2.get? h1.objs.size=some (seqObj "list" vs.toArray 0):=by rw [<-hh2];exact Heap.get?_push_size _ rfl
 have k2:∀ c o,s.heap.get? c=some o->h2.get? c=some o:=λc o e=>by
  rw [<-hh2]
  exact Heap.get?_push_of_some _ (k1 c o e)
 have k3:∀ c o,s.heap.get? c=some o->(Zcx { s with heap:=h2 } h1.objs.size vs).heap.get? c=some o:=λc o e=>by
  unfold Zcx
  refine Heap.get?_push_of_some _ (Heap.get?_push_of_some _ (Zcy ?_ (k2 c o e)))
  have:=Heap.lt_size e
  rw [sz1]
  exact Nat.ne_of_lt (Nat.lt_succ_of_lt this)
 refine wpAny_call_entry (s:={ s with heap:=h2 }) slot_list_sort ⟨_,ha,rfl⟩ entry_list_sort ?_ (args_list_sort _)
 refine Zep (s:={ s with heap:=h2 }) W ha hz hg (λh=>hk _ k3 h) (L _ k3) λout p r=>⟨.none,rfl,wpAny_pure ⟨_,rfl,?_⟩⟩
 have e:({ s with heap:=sortedHeap h2 h1.objs.size vs (out.map (·.2)) }:Shared)={ s with heap:=sortedAll s.heap vs (out.map (·.2)) }:=by
  unfold sortedAll
  rw [sz1,<-hh2,<-hh1]
 show Q (.ref h1.objs.size) { s with heap:=sortedHeap h2 h1.objs.size vs (out.map (·.2)) }
 rw [e,sz1]
 exact q out p r
def Zqx:Keyed->Keyed->Bool:=λx y=>match x.1,y.1 with
 | .int i _,.int j _=>decide (i<j)
 | _,_=>false
def Zqy (x:Keyed):Prop:=∃ i t,x.1=.int i t
def Zqz:Value->Int
 | .int i _=>i
 | _=>0
end
end L2
namespace L2
open PySem PySem.Spec PyProof.Rows
def Zcz:List Int->List Int->Bool
 | [],[]=>false
 | [],_::_=>true
 | _::_,[]=>false
 | x::xs,y::ys=>if x=y then Zcz xs ys else decide (x<y)
section
variable {prog:Program} {w:World} {A:Around} {E:Value->Shared->Prop} {s:Shared}
theorem Zeq:∀ {its:List Value} {ns:List Int},IntsAre its ns->∀ k:Nat,(its[k]?=none/\ns.drop k=[])\/∃ i t,its[k]?=some (.int i t)/\ns.drop k=i::ns.drop (k+1)
 | _,_,.nil,k=>.inl ⟨by simp,by simp⟩
 | _,_,.cons n t h,0=>.inr ⟨n,t,rfl,rfl⟩
 | _,_,.cons n t h,k+1=>by
  rcases Zeq h k with ⟨h1,h2⟩ | ⟨i,t,h1,h2⟩
  ·exact .inl ⟨by simpa using h1,by simpa using h2⟩
  ·exact .inr ⟨i,t,by simpa using h1,by simpa using h2⟩
theorem ZbZ {its:List Value} {ns:List Int} (h:IntsAre its ns):its.length=ns.length:=by
 induction h with
 | nil=>rfl
 | cons n t h ih=>simp [ih]
theorem Zln {a c:Addr} {oa oc:Obj} {xs ys:List Value} {ns ms:List Int} {na nc:Nat} {R:Result->Shared->Prop} (ga:s.heap.get? a=some oa) (gc:s.heap.get? c=some oc) (da:oa.data=.seq xs.toArray na) (dc:oc.data=.seq ys.toArray nc) (hx:IntsAre xs ns) (hy:IntsAre ys ms) :
  ∀ left k:Nat,ns.length-k=left->k<=ns.length->k<=ms.length->R (.ok (.ret (.bool (Zcz (ns.drop k) (ms.drop k))))) s->codeAny (model prog w) A (.builtin "list.__eq__.loop" { pos:=[.ref a,.ref c,rawInt (k:Int),rawInt 0] }) R s:=by
 intro left
 induction left with
 | zero=>
  intro k hl h1 h2 hR
  refine codeAny_builtin MeetsSeq3.entry_eq_loop ?_
  rw [Around.under_plainId MeetsSeq3.plain_eq_loop _]
  show wpAny _ A.in1 (Builtin.List.listItems (.ref a) >>= _) _ _ s
  refine wpAny_bind (listItems_at ga da (wpAny_bind (listItems_at gc dc ?_)))
  have e1:xs.toArray[((k:Int)).toNat]?=none:=by
   rw [Int.toNat_natCast]
   rcases Zeq hx k with ⟨h,_⟩ | ⟨i,t,h,_⟩
   ·simpa using h
   ·have:=(List.getElem?_eq_some_iff.mp h).1
    have:=ZbZ hx
    omega
  rw [e1]
  show wpAny _ A.in1 (Builtin.List.listItems (.ref a) >>= _) _ _ s
  refine wpAny_bind (listItems_at ga da (wpAny_bind (listItems_at gc dc (wpAny_pure ?_))))
  show R (.ok (.ret (.bool (decide (xs.toArray.size<ys.toArray.size))))) s
  have e2:Zcz (ns.drop k) (ms.drop k)=decide (xs.toArray.size<ys.toArray.size):=by
   rw [List.size_toArray,List.size_toArray,ZbZ hx,ZbZ hy]
   have:ns.drop k=[]:=List.drop_of_length_le (by omega)
   rw [this]
   cases hd:ms.drop k with
   | nil=>
    have:=List.drop_eq_nil_iff.mp hd
    rw [decide_eq_false (by omega)]
    rfl
   | cons y l=>
    have:k<ms.length:=by
     refine Nat.lt_of_not_le λh=>?_
     rw [List.drop_of_length_le h] at hd
     cases hd
    rw [decide_eq_true (by omega)]
    rfl
  rw [<-e2]
  exact hR
 | succ left ih=>
  intro k hl h1 h2 hR
  refine codeAny_builtin MeetsSeq3.entry_eq_loop ?_
  rw [Around.under_plainId MeetsSeq3.plain_eq_loop _]
  show wpAny _ A.in1 (Builtin.List.listItems (.ref a) >>= _) _ _ s
  refine wpAny_bind (listItems_at ga da (wpAny_bind (listItems_at gc dc ?_)))
  rw [Int.toNat_natCast]
  rcases Zeq hx k with ⟨h,z⟩ | ⟨i,t,hi,di⟩
  ·have:=List.drop_eq_nil_iff.mp z
   omega
  ·have e1:xs.toArray[k]?=some (.int i t):=by simpa using hi
   rw [e1]
   rcases Zeq hy k with ⟨h,z⟩ | ⟨j,u,hj,dj⟩
   ·have e2:ys.toArray[k]?=none:=by simpa using h
    rw [e2]
    show wpAny _ A.in1 (Builtin.List.listItems (.ref a) >>= _) _ _ s
    refine wpAny_bind (listItems_at ga da (wpAny_bind (listItems_at gc dc (wpAny_pure ?_))))
    show R (.ok (.ret (.bool (decide (xs.toArray.size<ys.toArray.size))))) s
    rw [di,z] at hR
    have:=List.drop_eq_nil_iff.mp z
    rw [List.size_toArray,List.size_toArray,ZbZ hx,ZbZ hy,decide_eq_false (by omega)]
    exact hR
   ·have e2:ys.toArray[k]?=some (.int j u):=by simpa using hj
    rw [e2]
    rw [di,dj] at hR
    show wpAny _ A.in1 (eqBool (.int i t) (.int j u) >>= _) _ _ s
    refine wpAny_bind (wpAny_eqBool_int ?_)
    have kl:k<ms.length:=by
     have:=(List.getElem?_eq_some_iff.mp hj).1
     rw [ZbZ hy] at this
     exact this
    by_cases hij:i=j
    ·rw [show (i == j)=true by rw [hij];exact beq_self_eq_true _,if_pos rfl]
     refine wpAny_pure ⟨plainId_quiet MeetsSeq3.plain_eq_loop _,ih (k+1) (by omega) (by omega) (by omega) ?_⟩
     unfold Zcz at hR
     rw [if_pos hij] at hR
     exact hR
    ·rw [show (i == j)=false by rw [beq_eq_false_iff_ne];exact hij,if_neg Bool.false_ne_true]
     refine wpAny_bind (listItems_at ga da (wpAny_bind (listItems_at gc dc ?_)))
     rw [e1,e2]
     refine wpAny_bind (lt_int (wpAny_pure ?_))
     unfold Zcz at hR
     rw [if_neg hij] at hR
     exact hR
theorem ZjO (a c:Addr) (xs ys:List Value) (ns ms:List Int) (na nc:Nat) (hx:IntsAre xs ns) (hy:IntsAre ys ms):Meets (Builtin.«list.__lt__» { pos:=[.ref a,.ref c] }) λA R s=>
  s.heap.IsList a xs.toArray/\s.heap.IsList c ys.toArray/\R (.ok (.ret (.bool (Zcz ns ms)))) s:=by
 intro prog w A R s ⟨ha,hc,hR⟩
 obtain ⟨oa,ga,ca,n1,da⟩:=ha
 obtain ⟨oc,gc,cc,n2,dc⟩:=hc
 show wpAny _ A.in1 (isInstance (.ref c) (.type "list") >>= _) _ _ s
 refine wpAny_bind (wpAny_isInstance (T := "list") ⟨oc,gc,cc⟩ (by first | rfl | decide +kernel) ?_)
 refine wpAny_pure ⟨plainId_quiet MeetsSeq3.plain_eq_loop _,?_⟩
 exact Zln ga gc da dc hx hy _ 0 rfl (Nat.zero_le _) (Nat.zero_le _) hR
theorem Zg9 {a c:Addr} {xs ys:List Value} {ns ms:List Int} {Q:Bool->Shared->Prop} (ha:s.heap.IsList a xs.toArray) (hc:s.heap.IsList c ys.toArray) (hx:IntsAre xs ns) (hy:IntsAre ys ms) (hu:A.units<cLine) (h:Q (Zcz ns ms) s) :
  wpAny (model prog w) A (oneLt' true (.ref a) (.ref c)) Q E s:=by
 rw [oneLt'_eq]
 dsimp only
 rw [if_pos rfl]
 refine wpAny_bind (wpAny_cRoom hu ?_)
 have Ta:s.TypeIs (.ref a) "list" := ha.elim λo z=>⟨o,z.1,z.2.1⟩
 refine wpAny_bind (wpAny_callSpecialIfBound?_slot Ta F.slot_list_lt (call_meets F.slot_list_lt Ta F.entry_list_lt (F.args_list_lt_2 _ _) (ZjO a c xs ys ns ms 0 0 hx hy) ⟨ha,hc,?_⟩))
 show wpAny _ A (truthOfDropped (.bool (Zcz ns ms))) Q E s
 exact wpAny_truthy_bool h
end
end L2
namespace L2
open PySem PySem.Spec PyProof.Rows Classical
theorem Zgr:∀ xs:List Int,Zcz xs xs=false
 | []=>rfl
 | x::xs=>by
  unfold Zcz
  rw [if_pos rfl]
  exact Zgr xs
theorem ZiE:∀ {xs ys zs:List Int},Zcz xs ys=true->Zcz ys zs=true->Zcz xs zs=true
 | [],[],_,h,_=>by simp [Zcz] at h
 | [],_::_,[],_,h=>by simp [Zcz] at h
 | [],_::_,_::_,_,_=>rfl
 | _::_,[],_,h,_=>by simp [Zcz] at h
 | _::_,_::_,[],_,h=>by simp [Zcz] at h
 | x::xs,y::ys,z::zs,h1,h2=>by
  unfold Zcz at h1 h2 ⊢
  by_cases e1:x=y
  ·rw [if_pos e1] at h1
   by_cases e2:y=z
   ·rw [if_pos e2] at h2
    rw [if_pos (e1.trans e2)]
    exact ZiE h1 h2
   ·rw [if_neg e2] at h2
    rw [if_neg (by rw [e1];exact e2),e1]
    exact h2
  ·rw [if_neg e1] at h1
   have h1:=of_decide_eq_true h1
   by_cases e2:y=z
   ·rw [if_neg (by rw [<-e2];exact e1),<-e2]
    exact decide_eq_true h1
   ·rw [if_neg e2] at h2
    have h2:=of_decide_eq_true h2
    rw [if_neg (by omega)]
    exact decide_eq_true (by omega)
theorem Zer:∀ {xs ys:List Int},Zcz xs ys=false->Zcz ys xs=false->xs=ys
 | [],[],_,_=>rfl
 | [],_::_,h,_=>by simp [Zcz] at h
 | _::_,[],_,h=>by simp [Zcz] at h
 | x::xs,y::ys,h1,h2=>by
  unfold Zcz at h1 h2
  by_cases e:x=y
  ·rw [if_pos e] at h1
   rw [if_pos e.symm] at h2
   rw [e,Zer h1 h2]
  ·rw [if_neg e] at h1
   rw [if_neg (Ne.symm e)] at h2
   have h1:=of_decide_eq_false h1
   have h2:=of_decide_eq_false h2
   omega
theorem ZmP {α:Type} {κ:Keyed->α} {lt:α->α->Bool} (irr:∀ a,lt a a=false) (tr:∀ {a b c},lt a b=true->lt b c=true->lt a c=true) (tot:∀ {a b},lt a b=false->lt b a=false->a=b):WO (λx y=>lt (κ x) (κ y)):=by
 refine ⟨λx=>irr _,λx y z=>tr,λx y z h=>?_⟩
 cases h1:lt (κ x) (κ y) with
 | true=>exact .inl rfl
 | false=>
  cases h2:lt (κ y) (κ x) with
  | true=>exact .inr (tr h2 h)
  | false=>
   rw [<-tot h1 h2]
   exact .inr h
theorem ZiF {α β:Type} {f:α->β}:∀ {l:List β} {zs:List α},l.Perm (zs.map f)->∃ zs':List α,zs'.Perm zs/\zs'.map f=l:=by
 intro l zs h
 generalize hm:zs.map f=m at h
 induction h generalizing zs with
 | nil=>exact ⟨zs,.refl _,by rw [hm]⟩
 | @cons x l1 l2 _ ih=>
  cases zs with
  | nil=>simp at hm
  | cons z zs=>
   simp at hm
   obtain ⟨zs',h1,h2⟩:=ih hm.2
   exact ⟨z::zs',h1.cons z,by rw [List.map_cons,h2,hm.1]⟩
 | swap x y l=>
  cases zs with
  | nil=>simp at hm
  | cons z zs=>
   cases zs with
   | nil=>simp at hm
   | cons z2 zs=>
    simp at hm
    exact ⟨z2::z::zs,.swap _ _ _,by simp [hm.1,hm.2.1,hm.2.2]⟩
 | trans _ _ ih1 ih2=>
  obtain ⟨zs1,h1,h2⟩:=ih2 hm
  obtain ⟨zs2,h3,h4⟩:=ih1 h2
  exact ⟨zs2,h3.trans h1,h4⟩
section
variable {prog:Program} {w:World} {A:Around} {E:Value->Shared->Prop} {s:Shared} {b:Keyed->Keyed->Bool} {good:Keyed->Prop}
theorem ZjP (h:∀ x y,good x->good y->∀ {E':Value->Shared->Prop} {Q:Bool->Shared->Prop},Q (b x y) s->wpAny (model prog w) A (oneLt' true x.1 y.1) Q E' s):ZcZ (model prog w) A E s oneType' b good:=by
 intro x y st Q gx gy hs q
 rw [lt'_eq]
 refine wpS_bind (wpS_get ?_)
 refine wpS_bind (wpS_lift ?_)
 rw [hs,keyLt'_oneType]
 exact wpAny_attempt (h x y gx gy ⟨rfl,wpS_pure q⟩)
theorem ZcS {β:Type} {f:Value->Sem β} {g:Value->β}:∀ {vs:List Value} {Q:List β->Shared->Prop},(∀ v∈vs,∀ {Q:β->Shared->Prop},Q (g v) s->wpAny (model prog w) A (f v) Q E s)->Q (vs.map g) s->wpAny (model prog w) A (List.mapM f vs) Q E s
 | [],Q,_,q=>by
  rw [List.mapM_nil]
  exact wpAny_pure q
 | v::vs,Q,h,q=>by
  rw [List.mapM_cons]
  refine wpAny_bind (h v (List.mem_cons_self ..) ?_)
  exact wpAny_bind (ZcS (λu hu=>h u (List.mem_cons_of_mem _ hu)) (wpAny_pure q))
theorem Ze4 {α β:Type} {m:Sem α} {f:α->β} {Q:β->Shared->Prop} (h:wpAny (model prog w) A m (λa s'=>Q (f a) s') E s):wpAny (model prog w) A (f <$> m) Q E s:=by
 rw [map_eq_pure_bind]
 exact wpAny_bind (wpAny_mono h (λa s' z=>wpAny_pure z) λ_ _ z=>z)
theorem ZfO {T:String} {vs:List Value} {R:SortKind->Shared->Prop} (hT:T ≠ "tuple") (h:∀ v∈vs,s.TypeIs v T) (h2:2<=vs.length) (q:R oneType' s):wpAny (model prog w) A (keyKind' vs.toArray) R E s:=by
 rw [keyKind'_eq,List.mapM_toArray]
 have ne:(Value.type T != Value.type "tuple")=true:=by
  rw [bne_iff_ne]
  intro e
  injection e with e
  exact hT e
 refine wpAny_bind (Ze4 (ZcS (g:=λ_=>none) (λv hv Q q=>?_) ?_))
 ·show wpAny _ _ (typeOf v >>= _) _ _ s
  refine wpAny_bind (wpAny_typeOf (h v hv) ?_)
  rw [if_pos ne]
  exact wpAny_pure q
 ·obtain ⟨v1,v2,rest,rfl⟩:∃ v1 v2 rest,vs=v1::v2::rest:=by
   match vs,h2 with
   | v1::v2::rest,_=>exact ⟨v1,v2,rest,rfl⟩
  rw [if_neg (by simp)]
  rw [if_neg (by simp)]
  rw [oneTypeOnly'_eq,List.mapM_toArray]
  refine wpAny_bind (wpAny_bind (Ze4 (ZcS (g:=λ_=>Value.type T) (λv hv Q q=>wpAny_typeOf (h v hv) q) ?_)))
  simp only [List.map_cons,List.getElem?_toArray,List.getElem?_cons_zero]
  refine wpAny_pure ?_
  rw [if_pos (by simp)]
  exact wpAny_pure q
end
end L2
namespace L2
open PySem PySem.Spec PyProof.Rows Classical
def ltI (x y:Int):Bool:=decide (x<y)
theorem Ze5 {b:Keyed->Keyed->Bool} {out:Array Keyed} {n:Nat} (h:Rng b out 0 n) (hn:out.size=n):out.toList.Pairwise (kle b):=by
 rw [List.pairwise_iff_getElem]
 intro i j hi hj hij
 rw [Array.length_toList] at hi hj
 exact h i j _ _ (Nat.zero_le _) (by omega) (by omega) (by simp [hi]) (by simp [hj])
theorem ZjQ {vs:List Value} {out:Array Keyed} (h:out.Perm (pairsOf vs)):(out.map (·.2)).toList.Perm vs/\(∀ x∈out.toList,x.1=x.2/\x.1∈vs)/\out.size=vs.length:=by
 have p:out.toList.Perm (vs.zip vs):=by
  have:=h.toList
  rw [pairsOf_toList] at this
  exact this
 refine ⟨?_,λx hx=>mem_zip_self (p.mem_iff.mp hx),by rw [h.size_eq,pairsOf_size]⟩
 rw [Array.toList_map]
 have:=p.map (λx:Keyed=>x.2)
 rw [show (vs.zip vs).map (λx:Keyed=>x.2)=vs from List.map_snd_zip (Nat.le_refl _)] at this
 exact this
noncomputable def Zlo (h:Heap) (v:Value):List Int:=if q:∃ ns a its,v=.ref a/\h.IsList a its/\IntsAre its.toList ns then choose q else []
theorem Zgs:∀ {its:List Value} {ns ms:List Int},IntsAre its ns->IntsAre its ms->ns=ms
 | _,_,_,.nil,.nil=>rfl
 | _,_,_,.cons n t h,.cons _ _ k=>by rw [Zgs h k]
theorem Zha {h:Heap} {a:Addr} {xs ys:Array Value} (h1:h.IsList a xs) (h2:h.IsList a ys):xs=ys:=by
 obtain ⟨o,e,_,n,d⟩:=h1
 obtain ⟨o',e',_,n',d'⟩:=h2
 rw [e] at e';cases e'
 rw [d] at d';cases d'
 rfl
theorem Zes {h:Heap} {a:Addr} {its:Array Value} {ns:List Int} (hl:h.IsList a its) (hi:IntsAre its.toList ns):Zlo h (.ref a)=ns:=by
 have q:∃ ns a' its,Value.ref a=.ref a'/\h.IsList a' its/\IntsAre its.toList ns:=⟨ns,a,its,rfl,hl,hi⟩
 unfold Zlo
 rw [dif_pos q]
 obtain ⟨a',its',e,h1,h2⟩:=choose_spec q
 cases e
 have:=Zha hl h1
 subst this
 exact Zgs h2 hi
theorem Zlp (h:Heap):WO (λx y=>Zcz (Zlo h x.1) (Zlo h y.1)):=ZmP (κ:=λx:Keyed=>Zlo h x.1) (lt:=Zcz) Zgr ZiE Zer
section
variable {X:Cx} (K:PySem.W.Frag)
def Zo1:List V->Hp->VK->Prop:=λxs H Q=>∃ (p:Addr) (ns:List Int),xs=[.ref p]/\SqL K H p (ns.map V.int)/\∀ (l:Addr) (ns':List Int),H l=none->ns'.Perm ns->ns'.Pairwise (· <= ·)->Q (.ref l) (upd H l (.lst (ns'.map V.int)))
def Zlq:List V->Hp->VK->Prop:=λxs H Q=>∃ (p:Addr) (zs:List (Addr×List Int)),xs=[.ref p]/\SqL K H p (zs.map λz=>V.ref z.1)/\(∀ z∈zs,SqL K H z.1 (z.2.map V.int)) /\
 ∀ (l:Addr) (zs':List (Addr×List Int)),H l=none->zs'.Perm zs->(zs'.map (·.2)).Pairwise (λa b=>Zcz b a=false)->Q (.ref l) (upd H l (.lst (zs'.map λz=>V.ref z.1)))
theorem Zgt:∀ {zs:List (Addr×List Int)} {its:List Value},Vals (zs.map λz=>V.ref z.1) its->its=zs.map λz=>Value.ref z.1
 | [],_,h=>by cases h;rfl
 | z::zs,_,h=>by
  cases h with
  | cons r h=>
   cases r
   rw [Zgt h]
   rfl
theorem Ze6:∀ (zs:List (Addr×List Int)),Vals (zs.map λz=>V.ref z.1) (zs.map λz=>Value.ref z.1)
 | []=>.nil
 | z::zs=>.cons rfl (Ze6 zs)
theorem ZfP (hu:X.A.units+64<cLine) (h:X.K=K:=by rfl):ZbC X (.builtin "sorted") (Zlq K):=by
 subst h
 intro pins s σ H xs us Q I rv h
 obtain ⟨p,zs,rfl,hq,hz,q⟩:=h
 obtain ⟨u,rfl,ru⟩:=rv.one
 cases ru
 obtain ⟨its,r,pl,hzl⟩:=I.list hq
 have hl:=r.length
 rw [List.length_map] at hl hzl
 have ei:=Zgt r
 have key:∀ z∈zs,∃ its:Array Value,s.heap.IsList z.1 its/\IntsAre its.toList z.2:=λz hzm=>by
  obtain ⟨iz,rz,pz,_⟩:=I.list (hz z hzm)
  exact ⟨iz.toArray,pz.isList,ZbQ rz⟩
 have isL:∀ v∈its,∃ a,∃ it:Array Value,∃ ns,v=.ref a/\s.heap.IsList a it/\IntsAre it.toList ns:=λv hv=>by
  rw [ei] at hv
  obtain ⟨z,hzm,rfl⟩:=List.mem_map.mp hv
  obtain ⟨it,h1,h2⟩:=key z hzm
  exact ⟨z.1,it,z.2,rfl,h1,h2⟩
 have keepL:∀ {h':Heap} {a:Addr} {it:Array Value},(∀ c o,s.heap.get? c=some o->h'.get? c=some o)->s.heap.IsList a it->h'.IsList a it:=λk hl=>by
  obtain ⟨o,e,r⟩:=hl
  exact ⟨o,k _ _ e,r⟩
 refine Zg8 (good:=λx=>∃ a,∃ it:Array Value,∃ ns,x.1=.ref a/\s.heap.IsList a it/\IntsAre it.toList ns) (Zlp s.heap) pl.isList (by omega) isL (λh' k h2 E' R q=>?_) (λh' k=>ZjP λx y gx gy E' Q q=>?_) λout hp hr=>?_
 ·refine ZfO (T := "list") (by decide) (λv hv=>?_) h2 q
  obtain ⟨a,it,ns,rfl,h1,_⟩:=isL v hv
  obtain ⟨o,e,c,_⟩:=keepL k h1
  exact ⟨o,e,c⟩
 ·obtain ⟨a,it,ns,e1,h1,h2⟩:=gx
  obtain ⟨c,jt,ms,e2,h3,h4⟩:=gy
  simp only [e1,e2,Zes h1 h2,Zes h3 h4] at q ⊢
  exact Zg9 (xs:=it.toList) (ys:=jt.toList) (keepL k h1) (keepL k h3) h2 h4 (by rw [Around.in1_units,Around.in1_units];omega) q
 ·obtain ⟨o1,o2,o3⟩:=ZjQ hp
  obtain ⟨e,he⟩:=sortedAll_at s.heap its (out.map (·.2))
  rw [ei] at o1
  obtain ⟨zs',p1,p2⟩:=ZiF o1
  have ps:(zs'.map (·.2)).Pairwise (λa b=>Zcz b a=false):=by
   have a1:=Ze5 hr o3
   have a2:(out.toList.map (·.2)).Pairwise (λu v=>Zcz (Zlo s.heap v) (Zlo s.heap u)=false):=by
    rw [List.pairwise_map]
    refine a1.imp_of_mem λ{x y} hx hy hxy=>?_
    rw [<-(o2 x hx).1,<-(o2 y hy).1]
    exact hxy
   rw [Array.toList_map] at p2
   rw [<-p2,List.pairwise_map] at a2
   rw [List.pairwise_map]
   refine a2.imp_of_mem λ{x y} hx hy hxy=>?_
   obtain ⟨it,h1,h2⟩:=key x (p1.mem_iff.mp hx)
   obtain ⟨jt,h3,h4⟩:=key y (p1.mem_iff.mp hy)
   rw [Zes h1 h2,Zes h3 h4] at hxy
   exact hxy
  refine ⟨.ref _,_,I.laid (a:=s.heap.objs.size+1) (t':=s.toks) (o:=.lst (zs'.map λz=>V.ref z.1)) (λb o e=>sortedAll_old e) (Nat.le_succ _) ⟨by rw [List.length_map,p1.length_eq];exact hzl,(out.map (·.2)).toList,e,by rw [<-p2];exact Ze6 zs',he⟩,rfl,q _ _ (I.hok.fresh (Nat.le_succ _)) p1 ps⟩
end
end L2
namespace M
open PySem L2
def top (i:Nat):Stmt:=PySem.Challenge.pw_onceways_k40_whole_ways_leave_parts.main.body.getD i (.Pass ⟨0,0,0,0⟩)
abbrev sIs:Stmt:=top 7
abbrev Zlr:Stmt:=top 8
abbrev Zks:Stmt:=top 9
abbrev Zls:Stmt:=top 10
abbrev ZjR:Stmt:=top 13
abbrev Zkt:Stmt:=top 14
abbrev Zlt:Stmt:=top 15
abbrev ZfQ:Stmt:=top 16
abbrev ZiG:Stmt:=top 17
abbrev ZjS:Stmt:=top 18
abbrev Zku:Stmt:=top 19
abbrev ZjT:Stmt:=top 20
abbrev Zkv:Stmt:=top 21
abbrev Zkw:Stmt:=top 23
abbrev Zlu:Stmt:=top 24
abbrev Zlv:Stmt:=top 26
abbrev ZfR:Stmt:=top 28
abbrev ZfS:Stmt:=top 29
abbrev Zet:Stmt:=top 30
abbrev Zdt:Stmt:=top 31
abbrev Zlw:Stmt:=top 32
abbrev Zlx:Stmt:=top 33
abbrev Zly:Stmt:=top 34
abbrev Zlz:Stmt:=top 35
abbrev ZlA:Stmt:=top 36
abbrev ZlB:Stmt:=top 37
abbrev ZjU:Stmt:=top 38
section
variable {P:Program} {w:World} {K:PySem.W.Frag} {mg:Str->Option Value} {base:Heap}
theorem Za9 {p:Nat} {a:Int} (h:a.natAbs<2 ^ p:=by decide +kernel):Lt2 p a:=h
def Zkx:Sp:=λvs H Q _=>∃ (c k:Int),vs=[.int c,.int k]/\1<=k/\k<=3/\∀ r:Int,0<=r->Lt2 210 r->Q (.int r) H
theorem scStir:Zau ["cell", "k", "number"] ["cell", "k"] (Zae ZfR):=⟨rfl,rfl,rfl,by decide +kernel,rfl,by decide +kernel,by decide +kernel⟩
theorem ZlC {f:Addr} {fd:FuncData} (F:Fun K "_law_stir" "_law_stir" ZfR f fd):ZaI P w K mg base CX0 1 f fd ["cell", "k"] Zkx:=by
 refine F.ok scStir (λvs H Q E h=>?_) (λcdv A outer s H vs Q E hr h=>?_)
 ·obtain ⟨c,k,rfl,_⟩:=h
  rfl
 ·obtain ⟨c,k,rfl,h1,h2,q⟩:=h
  refine ⟨_,Zad (Zav (i:=2) scStir.nd rfl (Or.inl rfl)
    (Zaz ZaW (Zaz ZaW (Zaz ZbG (Zaz ZdL (pv 0) (Zaz ZcV Zai Zai)) Zai) (Zaz ZbG (Zaz ZbG (Zaz ZcV Zai Zai) (Zaz ZaW (pv 1) Zai)) (Zaz ZaW (pv 1) Zai))) (pv 1)))
   (Zad (Zav (i:=2) scStir.nd rfl (Or.inl rfl) (Zaz ZaW (Zaz ZbG (pv 2) (pv 2)) (Zaz ZbG Zai (pv 2))))
   (Zah (Zaw (Zaz Zf9 (Zaz ZdL (Zaz ZbG (pv 2) (pv 2)) (Zaz ZaW (Zaz ZcV Zai Zai) Zai)) Zai)))),?_⟩
  have b1:Lt2 133 (10 ^ 40:Int):=Za9
  have m1:Lt2 133 (c % (10 ^ 40:Int)):=Lt2.mod (by decide) b1
  have k1:Lt2 3 (k+1):=by show (k+1).natAbs<2 ^ 3;omega
  have k2:Lt2 150 k:=by show k.natAbs<2 ^ 150;omega
  have t1:Lt2 96 (3 ^ 60:Int):=Za9
  have c1:Lt2 16 (48271:Int):=Za9
  have n1:=((m1.mul c1).mono (show 133+16<=149 by decide)).add (((t1.mul k1).mul k1).mono (show 96+3+3<=149 by decide))
  have n2:=n1.add k2
  have c2:Lt2 17 (69621:Int):=Za9
  have n3:=((n2.mul n2).mono (show 151+151<=302 by decide)).add ((c2.mul n2).mono (show 17+151<=302 by decide))
  refine ⟨_,rfl,_,_,rfl,rfl,⟨by decide,by decide,by decide⟩,_,_,rfl,rfl,(by show (0:Int)<10 ^ 40;decide),_,_,rfl,rfl,⟨133,16,m1,c1,by decide,by decide⟩,?_⟩
  refine ⟨_,_,rfl,rfl,⟨by decide,by decide,by decide⟩,_,rfl,_,_,rfl,rfl,_,_,rfl,rfl,⟨96,3,t1,k1,by decide,by decide⟩,_,rfl,_,_,rfl,rfl,_,_,rfl,rfl,⟨99,3,t1.mul k1,k1,by decide,by decide⟩,_,_,rfl,rfl,_,rfl,_,_,rfl,rfl,?_⟩
  refine ⟨_,rfl,_,rfl,_,_,rfl,rfl,⟨151,151,n2,n2,by decide,by decide⟩,_,rfl,_,_,rfl,rfl,⟨17,151,c2,n2,by decide,by decide⟩,_,_,rfl,rfl,?_⟩
  have md:Lt2 204 ((10:Int) ^ 61+7):=Za9
  refine ⟨_,rfl,_,rfl,_,_,rfl,rfl,⟨303,303,n3,n3,by decide,by decide⟩,_,_,rfl,rfl,⟨by decide,by decide,by decide⟩,_,_,rfl,rfl,_,_,rfl,rfl,(by show (0:Int)<10 ^ 61+7;decide),_,_,rfl,rfl,⟨by decide,Za9⟩,?_⟩
  have z0:=Int.emod_nonneg (b:=(10:Int) ^ 61+7) ((((c % 10 ^ 40) * 48271+3 ^ 60 * (k+1) * (k+1)+k) * ((c % 10 ^ 40) * 48271+3 ^ 60 * (k+1) * (k+1)+k)+69621 * ((c % 10 ^ 40) * 48271+3 ^ 60 * (k+1) * (k+1)+k)) * (((c % 10 ^ 40) * 48271+3 ^ 60 * (k+1) * (k+1)+k) * ((c % 10 ^ 40) * 48271+3 ^ 60 * (k+1) * (k+1)+k)+69621 * ((c % 10 ^ 40) * 48271+3 ^ 60 * (k+1) * (k+1)+k))) (by decide)
  exact q _ (Int.ediv_nonneg z0 (by decide)) ((Lt2.div z0 (by decide) (Lt2.mod (by decide) md)).mono (by decide))
def Zky:Sp:=λvs H Q _=>∃ (c:Int),vs=[.int c]/\∀ (p:Addr) (n:Int),H p=none->Q (.ref p) (upd H p (.lst [.int n]))
theorem ZmQ:Zau ["cell"] ["cell"] (Zae ZfS):=⟨rfl,rfl,rfl,by decide +kernel,rfl,by decide +kernel,by decide +kernel⟩
theorem ZlD {f fS:Addr} {fd fdS:FuncData} (F:Fun K "_law_deck" "_law_deck" ZfS f fd) (FS:Fun K "_law_stir" "_law_stir" ZfR fS fdS) (bS:Binds K fdS ["cell", "k"] []) (mS:mg "_law_stir" = some (.ref fS)) :
  ZaI P w K mg base CX0 2 f fd ["cell"] Zky:=by
 have GS:ZaI P w K mg base CX0 1 fS fdS ["cell", "k"] Zkx:=ZlC FS
 refine F.ok ZmQ (λvs H Q E h=>?_) (λcdv A outer s H vs Q E hr h=>?_)
 ·obtain ⟨c,rfl,_⟩:=h
  rfl
 ·obtain ⟨c,rfl,q⟩:=h
  refine ⟨_,Zad (Zbb (Zar ZnQ (pv 0) (Zaz ZcV Zai Zai) (ZaB _)) (Zah (Zaw (ZaX (Zaa (Zaz Zhx (pv 0) (Zaz ZcV Zai Zai)) Zac)))) ZaC)
   (Zah (Zaw (ZaX (Zaa (Zaz ZaW (Zaz ZbG (Zaz ZaW (Zaz ZbG
    (Zak GS hr rfl mS FS.kp bS .nil ZaL (Zaa (pv 0) (Zaa Zai Zac))) (Zaz ZcV Zai Zai))
    (Zak GS hr rfl mS FS.kp bS .nil ZaL (Zaa (pv 0) (Zaa Zai Zac)))) (Zaz ZcV Zai Zai))
    (Zak GS hr rfl mS FS.kp bS .nil ZaL (Zaa (pv 0) (Zaa Zai Zac)))) Zac)))),?_⟩
  refine ⟨_,rfl,_,_,rfl,rfl,⟨by decide,by decide,by decide⟩,_,_,rfl,rfl,_,rfl,?_⟩
  refine Zfv (λ_=>?_) (λ_=>?_)
  ·refine ⟨_,rfl,_,_,rfl,rfl,⟨by decide,by decide,by decide⟩,_,_,rfl,rfl,(by show 1<=sizeLine;decide),λp hp=>q p _ hp⟩
  ·have b1:Lt2 210 (10 ^ 60:Int):=Za9
   refine ⟨_,rfl,c,1,rfl,by decide,by decide,λr1 h1 l1=>?_⟩
   refine ⟨_,_,rfl,rfl,⟨by decide,by decide,by decide⟩,_,_,rfl,rfl,⟨210,210,l1,b1,by decide,by decide⟩,?_⟩
   refine ⟨_,rfl,c,2,rfl,by decide,by decide,λr2 h2 l2=>?_⟩
   have l3:=((l1.mul b1).mono (show 210+210<=420 by decide)).add (l2.mono (show 210<=420 by decide))
   refine ⟨_,_,rfl,rfl,_,_,rfl,rfl,⟨by decide,by decide,by decide⟩,_,_,rfl,rfl,⟨421,210,l3,b1,by decide,by decide⟩,?_⟩
   refine ⟨_,rfl,c,3,rfl,by decide,by decide,λr3 h3 l4=>?_⟩
   exact ⟨_,_,rfl,rfl,(by show 1<=sizeLine;decide),λp hp=>q p _ hp⟩
def Zgu:Sp:=λvs H Q _=>∃ (d:Addr) (n m:Int),vs=[.ref d,.int m]/\H d=some (.lst [.int n])/\0<m/\Lt2 9000 m/\∀ n' r:Int,0<=r->r<m->Q (.int r) (upd H d (.lst [.int n']))
theorem scTake:Zau ["deck", "many", "taken"] ["deck", "many"] (Zae Zet):=⟨rfl,rfl,rfl,by decide +kernel,rfl,by decide +kernel,by decide +kernel⟩
theorem ZfT {f:Addr} {fd:FuncData} (F:Fun K "_law_take" "_law_take" Zet f fd):ZaI P w K mg base CX0 1 f fd ["deck", "many"] Zgu:=by
 refine F.ok scTake (λvs H Q E h=>?_) (λcdv A outer s H vs Q E hr h=>?_)
 ·obtain ⟨d,n,m,rfl,_⟩:=h
  rfl
 ·obtain ⟨d,n,m,rfl,hd,hm,hb,q⟩:=h
  refine ⟨_,Zad (Zav (i:=2) scTake.nd rfl (Or.inl rfl) (Zaz ZdL (ZaJ Zfu (pv 0) Zai (λ_ _=>rfl)) (pv 1)))
   (Zad (Zhu (Zaz Zf9 (ZaJ Zfu (pv 0) Zai (λ_ _=>rfl)) (pv 1)) (Zmd (pv 0) Zai Zja))
   (Zah (Zaw (pv 2)))),?_⟩
  refine ⟨_,rfl,d,_,_,_,rfl,rfl,SqL.of hd,Zas (j:=0) rfl,_,rfl,_,_,rfl,rfl,hm,?_⟩
  refine ⟨_,rfl,d,_,_,_,rfl,rfl,SqL.of hd,Zas (j:=0) rfl,_,rfl,_,_,rfl,rfl,⟨hm,hb⟩,?_⟩
  refine ⟨_,rfl,d,_,0,0,rfl,rfl,hd,rfl,_,rfl,?_⟩
  exact q (n / m) (n % m) (Int.emod_nonneg n (Int.ne_of_gt hm)) (Int.emod_lt_of_pos n hm)
end
section
variable {P:Program} {w:World} {K:PySem.W.Frag} {mg:Str->Option Value} {base:Heap}
theorem Zby:2<=sizeLine:=by decide
theorem ZjV (r c p:Nat):(ZgS r c p).length<=2:=by
 unfold ZgS
 rw [List.length_append]
 split <;> split <;> simp
theorem Ze7 (r c:Nat):∀ i,(Zcm r c i).length<=2 * i
 | 0=>by simp [Zcm]
 | i+1=>by
  have h1:=Ze7 r c i
  have h2:=ZjV r c i
  rw [Zcb,List.length_append]
  omega
def ZiH:Sp:=λvs H Q _=>∃ (r c:Nat),vs=[.int (r:Int),.int (c:Int)]/\1<=r/\1<=c/\r<=16/\c<=16/\∀ (p l:Addr) (xs:List V) (H':Hp),Same H H'->H p=none->H l=none->p≠l->H' p=some (.tup [.int ((r:Int) * (c:Int)),.ref l])->H' l=some (.lst xs)->Prs H' xs (Zcm r c (r * c))->Q (.ref p) H'
theorem scLGrid:Zau ["rows", "columns", "roads", "place"] ["rows", "columns"] (Zae Zdt):=⟨rfl,rfl,rfl,by decide +kernel,rfl,by decide +kernel,by decide +kernel⟩
theorem ZjW {f:Addr} {fd:FuncData} (F:Fun K "_law_grid" "_law_grid" Zdt f fd) (mRange:mg "range" = none):ZaI P w K mg base CX0 1 f fd ["rows", "columns"] ZiH:=by
 refine F.ok scLGrid (λvs H Q E h=>?_) (λcdv A outer s H vs Q E hr h=>?_)
 ·obtain ⟨r,c,rfl,_⟩:=h
  rfl
 ·obtain ⟨r,c,rfl,hr1,hc1,hr2,hc2,q⟩:=h
  refine ⟨_,Zad (Zav (i:=2) scLGrid.nd rfl (Or.inl rfl) (ZaX Zac))
    (Zad (Zci PassesOwn.never rfl (ZaT rfl mRange (Zaa (Zaz Zhy (pv 0) (pv 1)) Zac)) (Zao (i:=3) scLGrid.nd rfl (Or.inl rfl))
    (Zad (Zbb (Zar ZhC (Zaz ZdL (Zaz ZaW (pv 3) Zai) (pv 1)) Zai (ZaB _)) (Zah (Za6 (Zdj PySem.F.plainAttrs_list PySem.F.slot_list_append PySem.F.type_list_append ZaY (pv 2) (Zaa (Zbn (Zaa (pv 3) (Zaa (Zaz ZaW (pv 3) Zai) Zac))) Zac)))) ZaC)
    (Zah (Zbb (Zar Zi8 (Zaz ZaW (pv 3) (pv 1)) (Zaz Zhy (pv 0) (pv 1)) (ZaB _)) (Zah (Za6 (Zdj PySem.F.plainAttrs_list PySem.F.slot_list_append PySem.F.type_list_append ZaY (pv 2) (Zaa (Zbn (Zaa (pv 3) (Zaa (Zaz ZaW (pv 3) (pv 1)) Zac))) Zac)))) ZaC))))
    (Zah (Zaw (Zbn (Zaa (Zaz Zhy (pv 0) (pv 1)) (Zaa (pv 2) Zac)))))),?_⟩
  refine ⟨Nat.zero_le _,λl hl=>?_⟩
  have hrc:(r:Int) * (c:Int)=((r * c:Nat):Int):=by push_cast;rfl
  have hb:r * c<=16 * 16:=Nat.mul_le_mul hr2 hc2
  have s0:Same H (upd H l (.lst [])):=Same.new hl
  refine ⟨_,rfl,_,rfl,_,_,rfl,rfl,.inl ⟨by omega,by omega⟩,_,rfl,(by rw [hrc];omega),(by rw [hrc];omega),?_⟩
  refine Zcj (lo:=0) (λi σ H2=>∃ (xs:List V) (v:Option V),σ=[some (.int r),some (.int c),some (.ref l),v]/\Same H H2/\H2 l=some (.lst xs)/\Prs H2 xs (Zcm r c i))
   ⟨[],none,rfl,s0,Zab,.nil⟩ ?_ ?_
  ·rintro i σ H2 hi ⟨xs,v,rfl,s2,h2,p2⟩
   have hi':i<r * c:=by rw [hrc,Int.toNat_natCast] at hi;exact hi
   rw [show (0:Int)+(i:Int)=(i:Int) by omega]
   have hlen:∀ {zs:List V} {rs:List (Int×Int)} {H3:Hp},Prs H3 zs rs->rs.length<=2 * i+1->zs.length<sizeLine:=λp hq=>by
    have:=p.len
    have h16:(16777216:Nat)=sizeLine:=sizeLine_eq.symm
    omega
   have hgl:=Ze7 r c i
   dsimp only [ZcL]
   refine Za7 (λσ' H'=>∃ xs:List V,σ'=[some (.int r),some (.int c),some (.ref l),some (.int i)]/\Same H H'/\H' l=some (.lst xs)/\Prs H' xs (Zcm r c i++(if ((i:Int)+1) % (c:Int)=0 then [] else [((i:Int),(i:Int)+1)]))) ?snd ?fst
   case fst=>
    intro hk
    refine ⟨_,rfl,_,_,rfl,rfl,_,rfl,_,_,rfl,rfl,(by show (0:Int)<(c:Int);omega),rfl,_,rfl,?_⟩
    by_cases z:((i:Int)+1) % (c:Int)=0
    ·have zz:(!decide (V.int (((i:Int)+1) % (c:Int))=V.int 0))=false:=by rw [z];simp
     refine (if_neg (show ¬ ((!decide (V.int (((i:Int)+1) % (c:Int))=V.int 0))=true) by rw [zz];exact Bool.false_ne_true)).mpr ?_
     refine hk _ _ ?_
     exact ⟨xs,rfl,s2,h2,by rw [if_pos z,List.append_nil];exact p2⟩
    ·have zz:(!decide (V.int (((i:Int)+1) % (c:Int))=V.int 0))=true:=by simp [z]
     refine (if_pos zz).mpr ?_
     refine ⟨_,rfl,.inl ⟨rfl,_,SqL.of h2⟩,_,rfl,_,rfl,_,_,rfl,rfl,Zby,λt ht=>?_⟩
     have hne:l≠t:=λq=>by rw [q,ht] at h2;cases h2
     obtain ⟨a1,a2,a3⟩:=Zd8 (a:=(i:Int)) (b:=(i:Int)+1) s2 hl h2 p2 ht
     refine ⟨l,xs,_,rfl,rfl,Zal h2 hne,hlen p2 (by omega),?_⟩
     refine hk _ _ ?_
     exact ⟨_,rfl,a1,a2,by rw [if_neg z];exact a3⟩
   case snd=>
    rintro σ' H3 ⟨xs,rfl,s3,h3,p3⟩
    refine ⟨_,rfl,_,rfl,_,_,rfl,rfl,_,rfl,_,rfl,_,_,rfl,rfl,.inl ⟨by omega,by omega⟩,_,_,rfl,rfl,_,rfl,?_⟩
    refine Zfv (λz=>?_) (λz=>?_)
    ·have z':=of_decide_eq_true z
     refine ⟨_,rfl,.inl ⟨rfl,_,SqL.of h3⟩,_,rfl,_,rfl,_,rfl,_,_,rfl,rfl,Zby,λt ht=>?_⟩
     have hne:l≠t:=λq=>by rw [q,ht] at h3;cases h3
     obtain ⟨a1,a2,a3⟩:=Zd8 (a:=(i:Int)) (b:=(i:Int)+(c:Int)) s3 hl h3 p3 ht
     refine ⟨l,xs,_,rfl,rfl,Zal h3 hne,hlen p3 (by rw [List.length_append];split <;> simp <;> omega),xs++[.ref t],_,rfl,a1,a2,?_⟩
     rw [Zcb]
     unfold ZgS
     rw [if_pos z',<-List.append_assoc]
     exact a3
    ·have z':¬ ((i:Int)+(c:Int)<(r:Int) * (c:Int)):=λq=>z (decide_eq_true q)
     refine ⟨xs,_,rfl,s3,h3,?_⟩
     rw [Zcb]
     unfold ZgS
     rw [if_neg z',List.append_nil]
     exact p3
  ·rintro σ H2 ⟨xs,v,rfl,s2,h2,p2⟩
   refine ⟨_,rfl,_,rfl,_,_,rfl,rfl,.inl ⟨by omega,by omega⟩,_,rfl,Zby,λp hp=>?_⟩
   have hne:l≠p:=λq=>by rw [q,hp] at h2;cases h2
   refine q p l xs _ (s2.put (s2.free hp)) (s2.free hp) hl (Ne.symm hne) Zab (Zal h2 hne) ?_
   have p3:=p2.keep (ZbS (o:=.tup [.int ((r:Int) * (c:Int)),.ref l]) hp)
   rw [show ((r:Int) * (c:Int)).toNat=r * c by rw [hrc,Int.toNat_natCast]] at p3
   exact p3
end
section
variable {P:Program} {w:World} {K:PySem.W.Frag} {mg:Str->Option Value} {base:Heap}
def ZmR:Sp:=λvs H Q _=>∃ (d:Addr) (n:Int),vs=[.ref d]/\H d=some (.lst [.int n])/\∀ (p l:Addr) (xs:List V) (k:Int) (rs:List (Int×Int)) (H':Hp),Dk H H' d->H p=none->H l=none->p≠l->H' p=some (.tup [.int k,.ref l])->H' l=some (.lst xs)->Prs H' xs rs->Zaf k rs->Q (.ref p) H'
theorem scWeb:Zau ["deck", "rows", "places", "pairs", "b", "apart", "roads", "k"] ["deck"] (Zae Zlw):=⟨rfl,rfl,rfl,by decide +kernel,rfl,by decide +kernel,by decide +kernel⟩
structure PrsOk (n:Int) (ps:List (Int×Int)):Prop where
 ok:∀ p∈ps,0<=p.1/\p.1<p.2/\p.2<n
 nd:ps.Nodup
theorem PrsOk.sub {n:Int} {ps qs:List (Int×Int)} (h:PrsOk n ps) (s:qs.Sublist ps):PrsOk n qs:=⟨λp hp=>h.ok p (s.subset hp),h.nd.sublist s⟩
theorem Zoj (i:Nat) {ps:List (Int×Int)} (h:PrsOk (i:Int) ps):PrsOk ((i+1:Nat):Int) (ps++(List.range i).map λa=>(((a:Nat):Int),(i:Int))):=by
 refine ⟨λp hp=>?_,?_⟩
 ·rcases List.mem_append.mp hp with hp | hp
  ·have:=h.ok p hp
   push_cast
   omega
  ·obtain ⟨a,ha,rfl⟩:=List.mem_map.mp hp
   have:=List.mem_range.mp ha
   push_cast
   omega
 ·refine List.nodup_append.mpr ⟨h.nd,?_,λp hp q hq z=>?_⟩
  ·refine List.pairwise_map.mpr ?_
   refine List.Pairwise.imp ?_ List.nodup_range
   intro a b hab z
   have:=congrArg Prod.fst z
   dsimp only at this
   exact hab (by omega)
  ·subst z
   obtain ⟨a,ha,rfl⟩:=List.mem_map.mp hq
   have:=(h.ok _ hp).2.2
   dsimp only at this
   omega
theorem ZmS {f fT fQ:Addr} {fd fdT fdQ:FuncData} (F:Fun K "_law_web" "_law_web" Zlw f fd)
  (FT:Fun K "_law_take" "_law_take" Zet fT fdT) (bT:Binds K fdT ["deck", "many"] []) (mT:mg "_law_take" = some (.ref fT))
  (FQ:Fun K "_law_grid" "_law_grid" Zdt fQ fdQ) (bQ:Binds K fdQ ["rows", "columns"] []) (mQ:mg "_law_grid" = some (.ref fQ))
  (mRange:mg "range" = none) (mInt:mg "int" = none) (mMin:mg "min" = none) (mLen:mg "len" = none):ZaI P w K mg base CX0 2 f fd ["deck"] ZmR:=by
 have GT:ZaI P w K mg base CX0 1 fT fdT ["deck", "many"] Zgu:=ZfT FT
 have GQ:ZaI P w K mg base CX0 1 fQ fdQ ["rows", "columns"] ZiH:=ZjW FQ mRange
 refine F.ok scWeb (λvs H Q E h=>?_) (λcdv A outer s H vs Q E hr1 h=>?_)
 ·obtain ⟨d,n,rfl,_⟩:=h
  rfl
 ·obtain ⟨d,n,rfl,hd,q⟩:=h
  have h16:(16777216:Nat)=sizeLine:=sizeLine_eq.symm
  refine ⟨_,Zad (Zbb (Zar ZdH (Zak GT hr1 rfl mT FT.kp bT .nil ZaL (Zaa (pv 0) (Zaa Zai Zac))) Zai (ZaB _)) (Zad (Zav (i:=1) scWeb.nd rfl (Or.inl rfl) (Zaz ZaW Zai (Zak GT hr1 rfl mT FT.kp bT .nil ZaL (Zaa (pv 0) (Zaa Zai Zac)))))
    (Zah (Zaw (Zak GQ hr1 rfl mQ FQ.kp bQ .nil ZaL (Zaa (pv 1) (Zaa (Zaz ZaW Zai (Zak GT hr1 rfl mT FT.kp bT .nil ZaL (Zaa (pv 0) (Zaa Zai Zac)))) Zac)))))) ZaC)
    (Zad (Zav (i:=2) scWeb.nd rfl (Or.inl rfl) (Zaz ZaW Zai (Zak GT hr1 rfl mT FT.kp bT .nil ZaL (Zaa (pv 0) (Zaa Zai Zac)))))
    (Zad (Zav (i:=3) scWeb.nd rfl (Or.inl rfl) (ZaX Zac))
    (Zad (Zci PassesOwn.never rfl (ZaT rfl mRange (Zaa (pv 2) Zac)) (Zao (i:=4) scWeb.nd rfl (Or.inr rfl))
    (Zah (Zav (i:=3) scWeb.nd rfl (Or.inl rfl) (Zaz Zf5 (pv 3) (ZaO (own:=["a"]) rfl (Zaj (fr:=[("b", 4)]) [(".0", .local),("a", .local),("b", .cell)] rfl rfl (by decide +kernel) rfl (by decide +kernel) ⟨rfl,trivial⟩ ⟨λh=>ZaA h,λh=>ZaA h,λ_=>⟨_,rfl⟩,trivial⟩ ⟨⟨rfl,.inl rfl,.inl rfl⟩,trivial⟩) (ZaT rfl mRange (Zaa (pv 4) Zac)) (λ_ _ _ _=>Zao (i:=0) (show List.Nodup (["a", "b"]:List Str) by decide +kernel) rfl (Or.inl rfl)) (λ_ _ _ _=>ZaZ) (λ_ _ _ _=>Zbn (Zaa (pv 0) (Zaa (pv 1) Zac))))))))
    (Zad (Zbb (Zar ZdH (Zak GT hr1 rfl mT FT.kp bT .nil ZaL (Zaa (pv 0) (Zaa Zai Zac))) Zai (ZaB _)) (Zad (Zav (i:=5) scWeb.nd rfl (Or.inr rfl) (Zak GT hr1 rfl mT FT.kp bT .nil ZaL (Zaa (pv 0) (Zaa (Zaz ZaW (pv 2) Zai) Zac))))
    (Zah (Zd7 (i:=3) scWeb.nd rfl (Or.inl rfl) (own:=["pair"]) rfl (Zaj (fr:=[("apart", 5)]) [(".0", .local),("pair", .local),("apart", .cell)] rfl rfl (by decide +kernel) rfl (by decide +kernel) ⟨rfl,trivial⟩ ⟨λh=>ZaA h,λh=>ZaA h,λ_=>⟨_,rfl⟩,trivial⟩ ⟨⟨rfl,.inl rfl,.inl rfl⟩,trivial⟩) (ZbA K (pv 3)) (λ_ _ _ _=>Zao (i:=0) (show List.Nodup (["pair", "apart"]:List Str) by decide +kernel) rfl (Or.inl rfl)) (λ_ _ _ _=>Za0 (Zar ZdH (Zbh Zi8 (ZaJ (ZcM K) (pv 0) Zai (λ_ _=>rfl)) (pv 1) (ZaB _)) (Zbh Zi8 (ZaJ (ZcM K) (pv 0) Zai (λ_ _=>rfl)) (pv 1) (ZaB _)) (ZaB _))) (λ_ _ _ _=>pv 0)))) ZaC)
    (Zad (Zav (i:=6) scWeb.nd rfl (Or.inl rfl) (ZaX Zac))
    (Zad (Zci PassesOwn.never rfl (ZaT rfl mRange (Zaa (Zax (ZhG rfl) rfl mMin Zjg (Zaa (Zak GT hr1 rfl mT FT.kp bT .nil ZaL (Zaa (pv 0) (Zaa Zai Zac))) (Zaa (Zax (ZhU K) rfl mLen PySem.boot_len (Zaa (pv 3) Zac)) Zac))) Zac)) (Zao (i:=7) scWeb.nd rfl (Or.inl rfl))
    (Zah (Za6 (Zdj PySem.F.plainAttrs_list PySem.F.slot_list_append PySem.F.type_list_append ZaY (pv 6) (Zaa (Zdj PySem.F.plainAttrs_list PySem.F.slot_list_pop PySem.F.type_list_pop Zf4 (pv 3) (Zaa (Zak GT hr1 rfl mT FT.kp bT .nil ZaL (Zaa (pv 0) (Zaa (Zax (ZhU K) rfl mLen PySem.boot_len (Zaa (pv 3) Zac)) Zac))) Zac)) Zac)))))
    (Zah (Zaw (Zbn (Zaa (pv 2) (Zaa (pv 6) Zac))))))))))),?_⟩
  refine ⟨_,rfl,d,n,6,rfl,hd,by decide,Za9,λn1 k1 hk0 hk1=>⟨rfl,_,rfl,?_⟩⟩
  have D1:Dk H (upd H d (.lst [.int n1])) d:=(Dk.start hd).take n1
  refine Zfv (λ_=>?_) (λ_=>?_)
  ·-- a grid
   refine ⟨_,rfl,d,n1,3,rfl,Zab,by decide,Za9,λn2 r2 h20 h21=>⟨_,_,rfl,rfl,?_⟩⟩
   have D2:=D1.take n2
   refine ⟨_,rfl,_,rfl,d,n2,4,rfl,Zab,by decide,Za9,λn3 r3 h30 h31=>⟨_,_,rfl,rfl,?_⟩⟩
   have D3:=D2.take n3
   obtain ⟨r',e1⟩:∃ r':Nat,(1:Int)+r2=(r':Int):=⟨(1+r2).toNat,by omega⟩
   obtain ⟨c',e2⟩:∃ c':Nat,(1:Int)+r3=(c':Int):=⟨(1+r3).toNat,by omega⟩
   refine ⟨r',c',by rw [<-e1,<-e2];rfl,by omega,by omega,by omega,by omega,λp l xs H4 s4 hp hl hpl x1 x2 x3=>?_⟩
   exact q p l xs _ _ H4 (D3.grow s4) (D3.free hp) (D3.free hl) hpl x1 x2 x3 (ZhV (by omega) (by omega) (by omega) (by omega))
  ·-- places
   refine ⟨_,rfl,d,n1,8,rfl,Zab,by decide,Za9,λn2 r2 h20 h21=>⟨_,_,rfl,rfl,?_⟩⟩
   have D2:=D1.take n2
   obtain ⟨np,e1,hp1,hp2⟩:∃ np:Nat,(1:Int)+r2=(np:Int)/\1<=np/\np<=16:=⟨(1+r2).toNat,by omega,by omega,by omega⟩
   refine ⟨Nat.zero_le _,λl0 hl0=>?_⟩
   have D3:=D2.new (o:=.lst []) hl0
   dsimp only [ZcL]
   refine Za7 (λσ' H'=>∃ (lp:Addr) (xs:List V) (ps:List (Int×Int)) (v2 v5:Option V),σ'=[some (.ref d),v2,some (.int (np:Int)),some (.ref lp),v5,none,none,none]/\Dk H H' d/\d≠lp/\H lp=none/\H' lp=some (.lst xs)/\Prs H' xs ps/\PrsOk (np:Int) ps/\ps.length<=16 * 16) ?after ?loop
   case loop=>
    intro hk
    refine ⟨_,rfl,_,rfl,(by show -(2 ^ 62)<=(1:Int)+r2;rw [e1];omega),(by show (1:Int)+r2<2 ^ 62;rw [e1];omega),?_⟩
    have hn:((1:Int)+r2).toNat=np:=by rw [e1,Int.toNat_natCast]
    rw [hn]
    refine Zcj (lo:=0) (λi σ' H'=>∃ (lp:Addr) (xs:List V) (ps:List (Int×Int)) (v2 v5:Option V),σ'=[some (.ref d),v2,some (.int (np:Int)),some (.ref lp),v5,none,none,none]/\Dk H H' d/\d≠lp/\H lp=none/\H' lp=some (.lst xs)/\Prs H' xs ps/\PrsOk (i:Int) ps/\ps.length<=i * 16)
     ⟨l0,[],[],none,none,by rw [<-e1];rfl,D3,D2.ne hl0,D2.free hl0,Zab,.nil,⟨λ_ h=>(nomatch h),.nil⟩,Nat.zero_le _⟩ ?_ ?_
    ·rintro i σ' H2 hi ⟨lp,xs,ps,v2,v5,rfl,D4,hdp,hlp,elp,pp,pok,plen⟩
     rw [show (0:Int)+(i:Int)=(i:Int) by omega]
     refine ⟨_,rfl,_,rfl,_,rfl,by omega,by omega,λD hD=>?_⟩
     rw [Int.toNat_natCast]
     refine Zbf (lo:=0) (n:=i) (λj ys H3=>Same H2 H3/\H3 D=some (.lst ys)/\Prs H3 ys ((List.range j).map λa=>(((a:Nat):Int),(i:Int)))) ⟨Same.new hD,Zab,.nil⟩ ?_ ?_
     ·rintro j ys H3 hj ⟨s3,hD3,p3⟩
      rw [show (0:Int)+(j:Int)=(j:Int) by omega]
      refine ⟨⟨rfl,trivial⟩,?_⟩
      unfold Zhk
      refine Zbz ?_
      refine ⟨_,rfl,_,rfl,Zby,λt ht=>?_⟩
      have hDt:D≠t:=Zag hD3 ht
      have hyl:ys.length<sizeLine:=by
       have:=p3.len
       rw [List.length_map,List.length_range] at this
       omega
      obtain ⟨a1,a2,a3⟩:=Zd8 (a:=(j:Int)) (b:=(i:Int)) s3 hD hD3 p3 ht
      refine ⟨Zal hD3 hDt,hyl,a1,a2,?_⟩
      rw [List.range_succ,List.map_append]
      exact a3
     ·rintro ys H3 ⟨s3,hD3,p3⟩
      have e2:=s3 _ _ elp
      have hlen2:=p3.len
      rw [List.length_map,List.length_range] at hlen2
      have hlen1:=pp.len
      refine ⟨lp,D,xs,ys,rfl,rfl,e2,hD3,by omega,λpn hpn=>?_⟩
      have D5:=D4.grow s3
      have D6:=D5.new (o:=.lst (xs++ys)) hpn
      refine ⟨pn,xs++ys,ps++(List.range i).map λa=>(((a:Nat):Int),(i:Int)),_,_,rfl,D6,D5.ne hpn,D5.free hpn,Zab,?_,Zoj i pok,?_⟩
      ·exact ((pp.same s3).keep (ZbS hpn)).app (p3.keep (ZbS hpn))
      ·rw [List.length_append,List.length_map,List.length_range]
       omega
    ·rintro σ' H2 ⟨lp,xs,ps,v2,v5,rfl,D4,hdp,hlp,elp,pp,pok,plen⟩
     refine hk _ _ ?_
     exact ⟨lp,xs,ps,v2,v5,rfl,D4,hdp,hlp,elp,pp,pok,by omega⟩
   case after=>
    rintro σ' H2 ⟨lp,xs,ps,v2,v5,rfl,D4,hdp,hlp,elp,pp,pok,plen⟩
    refine Za7 (λσ' H'=>∃ (lp:Addr) (xs:List V) (ps:List (Int×Int)) (v2 v5 v6:Option V),σ'=[some (.ref d),v2,some (.int (np:Int)),some (.ref lp),v5,v6,none,none]/\Dk H H' d/\d≠lp/\H lp=none/\H' lp=some (.lst xs)/\Prs H' xs ps/\PrsOk (np:Int) ps/\ps.length<=16 * 16) ?draw ?filter
    case filter=>
     intro hk
     obtain ⟨n4,e4⟩:=D4.at_
     refine ⟨_,rfl,d,n4,5,rfl,e4,by decide,Za9,λn5 r5 _ _=>⟨rfl,_,rfl,?_⟩⟩
     have D5:=D4.take n5
     have elp5:upd H2 d (.lst [.int n5]) lp=some (.lst xs):=Zal elp (Ne.symm hdp)
     have pp5:=pp.keep (Za1 (o:=.lst [.int n5]) e4)
     refine Zfv (λ_=>?_) (λ_=>?_)
     ·refine ⟨_,rfl,_,rfl,_,_,rfl,rfl,d,n5,_,rfl,Zab,(by show (0:Int)<(np:Int)+1;omega),(by show ((np:Int)+1).natAbs<2 ^ 9000;exact Nat.lt_of_lt_of_le (show ((np:Int)+1).natAbs<2 ^ 5 by omega) (Nat.pow_le_pow_right (by decide) (by decide))),λn6 r6 _ _=>?_⟩
      have D6:=D5.take n6
      have elp6:upd (upd H2 d (.lst [.int n5])) d (.lst [.int n6]) lp=some (.lst xs):=Zal elp5 (Ne.symm hdp)
      have pp6:=pp5.keep (Za1 (o:=.lst [.int n6]) (Zab (H:=H2) (a:=d) (o:=.lst [.int n5])))
      generalize upd (upd H2 d (.lst [.int n5])) d (.lst [.int n6])=H6 at D6 elp6 pp6 ⊢
      refine ⟨_,rfl,lp,rfl,⟨_,SqL.of elp6⟩,λD hD=>?_⟩
      refine ZaF (K:=K) (a:=lp) (xs:=xs) (λj ys H3=>Same H6 H3/\H3 D=some (.lst ys)/\∃ rs,Prs H3 ys rs/\rs.Sublist (ps.take j)) ⟨Same.new hD,Zab,[],.nil,List.nil_sublist _⟩ (λj ys H3 _ ⟨s3,_⟩=>SqL.of (s3 _ _ elp6)) ?_ ?_
      ·rintro j x ys H3 hx ⟨s3,hD3,rs,p3,sub⟩
       obtain ⟨t,r,rfl,et,er⟩:=(pp6.same s3).get hx
       have hstep:ps.take (j+1)=ps.take j++[r]:=by rw [List.take_add_one,er];rfl
       refine ⟨⟨rfl,trivial⟩,?_⟩
       refine ⟨_,rfl,t,_,_,_,rfl,rfl,SqT.of et,Zas (j:=0) rfl,_,rfl,_,_,rfl,rfl,_,rfl,t,_,_,_,rfl,rfl,SqT.of et,Zas (j:=1) rfl,_,rfl,_,_,rfl,rfl,rfl,_,rfl,?_⟩
       refine Zfv (λ_=>?_) (λ_=>?_)
       ·have hyl:ys.length<sizeLine:=by
         have h1:=p3.len
         have h2:=sub.length_le
         rw [List.length_take] at h2
         omega
        refine ⟨_,rfl,hD3,hyl,s3.put hD,Zab,rs++[r],(p3.keep (Za1 hD3)).snoc (Za1 hD3 _ _ et),?_⟩
        rw [hstep]
        exact sub.append (List.Sublist.refl _)
       ·refine ⟨s3,hD3,rs,p3,?_⟩
        rw [hstep]
        exact sub.trans (List.sublist_append_left _ _)
      ·rintro ys H3 ⟨s3,hD3,rs,p3,sub⟩
       have sub':=sub.trans (List.take_sublist _ _)
       have hl':=sub'.length_le
       refine hk _ _ ?_
       exact ⟨D,ys,rs,_,_,_,rfl,D6.grow s3,D6.ne hD,D6.free hD,hD3,p3,pok.sub sub',by omega⟩
     ·refine hk _ _ ?_
      exact ⟨lp,xs,ps,_,_,_,rfl,D5,hdp,hlp,elp5,pp5,pok,plen⟩
    case draw=>
     clear elp pp pok plen hlp hdp
     rintro σ' H3 ⟨lp,xs,ps,v2,v5,v6,rfl,D5,hdp,hlp,elp,pp,pok,plen⟩
     refine ⟨Nat.zero_le _,λl7 hl7=>?_⟩
     have h70:H l7=none:=D5.free hl7
     have D6:=D5.new (o:=.lst []) hl7
     have hd7:d≠l7:=D5.ne hl7
     have hp7:lp≠l7:=Zag elp hl7
     have elp6:upd H3 l7 (.lst []) lp=some (.lst xs):=Zal elp hp7
     have pp6:=pp.keep (ZbS (o:=.lst []) hl7)
     obtain ⟨n6,e6⟩:=D6.at_
     refine ⟨_,rfl,d,n6,15,rfl,e6,by decide,Za9,λn8 r8 h80 h81=>?_⟩
     have D8:=D6.take n8
     have elp8:upd (upd H3 l7 (.lst [])) d (.lst [.int n8]) lp=some (.lst xs):=Zal elp6 (Ne.symm hdp)
     have e78:upd (upd H3 l7 (.lst [])) d (.lst [.int n8]) l7=some (.lst []):=Zal Zab (Ne.symm hd7)
     have pp8:=pp6.keep (Za1 (o:=.lst [.int n8]) e6)
     generalize upd (upd H3 l7 (.lst [])) d (.lst [.int n8])=H8 at D8 elp8 e78 pp8 ⊢
     refine ⟨_,rfl,lp,xs,rfl,.inl (SqL.of elp8),_,_,rfl,?_⟩
     obtain ⟨N,eN,hN1,hN2⟩:∃ N:Nat,(if (xs.length:Int)<r8 then (xs.length:Int) else r8)=(N:Int)/\N<=30/\N<=xs.length:=by
      by_cases z:(xs.length:Int)<r8
      ·exact ⟨xs.length,by rw [if_pos z],by omega,Nat.le_refl _⟩
      ·exact ⟨r8.toNat,by rw [if_neg z];omega,by omega,by omega⟩
     refine ⟨_,rfl,(by rw [eN];omega),(by rw [eN];omega),?_⟩
     rw [eN,Int.toNat_natCast]
     have hxl:=pp8.len
     refine Zcj (lo:=0) (λi σ' H9=>∃ (xs7:List V) (rs7:List (Int×Int)) (xsP:List V) (psP:List (Int×Int)) (v8:Option V),σ'=[some (.ref d),v2,some (.int (np:Int)),some (.ref lp),v5,v6,some (.ref l7),v8]/\Dk H H9 d /\
       H9 l7=some (.lst xs7)/\Prs H9 xs7 rs7/\H9 lp=some (.lst xsP)/\Prs H9 xsP psP/\PrsOk (np:Int) (rs7++psP)/\rs7.length=i/\psP.length+i=xs.length)
      ⟨[],[],xs,ps,none,rfl,D8,e78,.nil,elp8,pp8,pok,rfl,by omega⟩ ?_ ?_
     ·rintro i σ' H9 hi ⟨xs7,rs7,xsP,psP,v8,rfl,D9,e79,p7,elp9,pP,pk,hi7,hiP⟩
      obtain ⟨n9,e9⟩:=D9.at_
      have hPl:=pP.len
      have h7l:=p7.len
      refine ⟨_,rfl,.inl ⟨rfl,_,SqL.of e79⟩,_,rfl,.inl ⟨rfl,_,SqL.of elp9⟩,_,rfl,_,rfl,lp,xsP,rfl,.inl (SqL.of elp9),d,n9,_,rfl,e9,(by show (0:Int)<(xsP.length:Int);omega),
       (by show ((xsP.length:Int)).natAbs<2 ^ 9000;exact Nat.lt_of_lt_of_le (show ((xsP.length:Int)).natAbs<2 ^ 10 by omega) (Nat.pow_le_pow_right (by decide) (by decide))),λn10 r10 h100 h101=>?_⟩
      have hk:r10.toNat<xsP.length:=by omega
      have hy:xsP[r10.toNat]?=some xsP[r10.toNat]:=List.getElem?_eq_getElem hk
      obtain ⟨t,r,et,ett,er⟩:=pP.get hy
      refine ⟨lp,xsP,r10,r10.toNat,_,rfl,rfl,Zal elp9 (Ne.symm hdp),by omega,by omega,ZmA h100 h101,hy,?_⟩
      refine ⟨l7,xs7,_,rfl,rfl,Zal (Zal e79 (Ne.symm hd7)) (Ne.symm hp7),by omega,?_⟩
      have D10:=((D9.take n10).put (o:=.lst (xsP.eraseIdx r10.toNat)) hlp hdp).put (o:=.lst (xs7++[xsP[r10.toNat]])) h70 hd7
      have k1:=Za1 (o:=.lst [.int n10]) e9
      have k2:=Za1 (H:=upd H9 d (.lst [.int n10])) (l:=lp) (zs:=xsP) (o:=.lst (xsP.eraseIdx r10.toNat)) (Zal elp9 (Ne.symm hdp))
      have k3:=Za1 (H:=upd (upd H9 d (.lst [.int n10])) lp (.lst (xsP.eraseIdx r10.toNat))) (l:=l7) (zs:=xs7) (o:=.lst (xs7++[xsP[r10.toNat]])) (Zal (Zal e79 (Ne.symm hd7)) (Ne.symm hp7))
      refine ⟨xs7++[xsP[r10.toNat]],rs7++[r],xsP.eraseIdx r10.toNat,psP.eraseIdx r10.toNat,_,rfl,D10,Zab,?_,?_,?_,?_,?_,?_⟩
      ·rw [et]
       rw [et] at k3
       exact (((p7.keep k1).keep k2).keep k3).snoc (k3 _ _ (k2 _ _ (k1 _ _ ett)))
      ·exact Zal Zab hp7
      ·exact (((pP.erase _).keep k1).keep k2).keep k3
      ·have pm:=Zc4 psP rs7 r10.toNat r er
       exact ⟨λp hp=>pk.ok p (pm.mem_iff.mp hp),pm.nodup_iff.mpr pk.nd⟩
      ·rw [List.length_append,List.length_singleton,hi7]
      ·rw [List.length_eraseIdx_of_lt (by omega)]
       omega
     ·rintro σ' H9 ⟨xs7,rs7,xsP,psP,v8,rfl,D9,e79,p7,elp9,pP,pk,hi7,hiP⟩
      refine ⟨_,rfl,_,rfl,Zby,λp hp=>?_⟩
      have hp7':l7≠p:=Zag e79 hp
      have pk':PrsOk (np:Int) rs7:=pk.sub (List.sublist_append_left _ _)
      exact q p l7 xs7 np rs7 _ (D9.new hp) (D9.free hp) h70 (Ne.symm hp7') Zab (Zal e79 hp7') (p7.keep (ZbS hp)) ⟨by omega,by omega,by omega,pk'.ok,pk'.nd⟩
end
end M
namespace M
open PySem L2
theorem ZaU (p:Int):∀ ms:List Int,inV (.int p) (ms.map V.int)=decide (p∈ms):=by
 intro ms
 unfold inV
 induction ms with
 | nil=>rfl
 | cons m ms ih=>
  rw [List.map_cons,List.any_cons,ih]
  by_cases h1:p=m <;> by_cases h2:p∈ms <;> simp [eqV,h1,h2] <;> (try omega) <;> (try (intro z;exact h1 z.symm))
theorem Zbl (ms:List Int):(ms.map V.int).all Zck=true:=by
 rw [List.all_map]
 exact List.all_eq_true.mpr λ_ _=>rfl
section
variable {P:Program} {w:World} {K:PySem.W.Frag} {mg:Str->Option Value} {base:Heap}
theorem ZjX:bootBuiltins "max" = some (.builtin "max"):=by first | rfl | decide +kernel
structure WebAt (H:Hp) (wb l:Addr) (k:Int) (xs:List V) (rs:List (Int×Int)):Prop where
 w:H wb=some (.tup [.int k,.ref l])
 l:H l=some (.lst xs)
 p:Prs H xs rs
theorem WebAt.same {H H':Hp} {wb l:Addr} {k:Int} {xs:List V} {rs:List (Int×Int)} (h:WebAt H wb l k xs rs) (s:Same H H'):WebAt H' wb l k xs rs:=⟨s _ _ h.w,s _ _ h.l,h.p.same s⟩
theorem WebAt.dk {H H':Hp} {d wb l:Addr} {k:Int} {xs:List V} {rs:List (Int×Int)} (h:WebAt H wb l k xs rs) (s:Dk H H' d) {n:Int} (hd:H d=some (.lst [.int n])) (hl:l≠d):WebAt H' wb l k xs rs:=
 ⟨s.tups hd _ _ h.w,s.keep _ _ hl h.l,h.p.keep (s.tups hd)⟩
def Zb8 (rs:List (Int×Int)) (p q:Int):Nat->Option V
 | 0=>none
 | i+1=>if rs.getD i (0,0)=(p,q)\/rs.getD i (0,0)=(q,p) then some (.int (i:Nat)) else Zb8 rs p q i
def ky (p q:Int):List Key:=[.inl p,.inl q]
theorem ky_inj {p q a b:Int}:ky p q=ky a b↔p=a/\q=b:=by
 unfold ky
 constructor
 ·intro h
  injection h with h1 h2
  injection h2 with h2 _
  exact ⟨Sum.inl.inj h1,Sum.inl.inj h2⟩
 ·rintro ⟨rfl,rfl⟩;rfl
def ZmT:Sp:=λvs H Q _=>∃ (wb l:Addr) (k:Int) (xs:List V) (rs:List (Int×Int)),vs=[.ref wb]/\WebAt H wb l k xs rs/\xs.length<=30 /\
 ∀ (d:Addr) (H':Hp) (kvs:List (List Key×V)),Same H H'->H d=none->H' d=some (.dT kvs)->(∀ p q,ZbT kvs (ky p q)=Zb8 rs p q rs.length)->Q (.ref d) H'
theorem scNbs:Zau ["web", "numbers", "number", "road"] ["web"] (Zae Zkt):=⟨rfl,rfl,rfl,by decide +kernel,rfl,by decide +kernel,by decide +kernel⟩
theorem ZmU {f:Addr} {fd:FuncData} (F:Fun K "numbers_by_step" "numbers_by_step" Zkt f fd) (mEnum:mg "enumerate" = none):ZaI P w K mg base CX0 1 f fd ["web"] ZmT:=by
 refine F.ok scNbs (λvs H Q E h=>?_) (λcdv A outer s H vs Q E hr h=>?_)
 ·obtain ⟨_,_,_,_,_,rfl,_⟩:=h
  rfl
 ·obtain ⟨wb,l,k,xs,rs,rfl,W,hx,q⟩:=h
  have hu1:(A.deeper (PyProof.Rows.envOfC "numbers_by_step" (Zae Zkt) s.heap.objs.size f cdv)).units+1<cLine:=by have:=hr.un;omega
  have h16:(16777216:Nat)=sizeLine:=sizeLine_eq.symm
  refine ⟨_,Zad (Zav (i:=1) scNbs.nd rfl (Or.inl rfl) Zjl)
    (Zad (Zci PassesOwn.never rfl (Zk4 K rfl mEnum (Zaa (ZaJ (ZcM K) (pv 0) Zai (λ_ _=>rfl)) Zac)) (Zk0 K (n:=2) rfl (ZaP (Zao (i:=2) scNbs.nd rfl (Or.inl rfl)) (ZaP (Zao (i:=3) scNbs.nd rfl (Or.inl rfl)) Zca)))
    (Zad (Zea hu1 (pv 1) (pv 3) (pv 2) rfl)
    (Zah (Zea hu1 (pv 1) (Zbn (Zaa (ZaJ (ZcM K) (pv 3) Zai (λ_ _=>rfl)) (Zaa (ZaJ (ZcM K) (pv 3) Zai (λ_ _=>rfl)) Zac))) (pv 2) rfl))))
    (Zah (Zaw (pv 1)))),?_⟩
  refine λd hd=>?_
  have s1:Same H (upd H d (.dT [])):=Same.new hd
  refine ⟨_,rfl,wb,_,_,_,rfl,rfl,SqT.of (s1 _ _ W.w),Zas (j:=1) rfl,l,xs,rfl,SqL.of (s1 _ _ W.l),?_⟩
  refine Zgg (K:=K) (a:=l) (xs:=xs) (λi σ H2=>∃ (v2 v3:Option V) (kvs:List (List Key×V)),σ=[some (.ref wb),some (.ref d),v2,v3]/\Same H H2/\H2 d=some (.dT kvs)/\kvs.length<=2 * i/\∀ p q,ZbT kvs (ky p q)=Zb8 rs p q i)
   ⟨none,none,[],rfl,s1,Zab,Nat.zero_le _,λ_ _=>rfl⟩ (λi σ H2 _ ⟨_,_,_,_,s2,_⟩=>SqL.of (s2 _ _ W.l)) ?_ ?_
  ·rintro i x σ H2 T hxi ⟨v2,v3,kvs,rfl,s2,e2,len,val⟩ hT
   obtain ⟨t,r,rfl,et,er⟩:=(W.same s2).p.get hxi
   have hi:i<xs.length:=(List.getElem?_eq_some_iff.mp hxi).1
   have s3:Same H (upd H2 T (.tup [.int (i:Nat),.ref t])):=s2.put (s2.free hT)
   have s23:Same H2 (upd H2 T (.tup [.int (i:Nat),.ref t])):=Same.new hT
   have hdT:d≠T:=Zag e2 hT
   refine ⟨T,_,rfl,SqT.of Zab,rfl,_,_,rfl,_,_,rfl,rfl,?_⟩
   refine ⟨_,rfl,_,rfl,_,rfl,d,_,rfl,DPut.t (k:=ky r.1 r.2) (Zal e2 hdT) (s23 _ _ et) (by omega),?_⟩
   have s4:=s3.put (o:=.dT (Zc7 kvs (ky r.1 r.2) (.int (i:Nat)))) hd
   have et4:upd (upd H2 T (.tup [.int (i:Nat),.ref t])) d (.dT (Zc7 kvs (ky r.1 r.2) (.int (i:Nat)))) t=some (.tup [.int r.1,.int r.2]):=Zal (s23 _ _ et) (Zhq (s23 _ _ et) (Zal e2 hdT) (λz=>by cases z))
   have hl1:=Zbi kvs (ky r.1 r.2) (.int (i:Nat))
   refine ⟨_,rfl,_,rfl,_,rfl,t,_,_,_,rfl,rfl,SqT.of et4,Zas (j:=1) rfl,_,rfl,t,_,_,_,rfl,rfl,SqT.of et4,Zas (j:=0) rfl,(by show 2<=sizeLine;decide),λu hu=>?_⟩
   have hdu:d≠u:=λz=>by rw [<-z,Zab] at hu;cases hu
   refine ⟨d,_,rfl,DPut.t (k:=ky r.2 r.1) (Zal Zab hdu) Zab (by omega),?_⟩
   refine ⟨_,_,_,rfl,((s4.put (s4.free hu)).put hd),Zab,?_,λp q=>?_⟩
   ·have:=Zbi (Zc7 kvs (ky r.1 r.2) (.int (i:Nat))) (ky r.2 r.1) (.int (i:Nat))
    omega
   ·rw [Zge,Zge,val p q]
    have e:rs.getD i (0,0)=r:=by rw [List.getD_eq_getElem?_getD,er];rfl
    show _=if rs.getD i (0,0)=(p,q)\/rs.getD i (0,0)=(q,p) then some (V.int (i:Nat)) else Zb8 rs p q i
    rw [e]
    obtain ⟨r1,r2⟩:=r
    by_cases h1:p=r2/\q=r1
    ·rw [if_pos (ky_inj.mpr h1),if_pos (.inr (by rw [h1.1,h1.2]))]
    ·rw [if_neg λz=>h1 (ky_inj.mp z)]
     by_cases h2:p=r1/\q=r2
     ·rw [if_pos (ky_inj.mpr h2),if_pos (.inl (by rw [h2.1,h2.2]))]
     ·rw [if_neg λz=>h2 (ky_inj.mp z),if_neg]
      rintro (z | z)
      ·injection z with z1 z2
       exact h2 ⟨z1.symm,z2.symm⟩
      ·injection z with z1 z2
       exact h1 ⟨z2.symm,z1.symm⟩
  ·rintro σ H2 ⟨v2,v3,kvs,rfl,s2,e2,len,val⟩
   rw [W.p.len] at val
   exact ⟨_,rfl,q d H2 kvs s2 hd e2 val⟩
def Zan (ns:List Int) (c:Bool):List (Int×Int):=ns.zip (ns.drop 1)++(if c=true then [(ns.getD (ns.length-1) 0,ns.getD 0 0)] else [])
def ZmV:Sp:=λvs H Q _=>∃ (pl:Addr) (ns:List Int) (c:Bool),vs=[.ref pl,.bl c]/\H pl=some (.lst (ns.map V.int))/\ns.length<=100/\(c=true->ns≠[]) /\
 ∀ (S:Addr) (ws:List V) (H':Hp),Same H H'->H S=none->H' S=some (.lst ws)->Prs H' ws (Zan ns c)->Q (.ref S) H'
theorem scSte:Zau ["places", "closed", "steps"] ["places", "closed"] (Zae Zlt):=⟨rfl,rfl,rfl,by decide +kernel,rfl,by decide +kernel,by decide +kernel⟩
theorem ZfU {ns:List Int} (h:ns≠[]):atI (ns.map V.int) (-1)=some (.int (ns.getD (ns.length-1) 0)):=by
 have hp:0<ns.length:=List.length_pos_iff.mpr h
 have e:ixN (ns.map V.int).length (-1)=some (ns.length-1):=by
  unfold ixN
  rw [if_neg (by decide),List.length_map,if_pos (by omega)]
  congr 1
  omega
 unfold atI
 rw [e]
 show (ns.map V.int)[ns.length-1]?=_
 rw [List.getElem?_map,List.getElem?_eq_getElem (show ns.length-1<ns.length by omega),List.getD_eq_getElem?_getD,List.getElem?_eq_getElem (show ns.length-1<ns.length by omega)]
 rfl
theorem ZmW {ns:List Int} {i:Int} (h0:0<=i) (h1:i<ns.length):atI (ns.map V.int) i=some (.int (ns.getD i.toNat 0)):=by
 obtain ⟨k,rfl⟩:=Int.eq_ofNat_of_zero_le h0
 have hk:k<ns.length:=by omega
 refine Zas ?_
 show (ns.map V.int)[k]?=some (.int (ns.getD k 0))
 rw [List.getElem?_map,List.getD_eq_getElem?_getD,List.getElem?_eq_getElem hk]
 rfl
theorem ZmX {f:Addr} {fd:FuncData} (F:Fun K "steps_of" "steps_of" Zlt f fd) (mLst:mg "list" = none) (mZip:mg "zip" = none):ZaI P w K mg base CX0 1 f fd ["places", "closed"] ZmV:=by
 refine F.ok scSte (λvs H Q E h=>?_) (λcdv A outer s H vs Q E hr h=>?_)
 ·obtain ⟨_,_,_,rfl,_⟩:=h
  rfl
 ·obtain ⟨pl,ns,c,rfl,hp,hn,hc,q⟩:=h
  have h16:(16777216:Nat)=sizeLine:=sizeLine_eq.symm
  refine ⟨_,Zad (Zav (i:=2) scSte.nd rfl (Or.inl rfl) (ZgV K rfl rfl mLst rfl mZip (Zaa (pv 0) (Zaa (Zd5 (kSl K) (pv 0) (Zfs Zai) Zfr) Zac))))
    (Zad (Zbb (Zch (pv 1)) (Zah (Za6 (Zdj PySem.F.plainAttrs_list PySem.F.slot_list_append PySem.F.type_list_append ZaY (pv 2) (Zaa (Zbn (Zaa (ZaJ (ZhT K) (pv 0) (ZkP Zfy Zai) (λ_ _=>rfl)) (Zaa (ZaJ (ZhT K) (pv 0) Zai (λ_ _=>rfl)) Zac))) Zac)))) ZaC)
    (Zah (Zaw (pv 2)))),?_⟩
  refine ⟨_,rfl,_,rfl,_,rfl,pl,_,rfl,SqL.of hp,λp2 hp2=>?_⟩
  have s1:Same H (upd H p2 (.lst (Zfl (ns.map V.int) (some 1) none))):=Same.new hp2
  have ec:Zfl (ns.map V.int) (some 1) none=(ns.drop 1).map V.int:=by rw [show (some (1:Int))=some ((1:Nat):Int) from rfl,Zga,List.map_drop]
  refine ⟨pl,p2,ns,ns.drop 1,rfl,SqL.of (s1 _ _ hp),by rw [<-ec];exact SqL.of Zab,by omega,λS ws H2 s2 hS eS pS=>?_⟩
  have s12:=s1.trans s2
  have hS0:=s1.free hS
  have lws:ws.length<=100:=by rw [pS.len,List.length_zip];omega
  refine ⟨_,rfl,c,rfl,?_⟩
  refine Zfv (λz=>?_) (λz=>?_)
  ·have hne:=hc z
   have hpos:0<ns.length:=List.length_pos_iff.mpr hne
   refine ⟨_,rfl,.inl ⟨rfl,_,SqL.of eS⟩,_,rfl,_,rfl,pl,_,_,_,rfl,rfl,SqL.of (s12 _ _ hp),ZfU hne,_,rfl,pl,_,_,_,rfl,rfl,SqL.of (s12 _ _ hp),ZmW (i:=0) (by decide) (by omega),(by show 2<=sizeLine;decide),λt ht=>?_⟩
   have hSt:S≠t:=Zag eS ht
   refine ⟨S,_,_,rfl,rfl,Zal eS hSt,by omega,?_⟩
   have s3:=(s12.put (o:=.tup [.int (ns.getD (ns.length-1) 0),.int (ns.getD 0 0)]) (s12.free ht))
   refine ⟨_,rfl,q S _ _ (s3.put hS0) hS0 Zab ?_⟩
   unfold Zan
   rw [if_pos z]
   have tg:∀ p ys,(upd H2 t (.tup [.int (ns.getD (ns.length-1) 0),.int (ns.getD 0 0)])) p=some (.tup ys)->(upd (upd H2 t (.tup [.int (ns.getD (ns.length-1) 0),.int (ns.getD 0 0)])) S (.lst (ws++[.ref t]))) p=some (.tup ys):=λp ys e=>Zal e (Zhq e (Zal eS hSt) (λz=>by cases z))
   exact Prs.keep (Prs.snoc (pS.same (Same.new ht)) Zab) tg
  ·refine ⟨_,rfl,q S ws H2 s12 hS0 eS ?_⟩
   unfold Zan
   rw [if_neg z,List.append_nil]
   exact pS
end
section
variable {P:Program} {w:World} {K:PySem.W.Frag} {mg:Str->Option Value} {base:Heap}
def Adj (rs:List (Int×Int)) (p q:Int):Prop:=(p,q)∈rs\/(q,p)∈rs
theorem Zcd (rs:List (Int×Int)) (p q:Int):∀ i,(Zb8 rs p q i).isSome=true↔∃ j,j<i/\(rs.getD j (0,0)=(p,q)\/rs.getD j (0,0)=(q,p))
 | 0=>⟨λh=>(by cases h),λ⟨j,hj,_⟩=>absurd hj (Nat.not_lt_zero j)⟩
 | i+1=>by
  have ih:=Zcd rs p q i
  show (if rs.getD i (0,0)=(p,q)\/rs.getD i (0,0)=(q,p) then some (V.int (i:Nat)) else Zb8 rs p q i).isSome=true↔_
  by_cases z:rs.getD i (0,0)=(p,q)\/rs.getD i (0,0)=(q,p)
  ·rw [if_pos z]
   exact ⟨λ_=>⟨i,Nat.lt_succ_self i,z⟩,λ_=>rfl⟩
  ·rw [if_neg z,ih]
   constructor
   ·rintro ⟨j,hj,e⟩
    exact ⟨j,Nat.lt_succ_of_lt hj,e⟩
   ·rintro ⟨j,hj,e⟩
    refine ⟨j,?_,e⟩
    rcases Nat.lt_or_ge j i with h | h
    ·exact h
    ·have:j=i:=by omega
     subst this
     exact absurd e z
theorem ZjY (rs:List (Int×Int)) (p q:Int):(Zb8 rs p q rs.length).isSome=true↔Adj rs p q:=by
 rw [Zcd]
 constructor
 ·rintro ⟨j,hj,e⟩
  have hm:rs.getD j (0,0)∈rs:=by
   rw [List.getD_eq_getElem?_getD,List.getElem?_eq_getElem hj]
   exact List.getElem_mem hj
  rcases e with e | e
  ·exact .inl (e▸hm)
  ·exact .inr (e▸hm)
 ·rintro (h | h)
  ·obtain ⟨j,hj,e⟩:=List.getElem_of_mem h
   exact ⟨j,hj,.inl (by rw [List.getD_eq_getElem?_getD,List.getElem?_eq_getElem hj];exact e)⟩
  ·obtain ⟨j,hj,e⟩:=List.getElem_of_mem h
   exact ⟨j,hj,.inr (by rw [List.getD_eq_getElem?_getD,List.getElem?_eq_getElem hj];exact e)⟩
def Zc1 (rs:List (Int×Int)) (ns:List Int) (c:Bool):Prop:=(∀ t∈Zan ns c,Adj rs t.1 t.2)/\ns.Nodup
end
end M
namespace M
open PySem L2
section
variable {P:Program} {w:World} {K:PySem.W.Frag} {mg:Str->Option Value} {base:Heap}
theorem ZaM {ns:List Int} {i:Nat} (h:i<ns.length):ns.getD i 0=ns[i]:=by
 rw [List.getD_eq_getElem?_getD,List.getElem?_eq_getElem h]
 rfl
theorem zip_mem {ns:List Int} {t:Int×Int}:t∈ns.zip (ns.drop 1)↔∃ j,j+1<ns.length/\t=(ns.getD j 0,ns.getD (j+1) 0):=by
 constructor
 ·intro h
  obtain ⟨j,hj,e⟩:=List.getElem_of_mem h
  rw [List.length_zip,List.length_drop] at hj
  have h1:j+1<ns.length:=by omega
  refine ⟨j,h1,?_⟩
  rw [<-e,List.getElem_zip,List.getElem_drop,ZaM (by omega),ZaM h1]
  congr 2
  omega
 ·rintro ⟨j,hj,rfl⟩
  have h1:j<(ns.zip (ns.drop 1)).length:=by rw [List.length_zip,List.length_drop];omega
  have e:(ns.zip (ns.drop 1))[j]=(ns.getD j 0,ns.getD (j+1) 0):=by
   rw [List.getElem_zip,List.getElem_drop,ZaM (by omega),ZaM hj]
   congr 2
   omega
  rw [<-e]
  exact List.getElem_mem h1
theorem ZcA {ns:List Int} {i:Nat} (h:i<ns.length):ns.getD i 0∈ns:=by
 rw [ZaM h]
 exact List.getElem_mem h
theorem Zb0 {ns:List Int} (nd:ns.Nodup) {i j:Nat} (hi:i<ns.length) (hj:j<ns.length) (h:i≠j):ns.getD i 0≠ns.getD j 0:=by
 rw [ZaM hi,ZaM hj]
 exact λe=>h ((List.getElem_inj nd).mp e)
def Mt (rs:List (Int×Int)) (p q:Int) (j:Nat):Prop:=rs.getD j (0,0)=(p,q)\/rs.getD j (0,0)=(q,p)
theorem ZcB {rs:List (Int×Int)} {j:Nat} (h:j<rs.length):rs.getD j (0,0)∈rs:=by
 rw [List.getD_eq_getElem?_getD,List.getElem?_eq_getElem h]
 exact List.getElem_mem h
theorem ZcC {rs:List (Int×Int)} (nd:rs.Nodup) {i j:Nat} (hi:i<rs.length) (hj:j<rs.length) (h:rs.getD i (0,0)=rs.getD j (0,0)):i=j:=by
 rw [List.getD_eq_getElem?_getD,List.getElem?_eq_getElem hi,List.getD_eq_getElem?_getD,List.getElem?_eq_getElem hj] at h
 exact (List.getElem_inj nd).mp h
theorem ZmY {k:Int} {rs:List (Int×Int)} (g:Zaf k rs) {p q:Int} {i j:Nat} (hi:i<rs.length) (hj:j<rs.length) (a:Mt rs p q i) (b:Mt rs p q j):i=j:=by
 have gi:=(g.2.2.2.1 _ (ZcB hi)).2.1
 have gj:=(g.2.2.2.1 _ (ZcB hj)).2.1
 rcases a with a | a <;> rcases b with b | b
 ·exact ZcC g.2.2.2.2 hi hj (a.trans b.symm)
 ·rw [a] at gi;rw [b] at gj;dsimp only at gi gj;omega
 ·rw [a] at gi;rw [b] at gj;dsimp only at gi gj;omega
 ·exact ZcC g.2.2.2.2 hi hj (a.trans b.symm)
theorem Zdu {k:Int} {rs:List (Int×Int)} (g:Zaf k rs) {p q:Int} {j:Nat} (m:Mt rs p q j):∀ i,j<i->i<=rs.length->Zb8 rs p q i=some (.int (j:Nat))
 | 0,h,_=>absurd h (Nat.not_lt_zero j)
 | i+1,h,hl=>by
  show (if rs.getD i (0,0)=(p,q)\/rs.getD i (0,0)=(q,p) then some (V.int (i:Nat)) else Zb8 rs p q i)=_
  by_cases z:rs.getD i (0,0)=(p,q)\/rs.getD i (0,0)=(q,p)
  ·rw [if_pos z,ZmY g (i:=i) (j:=j) (by omega) (by omega) z m]
  ·rw [if_neg z]
   refine Zdu g m i ?_ (by omega)
   rcases Nat.lt_or_ge j i with h' | h'
   ·exact h'
   ·have:j=i:=by omega
    subst this
    exact absurd m z
theorem Zkz {rs:List (Int×Int)} {p q:Int} (h:Adj rs p q):∃ j,j<rs.length/\Mt rs p q j:=by
 obtain ⟨j,hj,e⟩:=(Zcd rs p q rs.length).mp ((ZjY rs p q).mpr h)
 exact ⟨j,hj,e⟩
def Zfm (rs:List (Int×Int)) (t:Int×Int):Int:=match Zb8 rs t.1 t.2 rs.length with
 | some (.int j)=>j
 | _=>0
theorem ZiI {k:Int} {rs:List (Int×Int)} (g:Zaf k rs) {t:Int×Int} {j:Nat} (hj:j<rs.length) (m:Mt rs t.1 t.2 j):Zfm rs t=(j:Int):=by
 unfold Zfm
 rw [Zdu g m rs.length hj (Nat.le_refl _)]
theorem ZkA {ns:List Int} {i:Nat} (h:i+1<ns.length) (hz:i<(ns.zip (ns.drop 1)).length):(ns.zip (ns.drop 1))[i]=(ns.getD i 0,ns.getD (i+1) 0):=by
 rw [List.getElem_zip,List.getElem_drop,ZaM (by omega),ZaM h]
 congr 2
 omega
theorem Zhb {ns:List Int} {c:Bool} (nd:ns.Nodup) (hc:c=true->3<=ns.length):(Zan ns c).Pairwise (λt u=>¬ (t=u\/t=(u.2,u.1))):=by
 unfold Zan
 have zl:(ns.zip (ns.drop 1)).length=ns.length-1:=by rw [List.length_zip,List.length_drop];omega
 have hz:(ns.zip (ns.drop 1)).Pairwise (λt u=>¬ (t=u\/t=(u.2,u.1))):=by
  rw [List.pairwise_iff_getElem]
  intro i j hi hj hij
  rw [ZkA (by omega) hi,ZkA (by omega) hj]
  rintro (e | e)
  ·injection e with e1 e2
   exact Zb0 nd (i:=i) (j:=j) (by omega) (by omega) (by omega) e1
  ·injection e with e1 e2
   exact Zb0 nd (i:=i) (j:=j+1) (by omega) (by omega) (by omega) e1
 cases c with
 | false=>rw [if_neg (by decide),List.append_nil];exact hz
 | true=>
  have h3:=hc rfl
  rw [if_pos rfl,List.pairwise_append]
  refine ⟨hz,List.pairwise_singleton _ _,λt ht u hu=>?_⟩
  rw [List.mem_singleton] at hu
  subst hu
  obtain ⟨i,hi,rfl⟩:=zip_mem.mp ht
  rintro (e | e)
  ·injection e with e1 e2
   exact Zb0 nd (i:=i) (j:=ns.length-1) (by omega) (by omega) (by omega) e1
  ·injection e with e1 e2
   by_cases h0:i=0
   ·subst h0
    exact Zb0 nd (i:=0+1) (j:=ns.length-1) (by omega) (by omega) (by omega) e2
   ·exact Zb0 nd (i:=i) (j:=0) (by omega) (by omega) h0 e1
def Jk (rs:List (Int×Int)) (ns:List Int) (c:Bool) (k:Nat):Prop:=∃ t∈Zan ns c,Mt rs t.1 t.2 k
theorem Zgv {ns:List Int} {r:Int} (h:r∈ns):ns.getD (ns.idxOf r) 0=r:=by
 rw [ZaM (List.idxOf_lt_length_iff.mpr h)]
 exact List.getElem_idxOf _
def ZqA (ns:List Int) (a b:Int):Prop:=a∈ns/\b∈ns/\(if (ns.idxOf a:Int)-(ns.idxOf b:Int)<0 then -((ns.idxOf a:Int)-(ns.idxOf b:Int)) else (ns.idxOf a:Int)-(ns.idxOf b:Int))=1
end
section
variable {P:Program} {w:World} {K:PySem.W.Frag} {mg:Str->Option Value} {base:Heap}
def pvI (ns:List Int) (i:Nat):Int:=if i=0 then ns.getD (ns.length-1) 0 else ns.getD (i-1) 0
theorem ZmZ {rs:List (Int×Int)} (hlt:∀ r∈rs,r.1<r.2) (x y:Int):((if y<x then y else x),(if y > x then y else x))∈rs↔Adj rs x y:=by
 unfold Adj
 by_cases h1:y<x
 ·rw [if_pos h1,if_neg (show ¬ y > x by omega)]
  refine ⟨.inr,λh=>h.elim (λh=>?_) id⟩
  have:=hlt _ h
  dsimp only at this
  omega
 ·rw [if_neg h1]
  by_cases h2:y > x
  ·rw [if_pos h2]
   refine ⟨.inl,λh=>h.elim id (λh=>?_)⟩
   have:=hlt _ h
   dsimp only at this
   omega
  ·have e:x=y:=by omega
   subst e
   rw [if_neg h2]
   exact ⟨.inl,λh=>h.elim id id⟩
theorem Zdv {k:Int} {rs:List (Int×Int)} (g:Zaf k rs) {x y:Int} (h:Adj rs x y):0<=y/\y<k:=by
 rcases h with h | h
 ·have:=g.2.2.2.1 _ h
  dsimp only at this
  omega
 ·have:=g.2.2.2.1 _ h
  dsimp only at this
  omega
def ZnI:Sp:=λvs H Q _=>∃ (wb l:Addr) (k p:Int),vs=[.ref wb,.int p]/\H wb=some (.tup [.int k,.ref l])/\Q (.bl (decide (0<=p/\p<k))) H
theorem ZpW:Zau ["web", "place"] ["web", "place"] (Zae sIs):=⟨rfl,rfl,rfl,by decide +kernel,rfl,by decide +kernel,by decide +kernel⟩
theorem ZlE {f:Addr} {fd:FuncData} (F:Fun K "is_place" "is_place" sIs f fd):ZaI P w K mg base CX0 1 f fd ["web", "place"] ZnI:=by
 refine F.ok ZpW (λvs H Q E h=>?_) (λcdv A outer s H vs Q E hr h=>?_)
 ·obtain ⟨_,_,_,_,rfl,_⟩:=h
  rfl
 ·obtain ⟨wb,l,k,p,rfl,hw,q⟩:=h
  refine ⟨_,Zah (Zaw (Zi9 Zml Zi8 Zai (pv 1) (ZaJ (ZcM K) (pv 0) Zai (λ_ _=>rfl)))),?_⟩
  refine ⟨_,rfl,_,_,rfl,rfl,_,rfl,Zfv (λh0=>?_) (λh0=>?_)⟩
  ·refine ⟨_,rfl,wb,_,_,_,rfl,rfl,SqT.of hw,Zas (j:=0) rfl,_,_,rfl,rfl,?_⟩
   have h0':=of_decide_eq_true h0
   have e:decide (p<k)=decide (0<=p/\p<k):=by
    by_cases h1:p<k
    ·rw [decide_eq_true h1,decide_eq_true (⟨h0',h1⟩:0<=p/\p<k)]
    ·rw [decide_eq_false h1,decide_eq_false λz=>h1 z.2]
   show Q (.bl (decide (p<k))) H
   rw [e]
   exact q
  ·have h0':¬ 0<=p:=λz=>h0 (decide_eq_true z)
   have e:decide (0<=p/\p<k)=false:=decide_eq_false λz=>h0' z.1
   rw [e] at q
   exact q
def Ends (k p q:Int):Prop:=(0<=p/\p<k)/\(0<=q/\q<k)/\p≠q
def ZjZ (C:Addr):Sp:=λvs H Q E=>∃ (wb l:Addr) (k p q:Int),vs=[.ref wb,.int p,.int q]/\H wb=some (.tup [.int k,.ref l])/\((Ends k p q/\Q .non H)\/(¬ Ends k p q/\E (.ref C) none H))
theorem Zok:Zau ["web", "one", "other"] ["web", "one", "other"] (Zae ZjR):=⟨rfl,rfl,rfl,by decide +kernel,rfl,by decide +kernel,by decide +kernel⟩
theorem Zm0 {f fI C:Addr} {fd fdI:FuncData} (F:Fun K "check_ends" "check_ends" ZjR f fd) (FI:Fun K "is_place" "is_place" sIs fI fdI) (bI:Binds K fdI ["web", "place"] []) (mI:mg "is_place" = some (.ref fI)) (mC:mg "NoEnds" = some (.ref C)) (xC:ExcC K C) :
  ZaI P w K mg base (CXr P w) 2 f fd ["web", "one", "other"] (ZjZ C):=by
 have GI:ZaI P w K mg base CX0 1 fI fdI ["web", "place"] ZnI:=ZlE FI
 refine F.okR Zok (λvs H Q E h=>?_) (λcdv A outer s H vs Q E hr h=>?_)
 ·obtain ⟨_,_,_,_,_,rfl,_⟩:=h
  rfl
 ·obtain ⟨wb,l,k,p,q,rfl,hw,h⟩:=h
  refine ⟨_,Zah (Zbb (PW.pt (Zfq (ZcU (Zch (Zak GI (hr.mono (by decide)) rfl mI FI.kp bI .nil ZaL (Zaa (pv 0) (Zaa (pv 1) Zac))))) (Zfq (ZcU (Zch (Zak GI (hr.mono (by decide)) rfl mI FI.kp bI .nil ZaL (Zaa (pv 0) (Zaa (pv 2) Zac))))) (ZdK (Zar ZdH (pv 1) (pv 2) (ZaB _)))))) (Zah (Zc3 (E:=E) rfl Zbp rfl mC xC (Zaa Zf2 Zac))) ZaC),?_⟩
  refine ⟨_,rfl,_,rfl,wb,l,k,p,rfl,hw,⟨_,rfl,?_⟩⟩
  by_cases h1:0<=p/\p<k
  ·rw [decide_eq_true h1]
   refine Zbo ?_
   refine ⟨_,rfl,_,rfl,wb,l,k,q,rfl,hw,⟨_,rfl,?_⟩⟩
   by_cases h2:0<=q/\q<k
   ·rw [decide_eq_true h2]
    refine Zbo ?_
    refine ⟨_,rfl,_,rfl,rfl,_,rfl,?_⟩
    by_cases h3:p=q
    ·subst h3
     rw [decide_eq_true rfl]
     refine Zbz ?_
     rcases h with ⟨g,_⟩ | ⟨_,e⟩
     ·exact absurd rfl g.2.2
     ·exact ⟨by decide,e⟩
    ·rw [decide_eq_false λe=>h3 (V.int.inj e)]
     refine Zbo ?_
     rcases h with ⟨_,y⟩ | ⟨g,_⟩
     ·exact y
     ·exact absurd ⟨h1,h2,h3⟩ g
   ·rw [decide_eq_false h2]
    refine Zbz ?_
    rcases h with ⟨g,_⟩ | ⟨_,e⟩
    ·exact absurd g.2.1 h2
    ·exact ⟨by decide,e⟩
  ·rw [decide_eq_false h1]
   refine Zbz ?_
   rcases h with ⟨g,_⟩ | ⟨_,e⟩
   ·exact absurd g.1 h1
   ·exact ⟨by decide,e⟩
def Way (rs:List (Int×Int)) (p q:Int) (ns:List Int):Prop:=ns≠[]/\ns.getD 0 0=p/\ns.getD (ns.length-1) 0=q/\Zc1 rs ns false
end
section
variable {P:Program} {w:World} {K:PySem.W.Frag} {mg:Str->Option Value} {base:Heap}
def ZqB (rs:List (Int×Int)) (ns:List Int):Prop:=3<=ns.length/\(∀ x∈ns,ns.getD 0 0<=x)/\ns.getD 1 0<ns.getD (ns.length-1) 0/\Zc1 rs ns true
end
end M
namespace M
open PySem L2
section
variable {P:Program} {w:World} {K:PySem.W.Frag} {mg:Str->Option Value} {base:Heap}
def ZlF:Sp:=λvs H Q _=>∃ (wb l pl:Addr) (k:Int) (xs:List V) (rs:List (Int×Int)) (ns:List Int) (c:Bool),vs=[.ref wb,.ref pl,.bl c]/\WebAt H wb l k xs rs/\Zaf k rs/\H pl=some (.lst (ns.map V.int))/\ns.length<=50/\(c=true->ns≠[])/\(∀ t∈Zan ns c,Adj rs t.1 t.2) /\
 ∀ (re:Addr) (ms:List Int) (H':Hp),Same H H'->H re=none->H' re=some (.lst (ms.map V.int))->ms.Perm ((Zan ns c).map (Zfm rs))->ms.Pairwise (· <= ·)->Q (.ref re) H'
theorem scRds:Zau ["web", "places", "closed", "numbers"] ["web", "places", "closed"] (Zae ZfQ):=⟨rfl,rfl,rfl,by decide +kernel,rfl,by decide +kernel,by decide +kernel⟩
theorem Zm1 {f fU fV:Addr} {dV:Value} {fd fdU fdV:FuncData} (F:FunD K "roads_of" "roads_of" ZfQ dV f fd) (FU:Fun K "numbers_by_step" "numbers_by_step" Zkt fU fdU) (bU:Binds K fdU ["web"] []) (mU:mg "numbers_by_step" = some (.ref fU))
  (FV:Fun K "steps_of" "steps_of" Zlt fV fdV) (bV:Binds K fdV ["places", "closed"] []) (mV:mg "steps_of" = some (.ref fV)) (mEnum:mg "enumerate" = none) (mLst:mg "list" = none) (mZip:mg "zip" = none) (mSor:mg "sorted" = none):ZaI P w K mg base CX0 2 f fd ["web", "places", "closed"] ZlF:=by
 have GU:ZaI P w K mg base CX0 1 fU fdU ["web"] ZmT:=ZmU FU mEnum
 have GV:ZaI P w K mg base CX0 1 fV fdV ["places", "closed"] ZmV:=ZmX FV mLst mZip
 refine F.ok scRds (λvs H Q E h=>?_) (λcdv A outer s H vs Q E hr h=>?_)
 ·obtain ⟨_,_,_,_,_,_,_,_,rfl,_⟩:=h
  rfl
 ·obtain ⟨wb,l,pl,k,xs,rs,ns,c,rfl,W,g,hp,hn,hc,adj,q⟩:=h
  have hu1:(A.deeper (PyProof.Rows.envOfC "roads_of" (Zae ZfQ) s.heap.objs.size f cdv)).units+1<cLine:=by have:=hr.un;omega
  have h16:(16777216:Nat)=sizeLine:=sizeLine_eq.symm
  have hx:xs.length<=30:=by rw [W.p.len];exact g.2.2.1
  refine ⟨_,Zad (Zav (i:=3) scRds.nd rfl (Or.inr rfl) (Zak GU (hr.mono (by decide)) rfl mU FU.kp bU .nil ZaL (Zaa (pv 0) Zac)))
    (Zah (Zaw (Zax (Zfx K) rfl mSor PyProof.Rows.boot_sorted (Zaa (ZaO (own:=["step"]) rfl (Zaj (fr:=[("numbers", 3)]) [(".0", .local),("step", .local),("numbers", .cell)] rfl rfl (by decide +kernel) rfl (by decide +kernel) ⟨rfl,trivial⟩ ⟨λh=>ZaA h,λh=>ZaA h,λ_=>⟨_,rfl⟩,trivial⟩ ⟨⟨rfl,.inl rfl,.inl rfl⟩,trivial⟩) (ZbA K (Zak GV (hr.mono (by decide)) rfl mV FV.kp bV .nil ZaL (Zaa (pv 1) (Zaa (pv 2) Zac)))) (λ_ _ _ _=>Zao (i:=0) (show List.Nodup (["step", "numbers"]:List Str) by decide +kernel) rfl (Or.inl rfl)) (λ_ _ _ _=>ZaZ) (λ_ _ _ _=>Zla hu1 (pv 1) (pv 0) (λ_ _=>rfl))) Zac)))),?_⟩
  refine ⟨_,rfl,wb,l,k,xs,rs,rfl,W,hx,λd H1 kvs s1 hd ed val=>?_⟩
  refine ⟨_,rfl,_,rfl,pl,ns,c,rfl,s1 _ _ hp,by omega,hc,λS ws H2 s2 hS eS pS=>?_⟩
  have s12:=s1.trans s2
  have ed2:=s2 _ _ ed
  have lst:(Zan ns c).length<=51:=by
   unfold Zan
   rw [List.length_append,List.length_zip]
   split <;> simp <;> omega
  have lws:ws.length<=51:=by rw [pS.len];exact lst
  refine ⟨S,rfl,⟨_,SqL.of eS⟩,λD hD=>?_⟩
  refine ZaF (K:=K) (a:=S) (xs:=ws) (λi ys H3=>Same H2 H3/\H3 D=some (.lst ys)/\ys=(((Zan ns c).take i).map (Zfm rs)).map V.int) ⟨Same.new hD,Zab,rfl⟩ (λi ys H3 _ ⟨s3,_⟩=>SqL.of (s3 _ _ eS)) ?_ ?_
  ·rintro i x ys H3 hxi ⟨s3,hD3,rfl⟩
   obtain ⟨t,r,rfl,et,er⟩:=(pS.same s3).get hxi
   have hi:i<ws.length:=(List.getElem?_eq_some_iff.mp hxi).1
   obtain ⟨j,hj,mj⟩:=Zkz (adj r (List.mem_of_getElem? er))
   refine ⟨⟨rfl,trivial⟩,?_⟩
   unfold Zhk
   refine Zbz ?_
   have dg:DGet H3 d (.ref t) (some (.int (j:Nat))):=by
    have:=DGet.t (k:=ky r.1 r.2) (s3 _ _ ed2) et
    rw [val r.1 r.2,Zdu g mj rs.length hj (Nat.le_refl _)] at this
    exact this
   refine ⟨_,rfl,_,rfl,d,_,rfl,dg,hD3,?_,s3.put hD,Zab,?_⟩
   ·rw [List.length_map,List.length_map,List.length_take]
    omega
   ·rw [List.take_add_one,er,List.map_append,List.map_append]
    show _=_++[V.int (Zfm rs r)]
    rw [ZiI g hj mj]
  rintro ys H3 ⟨s3,hD3,rfl⟩
  rw [pS.len,List.take_length] at hD3
  refine ⟨D,_,rfl,SqL.of hD3,by rw [List.length_map];omega,λre ms hre pm so=>?_⟩
  have s13:=s12.trans s3
  exact q re ms _ (s13.put (s13.free hre)) (s13.free hre) Zab pm so
end
end M
namespace M
open PySem L2
section
variable {P:Program} {w:World} {K:PySem.W.Frag} {mg:Str->Option Value} {base:Heap}
def Zm2 (C:Addr):Sp:=λvs H Q E=>∃ (wb l:Addr) (k p:Int),vs=[.ref wb,.int p]/\H wb=some (.tup [.int k,.ref l])/\(((0<=p/\p<k)/\Q .non H)\/(¬ (0<=p/\p<k)/\E (.ref C) none H))
theorem Zol:Zau ["web", "place"] ["web", "place"] (Zae Zlr):=⟨rfl,rfl,rfl,by decide +kernel,rfl,by decide +kernel,by decide +kernel⟩
theorem Zm3 {f fI C:Addr} {fd fdI:FuncData} (F:Fun K "check_place" "check_place" Zlr f fd) (FI:Fun K "is_place" "is_place" sIs fI fdI) (bI:Binds K fdI ["web", "place"] []) (mI:mg "is_place" = some (.ref fI)) (mC:mg "NoPlace" = some (.ref C)) (xC:ExcC K C) :
  ZaI P w K mg base (CXr P w) 2 f fd ["web", "place"] (Zm2 C):=by
 have GI:ZaI P w K mg base CX0 1 fI fdI ["web", "place"] ZnI:=ZlE FI
 refine F.okR Zol (λvs H Q E h=>?_) (λcdv A outer s H vs Q E hr h=>?_)
 ·obtain ⟨_,_,_,_,rfl,_⟩:=h
  rfl
 ·obtain ⟨wb,l,k,p,rfl,hw,h⟩:=h
  refine ⟨_,Zah (Zbb (ZcU (Zch (Zak GI (hr.mono (by decide)) rfl mI FI.kp bI .nil ZaL (Zaa (pv 0) (Zaa (pv 1) Zac))))) (Zah (Zc3 (E:=E) rfl Zbp rfl mC xC (Zaa Zf2 Zac))) ZaC),?_⟩
  refine ⟨_,rfl,_,rfl,wb,l,k,p,rfl,hw,⟨_,rfl,?_⟩⟩
  rcases h with ⟨hin,q⟩ | ⟨hout,q⟩
  ·rw [decide_eq_true hin]
   refine Zbo ?_
   exact q
  ·rw [decide_eq_false hout]
   refine Zbz ?_
   exact ⟨by decide,q⟩
def Ze8 (r:Int×Int) (p:Int):Bool:=decide (r.1=p\/r.2=p)
theorem ZpX (p a b:Int):inV (.int p) [.int a,.int b]=Ze8 (a,b) p:=by
 unfold inV Ze8
 by_cases h1:a=p <;> by_cases h2:b=p <;> simp [eqV,h1,h2]
def Zhm (rs:List (Int×Int)) (p:Int):List Int:=(rs.filter λr=>Ze8 r p).map λr=>r.1+r.2-p
theorem Zj0 (rs:List (Int×Int)) (p:Int):(Zhm rs p).length<=rs.length:=by
 unfold Zhm
 rw [List.length_map]
 exact List.length_filter_le _ _
theorem ZiJ (rs:List (Int×Int)) (p:Int) (i:Nat) {r:Int×Int} (h:rs[i]?=some r):Zhm (rs.take (i+1)) p=Zhm (rs.take i) p++(if Ze8 r p=true then [r.1+r.2-p] else []):=by
 unfold Zhm
 rw [List.take_add_one,h]
 show List.map _ (List.filter _ (rs.take i++[r]))=_
 rw [List.filter_append,List.map_append,List.filter_cons,List.filter_nil]
 by_cases z:Ze8 r p=true
 ·rw [if_pos z,if_pos z];rfl
 ·rw [if_neg z,if_neg z];rfl
def ZlG (C:Addr):Sp:=λvs H Q E=>∃ (wb l:Addr) (k p:Int) (xs:List V) (rs:List (Int×Int)),vs=[.ref wb,.int p]/\WebAt H wb l k xs rs/\xs.length<=60 /\
 (((0<=p/\p<k)/\∀ (r:Addr) (ns:List Int) (H':Hp),Same H H'->H r=none->H' r=some (.lst (ns.map V.int))->ns.Perm (Zhm rs p)->ns.Pairwise (· <= ·)->Q (.ref r) H')\/(¬ (0<=p/\p<k)/\E (.ref C) none H))
theorem Zom:Zau ["web", "place"] ["web", "place"] (Zae Zks):=⟨rfl,rfl,rfl,by decide +kernel,rfl,by decide +kernel,by decide +kernel⟩
theorem Zm4 {f fH C:Addr} {fd fdH:FuncData} (F:Fun K "beside" "beside" Zks f fd) (FH:Fun K "check_place" "check_place" Zlr fH fdH) (bH:Binds K fdH ["web", "place"] []) (mH:mg "check_place" = some (.ref fH))
  (GH:ZaI P w K mg base (CXr P w) 2 fH fdH ["web", "place"] (Zm2 C)) (mSor:mg "sorted" = none):ZaI P w K mg base (CXr P w) 3 f fd ["web", "place"] (ZlG C):=by
 refine F.okR Zom (λvs H Q E h=>?_) (λcdv A outer s H vs Q E hr h=>?_)
 ·obtain ⟨_,_,_,_,_,_,rfl,_⟩:=h
  rfl
 ·obtain ⟨wb,l,k,p,xs,rs,rfl,W,hx,h⟩:=h
  have h16:(16777216:Nat)=sizeLine:=sizeLine_eq.symm
  refine ⟨_,Zad (Za6 (Zak GH (hr.mono (by decide)) rfl mH FH.kp bH .nil ZgT (Zaa (pv 0) (Zaa (pv 1) Zac))))
    (Zah (Zaw (Zax (Zfx K) rfl mSor PyProof.Rows.boot_sorted (Zaa (ZaO (own:=["a", "b"]) rfl (Zaj (fr:=[("place", 1)]) [(".0", .local),("a", .local),("b", .local),("place", .cell)] rfl rfl (by decide +kernel) rfl (by decide +kernel) ⟨rfl,trivial⟩ ⟨λh=>ZaA h,λh=>ZaA h,λh=>ZaA h,λ_=>⟨_,rfl⟩,trivial⟩ ⟨⟨rfl,.inl rfl,.inl rfl⟩,trivial⟩) (ZbA K (ZaJ (ZcM K) (pv 0) Zai (λ_ _=>rfl))) (λ_ _ _ _=>Zk0 K (n:=2) rfl (ZaP (Zao (i:=0) (show List.Nodup (["a", "b", "place"]:List Str) by decide +kernel) rfl (Or.inl rfl)) (ZaP (Zao (i:=1) (show List.Nodup (["a", "b", "place"]:List Str) by decide +kernel) rfl (Or.inl rfl)) Zca))) (λ_ _ _ _=>Za0 (Zar (kIn K) (pv 2) (Zbn (Zaa (pv 0) (Zaa (pv 1) Zac))) (by with_unfolding_all rfl))) (λ_ _ _ _=>Zaz Zhx (Zaz ZaW (pv 0) (pv 1)) (pv 2))) Zac)))),?_⟩
  rcases h with ⟨hin,q⟩ | ⟨hout,q⟩
  ·refine ⟨_,rfl,_,rfl,wb,l,k,p,rfl,W.w,.inl ⟨hin,?_⟩⟩
   refine ⟨_,rfl,wb,_,_,_,rfl,rfl,SqT.of W.w,Zas (j:=1) rfl,l,rfl,⟨_,SqL.of W.l⟩,λD hD=>?_⟩
   refine ZaF (K:=K) (a:=l) (xs:=xs) (λi ys H2=>Same H H2/\H2 D=some (.lst ys)/\ys=(Zhm (rs.take i) p).map V.int) ⟨Same.new hD,Zab,rfl⟩ (λi ys H2 _ ⟨s2,_⟩=>SqL.of (s2 _ _ W.l)) ?_ ?_
   ·rintro i x ys H2 hxi ⟨s2,hD2,rfl⟩
    obtain ⟨t,r,rfl,et,er⟩:=W.p.get hxi
    have hi:i<xs.length:=(List.getElem?_eq_some_iff.mp hxi).1
    refine ⟨t,_,rfl,SqT.of (s2 _ _ et),rfl,_,_,rfl,_,_,rfl,rfl,⟨rfl,trivial⟩,?_⟩
    refine ⟨_,rfl,_,rfl,_,rfl,Zby,λT hT=>⟨T,_,rfl,.inr (SqT.of Zab),rfl,rfl,_,rfl,?_⟩⟩
    show if (inV (.int p) [.int r.1,.int r.2])=true then _ else _
    have sc:=ZiJ rs p i er
    have s3:Same H (upd H2 T (.tup [.int r.1,.int r.2])):=s2.put (s2.free hT)
    have hDT:D≠T:=Zag hD2 hT
    rw [ZpX]
    refine Zfv (λz=>?_) (λz=>?_)
    ·rw [if_pos z] at sc
     refine ⟨_,rfl,_,rfl,_,_,rfl,rfl,_,rfl,_,_,rfl,rfl,Zal hD2 hDT,?_,s3.put hD,Zab,by rw [sc,List.map_append];rfl⟩
     rw [List.length_map]
     have:=Zj0 (rs.take i) p
     rw [List.length_take] at this
     omega
    ·rw [if_neg z,List.append_nil] at sc
     exact ⟨s3,Zal hD2 hDT,by rw [sc]⟩
   ·rintro ys H2 ⟨s2,hD2,rfl⟩
    rw [W.p.len,List.take_length] at hD2
    refine ⟨D,_,rfl,SqL.of hD2,?_,λr ns hr hp hs=>q r ns _ (s2.put (s2.free hr)) (s2.free hr) Zab hp hs⟩
    unfold Zhm
    rw [List.length_map]
    have:=List.length_filter_le (λr=>Ze8 r p) rs
    have:=W.p.len
    omega
  ·exact ⟨_,rfl,_,rfl,wb,l,k,p,rfl,W.w,.inr ⟨hout,q⟩⟩
end
end M
namespace M
open PySem L2
section
variable {P:Program} {w:World} {K:PySem.W.Frag} {mg:Str->Option Value} {base:Heap}
def Zb9 (m:Nat):List Int:=(List.range m).map λi=>((i:Nat):Int)
theorem ZkB (m:Nat):(List.range m).map (λi=>V.int ((i:Nat):Int))=(Zb9 m).map V.int:=by
 unfold Zb9
 rw [List.map_map]
 rfl
theorem Zda (m:Nat):(Zb9 m).length=m:=by
 unfold Zb9
 rw [List.length_map,List.length_range]
theorem ZfV (m:Nat):(Zb9 m).Pairwise (· <= ·):=by
 unfold Zb9
 refine List.pairwise_map.mpr ?_
 exact List.Pairwise.imp (λh=>by omega) List.pairwise_lt_range
theorem Zhc (m:Nat):(Zb9 m).Nodup:=by
 unfold Zb9
 refine List.pairwise_map.mpr ?_
 exact List.Pairwise.imp (λh=>by omega) List.pairwise_lt_range
theorem Zgw {m:Nat} {x:Int} (h:x∈Zb9 m):0<=x/\x<m:=by
 obtain ⟨i,hi,rfl⟩:=List.mem_map.mp h
 have:=List.mem_range.mp hi
 omega
def Zm5 (C:Addr):Sp:=λvs H Q E=>∃ (wb ol l:Addr) (k:Int) (xs:List V) (ns:List Int),vs=[.ref wb,.ref ol]/\H wb=some (.tup [.int k,.ref l])/\H l=some (.lst xs)/\H ol=some (.lst (ns.map V.int))/\ns.length<64/\xs.length<=30 /\
 ((ns.Perm (Zb9 xs.length)/\∀ (p l':Addr) (H':Hp),Same H H'->H p=none->H l'=none->p≠l'->H' p=some (.tup [.int k,.ref l'])->H' l'=some (.lst (ns.map λi=>xs.getD i.toNat .non))->Q (.ref p) H') \/
  (¬ ns.Perm (Zb9 xs.length)/\∀ H':Hp,Same H H'->E (.ref C) none H'))
theorem scReo:Zau ["web", "order", "roads"] ["web", "order"] (Zae Zls):=⟨rfl,rfl,rfl,by decide +kernel,rfl,by decide +kernel,by decide +kernel⟩
theorem Zm6 {f C:Addr} {fd:FuncData} (F:Fun K "reordered" "reordered" Zls f fd) (mC:mg "NoOrder" = some (.ref C)) (xC:ExcC K C) (mRange:mg "range" = none) (mLst:mg "list" = none) (mLen:mg "len" = none) (mSor:mg "sorted" = none) :
  ZaI P w K mg base (CXr P w) 1 f fd ["web", "order"] (Zm5 C):=by
 refine F.okR scReo (λvs H Q E h=>?_) (λcdv A outer s H vs Q E hr h=>?_)
 ·obtain ⟨_,_,_,_,_,_,rfl,_⟩:=h
  rfl
 ·obtain ⟨wb,ol,l,k,xs,ns,rfl,hw,hl,ho,hn,hx,h⟩:=h
  have hu:=hr.units
  have h16:(16777216:Nat)=sizeLine:=sizeLine_eq.symm
  refine ⟨_,Zad (Zav (i:=2) scReo.nd rfl (Or.inr rfl) (ZaJ (ZcM K) (pv 0) Zai (λ_ _=>rfl)))
    (Zad (Zbb (Zar (Zkh K hu) (Zax (Zfx K) rfl mSor PyProof.Rows.boot_sorted (Zaa (pv 1) Zac)) (Zbt (Zcn rfl) rfl mLst Zbu (Zaa (ZhW rfl mRange (Zaa (Zax (ZhU K) rfl mLen PySem.boot_len (Zaa (pv 2) Zac)) Zac)) Zac)) (ZaB _)) (Zah (Zc3 (E:=E) rfl Zbp rfl mC xC (Zaa Zf2 Zac))) ZaC)
    (Zah (Zaw (Zbn (Zaa (ZaJ (ZcM K) (pv 0) Zai (λ_ _=>rfl)) (Zaa (ZaO (own:=["number"]) rfl (Zaj (fr:=[("roads", 2)]) [(".0", .local),("number", .local),("roads", .cell)] rfl rfl (by decide +kernel) rfl (by decide +kernel) ⟨rfl,trivial⟩ ⟨λh=>ZaA h,λh=>ZaA h,λ_=>⟨_,rfl⟩,trivial⟩ ⟨⟨rfl,.inl rfl,.inl rfl⟩,trivial⟩) (ZbA K (pv 1)) (λ_ _ _ _=>Zao (i:=0) (show List.Nodup (["number", "roads"]:List Str) by decide +kernel) rfl (Or.inl rfl)) (λ_ _ _ _=>ZaZ) (λ_ _ _ _=>ZaJ (ZhT K) (pv 1) (pv 0) (λ_ _=>rfl))) Zac)))))),?_⟩
  refine ⟨_,rfl,wb,_,_,_,rfl,rfl,SqT.of hw,Zas (j:=1) rfl,?_⟩
  refine ⟨_,rfl,ol,ns,rfl,SqL.of ho,hn,λl1 ns1 hl1 hp1 hs1=>?_⟩
  have s1:Same H (upd H l1 (.lst (ns1.map V.int))):=Same.new hl1
  refine ⟨_,rfl,l,xs,rfl,.inl (SqL.of (s1 _ _ hl)),_,rfl,λr hr'=>⟨r,xs.length,rfl,Zab,by omega,λl2 hl2=>?_⟩⟩
  have s2:=s1.trans (Same.new (o:=.rng 0 (xs.length:Int)) hr')
  have s3:=s2.trans (Same.new (o:=.lst ((List.range xs.length).map λi=>V.int ((i:Nat):Int))) hl2)
  have e1:upd (upd (upd H l1 (.lst (ns1.map V.int))) r (.rng 0 (xs.length:Int))) l2 (.lst ((List.range xs.length).map λi=>V.int ((i:Nat):Int))) l1=some (.lst (ns1.map V.int)):=
   (Same.new hl2) _ _ ((Same.new hr') _ _ Zab)
  refine ⟨.list (ns1.map PyData.int),.list ((Zb9 xs.length).map PyData.int),.lst (SqL.of e1) (Zbc ns1),.lst (SqL.of Zab) (by rw [ZkB];exact Zbc _),Za8 _,Za8 _,_,rfl,?_⟩
  rw [Zc6]
  generalize upd (upd (upd H l1 (.lst (ns1.map V.int))) r (.rng 0 (xs.length:Int))) l2 (.lst ((List.range xs.length).map λi=>V.int ((i:Nat):Int)))=H3 at s3 ⊢
  have so:=Zgb hp1 hs1 (ZfV xs.length)
  rcases h with ⟨hp,q⟩ | ⟨hp,q⟩
  ·rw [decide_eq_true (so.mpr hp)]
   refine Zbo ?_
   refine ⟨_,rfl,wb,_,_,_,rfl,rfl,SqT.of (s3 _ _ hw),Zas (j:=0) rfl,?_⟩
   refine ⟨_,rfl,ol,rfl,⟨_,SqL.of (s3 _ _ ho)⟩,λD hD=>?_⟩
   refine ZaF (K:=K) (a:=ol) (xs:=ns.map V.int) (λj ys H4=>Same H3 H4/\H4 D=some (.lst ys)/\ys=(ns.take j).map λi=>xs.getD i.toNat .non) ⟨Same.new hD,Zab,rfl⟩ (λj ys H4 _ ⟨s4,_⟩=>SqL.of (s4 _ _ (s3 _ _ ho))) ?_ ?_
   ·rintro j x ys H4 hx' ⟨s4,hD4,rfl⟩
    rw [List.getElem?_map] at hx'
    cases z:ns[j]? with
    | none=>rw [z] at hx';cases hx'
    | some i=>
     rw [z] at hx'
     cases hx'
     have hi:=Zgw (hp.mem_iff.mp (List.mem_of_getElem? z))
     refine ⟨⟨rfl,trivial⟩,?_⟩
     unfold Zhk
     refine Zbz ?_
     refine ⟨_,rfl,_,rfl,l,xs,i,_,rfl,rfl,SqL.of (s4 _ _ (s3 _ _ hl)),Zk2 hi.1 hi.2,hD4,?_,s4.put hD,Zab,?_⟩
     ·rw [List.length_map,List.length_take]
      omega
     ·rw [List.take_add_one,z,List.map_append]
      rfl
   ·rintro ys H4 ⟨s4,hD4,rfl⟩
    refine ⟨Zby,λp hp'=>?_⟩
    have s5:=s3.trans s4
    have hDp:D≠p:=Zag hD4 hp'
    refine q p D _ (s5.put (s5.free hp')) (s5.free hp') (s3.free hD) (Ne.symm hDp) Zab (Zal ?_ hDp)
    rw [hD4,List.length_map,List.take_length]
  ·rw [decide_eq_false (λz=>hp (so.mp z))]
   refine Zbz ?_
   exact ⟨by decide,q _ s3⟩
end
section
variable {P:Program} {w:World} {K:PySem.W.Frag} {mg:Str->Option Value} {base:Heap}
def Za5 (ns ms:List Int) (i:Nat):List Int:=((List.range i).filter λj=>decide (ns.getD j 0∈ms)).map λj=>((j:Nat):Int)
theorem Zhd (ns ms:List Int) (i:Nat) {n:Int} (h:ns[i]?=some n):Za5 ns ms (i+1)=if decide (n∈ms)=true then Za5 ns ms i++[(i:Int)] else Za5 ns ms i:=by
 have e:ns.getD i 0=n:=by rw [List.getD_eq_getElem?_getD,h];rfl
 unfold Za5
 rw [List.range_succ,List.filter_append,List.filter_cons,List.filter_nil,e]
 by_cases z:decide (n∈ms)=true
 ·rw [if_pos z,if_pos z,List.map_append]
  rfl
 ·rw [if_neg z,if_neg z,List.append_nil]
theorem ZiK (ns ms:List Int) (i:Nat):(Za5 ns ms i).length<=i:=by
 unfold Za5
 rw [List.length_map]
 exact Nat.le_trans (List.length_filter_le _ _) (by rw [List.length_range];exact Nat.le_refl _)
theorem putUp_mem {ns ms:List Int} {i:Nat} {x:Int}:x∈Za5 ns ms i↔∃ j:Nat,j<i/\ns.getD j 0∈ms/\x=(j:Int):=by
 unfold Za5
 constructor
 ·intro h
  obtain ⟨j,h1,rfl⟩:=List.mem_map.mp h
  obtain ⟨h2,h3⟩:=List.mem_filter.mp h1
  exact ⟨j,List.mem_range.mp h2,of_decide_eq_true h3,rfl⟩
 ·rintro ⟨j,h1,h2,rfl⟩
  exact List.mem_map.mpr ⟨j,List.mem_filter.mpr ⟨List.mem_range.mpr h1,decide_eq_true h2⟩,rfl⟩
def Zm7:Sp:=λvs H Q _=>∃ (ol rl:Addr) (ns ms:List Int),vs=[.ref ol,.ref rl]/\H ol=some (.lst (ns.map V.int))/\H rl=some (.lst (ms.map V.int))/\ns.length<=1000 /\
 ∀ (l:Addr) (H':Hp),Same H H'->H l=none->H' l=some (.lst ((Za5 ns ms ns.length).map V.int))->Q (.ref l) H'
theorem Zon:Zau ["order", "roads"] ["order", "roads"] (Zae Zlv):=⟨rfl,rfl,rfl,by decide +kernel,rfl,by decide +kernel,by decide +kernel⟩
theorem Zm8 {f:Addr} {fd:FuncData} (F:Fun K "put_into" "put_into" Zlv f fd) (mEnum:mg "enumerate" = none):ZaI P w K mg base CX0 1 f fd ["order", "roads"] Zm7:=by
 refine F.ok Zon (λvs H Q E h=>?_) (λcdv A outer s H vs Q E hr h=>?_)
 ·obtain ⟨_,_,_,_,rfl,_⟩:=h
  rfl
 ·obtain ⟨ol,rl,ns,ms,rfl,ho,hl,hx,q⟩:=h
  have h16:(16777216:Nat)=sizeLine:=sizeLine_eq.symm
  refine ⟨_,Zah (Zaw (ZaO (own:=["number", "old"]) rfl (Zaj (fr:=[("roads", 1)]) [(".0", .local),("number", .local),("old", .local),("roads", .cell)] rfl rfl (by decide +kernel) rfl (by decide +kernel) ⟨rfl,trivial⟩ ⟨λh=>ZaA h,λh=>ZaA h,λh=>ZaA h,λ_=>⟨_,rfl⟩,trivial⟩ ⟨⟨rfl,.inl rfl,.inl rfl⟩,trivial⟩) (Zk4 K rfl mEnum (Zaa (pv 0) Zac)) (λ_ _ _ _=>Zk0 K (n:=2) rfl (ZaP (Zao (i:=0) (show List.Nodup (["number", "old", "roads"]:List Str) by decide +kernel) rfl (Or.inl rfl)) (ZaP (Zao (i:=1) (show List.Nodup (["number", "old", "roads"]:List Str) by decide +kernel) rfl (Or.inl rfl)) Zca))) (λ_ _ _ _=>Za0 (Zar (kIn K) (pv 1) (pv 2) (by with_unfolding_all rfl))) (λ_ _ _ _=>pv 0))),?_⟩
  refine ⟨_,rfl,ol,ns.map V.int,rfl,SqL.of ho,λD hD=>?_⟩
  refine ZhY (K:=K) (a:=ol) (xs:=ns.map V.int) (λi ys H2=>Same H H2/\H2 D=some (.lst ys)/\ys=(Za5 ns ms i).map V.int) ⟨Same.new hD,Zab,rfl⟩ (λi ys H2 _ ⟨s2,_⟩=>SqL.of (s2 _ _ ho)) ?_ ?_
  ·rintro i x ys H2 T hxi ⟨s2,hD2,rfl⟩ hT
   rw [List.getElem?_map] at hxi
   cases z:ns[i]? with
   | none=>rw [z] at hxi;cases hxi
   | some n=>
    rw [z] at hxi
    cases hxi
    have hi:i<ns.length:=(List.getElem?_eq_some_iff.mp z).1
    have s3:Same H (upd H2 T (.tup [.int (i:Nat),.int n])):=s2.put (s2.free hT)
    have hDT:D≠T:=Zag hD2 hT
    refine ⟨T,_,rfl,SqT.of Zab,rfl,_,_,rfl,_,_,rfl,rfl,⟨rfl,trivial⟩,?_⟩
    refine ⟨_,rfl,_,rfl,rl,_,rfl,.inl (SqL.of (s3 _ _ hl)),rfl,Zbl _,_,rfl,?_⟩
    show if (inV (.int n) (ms.map V.int))=true then _ else _
    have sc:=Zhd ns ms i z
    rw [ZaU]
    refine Zfv (λz=>?_) (λz=>?_)
    ·rw [if_pos z] at sc
     refine ⟨_,rfl,Zal hD2 hDT,?_,s3.put hD,Zab,by rw [sc,List.map_append];rfl⟩
     rw [List.length_map]
     have:=ZiK ns ms i
     omega
    ·rw [if_neg z] at sc
     exact ⟨s3,Zal hD2 hDT,by rw [sc]⟩
  ·rintro ys H2 ⟨s2,hD2,rfl⟩
   rw [List.length_map] at hD2
   exact q D H2 s2 hD hD2
end
section
variable {P:Program} {w:World} {K:PySem.W.Frag} {mg:Str->Option Value} {base:Heap}
theorem Zm9 {k:Int} (h0:0<=k) (h1:k<=1000):Lt2 9000 k:=Nat.lt_of_lt_of_le (show k.natAbs<2 ^ 10 by omega) (Nat.pow_le_pow_right (by decide) (by decide))
def Zna:Sp:=λvs H Q _=>∃ (d:Addr) (n k:Int),vs=[.ref d,.int k]/\H d=some (.lst [.int n])/\1<=k/\k<=16/\∀ (t:Addr) (p q:Int) (H':Hp),Dk H H' d->H t=none->H' t=some (.tup [.int p,.int q])->(0<=p/\p<k)->(0<=q/\q<k)->Q (.ref t) H'
theorem scEnd:Zau ["deck", "places", "one"] ["deck", "places"] (Zae Zlx):=⟨rfl,rfl,rfl,by decide +kernel,rfl,by decide +kernel,by decide +kernel⟩
theorem Znb {f fT:Addr} {fd fdT:FuncData} (F:Fun K "_law_ends" "_law_ends" Zlx f fd) (FT:Fun K "_law_take" "_law_take" Zet fT fdT) (bT:Binds K fdT ["deck", "many"] []) (mT:mg "_law_take" = some (.ref fT)) (mMax:mg "max" = none):ZaI P w K mg base CX0 2 f fd ["deck", "places"] Zna:=by
 have GT:ZaI P w K mg base CX0 1 fT fdT ["deck", "many"] Zgu:=ZfT FT
 refine F.ok scEnd (λvs H Q E h=>?_) (λcdv A outer s H vs Q E hr h=>?_)
 ·obtain ⟨_,_,_,rfl,_⟩:=h
  rfl
 ·obtain ⟨d,n,k,rfl,hd,k0,k1,q⟩:=h
  refine ⟨_,Zad (Zav (i:=2) scEnd.nd rfl (Or.inl rfl) (Zak GT (hr.mono (by decide)) rfl mT FT.kp bT .nil ZaL (Zaa (pv 0) (Zaa (pv 1) Zac))))
    (Zah (Zaw (Zbn (Zaa (pv 2) (Zaa (Zaz ZdL (Zaz ZaW (Zaz ZaW (pv 2) Zai) (Zak GT (hr.mono (by decide)) rfl mT FT.kp bT .nil ZaL (Zaa (pv 0) (Zaa (Zax (ZhF rfl) rfl mMax ZjX (Zaa Zai (Zaa (Zaz Zhx (pv 1) Zai) Zac))) Zac)))) (pv 1)) Zac))))),?_⟩
  refine ⟨_,rfl,_,rfl,d,n,k,rfl,hd,by omega,Zm9 (by omega) (by omega),λn1 p p0 p1=>?_⟩
  have D1:=(Dk.start hd).take n1
  refine ⟨_,rfl,_,rfl,_,_,rfl,rfl,_,rfl,_,rfl,_,_,rfl,rfl,_,_,rfl,?_⟩
  have hm:0<(if k-1 > 1 then k-1 else 1)/\(if k-1 > 1 then k-1 else 1)<=1000:=by
   by_cases z:k-1 > 1
   ·rw [if_pos z];omega
   ·rw [if_neg z];omega
  refine ⟨d,n1,_,rfl,Zab,hm.1,Zm9 (by omega) hm.2,λn2 r r0 r1=>?_⟩
  have D2:=D1.take n2
  refine ⟨_,_,rfl,rfl,_,rfl,_,_,rfl,rfl,by omega,Zby,λt ht=>?_⟩
  refine q t p ((p+1+r) % k) _ (D2.new ht) (D2.free ht) Zab ⟨p0,p1⟩ ⟨Int.emod_nonneg _ (by omega),Int.emod_lt_of_pos _ (by omega)⟩
end
end M
namespace M
open PySem L2
def Zbv (p q:Int):Int×Int:=((if q<p then q else p),(if q > p then q else p))
theorem Zdb {ls:List (Int×Int)} (hlt:∀ r∈ls,r.1<r.2) (x y:Int):Zbv x y∈ls↔Adj ls x y:=ZmZ hlt x y
def hit (p:Int) (t:Int×Int):Nat:=(if t.1=p then 1 else 0)+(if t.2=p then 1 else 0)
theorem Znc (p x y:Int):hit p (Zbv x y)=hit p (x,y):=by
 unfold hit Zbv
 dsimp only
 by_cases h1:y<x
 ·rw [if_pos h1,if_neg (show ¬ y > x by omega)]
  exact Nat.add_comm _ _
 ·rw [if_neg h1]
  by_cases h2:y > x
  ·rw [if_pos h2]
  ·rw [if_neg h2,show x=y by omega]
def ZkC (p:Int) (ls:List (Int×Int)):Nat:=(ls.map (hit p)).sum
theorem ZiL {p:Int} {ls ms:List (Int×Int)} (h:ls.Perm ms):ZkC p ls=ZkC p ms:=(h.map (hit p)).sum_nat
theorem Ze9 (p:Int) (t:Int×Int) (ls:List (Int×Int)):ZkC p (t::ls)=hit p t+ZkC p ls:=by unfold ZkC;rw [List.map_cons,List.sum_cons]
def ZaN (ns:List Int):List (Int×Int):=(ns.zip (ns.drop 1)).map λt=>Zbv t.1 t.2
theorem ZaR (a b:Int) (tl:List Int):ZaN (a::b::tl)=Zbv a b::ZaN (b::tl):=rfl
def ZcT (p q:Int):Nat:=if p=q then 1 else 0
theorem ZdX (p:Int):∀ (tl:List Int) (a:Int),ZkC p (ZaN (a::tl))+ZcT a p+ZcT ((a::tl).getD tl.length 0) p=2 * (a::tl).count p
 | [],a=>by
  show 0+ZcT a p+ZcT a p=2 * List.count p [a]
  unfold ZcT
  by_cases h:a=p
  ·rw [if_pos h,h,List.count_singleton_self]
  ·rw [if_neg h,List.count_eq_zero_of_not_mem (λz=>h (List.mem_singleton.mp z).symm)]
 | b::tl,a=>by
  have ih:=ZdX p tl b
  rw [ZaR,Ze9,Znc]
  show hit p (a,b)+ZkC p (ZaN (b::tl))+ZcT a p+ZcT ((b::tl).getD tl.length 0) p=_
  rw [List.count_cons]
  have e1:hit p (a,b)=ZcT a p+ZcT b p:=rfl
  have e2:(if (a == p)=true then 1 else 0)=ZcT a p:=by
   unfold ZcT
   by_cases h:a=p
   ·rw [if_pos h,if_pos (by rw [h];exact beq_self_eq_true p)]
   ·rw [if_neg h,if_neg (by rw [beq_iff_eq];exact h)]
  rw [e1,e2]
  omega
inductive Wk:List (Int×Int)->Int->List Int->List (Int×Int)->Prop
 | stop {ls:List (Int×Int)} {p:Int}:(∀ q,¬ Adj ls p q)->Wk ls p [] ls
 | go {ls rest:List (Int×Int)} {p q:Int} {row:List Int}:Adj ls p q->(∀ q',Adj ls p q'->q<=q')->Wk (ls.erase (Zbv p q)) q row rest->Wk ls p (q::row) rest
theorem Wk.det {ls e1:List (Int×Int)} {p:Int} {r1:List Int} (h:Wk ls p r1 e1):∀ {r2:List Int} {e2:List (Int×Int)},Wk ls p r2 e2->r1=r2:=by
 induction h with
 | stop n=>
  intro r2 e2 k
  cases k with
  | stop _=>rfl
  | go a _ _=>exact absurd a (n _)
 | go a l w ih=>
  intro r2 e2 k
  cases k with
  | stop n=>exact absurd a (n _)
  | go a' l' w'=>
   have e:=Int.le_antisymm (l _ a') (l' _ a)
   subst e
   rw [ih w']
theorem Zj1 {ls:List (Int×Int)} {t:Int×Int} (hlt:∀ r∈ls,r.1<r.2):∀ r∈ls.erase t,r.1<r.2:=λr hr=>hlt r (List.mem_of_mem_erase hr)
theorem Zhe (a:Int) (tl:List Int):(ZaN (a::tl)).length=tl.length:=by
 unfold ZaN
 rw [List.length_map,List.length_zip,List.length_drop,List.length_cons]
 omega
def Zb2 (rs:List (Int×Int)) (ks:List Int):Prop:=ks.Pairwise (· < ·)/\∀ x∈ks,0<=x/\x<(rs.length:Int)
def road (rs:List (Int×Int)) (x:Int):Int×Int:=rs.getD x.toNat (0,0)
def cho (rs:List (Int×Int)) (ks:List Int) (i:Nat):List (Int×Int):=((List.range i).filter λ(j:Nat)=>decide ((j:Int)∈ks)).map λ(j:Nat)=>rs.getD j (0,0)
theorem ZlH {rs:List (Int×Int)} {ks:List Int} {t:Int×Int} (h:t∈cho rs ks rs.length):t∈rs:=by
 unfold cho at h
 obtain ⟨j,hj,rfl⟩:=List.mem_map.mp h
 exact ZcB (List.mem_range.mp (List.mem_filter.mp hj).1)
theorem Zgx {xs ys:List Int} (hx:xs.Pairwise (· < ·)) (hy:ys.Pairwise (· < ·)) (h:∀ z,z∈xs↔z∈ys):xs=ys:=by
 induction xs generalizing ys with
 | nil=>
  cases ys with
  | nil=>rfl
  | cons y ys=>exact absurd ((h y).mpr (List.mem_cons_self ..)) List.not_mem_nil
 | cons x xs ih=>
  cases ys with
  | nil=>exact absurd ((h x).mp (List.mem_cons_self ..)) List.not_mem_nil
  | cons y ys=>
   have hx':=List.pairwise_cons.mp hx
   have hy':=List.pairwise_cons.mp hy
   have e:x=y:=by
    rcases List.mem_cons.mp ((h x).mp (List.mem_cons_self ..)) with z | z
    ·exact z
    ·rcases List.mem_cons.mp ((h y).mpr (List.mem_cons_self ..)) with u | u
     ·exact u.symm
     ·have:=hy'.1 _ z
      have:=hx'.1 _ u
      omega
   subst e
   rw [ih hx'.2 hy'.2 λz=>⟨λhz=>?_,λhz=>?_⟩]
   ·rcases List.mem_cons.mp ((h z).mp (List.mem_cons_of_mem _ hz)) with u | u
    ·have:=hx'.1 _ hz;omega
    ·exact u
   ·rcases List.mem_cons.mp ((h z).mpr (List.mem_cons_of_mem _ hz)) with u | u
    ·have:=hy'.1 _ hz;omega
    ·exact u
theorem ZlI {rs:List (Int×Int)} {ks:List Int} (h:Zb2 rs ks):cho rs ks rs.length=ks.map (road rs):=by
 have e:((List.range rs.length).filter λ(j:Nat)=>decide ((j:Int)∈ks)).map (λ(j:Nat)=>(j:Int))=ks:=by
  refine Zgx ?_ h.1 λz=>?_
  ·rw [List.pairwise_map]
   exact (List.pairwise_lt_range.filter _).imp λhlt=>by omega
  ·rw [List.mem_map]
   constructor
   ·rintro ⟨j,hj,rfl⟩
    exact of_decide_eq_true (List.mem_filter.mp hj).2
   ·intro hz
    obtain ⟨z0,z1⟩:=h.2 z hz
    exact ⟨z.toNat,List.mem_filter.mpr ⟨List.mem_range.mpr (by omega),decide_eq_true (by rw [Int.toNat_of_nonneg z0];exact hz)⟩,Int.toNat_of_nonneg z0⟩
 unfold cho
 conv=>rhs;rw [<-e]
 rw [List.map_map]
 rfl
theorem Zj2 {k:Int} {rs:List (Int×Int)} (g:Zaf k rs) {t:Int×Int} (h:t∈rs) (p:Int):hit p t=if t.1=p\/t.2=p then 1 else 0:=by
 have:=g.2.2.2.1 t h
 unfold hit
 by_cases h1:t.1=p
 ·rw [if_pos h1,if_neg (by omega),if_pos (.inl h1)]
 ·rw [if_neg h1]
  by_cases h2:t.2=p
  ·rw [if_pos h2,if_pos (.inr h2)]
  ·rw [if_neg h2,if_neg (λz=>z.elim h1 h2)]
def ZlJ (rs:List (Int×Int)) (ks:List Int) (p:Int):Nat:=(ks.filter λx=>decide ((road rs x).1=p\/(road rs x).2=p)).length
theorem Zeu {rs:List (Int×Int)} {x:Int} (h:0<=x/\x<(rs.length:Int)):road rs x∈rs:=ZcB (by omega)
theorem Zfa {k:Int} {rs:List (Int×Int)} (g:Zaf k rs) (p:Int):∀ {ks:List Int},(∀ x∈ks,0<=x/\x<(rs.length:Int))->ZlJ rs ks p=ZkC p (ks.map (road rs))
 | [],_=>rfl
 | x::ks,h=>by
  have ih:=Zfa g p (ks:=ks) λy hy=>h y (List.mem_cons_of_mem _ hy)
  have hx:=Zj2 g (Zeu (h x (List.mem_cons_self ..))) p
  rw [List.map_cons,Ze9,<-ih,hx]
  unfold ZlJ
  rw [List.filter_cons]
  by_cases z:(road rs x).1=p\/(road rs x).2=p
  ·rw [if_pos (decide_eq_true z),if_pos z,List.length_cons,Nat.add_comm]
  ·rw [if_neg (by rw [decide_eq_false z];decide),if_neg z,Nat.zero_add]
theorem ZlK {rs:List (Int×Int)} {p q:Int} {x:Int} (m:Mt rs p q x.toNat) (hlt:(road rs x).1<(road rs x).2):road rs x=Zbv p q:=by
 unfold road at hlt ⊢
 unfold Zbv
 rcases m with e | e
 ·rw [e] at hlt ⊢
  dsimp only at hlt
  rw [if_neg (by omega),if_pos (by omega)]
 ·rw [e] at hlt ⊢
  dsimp only at hlt
  rw [if_pos (by omega),if_neg (by omega)]
theorem ZcD {k:Int} {rs:List (Int×Int)} (g:Zaf k rs) {t:Int×Int} (a:Adj rs t.1 t.2):(0<=Zfm rs t/\Zfm rs t<(rs.length:Int))/\road rs (Zfm rs t)=Zbv t.1 t.2:=by
 obtain ⟨j,hj,m⟩:=Zkz a
 rw [ZiI g hj m]
 have hr:0<=(j:Int)/\(j:Int)<(rs.length:Int):=by omega
 refine ⟨hr,ZlK ?_ (g.2.2.2.1 _ (Zeu hr)).2.1⟩
 rw [Int.toNat_natCast]
 exact m
theorem Zgy {k:Int} {rs:List (Int×Int)} (g:Zaf k rs) {x y:Int} (hx:0<=x/\x<(rs.length:Int)) (hy:0<=y/\y<(rs.length:Int)) (e:road rs x=road rs y):x=y:=by
 have:=ZcC g.2.2.2.2 (i:=x.toNat) (j:=y.toNat) (by omega) (by omega) e
 omega
theorem Zfb {k:Int} {rs:List (Int×Int)} (g:Zaf k rs) {xs ys:List Int} (hx:∀ x∈xs,0<=x/\x<(rs.length:Int)) (hy:∀ y∈ys,0<=y/\y<(rs.length:Int)) (p:(xs.map (road rs)).Perm (ys.map (road rs))):xs.Perm ys:=by
 induction xs generalizing ys with
 | nil=>
  have:=p.length_eq
  rw [List.length_map,List.length_map] at this
  cases ys with
  | nil=>exact .nil
  | cons y ys=>simp at this
 | cons x xs ih=>
  rw [List.map_cons] at p
  have hm:road rs x∈ys.map (road rs):=p.mem_iff.mp (List.mem_cons_self ..)
  obtain ⟨y,hym,e⟩:=List.mem_map.mp hm
  have exy:=Zgy g (hx x (List.mem_cons_self ..)) (hy y hym) e.symm
  subst exy
  have p2:=List.perm_cons_erase hym
  have p3:(xs.map (road rs)).Perm ((ys.erase x).map (road rs)):=by
   have:=p.trans (p2.map (road rs))
   rw [List.map_cons] at this
   exact this.cons_inv
  exact ((ih (λz hz=>hx z (List.mem_cons_of_mem _ hz)) (λz hz=>hy z (List.mem_of_mem_erase hz)) p3).cons x).trans p2.symm
theorem Zb1 {k:Int} {rs:List (Int×Int)} (g:Zaf k rs):∀ {ts:List (Int×Int)},(∀ t∈ts,Adj rs t.1 t.2)->(ts.map (Zfm rs)).map (road rs)=ts.map λt=>Zbv t.1 t.2
 | [],_=>rfl
 | t::ts,h=>by
  rw [List.map_cons,List.map_cons,List.map_cons,(ZcD g (h t (List.mem_cons_self ..))).2,Zb1 g λu hu=>h u (List.mem_cons_of_mem _ hu)]
theorem Zhf {ms:List Int} (h:ms.Pairwise (· <= ·)) (nd:ms.Nodup):ms.Pairwise (· < ·):=(h.and nd).imp λh=>by have:=h.1;have:=h.2;omega
theorem Zev {k:Int} {rs:List (Int×Int)} (g:Zaf k rs) {ns ms:List Int} {c:Bool} (o:Zc1 rs ns c) (hc:c=true->3<=ns.length) (pm:ms.Perm ((Zan ns c).map (Zfm rs))) (so:ms.Pairwise (· <= ·)):Zb2 rs ms:=by
 have nd:((Zan ns c).map (Zfm rs)).Nodup:=by
  unfold List.Nodup
  rw [List.pairwise_map]
  refine (Zhb o.2 hc).imp_of_mem λ{t u} ht hu h e=>h ?_
  have rt:=ZcD g (o.1 t ht)
  have ru:=ZcD g (o.1 u hu)
  have e2:Zbv t.1 t.2=Zbv u.1 u.2:=by rw [<-rt.2,<-ru.2,e]
  unfold Zbv at e2
  have e3:=Prod.mk.inj e2
  obtain ⟨t1,t2⟩:=t
  obtain ⟨u1,u2⟩:=u
  dsimp only at e3 ⊢
  rw [Prod.mk.injEq,Prod.mk.injEq]
  split at e3 <;> split at e3 <;> split at e3 <;> split at e3 <;> omega
 refine ⟨Zhf so (pm.nodup_iff.mpr nd),λx hx=>?_⟩
 obtain ⟨t,ht,rfl⟩:=List.mem_map.mp (pm.mem_iff.mp hx)
 exact (ZcD g (o.1 t ht)).1
end M
namespace M
open PySem L2
theorem Znd {k:Int} {rs:List (Int×Int)} (g:Zaf k rs) (ks:List Int):∀ r∈cho rs ks rs.length,r.1<r.2:=λr hr=>(g.2.2.2.1 r (ZlH hr)).2.1
theorem ZlL {ls rs:List (Int×Int)} (h:∀ r∈ls,r∈rs) {p q:Int} (a:Adj ls p q):Adj rs p q:=a.elim (λz=>.inl (h _ z)) λz=>.inr (h _ z)
theorem ZlM {ls:List (Int×Int)} {p q:Int} (a:Adj ls p q):Adj ls q p:=a.elim .inr .inl
theorem ZbM (ns:List Int):ZaN ns=(Zan ns false).map λt=>Zbv t.1 t.2:=by
 unfold ZaN Zan
 rw [if_neg Bool.false_ne_true,List.append_nil]
def Zo2 (rs:List (Int×Int)) (ks:List Int) (k one other:Int):Prop:=∀ p,0<=p->p<k->if p=one\/p=other then ZlJ rs ks p=1 else ZlJ rs ks p=0\/ZlJ rs ks p=2
theorem ZlN {k:Int} {rs:List (Int×Int)} {ns ks ms:List Int} {c:Bool} (g:Zaf k rs) (S:Zb2 rs ks) (o:Zc1 rs ns c) (hc:c=true->3<=ns.length) (h:(ks.map (road rs)).Perm ((Zan ns c).map λt=>Zbv t.1 t.2)) (pm:ms.Perm ((Zan ns c).map (Zfm rs))) (so:ms.Pairwise (· <= ·)):ms=ks:=by
 have T:=Zev g o hc pm so
 have p1:(ms.map (road rs)).Perm (ks.map (road rs)):=by
  have:=pm.map (road rs)
  rw [Zb1 g o.1] at this
  exact this.trans h.symm
 have p2:=Zfb g T.2 S.2 p1
 exact Zgx T.1 S.1 λz=>p2.mem_iff
theorem Zj3 (a:Int) (tl:List Int):(a::tl).getD tl.length 0∈a::tl:=ZcA (by rw [List.length_cons];omega)
theorem Zj4 {k:Int} {rs:List (Int×Int)} {ks tl ms:List Int} {one other:Int} (g:Zaf k rs) (E:Ends k one other) (W:Way rs one other (one::tl)) (pm:ms.Perm ((Zan (one::tl) false).map (Zfm rs))) (so:ms.Pairwise (· <= ·)) (e:ms=ks) :
  Zb2 rs ks/\Zo2 rs ks k one other/\tl.length=ks.length:=by
 subst e
 have o:=W.2.2.2
 have S:=Zev g o (λz=>absurd z Bool.false_ne_true) pm so
 have lo:(one::tl).getD tl.length 0=other:=W.2.2.1
 have hp:(ms.map (road rs)).Perm (ZaN (one::tl)):=by
  have:=pm.map (road rs)
  rw [Zb1 g o.1,<-ZbM] at this
  exact this
 refine ⟨S,λp p0 p1=>?_,?_⟩
 ·have dg:=ZdX p tl one
  rw [lo,<-ZiL hp,<-Zfa g p S.2,o.2.count] at dg
  have s1:∀ p,ZcT p p=1:=λp=>if_pos rfl
  have s0:∀ p q,p≠q->ZcT p q=0:=λp q h=>if_neg h
  have hne:=E.2.2
  by_cases z:p=one\/p=other
  ·rw [if_pos z]
   rcases z with z | z
   ·rw [z,s1,s0 _ _ (Ne.symm hne),if_pos (List.mem_cons_self ..)] at dg
    rw [z]
    omega
   ·rw [z,s1,s0 _ _ hne,if_pos (by rw [<-lo];exact Zj3 one tl)] at dg
    rw [z]
    omega
  ·rw [if_neg z]
   rw [s0 _ _ (λy=>z (.inl y.symm)),s0 _ _ (λy=>z (.inr y.symm))] at dg
   split at dg <;> omega
 ·rw [pm.length_eq,List.length_map,<-Zhe one tl,ZbM,List.length_map]
theorem Zew:∀ (tl:List Int) (a x:Int),(a::(tl++[x])).zip (tl++[x])=(a::tl).zip tl++[((a::tl).getD tl.length 0,x)]
 | [],a,x=>rfl
 | b::tl,a,x=>by
  have ih:=Zew tl b x
  show (a,b)::(b::(tl++[x])).zip (tl++[x])=_
  rw [ih]
  rfl
theorem Zfc (s:Int) (tl:List Int):(Zan (s::tl) true).map (λt=>Zbv t.1 t.2)=ZaN (s::(tl++[s])):=by
 unfold ZaN Zan
 rw [if_pos rfl]
 show _=((s::(tl++[s])).zip (tl++[s])).map _
 rw [Zew]
 rfl
def ZpY (rs:List (Int×Int)) (ks:List Int) (k:Int):Prop:=∀ p,0<=p->p<k->ZlJ rs ks p=0\/ZlJ rs ks p=2
def Zo3 (ls:List (Int×Int)) (s:Int):Prop:=(∀ t∈ls,s<=t.1)/\∃ t∈ls,t.1=s
end M
namespace M
open PySem L2
section
variable {P:Program} {w:World} {K:PySem.W.Frag} {mg:Str->Option Value} {base:Heap}
end
end M
namespace M
open PySem L2
section
variable {P:Program} {w:World} {K:PySem.W.Frag} {mg:Str->Option Value} {base:Heap}
def Zne (rs:List (Int×Int)) (ks:List Int) (k p q:Int) (tl:List Int):Prop:=Zb2 rs ks/\Zo2 rs ks k p q/\tl.length=ks.length
def Zoo (rs:List (Int×Int)) (ks:List Int) (k:Int) (tl:List Int):Prop:=Zb2 rs ks/\3<=ks.length/\ZpY rs ks k/\tl.length=ks.length
end
end M
namespace M
open PySem L2
theorem nodup_range:∀ {k:Nat} {ns:List Int},ns.Nodup->(∀ x∈ns,0<=x/\x<(k:Int))->ns.length<=k
 | 0,ns,_,h=>by
  cases ns with
  | nil=>exact Nat.le_refl _
  | cons a r=>have:=h a (List.mem_cons_self);omega
 | k+1,ns,nd,h=>by
  by_cases z:((k:Nat):Int)∈ns
  ·have hl:=List.length_erase_of_mem z
   have hp:0<ns.length:=List.length_pos_of_mem z
   have ih:=nodup_range (k:=k) (ns:=ns.erase ((k:Nat):Int)) (nd.erase _) λx hx=>by
    have h1:=(List.Nodup.mem_erase_iff nd).mp hx
    have h2:=h x h1.2
    have h3:=h1.1
    omega
   omega
  ·have ih:=nodup_range (k:=k) nd λx hx=>by
    have h2:=h x hx
    have h3:x≠((k:Nat):Int):=λe=>z (e▸hx)
    omega
   omega
theorem ZiM {k:Int} {rs:List (Int×Int)} (g:Zaf k rs) {p m:Int}:m∈Zhm rs p↔Adj rs p m:=by
 unfold Zhm Adj
 constructor
 ·intro h
  obtain ⟨r,h1,e⟩:=List.mem_map.mp h
  obtain ⟨h2,h3⟩:=List.mem_filter.mp h1
  have h4:=of_decide_eq_true h3
  obtain ⟨r1,r2⟩:=r
  dsimp only at h4 e
  rcases h4 with h4 | h4
  ·subst h4
   exact .inl (by rw [<-e,show r1+r2-r1=r2 by omega];exact h2)
  ·subst h4
   exact .inr (by rw [<-e,show r1+r2-r2=r1 by omega];exact h2)
 ·rintro (h | h)
  ·exact List.mem_map.mpr ⟨(p,m),List.mem_filter.mpr ⟨h,decide_eq_true (.inl rfl)⟩,by show p+m-p=m;omega⟩
  ·exact List.mem_map.mpr ⟨(m,p),List.mem_filter.mpr ⟨h,decide_eq_true (.inr rfl)⟩,by show m+p-p=m;omega⟩
section
variable {P:Program} {w:World} {K:PySem.W.Frag} {mg:Str->Option Value} {base:Heap}
def LinksAt (H:Hp) (lk:Addr) (k:Int) (rs:List (Int×Int)):Prop:=∃ bl:List Addr,H lk=some (.lst (bl.map V.ref))/\bl.length=k.toNat/\∀ (i:Nat) (a:Addr),bl[i]?=some a->∃ ns:List Int,H a=some (.lst (ns.map V.int))/\ns.Nodup/\∀ m,m∈ns↔Adj rs (i:Int) m
theorem LinksAt.same {H H':Hp} {lk:Addr} {k:Int} {rs:List (Int×Int)} (h:LinksAt H lk k rs) (s:Same H H'):LinksAt H' lk k rs:=by
 obtain ⟨bl,e,l,hb⟩:=h
 exact ⟨bl,s _ _ e,l,λi a ha=>(hb i a ha).elim λns h=>⟨ns,s _ _ h.1,h.2⟩⟩
def kvF (F:List Int):List (Key×V):=F.map λx=>(Sum.inl x,V.bl true)
theorem Zex (F:List Int) (p:Int):(ZbT (kvF F) (.inl p)).isSome=decide (p∈F):=by
 rw [<-ZbU]
 unfold kvF
 rw [List.any_map]
 by_cases z:p∈F
 ·rw [decide_eq_true z]
  exact List.any_eq_true.mpr ⟨p,z,by simp⟩
 ·rw [decide_eq_false z]
  refine List.any_eq_false.mpr λy hy e=>z ?_
  have e1:(Sum.inl y:Key)=Sum.inl p:=of_decide_eq_true e
  cases e1
  exact hy
theorem Zj5 (F:List Int):(kvF F).map (·.1)=F.map Sum.inl:=by
 unfold kvF
 rw [List.map_map]
 rfl
theorem ZiN {F:List Int} {p:Int} (h:p ∉ F):Zc7 (kvF F) (.inl p) (.bl true)=kvF (F++[p]):=by
 have hn:ZbT (kvF F) (.inl p)=none:=by
  have:=Zex F p
  rw [decide_eq_false h] at this
  cases z:ZbT (kvF F) (.inl p) with
  | none=>rfl
  | some v=>rw [z] at this;cases this
 rw [Zji _ hn]
 unfold kvF
 rw [List.map_append]
 rfl
def Znf:Sp:=λvs H Q _=>∃ (lk gl:Addr) (k st:Int) (rs:List (Int×Int)) (gn:List Int),vs=[.ref lk,.int st,.ref gl]/\Zaf k rs/\LinksAt H lk k rs/\H gl=some (.lst (gn.map V.int))/\(0<=st/\st<k) /\
 ∀ (d:Addr) (F:List Int) (H':Hp),Same H H'->H d=none->H' d=some (.dK (kvF F))->F.Nodup->F.length<=16->st∈F->(∀ x∈F,x=st\/x ∉ gn)->(∀ x∈F,∀ z,Adj rs x z->z ∉ gn->z∈F)->Q (.ref d) H'
theorem scRea:Zau ["links", "start", "gone", "found", "pending", "here", "place"] ["links", "start", "gone"] (Zae ZiG):=⟨rfl,rfl,rfl,by decide +kernel,rfl,by decide +kernel,by decide +kernel⟩
structure ReaI (k:Int) (rs:List (Int×Int)) (st:Int) (gn F pd:List Int):Prop where
 nd:F.Nodup
 ir:∀ x∈F,0<=x/\x<k
 ng:∀ x∈F,x=st\/x ∉ gn
 me:st∈F
 sb:∀ x∈pd,x∈F
theorem ReaI.len {k:Int} {rs:List (Int×Int)} {st:Int} {gn F pd:List Int} (h:ReaI k rs st gn F pd):F.length<=k.toNat:=by
 exact nodup_range (k:=k.toNat) h.nd λx hx=>by have:=h.ir x hx;omega
theorem Zng {f:Addr} {fd:FuncData} (F:Fun K "reached" "reached" ZiG f fd):ZaI P w K mg base CX0 1 f fd ["links", "start", "gone"] Znf:=by
 refine F.ok scRea (λvs H Q E h=>?_) (λcdv A outer s H vs Q E hr h=>?_)
 ·obtain ⟨_,_,_,_,_,_,rfl,_⟩:=h
  rfl
 ·obtain ⟨lk,gl,k,st,rs,gn,rfl,g,L,hgl,hst,q⟩:=h
  have hu1:(A.deeper (PyProof.Rows.envOfC "reached" (Zae ZiG) s.heap.objs.size f cdv)).units+1<cLine:=by have:=hr.un;omega
  have h16:(16777216:Nat)=sizeLine:=sizeLine_eq.symm
  have g1:=g.1
  have g2:=g.2.1
  refine ⟨_,Zad (Zav (i:=3) scRea.nd rfl (Or.inl rfl) (Zh6 (Zgf (pv 1) ZbB Zh5) rfl rfl (by decide) (by decide)))
    (Zad (Zav (i:=4) scRea.nd rfl (Or.inl rfl) (ZaX (Zaa (pv 1) Zac)))
    (Zad (Zd2 PassesOwn.never (Zd4 (pv 4) (λ_=>rfl))
    (Zad (Zav (i:=5) scRea.nd rfl (Or.inl rfl) (ZhM PySem.F.plainAttrs_list PySem.F.slot_list_pop PySem.F.type_list_pop ZhO (pv 4)))
    (Zah (Zci PassesOwn.never rfl (ZbA K (ZaJ (ZhT K) (pv 0) (pv 5) (λ_ _=>rfl))) (Zao (i:=6) scRea.nd rfl (Or.inl rfl))
    (Zah (Zbb (PW.pt (ZeC (Zht (ZeV hu1 (pv 6) (pv 3)) rfl) (Zdg (Zar (ZeQ K) (pv 6) (pv 2) (by with_unfolding_all rfl))))) (Zad (Zea hu1 (pv 3) (pv 6) ZbB rfl)
    (Zah (Za6 (Zdj PySem.F.plainAttrs_list PySem.F.slot_list_append PySem.F.type_list_append ZaY (pv 4) (Zaa (pv 6) Zac))))) ZaC))))))
    (Zah (Zaw (pv 3))))),?_⟩
  refine λd hd=>⟨_,rfl,Zab,[(Sum.inl st,.bl true)],rfl,by show 1<=15;decide,?_⟩
  have s1:Same H (upd (upd H d (.dK [])) d (.dK (ZbH [] [(Sum.inl st,.bl true)]))):=(Same.new hd).put hd
  have e1:upd (upd H d (.dK [])) d (.dK (ZbH [] [(Sum.inl st,.bl true)])) d=some (.dK (kvF [st])):=by rw [Zab];rfl
  generalize upd (upd H d (.dK [])) d (.dK (ZbH [] [(Sum.inl st,.bl true)]))=H1 at s1 e1 ⊢
  refine ⟨_,rfl,(by show 1<=sizeLine;decide),λpn hpn=>?_⟩
  have hdp:d≠pn:=Zag e1 hpn
  have hpn0:=s1.free hpn
  refine ⟨λm σ H2=>∃ (v5 v6:Option V) (F pd:List Int),σ=[some (.ref lk),some (.int st),some (.ref gl),some (.ref d),some (.ref pn),v5,v6]/\Same H H2/\H2 d=some (.dK (kvF F))/\H2 pn=some (.lst (pd.map V.int))/\ReaI k rs st gn F pd/\(∀ y∈F,y ∉ pd->∀ z,Adj rs y z->z ∉ gn->z∈F)/\2 * (k.toNat-F.length)+pd.length<=33/\m=2 * (k.toNat-F.length)+pd.length,⟨_,none,none,[st],[st],rfl,s1.put hpn0,Zal e1 hdp,Zab,⟨List.nodup_cons.mpr ⟨List.not_mem_nil,List.nodup_nil⟩,λx hx=>(by rw [List.mem_singleton] at hx;rw [hx];exact hst),λx hx=>.inl (List.mem_singleton.mp hx),List.mem_singleton.mpr rfl,λx hx=>hx⟩,λy hy hn=>absurd hy hn,(by show 2 * (k.toNat-1)+1<=33;omega),rfl⟩,?_⟩
  rintro m σ H2 ⟨v5,v6,F,pd,rfl,s2,ed,ep,I,cl,m33,rfl⟩
  refine ⟨_,rfl,_,.inl ⟨_,SqL.of ep,rfl⟩,?_⟩
  cases hpd:pd.isEmpty with
  | true=>
   have e:pd=[]:=List.isEmpty_iff.mp hpd
   subst e
   refine Zbo ?_
   exact ⟨_,rfl,q d F H2 s2 hd ed I.nd (by have:=I.len;omega) I.me I.ng λx hx z hz hn=>cl x hx (λz=>by cases z) z hz hn⟩
  | false=>
   have hne:pd≠[]:=λe=>by rw [e] at hpd;cases hpd
   have hpos:0<pd.length:=List.length_pos_iff.mpr hne
   have et:(!(pd.map V.int).isEmpty)=true:=by
    cases pd with
    | nil=>exact absurd rfl hne
    | cons _ _=>rfl
   rw [et]
   refine Zbz ?_
   refine ⟨λσ' H'=>∃ m',m'<2 * (k.toNat-F.length)+pd.length/\∃ (v5 v6:Option V) (F pd:List Int),σ'=[some (.ref lk),some (.int st),some (.ref gl),some (.ref d),some (.ref pn),v5,v6]/\Same H H'/\H' d=some (.dK (kvF F))/\H' pn=some (.lst (pd.map V.int))/\ReaI k rs st gn F pd/\(∀ y∈F,y ∉ pd->∀ z,Adj rs y z->z ∉ gn->z∈F)/\2 * (k.toNat-F.length)+pd.length<=33/\m'=2 * (k.toNat-F.length)+pd.length,λσ' H' h=>h,?_⟩
   have hx:(pd.map V.int)[(pd.map V.int).length-1]?=some (.int (pd.getD (pd.length-1) 0)):=by
    rw [List.length_map,List.getElem?_map,List.getElem?_eq_getElem (show pd.length-1<pd.length by omega),ZaM (show pd.length-1<pd.length by omega)]
    rfl
   refine ⟨_,rfl,.inl ⟨rfl,_,SqL.of ep⟩,pn,_,_,rfl,rfl,ep,hx,?_⟩
   have hmem:pd.getD (pd.length-1) 0∈pd:=ZcA (by omega)
   have hin:=I.ir _ (I.sb _ hmem)
   have s3:=s2.put (o:=.lst (pd.map V.int).dropLast) hpn0
   have ed3:upd H2 pn (.lst (pd.map V.int).dropLast) d=some (.dK (kvF F)):=Zal ed hdp
   have ep3:upd H2 pn (.lst (pd.map V.int).dropLast) pn=some (.lst (pd.dropLast.map V.int)):=by rw [Zab,List.map_dropLast]
   generalize upd H2 pn (.lst (pd.map V.int).dropLast)=H3 at s3 ed3 ep3 ⊢
   have split:∀ y∈pd,y∈pd.dropLast\/y=pd.getD (pd.length-1) 0:=λy hy=>by
    have e:=List.dropLast_concat_getLast hne
    rw [<-e] at hy
    rcases List.mem_append.mp hy with h | h
    ·exact .inl h
    ·refine .inr ?_
     rw [List.mem_singleton] at h
     rw [h,List.getLast_eq_getElem,ZaM (show pd.length-1<pd.length by omega)]
   have ldrop:pd.dropLast.length=pd.length-1:=List.length_dropLast ..
   generalize pd.getD (pd.length-1) 0=he at hmem hin split ⊢
   obtain ⟨bl,el,bll,hb⟩:=L
   have hbi:bl[he.toNat]?=some (bl[he.toNat]'(by omega)):=List.getElem?_eq_getElem (by omega)
   generalize bl[he.toNat]'(by omega)=na at hbi
   obtain ⟨nb,enb,ndb,hnb⟩:=hb _ _ hbi
   have hee:((he.toNat:Nat):Int)=he:=by omega
   rw [hee] at hnb
   have hat:atI (bl.map V.ref) he=some (.ref na):=by
    have:=Zas (xs:=bl.map V.ref) (j:=he.toNat) (by rw [List.getElem?_map,hbi];rfl)
    rw [hee] at this
    exact this
   refine ⟨_,rfl,_,rfl,lk,_,_,_,rfl,rfl,SqL.of (s3 _ _ el),hat,na,rfl,⟨_,SqL.of (s3 _ _ enb)⟩,?_⟩
   have heF:=I.sb _ hmem
   refine Zd3 (K:=K) (a:=na) (xs:=nb.map V.int) (λi σ H4=>∃ (v6:Option V) (F' pd':List Int),σ=[some (.ref lk),some (.int st),some (.ref gl),some (.ref d),some (.ref pn),some (.int he),v6]/\Same H H4/\H4 d=some (.dK (kvF F'))/\H4 pn=some (.lst (pd'.map V.int))/\ReaI k rs st gn F' pd'/\he∈F'/\(∀ y∈F',y ∉ pd'->y≠he->∀ z,Adj rs y z->z ∉ gn->z∈F')/\(∀ (j:Nat) (x:Int),j<i->nb[j]?=some x->x ∉ gn->x∈F')/\2 * (k.toNat-F'.length)+pd'.length+1<=2 * (k.toNat-F.length)+pd.length)
    ⟨_,F,pd.dropLast,rfl,s3,ed3,ep3,⟨I.nd,I.ir,I.ng,I.me,λx hx=>I.sb x (List.dropLast_subset _ hx)⟩,heF,λy hy hn hne' z hz hg=>cl y hy (λhp=>(split y hp).elim hn hne') z hz hg,λj x hj=>absurd hj (Nat.not_lt_zero j),by omega⟩ (λi σ H4 _ ⟨_,_,_,_,s4,_⟩=>SqL.of (s4 _ _ enb)) ?_ ?_
   ·rintro i x σ H4 hxi ⟨w6,F',pd',rfl,s4,ed4,ep4,I4,he4,cl4,in4,me4⟩
    rw [List.getElem?_map] at hxi
    cases hz:nb[i]? with
    | none=>rw [hz] at hxi;cases hxi
    | some p=>
     rw [hz] at hxi
     cases hxi
     have hadj:Adj rs he p:=(hnb p).mp (List.mem_of_getElem? hz)
     refine ⟨_,rfl,_,rfl,d,_,rfl,DGet.k (k:=.inl p) ed4,_,rfl,?_⟩
     rw [Zex]
     have upto:(p ∉ gn->p∈F')->∀ (j:Nat) (x:Int),j<i+1->nb[j]?=some x->x ∉ gn->x∈F':=λhp j x hj hx hg=>by
      rcases Nat.lt_or_ge j i with h | h
      ·exact in4 j x h hx hg
      ·have e:j=i:=by omega
       subst e
       rw [hz] at hx
       cases hx
       exact hp hg
     refine Zfv (λzz=>?_) (λzz=>?_)
     ·have hnot:p ∉ F':=λhp=>by rw [decide_eq_true hp] at zz;cases zz
      refine ⟨_,rfl,_,rfl,gl,_,rfl,.inl (SqL.of (s4 _ _ hgl)),rfl,Zbl _,_,rfl,?_⟩
      show if (!inV (.int p) (gn.map V.int))=true then _ else _
      rw [ZaU]
      by_cases hpg:p∈gn
      ·rw [decide_eq_true hpg]
       refine Zbo ?_
       exact ⟨_,F',pd',rfl,s4,ed4,ep4,I4,he4,cl4,upto (λz=>absurd hpg z),me4⟩
      rw [decide_eq_false hpg]
      refine Zbz ?_
      have l4:=I4.len
      have I5:ReaI k rs st gn (F'++[p]) (pd'++[p]):=by
       refine ⟨List.nodup_append.mpr ⟨I4.nd,List.nodup_cons.mpr ⟨List.not_mem_nil,List.nodup_nil⟩,λa ha b hb e=>?_⟩,λx hx=>?_,λx hx=>?_,List.mem_append_left _ I4.me,λx hx=>?_⟩
       ·rw [List.mem_singleton] at hb
        exact hnot (hb▸e▸ha)
       ·rcases List.mem_append.mp hx with h | h
        ·exact I4.ir x h
        ·rw [List.mem_singleton] at h
         rw [h]
         exact Zdv g hadj
       ·rcases List.mem_append.mp hx with h | h
        ·exact I4.ng x h
        ·rw [List.mem_singleton] at h
         rw [h]
         exact .inr hpg
       ·rcases List.mem_append.mp hx with h | h
        ·exact List.mem_append_left _ (I4.sb x h)
        ·exact List.mem_append_right _ h
      have l5:=I5.len
      rw [List.length_append,List.length_singleton] at l5
      have lk4:(kvF F').length=F'.length:=List.length_map ..
      refine ⟨_,rfl,_,rfl,d,_,rfl,DPut.k (k:=.inl p) ed4 (by omega),?_⟩
      rw [ZiN hnot]
      have ep5:upd H4 d (.dK (kvF (F'++[p]))) pn=some (.lst (pd'.map V.int)):=Zal ep4 (Ne.symm hdp)
      have lpd:pd'.length<=1000:=by omega
      refine ⟨_,rfl,.inl ⟨rfl,_,SqL.of ep5⟩,_,rfl,pn,_,_,rfl,rfl,ep5,by rw [List.length_map];omega,?_⟩
      refine ⟨_,F'++[p],pd'++[p],rfl,(s4.put hd).put hpn0,Zal Zab hdp,by rw [Zab,List.map_append];rfl,I5,List.mem_append_left _ he4,λy hy hn hne' z hz' hg=>?_,λj x hj hx hg=>?_,?_⟩
      ·have hyp:y≠p:=λe=>hn (List.mem_append_right _ (List.mem_singleton.mpr e))
       have hyF:y∈F':=(List.mem_append.mp hy).elim id λh=>absurd (List.mem_singleton.mp h) hyp
       exact List.mem_append_left _ (cl4 y hyF (λh=>hn (List.mem_append_left _ h)) hne' z hz' hg)
      ·rcases Nat.lt_or_ge j i with h | h
       ·exact List.mem_append_left _ (in4 j x h hx hg)
       ·have e:j=i:=by omega
        subst e
        rw [hz] at hx
        cases hx
        exact List.mem_append_right _ (List.mem_singleton.mpr rfl)
      ·rw [List.length_append,List.length_append,List.length_singleton]
       omega
     ·have hp:p∈F':=by
       by_cases h:p∈F'
       ·exact h
       ·rw [decide_eq_false h] at zz;exact absurd rfl zz
      refine Zbo ?_
      exact ⟨_,F',pd',rfl,s4,ed4,ep4,I4,he4,cl4,upto (λ_=>hp),me4⟩
   ·rintro σ H4 ⟨w6,F',pd',rfl,s4,ed4,ep4,I4,he4,cl4,in4,me4⟩
    rw [List.length_map] at in4
    refine ⟨_,?_,_,_,F',pd',rfl,s4,ed4,ep4,I4,λy hy hn z hz hg=>?_,by omega,rfl⟩
    ·omega
    ·by_cases e:y=he
     ·subst e
      obtain ⟨j,hj,ej⟩:=List.getElem_of_mem ((hnb z).mpr hz)
      exact in4 j z hj (by rw [List.getElem?_eq_getElem hj,ej]) hg
     ·exact cl4 y hy hn e z hz hg
end
end M
namespace M
open PySem L2
section
inductive Conn (rs:List (Int×Int)) (a:Int):Int->Prop
 | refl:Conn rs a a
 | step {b c:Int}:Conn rs a b->Adj rs b c->Conn rs a c
theorem Conn.trans {rs:List (Int×Int)} {a b c:Int} (h1:Conn rs a b) (h2:Conn rs b c):Conn rs a c:=by
 induction h2 with
 | refl=>exact h1
 | step _ hs ih=>exact .step ih hs
theorem Conn.one {rs:List (Int×Int)} {a b:Int} (h:Adj rs a b):Conn rs a b:=.step .refl h
theorem Conn.inr {k:Int} {rs:List (Int×Int)} (g:Zaf k rs) {a b:Int} (ha:0<=a/\a<k) (h:Conn rs a b):0<=b/\b<k:=by
 cases h with
 | refl=>exact ha
 | step _ hs=>exact Zdv g hs
def Zop (rs:List (Int×Int)):Nat->Int->Int->Prop
 | 0,v,u=>v=u
 | t+1,v,u=>v=u\/∃ x,Adj rs v x/\Zop rs t x u
def Chn (rs:List (Int×Int)):List Int->Prop
 | []=>True
 | [_]=>True
 | a::b::r=>Adj rs a b/\Chn rs (b::r)
def Zo4 (rs:List (Int×Int)) (v u:Int) (ns:List Int):Prop:=ns.Nodup/\ns.head?=some v/\ns.getLast?=some u/\Chn rs ns
end
section
variable {P:Program} {w:World} {K:PySem.W.Frag} {mg:Str->Option Value} {base:Heap}
def LinksC (H:Hp) (lk:Addr) (k:Int) (rs:List (Int×Int)):Prop:=∃ bl:List Addr,H lk=some (.lst (bl.map V.ref))/\bl.length=k.toNat/\∀ (i:Nat) (a:Addr),bl[i]?=some a->∃ ns:List Int,H a=some (.lst (ns.map V.int))/\∀ m,m∈ns↔Adj rs (i:Int) m
theorem LinksC.same {H H':Hp} {lk:Addr} {k:Int} {rs:List (Int×Int)} (h:LinksC H lk k rs) (s:Same H H'):LinksC H' lk k rs:=by
 obtain ⟨bl,e,l,hb⟩:=h
 exact ⟨bl,s _ _ e,l,λi a ha=>(hb i a ha).elim λns h=>⟨ns,s _ _ h.1,h.2⟩⟩
def ZkD:Sp:=λvs H Q _=>∃ (lk gl:Addr) (k st:Int) (rs:List (Int×Int)),vs=[.ref lk,.int st,.ref gl]/\Zaf k rs/\LinksC H lk k rs/\H gl=some (.lst [])/\(0<=st/\st<k) /\
 ∀ (d:Addr) (F:List Int) (H':Hp),Same H H'->H d=none->H' d=some (.dK (kvF F))->F.Nodup->F.length<=16->(∀ x,x∈F↔Conn rs st x)->Q (.ref d) H'
structure ReaIC (k:Int) (rs:List (Int×Int)) (st:Int) (F pd:List Int):Prop where
 nd:F.Nodup
 cn:∀ x∈F,Conn rs st x
 me:st∈F
 sb:∀ x∈pd,x∈F
theorem ReaIC.len {k:Int} {rs:List (Int×Int)} {st:Int} {F pd:List Int} (g:Zaf k rs) (hst:0<=st/\st<k) (h:ReaIC k rs st F pd):F.length<=k.toNat:=nodup_range h.nd λx hx=>by
 have:=Conn.inr g hst (h.cn x hx)
 omega
theorem ZlO {f:Addr} {fd:FuncData} (F:Fun K "reached" "reached" ZiG f fd):ZaI P w K mg base CX0 1 f fd ["links", "start", "gone"] ZkD:=by
 refine F.ok scRea (λvs H Q E h=>?_) (λcdv A outer s H vs Q E hr h=>?_)
 ·obtain ⟨_,_,_,_,_,rfl,_⟩:=h
  rfl
 ·obtain ⟨lk,gl,k,st,rs,rfl,g,L,hgl,hst,q⟩:=h
  have hu1:(A.deeper (PyProof.Rows.envOfC "reached" (Zae ZiG) s.heap.objs.size f cdv)).units+1<cLine:=by have:=hr.un;omega
  have h16:(16777216:Nat)=sizeLine:=sizeLine_eq.symm
  have g1:=g.1
  have g2:=g.2.1
  refine ⟨_,Zad (Zav (i:=3) scRea.nd rfl (Or.inl rfl) (Zh6 (Zgf (pv 1) ZbB Zh5) rfl rfl (by decide) (by decide)))
    (Zad (Zav (i:=4) scRea.nd rfl (Or.inl rfl) (ZaX (Zaa (pv 1) Zac)))
    (Zad (Zd2 PassesOwn.never (Zd4 (pv 4) (λ_=>rfl))
    (Zad (Zav (i:=5) scRea.nd rfl (Or.inl rfl) (ZhM PySem.F.plainAttrs_list PySem.F.slot_list_pop PySem.F.type_list_pop ZhO (pv 4)))
    (Zah (Zci PassesOwn.never rfl (ZbA K (ZaJ (ZhT K) (pv 0) (pv 5) (λ_ _=>rfl))) (Zao (i:=6) scRea.nd rfl (Or.inl rfl))
    (Zah (Zbb (PW.pt (ZeC (Zht (ZeV hu1 (pv 6) (pv 3)) rfl) (Zdg (Zar (ZeQ K) (pv 6) (pv 2) (by with_unfolding_all rfl))))) (Zad (Zea hu1 (pv 3) (pv 6) ZbB rfl)
    (Zah (Za6 (Zdj PySem.F.plainAttrs_list PySem.F.slot_list_append PySem.F.type_list_append ZaY (pv 4) (Zaa (pv 6) Zac))))) ZaC))))))
    (Zah (Zaw (pv 3))))),?_⟩
  refine λd hd=>⟨_,rfl,Zab,[(Sum.inl st,.bl true)],rfl,by show 1<=15;decide,?_⟩
  have s1:Same H (upd (upd H d (.dK [])) d (.dK (ZbH [] [(Sum.inl st,.bl true)]))):=(Same.new hd).put hd
  have e1:upd (upd H d (.dK [])) d (.dK (ZbH [] [(Sum.inl st,.bl true)])) d=some (.dK (kvF [st])):=by rw [Zab];rfl
  generalize upd (upd H d (.dK [])) d (.dK (ZbH [] [(Sum.inl st,.bl true)]))=H1 at s1 e1 ⊢
  refine ⟨_,rfl,(by show 1<=sizeLine;decide),λpn hpn=>?_⟩
  have hdp:d≠pn:=Zag e1 hpn
  have hpn0:=s1.free hpn
  refine ⟨λm σ H2=>∃ (v5 v6:Option V) (F pd:List Int),σ=[some (.ref lk),some (.int st),some (.ref gl),some (.ref d),some (.ref pn),v5,v6]/\Same H H2/\H2 d=some (.dK (kvF F))/\H2 pn=some (.lst (pd.map V.int))/\ReaIC k rs st F pd/\(∀ y∈F,y ∉ pd->∀ z,Adj rs y z->z∈F)/\2 * (k.toNat-F.length)+pd.length<=33/\m=2 * (k.toNat-F.length)+pd.length,⟨_,none,none,[st],[st],rfl,s1.put hpn0,Zal e1 hdp,Zab,⟨List.nodup_cons.mpr ⟨List.not_mem_nil,List.nodup_nil⟩,λx hx=>(by rw [List.mem_singleton] at hx;rw [hx];exact .refl),List.mem_singleton.mpr rfl,λx hx=>hx⟩,λy hy hn=>absurd hy hn,(by show 2 * (k.toNat-1)+1<=33;omega),rfl⟩,?_⟩
  rintro m σ H2 ⟨v5,v6,F,pd,rfl,s2,ed,ep,I,cl,m33,rfl⟩
  refine ⟨_,rfl,_,.inl ⟨_,SqL.of ep,rfl⟩,?_⟩
  cases hpd:pd.isEmpty with
  | true=>
   have e:pd=[]:=List.isEmpty_iff.mp hpd
   subst e
   refine Zbo ?_
   refine ⟨_,rfl,q d F H2 s2 hd ed I.nd (by have:=I.len g hst;omega) λx=>⟨I.cn x,λhc=>?_⟩⟩
   induction hc with
   | refl=>exact I.me
   | step _ ha ih=>exact cl _ ih (λz=>by cases z) _ ha
  | false=>
   have hne:pd≠[]:=λe=>by rw [e] at hpd;cases hpd
   have hpos:0<pd.length:=List.length_pos_iff.mpr hne
   have et:(!(pd.map V.int).isEmpty)=true:=by
    cases pd with
    | nil=>exact absurd rfl hne
    | cons _ _=>rfl
   rw [et]
   refine Zbz ?_
   refine ⟨λσ' H'=>∃ m',m'<2 * (k.toNat-F.length)+pd.length/\∃ (v5 v6:Option V) (F pd:List Int),σ'=[some (.ref lk),some (.int st),some (.ref gl),some (.ref d),some (.ref pn),v5,v6]/\Same H H'/\H' d=some (.dK (kvF F))/\H' pn=some (.lst (pd.map V.int))/\ReaIC k rs st F pd/\(∀ y∈F,y ∉ pd->∀ z,Adj rs y z->z∈F)/\2 * (k.toNat-F.length)+pd.length<=33/\m'=2 * (k.toNat-F.length)+pd.length,λσ' H' h=>h,?_⟩
   have hx:(pd.map V.int)[(pd.map V.int).length-1]?=some (.int (pd.getD (pd.length-1) 0)):=by
    rw [List.length_map,List.getElem?_map,List.getElem?_eq_getElem (show pd.length-1<pd.length by omega),ZaM (show pd.length-1<pd.length by omega)]
    rfl
   refine ⟨_,rfl,.inl ⟨rfl,_,SqL.of ep⟩,pn,_,_,rfl,rfl,ep,hx,?_⟩
   have hmem:pd.getD (pd.length-1) 0∈pd:=ZcA (by omega)
   have hin:=Conn.inr g hst (I.cn _ (I.sb _ hmem))
   have s3:=s2.put (o:=.lst (pd.map V.int).dropLast) hpn0
   have ed3:upd H2 pn (.lst (pd.map V.int).dropLast) d=some (.dK (kvF F)):=Zal ed hdp
   have ep3:upd H2 pn (.lst (pd.map V.int).dropLast) pn=some (.lst (pd.dropLast.map V.int)):=by rw [Zab,List.map_dropLast]
   generalize upd H2 pn (.lst (pd.map V.int).dropLast)=H3 at s3 ed3 ep3 ⊢
   have split:∀ y∈pd,y∈pd.dropLast\/y=pd.getD (pd.length-1) 0:=λy hy=>by
    have e:=List.dropLast_concat_getLast hne
    rw [<-e] at hy
    rcases List.mem_append.mp hy with h | h
    ·exact .inl h
    ·refine .inr ?_
     rw [List.mem_singleton] at h
     rw [h,List.getLast_eq_getElem,ZaM (show pd.length-1<pd.length by omega)]
   have ldrop:pd.dropLast.length=pd.length-1:=List.length_dropLast ..
   generalize pd.getD (pd.length-1) 0=he at hmem hin split ⊢
   obtain ⟨bl,el,bll,hb⟩:=L
   have hbi:bl[he.toNat]?=some (bl[he.toNat]'(by omega)):=List.getElem?_eq_getElem (by omega)
   generalize bl[he.toNat]'(by omega)=na at hbi
   obtain ⟨nb,enb,hnb⟩:=hb _ _ hbi
   have hee:((he.toNat:Nat):Int)=he:=by omega
   rw [hee] at hnb
   have hat:atI (bl.map V.ref) he=some (.ref na):=by
    have:=Zas (xs:=bl.map V.ref) (j:=he.toNat) (by rw [List.getElem?_map,hbi];rfl)
    rw [hee] at this
    exact this
   refine ⟨_,rfl,_,rfl,lk,_,_,_,rfl,rfl,SqL.of (s3 _ _ el),hat,na,rfl,⟨_,SqL.of (s3 _ _ enb)⟩,?_⟩
   have heF:=I.sb _ hmem
   refine Zd3 (K:=K) (a:=na) (xs:=nb.map V.int) (λi σ H4=>∃ (v6:Option V) (F' pd':List Int),σ=[some (.ref lk),some (.int st),some (.ref gl),some (.ref d),some (.ref pn),some (.int he),v6]/\Same H H4/\H4 d=some (.dK (kvF F'))/\H4 pn=some (.lst (pd'.map V.int))/\ReaIC k rs st F' pd'/\he∈F'/\(∀ y∈F',y ∉ pd'->y≠he->∀ z,Adj rs y z->z∈F')/\(∀ (j:Nat) (x:Int),j<i->nb[j]?=some x->x∈F')/\2 * (k.toNat-F'.length)+pd'.length+1<=2 * (k.toNat-F.length)+pd.length)
    ⟨_,F,pd.dropLast,rfl,s3,ed3,ep3,⟨I.nd,I.cn,I.me,λx hx=>I.sb x (List.dropLast_subset _ hx)⟩,heF,λy hy hn hne' z hz=>cl y hy (λhp=>(split y hp).elim hn hne') z hz,λj x hj=>absurd hj (Nat.not_lt_zero j),by omega⟩ (λi σ H4 _ ⟨_,_,_,_,s4,_⟩=>SqL.of (s4 _ _ enb)) ?_ ?_
   ·rintro i x σ H4 hxi ⟨w6,F',pd',rfl,s4,ed4,ep4,I4,he4,cl4,in4,me4⟩
    rw [List.getElem?_map] at hxi
    cases hz:nb[i]? with
    | none=>rw [hz] at hxi;cases hxi
    | some p=>
     rw [hz] at hxi
     cases hxi
     have hadj:Adj rs he p:=(hnb p).mp (List.mem_of_getElem? hz)
     refine ⟨_,rfl,_,rfl,d,_,rfl,DGet.k (k:=.inl p) ed4,_,rfl,?_⟩
     rw [Zex]
     have upto:p∈F'->∀ (j:Nat) (x:Int),j<i+1->nb[j]?=some x->x∈F':=λhp j x hj hx=>by
      rcases Nat.lt_or_ge j i with h | h
      ·exact in4 j x h hx
      ·have e:j=i:=by omega
       subst e
       rw [hz] at hx
       cases hx
       exact hp
     refine Zfv (λzz=>?_) (λzz=>?_)
     ·have hnot:p ∉ F':=λhp=>by rw [decide_eq_true hp] at zz;cases zz
      refine ⟨_,rfl,_,rfl,gl,_,rfl,.inl (SqL.of (s4 _ _ hgl)),rfl,rfl,_,rfl,?_⟩
      refine Zbz ?_
      have l4:=I4.len g hst
      have I5:ReaIC k rs st (F'++[p]) (pd'++[p]):=by
       refine ⟨List.nodup_append.mpr ⟨I4.nd,List.nodup_cons.mpr ⟨List.not_mem_nil,List.nodup_nil⟩,λa ha b hb e=>?_⟩,λx hx=>?_,List.mem_append_left _ I4.me,λx hx=>?_⟩
       ·rw [List.mem_singleton] at hb
        exact hnot (hb▸e▸ha)
       ·rcases List.mem_append.mp hx with h | h
        ·exact I4.cn x h
        ·rw [List.mem_singleton] at h
         rw [h]
         exact .step (I4.cn _ he4) hadj
       ·rcases List.mem_append.mp hx with h | h
        ·exact List.mem_append_left _ (I4.sb x h)
        ·exact List.mem_append_right _ h
      have l5:=I5.len g hst
      rw [List.length_append,List.length_singleton] at l5
      have lk4:(kvF F').length=F'.length:=List.length_map ..
      refine ⟨_,rfl,_,rfl,d,_,rfl,DPut.k (k:=.inl p) ed4 (by omega),?_⟩
      rw [ZiN hnot]
      have ep5:upd H4 d (.dK (kvF (F'++[p]))) pn=some (.lst (pd'.map V.int)):=Zal ep4 (Ne.symm hdp)
      have lpd:pd'.length<=1000:=by omega
      refine ⟨_,rfl,.inl ⟨rfl,_,SqL.of ep5⟩,_,rfl,pn,_,_,rfl,rfl,ep5,by rw [List.length_map];omega,?_⟩
      refine ⟨_,F'++[p],pd'++[p],rfl,(s4.put hd).put hpn0,Zal Zab hdp,by rw [Zab,List.map_append];rfl,I5,List.mem_append_left _ he4,λy hy hn hne' z hz'=>?_,λj x hj hx=>?_,?_⟩
      ·have hyp:y≠p:=λe=>hn (List.mem_append_right _ (List.mem_singleton.mpr e))
       have hyF:y∈F':=(List.mem_append.mp hy).elim id λh=>absurd (List.mem_singleton.mp h) hyp
       exact List.mem_append_left _ (cl4 y hyF (λh=>hn (List.mem_append_left _ h)) hne' z hz')
      ·rcases Nat.lt_or_ge j i with h | h
       ·exact List.mem_append_left _ (in4 j x h hx)
       ·have e:j=i:=by omega
        subst e
        rw [hz] at hx
        cases hx
        exact List.mem_append_right _ (List.mem_singleton.mpr rfl)
      ·rw [List.length_append,List.length_append,List.length_singleton]
       omega
     ·have hp:p∈F':=by
       by_cases h:p∈F'
       ·exact h
       ·rw [decide_eq_false h] at zz;exact absurd rfl zz
      refine Zbo ?_
      exact ⟨_,F',pd',rfl,s4,ed4,ep4,I4,he4,cl4,upto hp,me4⟩
   ·rintro σ H4 ⟨w6,F',pd',rfl,s4,ed4,ep4,I4,he4,cl4,in4,me4⟩
    rw [List.length_map] at in4
    refine ⟨_,?_,_,_,F',pd',rfl,s4,ed4,ep4,I4,λy hy hn z hz=>?_,by omega,rfl⟩
    ·omega
    ·by_cases e:y=he
     ·subst e
      obtain ⟨j,hj,ej⟩:=List.getElem_of_mem ((hnb z).mpr hz)
      exact in4 j z hj (by rw [List.getElem?_eq_getElem hj,ej])
     ·exact cl4 y hy hn e z hz
end
end M
namespace M
open PySem L2
section
variable {P:Program} {w:World} {K:PySem.W.Frag} {mg:Str->Option Value} {base:Heap}
def ZlP (C:Addr):Sp:=λvs H Q E=>∃ (wb l:Addr) (k p q:Int) (xs:List V) (rs:List (Int×Int)),vs=[.ref wb,.int p,.int q]/\WebAt H wb l k xs rs/\Zaf k rs /\
 ((Ends k p q/\(Conn rs p q->∀ H':Hp,Same H H'->Q .non H')/\(¬ Conn rs p q->∀ (re:Addr) (ns:List Int) (H':Hp),Same H H'->H re=none->H' re=some (.lst (ns.map V.int))->ns.Nodup->ns.Pairwise (· <= ·)->ns.length<=16->(∀ x,x∈ns↔Conn rs p x)->Q (.ref re) H'))\/(¬ Ends k p q/\E (.ref C) none H))
theorem scCut:Zau ["web", "one", "other", "links", "places"] ["web", "one", "other"] (Zae Zkw):=⟨rfl,rfl,rfl,by decide +kernel,rfl,by decide +kernel,by decide +kernel⟩
theorem Znh {f fH fZ fK C C2:Addr} {fd fdH fdZ fdK:FuncData} (F:Fun K "cut" "cut" Zkw f fd) (FH:Fun K "check_ends" "check_ends" ZjR fH fdH) (bH:Binds K fdH ["web", "one", "other"] []) (mH:mg "check_ends" = some (.ref fH)) (GH:ZaI P w K mg base (CXr P w) 2 fH fdH ["web", "one", "other"] (ZjZ C))
  (FZ:Fun K "beside" "beside" Zks fZ fdZ) (bZ:Binds K fdZ ["web", "place"] []) (mZ:mg "beside" = some (.ref fZ)) (GZ:ZaI P w K mg base (CXr P w) 3 fZ fdZ ["web", "place"] (ZlG C2))
  (FK:Fun K "reached" "reached" ZiG fK fdK) (bK:Binds K fdK ["links", "start", "gone"] []) (mK:mg "reached" = some (.ref fK)) (mRange:mg "range" = none) (mSor:mg "sorted" = none):ZaI P w K mg base (CXr P w) 4 f fd ["web", "one", "other"] (ZlP C):=by
 have GK:ZaI P w K mg base CX0 1 fK fdK ["links", "start", "gone"] ZkD:=ZlO FK
 refine F.okR scCut (λvs H Q E h=>?_) (λcdv A outer s H vs Q E hr h=>?_)
 ·obtain ⟨_,_,_,_,_,_,_,rfl,_⟩:=h
  rfl
 ·obtain ⟨wb,l,k,p,q',xs,rs,rfl,W,g,h⟩:=h
  have h16:(16777216:Nat)=sizeLine:=sizeLine_eq.symm
  have hx:xs.length<=30:=by rw [W.p.len];exact g.2.2.1
  have g1:=g.1
  have g2:=g.2.1
  refine ⟨_,Zad (Za6 (Zak GH (hr.mono (by decide)) rfl mH FH.kp bH .nil ZgT (Zaa (pv 0) (Zaa (pv 1) (Zaa (pv 2) Zac)))))
    (Zad (Zd7 (i:=3) scCut.nd rfl (Or.inl rfl) (own:=["place"]) rfl (Zaj (fr:=[("web", 0)]) [(".0", .local),("place", .local),("beside", .globalImplicit),("web", .cell)] rfl rfl (by decide +kernel) rfl (by decide +kernel) ⟨rfl,trivial⟩ ⟨λh=>ZaA h,λh=>ZaA h,λh=>ZaA h,λ_=>⟨_,rfl⟩,trivial⟩ ⟨⟨rfl,.inl rfl,.inl rfl⟩,trivial⟩) (ZaT rfl mRange (Zaa (ZaJ (ZcM K) (pv 0) Zai (λ_ _=>rfl)) Zac)) (λ_ _ _ _=>Zao (i:=0) (show List.Nodup (["place", "web"]:List Str) by decide +kernel) rfl (Or.inl rfl)) (λ_ _ _ _=>ZaZ) (λ_ _ _ _=>Zak GZ (hr.mono (by decide)) rfl mZ FZ.kp bZ .nil ZcX (Zaa (pv 1) (Zaa (pv 0) Zac))))
    (Zad (Zav (i:=4) scCut.nd rfl (Or.inl rfl) (Zax (Zjr rfl) rfl mSor PyProof.Rows.boot_sorted (Zaa (Zak GK (hr.mono (by decide)) rfl mK FK.kp bK .nil ZaL (Zaa (pv 3) (Zaa (pv 1) (Zaa (ZaX Zac) Zac)))) Zac)))
    (Zah (Zaw (Zi6 (Zar (kIn K) (pv 2) (pv 4) (by with_unfolding_all rfl)) Zcg (pv 4)))))),?_⟩
  rcases h with ⟨en,qn,qs⟩ | ⟨ne,e⟩
  ·refine ⟨_,rfl,_,rfl,_,rfl,wb,l,k,p,q',rfl,W.w,.inl ⟨en,?_⟩⟩
   refine ⟨_,rfl,wb,_,_,_,rfl,rfl,SqT.of W.w,Zas (j:=0) rfl,_,rfl,by omega,by omega,λD hD=>?_⟩
   refine Zbf (lo:=0) (n:=k.toNat) (λi ys H2=>Same H H2/\H2 D=some (.lst ys)/\∃ bl:List Addr,ys=bl.map V.ref/\bl.length=i/\∀ (j:Nat) (a:Addr),bl[j]?=some a->∃ ns:List Int,H2 a=some (.lst (ns.map V.int))/\a≠D/\∀ m,m∈ns↔Adj rs (j:Int) m) ⟨Same.new hD,Zab,[],rfl,rfl,λj a h=>(by cases h)⟩ ?_ ?_
   ·rintro i ys H2 hi ⟨s2,hD2,bl,rfl,hbl,hb⟩
    rw [Int.zero_add]
    refine ⟨⟨rfl,trivial⟩,?_⟩
    unfold Zhk
    refine Zbz ?_
    refine ⟨_,rfl,_,rfl,wb,l,k,(i:Int),xs,rs,rfl,W.same s2,by omega,.inl ⟨⟨by omega,by omega⟩,λr ns H3 s3 hr3 er3 pm so=>?_⟩⟩
    have hrD:r≠D:=λz=>by rw [z,hD2] at hr3;cases hr3
    refine ⟨s3 _ _ hD2,by rw [List.length_map];omega,(s2.trans s3).put hD,Zab,bl++[r],by rw [List.map_append];rfl,by rw [List.length_append,List.length_singleton,hbl],λj a ha=>?_⟩
    rcases Nat.lt_or_ge j bl.length with hj | hj
    ·rw [List.getElem?_append_left hj] at ha
     obtain ⟨ms,e1,e2,e3⟩:=hb j a ha
     exact ⟨ms,Zal (s3 _ _ e1) e2,e2,e3⟩
    ·rw [List.getElem?_append_right hj] at ha
     have hj0:j-bl.length=0:=by
      by_cases z:j-bl.length=0
      ·exact z
      ·rw [List.getElem?_eq_none (by rw [List.length_singleton];omega)] at ha;cases ha
     rw [hj0] at ha
     cases ha
     refine ⟨ns,Zal er3 hrD,hrD,λm=>?_⟩
     rw [pm.mem_iff,show (j:Int)=(i:Int) by omega]
     exact ZiM g
   rintro ys H2 ⟨s2,hD2,bl,rfl,hbl,hb⟩
   have L:LinksC H2 D k rs:=⟨bl,hD2,hbl,λi a ha=>(hb i a ha).elim λns h=>⟨ns,h.1,h.2.2⟩⟩
   refine ⟨_,rfl,_,rfl,Nat.zero_le _,λem hem=>?_⟩
   have s3:Same H2 (upd H2 em (.lst [])):=Same.new hem
   refine ⟨D,em,k,p,rs,rfl,g,L.same s3,Zab,en.1,λd F' H4 s4 hd ed nd fl hF=>?_⟩
   have s04:=(s2.trans s3).trans s4
   refine ⟨d,_,F',rfl,ed,Zj5 F',by omega,λre ns hre pm so=>?_⟩
   have s05:=s04.put (o:=.lst (ns.map V.int)) (s04.free hre)
   have hre0:=s04.free hre
   have ere:upd H4 re (.lst (ns.map V.int)) re=some (.lst (ns.map V.int)):=Zab
   generalize upd H4 re (.lst (ns.map V.int))=H5 at s05 ere ⊢
   have hns:∀ x,x∈ns↔Conn rs p x:=λx=>(pm.mem_iff).trans (hF x)
   refine ⟨_,rfl,_,rfl,re,_,rfl,.inl (SqL.of ere),rfl,Zbl _,_,rfl,?_⟩
   show if (inV (.int q') (ns.map V.int))=true then _ else _
   rw [ZaU]
   refine Zfv (λz=>?_) (λz=>?_)
   ·exact qn ((hns q').mp (of_decide_eq_true z)) H5 s05
   ·exact ⟨_,rfl,qs (λc=>z (decide_eq_true ((hns q').mpr c))) re ns H5 s05 hre0 ere (pm.nodup_iff.mpr nd) so (by rw [pm.length_eq];exact fl) hns⟩
  ·exact ⟨_,rfl,_,rfl,_,rfl,wb,l,k,p,q',rfl,W.w,.inr ⟨ne,e⟩⟩
end
end M
namespace M
open PySem L2
section
variable {P:Program} {w:World} {K:PySem.W.Frag} {mg:Str->Option Value} {base:Heap}
def Cut (k:Int) (rs:List (Int×Int)) (p q:Int) (ns:List Int):Prop:=ns.Pairwise (· < ·)/\(∀ x∈ns,0<=x/\x<k)/\p∈ns/\q ∉ ns/\∀ r∈rs,(r.1∈ns↔r.2∈ns)
theorem Zba {l:List Int} (h:l.Pairwise (· <= ·)) (nd:l.Nodup):l.Pairwise (· < ·):=by
 have h2:l.Pairwise (·≠·):=nd
 exact List.Pairwise.imp (λ{a b} h=>by omega) (List.Pairwise.and h h2)
theorem Zhg {ns ms ss:List Int} (nd:ms.Nodup) (hm:∀ k,k∈ms↔k∈ns) (pm:ss.Perm ms) (so:ss.Pairwise (· <= ·)):ns=ss↔ns.Pairwise (· < ·):=by
 constructor
 ·rintro rfl
  exact Zba so (pm.nodup_iff.mpr nd)
 ·intro h
  refine ((Zgb pm so (h.imp λz=>Int.le_of_lt z)).mpr ?_).symm
  exact (List.perm_ext_iff_of_nodup nd (h.imp λz=>Int.ne_of_lt z)).mpr hm
def Zni (C:Addr):Sp:=λvs H Q E=>∃ (wb l pl:Addr) (k p q:Int) (xs:List V) (rs:List (Int×Int)) (ns:List Int),vs=[.ref wb,.int p,.int q,.ref pl]/\WebAt H wb l k xs rs/\Zaf k rs/\H pl=some (.lst (ns.map V.int))/\ns.length<=60 /\
 ((Ends k p q/\∀ (b:Bool) (H':Hp),Same H H'->(b=true↔Cut k rs p q ns)->Q (.bl b) H')\/(¬ Ends k p q/\E (.ref C) none H))
theorem Zoq:Zau ["web", "one", "other", "places"] ["web", "one", "other", "places"] (Zae Zlu):=⟨rfl,rfl,rfl,by decide +kernel,rfl,by decide +kernel,by decide +kernel⟩
theorem Zdw {α:Type} (p:α->Prop) [DecidablePred p] (l:List α):(l.map λx=>decide (p x)).all id=true↔∀ x∈l,p x:=by
 rw [List.all_map,List.all_eq_true]
 constructor
 ·intro h x hx
  exact of_decide_eq_true (h x hx)
 ·intro h x hx
  exact decide_eq_true (h x hx)
theorem Zgz {α β:Type} {l:List α} {i:Nat} {x:α} (f:α->β) (h:l[i]?=some x):(l.take (i+1)).map f=(l.take i).map f++[f x]:=by
 rw [List.take_add_one,h,List.map_append]
 rfl
theorem Znj {f fH fI C:Addr} {fd fdH fdI:FuncData} (F:Fun K "is_cut" "is_cut" Zlu f fd) (FH:Fun K "check_ends" "check_ends" ZjR fH fdH) (bH:Binds K fdH ["web", "one", "other"] []) (mH:mg "check_ends" = some (.ref fH)) (GH:ZaI P w K mg base (CXr P w) 2 fH fdH ["web", "one", "other"] (ZjZ C))
  (FI:Fun K "is_place" "is_place" sIs fI fdI) (bI:Binds K fdI ["web", "place"] []) (mI:mg "is_place" = some (.ref fI)) (mSor:mg "sorted" = none) (mSet:mg "set" = none) (mAll:mg "all" = none):ZaI P w K mg base (CXr P w) 3 f fd ["web", "one", "other", "places"] (Zni C):=by
 have GI:ZaI P w K mg base CX0 1 fI fdI ["web", "place"] ZnI:=ZlE FI
 refine F.okR Zoq (λvs H Q E h=>?_) (λcdv A outer s H vs Q E hr h=>?_)
 ·obtain ⟨_,_,_,_,_,_,_,_,_,rfl,_⟩:=h
  rfl
 ·obtain ⟨wb,l,pl,k,p,q',xs,rs,ns,rfl,W,g,hp,hn,h⟩:=h
  have hu:=hr.units
  have h16:(16777216:Nat)=sizeLine:=sizeLine_eq.symm
  have g3:=g.2.2.1
  have hxl:=W.p.len
  refine ⟨_,Zad (Za6 (Zak GH (hr.mono (by decide)) rfl mH FH.kp bH .nil ZgT (Zaa (pv 0) (Zaa (pv 1) (Zaa (pv 2) Zac)))))
    (Zad (Zbb (PW.pt (Zfq (Zar (Zkh K hu) (pv 3) (Zax (Zin P w rfl) rfl mSor PyProof.Rows.boot_sorted (Zaa (Zbt (ZmK P w K rfl) rfl mSet Zjh (Zaa (pv 3) Zac)) Zac)) (ZaB _)) (ZdK (ZcU (Zch (Zax (ZoP K rfl) rfl mAll Zgc (Zaa (ZaO (own:=["place"]) rfl (Zaj (fr:=[("web", 0)]) [(".0", .local),("place", .local),("is_place", .globalImplicit),("web", .cell)] rfl rfl (by decide +kernel) rfl (by decide +kernel) ⟨rfl,trivial⟩ ⟨λh=>ZaA h,λh=>ZaA h,λh=>ZaA h,λ_=>⟨_,rfl⟩,trivial⟩ ⟨⟨rfl,.inl rfl,.inl rfl⟩,trivial⟩) (ZbA K (pv 3)) (λ_ _ _ _=>Zao (i:=0) (show List.Nodup (["place", "web"]:List Str) by decide +kernel) rfl (Or.inl rfl)) (λ_ _ _ _=>ZaZ) (λ_ _ _ _=>Zak GI (hr.mono (by decide)) rfl mI FI.kp bI .nil ZaL (Zaa (pv 1) (Zaa (pv 0) Zac)))) Zac))))))) (Zah (Zaw ZbB)) ZaC)
    (Zad (Zbb (PW.pt (Zfq (Zar (ZeQ K) (pv 1) (pv 3) (by with_unfolding_all rfl)) (ZdK (Zar (kIn K) (pv 2) (pv 3) (by with_unfolding_all rfl))))) (Zah (Zaw ZbB)) ZaC)
    (Zah (Zaw (Zax (ZoP K rfl) rfl mAll Zgc (Zaa (ZaO (own:=["a", "b"]) rfl (Zaj (fr:=[("places", 3)]) [(".0", .local),("a", .local),("b", .local),("places", .cell)] rfl rfl (by decide +kernel) rfl (by decide +kernel) ⟨rfl,trivial⟩ ⟨λh=>ZaA h,λh=>ZaA h,λh=>ZaA h,λ_=>⟨_,rfl⟩,trivial⟩ ⟨⟨rfl,.inl rfl,.inl rfl⟩,trivial⟩) (ZbA K (ZaJ (ZcM K) (pv 0) Zai (λ_ _=>rfl))) (λ_ _ _ _=>Zk0 K (n:=2) rfl (ZaP (Zao (i:=0) (show List.Nodup (["a", "b", "places"]:List Str) by decide +kernel) rfl (Or.inl rfl)) (ZaP (Zao (i:=1) (show List.Nodup (["a", "b", "places"]:List Str) by decide +kernel) rfl (Or.inl rfl)) Zca))) (λ_ _ _ _=>ZaZ) (λ_ _ _ _=>Zbh ZdH (Zbh (kIn K) (pv 0) (pv 2) (by with_unfolding_all rfl)) (Zbh (kIn K) (pv 1) (pv 2) (by with_unfolding_all rfl)) (ZaB _))) Zac)))))),?_⟩
  rcases h with ⟨en,q⟩ | ⟨ne,e⟩
  ·have no:∀ H',Same H H'->¬ Cut k rs p q' ns->Q (.bl false) H':=λH' s z=>q false H' s ⟨λe=>(by cases e),λr=>absurd r z⟩
   refine ⟨_,rfl,_,rfl,_,rfl,wb,l,k,p,q',rfl,W.w,.inl ⟨en,?_⟩⟩
   refine ⟨_,rfl,_,rfl,pl,ns,rfl,SqL.of hp,by omega,λt ms ht nd hm=>?_⟩
   have s1:Same H (upd H t (Zjy P w t ms)):=Same.new ht
   have hml:ms.length<=ns.length:=List.Nodup.length_le_of_subset nd λx hx=>(hm x).mp hx
   refine ⟨t,ms,rfl,Zab,by omega,λr ss hr' pm so=>?_⟩
   have s2:=s1.put (o:=.lst (ss.map V.int)) (s1.free hr')
   have er:upd (upd H t (Zjy P w t ms)) r (.lst (ss.map V.int)) r=some (.lst (ss.map V.int)):=Zab
   generalize upd (upd H t (Zjy P w t ms)) r (.lst (ss.map V.int))=H2 at s2 er ⊢
   refine ⟨.list (ns.map PyData.int),.list (ss.map PyData.int),.lst (SqL.of (s2 _ _ hp)) (Zbc _),.lst (SqL.of er) (Zbc _),Za8 _,Za8 _,_,rfl,?_⟩
   rw [Zc6]
   have si:=Zhg nd hm pm so
   by_cases c1:ns=ss
   case neg=>
    rw [decide_eq_false c1]
    refine Zbz ?_
    exact no _ s2 λz=>c1 (si.mpr z.1)
   rw [decide_eq_true c1]
   refine Zbo ?_
   have c1':=si.mp c1
   refine ⟨_,rfl,pl,rfl,⟨_,SqL.of (s2 _ _ hp)⟩,λD hD=>?_⟩
   refine ZaF (K:=K) (a:=pl) (xs:=ns.map V.int) (λi ys H3=>Same H2 H3/\H3 D=some (.lst ys)/\ys=((ns.take i).map λx=>decide (0<=x/\x<k)).map V.bl) ⟨Same.new hD,Zab,rfl⟩ (λi ys H3 _ ⟨s3,_⟩=>SqL.of (s3 _ _ (s2 _ _ hp))) ?_ ?_
   ·rintro i x ys H3 hxi ⟨s3,hD3,rfl⟩
    have hi:i<(ns.map V.int).length:=(List.getElem?_eq_some_iff.mp hxi).1
    rw [List.length_map] at hi
    rw [List.getElem?_map] at hxi
    cases hz:ns[i]? with
    | none=>rw [hz] at hxi;cases hxi
    | some x=>
     rw [hz] at hxi
     cases hxi
     refine ⟨⟨rfl,trivial⟩,?_⟩
     unfold Zhk
     refine Zbz ?_
     exact ⟨_,rfl,_,rfl,wb,l,k,x,rfl,s3 _ _ (s2 _ _ W.w),hD3,by rw [List.length_map,List.length_map,List.length_take];omega,s3.put hD,Zab,by rw [Zgz _ hz,List.map_append];rfl⟩
   rintro ys H3 ⟨s3,hD3,rfl⟩
   rw [List.length_map,List.take_length] at hD3
   refine ⟨D,_,rfl,SqL.of hD3,⟨_,rfl,?_⟩⟩
   have hal:=Zdw (λx:Int=>0<=x/\x<k) ns
   have S3:=s2.trans s3
   by_cases c2:(ns.map λx=>decide (0<=x/\x<k)).all id=true
   case neg=>
    rw [Bool.not_eq_true] at c2
    rw [c2]
    refine Zbz ?_
    exact no _ S3 λz=>by
     have:=hal.mpr z.2.1
     rw [c2] at this;cases this
   rw [c2]
   refine Zbo ?_
   have c2':=hal.mp c2
   refine ⟨_,rfl,_,rfl,pl,_,rfl,.inl (SqL.of (S3 _ _ hp)),rfl,Zbl _,_,rfl,?_⟩
   show if (!inV (.int p) (ns.map V.int))=true then _ else _
   rw [ZaU]
   by_cases c3:p∈ns
   case neg=>
    rw [decide_eq_false c3]
    refine Zbz ?_
    exact no _ S3 λz=>c3 z.2.2.1
   rw [decide_eq_true c3]
   refine Zbo ?_
   refine ⟨_,rfl,_,rfl,pl,_,rfl,.inl (SqL.of (S3 _ _ hp)),rfl,Zbl _,_,rfl,?_⟩
   show if (inV (.int q') (ns.map V.int))=true then _ else _
   rw [ZaU]
   by_cases c4:q'∈ns
   ·rw [decide_eq_true c4]
    refine Zbz ?_
    exact no _ S3 λz=>z.2.2.2.1 c4
   rw [decide_eq_false c4]
   refine Zbo ?_
   have W3:=W.same S3
   have p3:=S3 _ _ hp
   refine ⟨_,rfl,wb,_,_,_,rfl,rfl,SqT.of W3.w,Zas (j:=1) rfl,l,rfl,⟨_,SqL.of W3.l⟩,λD2 hD'=>?_⟩
   refine ZaF (K:=K) (a:=l) (xs:=xs) (λi ys H4=>Same H3 H4/\H4 D2=some (.lst ys)/\ys=((rs.take i).map λr=>decide (r.1∈ns↔r.2∈ns)).map V.bl) ⟨Same.new hD',Zab,rfl⟩ (λi ys H4 _ ⟨s4,_⟩=>SqL.of (s4 _ _ W3.l)) ?_ ?_
   ·rintro i x ys H4 hxi ⟨s4,hD4,rfl⟩
    obtain ⟨t,r,rfl,et,er'⟩:=W3.p.get hxi
    have hi:i<xs.length:=(List.getElem?_eq_some_iff.mp hxi).1
    refine ⟨t,_,rfl,SqT.of (s4 _ _ et),rfl,_,_,rfl,_,_,rfl,rfl,⟨rfl,trivial⟩,?_⟩
    unfold Zhk
    refine Zbz ?_
    refine ⟨_,rfl,_,rfl,pl,_,rfl,.inl (SqL.of (s4 _ _ p3)),rfl,Zbl _,_,rfl,_,rfl,pl,_,rfl,.inl (SqL.of (s4 _ _ p3)),rfl,Zbl _,rfl,hD4,by rw [List.length_map,List.length_map,List.length_take];omega,s4.put hD',Zab,?_⟩
    rw [Zgz _ er',List.map_append]
    show _++[V.bl (decide (V.bl (inV (.int r.1) (ns.map V.int))=V.bl (inV (.int r.2) (ns.map V.int))))]=_
    congr 1
    rw [ZaU,ZaU]
    by_cases d1:r.1∈ns <;> by_cases d2:r.2∈ns <;> simp [d1,d2]
   rintro ys H4 ⟨s4,hD4,rfl⟩
   rw [hxl,List.take_length] at hD4
   refine ⟨D2,_,rfl,SqL.of hD4,q _ _ (S3.trans s4) ?_⟩
   rw [Zdw (λr:Int×Int=>(r.1∈ns↔r.2∈ns)) rs]
   exact ⟨λz=>⟨c1',c2',c3,c4,z⟩,λz=>z.2.2.2.2⟩
  ·exact ⟨_,rfl,_,rfl,_,rfl,wb,l,k,p,q',rfl,W.w,.inr ⟨ne,e⟩⟩
end
end M
namespace M
open PySem L2
theorem Zhh (p:List Int) (hp:p≠[]) (q:Int):Zan (p++[q]) false=Zan p false++[(p.getD (p.length-1) 0,q)]:=by
 cases p with
 | nil=>exact absurd rfl hp
 | cons a tl=>
  unfold Zan
  rw [if_neg Bool.false_ne_true,if_neg Bool.false_ne_true,List.append_nil,List.append_nil]
  show ((a::(tl++[q])).zip (tl++[q]))=(a::tl).zip tl++[((a::tl).getD (tl.length+1-1) 0,q)]
  rw [Zew,Nat.add_sub_cancel]
theorem ZcE {rs:List (Int×Int)} {p:List Int} {q:Int} (hp:p≠[]):Zc1 rs (p++[q]) false↔Zc1 rs p false/\q ∉ p/\Adj rs (p.getD (p.length-1) 0) q:=by
 unfold Zc1
 rw [Zhh p hp,List.nodup_append]
 constructor
 ·rintro ⟨h1,h2,_,h3⟩
  exact ⟨⟨λt ht=>h1 t (List.mem_append_left _ ht),h2⟩,λhq=>h3 q hq q (List.mem_singleton.mpr rfl) rfl,h1 _ (List.mem_append_right _ (List.mem_singleton.mpr rfl))⟩
 ·rintro ⟨⟨h1,h2⟩,h3,h4⟩
  refine ⟨λt ht=>?_,h2,List.nodup_cons.mpr ⟨List.not_mem_nil,List.nodup_nil⟩,λa ha b hb e=>?_⟩
  ·rcases List.mem_append.mp ht with h | h
   ·exact h1 t h
   ·rw [List.mem_singleton.mp h]
    exact h4
  ·rw [List.mem_singleton.mp hb] at e
   exact h3 (e▸ha)
theorem Zfd (p:List Int) (hp:p≠[]):p=p.dropLast++[p.getD (p.length-1) 0]:=by
 have h0:0<p.length:=List.length_pos_iff.mpr hp
 conv=>lhs;rw [<-List.dropLast_concat_getLast hp]
 rw [List.getLast_eq_getElem,ZaM (by omega)]
structure Beg (rs:List (Int×Int)) (k one other:Int) (p:List Int):Prop where
 ne:p≠[]
 hd:p.getD 0 0=one
 on:Zc1 rs p false
 ir:∀ x∈p,0<=x/\x<k
 no:other ∉ p.dropLast
theorem Beg.len {rs:List (Int×Int)} {k one other:Int} {p:List Int} (h:Beg rs k one other p):p.length<=k.toNat:=nodup_range (k:=k.toNat) h.on.2 λx hx=>by have:=h.ir x hx;omega
theorem Beg.way {rs:List (Int×Int)} {k one other:Int} {p:List Int} (h:Beg rs k one other p) (e:p.getD (p.length-1) 0=other):Way rs one other p:=⟨h.ne,h.hd,e,h.on⟩
theorem Zdx {p:List Int} (hp:p≠[]) (r:List Int):(p++r).getD 0 0=p.getD 0 0:=by
 cases p with
 | nil=>exact absurd rfl hp
 | cons a p=>rfl
theorem Beg.notin {rs:List (Int×Int)} {k one other:Int} {p:List Int} (h:Beg rs k one other p) (e:p.getD (p.length-1) 0≠other):other ∉ p:=λz=>by
 rw [Zfd p h.ne] at z
 rcases List.mem_append.mp z with z | z
 ·exact h.no z
 ·exact e (List.mem_singleton.mp z).symm
theorem Beg.more {rs:List (Int×Int)} {k one other q:Int} {p:List Int} (h:Beg rs k one other p) (g:Zaf k rs) (e:p.getD (p.length-1) 0≠other) (a:Adj rs (p.getD (p.length-1) 0) q) (hq:q=other\/q ∉ p):Beg rs k one other (p++[q]):=by
 have hqp:q ∉ p:=hq.elim (λz=>z▸h.notin e) id
 refine ⟨by simp,by rw [Zdx h.ne];exact h.hd,(ZcE h.ne).mpr ⟨h.on,hqp,a⟩,λx hx=>?_,by rw [List.dropLast_concat];exact h.notin e⟩
 rcases List.mem_append.mp hx with hx | hx
 ·exact h.ir x hx
 ·rw [List.mem_singleton.mp hx]
  exact Zdv g a
def Inc (a b:List Int):Prop:=¬ a <+: b/\¬ b <+: a
theorem Inc.symm {a b:List Int} (h:Inc a b):Inc b a:=⟨h.2,h.1⟩
theorem Zfe {p r:List Int} (q:Int) (h:Inc p r):Inc (p++[q]) r:=by
 refine ⟨λz=>h.1 ((List.prefix_append p [q]).trans z),λz=>?_⟩
 rcases List.prefix_concat_iff.mp z with z | z
 ·exact h.1 (z▸List.prefix_append p [q])
 ·exact h.2 z
theorem ZlQ (p:List Int) {x y:Int} (h:x≠y):Inc (p++[x]) (p++[y]):=by
 have key:∀ {x y:Int},x≠y->¬ (p++[x]) <+: (p++[y]):=λh z=>by
  have:=z.eq_of_length (by simp)
  have:=List.append_cancel_left this
  simp at this
  exact h this
 exact ⟨key h,key (Ne.symm h)⟩
structure DFS (rs:List (Int×Int)) (k one other:Int) (W P:List (List Int)):Prop where
 pp:∀ p∈P,Beg rs k one other p
 ww:∀ w∈W,Way rs one other w
 cov:∀ w,Way rs one other w->w∈W\/∃ p∈P,p <+: w
 pf:(W++P).Pairwise Inc
theorem Zj6 (p:List Int):¬ Inc p p:=λh=>h.1 (List.prefix_refl p)
theorem DFS.nodup {rs:List (Int×Int)} {k one other:Int} {W P:List (List Int)} (h:DFS rs k one other W P):W.Nodup:=List.Pairwise.imp (R:=Inc) (λ{a b} hab (e:a=b)=>Zj6 a (by rw [<-e] at hab;exact hab)) (List.pairwise_append.mp h.pf).1
theorem DFS.take {rs:List (Int×Int)} {k one other:Int} {W P:List (List Int)} {p:List Int} (h:DFS rs k one other W (P++[p])) (e:p.getD (p.length-1) 0=other):DFS rs k one other (W++[p]) P:=by
 refine ⟨λq hq=>h.pp q (List.mem_append_left _ hq),λw hw=>?_,λw hw=>?_,?_⟩
 ·rcases List.mem_append.mp hw with hw | hw
  ·exact h.ww w hw
  ·rw [List.mem_singleton.mp hw]
   exact (h.pp p (by simp)).way e
 ·rcases h.cov w hw with z | ⟨q,hq,z⟩
  ·exact .inl (List.mem_append_left _ z)
  ·rcases List.mem_append.mp hq with hq | hq
   ·exact .inr ⟨q,hq,z⟩
   ·rw [List.mem_singleton.mp hq] at z
    refine .inl (List.mem_append_right _ (List.mem_singleton.mpr ?_))
    obtain ⟨r,rfl⟩:=z
    have hp:=h.pp p (by simp)
    cases r with
    | nil=>simp
    | cons x r=>
     exfalso
     have nd:=hw.2.2.2.2
     have hl:=hw.2.2.1
     have m1:other∈p:=by
      rw [Zfd p hp.ne,e]
      simp
     have m2:other∈x::r:=by
      have:(p++x::r).getD ((p++x::r).length-1) 0=(x::r).getD ((x::r).length-1) 0:=by
       rw [List.getD_eq_getElem?_getD,List.getElem?_append_right (by simp),List.getD_eq_getElem?_getD]
       congr 2
       simp
      rw [this] at hl
      rw [<-hl]
      exact ZcA (by simp)
     exact (List.nodup_append.mp nd).2.2 other m1 other m2 rfl
 ·have:(W++[p]++P).Perm (W++(P++[p])):=by
   rw [List.append_assoc]
   exact List.Perm.append_left _ List.perm_append_comm
  exact (this.pairwise_iff λ{a b} h=>h.symm).mpr h.pf
theorem DFS.grow {rs:List (Int×Int)} {k one other:Int} {W P:List (List Int)} {p nb F:List Int} (g:Zaf k rs) (h:DFS rs k one other W (P++[p])) (e:p.getD (p.length-1) 0≠other) (nd:nb.Nodup) (hnb:∀ m,m∈nb↔Adj rs (p.getD (p.length-1) 0) m)
  (f1:other∈F) (f2:∀ x∈F,x=other\/x ∉ p) (f3:∀ x∈F,∀ z,Adj rs x z->z ∉ p->z∈F):DFS rs k one other W (P++(nb.filter λx=>decide (x∈F)).map λx=>p++[x]):=by
 have hp:=h.pp p (by simp)
 have pf:=List.pairwise_append.mp h.pf
 have pf2:=List.pairwise_append.mp pf.2.1
 refine ⟨λq hq=>?_,h.ww,λw hw=>?_,?_⟩
 ·rcases List.mem_append.mp hq with hq | hq
  ·exact h.pp q (List.mem_append_left _ hq)
  ·obtain ⟨x,hx,rfl⟩:=List.mem_map.mp hq
   obtain ⟨h1,h2⟩:=List.mem_filter.mp hx
   exact hp.more g e ((hnb x).mp h1) (f2 x (of_decide_eq_true h2))
 ·rcases h.cov w hw with z | ⟨q,hq,z⟩
  ·exact .inl z
  ·rcases List.mem_append.mp hq with hq | hq
   ·exact .inr ⟨q,List.mem_append_left _ hq,z⟩
   ·rw [List.mem_singleton.mp hq] at z
    obtain ⟨r,rfl⟩:=z
    have ow:=hw.2.2.2
    have hl:=hw.2.2.1
    cases r with
    | nil=>
     rw [List.append_nil] at hl
     exact absurd hl e
    | cons x r=>
     have key:∀ (r:List Int) (x:Int) (pre:List Int),Zc1 rs (pre++x::r) false->(x::r).getD ((x::r).length-1) 0=other->(∀ y∈x::r,y ∉ p)->x∈F:=by
      intro r
      induction r with
      | nil=>
       intro x pre _ hl _
       have hl:x=other:=hl
       rw [hl]
       exact f1
      | cons y r ih=>
       intro x pre o hl hn
       have iy:=ih y (pre++[x]) (by rw [List.append_assoc];exact o) (by rw [<-hl];rfl) λz hz=>hn z (List.mem_cons_of_mem _ hz)
       refine f3 y iy x ?_ (hn x (List.mem_cons_self ..))
       have:(x,y)∈Zan (pre++x::y::r) false:=by
        unfold Zan
        rw [if_neg Bool.false_ne_true,List.append_nil]
        rw [List.mem_iff_getElem?]
        refine ⟨pre.length,?_⟩
        rw [List.getElem?_zip_eq_some]
        constructor
        ·rw [List.getElem?_append_right (Nat.le_refl _),Nat.sub_self]
         rfl
        ·rw [List.getElem?_drop,List.getElem?_append_right (by omega),show 1+pre.length-pre.length=1 by omega]
         rfl
       exact ZlM (o.1 _ this)
     have hx:x∈F:=key r x p ow (by
      rw [<-hl,List.getD_eq_getElem?_getD,List.getD_eq_getElem?_getD,List.getElem?_append_right (by simp)]
      congr 2
      simp) λy hy hy'=>(List.nodup_append.mp ow.2).2.2 y hy' y hy rfl
     have ha:Adj rs (p.getD (p.length-1) 0) x:=by
      have o2:Zc1 rs (p++[x]) false:=by
       have:p++x::r=(p++[x])++r:=by simp
       rw [this] at ow
       refine ⟨λt ht=>ow.1 t ?_,(List.nodup_append.mp ow.2).1⟩
       unfold Zan at ht ⊢
       rw [if_neg Bool.false_ne_true,List.append_nil] at ht ⊢
       obtain ⟨i,hi⟩:=List.mem_iff_getElem?.mp ht
       rw [List.getElem?_zip_eq_some] at hi
       rw [List.mem_iff_getElem?]
       refine ⟨i,List.getElem?_zip_eq_some.mpr ⟨?_,?_⟩⟩
       ·rw [List.getElem?_append_left (List.getElem?_eq_some_iff.mp hi.1).1]
        exact hi.1
       ·have h2:=hi.2
        rw [List.getElem?_drop] at h2 ⊢
        rw [List.getElem?_append_left (List.getElem?_eq_some_iff.mp h2).1]
        exact h2
      exact ((ZcE hp.ne).mp o2).2.2
     refine .inr ⟨p++[x],List.mem_append_right _ (List.mem_map.mpr ⟨x,List.mem_filter.mpr ⟨(hnb x).mpr ha,decide_eq_true hx⟩,rfl⟩),r,by simp⟩
 ·refine List.pairwise_append.mpr ⟨pf.1,List.pairwise_append.mpr ⟨pf2.1,?_,λa ha b hb=>?_⟩,λa ha b hb=>?_⟩
  ·rw [List.pairwise_map]
   exact (nd.sublist List.filter_sublist).imp λh=>ZlQ p h
  ·obtain ⟨x,_,rfl⟩:=List.mem_map.mp hb
   exact (Zfe x (pf2.2.2 a ha p (by simp)).symm).symm
  ·rcases List.mem_append.mp hb with hb | hb
   ·exact pf.2.2 a ha b (List.mem_append_left _ hb)
   ·obtain ⟨x,_,rfl⟩:=List.mem_map.mp hb
    exact (Zfe x (pf.2.2 a ha p (by simp)).symm).symm
def ZgA (k:Nat) (P:List (List Int)):Nat:=(P.map λp=>(k+2) ^ (k-p.length)).sum
theorem Zey (k:Nat) (P R:List (List Int)):ZgA k (P++R)=ZgA k P+ZgA k R:=by unfold ZgA;rw [List.map_append,List.sum_append]
theorem ZgB (k:Nat) (p:List Int):ZgA k [p]=(k+2) ^ (k-p.length):=by simp [ZgA]
theorem Zff (k:Nat) (p:List Int):∀ (xs:List Int),ZgA k (xs.map λx=>p++[x])=xs.length * (k+2) ^ (k-(p.length+1))
 | []=>by simp [ZgA]
 | x::xs=>by
  have:=Zff k p xs
  unfold ZgA at this ⊢
  rw [List.map_cons,List.map_cons,List.sum_cons,this,List.length_append,List.length_singleton,List.length_cons,Nat.succ_mul]
  omega
theorem ZiO {k:Int} {rs:List (Int×Int)} {one other:Int} {p nb F:List Int} {P:List (List Int)} (g:Zaf k rs) (hp:Beg rs k one other p) (e:p.getD (p.length-1) 0≠other) (nd:nb.Nodup) (hnb:∀ m,m∈nb↔Adj rs (p.getD (p.length-1) 0) m) (f2:∀ x∈F,x=other\/x ∉ p) :
  ZgA k.toNat (P++(nb.filter λx=>decide (x∈F)).map λx=>p++[x])<ZgA k.toNat (P++[p]):=by
 rw [Zey,Zey,ZgB,Zff]
 have hpos:0<(k.toNat+2) ^ (k.toNat-p.length):=Nat.pow_pos (by omega)
 generalize hxs:(nb.filter λx=>decide (x∈F))=xs
 by_cases hx:xs=[]
 ·subst hx
  simp
  exact hpos
 ·obtain ⟨x,hxm⟩:=List.exists_mem_of_ne_nil xs hx
  rw [<-hxs] at hxm
  obtain ⟨h1,h2⟩:=List.mem_filter.mp hxm
  have b:=(hp.more g e ((hnb x).mp h1) (f2 x (of_decide_eq_true h2))).len
  rw [List.length_append,List.length_singleton] at b
  have hl:xs.length<=k.toNat:=by
   rw [<-hxs]
   refine Nat.le_trans (List.length_filter_le _ _) (nodup_range (k:=k.toNat) nd λy hy=>?_)
   have:=Zdv g ((hnb y).mp hy)
   omega
  have e2:(k.toNat+2) ^ (k.toNat-p.length)=(k.toNat+2) * (k.toNat+2) ^ (k.toNat-(p.length+1)):=by
   rw [show k.toNat-p.length=(k.toNat-(p.length+1))+1 by omega,Nat.pow_succ,Nat.mul_comm]
  rw [e2]
  have q:0<(k.toNat+2) ^ (k.toNat-(p.length+1)):=Nat.pow_pos (by omega)
  have:=Nat.mul_le_mul_right ((k.toNat+2) ^ (k.toNat-(p.length+1))) hl
  have e3:(k.toNat+2) * (k.toNat+2) ^ (k.toNat-(p.length+1))=k.toNat * (k.toNat+2) ^ (k.toNat-(p.length+1))+2 * (k.toNat+2) ^ (k.toNat-(p.length+1)):=Nat.add_mul ..
  omega
end M
namespace M
open PySem L2
theorem Zhi {k:Int} {rs:List (Int×Int)} (g:Zaf k rs) (p:Int):(Zhm rs p).Nodup:=by
 unfold Zhm
 have nd:rs.Nodup:=g.2.2.2.2
 refine List.Pairwise.map (R:=λa b:Int×Int=>(a∈rs/\b∈rs)/\(a≠b/\Ze8 a p=true/\Ze8 b p=true)) _ (λa b h e=>?_) ?_
 ·obtain ⟨⟨ha,hb⟩,hne,h1,h2⟩:=h
  have g1:=g.2.2.2.1 a ha
  have g2:=g.2.2.2.1 b hb
  have h1:=of_decide_eq_true h1
  have h2:=of_decide_eq_true h2
  apply hne
  obtain ⟨a1,a2⟩:=a
  obtain ⟨b1,b2⟩:=b
  dsimp only at *
  have:a1=b1/\a2=b2:=by omega
  rw [this.1,this.2]
 ·refine List.Pairwise.imp_of_mem ?_ (nd.sublist List.filter_sublist)
  intro a b ha hb hab
  obtain ⟨h1,h2⟩:=List.mem_filter.mp ha
  obtain ⟨h3,h4⟩:=List.mem_filter.mp hb
  exact ⟨⟨h1,h3⟩,hab,h2,h4⟩
def Lz (H:Hp) (zs:List (Addr×List Int)):Prop:=∀ z∈zs,H z.1=some (.lst (z.2.map V.int))
theorem Lz.same {H H':Hp} {zs:List (Addr×List Int)} (h:Lz H zs) (s:Same H H'):Lz H' zs:=λz hz=>s _ _ (h z hz)
theorem Lz.put {H:Hp} {zs:List (Addr×List Int)} {a:Addr} {o:HO} (h:Lz H zs) (ha:∀ z∈zs,z.1≠a):Lz (upd H a o) zs:=λz hz=>Zal (h z hz) (ha z hz)
section
variable {P:Program} {w:World} {K:PySem.W.Frag} {mg:Str->Option Value} {base:Heap}
structure Wys (rs:List (Int×Int)) (p q:Int) (W:List (List Int)):Prop where
 ww:∀ w∈W,Way rs p q w
 nd:W.Nodup
 ln:W.length<=301
 al:W.length<=300->∀ w,Way rs p q w->w∈W
def ZlR:Sp:=λvs H Q _=>∃ (wb l:Addr) (k p q:Int) (xs:List V) (rs:List (Int×Int)),vs=[.ref wb,.int p,.int q]/\WebAt H wb l k xs rs/\Zaf k rs/\Ends k p q /\
 ∀ (wa:Addr) (zs:List (Addr×List Int)) (H':Hp),Same H H'->H wa=none->H' wa=some (.lst (zs.map λz=>V.ref z.1))->Lz H' zs->(∀ z∈zs,H z.1=none)->Wys rs p q (zs.map (·.2))->Q (.ref wa) H'
theorem scWbt:Zau ["web", "one", "other", "links", "ways", "pending", "places", "hopeful"] ["web", "one", "other"] (Zae ZjS):=⟨rfl,rfl,rfl,by decide +kernel,rfl,by decide +kernel,by decide +kernel⟩
def WbI (H HL:Hp) (k:Int) (rs:List (Int×Int)) (p q:Int) (wb D wa pn:Addr) (m:Nat) (σ:St) (H2:Hp):Prop:=∃ (v6 v7:Option V) (Wz Pz:List (Addr×List Int)),
 σ=[some (.ref wb),some (.int p),some (.int q),some (.ref D),some (.ref wa),some (.ref pn),v6,v7]/\Same HL H2/\H2 wa=some (.lst (Wz.map λz=>V.ref z.1))/\H2 pn=some (.lst (Pz.map λz=>V.ref z.1))/\Lz H2 Wz/\Lz H2 Pz /\
 (∀ z∈Wz++Pz,z.1≠wa/\z.1≠pn/\HL z.1=none)/\DFS rs k p q (Wz.map (·.2)) (Pz.map (·.2))/\Wz.length<=301/\(∀ (j:Nat) (z:Addr×List Int),Pz[j]?=some z->j<k.toNat * z.2.length)/\m=ZgA k.toNat (Pz.map (·.2))
theorem Znk {f fZ fRe C2:Addr} {fd fdZ fdRe:FuncData} {tM:Tok} (F:Fun K "ways_between" "ways_between" ZjS f fd)
  (FZ:Fun K "beside" "beside" Zks fZ fdZ) (bZ:Binds K fdZ ["web", "place"] []) (mZ:mg "beside" = some (.ref fZ)) (GZ:ZaI P w K mg base (CXr P w) 3 fZ fdZ ["web", "place"] (ZlG C2))
  (FRe:Fun K "reached" "reached" ZiG fRe fdRe) (bRe:Binds K fdRe ["links", "start", "gone"] []) (mRe:mg "reached" = some (.ref fRe)) (mMoW:mg "MOST_WAYS" = some (.int 300 tM)) (mRange:mg "range" = none) (mLen:mg "len" = none):ZaI P w K mg base CX0 4 f fd ["web", "one", "other"] ZlR:=by
 have GRe:ZaI P w K mg base CX0 1 fRe fdRe ["links", "start", "gone"] Znf:=Zng FRe
 refine F.ok scWbt (λvs H Q E h=>?_) (λcdv A outer s H vs Q E hr h=>?_)
 ·obtain ⟨_,_,_,_,_,_,_,rfl,_⟩:=h
  rfl
 ·obtain ⟨wb,l,k,p,q',xs,rs,rfl,W,g,en,q⟩:=h
  have h16:(16777216:Nat)=sizeLine:=sizeLine_eq.symm
  have hu1:(A.deeper (PyProof.Rows.envOfC "ways_between" (Zae ZjS) s.heap.objs.size f cdv)).units+1<cLine:=by have:=hr.un;omega
  have hx:xs.length<=30:=by rw [W.p.len];exact g.2.2.1
  have g1:=g.1
  have g2:=g.2.1
  refine ⟨_,Zad (Zd7 (i:=3) scWbt.nd rfl (Or.inl rfl) (own:=["place"]) rfl (Zaj (fr:=[("web", 0)]) [(".0", .local),("place", .local),("beside", .globalImplicit),("web", .cell)] rfl rfl (by decide +kernel) rfl (by decide +kernel) ⟨rfl,trivial⟩ ⟨λh=>ZaA h,λh=>ZaA h,λh=>ZaA h,λ_=>⟨_,rfl⟩,trivial⟩ ⟨⟨rfl,.inl rfl,.inl rfl⟩,trivial⟩) (ZaT rfl mRange (Zaa (ZaJ (ZcM K) (pv 0) Zai (λ_ _=>rfl)) Zac)) (λ_ _ _ _=>Zao (i:=0) (show List.Nodup (["place", "web"]:List Str) by decide +kernel) rfl (Or.inl rfl)) (λ_ _ _ _=>ZaZ) (λ_ _ _ _=>Zak GZ (hr.mono (by decide)) rfl mZ FZ.kp bZ .nil ZcX (Zaa (pv 1) (Zaa (pv 0) Zac))))
    (Zad (Zav (i:=4) scWbt.nd rfl (Or.inl rfl) (ZaX Zac))
    (Zad (Zav (i:=5) scWbt.nd rfl (Or.inl rfl) (ZaX (Zaa (ZaX (Zaa (pv 1) Zac)) Zac)))
    (Zad (Zd2 PassesOwn.never (PW.pt (ZeC (Zd4 (pv 5) (λ_=>rfl)) (Zdg (Zar Zml (Zax (ZhU K) rfl mLen PySem.boot_len (Zaa (pv 4) Zac)) (Zhs (v:=.int 300) rfl mMoW ⟨_,rfl⟩) (ZaB _)))))
    (Zad (Zav (i:=6) scWbt.nd rfl (Or.inr rfl) (ZhM PySem.F.plainAttrs_list PySem.F.slot_list_pop PySem.F.type_list_pop ZhO (pv 5)))
    (Zah (Zbb (Zar ZdH (ZaJ (ZhT K) (pv 6) (ZkP Zfy Zai) (λ_ _=>rfl)) (pv 2) (ZaB _)) (Zah (Za6 (Zdj PySem.F.plainAttrs_list PySem.F.slot_list_append PySem.F.type_list_append ZaY (pv 4) (Zaa (pv 6) Zac)))) (Zad (Zav (i:=7) scWbt.nd rfl (Or.inr rfl) (Zak GRe (hr.mono (by decide)) rfl mRe FRe.kp bRe .nil ZaL (Zaa (pv 3) (Zaa (pv 2) (Zaa (pv 6) Zac)))))
    (Zah (Za6 (Zdj PySem.F.plainAttrs_list PySem.F.slot_list_extend PySem.F.type_list_extend ZhN (pv 5) (Zaa (ZaO (own:=["place"]) rfl (Zaj (fr:=[("places", 6),("hopeful", 7)]) [(".0", .local),("place", .local),("hopeful", .cell),("places", .cell)] rfl rfl (by decide +kernel) rfl (by decide +kernel) ⟨rfl,rfl,trivial⟩ ⟨λh=>ZaA h,λh=>ZaA h,λ_=>⟨_,rfl⟩,λ_=>⟨_,rfl⟩,trivial⟩ ⟨⟨rfl,.inl rfl,.inl rfl⟩,⟨rfl,.inl rfl,.inl rfl⟩,trivial⟩) (ZbA K (ZaJ (ZhT K) (pv 3) (ZaJ (ZhT K) (pv 6) (ZkP Zfy Zai) (λ_ _=>rfl)) (λ_ _=>rfl))) (λ_ _ _ _=>Zao (i:=0) (show List.Nodup (["place", "places", "hopeful"]:List Str) by decide +kernel) rfl (Or.inl rfl)) (λ_ _ _ _=>Za0 (Zht (ZmD hu1 (pv 0) (pv 2)) rfl)) (λ_ _ _ _=>Zaz Zf5 (pv 1) (ZaX (Zaa (pv 0) Zac)))) Zac)))))))))
    (Zah (Zaw (pv 4)))))),?_⟩
  refine ⟨_,rfl,wb,_,_,_,rfl,rfl,SqT.of W.w,Zas (j:=0) rfl,_,rfl,by omega,by omega,λD hD=>?_⟩
  refine Zbf (lo:=0) (n:=k.toNat) (λi ys H2=>Same H H2/\H2 D=some (.lst ys)/\∃ bl:List Addr,ys=bl.map V.ref/\bl.length=i/\∀ (j:Nat) (a:Addr),bl[j]?=some a->∃ ns:List Int,H2 a=some (.lst (ns.map V.int))/\a≠D/\ns.Nodup/\∀ m,m∈ns↔Adj rs (j:Int) m) ⟨Same.new hD,Zab,[],rfl,rfl,λj a h=>(by cases h)⟩ ?_ ?_
  ·rintro i ys H2 hi ⟨s2,hD2,bl,rfl,hbl,hb⟩
   rw [Int.zero_add]
   refine ⟨⟨rfl,trivial⟩,?_⟩
   unfold Zhk
   refine Zbz ?_
   refine ⟨_,rfl,_,rfl,wb,l,k,(i:Int),xs,rs,rfl,W.same s2,by omega,.inl ⟨⟨by omega,by omega⟩,λr ns H3 s3 hr3 er3 pm so=>?_⟩⟩
   have hrD:r≠D:=λz=>by rw [z,hD2] at hr3;cases hr3
   refine ⟨s3 _ _ hD2,by rw [List.length_map];omega,(s2.trans s3).put hD,Zab,bl++[r],by rw [List.map_append];rfl,by rw [List.length_append,List.length_singleton,hbl],λj a ha=>?_⟩
   rcases Nat.lt_or_ge j bl.length with hj | hj
   ·rw [List.getElem?_append_left hj] at ha
    obtain ⟨ms,e1,e2,e3⟩:=hb j a ha
    exact ⟨ms,Zal (s3 _ _ e1) e2,e2,e3⟩
   ·rw [List.getElem?_append_right hj] at ha
    have hj0:j-bl.length=0:=by
     by_cases z:j-bl.length=0
     ·exact z
     ·rw [List.getElem?_eq_none (by rw [List.length_singleton];omega)] at ha;cases ha
    rw [hj0] at ha
    cases ha
    refine ⟨ns,Zal er3 hrD,hrD,pm.nodup_iff.mpr (Zhi g _),λm=>?_⟩
    rw [pm.mem_iff,show (j:Int)=(i:Int) by omega]
    exact ZiM g
  rintro ys H2 ⟨s2,hD2,bl,rfl,hbl,hb⟩
  have L:LinksAt H2 D k rs:=⟨bl,hD2,hbl,λi a ha=>(hb i a ha).elim λns h=>⟨ns,h.1,h.2.2⟩⟩
  clear hb hbl
  refine ⟨Nat.zero_le _,λwa hwa=>?_⟩
  have s3:Same H2 (upd H2 wa (.lst [])):=Same.new hwa
  have e3:upd H2 wa (.lst []) wa=some (.lst []):=Zab
  generalize upd H2 wa (.lst [])=H3 at s3 e3 ⊢
  refine ⟨_,rfl,(by show 1<=sizeLine;omega),λp0 hp0=>⟨(by show 1<=sizeLine;omega),λpn hpn=>?_⟩⟩
  have s4:Same H3 (upd H3 p0 (.lst [.int p])):=Same.new hp0
  have e4:upd H3 p0 (.lst [.int p]) p0=some (.lst ([p].map V.int)):=Zab
  generalize upd H3 p0 (.lst [.int p])=H4 at s4 e4 hpn ⊢
  have s5:Same H4 (upd H4 pn (.lst [.ref p0])):=Same.new hpn
  have e5:upd H4 pn (.lst [.ref p0]) pn=some (.lst [.ref p0]):=Zab
  generalize upd H4 pn (.lst [.ref p0])=H5 at s5 e5 ⊢
  have S5:=s3.trans (s4.trans s5)
  have hwa2:H2 wa=none:=hwa
  have hpn2:H2 pn=none:=(s3.trans s4).free hpn
  have hp02:H2 p0=none:=s3.free hp0
  have hwp:wa≠pn:=Zag (s4 _ _ e3) hpn
  have dfs0:DFS rs k p q' [] [[p]]:=by
   refine ⟨λr hr'=>?_,λr hr'=>(by cases hr'),λr hr'=>.inr ⟨[p],by simp,?_⟩,by simp⟩
   ·rw [List.mem_singleton.mp hr']
    exact ⟨by simp,rfl,⟨λt ht=>by simp [Zan] at ht,by simp⟩,λx hx=>by rw [List.mem_singleton.mp hx];exact en.1,by simp⟩
   ·obtain ⟨h1,h2,_⟩:=hr'
    cases r with
    | nil=>exact absurd rfl h1
    | cons a r=>
     have h2:a=p:=h2
     rw [h2]
     exact ⟨r,rfl⟩
  refine ⟨WbI H H2 k rs p q' wb D wa pn,⟨_,none,none,[],[(p0,[p])],rfl,S5,s5 _ _ (s4 _ _ e3),e5,λz hz=>(by cases hz),λz hz=>?_,λz hz=>?_,dfs0,by simp,λj z hj=>?_,rfl⟩,?_⟩
  ·rw [List.mem_singleton.mp hz]
   exact s5 _ _ e4
  ·have hz:z=(p0,[p]):=by simpa using hz
   rw [hz]
   exact ⟨Ne.symm (Zag e3 hp0),Zag e4 hpn,hp02⟩
  ·cases j with
   | zero=>
    simp at hj
    rw [<-hj]
    show 0<k.toNat * 1
    omega
   | succ j=>simp at hj
  rintro m σ H6 ⟨v6,v7,Wz,Pz,rfl,s6,ew,ep,lw,lp,fr,dfs,l301,jn,rfl⟩
  refine ⟨_,rfl,_,.inl ⟨_,SqL.of ep,rfl⟩,?_⟩
  have hwaH:H wa=none:=s2.free hwa2
  have frH:∀ z∈Wz,H z.1=none:=λz hz=>s2.free (fr z (List.mem_append_left _ hz)).2.2
  cases hpd:Pz.isEmpty with
  | true=>
   have e:Pz=[]:=List.isEmpty_iff.mp hpd
   subst e
   refine Zbo ?_
   refine Zbo ?_
   refine ⟨_,rfl,q wa Wz H6 (s2.trans s6) hwaH ew lw frH ⟨dfs.ww,dfs.nodup,by rw [List.length_map];exact l301,λ_ r hr'=>?_⟩⟩
   rcases dfs.cov r hr' with z | ⟨_,z,_⟩
   ·exact z
   ·cases z
  | false=>
   have hne:Pz≠[]:=λe=>by rw [e] at hpd;cases hpd
   have hpos:0<Pz.length:=List.length_pos_iff.mpr hne
   have et:(!(Pz.map λz=>V.ref z.1).isEmpty)=true:=by
    cases Pz with
    | nil=>exact absurd rfl hne
    | cons _ _=>rfl
   rw [et]
   refine Zbz ?_
   refine ⟨_,rfl,wa,_,rfl,.inl (SqL.of ew),_,_,rfl,rfl,_,rfl,?_⟩
   rw [List.length_map]
   by_cases h300:(Wz.length:Int)<=300
   rotate_left
   ·rw [decide_eq_false h300]
    refine Zbo ?_
    exact ⟨_,rfl,q wa Wz H6 (s2.trans s6) hwaH ew lw frH ⟨dfs.ww,dfs.nodup,by rw [List.length_map];exact l301,λz=>by rw [List.length_map] at z;omega⟩⟩
   rw [decide_eq_true h300]
   refine Zbz ?_
   refine ⟨_,λσ' H' h=>h,?_⟩
   obtain ⟨Pr,z0,rfl⟩:∃ Pr z0,Pz=Pr++[z0]:=⟨Pz.dropLast,Pz.getLast hne,(List.dropLast_concat_getLast hne).symm⟩
   obtain ⟨pa,pl⟩:=z0
   have hxl:((Pr++[(pa,pl)]).map λz=>V.ref z.1)[((Pr++[(pa,pl)]).map λz=>V.ref z.1).length-1]?=some (.ref pa):=by simp
   refine ⟨_,rfl,.inl ⟨rfl,_,SqL.of ep⟩,pn,_,_,rfl,rfl,ep,hxl,?_⟩
   have edl:((Pr++[(pa,pl)]).map λz=>V.ref z.1).dropLast=Pr.map λz=>V.ref z.1:=by rw [List.map_append];exact List.dropLast_concat
   rw [edl]
   dsimp only [ZcL]
   have s7:Same H2 (upd H6 pn (.lst (Pr.map λz=>V.ref z.1))):=s6.put hpn2
   have ew7:upd H6 pn (.lst (Pr.map λz=>V.ref z.1)) wa=some (.lst (Wz.map λz=>V.ref z.1)):=Zal ew hwp
   have ep7:upd H6 pn (.lst (Pr.map λz=>V.ref z.1)) pn=some (.lst (Pr.map λz=>V.ref z.1)):=Zab
   have lw7:Lz (upd H6 pn (.lst (Pr.map λz=>V.ref z.1))) Wz:=lw.put λz hz=>(fr z (List.mem_append_left _ hz)).2.1
   have lp7:Lz (upd H6 pn (.lst (Pr.map λz=>V.ref z.1))) (Pr++[(pa,pl)]):=lp.put λz hz=>(fr z (List.mem_append_right _ hz)).2.1
   generalize upd H6 pn (.lst (Pr.map λz=>V.ref z.1))=H7 at s7 ew7 ep7 lw7 lp7 ⊢
   have epa:H7 pa=some (.lst (pl.map V.int)):=lp7 (pa,pl) (by simp)
   have lpr:Lz H7 Pr:=λz hz=>lp7 z (List.mem_append_left _ hz)
   have fpa:=fr (pa,pl) (by simp)
   have emap:(Pr++[(pa,pl)]).map (·.2)=Pr.map (·.2)++[pl]:=by simp
   rw [emap] at dfs
   have hB:Beg rs k p q' pl:=dfs.pp pl (by simp)
   have hlk:pl.length<=16:=by have:=hB.len;omega
   have jt:Pr.length<k.toNat * pl.length:=jn Pr.length (pa,pl) (by simp)
   have h256:Pr.length<=256:=by
    have h1:k.toNat * pl.length<=16 * 16:=Nat.mul_le_mul (by omega) hlk
    omega
   refine ⟨_,rfl,_,rfl,pa,_,_,_,rfl,rfl,SqL.of epa,ZfU hB.ne,_,rfl,rfl,_,rfl,?_⟩
   refine Zfv (λhe=>?_) (λhe=>?_)
   ·have he:pl.getD (pl.length-1) 0=q':=by
     have:=of_decide_eq_true he
     injection this
    refine ⟨_,rfl,.inl ⟨rfl,_,SqL.of ew7⟩,_,rfl,wa,_,_,rfl,rfl,ew7,by rw [List.length_map];omega,?_⟩
    refine ⟨ZgA k.toNat (Pr.map (·.2)),?_,_,_,Wz++[(pa,pl)],Pr,rfl,s7.put hwa2,?_,Zal ep7 (Ne.symm hwp),?_,lpr.put λz hz=>(fr z (by simp [hz])).1,λz hz=>?_,?_,?_,λj z hj=>?_,rfl⟩
    ·rw [emap,Zey,ZgB]
     have:0<(k.toNat+2) ^ (k.toNat-pl.length):=Nat.pow_pos (by omega)
     omega
    ·rw [Zab,List.map_append]
     rfl
    ·refine Lz.put (λz hz=>?_) λz hz=>?_
     ·rcases List.mem_append.mp hz with hz | hz
      ·exact lw7 z hz
      ·rw [List.mem_singleton.mp hz]
       exact epa
     ·rcases List.mem_append.mp hz with hz | hz
      ·exact (fr z (List.mem_append_left _ hz)).1
      ·rw [List.mem_singleton.mp hz]
       exact fpa.1
    ·refine fr z ?_
     simp at hz ⊢
     rcases hz with hz | hz | hz
     ·exact .inl hz
     ·exact .inr (.inr hz)
     ·exact .inr (.inl hz)
    ·rw [List.map_append]
     exact dfs.take he
    ·rw [List.length_append,List.length_singleton]
     omega
    ·refine jn j z ?_
     rw [List.getElem?_append_left (List.getElem?_eq_some_iff.mp hj).1]
     exact hj
   ·have he:pl.getD (pl.length-1) 0≠q':=λz=>he (decide_eq_true (by rw [z]))
    refine ⟨_,rfl,_,rfl,_,rfl,D,pa,k,q',rs,pl,rfl,g,L.same s7,epa,en.2.1,λd Fd H8 s8 hd ed nd8 fl8 me8 ng8 cl8=>?_⟩
    dsimp only [ZcL]
    have s27:=s7.trans s8
    have ep8:=s8 _ _ ep7
    have epa8:=s8 _ _ epa
    have ew8:=s8 _ _ ew7
    obtain ⟨bl,el,bll,hb⟩:=L.same s27
    have hin:=hB.ir _ (show pl.getD (pl.length-1) 0∈pl from ZcA (by have:=List.length_pos_iff.mpr hB.ne;omega))
    generalize hla:pl.getD (pl.length-1) 0=la at he hin
    have hbi:bl[la.toNat]?=some (bl[la.toNat]'(by omega)):=List.getElem?_eq_getElem (by omega)
    generalize bl[la.toNat]'(by omega)=na at hbi
    obtain ⟨nb,enb,ndb,hnb⟩:=hb _ _ hbi
    have hee:((la.toNat:Nat):Int)=la:=by omega
    rw [hee] at hnb
    have hat:atI (bl.map V.ref) la=some (.ref na):=by
     have:=Zas (xs:=bl.map V.ref) (j:=la.toNat) (by rw [List.getElem?_map,hbi];rfl)
     rw [hee] at this
     exact this
    have hatl:atI (pl.map V.int) (-1)=some (.int la):=by rw [<-hla];exact ZfU hB.ne
    refine ⟨_,rfl,.inl ⟨rfl,_,SqL.of ep8⟩,_,rfl,_,rfl,_,rfl,pa,_,_,_,rfl,rfl,SqL.of epa8,hatl,D,_,_,_,rfl,rfl,SqL.of el,hat,na,rfl,⟨_,SqL.of enb⟩,λDc hDc=>?_⟩
    have lnb:nb.length<=16:=by
     have:=nodup_range (k:=k.toNat) ndb λy hy=>by have:=Zdv g ((hnb y).mp hy);omega
     omega
    refine ZaF (K:=K) (a:=na) (xs:=nb.map V.int) (λj ys H9=>Same H8 H9/\H9 Dc=some (.lst ys)/\∃ cz:List (Addr×List Int),ys=cz.map (λz=>V.ref z.1)/\Lz H9 cz/\(∀ z∈cz,z.1≠Dc/\H8 z.1=none)/\cz.map (·.2)=((nb.take j).filter λx=>decide (x∈Fd)).map λx=>pl++[x]) ⟨Same.new hDc,Zab,[],rfl,λz hz=>(by cases hz),λz hz=>(by cases hz),rfl⟩ (λj ys H9 _ ⟨s9,_⟩=>SqL.of (s9 _ _ enb)) ?_ ?_
    ·rintro j x ys H9 hxj ⟨s9,eD9,cz,rfl,l9,f9,m9⟩
     rw [List.getElem?_map] at hxj
     cases hz:nb[j]? with
     | none=>rw [hz] at hxj;cases hxj
     | some x'=>
      rw [hz] at hxj
      cases hxj
      have hstep:nb.take (j+1)=nb.take j++[x']:=by rw [List.take_add_one,hz];rfl
      have lcz:cz.length<=16:=by
       have h1:cz.length=(cz.map (·.2)).length:=by rw [List.length_map]
       rw [h1,m9,List.length_map]
       have:=List.length_filter_le (λx=>decide (x∈Fd)) (nb.take j)
       rw [List.length_take] at this
       omega
      refine ⟨⟨rfl,rfl,trivial⟩,?_⟩
      refine ⟨_,rfl,_,rfl,d,_,rfl,DGet.k (k:=.inl x') (s9 _ _ ed),_,rfl,?_⟩
      rw [Zex]
      refine Zfv (λhz2=>?_) (λhz2=>?_)
      ·have hxF:x'∈Fd:=of_decide_eq_true hz2
       refine ⟨_,rfl,_,rfl,(by show 1<=sizeLine;omega),λe1 he1=>?_⟩
       have s10:Same H9 (upd H9 e1 (.lst [.int x'])):=Same.new he1
       have e10:upd H9 e1 (.lst [.int x']) e1=some (.lst [.int x']):=Zab
       generalize upd H9 e1 (.lst [.int x'])=H10 at s10 e10 ⊢
       refine ⟨pa,e1,_,_,rfl,rfl,s10 _ _ (s9 _ _ epa8),e10,by rw [List.length_map,List.length_singleton];omega,λnp hnp=>?_⟩
       have s11:Same H10 (upd H10 np (.lst (pl.map V.int++[.int x']))):=Same.new hnp
       have e11:upd H10 np (.lst (pl.map V.int++[.int x'])) np=some (.lst ((pl++[x']).map V.int)):=by rw [Zab,List.map_append];rfl
       have hDn:Dc≠np:=Zag (s10 _ _ eD9) hnp
       have hn8:H8 np=none:=(s9.trans s10).free hnp
       generalize upd H10 np (.lst (pl.map V.int++[.int x']))=H11 at s11 e11 ⊢
       have S11:=s10.trans s11
       refine ⟨S11 _ _ eD9,by rw [List.length_map];omega,(s9.trans S11).put hDc,Zab,cz++[(np,pl++[x'])],by rw [List.map_append];rfl,λz hz=>?_,λz hz=>?_,?_⟩
       ·rcases List.mem_append.mp hz with hz | hz
        ·exact Zal (S11 _ _ (l9 z hz)) (f9 z hz).1
        ·rw [List.mem_singleton.mp hz]
         exact Zal e11 (Ne.symm hDn)
       ·rcases List.mem_append.mp hz with hz | hz
        ·exact f9 z hz
        ·rw [List.mem_singleton.mp hz]
         exact ⟨Ne.symm hDn,hn8⟩
       ·rw [List.map_append,m9,hstep,List.filter_append,List.map_append,List.filter_cons,if_pos hz2]
        rfl
      ·refine ⟨s9,eD9,cz,rfl,l9,f9,?_⟩
       rw [m9,hstep,List.filter_append,List.map_append,List.filter_cons,if_neg hz2]
       simp
    ·rintro ys H9 ⟨s9,eD9,cz,rfl,l9,f9,m9⟩
     rw [List.length_map,List.take_length] at m9
     have ep9:=s9 _ _ ep8
     have ew9:=s9 _ _ ew8
     have lcz:cz.length<=k.toNat:=by
      have h1:cz.length=(cz.map (·.2)).length:=by rw [List.length_map]
      rw [h1,m9,List.length_map]
      refine Nat.le_trans (List.length_filter_le _ _) (nodup_range (k:=k.toNat) ndb λy hy=>?_)
      have:=Zdv g ((hnb y).mp hy)
      omega
     refine ⟨pn,Dc,_,_,rfl,rfl,ep9,eD9,by rw [List.length_map,List.length_map];omega,?_⟩
     have s29:=s27.trans s9
     have hczpn:∀ z∈cz,z.1≠pn:=λz hz e=>by
      have:=(f9 z hz).2
      rw [e,ep8] at this
      cases this
     have hczwa:∀ z∈cz,z.1≠wa:=λz hz e=>by
      have:=(f9 z hz).2
      rw [e,ew8] at this
      cases this
     rw [<-hla] at he hnb
     refine ⟨ZgA k.toNat ((Pr++cz).map (·.2)),?_,_,_,Wz,Pr++cz,rfl,s29.put hpn2,Zal ew9 hwp,?_,(lw7.same (s8.trans s9)).put λz hz=>(fr z (List.mem_append_left _ hz)).2.1,?_,λz hz=>?_,?_,l301,λj z hj=>?_,rfl⟩
     ·rw [List.map_append,m9,emap]
      exact ZiO g hB he ndb hnb ng8
     ·rw [Zab,List.map_append]
     ·refine Lz.put (λz hz=>?_) λz hz=>?_
      ·rcases List.mem_append.mp hz with hz | hz
       ·exact s9 _ _ (s8 _ _ (lpr z hz))
       ·exact l9 z hz
      ·rcases List.mem_append.mp hz with hz | hz
       ·exact (fr z (by simp [hz])).2.1
       ·exact hczpn z hz
     ·simp only [List.mem_append] at hz
      rcases hz with hz | hz | hz
      ·exact fr z (by simp [hz])
      ·exact fr z (by simp [hz])
      ·exact ⟨hczwa z hz,hczpn z hz,s27.free (f9 z hz).2⟩
     ·rw [List.map_append,m9]
      exact dfs.grow g he ndb hnb me8 ng8 cl8
     ·rcases Nat.lt_or_ge j Pr.length with h | h
      ·rw [List.getElem?_append_left h] at hj
       refine jn j z ?_
       rw [List.getElem?_append_left h]
       exact hj
      ·rw [List.getElem?_append_right h] at hj
       have hjl:=(List.getElem?_eq_some_iff.mp hj).1
       have hz2:z.2∈cz.map (·.2):=List.mem_map.mpr ⟨z,List.mem_of_getElem? hj,rfl⟩
       rw [m9] at hz2
       obtain ⟨x,_,ex⟩:=List.mem_map.mp hz2
       rw [<-ex,List.length_append,List.length_singleton,Nat.mul_add,Nat.mul_one]
       omega
end
end M
namespace M
open PySem L2
def Zbr (rs:List (Int×Int)) (c:Bool) (ns:List Int):List Int:=((Zan ns c).map (Zfm rs)).mergeSort λa b=>decide (a<=b)
theorem ZbN (rs:List (Int×Int)) (c:Bool) (ns:List Int):(Zbr rs c ns).Perm ((Zan ns c).map (Zfm rs)):=List.mergeSort_perm _ _
theorem Zdc (rs:List (Int×Int)) (c:Bool) (ns:List Int):(Zbr rs c ns).Pairwise (· <= ·):=by
 refine (List.pairwise_mergeSort (le:=λa b:Int=>decide (a<=b)) (λa b c h1 h2=>?_) (λa b=>?_) _).imp λh=>of_decide_eq_true h
 ·have h1:=of_decide_eq_true h1
  have h2:=of_decide_eq_true h2
  exact decide_eq_true (by omega)
 ·by_cases h:a<=b
  ·simp [h]
  ·have:b<=a:=by omega
   simp [this]
theorem ZiP {rs:List (Int×Int)} {c:Bool} {ns ms:List Int} (pm:ms.Perm ((Zan ns c).map (Zfm rs))) (so:ms.Pairwise (· <= ·)):ms=Zbr rs c ns:=
 PySem.W.ksm_same (pm.trans (ZbN rs c ns).symm) so (Zdc rs c ns)
theorem Way.ir {k:Int} {rs:List (Int×Int)} {p q:Int} {ns:List Int} (g:Zaf k rs) (hp:0<=p/\p<k) (h:Way rs p q ns):∀ x∈ns,0<=x/\x<k:=by
 obtain ⟨h1,h2,h3,h4⟩:=h
 intro x hx
 cases ns with
 | nil=>cases hx
 | cons a tl=>
  have h2:a=p:=h2
  subst h2
  rcases List.mem_cons.mp hx with rfl | hx
  ·exact hp
  ·obtain ⟨j,hj⟩:=List.mem_iff_getElem?.mp hx
   have hlt:=(List.getElem?_eq_some_iff.mp hj).1
   have:((a::tl)[j]'(by rw [List.length_cons];omega),x)∈Zan (a::tl) false:=by
    unfold Zan
    rw [if_neg Bool.false_ne_true,List.append_nil]
    refine List.mem_iff_getElem?.mpr ⟨j,List.getElem?_zip_eq_some.mpr ⟨List.getElem?_eq_getElem _,?_⟩⟩
    show tl[j]?=some x
    exact hj
   exact Zdv g (h4.1 _ this)
theorem Way.len {k:Int} {rs:List (Int×Int)} {p q:Int} {ns:List Int} (g:Zaf k rs) (hp:0<=p/\p<k) (h:Way rs p q ns):ns.length<=16:=by
 have:=nodup_range (k:=k.toNat) h.2.2.2.2 λx hx=>by have:=h.ir g hp x hx;omega
 have:=g.2.1
 omega
section
variable {P:Program} {w:World} {K:PySem.W.Frag} {mg:Str->Option Value} {base:Heap}
def Srt (l:List (List Int)):Prop:=l.Pairwise λa b=>Zcz b a=false
def ZlS (TM:Addr):Sp:=λvs H Q E=>∃ (sl:Addr) (zs:List (Addr×List Int)),vs=[.ref sl]/\H sl=some (.lst (zs.map λz=>V.ref z.1))/\Lz H zs /\
 (300<zs.length->E (.ref TM) none H)/\(zs.length<=300->∀ (l:Addr) (zs':List (Addr×List Int)),H l=none->zs'.Perm zs->Srt (zs'.map (·.2))->Q (.ref l) (upd H l (.lst (zs'.map λz=>V.ref z.1))))
theorem Zor:Zau ["sets"] ["sets"] (Zae Zku):=⟨rfl,rfl,rfl,by decide +kernel,rfl,by decide +kernel,by decide +kernel⟩
theorem Znl {f TM:Addr} {fd:FuncData} {tM:Tok} (F:Fun K "told_sets" "told_sets" Zku f fd) (mMoW:mg "MOST_WAYS" = some (.int 300 tM)) (mTM:mg "TooMany" = some (.ref TM)) (xTM:ExcC K TM) (mLen:mg "len" = none) (mSor:mg "sorted" = none) :
  ZaI P w K mg base (CXr P w) 1 f fd ["sets"] (ZlS TM):=by
 refine F.okR Zor (λvs H Q E h=>?_) (λcdv A outer s H vs Q E hr h=>?_)
 ·obtain ⟨_,_,rfl,_⟩:=h
  rfl
 ·obtain ⟨sl,zs,rfl,hs,lz,h1,h2⟩:=h
  have hu:=hr.units
  refine ⟨_,Zad (Zbb (Zar ZnP (Zax (ZhU K) rfl mLen PySem.boot_len (Zaa (pv 0) Zac)) (Zhs (v:=.int 300) rfl mMoW ⟨_,rfl⟩) (ZaB _)) (Zah (Zc3 (E:=E) rfl Zbp rfl mTM xTM (Zaa Zf2 Zac))) ZaC)
    (Zah (Zaw (Zax (ZfP K hu) rfl mSor PyProof.Rows.boot_sorted (Zaa (pv 0) Zac)))),?_⟩
  refine ⟨_,rfl,sl,_,rfl,.inl (SqL.of hs),_,_,rfl,rfl,_,rfl,?_⟩
  rw [List.length_map]
  by_cases h:300<zs.length
  ·have:decide ((zs.length:Int) > 300)=true:=decide_eq_true (by omega)
   rw [this]
   refine Zbz ?_
   exact ⟨by show 1<=sizeLine;rw [sizeLine_eq];omega,h1 h⟩
  ·have:decide ((zs.length:Int) > 300)=false:=decide_eq_false (by omega)
   rw [this]
   refine Zbo ?_
   exact ⟨_,rfl,sl,zs,rfl,SqL.of hs,λz hz=>SqL.of (lz z hz),λl zs' hl p so=>h2 (by omega) l zs' hl p so⟩
end
end M
namespace M
open PySem L2
section
variable {P:Program} {w:World} {K:PySem.W.Frag} {mg:Str->Option Value} {base:Heap}
def Zj7 (C TM:Addr):Sp:=λvs H Q E=>∃ (wb l:Addr) (k p q:Int) (xs:List V) (rs:List (Int×Int)),vs=[.ref wb,.int p,.int q]/\WebAt H wb l k xs rs/\Zaf k rs /\
 ((¬ Ends k p q/\E (.ref C) none H)\/(Ends k p q/\∀ W,Wys rs p q W->(300<W.length->∀ H':Hp,Same H H'->E (.ref TM) none H') /\
  (W.length<=300->∀ (l:Addr) (zs:List (Addr×List Int)) (H':Hp),Same H H'->H l=none->H' l=some (.lst (zs.map λz=>V.ref z.1))->Lz H' zs->(∀ z∈zs,H z.1=none/\z.1≠l)->(zs.map (·.2)).Perm (W.map (Zbr rs false))->Srt (zs.map (·.2))->Q (.ref l) H')))
theorem Zos:Zau ["web", "one", "other"] ["web", "one", "other"] (Zae ZjT):=⟨rfl,rfl,rfl,by decide +kernel,rfl,by decide +kernel,by decide +kernel⟩
theorem Znm {f fH fWb fTs fR C TM:Addr} {dV:Value} {fd fdH fdWb fdTs fdR:FuncData} (F:Fun K "every_way" "every_way" ZjT f fd) (FH:Fun K "check_ends" "check_ends" ZjR fH fdH) (bH:Binds K fdH ["web", "one", "other"] []) (mH:mg "check_ends" = some (.ref fH)) (GH:ZaI P w K mg base (CXr P w) 2 fH fdH ["web", "one", "other"] (ZjZ C))
  (FWb:Fun K "ways_between" "ways_between" ZjS fWb fdWb) (bWb:Binds K fdWb ["web", "one", "other"] []) (mWb:mg "ways_between" = some (.ref fWb)) (GWb:ZaI P w K mg base CX0 4 fWb fdWb ["web", "one", "other"] ZlR)
  (FTs:Fun K "told_sets" "told_sets" Zku fTs fdTs) (bTs:Binds K fdTs ["sets"] []) (mTs:mg "told_sets" = some (.ref fTs)) (GTs:ZaI P w K mg base (CXr P w) 1 fTs fdTs ["sets"] (ZlS TM))
  (FR:FunD K "roads_of" "roads_of" ZfQ dV fR fdR) (bR2:Binds K fdR ["web", "places", "closed"] [.bool false]) (mR:mg "roads_of" = some (.ref fR)) (GR:ZaI P w K mg base CX0 2 fR fdR ["web", "places", "closed"] ZlF) :
  ZaI P w K mg base (CXr P w) 5 f fd ["web", "one", "other"] (Zj7 C TM):=by
 refine F.okR Zos (λvs H Q E h=>?_) (λcdv A outer s H vs Q E hr h=>?_)
 ·obtain ⟨_,_,_,_,_,_,_,rfl,_⟩:=h
  rfl
 ·obtain ⟨wb,l,k,p,q',xs,rs,rfl,W,g,h⟩:=h
  have h16:(16777216:Nat)=sizeLine:=sizeLine_eq.symm
  refine ⟨_,Zad (Za6 (Zak GH (hr.mono (by decide)) rfl mH FH.kp bH .nil ZgT (Zaa (pv 0) (Zaa (pv 1) (Zaa (pv 2) Zac)))))
    (Zah (Zaw (Zak GTs (hr.mono (by decide)) rfl mTs FTs.kp bTs .nil ZgT (Zaa (ZaO (own:=["places"]) rfl (Zaj (fr:=[("web", 0)]) [(".0", .local),("places", .local),("roads_of", .globalImplicit),("web", .cell)] rfl rfl (by decide +kernel) rfl (by decide +kernel) ⟨rfl,trivial⟩ ⟨λh=>ZaA h,λh=>ZaA h,λh=>ZaA h,λ_=>⟨_,rfl⟩,trivial⟩ ⟨⟨rfl,.inl rfl,.inl rfl⟩,trivial⟩) (ZbA K (Zak GWb (hr.mono (by decide)) rfl mWb FWb.kp bWb .nil ZaL (Zaa (pv 0) (Zaa (pv 1) (Zaa (pv 2) Zac))))) (λ_ _ _ _=>Zao (i:=0) (show List.Nodup (["places", "web"]:List Str) by decide +kernel) rfl (Or.inl rfl)) (λ_ _ _ _=>ZaZ) (λ_ _ _ _=>Zak (dvs:=[V.bl false]) GR (hr.mono (by decide)) rfl mR FR.kp bR2 (.cons rfl .nil) ZaL (Zaa (pv 1) (Zaa (pv 0) Zac)))) Zac)))),?_⟩
  rcases h with ⟨en,e⟩ | ⟨en,h⟩
  ·exact ⟨_,rfl,_,rfl,_,rfl,wb,l,k,p,q',rfl,W.w,.inr ⟨en,e⟩⟩
  refine ⟨_,rfl,_,rfl,_,rfl,wb,l,k,p,q',rfl,W.w,.inl ⟨en,?_⟩⟩
  refine ⟨_,rfl,_,rfl,_,rfl,wb,l,k,p,q',xs,rs,rfl,W,g,en,λwa zs H1 s1 hwa ewa lz fz wy=>?_⟩
  have lzs:zs.length<=301:=by have:=wy.ln;rw [List.length_map] at this;exact this
  refine ⟨wa,rfl,⟨_,SqL.of ewa⟩,λD hD=>?_⟩
  refine ZaF (K:=K) (a:=wa) (xs:=zs.map λz=>V.ref z.1) (λj ys H2=>Same H1 H2/\H2 D=some (.lst ys)/\∃ cz:List (Addr×List Int),ys=cz.map (λz=>V.ref z.1)/\Lz H2 cz/\(∀ z∈cz,z.1≠D/\H1 z.1=none)/\cz.map (·.2)=((zs.take j).map (·.2)).map (Zbr rs false)) ⟨Same.new hD,Zab,[],rfl,λz hz=>(by cases hz),λz hz=>(by cases hz),rfl⟩ (λj ys H2 _ ⟨s2,_⟩=>SqL.of (s2 _ _ ewa)) ?_ ?_
  ·rintro j x ys H2 hxj ⟨s2,eD2,cz,rfl,l2,f2,m2⟩
   rw [List.getElem?_map] at hxj
   cases hz:zs[j]? with
   | none=>rw [hz] at hxj;cases hxj
   | some z=>
    rw [hz] at hxj
    cases hxj
    have hzm:z∈zs:=List.mem_of_getElem? hz
    have hw:Way rs p q' z.2:=wy.ww z.2 (List.mem_map.mpr ⟨z,hzm,rfl⟩)
    have hstep:zs.take (j+1)=zs.take j++[z]:=by rw [List.take_add_one,hz];rfl
    have lcz:cz.length<=301:=by
     have h1:cz.length=(cz.map (·.2)).length:=by rw [List.length_map]
     rw [h1,m2,List.length_map,List.length_map,List.length_take]
     omega
    refine ⟨⟨rfl,trivial⟩,?_⟩
    unfold Zhk
    refine Zbz ?_
    refine ⟨_,rfl,_,rfl,wb,l,z.1,k,xs,rs,z.2,false,rfl,W.same (s1.trans s2),g,s2 _ _ (lz z hzm),by have:=hw.len g en.1;omega,λz=>absurd z Bool.false_ne_true,hw.2.2.2.1,λre ms H3 s3 hre ere pm so=>?_⟩
    have hDr:D≠re:=λe=>by rw [<-e,eD2] at hre;cases hre
    refine ⟨s3 _ _ eD2,by rw [List.length_map];omega,(s2.trans s3).put hD,Zab,cz++[(re,ms)],by rw [List.map_append];rfl,λy hy=>?_,λy hy=>?_,?_⟩
    ·rcases List.mem_append.mp hy with hy | hy
     ·exact Zal (s3 _ _ (l2 y hy)) (f2 y hy).1
     ·rw [List.mem_singleton.mp hy]
      exact Zal ere (Ne.symm hDr)
    ·rcases List.mem_append.mp hy with hy | hy
     ·exact f2 y hy
     ·rw [List.mem_singleton.mp hy]
      exact ⟨Ne.symm hDr,s2.free hre⟩
    ·rw [List.map_append,m2,hstep,List.map_append,List.map_append,ZiP pm so]
     rfl
  ·rintro ys H2 ⟨s2,eD2,cz,rfl,l2,f2,m2⟩
   rw [List.length_map,List.take_length] at m2
   obtain ⟨hm,hl⟩:=h (zs.map (·.2)) wy
   have lc:cz.length=zs.length:=by
    have:=congrArg List.length m2
    rw [List.length_map,List.length_map,List.length_map] at this
    exact this
   rw [List.length_map] at hm hl
   have s12:=s1.trans s2
   refine ⟨D,cz,rfl,eD2,l2,λh3=>hm (by omega) H2 s12,λh3 r zs' hr' pm so=>?_⟩
   refine hl (by omega) r zs' _ (s12.put (s12.free hr')) (s12.free hr') Zab (λy hy=>?_) (λy hy=>?_) ?_ so
   ·have hy':=pm.mem_iff.mp hy
    exact Zal (l2 y hy') λe=>by rw [<-e,l2 y hy'] at hr';cases hr'
   ·have hy':=pm.mem_iff.mp hy
    exact ⟨s1.free (f2 y hy').2,λe=>by rw [<-e,l2 y hy'] at hr';cases hr'⟩
   ·rw [<-m2]
    exact pm.map _
theorem ZgC {H:Hp}:∀ {xs:List V} {rs:List (Int×Int)},Prs H xs rs->∀ i:Nat,Prs H (xs.drop i) (rs.drop i)
 | _,_,.nil,i=>by rw [List.drop_nil,List.drop_nil];exact .nil
 | _,_,.cons e r,0=>.cons e r
 | _,_,.cons _ r,i+1=>by rw [List.drop_succ_cons,List.drop_succ_cons];exact ZgC r i
def Wyc (rs:List (Int×Int)) (j:Nat) (W:List (List Int)):Prop:=∃ t,rs[j]?=some t/\Wys (rs.drop (j+1)) t.1 t.2 W
inductive Rgs (rs:List (Int×Int)):Nat->List (List Int)->Prop
 | nil:Rgs rs 0 []
 | one {j:Nat} {R W:List (List Int)}:Rgs rs j R->R.length<=300->Wyc rs j W->Rgs rs (j+1) (R++W)
def ZlT (TM:Addr):Sp:=λvs H Q E=>∃ (wb l:Addr) (k:Int) (xs:List V) (rs:List (Int×Int)),vs=[.ref wb]/\WebAt H wb l k xs rs/\Zaf k rs /\
 (∀ j R,Rgs rs j R->j<=rs.length->300<R.length->∀ H':Hp,Same H H'->E (.ref TM) none H') /\
 (∀ R,Rgs rs rs.length R->R.length<=300->∀ (l:Addr) (zs:List (Addr×List Int)) (H':Hp),Same H H'->H l=none->H' l=some (.lst (zs.map λz=>V.ref z.1))->Lz H' zs->(∀ z∈zs,H z.1=none/\z.1≠l)->(zs.map (·.2)).Perm (R.map (Zbr rs true))->Srt (zs.map (·.2))->Q (.ref l) H')
theorem scEvc:Zau ["web", "sets", "number", "road", "later", "ways"] ["web"] (Zae Zkv):=⟨rfl,rfl,rfl,by decide +kernel,rfl,by decide +kernel,by decide +kernel⟩
theorem Znn {f fWb fTs fR TM:Addr} {dV:Value} {fd fdWb fdTs fdR:FuncData} (F:Fun K "every_closed" "every_closed" Zkv f fd)
  (FWb:Fun K "ways_between" "ways_between" ZjS fWb fdWb) (bWb:Binds K fdWb ["web", "one", "other"] []) (mWb:mg "ways_between" = some (.ref fWb)) (GWb:ZaI P w K mg base CX0 4 fWb fdWb ["web", "one", "other"] ZlR)
  (FTs:Fun K "told_sets" "told_sets" Zku fTs fdTs) (bTs:Binds K fdTs ["sets"] []) (mTs:mg "told_sets" = some (.ref fTs)) (GTs:ZaI P w K mg base (CXr P w) 1 fTs fdTs ["sets"] (ZlS TM))
  (FR:FunD K "roads_of" "roads_of" ZfQ dV fR fdR) (bR:Binds K fdR ["web", "places", "closed"] []) (mR:mg "roads_of" = some (.ref fR)) (GR:ZaI P w K mg base CX0 2 fR fdR ["web", "places", "closed"] ZlF) (mEnum:mg "enumerate" = none) :
  ZaI P w K mg base (CXr P w) 5 f fd ["web"] (ZlT TM):=by
 refine F.okR scEvc (λvs H Q E h=>?_) (λcdv A outer s H vs Q E hr h=>?_)
 ·obtain ⟨_,_,_,_,_,rfl,_⟩:=h
  rfl
 ·obtain ⟨wb,l,k,xs,rs,rfl,W,g,hm,hl⟩:=h
  have h16:(16777216:Nat)=sizeLine:=sizeLine_eq.symm
  refine ⟨_,Zad (Zav (i:=1) scEvc.nd rfl (Or.inl rfl) (ZaX Zac))
    (Zad (Zci PassesOwn.leaving rfl (Zk4 K rfl mEnum (Zaa (ZaJ (ZcM K) (pv 0) Zai (λ_ _=>rfl)) Zac)) (Zk0 K (n:=2) rfl (ZaP (Zao (i:=2) scEvc.nd rfl (Or.inl rfl)) (ZaP (Zao (i:=3) scEvc.nd rfl (Or.inl rfl)) Zca)))
    (Zad (Zav (i:=4) scEvc.nd rfl (Or.inl rfl) (Zbn (Zaa (ZaJ (ZcM K) (pv 0) Zai (λ_ _=>rfl)) (Zaa (Zd5 (kSl K) (ZaJ (ZcM K) (pv 0) Zai (λ_ _=>rfl)) (Zfs (Zaz ZaW (pv 2) Zai)) Zfr) Zac))))
    (Zad (Zav (i:=5) scEvc.nd rfl (Or.inl rfl) (Zak GWb (hr.mono (by decide)) rfl mWb FWb.kp bWb .nil ZaL (Zaa (pv 4) (Zaa (ZaJ (ZcM K) (pv 3) Zai (λ_ _=>rfl)) (Zaa (ZaJ (ZcM K) (pv 3) Zai (λ_ _=>rfl)) Zac)))))
    (Zah (Zav (i:=1) scEvc.nd rfl (Or.inl rfl) (Zak GTs (hr.mono (by decide)) rfl mTs FTs.kp bTs .nil ZgT (Zaa (Zaz Zf5 (pv 1) (ZaO (own:=["places"]) rfl (Zaj (fr:=[("web", 0)]) [(".0", .local),("places", .local),("roads_of", .globalImplicit),("web", .cell)] rfl rfl (by decide +kernel) rfl (by decide +kernel) ⟨rfl,trivial⟩ ⟨λh=>ZaA h,λh=>ZaA h,λh=>ZaA h,λ_=>⟨_,rfl⟩,trivial⟩ ⟨⟨rfl,.inl rfl,.inl rfl⟩,trivial⟩) (ZbA K (pv 5)) (λ_ _ _ _=>Zao (i:=0) (show List.Nodup (["places", "web"]:List Str) by decide +kernel) rfl (Or.inl rfl)) (λ_ _ _ _=>ZaZ) (λ_ _ _ _=>Zak GR (hr.mono (by decide)) rfl mR FR.kp bR .nil ZaL (Zaa (pv 1) (Zaa (pv 0) (Zaa ZbB Zac)))))) Zac)))))))
    (Zah (Zaw (pv 1)))),?_⟩
  have hx:xs.length<=30:=by rw [W.p.len];exact g.2.2.1
  refine ⟨Nat.zero_le _,λs0 hs0=>?_⟩
  have s1:Same H (upd H s0 (.lst [])):=Same.new hs0
  refine ⟨_,rfl,wb,_,_,_,rfl,rfl,SqT.of (s1 _ _ W.w),Zas (j:=1) rfl,l,xs,rfl,SqL.of (s1 _ _ W.l),?_⟩
  refine Zgg (K:=K) (a:=l) (xs:=xs) (λi σ H2=>∃ (v2 v3 v4 v5:Option V) (sl:Addr) (zs:List (Addr×List Int)) (R:List (List Int)),σ=[some (.ref wb),some (.ref sl),v2,v3,v4,v5]/\Same H H2/\H sl=none/\H2 sl=some (.lst (zs.map λz=>V.ref z.1))/\Lz H2 zs/\(∀ z∈zs,H z.1=none/\z.1≠sl)/\Rgs rs i R/\R.length<=300/\(zs.map (·.2)).Perm (R.map (Zbr rs true))/\Srt (zs.map (·.2)))
   ⟨none,none,none,none,s0,[],[],rfl,s1,hs0,Zab,λz hz=>(by cases hz),λz hz=>(by cases hz),.nil,by simp,.refl _,.nil⟩ (λi σ H2 _ ⟨_,_,_,_,_,_,_,_,s2,_⟩=>SqL.of (s2 _ _ W.l)) ?_ ?_
  ·rintro i x σ H2 T hxi ⟨v2,v3,v4,v5,sl,zs,R,rfl,s2,hsl,esl,lz,fz,rg,r300,pm,so⟩ hT
   obtain ⟨t,r,rfl,et,er⟩:=(W.same s2).p.get hxi
   have hi:i<xs.length:=(List.getElem?_eq_some_iff.mp hxi).1
   have lzR:zs.length=R.length:=by
    have:=pm.length_eq
    rw [List.length_map,List.length_map] at this
    exact this
   have s23:Same H2 (upd H2 T (.tup [.int (i:Nat),.ref t])):=Same.new hT
   refine ⟨T,_,rfl,SqT.of Zab,rfl,_,_,rfl,_,_,rfl,rfl,?_⟩
   generalize upd H2 T (.tup [.int (i:Nat),.ref t])=H3 at s23 ⊢
   have s3:=s2.trans s23
   have W3:=W.same s3
   refine ⟨_,rfl,wb,_,_,_,rfl,rfl,SqT.of W3.w,Zas (j:=0) rfl,_,rfl,wb,_,_,_,rfl,rfl,SqT.of W3.w,Zas (j:=1) rfl,_,rfl,_,_,rfl,rfl,_,rfl,l,xs,rfl,SqL.of W3.l,λla hla=>⟨Zby,λlt hlt=>?_⟩⟩
   dsimp only [ZcL]
   have ecut:Zfl xs (some ((i:Int)+1)) none=xs.drop (i+1):=by
    have:=Zga (xs:=xs) (k:=i+1)
    rw [<-this]
    congr 1
   have hla':=hla
   rw [ecut] at hlt ⊢
   have s4:Same H3 (upd H3 la (.lst (xs.drop (i+1)))):=Same.new hla
   have e4:upd H3 la (.lst (xs.drop (i+1))) la=some (.lst (xs.drop (i+1))):=Zab
   generalize upd H3 la (.lst (xs.drop (i+1)))=H4 at s4 e4 hlt ⊢
   have s5:Same H4 (upd H4 lt (.tup [.int k,.ref la])):=Same.new hlt
   have e5:upd H4 lt (.tup [.int k,.ref la]) lt=some (.tup [.int k,.ref la]):=Zab
   generalize upd H4 lt (.tup [.int k,.ref la])=H5 at s5 e5 ⊢
   have s35:=s4.trans s5
   have S5:=s3.trans s35
   have hr:r∈rs:=List.mem_of_getElem? er
   have gr:=g.2.2.2.1 r hr
   have en:Ends k r.1 r.2:=⟨⟨by omega,by omega⟩,⟨by omega,by omega⟩,by omega⟩
   have g':Zaf k (rs.drop (i+1)):=⟨g.1,g.2.1,by have:=g.2.2.1;rw [List.length_drop];omega,λy hy=>g.2.2.2.1 y (List.mem_of_mem_drop hy),g.2.2.2.2.sublist (List.drop_sublist _ _)⟩
   have W5:WebAt H5 lt la k (xs.drop (i+1)) (rs.drop (i+1)):=⟨e5,s5 _ _ e4,ZgC (W.same S5).p (i+1)⟩
   have et5:=s35 _ _ (s23 _ _ et)
   refine ⟨_,rfl,_,rfl,t,_,_,_,rfl,rfl,SqT.of et5,Zas (j:=0) rfl,_,rfl,t,_,_,_,rfl,rfl,SqT.of et5,Zas (j:=1) rfl,?_⟩
   refine ⟨lt,la,k,r.1,r.2,_,_,rfl,W5,g',en,λwa ws H6 s6 hwa ewa lw fw wy=>?_⟩
   dsimp only [ZcL]
   have lws:ws.length<=301:=by have:=wy.ln;rw [List.length_map] at this;exact this
   have S6:=S5.trans s6
   have s26:=s23.trans (s35.trans s6)
   have sub:∀ y∈rs.drop (i+1),y∈rs:=λy hy=>List.mem_of_mem_drop hy
   refine ⟨_,rfl,_,rfl,wa,rfl,⟨_,SqL.of ewa⟩,λD hD=>?_⟩
   refine ZaF (K:=K) (a:=wa) (xs:=ws.map λz=>V.ref z.1) (λj ys H7=>Same H6 H7/\H7 D=some (.lst ys)/\∃ cz:List (Addr×List Int),ys=cz.map (λz=>V.ref z.1)/\Lz H7 cz/\(∀ z∈cz,z.1≠D/\H6 z.1=none)/\cz.map (·.2)=((ws.take j).map (·.2)).map (Zbr rs true)) ⟨Same.new hD,Zab,[],rfl,λz hz=>(by cases hz),λz hz=>(by cases hz),rfl⟩ (λj ys H7 _ ⟨s7,_⟩=>SqL.of (s7 _ _ ewa)) ?_ ?_
   ·rintro j x ys H7 hxj ⟨s7,eD7,cz,rfl,l7,f7,m7⟩
    rw [List.getElem?_map] at hxj
    cases hz:ws[j]? with
    | none=>rw [hz] at hxj;cases hxj
    | some z=>
     rw [hz] at hxj
     cases hxj
     have hzm:z∈ws:=List.mem_of_getElem? hz
     have hw:Way (rs.drop (i+1)) r.1 r.2 z.2:=wy.ww z.2 (List.mem_map.mpr ⟨z,hzm,rfl⟩)
     have hstep:ws.take (j+1)=ws.take j++[z]:=by rw [List.take_add_one,hz];rfl
     have lcz:cz.length<=301:=by
      have h1:cz.length=(cz.map (·.2)).length:=by rw [List.length_map]
      rw [h1,m7,List.length_map,List.length_map,List.length_take]
      omega
     refine ⟨⟨rfl,trivial⟩,?_⟩
     unfold Zhk
     refine Zbz ?_
     refine ⟨_,rfl,_,rfl,wb,l,z.1,k,xs,rs,z.2,true,rfl,W.same (S6.trans s7),g,s7 _ _ (lw z hzm),by have:=hw.len g' en.1;omega,λ_=>hw.1,?_,λre ms H8 s8 hre ere pm' so'=>?_⟩
     ·intro y hy
      unfold Zan at hy
      rw [if_pos rfl] at hy
      rcases List.mem_append.mp hy with hy | hy
      ·refine ZlL sub (hw.2.2.2.1 y ?_)
       unfold Zan
       rw [if_neg Bool.false_ne_true,List.append_nil]
       exact hy
      ·rw [List.mem_singleton.mp hy]
       show Adj rs (z.2.getD (z.2.length-1) 0) (z.2.getD 0 0)
       rw [hw.2.1,hw.2.2.1]
       exact .inr hr
     have hDr:D≠re:=λe=>by rw [<-e,eD7] at hre;cases hre
     refine ⟨s8 _ _ eD7,by rw [List.length_map];omega,(s7.trans s8).put hD,Zab,cz++[(re,ms)],by rw [List.map_append];rfl,λy hy=>?_,λy hy=>?_,?_⟩
     ·rcases List.mem_append.mp hy with hy | hy
      ·exact Zal (s8 _ _ (l7 y hy)) (f7 y hy).1
      ·rw [List.mem_singleton.mp hy]
       exact Zal ere (Ne.symm hDr)
     ·rcases List.mem_append.mp hy with hy | hy
      ·exact f7 y hy
      ·rw [List.mem_singleton.mp hy]
       exact ⟨Ne.symm hDr,s7.free hre⟩
     ·rw [List.map_append,m7,hstep,List.map_append,List.map_append,ZiP pm' so']
      rfl
   ·rintro ys H7 ⟨s7,eD7,cz,rfl,l7,f7,m7⟩
    rw [List.length_map,List.take_length] at m7
    have S7:=S6.trans s7
    have s27:=s26.trans s7
    have lc:cz.length=ws.length:=by
     have:=congrArg List.length m7
     rw [List.length_map,List.length_map,List.length_map] at this
     exact this
    refine ⟨sl,D,_,_,rfl,rfl,s27 _ _ esl,eD7,by rw [List.length_map,List.length_map];omega,λca hca=>?_⟩
    have s8:Same H7 (upd H7 ca (.lst ((zs.map λz=>V.ref z.1)++(cz.map λz=>V.ref z.1)))):=Same.new hca
    have e8:upd H7 ca (.lst ((zs.map λz=>V.ref z.1)++(cz.map λz=>V.ref z.1))) ca=some (.lst ((zs++cz).map λz=>V.ref z.1)):=by rw [Zab,List.map_append]
    generalize upd H7 ca (.lst ((zs.map λz=>V.ref z.1)++(cz.map λz=>V.ref z.1)))=H8 at s8 e8 ⊢
    have l8:Lz H8 (zs++cz):=λy hy=>by
     rcases List.mem_append.mp hy with hy | hy
     ·exact s8 _ _ (s27 _ _ (lz y hy))
     ·exact s8 _ _ (l7 y hy)
    have f8:∀ y∈zs++cz,H y.1=none:=λy hy=>by
     rcases List.mem_append.mp hy with hy | hy
     ·exact (fz y hy).1
     ·exact S6.free (f7 y hy).2
    have rg':Rgs rs (i+1) (R++ws.map (·.2)):=rg.one r300 ⟨r,er,wy⟩
    have pm8:((zs++cz).map (·.2)).Perm ((R++ws.map (·.2)).map (Zbr rs true)):=by
     rw [List.map_append,List.map_append,m7]
     exact pm.append_right _
    have ln8:(zs++cz).length=(R++ws.map (·.2)).length:=by rw [List.length_append,List.length_append,List.length_map,lzR,lc]
    refine ⟨ca,zs++cz,rfl,e8,l8,λh3=>hm (i+1) _ rg' (by have:=W.p.len;omega) (by omega) H8 (S7.trans s8),λh3 rl zs' hrl pm' so'=>?_⟩
    have S8:=S7.trans s8
    refine ⟨_,_,_,_,rl,zs',R++ws.map (·.2),rfl,S8.put (S8.free hrl),S8.free hrl,Zab,λy hy=>?_,λy hy=>?_,rg',by omega,(pm'.map _).trans pm8,so'⟩
    ·have hy':=pm'.mem_iff.mp hy
     exact Zal (l8 y hy') λe=>by rw [<-e,l8 y hy'] at hrl;cases hrl
    ·have hy':=pm'.mem_iff.mp hy
     exact ⟨f8 y hy',λe=>by rw [<-e,l8 y hy'] at hrl;cases hrl⟩
  ·rintro σ H2 ⟨v2,v3,v4,v5,sl,zs,R,rfl,s2,hsl,esl,lz,fz,rg,r300,pm,so⟩
   rw [W.p.len] at rg
   exact ⟨_,rfl,hl R rg r300 sl zs H2 s2 hsl esl lz fz pm so⟩
end
end M
namespace M
open PySem L2
def edg (ns:List Int) (c:Bool):List (Int×Int):=(Zan ns c).map λt=>Zbv t.1 t.2
theorem Zdy (p q:Int):Zbv p q=Zbv q p:=by
 unfold Zbv
 by_cases h1:q<p
 ·rw [if_pos h1,if_neg (show ¬ q > p by omega),if_neg (show ¬ p<q by omega),if_pos (show p > q by omega)]
 ·by_cases h2:q > p
  ·rw [if_neg h1,if_pos h2,if_pos (show p<q by omega),if_neg (show ¬ p > q by omega)]
  ·rw [show p=q by omega]
theorem Zj8 {p q q':Int} (h:Zbv p q=Zbv p q'):q=q':=by
 unfold Zbv at h
 have e:=Prod.mk.inj h
 split at e <;> split at e <;> split at e <;> split at e <;> omega
theorem ZaG {k:Int} {rs:List (Int×Int)} {ns:List Int} {c:Bool} (g:Zaf k rs) (o:Zc1 rs ns c) (hc:c=true->3<=ns.length):Zb2 rs (Zbr rs c ns)/\((Zbr rs c ns).map (road rs)).Perm (edg ns c):=by
 refine ⟨Zev g o hc (ZbN rs c ns) (Zdc rs c ns),?_⟩
 have:=(ZbN rs c ns).map (road rs)
 rw [Zb1 g o.1] at this
 exact this
theorem ZiQ {k:Int} {rs:List (Int×Int)} {ns S:List Int} {c:Bool} (g:Zaf k rs) (o:Zc1 rs ns c) (hc:c=true->3<=ns.length) (hS:Zb2 rs S) (h:(S.map (road rs)).Perm (edg ns c)):Zbr rs c ns=S:=
 ZlN g hS o hc h (ZbN rs c ns) (Zdc rs c ns)
theorem Zfg {k:Int} {rs:List (Int×Int)} {ns ms:List Int} {c d:Bool} (g:Zaf k rs) (o:Zc1 rs ns c) (hc:c=true->3<=ns.length) (o2:Zc1 rs ms d) (hd:d=true->3<=ms.length) (h:(edg ns c).Perm (edg ms d)):Zbr rs c ns=Zbr rs d ms:=
 ZiQ g o hc (ZaG g o2 hd).1 ((ZaG g o2 hd).2.trans h.symm)
theorem Zdz (ns:List Int):edg ns false=ZaN ns:=(ZbM ns).symm
theorem ZcF (s:Int) (tl:List Int):edg (s::tl) true=ZaN (s::(tl++[s])):=Zfc s tl
theorem ZcG {k:Int} {rs:List (Int×Int)} {ns:List Int} {c:Bool} (g:Zaf k rs):Zc1 rs ns c↔(∀ e∈edg ns c,e∈rs)/\ns.Nodup:=by
 have hlt:∀ r∈rs,r.1<r.2:=λr hr=>(g.2.2.2.1 r hr).2.1
 constructor
 ·rintro ⟨h1,h2⟩
  refine ⟨λe he=>?_,h2⟩
  obtain ⟨t,ht,rfl⟩:=List.mem_map.mp he
  exact (Zdb hlt _ _).mpr (h1 t ht)
 ·rintro ⟨h1,h2⟩
  exact ⟨λt ht=>(Zdb hlt _ _).mp (h1 _ (List.mem_map.mpr ⟨t,ht,rfl⟩)),h2⟩
theorem Zce (x:Int):∀ (tl:List Int) (a:Int),ZaN ((a::tl)++[x])=ZaN (a::tl)++[Zbv ((a::tl).getD tl.length 0) x]
 | [],a=>rfl
 | b::tl,a=>by
  have ih:=Zce x tl b
  show ZaN (a::b::(tl++[x]))=_
  rw [ZaR,ZaR]
  show Zbv a b::ZaN ((b::tl)++[x])=_
  rw [ih]
  rfl
theorem ZdY:∀ ns:List Int,(ZaN ns.reverse).Perm (ZaN ns)
 | []=>.refl _
 | [a]=>.refl _
 | a::b::tl=>by
  have ih:=ZdY (b::tl)
  rw [List.reverse_cons,ZaR]
  obtain ⟨c,r,hr⟩:∃ c r,(b::tl).reverse=c::r:=by
   cases h:(b::tl).reverse with
   | nil=>simp at h
   | cons c r=>exact ⟨c,r,rfl⟩
  have hl:(c::r).getD r.length 0=b:=by
   have e:(c::r).getLast?=some b:=by rw [<-hr,List.getLast?_reverse];rfl
   rw [List.getLast?_eq_getElem?] at e
   rw [List.getD_eq_getElem?_getD]
   simp only [List.length_cons,Nat.add_sub_cancel] at e
   rw [e]
   rfl
  rw [hr] at ih ⊢
  rw [Zce,hl,Zdy b a]
  exact List.perm_append_comm.trans (ih.cons _)
theorem ZdZ {x y:Int}:∀ {ns:List Int},Zbv x y∈ZaN ns->x∈ns/\y∈ns
 | [],h=>by cases h
 | [a],h=>by cases h
 | a::b::tl,h=>by
  rw [ZaR] at h
  rcases List.mem_cons.mp h with h | h
  ·have e:x=a/\y=b\/x=b/\y=a:=by
    unfold Zbv at h
    have e:=Prod.mk.inj h
    split at e <;> split at e <;> split at e <;> split at e <;> omega
   rcases e with ⟨rfl,rfl⟩ | ⟨rfl,rfl⟩ <;> simp
  ·have:=ZdZ h
   exact ⟨List.mem_cons_of_mem _ this.1,List.mem_cons_of_mem _ this.2⟩
theorem Zfh:∀ (tl:List Int) (p:Int) (ls:List (Int×Int)),(p::tl).Nodup->ls.Perm (ZaN (p::tl))->(∀ r∈ls,r.1<r.2)->Wk ls p tl []
 | [],p,ls,_,pm,_=>by
  have:ls=[]:=pm.eq_nil
  subst this
  exact .stop λq a=>by rcases a with a | a <;> cases a
 | q::t,p,ls,nd,pm,hlt=>by
  rw [ZaR] at pm
  have hm:Zbv p q∈ls:=pm.mem_iff.mpr (List.mem_cons_self ..)
  refine .go ((Zdb hlt _ _).mp hm) (λq' a=>?_) (Zfh t q _ (List.nodup_cons.mp nd).2 ?_ (Zj1 hlt))
  ·have:=pm.mem_iff.mp ((Zdb hlt _ _).mpr a)
   rcases List.mem_cons.mp this with e | e
   ·exact Int.le_of_eq (Zj8 e).symm
   ·exact absurd (ZdZ e).1 (List.nodup_cons.mp nd).1
  ·have:=pm.erase (Zbv p q)
   rw [List.erase_cons_head] at this
   exact this
theorem ZcH {rs:List (Int×Int)} {p q:Int} {w:List Int} (h:Way rs p q w):∃ tl,w=p::tl:=by
 obtain ⟨h1,h2,_⟩:=h
 cases w with
 | nil=>exact absurd rfl h1
 | cons a tl=>
  have h2:a=p:=h2
  exact ⟨tl,by rw [h2]⟩
theorem ZgD {k:Int} {rs:List (Int×Int)} {p q:Int} {tl:List Int} (g:Zaf k rs) (en:Ends k p q) (h:Way rs p q (p::tl)):Wk (cho rs (Zbr rs false (p::tl)) rs.length) p tl []/\Zne rs (Zbr rs false (p::tl)) k p q tl:=by
 have o:=h.2.2.2
 have E:=ZaG g o (λz=>absurd z Bool.false_ne_true)
 rw [Zdz] at E
 have b:=Zj4 g en h (ZbN rs false (p::tl)) (Zdc rs false (p::tl)) rfl
 refine ⟨Zfh tl p _ o.2 (by rw [ZlI E.1];exact E.2) (Znd g _),b⟩
theorem ZiR {k:Int} {rs:List (Int×Int)} {p q:Int} {w v:List Int} (g:Zaf k rs) (en:Ends k p q) (h1:Way rs p q w) (h2:Way rs p q v) (e:Zbr rs false w=Zbr rs false v):w=v:=by
 obtain ⟨t,rfl⟩:=ZcH h1
 obtain ⟨u,rfl⟩:=ZcH h2
 have a:=(ZgD g en h1).1
 have c:=(ZgD g en h2).1
 rw [e] at a
 rw [a.det c]
def Cyc (rs:List (Int×Int)) (c:List Int):Prop:=3<=c.length/\Zc1 rs c true
theorem ZlU (a:Int) (tl:List Int):(edg (tl++[a]) true).Perm (edg (a::tl) true):=by
 cases tl with
 | nil=>exact .refl _
 | cons b t=>
  show (edg (b::(t++[a])) true).Perm _
  rw [ZcF,ZcF]
  show (ZaN ((b::(t++[a]))++[b])).Perm (ZaN (a::b::(t++[a])))
  rw [Zce,ZaR]
  have e:(b::(t++[a])).getD (t++[a]).length 0=a:=by
   rw [List.length_append,List.length_singleton,List.getD_eq_getElem?_getD,List.getElem?_cons_succ,List.getElem?_append_right (Nat.le_refl _),Nat.sub_self]
   rfl
  rw [e]
  exact List.perm_append_comm
theorem Zez:∀ (u v:List Int),(edg (v++u) true).Perm (edg (u++v) true)
 | [],v=>by rw [List.append_nil,List.nil_append]
 | a::u,v=>by
  have ih:=Zez u (v++[a])
  rw [List.append_assoc] at ih
  refine ih.trans ?_
  rw [<-List.append_assoc]
  exact ZlU a (u++v)
theorem ZlV (c:List Int):(edg c.reverse true).Perm (edg c true):=by
 cases c with
 | nil=>exact .refl _
 | cons s tl=>
  rw [List.reverse_cons]
  refine (Zez [s] tl.reverse).trans ?_
  show (edg (s::tl.reverse) true).Perm _
  rw [ZcF,ZcF]
  have:=ZdY (s::(tl++[s]))
  rw [List.reverse_cons,List.reverse_append] at this
  exact this
theorem ZkE {k:Int} {rs:List (Int×Int)} {c d:List Int} (g:Zaf k rs) (h:Cyc rs c) (pe:(edg d true).Perm (edg c true)) (pp:d.Perm c):Cyc rs d/\Zbr rs true d=Zbr rs true c:=by
 have l:3<=d.length:=by rw [pp.length_eq];exact h.1
 have o:Zc1 rs d true:=(ZcG g).mpr ⟨λe he=>((ZcG g).mp h.2).1 e (pe.mem_iff.mp he),pp.nodup_iff.mpr h.2.2⟩
 exact ⟨⟨l,o⟩,Zfg g o (λ_=>l) h.2 (λ_=>h.1) pe⟩
end M
namespace M
open PySem L2
theorem ZiS {α:Type} [DecidableEq α]:∀ {l m:List α},l.Nodup->(∀ x∈l,x∈m)->l.length<=m.length
 | [],m,_,_=>Nat.zero_le _
 | x::l,m,nd,h=>by
  have hx:=h x (List.mem_cons_self ..)
  have ih:=ZiS (l:=l) (m:=m.erase x) (List.nodup_cons.mp nd).2 λy hy=>(List.mem_erase_of_ne (λe=>(List.nodup_cons.mp nd).1 (by rw [<-e];exact hy))).mpr (h y (List.mem_cons_of_mem _ hy))
  rw [List.length_erase_of_mem hx] at ih
  have:=List.length_pos_of_mem hx
  rw [List.length_cons]
  omega
theorem ZfW {α:Type} [DecidableEq α]:∀ {l m:List α},l.Nodup->m.Nodup->(∀ x,x∈l↔x∈m)->l.Perm m
 | [],m,_,_,h=>by
  cases m with
  | nil=>exact .refl _
  | cons y m=>exact absurd ((h y).mpr (List.mem_cons_self ..)) List.not_mem_nil
 | x::l,m,nd,nm,h=>by
  have hx:=(h x).mp (List.mem_cons_self ..)
  refine .trans (.cons x (ZfW (l:=l) (m:=m.erase x) (List.nodup_cons.mp nd).2 (nm.erase x) λy=>?_)) (List.perm_cons_erase hx).symm
  rw [List.Nodup.mem_erase_iff nm]
  constructor
  ·intro hy
   exact ⟨λe=>(List.nodup_cons.mp nd).1 (e▸hy),(h y).mp (List.mem_cons_of_mem _ hy)⟩
  ·rintro ⟨h1,h2⟩
   rcases List.mem_cons.mp ((h y).mpr h2) with e | e
   ·exact absurd e h1
   ·exact e
theorem ZkF:∀ {l m:List (List Int)},Srt l->Srt m->l.Perm m->l=m
 | [],m,_,_,p=>(p.symm.eq_nil).symm
 | x::l,m,h1,h2,p=>by
  cases m with
  | nil=>exact absurd p.eq_nil (by simp)
  | cons y m=>
   have a:=List.pairwise_cons.mp h1
   have c:=List.pairwise_cons.mp h2
   have e:x=y:=by
    rcases List.mem_cons.mp (p.mem_iff.mp (List.mem_cons_self ..)) with e | e
    ·exact e
    ·rcases List.mem_cons.mp (p.mem_iff.mpr (List.mem_cons_self (a:=y))) with f | f
     ·exact f.symm
     ·exact Zer (c.1 x e) (a.1 y f) |>.symm▸rfl
   subst e
   rw [ZkF a.2 c.2 p.cons_inv]
theorem ZfX {k:Int} {rs:List (Int×Int)} (g:Zaf k rs) {x:Int} {j:Nat} {t:Int×Int} (hx:0<=x/\x<(rs.length:Int)) (hj:rs[j]?=some t) (e:road rs x=t):x=j:=by
 have hl:=(List.getElem?_eq_some_iff.mp hj).1
 have:road rs (j:Int)=t:=by
  unfold road
  rw [Int.toNat_natCast,List.getD_eq_getElem?_getD,hj]
  rfl
 exact Zgy g hx (by omega) (e.trans this.symm)
theorem ZcI {k:Int} {rs:List (Int×Int)} (g:Zaf k rs) (n:Nat):Zaf k (rs.drop n):=⟨g.1,g.2.1,by have:=g.2.2.1;rw [List.length_drop];omega,λy hy=>g.2.2.2.1 y (List.mem_of_mem_drop hy),g.2.2.2.2.sublist (List.drop_sublist _ _)⟩
theorem ZiT {k:Int} {rs:List (Int×Int)} (g:Zaf k rs) {j:Nat} {t:Int×Int} (hj:rs[j]?=some t):Ends k t.1 t.2:=by
 have:=g.2.2.2.1 t (List.mem_of_getElem? hj)
 exact ⟨⟨by omega,by omega⟩,⟨by omega,by omega⟩,by omega⟩
theorem ZdA {rs:List (Int×Int)} {p q:Int} {w:List Int} (h:Way rs p q w):edg w true=edg w false++[Zbv q p]:=by
 unfold edg Zan
 rw [if_pos rfl,if_neg Bool.false_ne_true,List.append_nil,List.map_append]
 show _++[Zbv (w.getD (w.length-1) 0) (w.getD 0 0)]=_
 rw [h.2.2.1,h.2.1]
theorem ZfY {t:Int×Int} (h:t.1<t.2):Zbv t.1 t.2=t:=by
 unfold Zbv
 rw [if_neg (by omega),if_pos (by omega)]
theorem Zbw {k:Int} {rs:List (Int×Int)} {j:Nat} {t:Int×Int} {w:List Int} (g:Zaf k rs) (hj:rs[j]?=some t) (h:Way (rs.drop (j+1)) t.1 t.2 w) :
  Cyc rs w/\((j:Nat):Int)∈Zbr rs true w/\∀ x∈Zbr rs true w,((j:Nat):Int)<=x:=by
 have tr:t∈rs:=List.mem_of_getElem? hj
 have tlt:=(g.2.2.2.1 t tr).2.1
 have o:=h.2.2.2
 have e1:=ZdA h
 rw [Zdy,ZfY tlt] at e1
 have hd:=(ZcG (ZcI g (j+1))).mp o
 have tnd:t ∉ rs.drop (j+1):=λhm=>by
  obtain ⟨i,hi⟩:=List.mem_iff_getElem?.mp hm
  rw [List.getElem?_drop] at hi
  have l1:=(List.getElem?_eq_some_iff.mp hi).1
  have l2:=(List.getElem?_eq_some_iff.mp hj).1
  have e3:=ZcC g.2.2.2.2 (i:=j+1+i) (j:=j) (by omega) (by omega) (by rw [List.getD_eq_getElem?_getD,List.getD_eq_getElem?_getD,hi,hj])
  omega
 have oc:Zc1 rs w true:=(ZcG g).mpr ⟨λe he=>by
  rw [e1] at he
  rcases List.mem_append.mp he with he | he
  ·exact List.mem_of_mem_drop (hd.1 e he)
  ·rw [List.mem_singleton.mp he]
   exact tr,hd.2⟩
 have l3:3<=w.length:=by
  obtain ⟨tl,rfl⟩:=ZcH h
  match tl,h,hd with
  | [],h,_=>
   have:t.1=t.2:=h.2.2.1
   omega
  | [x],h,hd=>
   have hx:x=t.2:=h.2.2.1
   subst hx
   refine absurd (hd.1 t ?_) tnd
   rw [Zdz]
   show t∈[Zbv t.1 t.2]
   rw [ZfY tlt]
   simp
  | _::_::_,_,_=>simp
 have E:=ZaG g oc (λ_=>l3)
 refine ⟨⟨l3,oc⟩,?_,λx hx=>?_⟩
 ·have:t∈(Zbr rs true w).map (road rs):=E.2.mem_iff.mpr (by rw [e1];simp)
  obtain ⟨x,hx,ex⟩:=List.mem_map.mp this
  rw [<-ZfX g (E.1.2 x hx) hj ex]
  exact hx
 ·have:road rs x∈edg w true:=E.2.mem_iff.mp (List.mem_map.mpr ⟨x,hx,rfl⟩)
  rw [e1] at this
  have hx2:=E.1.2 x hx
  rcases List.mem_append.mp this with he | he
  ·obtain ⟨i,hi⟩:=List.mem_iff_getElem?.mp (hd.1 _ he)
   rw [List.getElem?_drop] at hi
   have:=ZfX g hx2 hi rfl
   omega
  ·exact Int.le_of_eq (ZfX g hx2 hj (List.mem_singleton.mp he)).symm
theorem ZiU {k:Int} {rs:List (Int×Int)} {j:Nat} {t:Int×Int} {w v:List Int} (g:Zaf k rs) (hj:rs[j]?=some t) (h:Way (rs.drop (j+1)) t.1 t.2 w) (h2:Way (rs.drop (j+1)) t.1 t.2 v) (e:Zbr rs true w=Zbr rs true v):w=v:=by
 have c1:=(Zbw g hj h).1
 have c2:=(Zbw g hj h2).1
 have E1:=(ZaG g c1.2 (λ_=>c1.1)).2
 have E2:=(ZaG g c2.2 (λ_=>c2.1)).2
 rw [e] at E1
 have p:=E1.symm.trans E2
 rw [ZdA h,ZdA h2] at p
 have p2:(edg w false).Perm (edg v false):=(List.perm_append_right_iff _).mp p
 exact ZiR (ZcI g (j+1)) (ZiT g hj) h h2 (Zfg (ZcI g (j+1)) h.2.2.2 (λz=>absurd z Bool.false_ne_true) h2.2.2.2 (λz=>absurd z Bool.false_ne_true) p2)
theorem ZiV {k:Int} {rs:List (Int×Int)} (g:Zaf k rs) {j:Nat} {R:List (List Int)} (h:Rgs rs j R):∀ w∈R,∃ i,i<j/\∃ t,rs[i]?=some t/\Way (rs.drop (i+1)) t.1 t.2 w:=by
 induction h with
 | nil=>intro w hw;cases hw
 | @one j R W hr _ hw ih=>
  intro w hm
  rcases List.mem_append.mp hm with hm | hm
  ·obtain ⟨i,hi,r⟩:=ih w hm
   exact ⟨i,by omega,r⟩
  ·obtain ⟨t,ht,wy⟩:=hw
   exact ⟨j,by omega,t,ht,wy.ww w hm⟩
theorem ZkG {k:Int} {rs:List (Int×Int)} (g:Zaf k rs) {j:Nat} {R:List (List Int)} (h:Rgs rs j R):(R.map (Zbr rs true)).Nodup:=by
 induction h with
 | nil=>exact .nil
 | @one j R W hr _ hw ih=>
  obtain ⟨t,ht,wy⟩:=hw
  rw [List.map_append]
  refine List.nodup_append.mpr ⟨ih,?_,λa ha b hb e=>?_⟩
  ·unfold List.Nodup
   rw [List.pairwise_map]
   exact wy.nd.imp_of_mem λ{x y} hx hy hxy e=>hxy (ZiU g ht (wy.ww x hx) (wy.ww y hy) e)
  ·obtain ⟨x,hx,rfl⟩:=List.mem_map.mp ha
   obtain ⟨y,hy,rfl⟩:=List.mem_map.mp hb
   obtain ⟨i,hi,u,hu,hw⟩:=ZiV g hr x hx
   have c1:=Zbw g hu hw
   have c2:=Zbw g ht (wy.ww y hy)
   have:=c2.2.2 (i:Int) (by rw [<-e];exact c1.2.1)
   omega
theorem ZlW {k:Int} {rs:List (Int×Int)} (g:Zaf k rs) {j:Nat} {R:List (List Int)} (h:Rgs rs j R) (hl:R.length<=300):∀ i,i<j->∀ t w,rs[i]?=some t->Way (rs.drop (i+1)) t.1 t.2 w->w∈R:=by
 induction h with
 | nil=>intro i hi;omega
 | @one j R W hr _ hw ih=>
  rw [List.length_append] at hl
  intro i hi t w ht hway
  by_cases e:i=j
  ·subst e
   obtain ⟨t',ht',wy⟩:=hw
   rw [ht] at ht'
   cases ht'
   exact List.mem_append_right _ (wy.al (by omega) w hway)
  ·exact List.mem_append_left _ (ih (by omega) i (by omega) t w ht hway)
theorem ZiW {k:Int} {rs:List (Int×Int)} {c:List Int} (g:Zaf k rs) (h:Cyc rs c):∃ i t w,rs[i]?=some t/\Way (rs.drop (i+1)) t.1 t.2 w/\Zbr rs true w=Zbr rs true c:=by
 have E:=ZaG g h.2 (λ_=>h.1)
 have ne:Zbr rs true c≠[]:=λe=>by
  have:=E.2.length_eq
  rw [e] at this
  unfold edg Zan at this
  rw [if_pos rfl] at this
  simp at this
 obtain ⟨j,S,hS⟩:∃ j S,Zbr rs true c=j::S:=by
  cases hh:Zbr rs true c with
  | nil=>exact absurd hh ne
  | cons j S=>exact ⟨j,S,rfl⟩
 have asc:=E.1.1
 rw [hS] at asc
 have hjr:=E.1.2 j (by rw [hS];simp)
 have hjn:rs[j.toNat]?=some (road rs j):=by
  unfold road
  rw [List.getElem?_eq_getElem (show j.toNat<rs.length by omega),List.getD_eq_getElem?_getD,List.getElem?_eq_getElem (show j.toNat<rs.length by omega)]
  rfl
 have tlt:=(g.2.2.2.1 _ (List.mem_of_getElem? hjn)).2.1
 have hm:road rs j∈edg c true:=E.2.mem_iff.mp (by rw [hS];simp)
 obtain ⟨⟨x,y⟩,hst,exy⟩:=List.mem_map.mp hm
 have exy:Zbv x y=road rs j:=exy
 obtain ⟨d,hdp,hde,hd0,hdl⟩:∃ d:List Int,d.Perm c/\(edg d true).Perm (edg c true)/\d.getD 0 0=y/\d.getD (d.length-1) 0=x:=by
  unfold Zan at hst
  rw [if_pos rfl] at hst
  rcases List.mem_append.mp hst with hst | hst
  ·obtain ⟨n,hn⟩:=List.mem_iff_getElem?.mp hst
   rw [List.getElem?_zip_eq_some,List.getElem?_drop] at hn
   have l2:=(List.getElem?_eq_some_iff.mp hn.2).1
   refine ⟨c.drop (n+1)++c.take (n+1),?_,?_,?_,?_⟩
   ·have:=List.perm_append_comm (l₁:=c.drop (n+1)) (l₂:=c.take (n+1))
    rw [List.take_append_drop] at this
    exact this
   ·have:=Zez (c.take (n+1)) (c.drop (n+1))
    rw [List.take_append_drop] at this
    exact this
   ·rw [List.getD_eq_getElem?_getD,List.getElem?_append_left (by rw [List.length_drop];omega),List.getElem?_drop,show n+1+0=1+n by omega,hn.2]
    rfl
   ·rw [List.getD_eq_getElem?_getD,List.length_append,List.length_drop,List.length_take,Nat.min_eq_left (by omega),List.getElem?_append_right (by rw [List.length_drop];omega),List.length_drop,List.getElem?_take,if_pos (by omega),show c.length-(n+1)+(n+1)-1-(c.length-(n+1))=n by omega,hn.1]
    rfl
  ·have e:=List.mem_singleton.mp hst
   have e1:=(Prod.mk.inj e).1
   have e2:=(Prod.mk.inj e).2
   exact ⟨c,.refl _,.refl _,e2.symm,e1.symm⟩
 obtain ⟨hd,ed⟩:=ZkE g h hde hdp
 obtain ⟨w,hwp,hwe,hw0,hwl⟩:∃ w:List Int,w.Perm c/\(edg w true).Perm (edg c true)/\w.getD 0 0=(road rs j).1/\w.getD (w.length-1) 0=(road rs j).2:=by
  have l3:=hd.1
  have hne:x≠y:=λe=>by
   have:(road rs j).1=(road rs j).2:=by
    rw [<-exy,e]
    unfold Zbv
    simp
   omega
  by_cases hyx:y<x
  ·have e2:road rs j=(y,x):=by
    rw [<-exy]
    unfold Zbv
    rw [if_pos hyx,if_neg (show ¬ y > x by omega)]
   exact ⟨d,hdp,hde,by rw [hd0,e2],by rw [hdl,e2]⟩
  ·have e2:road rs j=(x,y):=by
    rw [<-exy]
    unfold Zbv
    rw [if_neg hyx,if_pos (show y > x by omega)]
   refine ⟨d.reverse,(List.reverse_perm d).trans hdp,(ZlV d).trans hde,?_,?_⟩
   ·rw [ZaM (by rw [List.length_reverse];omega),List.getElem_reverse,e2]
    rw [ZaM (by omega)] at hdl
    simp only [Nat.sub_zero]
    exact hdl
   ·rw [ZaM (by rw [List.length_reverse];omega),List.getElem_reverse,e2]
    rw [ZaM (by omega)] at hd0
    refine Eq.trans ?_ hd0
    congr 1
    rw [List.length_reverse]
    omega
 obtain ⟨hw,ew⟩:=ZkE g h hwe hwp
 refine ⟨j.toNat,road rs j,w,hjn,⟨λe=>by have:=hw.1;rw [e] at this;simp at this,hw0,hwl,?_⟩,ew⟩
 refine (ZcG (ZcI g (j.toNat+1))).mpr ⟨λe he=>?_,hw.2.2⟩
 have Ew:=ZaG g hw.2 (λ_=>hw.1)
 rw [ew,hS] at Ew
 have ec:edg w true=edg w false++[road rs j]:=by
  unfold edg Zan
  rw [if_pos rfl,if_neg Bool.false_ne_true,List.append_nil,List.map_append]
  show _++[Zbv (w.getD (w.length-1) 0) (w.getD 0 0)]=_
  rw [hw0,hwl,Zdy,ZfY tlt]
 rw [ec] at Ew
 have p:(S.map (road rs)).Perm (edg w false):=by
  have:=Ew.2.trans List.perm_append_comm
  exact this.cons_inv
 obtain ⟨x',hx',rfl⟩:=List.mem_map.mp (p.mem_iff.mpr he)
 have h1:=(List.pairwise_cons.mp asc).1 x' hx'
 have h2:=E.1.2 x' (by rw [hS];exact List.mem_cons_of_mem _ hx')
 refine List.mem_iff_getElem?.mpr ⟨x'.toNat-(j.toNat+1),?_⟩
 rw [List.getElem?_drop,show j.toNat+1+(x'.toNat-(j.toNat+1))=x'.toNat by omega]
 unfold road
 rw [List.getElem?_eq_getElem (show x'.toNat<rs.length by omega),List.getD_eq_getElem?_getD,List.getElem?_eq_getElem (show x'.toNat<rs.length by omega)]
 rfl
theorem ZlX {k:Int} {rs:List (Int×Int)} (g:Zaf k rs) {R:List (List Int)} (h:Rgs rs rs.length R) (hl:R.length<=300) (S:List Int):S∈R.map (Zbr rs true)↔∃ c,Cyc rs c/\Zbr rs true c=S:=by
 constructor
 ·intro hS
  obtain ⟨w,hw,rfl⟩:=List.mem_map.mp hS
  obtain ⟨i,_,t,ht,hway⟩:=ZiV g h w hw
  exact ⟨w,(Zbw g ht hway).1,rfl⟩
 ·rintro ⟨c,hc,rfl⟩
  obtain ⟨i,t,w,ht,hw,e⟩:=ZiW g hc
  exact List.mem_map.mpr ⟨w,ZlW g h hl i (List.getElem?_eq_some_iff.mp ht).1 t w ht hw,e⟩
end M
namespace M
open PySem L2
def IsS (rs:List (Int×Int)):Option (Int×Int)->List Int->Prop
 | none,S=>∃ c,Cyc rs c/\Zbr rs true c=S
 | some e,S=>∃ w,Way rs e.1 e.2 w/\Zbr rs false w=S
structure ZdJ (rs:List (Int×Int)) (en:Option (Int×Int)) (L:List (List Int)):Prop where
 so:Srt L
 nd:L.Nodup
 ln:L.length<=300
 iff:∀ S,S∈L↔IsS rs en S
def Zl5 (rs:List (Int×Int)) (en:Option (Int×Int)):Prop:=∃ M:List (List Int),M.Nodup/\300<M.length/\∀ S∈M,IsS rs en S
def ZpZ (k:Int):Option (Int×Int)->Prop
 | none=>True
 | some e=>Ends k e.1 e.2
theorem ZkH {k:Int} {rs:List (Int×Int)} {p q:Int} {W:List (List Int)} (g:Zaf k rs) (en:Ends k p q) (h:Wys rs p q W):(W.map (Zbr rs false)).Nodup:=by
 unfold List.Nodup
 rw [List.pairwise_map]
 exact h.nd.imp_of_mem λ{x y} hx hy hxy e=>hxy (ZiR g en (h.ww x hx) (h.ww y hy) e)
theorem ZiX {k:Int} {rs:List (Int×Int)} {p q:Int} {W:List (List Int)} (g:Zaf k rs) (en:Ends k p q) (h:Wys rs p q W) (hl:300<W.length):Zl5 rs (some (p,q)):=by
 refine ⟨W.map (Zbr rs false),ZkH g en h,by rw [List.length_map];exact hl,λS hS=>?_⟩
 obtain ⟨w,hw,rfl⟩:=List.mem_map.mp hS
 exact ⟨w,h.ww w hw,rfl⟩
theorem ZgE {k:Int} {rs:List (Int×Int)} {p q:Int} {W L:List (List Int)} (g:Zaf k rs) (en:Ends k p q) (h:Wys rs p q W) (hl:W.length<=300) (pm:L.Perm (W.map (Zbr rs false))) (so:Srt L):ZdJ rs (some (p,q)) L:=by
 refine ⟨so,pm.nodup_iff.mpr (ZkH g en h),by rw [pm.length_eq,List.length_map];exact hl,λS=>?_⟩
 rw [pm.mem_iff]
 constructor
 ·intro hS
  obtain ⟨w,hw,rfl⟩:=List.mem_map.mp hS
  exact ⟨w,h.ww w hw,rfl⟩
 ·rintro ⟨w,hw,rfl⟩
  exact List.mem_map.mpr ⟨w,h.al hl w hw,rfl⟩
theorem ZiY {k:Int} {rs:List (Int×Int)} {j:Nat} {R:List (List Int)} (g:Zaf k rs) (h:Rgs rs j R) (hl:300<R.length):Zl5 rs none:=by
 refine ⟨R.map (Zbr rs true),ZkG g h,by rw [List.length_map];exact hl,λS hS=>?_⟩
 obtain ⟨w,hw,rfl⟩:=List.mem_map.mp hS
 obtain ⟨i,_,t,ht,hway⟩:=ZiV g h w hw
 exact ⟨w,(Zbw g ht hway).1,rfl⟩
theorem ZgF {k:Int} {rs:List (Int×Int)} {R L:List (List Int)} (g:Zaf k rs) (h:Rgs rs rs.length R) (hl:R.length<=300) (pm:L.Perm (R.map (Zbr rs true))) (so:Srt L):ZdJ rs none L:=by
 refine ⟨so,pm.nodup_iff.mpr (ZkG g h),by rw [pm.length_eq,List.length_map];exact hl,λS=>?_⟩
 rw [pm.mem_iff]
 exact ZlX g h hl S
theorem ZdB {k:Int} {rs:List (Int×Int)} {en:Option (Int×Int)} {S:List Int} (g:Zaf k rs) (h:IsS rs en S):Zb2 rs S:=by
 cases en with
 | none=>
  obtain ⟨c,hc,rfl⟩:=h
  exact (ZaG g hc.2 (λ_=>hc.1)).1
 | some e=>
  obtain ⟨w,hw,rfl⟩:=h
  exact (ZaG g hw.2.2.2 (λz=>absurd z Bool.false_ne_true)).1
def Zp0 (k:Int) (rs:List (Int×Int)) (S:List Int):Option (Int×Int)->Prop
 | none=>∀ tl,¬ Zoo rs S k tl
 | some e=>∀ tl,¬ Zne rs S k e.1 e.2 tl
end M
namespace M
open PySem L2
def Zb3 (ls:List (List Int)):List PyData:=ls.map λl=>PyData.list (l.map PyData.int)
theorem ZkI:∀ ls:List (List Int),PyData.canLayAll0 (Zb3 ls)=true
 | []=>by simp [Zb3,PyData.canLayAll0]
 | l::ls=>by
  have ih:=ZkI ls
  unfold Zb3 at ih ⊢
  rw [List.map_cons]
  simp [PyData.canLayAll0,PyData.canLay0,Zd9 l,ih]
theorem ZgG:∀ ls:List (List Int),PyData.depthAll (Zb3 ls)<=2
 | []=>by simp [Zb3,PyData.depthAll]
 | l::ls=>by
  have ih:=ZgG ls
  have:=ZcN l
  unfold Zb3 at ih ⊢
  rw [List.map_cons]
  simp only [PyData.depthAll,PyData.depth]
  omega
theorem ZaD (ls:List (List Int)):SeqAt.shaped (.list (Zb3 ls))=true:=by
 unfold SeqAt.shaped
 rw [Bool.and_eq_true]
 refine ⟨by simp only [PyData.canLay0];exact ZkI ls,decide_eq_true ?_⟩
 have:=ZgG ls
 simp only [PyData.depth]
 omega
theorem ZkJ:∀ ls:List (List Int),PyData.eqvAll (Zb3 ls) (Zb3 ls)=true
 | []=>by simp [Zb3,PyData.eqvAll]
 | l::ls=>by
  have ih:=ZkJ ls
  have h:=Zc6 l l
  rw [decide_eq_true rfl] at h
  unfold Zb3 at ih ⊢
  rw [List.map_cons]
  simp only [PyData.eqvAll,h,ih,Bool.and_self]
theorem ZdC (ls:List (List Int)):PyData.eqv (.list (Zb3 ls)) (.list (Zb3 ls))=true:=by
 simp only [PyData.eqv]
 exact ZkJ ls
theorem Zcf {K:PySem.W.Frag} {H:Hp}:∀ {zs:List (Addr×List Int)},Lz H zs->DatVs K H (zs.map λz=>V.ref z.1) (Zb3 (zs.map (·.2)))
 | [],_=>.nil
 | z::zs,h=>.cons (.lst (SqL.of (h z (by simp))) (Zbc z.2)) (Zcf (zs:=zs) λy hy=>h y (by simp [hy]))
def Zno (H:Hp) (ev:V) (en:Option (Int×Int)):Prop:=(ev=.non/\en=none)\/∃ (t:Addr) (p q:Int),ev=.ref t/\H t=some (.tup [.int p,.int q])/\en=some (p,q)
section
variable {P:Program} {w:World} {K:PySem.W.Frag} {mg:Str->Option Value} {base:Heap}
def Znp:Sp:=λvs H Q _=>∃ (wb l:Addr) (ev:V) (en:Option (Int×Int)) (k:Int) (xs:List V) (rs:List (Int×Int)),vs=[.ref wb,ev]/\WebAt H wb l k xs rs/\Zaf k rs/\Zno H ev en/\ZpZ k en /\
 (Zl5 rs en->∀ H':Hp,Same H H'->Q .non H')/\(∀ (r:Addr) (zs:List (Addr×List Int)) (H':Hp),Same H H'->H r=none->H' r=some (.lst (zs.map λz=>V.ref z.1))->Lz H' zs->ZdJ rs en (zs.map (·.2))->Q (.ref r) H')
theorem scTol:Zau ["web", "ends", "found"] ["web", "ends"] (Zae Zly):=⟨rfl,rfl,rfl,by decide +kernel,rfl,by decide +kernel,by decide +kernel⟩
theorem Znq {f fEc fEw C TM:Addr} {fd fdEc fdEw:FuncData} (F:Fun K "_law_told" "_law_told" Zly f fd)
  (FEc:Fun K "every_closed" "every_closed" Zkv fEc fdEc) (bEc:Binds K fdEc ["web"] []) (mEc:mg "every_closed" = some (.ref fEc)) (GEc:ZaI P w K mg base (CXr P w) 5 fEc fdEc ["web"] (ZlT TM))
  (FEw:Fun K "every_way" "every_way" ZjT fEw fdEw) (bEw:Binds K fdEw ["web", "one", "other"] []) (mEw:mg "every_way" = some (.ref fEw)) (GEw:ZaI P w K mg base (CXr P w) 5 fEw fdEw ["web", "one", "other"] (Zj7 C TM))
  (mTM:mg "TooMany" = some (.ref TM)) (beTM:PySem.W.subIn K (.ref TM) (.type "BaseException")=some true) (kTM:PySem.W.kitCls K (.ref TM) (.ref TM)=some true):ZaI P w K mg base CX0 6 f fd ["web", "ends"] Znp:=by
 refine F.ok scTol (λvs H Q E h=>?_) (λcdv A outer s H vs Q E hr h=>?_)
 ·obtain ⟨_,_,_,_,_,_,_,rfl,_⟩:=h
  rfl
 ·obtain ⟨wb,l,ev,en,k,xs,rs,rfl,W,g,he,eo,qN,qL⟩:=h
  refine ⟨_,Zad (Zav (i:=2) scTol.nd rfl (Or.inl rfl) Zcg)
    (Zad (ZjB (Zn7 (Zar ZhD (pv 1) Zcg (ZaB _)) (Zkn (j:=2) GEc (hr.mono (by decide)) rfl mEc FEc.kp bEc .nil (Zaa (pv 0) Zac) scTol.nd rfl (Or.inl rfl)) (Zkn (j:=2) GEw (hr.mono (by decide)) rfl mEw FEw.kp bEw .nil (Zaa (pv 0) (Zaa (ZaJ (ZcM K) (pv 1) Zai (λ_ _=>rfl)) (Zaa (ZaJ (ZcM K) (pv 1) Zai (λ_ _=>rfl)) Zac))) scTol.nd rfl (Or.inl rfl))) rfl rfl rfl rfl rfl mTM beTM (λa=>Zah (Zav (i:=2) scTol.nd rfl (Or.inl rfl) Zcg)))
    (Zah (Zaw (pv 2)))),?_⟩
  refine Za7 (λσ' H'=>σ'=[some (.ref wb),some ev,some .non]/\H=H') ?sa ?fa
  case fa=>exact λhk'=>hk' _ _ ⟨rfl,rfl⟩
  rintro σ' H' ⟨rfl,rfl⟩
  refine Za7 (λσ' H'=>Same H H'/\((σ'=[some (.ref wb),some ev,some .non]/\Zl5 rs en)\/∃ (r:Addr) (zs:List (Addr×List Int)),σ'=[some (.ref wb),some ev,some (.ref r)]/\H r=none/\H' r=some (.lst (zs.map λz=>V.ref z.1))/\Lz H' zs/\ZdJ rs en (zs.map (·.2)))) ?sc ?fc
  case fc=>
   intro hk'
   rcases he with ⟨rfl,rfl⟩ | ⟨t,p,q,rfl,et,rfl⟩
   ·refine ⟨_,rfl,rfl,_,rfl,Zbz ?_⟩
    refine ⟨_,rfl,wb,l,k,xs,rs,rfl,W,g,λj R rg hj h3 H1 s1=>?_,λR rg hR r zs H1 s1 hr0 er lz fz pm so=>?_⟩
    ·refine ⟨TM,rfl,kTM,λa ha=>?_⟩
     exact hk' _ _ ⟨s1.put (s1.free ha),.inl ⟨rfl,ZiY g rg h3⟩⟩
    ·exact hk' _ _ ⟨s1,.inr ⟨r,zs,rfl,hr0,er,lz,ZgF g rg hR pm so⟩⟩
   ·refine ⟨_,rfl,rfl,_,rfl,Zbo ?_⟩
    refine ⟨_,rfl,_,rfl,t,_,_,_,rfl,rfl,SqT.of et,Zas (j:=0) rfl,_,rfl,t,_,_,_,rfl,rfl,SqT.of et,Zas (j:=1) rfl,wb,l,k,p,q,xs,rs,rfl,W,g,.inr ⟨eo,λWl wy=>⟨λh3 H1 s1=>?_,λhW r zs H1 s1 hr0 er lz fz pm so=>?_⟩⟩⟩
    ·refine ⟨TM,rfl,kTM,λa ha=>?_⟩
     exact hk' _ _ ⟨s1.put (s1.free ha),.inl ⟨rfl,ZiX g eo wy h3⟩⟩
    ·exact hk' _ _ ⟨s1,.inr ⟨r,zs,rfl,hr0,er,lz,ZgE g eo wy hW pm so⟩⟩
  rintro σ' H1 ⟨s1,⟨rfl,too⟩ | ⟨r,zs,rfl,hr0,er,lz,te⟩⟩
  ·exact ⟨_,rfl,qN too H1 s1⟩
  ·exact ⟨_,rfl,qL r zs H1 s1 hr0 er lz te⟩
end
end M
namespace M
open PySem L2
def cr (A:List Int) (r:Int×Int):Bool:=decide (r.1∈A) != decide (r.2∈A)
theorem Zot (A:List Int) (a b:Int):cr A (Zbv a b)=(decide (a∈A) != decide (b∈A)):=by
 unfold cr Zbv
 by_cases h:b<a
 ·rw [if_pos h,if_neg (by omega)]
  cases decide (a∈A) <;> cases decide (b∈A) <;> rfl
 ·by_cases h2:b > a
  ·rw [if_neg h,if_pos h2]
  ·rw [if_neg h,if_neg h2]
   have:a=b:=by omega
   subst this
   rfl
theorem ZdD {α:Type} (f:α->Bool) (x:α) (l:List α):((x::l).filter f).length=(if f x=true then 1 else 0)+(l.filter f).length:=by
 cases h:f x with
 | true=>rw [List.filter_cons_of_pos h,List.length_cons,if_pos rfl];omega
 | false=>rw [List.filter_cons_of_neg (by rw [h];decide),if_neg Bool.false_ne_true];omega
theorem ZeA (A:List Int):∀ (tl:List Int) (p:Int),((ZaN (p::tl)).filter (cr A)).length % 2=if (decide (p∈A) != decide ((p::tl).getD tl.length 0∈A))=true then 1 else 0
 | [],p=>by
  show 0 % 2=if (decide (p∈A) != decide (p∈A))=true then 1 else 0
  cases decide (p∈A) <;> rfl
 | n::t,p=>by
  have ih:=ZeA A t n
  have e:(p::n::t).getD (n::t).length 0=(n::t).getD t.length 0:=by rw [List.length_cons,List.getD_cons_succ]
  rw [ZaR,ZdD,Zot,e]
  revert ih
  generalize ((ZaN (n::t)).filter (cr A)).length=X
  generalize decide ((n::t).getD t.length 0∈A)=c
  generalize decide (p∈A)=a
  generalize decide (n∈A)=b
  intro ih
  cases a <;> cases b <;> cases c <;> simp at ih ⊢ <;> omega
theorem ZgH {k:Int} {rs:List (Int×Int)} {ns S:List Int} {c:Bool} (A:List Int) (g:Zaf k rs) (o:Zc1 rs ns c) (hc:c=true->3<=ns.length) (e:Zbr rs c ns=S):(S.filter λx=>cr A (road rs x)).length=((edg ns c).filter (cr A)).length:=by
 have p:=(ZaG g o hc).2
 rw [e] at p
 rw [<-(p.filter (cr A)).length_eq,List.filter_map,List.length_map]
 rfl
theorem ZgI {k:Int} {rs:List (Int×Int)} {A S:List Int} {p q:Int} (g:Zaf k rs) (hp:p∈A) (hq:q ∉ A) (h:IsS rs (some (p,q)) S):(S.filter λx=>cr A (road rs x)).length % 2=1:=by
 obtain ⟨w,hw,e⟩:=h
 have hw:Way rs p q w:=hw
 rw [ZgH A g hw.2.2.2 (λz=>absurd z Bool.false_ne_true) e,Zdz]
 obtain ⟨tl,rfl⟩:=ZcH hw
 have l:=hw.2.2.1
 rw [List.length_cons,Nat.add_sub_cancel] at l
 rw [ZeA,l,decide_eq_true hp,decide_eq_false hq]
 rfl
theorem Zj9 {k:Int} {rs:List (Int×Int)} {A S:List Int} (g:Zaf k rs) (h:IsS rs none S):(S.filter λx=>cr A (road rs x)).length % 2=0:=by
 obtain ⟨c,hc,e⟩:=h
 rw [ZgH A g hc.2 (λ_=>hc.1) e]
 cases c with
 | nil=>exact absurd hc.1 (by decide)
 | cons s tl=>
  rw [ZcF,ZeA]
  have l:(s::(tl++[s])).getD (tl++[s]).length 0=s:=by
   rw [List.length_append,List.length_singleton,List.getD_cons_succ,List.getD_eq_getElem?_getD,List.getElem?_append_right (Nat.le_refl _),Nat.sub_self]
   rfl
  rw [l]
  cases decide (s∈A) <;> rfl
def Zc2 (A:List Int) (rs:List (Int×Int)):List (Int×Int):=rs.filter λr=>!cr A r
theorem ZdE {k:Int} {rs:List (Int×Int)} (A:List Int) (g:Zaf k rs):Zaf k (Zc2 A rs):=⟨g.1,g.2.1,Nat.le_trans (List.length_filter_le _ _) g.2.2.1,λy hy=>g.2.2.2.1 y (List.mem_filter.mp hy).1,g.2.2.2.2.sublist List.filter_sublist⟩
theorem ZfZ {A:List Int} {rs:List (Int×Int)} {r:Int×Int} (h:r∈Zc2 A rs):(r.1∈A↔r.2∈A):=by
 have h:=(List.mem_filter.mp h).2
 unfold cr at h
 by_cases a:r.1∈A <;> by_cases b:r.2∈A <;> simp [a,b] at h ⊢
theorem Znr {k:Int} {rs:List (Int×Int)} {A S:List Int} {p q:Int} (g:Zaf k rs) (hp:p∈A) (hq:q ∉ A):¬ IsS (Zc2 A rs) (some (p,q)) S:=λh=>by
 have o:=ZgI (ZdE A g) hp hq h
 have hS:=ZdB (ZdE A g) h
 have e:(S.filter λx=>cr A (road (Zc2 A rs) x))=[]:=by
  refine List.filter_eq_nil_iff.mpr λx hx=>?_
  have this:(!cr A (road (Zc2 A rs) x))=true:=(List.mem_filter.mp (Zeu (hS.2 x hx))).2
  intro z
  rw [z] at this
  cases this
 rw [e] at o
 cases o
theorem Zf0 {rs:List (Int×Int)} {A:List Int} {p x:Int} (hp:p∈A) (h:Conn (Zc2 A rs) p x):x∈A:=by
 induction h with
 | refl=>exact hp
 | step _ a ih=>
  rcases a with a | a
  ·exact (ZfZ a).mp ih
  ·exact (ZfZ a).mpr ih
theorem ZdF {rs:List (Int×Int)}:∀ (v a:List Int),a≠[]->Zc1 rs (a++v) false->Zc1 rs a false
 | [],a,_,h=>by rw [List.append_nil] at h;exact h
 | x::v,a,ha,h=>((ZcE ha).mp (ZdF v (a++[x]) (by simp) (by rw [List.append_assoc];exact h))).1
theorem Zd0 (a:List Int) (x:Int):(a++[x]).getD ((a++[x]).length-1) 0=x:=by
 rw [List.length_append,List.length_singleton,Nat.add_sub_cancel,List.getD_eq_getElem?_getD,List.getElem?_append_right (Nat.le_refl _),Nat.sub_self]
 rfl
theorem Zka {rs:List (Int×Int)} {p x:Int} (h:Conn rs p x):∃ w,Way rs p x w:=by
 induction h with
 | refl=>exact ⟨[p],by simp,rfl,rfl,λt ht=>(by cases ht),by simp⟩
 | @step b c _ a ih=>
  obtain ⟨w,h1,h2,h3,h4⟩:=ih
  by_cases hc:c∈w
  ·obtain ⟨u,v,rfl⟩:=List.append_of_mem hc
   have e:u++c::v=(u++[c])++v:=by rw [List.append_assoc];rfl
   rw [e] at h2 h4
   refine ⟨u++[c],by simp,?_,Zd0 u c,ZdF v (u++[c]) (by simp) h4⟩
   rw [Zdx (by simp)] at h2
   exact h2
  ·refine ⟨w++[c],by simp,by rw [Zdx h1];exact h2,Zd0 w c,(ZcE h1).mpr ⟨h4,hc,by rw [h3];exact a⟩⟩
theorem ZgJ {rs:List (Int×Int)}:∀ (tl:List Int) (p:Int),(∀ t∈Zan (p::tl) false,Adj rs t.1 t.2)->Conn rs p ((p::tl).getD tl.length 0)
 | [],p,_=>.refl
 | n::t,p,h=>by
  have e:Zan (p::n::t) false=(p,n)::Zan (n::t) false:=by
   unfold Zan
   simp only [Bool.false_eq_true,if_false,List.append_nil]
   rfl
  rw [e] at h
  rw [List.length_cons,List.getD_cons_succ]
  exact (Conn.one (h (p,n) (by simp))).trans (ZgJ t n λy hy=>h y (List.mem_cons_of_mem _ hy))
theorem Zkb {rs:List (Int×Int)} {p q:Int}:Conn rs p q↔∃ w,Way rs p q w:=by
 constructor
 ·exact Zka
 ·rintro ⟨w,hw⟩
  obtain ⟨tl,rfl⟩:=ZcH hw
  have l:=hw.2.2.1
  rw [List.length_cons,Nat.add_sub_cancel] at l
  have:=ZgJ tl p hw.2.2.2.1
  rw [l] at this
  exact this
def Zbm (rs:List (Int×Int)) (ns:List Int):List (Int×Int):=ns.map (road rs)
theorem ZcJ {rs:List (Int×Int)} {ns:List Int} (pm:ns.Perm (Zb9 rs.length)):(Zbm rs ns).Perm rs:=by
 refine (pm.map (road rs)).trans ?_
 have e:(Zb9 rs.length).map (road rs)=rs:=by
  refine List.ext_getElem? λi=>?_
  unfold Zb9
  rw [List.map_map,List.getElem?_map]
  by_cases h:i<rs.length
  ·rw [List.getElem?_range h,List.getElem?_eq_getElem h]
   show some (rs.getD ((i:Int)).toNat (0,0))=some rs[i]
   rw [Int.toNat_natCast,List.getD_eq_getElem?_getD,List.getElem?_eq_getElem h]
   rfl
  ·rw [List.getElem?_eq_none (by rw [List.length_range];omega),List.getElem?_eq_none (by omega)]
   rfl
 rw [e]
theorem Zfi {k:Int} {rs:List (Int×Int)} {ns:List Int} (g:Zaf k rs) (pm:ns.Perm (Zb9 rs.length)):Zaf k (Zbm rs ns):=by
 have p:=ZcJ pm
 exact ⟨g.1,g.2.1,by rw [p.length_eq];exact g.2.2.1,λy hy=>g.2.2.2.1 y (p.mem_iff.mp hy),p.nodup_iff.mpr g.2.2.2.2⟩
theorem Zdd {rs:List (Int×Int)} {ns:List Int} (pm:ns.Perm (Zb9 rs.length)) {a b:Int}:Adj (Zbm rs ns) a b↔Adj rs a b:=by
 unfold Adj
 rw [(ZcJ pm).mem_iff,(ZcJ pm).mem_iff]
theorem ZbO {rs:List (Int×Int)} {ns:List Int} (pm:ns.Perm (Zb9 rs.length)) {w:List Int} {c:Bool}:Zc1 (Zbm rs ns) w c↔Zc1 rs w c:=by
 unfold Zc1
 constructor
 ·rintro ⟨h,nd⟩
  exact ⟨λt ht=>(Zdd pm).mp (h t ht),nd⟩
 ·rintro ⟨h,nd⟩
  exact ⟨λt ht=>(Zdd pm).mpr (h t ht),nd⟩
theorem ZdG {rs:List (Int×Int)} {ns:List Int} (pm:ns.Perm (Zb9 rs.length)) {a b:Int}:Conn (Zbm rs ns) a b↔Conn rs a b:=by
 constructor
 ·intro h
  induction h with
  | refl=>exact .refl
  | step _ s ih=>exact .step ih ((Zdd pm).mp s)
 ·intro h
  induction h with
  | refl=>exact .refl
  | step _ s ih=>exact .step ih ((Zdd pm).mpr s)
theorem ZlY {k:Int} {rs:List (Int×Int)} {ns S:List Int} (g:Zaf k rs) (pm:ns.Perm (Zb9 rs.length)) (hS:Zb2 rs S):Zb2 (Zbm rs ns) (Za5 ns S ns.length)/\((Za5 ns S ns.length).map (road (Zbm rs ns))).Perm (S.map (road rs)):=by
 have ln:ns.length=rs.length:=by rw [pm.length_eq,Zda]
 have nd:ns.Nodup:=pm.nodup_iff.mpr (Zhc _)
 constructor
 ·refine ⟨?_,λx hx=>?_⟩
  ·unfold Za5
   exact List.pairwise_map.mpr ((List.Pairwise.filter _ List.pairwise_lt_range).imp (λh=>by omega))
  ·obtain ⟨j,h1,_,rfl⟩:=putUp_mem.mp hx
   rw [(ZcJ pm).length_eq]
   omega
 ·have e:(Za5 ns S ns.length).map (road (Zbm rs ns))=(((List.range ns.length).filter λj=>decide (ns.getD j 0∈S)).map λj=>ns.getD j 0).map (road rs):=by
   unfold Za5
   rw [List.map_map,List.map_map]
   refine List.map_congr_left λj hj=>?_
   have hj:=List.mem_range.mp (List.mem_filter.mp hj).1
   show (Zbm rs ns).getD ((j:Int)).toNat (0,0)=road rs (ns.getD j 0)
   unfold Zbm
   rw [Int.toNat_natCast,List.getD_eq_getElem?_getD,List.getElem?_map,List.getElem?_eq_getElem hj,List.getD_eq_getElem?_getD,List.getElem?_eq_getElem hj]
   rfl
  rw [e]
  refine List.Perm.map _ ?_
  refine ZfW ?_ (hS.1.imp λh=>Int.ne_of_lt h) λx=>?_
  ·unfold List.Nodup
   rw [List.pairwise_map]
   refine List.Pairwise.imp_of_mem ?_ (List.Pairwise.filter _ (List.nodup_range (n:=ns.length)))
   intro a b ha hb hab
   have ha:=List.mem_range.mp (List.mem_filter.mp ha).1
   have hb:=List.mem_range.mp (List.mem_filter.mp hb).1
   exact Zb0 nd ha hb hab
  ·rw [List.mem_map]
   constructor
   ·rintro ⟨j,hj,rfl⟩
    exact of_decide_eq_true (List.mem_filter.mp hj).2
   ·intro hx
    have hxn:x∈ns:=pm.mem_iff.mpr (by
     have:=hS.2 x hx
     unfold Zb9
     exact List.mem_map.mpr ⟨x.toNat,List.mem_range.mpr (by omega),by omega⟩)
    have hi:=List.idxOf_lt_length_of_mem hxn
    have eg:=Zgv hxn
    exact ⟨ns.idxOf x,List.mem_filter.mpr ⟨List.mem_range.mpr hi,decide_eq_true (by rw [eg];exact hx)⟩,eg⟩
theorem ZcK {k:Int} {rs:List (Int×Int)} {ns w:List Int} {c:Bool} (g:Zaf k rs) (pm:ns.Perm (Zb9 rs.length)) (o:Zc1 rs w c) (hc:c=true->3<=w.length):Zbr (Zbm rs ns) c w=Za5 ns (Zbr rs c w) ns.length:=by
 obtain ⟨hS,pe⟩:=ZaG g o hc
 obtain ⟨h1,h2⟩:=ZlY g pm hS
 exact ZiQ (Zfi g pm) ((ZbO pm).mpr o) hc h1 (h2.trans pe)
theorem ZgK {k:Int} {rs:List (Int×Int)} {ns:List Int} {en:Option (Int×Int)} (g:Zaf k rs) (pm:ns.Perm (Zb9 rs.length)) (S2:List Int):IsS (Zbm rs ns) en S2↔∃ S,IsS rs en S/\S2=Za5 ns S ns.length:=by
 cases en with
 | none=>
  constructor
  ·rintro ⟨c,hc,rfl⟩
   have o:=(ZbO pm).mp hc.2
   exact ⟨_,⟨c,⟨hc.1,o⟩,rfl⟩,ZcK g pm o λ_=>hc.1⟩
  ·rintro ⟨S,⟨c,hc,rfl⟩,rfl⟩
   exact ⟨c,⟨hc.1,(ZbO pm).mpr hc.2⟩,ZcK g pm hc.2 λ_=>hc.1⟩
 | some e=>
  constructor
  ·rintro ⟨w,hw,rfl⟩
   have o:=(ZbO pm).mp hw.2.2.2
   exact ⟨_,⟨w,⟨hw.1,hw.2.1,hw.2.2.1,o⟩,rfl⟩,ZcK g pm o λz=>absurd z Bool.false_ne_true⟩
  ·rintro ⟨S,⟨w,hw,rfl⟩,rfl⟩
   exact ⟨w,⟨hw.1,hw.2.1,hw.2.2.1,(ZbO pm).mpr hw.2.2.2⟩,ZcK g pm hw.2.2.2 λz=>absurd z Bool.false_ne_true⟩
theorem ZlZ {k:Int} {rs:List (Int×Int)} {ns S T:List Int} (pm:ns.Perm (Zb9 rs.length)) (hS:Zb2 rs S) (hT:Zb2 rs T) (e:Za5 ns S ns.length=Za5 ns T ns.length):S=T:=by
 have key:∀ {U:List Int},Zb2 rs U->∀ x,0<=x/\x<(rs.length:Int)->(x∈U↔((ns.idxOf x:Nat):Int)∈Za5 ns U ns.length):=λ{U} hU x hx=>by
  have hxn:x∈ns:=pm.mem_iff.mpr (by
   unfold Zb9
   exact List.mem_map.mpr ⟨x.toNat,List.mem_range.mpr (by omega),by omega⟩)
  have hi:=List.idxOf_lt_length_of_mem hxn
  have eg:=Zgv hxn
  rw [putUp_mem]
  constructor
  ·intro h
   exact ⟨ns.idxOf x,hi,by rw [eg];exact h,rfl⟩
  ·rintro ⟨j,_,h2,h3⟩
   have:j=ns.idxOf x:=by omega
   rw [this,eg] at h2
   exact h2
 refine Zgx hS.1 hT.1 λx=>?_
 constructor
 ·intro h
  exact (key hT x (hS.2 x h)).mpr (e▸(key hS x (hS.2 x h)).mp h)
 ·intro h
  exact (key hS x (hT.2 x h)).mpr (e.symm▸(key hT x (hT.2 x h)).mp h)
theorem Zfj {k:Int} {rs:List (Int×Int)} {ns:List Int} {en:Option (Int×Int)} {L L2 L3:List (List Int)} (g:Zaf k rs) (pm:ns.Perm (Zb9 rs.length)) (te:ZdJ rs en L) (p3:L3.Perm (L.map λS=>Za5 ns S ns.length)) (so:Srt L3):¬ Zl5 (Zbm rs ns) en/\(ZdJ (Zbm rs ns) en L2->L2=L3):=by
 have nd:(L.map λS=>Za5 ns S ns.length).Nodup:=by
  unfold List.Nodup
  rw [List.pairwise_map]
  refine List.Pairwise.imp_of_mem ?_ te.nd
  intro a b ha hb hab e
  exact hab (ZlZ (k:=k) pm (ZdB g ((te.iff a).mp ha)) (ZdB g ((te.iff b).mp hb)) e)
 have mem:∀ S2,S2∈(L.map λS=>Za5 ns S ns.length)↔IsS (Zbm rs ns) en S2:=λS2=>by
  rw [ZgK g pm,List.mem_map]
  constructor
  ·rintro ⟨S,hS,rfl⟩
   exact ⟨S,(te.iff S).mp hS,rfl⟩
  ·rintro ⟨S,hS,rfl⟩
   exact ⟨S,(te.iff S).mpr hS,rfl⟩
 constructor
 ·rintro ⟨M,ndM,hl,hM⟩
  have:=ZiS ndM λS hS=>(mem S).mpr (hM S hS)
  rw [List.length_map] at this
  have:=te.ln
  omega
 ·intro t2
  exact ZkF t2.so so (ZfW t2.nd (p3.nodup_iff.mpr nd) λS=>by rw [t2.iff,p3.mem_iff,mem])
end M
namespace M
open PySem L2
section
variable {P:Program} {w:World} {K:PySem.W.Frag} {mg:Str->Option Value} {base:Heap}
def Zns:Sp:=λvs H Q _=>∃ (sl ol:Addr) (S out:List Int),vs=[.ref sl,.ref ol]/\H sl=some (.lst (S.map V.int))/\H ol=some (.lst (out.map V.int))/\S.length<=1000/\∀ H':Hp,Same H H'->Q (.int (((S.filter λx=>decide (x∈out)).length % 2:Nat):Int)) H'
theorem Zou:Zau ["roads", "out"] ["roads", "out"] (Zae ZlA):=⟨rfl,rfl,rfl,by decide +kernel,rfl,by decide +kernel,by decide +kernel⟩
theorem Znt {f:Addr} {fd:FuncData} (F:Fun K "_law_odd" "_law_odd" ZlA f fd) (mLen:mg "len" = none):ZaI P w K mg base CX0 1 f fd ["roads", "out"] Zns:=by
 refine F.ok Zou (λvs H Q E h=>?_) (λcdv A outer s H vs Q E hr h=>?_)
 ·obtain ⟨_,_,_,_,rfl,_⟩:=h
  rfl
 ·obtain ⟨sl,ol,S,out,rfl,hs,ho,hl,q⟩:=h
  have h16:(16777216:Nat)=sizeLine:=sizeLine_eq.symm
  refine ⟨_,Zah (Zaw (Zaz ZdL (Zax (ZhU K) rfl mLen PySem.boot_len (Zaa (ZaO (own:=["k"]) rfl (Zaj (fr:=[("out", 1)]) [(".0", .local),("k", .local),("out", .cell)] rfl rfl (by decide +kernel) rfl (by decide +kernel) ⟨rfl,trivial⟩ ⟨λh=>ZaA h,λh=>ZaA h,λ_=>⟨_,rfl⟩,trivial⟩ ⟨⟨rfl,.inl rfl,.inl rfl⟩,trivial⟩) (ZbA K (pv 0)) (λ_ _ _ _=>Zao (i:=0) (show List.Nodup (["k", "out"]:List Str) by decide +kernel) rfl (Or.inl rfl)) (λ_ _ _ _=>Za0 (Zar (kIn K) (pv 0) (pv 1) (by with_unfolding_all rfl))) (λ_ _ _ _=>pv 0)) Zac)) Zai)),?_⟩
  refine ⟨_,rfl,sl,rfl,⟨_,SqL.of hs⟩,λD hD=>?_⟩
  refine ZaF (K:=K) (a:=sl) (xs:=S.map V.int) (λj ys H2=>Same H H2/\H2 D=some (.lst ys)/\ys=((S.take j).filter λx=>decide (x∈out)).map V.int) ⟨Same.new hD,Zab,rfl⟩ (λj ys H2 _ ⟨s2,_⟩=>SqL.of (s2 _ _ hs)) ?_ ?_
  ·rintro j x ys H2 hxj ⟨s2,eD,rfl⟩
   rw [List.getElem?_map] at hxj
   cases hz:S[j]? with
   | none=>rw [hz] at hxj;cases hxj
   | some n=>
    rw [hz] at hxj
    cases hxj
    have hstep:S.take (j+1)=S.take j++[n]:=by rw [List.take_add_one,hz];rfl
    refine ⟨⟨rfl,trivial⟩,?_⟩
    refine ⟨_,rfl,_,rfl,ol,_,rfl,.inl (SqL.of (s2 _ _ ho)),rfl,by simp [Zck],_,rfl,?_⟩
    rw [ZaU]
    have hlz:(((S.take j).filter λx=>decide (x∈out)).map V.int).length<=1000:=by
     rw [List.length_map]
     have:=List.length_filter_le (λx=>decide (x∈out)) (S.take j)
     rw [List.length_take] at this
     omega
    by_cases hin:n∈out
    ·rw [decide_eq_true hin]
     refine Zbz ⟨_,rfl,eD,by omega,s2.put hD,Zab,?_⟩
     rw [hstep,List.filter_append,List.filter_cons,if_pos (decide_eq_true hin),List.filter_nil,List.map_append]
     rfl
    ·rw [decide_eq_false hin]
     refine Zbo ⟨s2,eD,?_⟩
     rw [hstep,List.filter_append,List.filter_cons_of_neg (by rw [decide_eq_false hin];decide),List.filter_nil,List.append_nil]
  ·rintro ys H2 ⟨s2,eD,rfl⟩
   rw [List.length_map,List.take_length] at eD
   refine ⟨D,_,rfl,.inl (SqL.of eD),_,_,rfl,rfl,(by show (0:Int)<2;decide),?_⟩
   rw [List.length_map]
   exact q H2 s2
def Znu:Sp:=λvs H Q _=>∃ (wb l pa ou:Addr) (k p q:Int) (xs:List V) (rs:List (Int×Int)) (A out:List Int),vs=[.ref wb,.int p,.int q,.ref pa,.ref ou]/\WebAt H wb l k xs rs/\Zaf k rs/\Ends k p q/\H pa=some (.lst (A.map V.int))/\H ou=some (.lst (out.map V.int))/\A.Pairwise (· < ·)/\(∀ x∈A,0<=x/\x<k)/\p∈A/\q ∉ A/\(∀ (j:Nat) (r:Int×Int),rs[j]?=some r->((j:Int)∈out↔cr A r=true))/\∀ H':Hp,Same H H'->Q (.bl true) H'
theorem scCof:Zau ["web", "one", "other", "part", "out", "less", "found"] ["web", "one", "other", "part", "out"] (Zae Zlz):=⟨rfl,rfl,rfl,by decide +kernel,rfl,by decide +kernel,by decide +kernel⟩
theorem Zl0 {k:Int} {rs:List (Int×Int)} {A:List Int} (g:Zaf k rs) (h:A.Pairwise (· < ·)) (hr:∀ x∈A,0<=x/\x<k):A.length<=16:=by
 have:=nodup_range (k:=k.toNat) (h.imp λh=>Int.ne_of_lt h) λx hx=>by have:=hr x hx;omega
 have:=g.2.1
 omega
theorem Znv {f fIc fEw fCu C TM:Addr} {fd fdIc fdEw fdCu:FuncData} (F:Fun K "_law_cut_off" "_law_cut_off" Zlz f fd)
  (FIc:Fun K "is_cut" "is_cut" Zlu fIc fdIc) (bIc:Binds K fdIc ["web", "one", "other", "places"] []) (mIc:mg "is_cut" = some (.ref fIc)) (GIc:ZaI P w K mg base (CXr P w) 3 fIc fdIc ["web", "one", "other", "places"] (Zni C))
  (FEw:Fun K "every_way" "every_way" ZjT fEw fdEw) (bEw:Binds K fdEw ["web", "one", "other"] []) (mEw:mg "every_way" = some (.ref fEw)) (GEw:ZaI P w K mg base (CXr P w) 5 fEw fdEw ["web", "one", "other"] (Zj7 C TM))
  (FCu:Fun K "cut" "cut" Zkw fCu fdCu) (bCu:Binds K fdCu ["web", "one", "other"] []) (mCu:mg "cut" = some (.ref fCu)) (GCu:ZaI P w K mg base (CXr P w) 4 fCu fdCu ["web", "one", "other"] (ZlP C))
  (mRange:mg "range" = none) (mLen:mg "len" = none) (mLst:mg "list" = none):ZaI P w K mg base CX0 6 f fd ["web", "one", "other", "part", "out"] Znu:=by
 refine F.ok scCof (λvs H Q E h=>?_) (λcdv A outer s H vs Q E hr h=>?_)
 ·obtain ⟨_,_,_,_,_,_,_,_,_,_,_,rfl,_⟩:=h
  rfl
 ·obtain ⟨wb,l,pa,ou,k,p,q',xs,rs,B,out,rfl,W,g,en,hpa,hou,asc,hrg,hpB,hqB,iff,q⟩:=h
  have hu:=hr.units
  have h16:(16777216:Nat)=sizeLine:=sizeLine_eq.symm
  have hx:xs.length<=30:=by rw [W.p.len];exact g.2.2.1
  have lB:=Zl0 g asc hrg
  have gL:=ZdE B g
  refine ⟨_,Zad (Zav (i:=5) scCof.nd rfl (Or.inl rfl) (Zbn (Zaa (ZaJ (ZcM K) (pv 0) Zai (λ_ _=>rfl)) (Zaa (ZaO (own:=["k"]) rfl (Zaj (fr:=[("web", 0),("out", 4)]) [(".0", .local),("k", .local),("out", .cell),("web", .cell)] rfl rfl (by decide +kernel) rfl (by decide +kernel) ⟨rfl,rfl,trivial⟩ ⟨λh=>ZaA h,λh=>ZaA h,λ_=>⟨_,rfl⟩,λ_=>⟨_,rfl⟩,trivial⟩ ⟨⟨rfl,.inl rfl,.inl rfl⟩,⟨rfl,.inl rfl,.inl rfl⟩,trivial⟩) (ZaT rfl mRange (Zaa (Zax (ZhU K) rfl mLen PySem.boot_len (Zaa (ZaJ (ZcM K) (pv 0) Zai (λ_ _=>rfl)) Zac)) Zac)) (λ_ _ _ _=>Zao (i:=0) (show List.Nodup (["k", "web", "out"]:List Str) by decide +kernel) rfl (Or.inl rfl)) (λ_ _ _ _=>Za0 (Zar (ZeQ K) (pv 0) (pv 2) (by with_unfolding_all rfl))) (λ_ _ _ _=>ZaJ (ZhT K) (ZaJ (ZcM K) (pv 1) Zai (λ_ _=>rfl)) (pv 0) (λ_ _=>rfl))) Zac))))
    (Zad (Zbb (PW.pt (Zfq (ZcU (Zch (Zak GIc (hr.mono (by decide)) rfl mIc FIc.kp bIc .nil ZcX (Zaa (pv 5) (Zaa (pv 1) (Zaa (pv 2) (Zaa (Zbt (Zfw K) rfl mLst Zbu (Zaa (pv 3) Zac)) Zac))))))) (ZdK (Zar (Zkh K hu) (Zak GEw (hr.mono (by decide)) rfl mEw FEw.kp bEw .nil ZcX (Zaa (pv 5) (Zaa (pv 1) (Zaa (pv 2) Zac)))) (ZaX Zac) (ZaB _))))) (Zah (Zaw ZbB)) ZaC)
    (Zad (Zav (i:=6) scCof.nd rfl (Or.inl rfl) (Zak GCu (hr.mono (by decide)) rfl mCu FCu.kp bCu .nil ZcX (Zaa (pv 5) (Zaa (pv 1) (Zaa (pv 2) Zac)))))
    (Zad (Zbb (PW.pt (Zfq (Zar ZhD (pv 6) Zcg (ZaB _)) (ZdK (ZcU (Zch (Zak GIc (hr.mono (by decide)) rfl mIc FIc.kp bIc .nil ZcX (Zaa (pv 5) (Zaa (pv 1) (Zaa (pv 2) (Zaa (Zbt (Zfw K) rfl mLst Zbu (Zaa (pv 6) Zac)) Zac)))))))))) (Zah (Zaw ZbB)) ZaC)
    (Zah (Zaw (Zbh (ZoN K hu) (ZaO (own:=["place"]) rfl (Zaj (fr:=[("part", 3)]) [(".0", .local),("place", .local),("part", .cell)] rfl rfl (by decide +kernel) rfl (by decide +kernel) ⟨rfl,trivial⟩ ⟨λh=>ZaA h,λh=>ZaA h,λ_=>⟨_,rfl⟩,trivial⟩ ⟨⟨rfl,.inl rfl,.inl rfl⟩,trivial⟩) (ZbA K (pv 6)) (λ_ _ _ _=>Zao (i:=0) (show List.Nodup (["place", "part"]:List Str) by decide +kernel) rfl (Or.inl rfl)) (λ_ _ _ _=>Za0 (Zar (ZeQ K) (pv 0) (pv 1) (by with_unfolding_all rfl))) (λ_ _ _ _=>pv 0)) (ZaX Zac) (ZaB _))))))),?_⟩
  refine ⟨_,rfl,wb,_,_,_,rfl,rfl,SqT.of W.w,Zas (j:=0) rfl,_,rfl,wb,_,_,_,rfl,rfl,SqT.of W.w,Zas (j:=1) rfl,l,xs,rfl,.inl (SqL.of W.l),_,rfl,by omega,by omega,λD hD=>?_⟩
  rw [Int.toNat_natCast]
  refine Zbf (lo:=0) (n:=xs.length) (λj ys H2=>Same H H2/\H2 D=some (.lst ys)/\Prs H2 ys ((rs.take j).filter λr=>!cr B r)) ⟨Same.new hD,Zab,.nil⟩ ?_ ?_
  ·rintro j ys H2 hj ⟨s2,eD,pr⟩
   rw [Int.zero_add]
   have hxj:xs[j]?=some xs[j]:=List.getElem?_eq_getElem hj
   obtain ⟨t,r,et,ett,er⟩:=(W.same s2).p.get hxj
   have hstep:rs.take (j+1)=rs.take j++[r]:=by rw [List.take_add_one,er];rfl
   refine ⟨⟨rfl,rfl,trivial⟩,?_⟩
   refine ⟨_,rfl,_,rfl,ou,_,rfl,.inl (SqL.of (s2 _ _ hou)),rfl,by simp [Zck],_,rfl,?_⟩
   rw [ZaU]
   have lys:ys.length<=30:=by
    have h1:=pr.len
    have h2:=List.length_filter_le (λr=>!cr B r) (rs.take j)
    rw [List.length_take] at h2
    have:=g.2.2.1
    omega
   by_cases hin:(j:Int)∈out
   ·rw [decide_eq_true hin]
    refine Zbo ⟨s2,eD,?_⟩
    rw [hstep,List.filter_append,List.filter_cons_of_neg (by rw [(iff j r er).mp hin];decide),List.filter_nil,List.append_nil]
    exact pr
   ·rw [decide_eq_false hin]
    have hc:(!cr B r)=true:=by
     cases z:cr B r with
     | false=>rfl
     | true=>exact absurd ((iff j r er).mpr z) hin
    refine Zbz ⟨_,rfl,wb,_,_,_,rfl,rfl,SqT.of (W.same s2).w,Zas (j:=1) rfl,_,rfl,l,_,_,_,rfl,rfl,SqL.of (W.same s2).l,Zas (j:=j) hxj,eD,by omega,s2.put hD,Zab,?_⟩
    rw [hstep,List.filter_append,List.filter_cons,if_pos hc,List.filter_nil,et]
    exact (pr.keep (Za1 eD)).snoc (Za1 eD _ _ ett)
  rintro ys H2 ⟨s2,eD,pr⟩
  rw [W.p.len,List.take_length] at pr
  refine ⟨Zby,λle hle=>?_⟩
  have s3:Same H2 (upd H2 le (.tup [.int k,.ref D])):=Same.new hle
  have ele:upd H2 le (.tup [.int k,.ref D]) le=some (.tup [.int k,.ref D]):=Zab
  generalize upd H2 le (.tup [.int k,.ref D])=H3 at s3 ele ⊢
  have WL:WebAt H3 le D k ys (Zc2 B rs):=⟨ele,s3 _ _ eD,pr.same s3⟩
  have S3:=s2.trans s3
  dsimp only [ZcL]
  refine ⟨_,rfl,_,rfl,_,rfl,_,rfl,pa,_,rfl,.inl (SqL.of (S3 _ _ hpa)),λc1 hc1=>?_⟩
  have s4:Same H3 (upd H3 c1 (.lst (B.map V.int))):=Same.new hc1
  have ec1:upd H3 c1 (.lst (B.map V.int)) c1=some (.lst (B.map V.int)):=Zab
  generalize upd H3 c1 (.lst (B.map V.int))=H4 at s4 ec1 ⊢
  refine ⟨le,D,c1,k,p,q',ys,Zc2 B rs,B,rfl,WL.same s4,gL,ec1,by omega,.inl ⟨en,λb H5 s5 hb=>?_⟩⟩
  have hbt:b=true:=hb.mpr ⟨asc,hrg,hpB,hqB,λr hr=>ZfZ hr⟩
  subst hbt
  have s35:=s4.trans s5
  refine ⟨_,rfl,Zbo ?_⟩
  have none':∀ Wl,Wys (Zc2 B rs) p q' Wl->Wl=[]:=λWl wy=>by
   cases Wl with
   | nil=>rfl
   | cons v Wl=>exact absurd ⟨v,wy.ww v (by simp),rfl⟩ (Znr g hpB hqB)
  refine ⟨_,rfl,_,rfl,_,rfl,le,D,k,p,q',ys,Zc2 B rs,rfl,WL.same s35,gL,.inr ⟨en,λWl wy=>⟨λh3=>absurd h3 (by rw [none' Wl wy];decide),λhW fl fz H6 s6 hfl efl lfz ffz pm so=>?_⟩⟩⟩
  have efz:fz=[]:=by
   have:=pm.length_eq
   rw [none' Wl wy,List.length_map,List.map_nil,List.length_nil] at this
   exact List.length_eq_zero_iff.mp this
  subst efz
  refine ⟨Nat.zero_le _,λe1 he1=>?_⟩
  have s7:Same H6 (upd H6 e1 (.lst [])):=Same.new he1
  have ee1:upd H6 e1 (.lst []) e1=some (.lst []):=Zab
  generalize upd H6 e1 (.lst [])=H7 at s7 ee1 ⊢
  refine ⟨.list (Zb3 []),.list (Zb3 []),.lst (SqL.of (s7 _ _ efl)) .nil,.lst (SqL.of ee1) .nil,ZaD _,ZaD _,_,rfl,?_⟩
  rw [ZdC]
  refine Zbo ?_
  have s37:=(s35.trans s6).trans s7
  refine ⟨_,rfl,_,rfl,_,rfl,le,D,k,p,q',ys,Zc2 B rs,rfl,WL.same s37,gL,.inl ⟨en,λcn=>absurd (Zf0 hpB cn) hqB,λnc re cs H8 s8 hre ere nd so l16 mem=>?_⟩⟩
  have s38:=s37.trans s8
  refine ⟨_,rfl,rfl,_,rfl,Zbo ?_⟩
  refine ⟨_,rfl,_,rfl,_,rfl,_,rfl,re,_,rfl,.inl (SqL.of ere),λc2 hc2=>?_⟩
  have s9:Same H8 (upd H8 c2 (.lst (cs.map V.int))):=Same.new hc2
  have ec2:upd H8 c2 (.lst (cs.map V.int)) c2=some (.lst (cs.map V.int)):=Zab
  generalize upd H8 c2 (.lst (cs.map V.int))=H9 at s9 ec2 ⊢
  refine ⟨le,D,c2,k,p,q',ys,Zc2 B rs,cs,rfl,WL.same (s38.trans s9),gL,ec2,by omega,.inl ⟨en,λb H10 s10 hb=>?_⟩⟩
  have hbt:b=true:=hb.mpr ⟨Zba so nd,λx hx=>Conn.inr gL en.1 ((mem x).mp hx),(mem p).mpr .refl,λz=>hqB (Zf0 hpB ((mem q').mp z)),λr hr=>⟨λz=>(mem r.2).mpr (.step ((mem r.1).mp z) (.inl hr)),λz=>(mem r.1).mpr (.step ((mem r.2).mp z) (.inr hr))⟩⟩
  subst hbt
  refine ⟨_,rfl,Zbo ?_⟩
  have S10:=(S3.trans s38).trans (s9.trans s10)
  have ere10:=s10 _ _ (s9 _ _ ere)
  refine ⟨_,rfl,re,rfl,⟨_,SqL.of ere10⟩,λD2 hD2=>?_⟩
  refine ZaF (K:=K) (a:=re) (xs:=cs.map V.int) (λj ys H11=>Same H10 H11/\H11 D2=some (.lst [])/\ys=[]) ⟨Same.new hD2,Zab,rfl⟩ (λj ys H11 _ ⟨s11,_⟩=>SqL.of (s11 _ _ ere10)) ?_ ?_
  ·rintro j x ys H11 hxj ⟨s11,eD2,rfl⟩
   rw [List.getElem?_map] at hxj
   cases hz:cs[j]? with
   | none=>rw [hz] at hxj;cases hxj
   | some n=>
    rw [hz] at hxj
    cases hxj
    have hn:n∈B:=Zf0 hpB ((mem n).mp (List.mem_of_getElem? hz))
    refine ⟨⟨rfl,trivial⟩,?_⟩
    refine ⟨_,rfl,_,rfl,pa,_,rfl,.inl (SqL.of ((S10.trans s11) _ _ hpa)),rfl,by simp [Zck],_,rfl,?_⟩
    rw [ZaU,decide_eq_true hn]
    exact Zbo ⟨s11,eD2,rfl⟩
  ·rintro ys H11 ⟨s11,eD2,rfl⟩
   refine ⟨Nat.zero_le _,λe2 he2=>?_⟩
   have s12:Same H11 (upd H11 e2 (.lst [])):=Same.new he2
   refine ⟨.list (Zb3 []),.list (Zb3 []),.lst (SqL.of (s12 _ _ eD2)) .nil,.lst (SqL.of Zab) .nil,ZaD _,ZaD _,?_⟩
   rw [ZdC]
   exact q _ ((S10.trans s11).trans s12)
end
end M
namespace M
open PySem L2
section
variable {P:Program} {w:World} {K:PySem.W.Frag} {mg:Str->Option Value} {base:Heap}
def Tld (H:Hp) (sv:V) (rs:List (Int×Int)) (en:Option (Int×Int)):Prop:=sv=.non\/∃ (r:Addr) (zs:List (Addr×List Int)),sv=.ref r/\H r=some (.lst (zs.map λz=>V.ref z.1))/\Lz H zs/\ZdJ rs en (zs.map (·.2))
theorem Tld.same {H H':Hp} {sv:V} {rs:List (Int×Int)} {en:Option (Int×Int)} (h:Tld H sv rs en) (s:Same H H'):Tld H' sv rs en:=by
 rcases h with h | ⟨r,zs,a,b,c,d⟩
 ·exact .inl h
 ·exact .inr ⟨r,zs,a,s _ _ b,c.same s,d⟩
def Zhn (A:List Int) (rs:List (Int×Int)) (j:Nat):List Int:=((List.range j).filter λi=>cr A (rs.getD i (0,0))).map λ(i:Nat)=>(i:Int)
theorem ZiZ {A:List Int} {rs:List (Int×Int)} {j:Nat} {r:Int×Int} (h:rs[j]?=some r):((j:Int)∈Zhn A rs rs.length)↔cr A r=true:=by
 have hj:=(List.getElem?_eq_some_iff.mp h).1
 have e:rs.getD j (0,0)=r:=by rw [List.getD_eq_getElem?_getD,h];rfl
 unfold Zhn
 rw [List.mem_map]
 constructor
 ·rintro ⟨i,hi,z⟩
  have:i=j:=by omega
  subst this
  have:=(List.mem_filter.mp hi).2
  rw [e] at this
  exact this
 ·intro hc
  exact ⟨j,List.mem_filter.mpr ⟨List.mem_range.mpr hj,by rw [e];exact hc⟩,rfl⟩
theorem ZkK {A S:List Int} {rs:List (Int×Int)} (hS:Zb2 rs S):(S.filter λx=>decide (x∈Zhn A rs rs.length))=S.filter λx=>cr A (road rs x):=by
 refine List.filter_congr λx hx=>?_
 have:=hS.2 x hx
 have h:rs[x.toNat]?=some (road rs x):=by
  unfold road
  rw [List.getD_eq_getElem?_getD,List.getElem?_eq_getElem (by omega)]
  rfl
 have i:=ZiZ (A:=A) h
 rw [Int.toNat_of_nonneg this.1] at i
 cases z:cr A (road rs x) with
 | true=>exact decide_eq_true (i.mpr z)
 | false=>exact decide_eq_false λy=>by rw [i.mp y] at z;cases z
theorem Zov (a b:Bool):(!decide (V.bl a=V.bl b))=(a != b):=by cases a <;> cases b <;> decide
theorem ZkL (L:List (List Int)):PyData.eqv (.list (Zb3 L)) (.list (Zb3 []))=decide (L=[]):=by
 cases L with
 | nil=>exact ZdC []
 | cons x L=>
  rw [decide_eq_false (by simp)]
  simp [Zb3,PyData.eqv,PyData.eqvAll]
theorem ZgL {H:Hp} {xs:List V} {rs:List (Int×Int)} (h:Prs H xs rs):∀ ns:List Int,(∀ i∈ns,0<=i/\i<(rs.length:Int))->Prs H (ns.map λi=>xs.getD i.toNat .non) (ns.map (road rs))
 | [],_=>.nil
 | i::ns,hn=>by
  have hi:=hn i (by simp)
  have hl:=h.len
  have hx:xs[i.toNat]?=some (xs.getD i.toNat .non):=by
   rw [List.getD_eq_getElem?_getD,List.getElem?_eq_getElem (by omega)]
   rfl
  obtain ⟨t,r,e,et,er⟩:=h.get hx
  rw [List.map_cons,List.map_cons,e]
  have e2:road rs i=r:=by unfold road;rw [List.getD_eq_getElem?_getD,er];rfl
  rw [e2]
  exact .cons et (ZgL h ns λj hj=>hn j (by simp [hj]))
theorem Zi0 {rs:List (Int×Int)} {S:List Int} (h:Zb2 rs S):S.length<=rs.length:=nodup_range (k:=rs.length) (h.1.imp λh=>Int.ne_of_lt h) h.2
theorem ZgM {k:Int} {rs:List (Int×Int)} {ns:List Int} {en:Option (Int×Int)} {L:List (List Int)} (g:Zaf k rs) (pm:ns.Perm (Zb9 rs.length)) (te:ZdJ rs en L):¬ Zl5 (Zbm rs ns) en:=by
 rintro ⟨M,ndM,hl,hM⟩
 have:=ZiS (m:=L.map λS=>Za5 ns S ns.length) ndM λS hS=>by
  obtain ⟨T,hT,rfl⟩:=(ZgK g pm S).mp (hM S hS)
  exact List.mem_map.mpr ⟨T,(te.iff T).mpr hT,rfl⟩
 rw [List.length_map] at this
 have:=te.ln
 omega
def Znw:Sp:=λvs H Q _=>∃ (wb l pa od:Addr) (k p q:Int) (xs:List V) (rs:List (Int×Int)) (A ns:List Int),vs=[.ref wb,.int p,.int q,.ref pa,.ref od]/\WebAt H wb l k xs rs/\Zaf k rs/\Ends k p q/\H pa=some (.lst (A.map V.int))/\A.Pairwise (· < ·)/\(∀ x∈A,0<=x/\x<k)/\p∈A/\q ∉ A/\H od=some (.lst (ns.map V.int))/\ns.Perm (Zb9 rs.length)/\∀ H':Hp,Same H H'->Q (.bl true) H'
theorem scRig:Zau ["web", "one", "other", "part", "order", "out", "sets", "rings", "turned"] ["web", "one", "other", "part", "order"] (Zae ZlB):=⟨rfl,rfl,rfl,by decide +kernel,rfl,by decide +kernel,by decide +kernel⟩
theorem Znx {f fCo fTo fRo fOd fCu fEw fEc fPi C TM NO:Addr} {fd fdCo fdTo fdRo fdOd fdCu fdEw fdEc fdPi:FuncData} (F:Fun K "_law_right" "_law_right" ZlB f fd)
  (FCo:Fun K "_law_cut_off" "_law_cut_off" Zlz fCo fdCo) (bCo:Binds K fdCo ["web", "one", "other", "part", "out"] []) (mCo:mg "_law_cut_off" = some (.ref fCo)) (GCo:ZaI P w K mg base CX0 6 fCo fdCo ["web", "one", "other", "part", "out"] Znu)
  (FTo:Fun K "_law_told" "_law_told" Zly fTo fdTo) (bTo:Binds K fdTo ["web", "ends"] []) (mTo:mg "_law_told" = some (.ref fTo)) (GTo:ZaI P w K mg base CX0 6 fTo fdTo ["web", "ends"] Znp)
  (FRo:Fun K "reordered" "reordered" Zls fRo fdRo) (bRo:Binds K fdRo ["web", "order"] []) (mRo:mg "reordered" = some (.ref fRo)) (GRo:ZaI P w K mg base (CXr P w) 1 fRo fdRo ["web", "order"] (Zm5 NO))
  (FOd:Fun K "_law_odd" "_law_odd" ZlA fOd fdOd) (bOd:Binds K fdOd ["roads", "out"] []) (mOd:mg "_law_odd" = some (.ref fOd)) (GOd:ZaI P w K mg base CX0 1 fOd fdOd ["roads", "out"] Zns)
  (FCu:Fun K "cut" "cut" Zkw fCu fdCu) (bCu:Binds K fdCu ["web", "one", "other"] []) (mCu:mg "cut" = some (.ref fCu)) (GCu:ZaI P w K mg base (CXr P w) 4 fCu fdCu ["web", "one", "other"] (ZlP C))
  (FEw:Fun K "every_way" "every_way" ZjT fEw fdEw) (bEw:Binds K fdEw ["web", "one", "other"] []) (mEw:mg "every_way" = some (.ref fEw)) (GEw:ZaI P w K mg base (CXr P w) 5 fEw fdEw ["web", "one", "other"] (Zj7 C TM))
  (FEc:Fun K "every_closed" "every_closed" Zkv fEc fdEc) (bEc:Binds K fdEc ["web"] []) (mEc:mg "every_closed" = some (.ref fEc)) (GEc:ZaI P w K mg base (CXr P w) 5 fEc fdEc ["web"] (ZlT TM))
  (FPi:Fun K "put_into" "put_into" Zlv fPi fdPi) (bPi:Binds K fdPi ["order", "roads"] []) (mPi:mg "put_into" = some (.ref fPi)) (GPi:ZaI P w K mg base CX0 1 fPi fdPi ["order", "roads"] Zm7)
  (mRange:mg "range" = none) (mLen:mg "len" = none) (mLst:mg "list" = none) (mSor:mg "sorted" = none):ZaI P w K mg base CX0 7 f fd ["web", "one", "other", "part", "order"] Znw:=by
 refine F.ok scRig (λvs H Q E h=>?_) (λcdv A outer s H vs Q E hr h=>?_)
 ·obtain ⟨_,_,_,_,_,_,_,_,_,_,_,rfl,_⟩:=h
  rfl
 ·obtain ⟨wb,l,pa,od,k,p,q',xs,rs,B,ns,rfl,W,g,en,hpa,asc,hrg,hpB,hqB,hod,pm,q⟩:=h
  have hu:=hr.units
  have h16:(16777216:Nat)=sizeLine:=sizeLine_eq.symm
  have hx:xs.length<=30:=by rw [W.p.len];exact g.2.2.1
  have hlen:=W.p.len
  have lns:ns.length=rs.length:=by rw [pm.length_eq,Zda]
  have gT:=Zfi g pm
  refine ⟨_,Zad (Zav (i:=5) scRig.nd rfl (Or.inr rfl) (ZaO (own:=["k"]) rfl (Zaj (fr:=[("web", 0),("part", 3)]) [(".0", .local),("k", .local),("part", .cell),("web", .cell)] rfl rfl (by decide +kernel) rfl (by decide +kernel) ⟨rfl,rfl,trivial⟩ ⟨λh=>ZaA h,λh=>ZaA h,λ_=>⟨_,rfl⟩,λ_=>⟨_,rfl⟩,trivial⟩ ⟨⟨rfl,.inl rfl,.inl rfl⟩,⟨rfl,.inl rfl,.inl rfl⟩,trivial⟩) (ZaT rfl mRange (Zaa (Zax (ZhU K) rfl mLen PySem.boot_len (Zaa (ZaJ (ZcM K) (pv 0) Zai (λ_ _=>rfl)) Zac)) Zac)) (λ_ _ _ _=>Zao (i:=0) (show List.Nodup (["k", "web", "part"]:List Str) by decide +kernel) rfl (Or.inl rfl)) (λ_ _ _ _=>Za0 (Zar ZhC (Zbh (kIn K) (ZaJ (ZcM K) (ZaJ (ZhT K) (ZaJ (ZcM K) (pv 1) Zai (λ_ _=>rfl)) (pv 0) (λ_ _=>rfl)) Zai (λ_ _=>rfl)) (pv 2) (by with_unfolding_all rfl)) (Zbh (kIn K) (ZaJ (ZcM K) (ZaJ (ZhT K) (ZaJ (ZcM K) (pv 1) Zai (λ_ _=>rfl)) (pv 0) (λ_ _=>rfl)) Zai (λ_ _=>rfl)) (pv 2) (by with_unfolding_all rfl)) (ZaB _))) (λ_ _ _ _=>pv 0)))
    (Zad (Zbb (ZcU (Zch (Zak GCo (hr.mono (by decide)) rfl mCo FCo.kp bCo .nil ZaL (Zaa (pv 0) (Zaa (pv 1) (Zaa (pv 2) (Zaa (pv 3) (Zaa (pv 5) Zac)))))))) (Zah (Zaw ZbB)) ZaC)
    (Zad (Zav (i:=6) scRig.nd rfl (Or.inl rfl) (Zak GTo (hr.mono (by decide)) rfl mTo FTo.kp bTo .nil ZaL (Zaa (pv 0) (Zaa (Zbn (Zaa (pv 1) (Zaa (pv 2) Zac))) Zac))))
    (Zad (Zav (i:=7) scRig.nd rfl (Or.inl rfl) (Zak GTo (hr.mono (by decide)) rfl mTo FTo.kp bTo .nil ZaL (Zaa (pv 0) (Zaa Zcg Zac))))
    (Zad (Zav (i:=8) scRig.nd rfl (Or.inl rfl) (Zak GRo (hr.mono (by decide)) rfl mRo FRo.kp bRo .nil ZcX (Zaa (pv 0) (Zaa (Zbt (Zfw K) rfl mLst Zbu (Zaa (pv 4) Zac)) Zac))))
    (Zad (Zbb (Zar ZhE (pv 6) Zcg (ZaB _)) (Zad (Zbb (Zar (Zkh K hu) (ZaO (own:=["roads"]) rfl (Zaj (fr:=[("out", 5)]) [(".0", .local),("roads", .local),("_law_odd", .globalImplicit),("out", .cell)] rfl rfl (by decide +kernel) rfl (by decide +kernel) ⟨rfl,trivial⟩ ⟨λh=>ZaA h,λh=>ZaA h,λh=>ZaA h,λ_=>⟨_,rfl⟩,trivial⟩ ⟨⟨rfl,.inl rfl,.inl rfl⟩,trivial⟩) (ZbA K (pv 6)) (λ_ _ _ _=>Zao (i:=0) (show List.Nodup (["roads", "out"]:List Str) by decide +kernel) rfl (Or.inl rfl)) (λ_ _ _ _=>Za0 (Zar ZdH (Zak GOd (hr.mono (by decide)) rfl mOd FOd.kp bOd .nil ZaL (Zaa (pv 0) (Zaa (pv 1) Zac))) Zai (ZaB _))) (λ_ _ _ _=>pv 0)) (ZaX Zac) (ZaB _)) (Zah (Zaw ZbB)) ZaC)
    (Zad (Zbb (Zar ZhC (Zbh ZhD (Zak GCu (hr.mono (by decide)) rfl mCu FCu.kp bCu .nil ZcX (Zaa (pv 0) (Zaa (pv 1) (Zaa (pv 2) Zac)))) Zcg (ZaB _)) (Zbh (Zkh K hu) (pv 6) (ZaX Zac) (ZaB _)) (ZaB _)) (Zah (Zaw ZbB)) ZaC)
    (Zah (Zbb (Zar (Zkh K hu) (Zak GEw (hr.mono (by decide)) rfl mEw FEw.kp bEw .nil ZcX (Zaa (pv 8) (Zaa (pv 1) (Zaa (pv 2) Zac)))) (Zax (ZfP K hu) rfl mSor PyProof.Rows.boot_sorted (Zaa (ZaO (own:=["roads"]) rfl (Zaj (fr:=[("order", 4)]) [(".0", .local),("roads", .local),("put_into", .globalImplicit),("order", .cell)] rfl rfl (by decide +kernel) rfl (by decide +kernel) ⟨rfl,trivial⟩ ⟨λh=>ZaA h,λh=>ZaA h,λh=>ZaA h,λ_=>⟨_,rfl⟩,trivial⟩ ⟨⟨rfl,.inl rfl,.inl rfl⟩,trivial⟩) (ZbA K (pv 6)) (λ_ _ _ _=>Zao (i:=0) (show List.Nodup (["roads", "order"]:List Str) by decide +kernel) rfl (Or.inl rfl)) (λ_ _ _ _=>ZaZ) (λ_ _ _ _=>Zak GPi (hr.mono (by decide)) rfl mPi FPi.kp bPi .nil ZaL (Zaa (pv 1) (Zaa (pv 0) Zac)))) Zac)) (ZaB _)) (Zah (Zaw ZbB)) ZaC)))) ZaC)
    (Zad (Zbb (Zar ZhE (pv 7) Zcg (ZaB _)) (Zad (Zbb (Zar (Zkh K hu) (ZaO (own:=["roads"]) rfl (Zaj (fr:=[("out", 5)]) [(".0", .local),("roads", .local),("_law_odd", .globalImplicit),("out", .cell)] rfl rfl (by decide +kernel) rfl (by decide +kernel) ⟨rfl,trivial⟩ ⟨λh=>ZaA h,λh=>ZaA h,λh=>ZaA h,λ_=>⟨_,rfl⟩,trivial⟩ ⟨⟨rfl,.inl rfl,.inl rfl⟩,trivial⟩) (ZbA K (pv 7)) (λ_ _ _ _=>Zao (i:=0) (show List.Nodup (["roads", "out"]:List Str) by decide +kernel) rfl (Or.inl rfl)) (λ_ _ _ _=>Za0 (Zar ZdH (Zak GOd (hr.mono (by decide)) rfl mOd FOd.kp bOd .nil ZaL (Zaa (pv 0) (Zaa (pv 1) Zac))) Zai (ZaB _))) (λ_ _ _ _=>pv 0)) (ZaX Zac) (ZaB _)) (Zah (Zaw ZbB)) ZaC)
    (Zah (Zbb (Zar (Zkh K hu) (Zak GEc (hr.mono (by decide)) rfl mEc FEc.kp bEc .nil ZcX (Zaa (pv 8) Zac)) (Zax (ZfP K hu) rfl mSor PyProof.Rows.boot_sorted (Zaa (ZaO (own:=["roads"]) rfl (Zaj (fr:=[("order", 4)]) [(".0", .local),("roads", .local),("put_into", .globalImplicit),("order", .cell)] rfl rfl (by decide +kernel) rfl (by decide +kernel) ⟨rfl,trivial⟩ ⟨λh=>ZaA h,λh=>ZaA h,λh=>ZaA h,λ_=>⟨_,rfl⟩,trivial⟩ ⟨⟨rfl,.inl rfl,.inl rfl⟩,trivial⟩) (ZbA K (pv 7)) (λ_ _ _ _=>Zao (i:=0) (show List.Nodup (["roads", "order"]:List Str) by decide +kernel) rfl (Or.inl rfl)) (λ_ _ _ _=>ZaZ) (λ_ _ _ _=>Zak GPi (hr.mono (by decide)) rfl mPi FPi.kp bPi .nil ZaL (Zaa (pv 1) (Zaa (pv 0) Zac)))) Zac)) (ZaB _)) (Zah (Zaw ZbB)) ZaC))) ZaC)
    (Zah (Zaw (Zbh (ZoN K hu) (Zak GCu (hr.mono (by decide)) rfl mCu FCu.kp bCu .nil ZcX (Zaa (pv 8) (Zaa (pv 1) (Zaa (pv 2) Zac)))) (Zak GCu (hr.mono (by decide)) rfl mCu FCu.kp bCu .nil ZcX (Zaa (pv 0) (Zaa (pv 1) (Zaa (pv 2) Zac)))) (ZaB _)))))))))),?_⟩
  refine ⟨_,rfl,wb,_,_,_,rfl,rfl,SqT.of W.w,Zas (j:=1) rfl,l,xs,rfl,.inl (SqL.of W.l),_,rfl,by omega,by omega,λou hou=>?_⟩
  rw [Int.toNat_natCast]
  refine Zbf (lo:=0) (n:=xs.length) (λj ys H2=>Same H H2/\H2 ou=some (.lst ys)/\ys=(Zhn B rs j).map V.int) ⟨Same.new hou,Zab,rfl⟩ ?_ ?_
  ·rintro j ys H2 hj ⟨s2,eD,rfl⟩
   rw [Int.zero_add]
   have hxj:xs[j]?=some xs[j]:=List.getElem?_eq_getElem hj
   have W2:=W.same s2
   obtain ⟨t,r,et,ett,er⟩:=W2.p.get hxj
   rw [et] at hxj
   have hpa2:=s2 _ _ hpa
   have ger:rs.getD j (0,0)=r:=by rw [List.getD_eq_getElem?_getD,er];rfl
   refine ⟨⟨rfl,rfl,trivial⟩,?_⟩
   refine ⟨_,rfl,wb,_,_,_,rfl,rfl,SqT.of W2.w,Zas (j:=1) rfl,_,rfl,l,_,_,_,rfl,rfl,SqL.of W2.l,Zas (j:=j) hxj,t,_,_,_,rfl,rfl,SqT.of ett,Zas (j:=0) rfl,_,rfl,pa,_,rfl,.inl (SqL.of hpa2),rfl,by simp [Zck],?_⟩
   refine ⟨_,rfl,wb,_,_,_,rfl,rfl,SqT.of W2.w,Zas (j:=1) rfl,_,rfl,l,_,_,_,rfl,rfl,SqL.of W2.l,Zas (j:=j) hxj,t,_,_,_,rfl,rfl,SqT.of ett,Zas (j:=1) rfl,_,rfl,pa,_,rfl,.inl (SqL.of hpa2),rfl,by simp [Zck],rfl,_,rfl,?_⟩
   rw [ZaU,ZaU,Zov]
   have est:Zhn B rs (j+1)=Zhn B rs j++(if cr B r=true then [(j:Int)] else []):=by
    unfold Zhn
    rw [List.range_succ,List.filter_append,List.map_append,List.filter_cons,ger,List.filter_nil]
    cases cr B r <;> rfl
   have lo:(Zhn B rs j).length<=j:=by
    unfold Zhn
    rw [List.length_map]
    exact Nat.le_trans (List.length_filter_le _ _) (by rw [List.length_range];exact Nat.le_refl _)
   rw [show ((if false=true then !decide (r.1∈B) else decide (r.1∈B)) != (if false=true then !decide (r.2∈B) else decide (r.2∈B)))=cr B r from rfl]
   cases hc:cr B r with
   | true=>
    rw [hc,if_pos rfl] at est
    refine Zbz ⟨_,rfl,eD,by rw [List.length_map];omega,s2.put hou,Zab,?_⟩
    rw [est,List.map_append]
    rfl
   | false=>
    rw [hc,if_neg Bool.false_ne_true,List.append_nil] at est
    refine Zbo ⟨s2,eD,?_⟩
    rw [est]
  rintro ys H2 ⟨s2,eou,rfl⟩
  rw [hlen] at eou
  refine ⟨_,rfl,_,rfl,_,rfl,_,rfl,_,rfl,wb,l,pa,ou,k,p,q',xs,rs,B,Zhn B rs rs.length,rfl,W.same s2,g,en,s2 _ _ hpa,eou,asc,hrg,hpB,hqB,λj r hj=>ZiZ hj,λH3 s3=>⟨_,rfl,Zbo ?_⟩⟩
  have S3:=s2.trans s3
  have eou3:=s3 _ _ eou
  dsimp only [Zmb]
  refine Za7 (λσ' H'=>∃ sv:V,σ'=[some (.ref wb),some (.int p),some (.int q'),some (.ref pa),some (.ref od),some (.ref ou),some sv,none,none]/\Same H3 H'/\Tld H' sv rs (some (p,q'))) ?sa ?fa
  case fa=>
   intro hk'
   refine ⟨_,rfl,_,rfl,_,rfl,Zby,λt ht=>?_⟩
   have s4:Same H3 (upd H3 t (.tup [.int p,.int q'])):=Same.new ht
   have et:upd H3 t (.tup [.int p,.int q']) t=some (.tup [.int p,.int q']):=Zab
   generalize upd H3 t (.tup [.int p,.int q'])=H4 at s4 et ⊢
   refine ⟨wb,l,.ref t,some (p,q'),k,xs,rs,rfl,W.same (S3.trans s4),g,.inr ⟨t,p,q',rfl,et,rfl⟩,en,λtoo H5 s5=>?_,λr zs H5 s5 hr0 er lz te=>?_⟩
   ·exact hk' _ _ ⟨_,rfl,s4.trans s5,.inl rfl⟩
   ·exact hk' _ _ ⟨_,rfl,s4.trans s5,.inr ⟨r,zs,rfl,er,lz,te⟩⟩
  rintro σ' H4 ⟨sv,rfl,s4,tdS⟩
  refine Za7 (λσ' H'=>∃ rv:V,σ'=[some (.ref wb),some (.int p),some (.int q'),some (.ref pa),some (.ref od),some (.ref ou),some sv,some rv,none]/\Same H4 H'/\Tld H' rv rs none) ?sb ?fb
  case fb=>
   intro hk'
   refine ⟨_,rfl,wb,l,.non,none,k,xs,rs,rfl,W.same (S3.trans s4),g,.inl ⟨rfl,rfl⟩,trivial,λtoo H5 s5=>?_,λr zs H5 s5 hr0 er lz te=>?_⟩
   ·exact hk' _ _ ⟨_,rfl,s5,.inl rfl⟩
   ·exact hk' _ _ ⟨_,rfl,s5,.inr ⟨r,zs,rfl,er,lz,te⟩⟩
  rintro σ' H5 ⟨rv,rfl,s5,tdR⟩
  have S5:=(S3.trans s4).trans s5
  have tdS:=tdS.same s5
  refine ⟨_,rfl,_,rfl,od,_,rfl,.inl (SqL.of (S5 _ _ hod)),λc1 hc1=>?_⟩
  have s6:Same H5 (upd H5 c1 (.lst (ns.map V.int))):=Same.new hc1
  have ec1:upd H5 c1 (.lst (ns.map V.int)) c1=some (.lst (ns.map V.int)):=Zab
  generalize upd H5 c1 (.lst (ns.map V.int))=H6 at s6 ec1 ⊢
  have W6:=W.same (S5.trans s6)
  refine ⟨wb,c1,l,k,xs,ns,rfl,W6.w,W6.l,ec1,by omega,hx,.inl ⟨by rw [hlen];exact pm,λtw tl H7 s7 htw htl hne etw etl=>?_⟩⟩
  have S7:=(S5.trans s6).trans s7
  have WT:WebAt H7 tw tl k (ns.map λi=>xs.getD i.toNat .non) (Zbm rs ns):=⟨etw,etl,ZgL (W.same S7).p ns λi hi=>Zgw (pm.mem_iff.mp hi)⟩
  have tdS:=tdS.same (s6.trans s7)
  have tdR:=tdR.same (s6.trans s7)
  have eou7:=(((s4.trans s5).trans s6).trans s7) _ _ eou3
  dsimp only [ZcL]
  refine Za7 (λσ' H'=>σ'=[some (.ref wb),some (.int p),some (.int q'),some (.ref pa),some (.ref od),some (.ref ou),some sv,some rv,some (.ref tw)]/\Same H7 H') ?sx ?fx
  case fx=>
   intro hk'
   rcases tdS with e0 | ⟨r,zs,e0,er,lz,te⟩
   ·subst e0
    exact ⟨_,rfl,rfl,_,rfl,Zbo (hk' _ _ ⟨rfl,Same.refl _⟩)⟩
   ·subst e0
    have lzl:zs.length<=300:=by have:=te.ln;rw [List.length_map] at this;exact this
    refine ⟨_,rfl,rfl,_,rfl,Zbz ?_⟩
    refine Za7 (λσ' H'=>σ'=[some (.ref wb),some (.int p),some (.int q'),some (.ref pa),some (.ref od),some (.ref ou),some (.ref r),some rv,some (.ref tw)]/\Same H7 H') ?saxi ?faxi
    case faxi=>
     intro hk2
     refine ⟨_,rfl,r,rfl,⟨_,SqL.of er⟩,λD hD=>?_⟩
     refine ZaF (K:=K) (a:=r) (xs:=zs.map λz=>V.ref z.1) (λj ys H8=>Same H7 H8/\H8 D=some (.lst [])/\ys=[]) ⟨Same.new hD,Zab,rfl⟩ (λj ys H8 _ ⟨s8,_⟩=>SqL.of (s8 _ _ er)) ?_ ?_
     ·rintro j x ys H8 hxj ⟨s8,eD,rfl⟩
      rw [List.getElem?_map] at hxj
      cases hz:zs[j]? with
      | none=>rw [hz] at hxj;cases hxj
      | some z=>
       rw [hz] at hxj
       cases hxj
       have hzm:z∈zs:=List.mem_of_getElem? hz
       have hI:IsS rs (some (p,q')) z.2:=(te.iff z.2).mp (List.mem_map.mpr ⟨z,hzm,rfl⟩)
       have hS:=ZdB g hI
       refine ⟨⟨rfl,trivial⟩,?_⟩
       refine ⟨_,rfl,_,rfl,z.1,ou,z.2,Zhn B rs rs.length,rfl,s8 _ _ (lz z hzm),s8 _ _ eou7,by have:=Zi0 hS;omega,λH9 s9=>⟨rfl,_,rfl,?_⟩⟩
       rw [ZkK hS,ZgI g hpB hqB hI]
       exact Zbo ⟨s8.trans s9,s9 _ _ eD,rfl⟩
     ·rintro ys H8 ⟨s8,eD,rfl⟩
      refine ⟨Nat.zero_le _,λe1 he1=>?_⟩
      have s9:Same H8 (upd H8 e1 (.lst [])):=Same.new he1
      refine ⟨.list (Zb3 []),.list (Zb3 []),.lst (SqL.of (s9 _ _ eD)) .nil,.lst (SqL.of Zab) .nil,ZaD _,ZaD _,_,rfl,?_⟩
      rw [ZdC]
      exact Zbo (hk2 _ _ ⟨rfl,s8.trans s9⟩)
    rintro σ' H8 ⟨rfl,s8⟩
    refine Za7 (λσ' H'=>σ'=[some (.ref wb),some (.int p),some (.int q'),some (.ref pa),some (.ref od),some (.ref ou),some (.ref r),some rv,some (.ref tw)]/\Same H7 H') ?sbc ?fbc
    case fbc=>
     intro hk2
     have hL:Conn rs p q'↔zs.map (·.2)≠[]:=by
      rw [Zkb]
      constructor
      ·rintro ⟨v,hv⟩ e
       have:=(te.iff _).mpr (⟨v,hv,rfl⟩:IsS rs (some (p,q')) (Zbr rs false v))
       rw [e] at this
       cases this
      ·intro ne
       obtain ⟨S,hS⟩:=List.exists_mem_of_ne_nil _ ne
       obtain ⟨v,hv,_⟩:=(te.iff S).mp hS
       exact ⟨v,hv⟩
     refine ⟨_,rfl,_,rfl,_,rfl,wb,l,k,p,q',xs,rs,rfl,W.same (S7.trans s8),g,.inl ⟨en,λcn H9 s9=>?_,λnc re cs H9 s9 hre ere nd so l16 mem=>?_⟩⟩
     ·refine ⟨rfl,_,rfl,Nat.zero_le _,λe1 he1=>?_⟩
      have s10:Same H9 (upd H9 e1 (.lst [])):=Same.new he1
      have S10:=(s8.trans s9).trans s10
      refine ⟨.list (Zb3 (zs.map (·.2))),.list (Zb3 []),.lst (SqL.of (S10 _ _ er)) (Zcf (lz.same S10)),.lst (SqL.of Zab) .nil,ZaD _,ZaD _,rfl,_,rfl,?_⟩
      rw [ZkL,decide_eq_false (hL.mp cn)]
      exact Zbo (hk2 _ _ ⟨rfl,S10⟩)
     ·refine ⟨rfl,_,rfl,Nat.zero_le _,λe1 he1=>?_⟩
      have s10:Same H9 (upd H9 e1 (.lst [])):=Same.new he1
      have S10:=(s8.trans s9).trans s10
      have e0:zs.map (·.2)=[]:=Classical.byContradiction λne=>nc (hL.mpr ne)
      refine ⟨.list (Zb3 (zs.map (·.2))),.list (Zb3 []),.lst (SqL.of (S10 _ _ er)) (Zcf (lz.same S10)),.lst (SqL.of Zab) .nil,ZaD _,ZaD _,rfl,_,rfl,?_⟩
      rw [ZkL,decide_eq_true e0]
      exact Zbo (hk2 _ _ ⟨rfl,S10⟩)
    clear s8
    rintro σ' H8 ⟨rfl,s8⟩
    have ez8:=lz.same s8
    have er8:=s8 _ _ er
    have WT8:=WT.same s8
    have hod8:=(S7.trans s8) _ _ hod
    refine ⟨_,rfl,_,rfl,_,rfl,tw,tl,k,p,q',_,Zbm rs ns,rfl,WT8,gT,.inr ⟨en,λWl wy=>⟨λh3=>absurd (ZiX gT en wy h3) (ZgM g pm te),λhW fl fz H10 s10 hfl efl lfz ffz pm2 so2=>?_⟩⟩⟩
    have te2:ZdJ (Zbm rs ns) (some (p,q')) (fz.map (·.2)):=ZgE gT en wy hW pm2 so2
    refine ⟨_,rfl,r,rfl,⟨_,SqL.of (s10 _ _ er8)⟩,λD hD=>?_⟩
    refine ZaF (K:=K) (a:=r) (xs:=zs.map λz=>V.ref z.1) (λj ys H11=>Same H10 H11/\H11 D=some (.lst ys)/\∃ cz:List (Addr×List Int),ys=cz.map (λz=>V.ref z.1)/\Lz H11 cz/\(∀ z∈cz,z.1≠D)/\cz.map (·.2)=((zs.take j).map (·.2)).map λS=>Za5 ns S ns.length) ⟨Same.new hD,Zab,[],rfl,λz hz=>(by cases hz),λz hz=>(by cases hz),rfl⟩ (λj ys H11 _ ⟨s11,_⟩=>SqL.of (s11 _ _ (s10 _ _ er8))) ?_ ?_
    ·rintro j x ys H11 hxj ⟨s11,eD,cz,rfl,l11,f11,m11⟩
     rw [List.getElem?_map] at hxj
     cases hz:zs[j]? with
     | none=>rw [hz] at hxj;cases hxj
     | some z=>
      rw [hz] at hxj
      cases hxj
      have hzm:z∈zs:=List.mem_of_getElem? hz
      have hstep:zs.take (j+1)=zs.take j++[z]:=by rw [List.take_add_one,hz];rfl
      have lcz:cz.length<=300:=by
       have h1:cz.length=(cz.map (·.2)).length:=by rw [List.length_map]
       rw [h1,m11,List.length_map,List.length_map,List.length_take]
       omega
      refine ⟨⟨rfl,trivial⟩,?_⟩
      unfold Zhk
      refine Zbz ?_
      refine ⟨_,rfl,_,rfl,od,z.1,ns,z.2,rfl,(s10.trans s11) _ _ hod8,(s10.trans s11) _ _ (ez8 z hzm),by have:=g.2.2.1;omega,λpl H12 s12 hpl epl=>?_⟩
      have hDl:D≠pl:=λe=>by rw [<-e,eD] at hpl;cases hpl
      refine ⟨s12 _ _ eD,by rw [List.length_map];omega,(s11.trans s12).put hD,Zab,cz++[(pl,Za5 ns z.2 ns.length)],by rw [List.map_append];rfl,λy hy=>?_,λy hy=>?_,?_⟩
      ·rcases List.mem_append.mp hy with hy | hy
       ·exact Zal (s12 _ _ (l11 y hy)) (f11 y hy)
       ·rw [List.mem_singleton.mp hy]
        exact Zal epl (Ne.symm hDl)
      ·rcases List.mem_append.mp hy with hy | hy
       ·exact f11 y hy
       ·rw [List.mem_singleton.mp hy]
        exact Ne.symm hDl
      ·rw [List.map_append,m11,hstep,List.map_append,List.map_append]
       rfl
    ·rintro ys H11 ⟨s11,eD,cz,rfl,l11,f11,m11⟩
     rw [List.length_map,List.take_length] at m11
     refine ⟨D,cz,rfl,SqL.of eD,λy hy=>SqL.of (l11 y hy),λsl rz hsl pmz soz=>?_⟩
     have eL:fz.map (·.2)=rz.map (·.2):=(Zfj g pm te (by rw [<-m11];exact pmz.map _) soz).2 te2
     have s12:Same H11 (upd H11 sl (.lst (rz.map λz=>V.ref z.1))):=Same.new hsl
     have l12:Lz (upd H11 sl (.lst (rz.map λz=>V.ref z.1))) rz:=λy hy=>s12 _ _ (l11 y (pmz.mem_iff.mp hy))
     refine ⟨.list (Zb3 (rz.map (·.2))),.list (Zb3 (rz.map (·.2))),.lst (SqL.of (s12 _ _ (s11 _ _ efl))) (by rw [<-eL];exact Zcf (lfz.same (s11.trans s12))),.lst (SqL.of Zab) (Zcf l12),ZaD _,ZaD _,_,rfl,?_⟩
     rw [ZdC]
     exact Zbo (hk' _ _ ⟨rfl,((s8.trans s10).trans s11).trans s12⟩)
  rintro σ' H8 ⟨rfl,s8⟩
  have tdR8:=tdR.same s8
  have eou8:=s8 _ _ eou7
  refine Za7 (λσ' H'=>σ'=[some (.ref wb),some (.int p),some (.int q'),some (.ref pa),some (.ref od),some (.ref ou),some sv,some rv,some (.ref tw)]/\Same H8 H') ?sy ?fy
  case fy=>
   intro hk'
   rcases tdR8 with e0 | ⟨r,zs,e0,er,lz,te⟩
   ·subst e0
    exact ⟨_,rfl,rfl,_,rfl,Zbo (hk' _ _ ⟨rfl,Same.refl _⟩)⟩
   ·subst e0
    have lzl:zs.length<=300:=by have:=te.ln;rw [List.length_map] at this;exact this
    refine ⟨_,rfl,rfl,_,rfl,Zbz ?_⟩
    refine Za7 (λσ' H'=>σ'=[some (.ref wb),some (.int p),some (.int q'),some (.ref pa),some (.ref od),some (.ref ou),some sv,some (.ref r),some (.ref tw)]/\Same H8 H') ?sayi ?fayi
    case fayi=>
     intro hk2
     refine ⟨_,rfl,r,rfl,⟨_,SqL.of er⟩,λD hD=>?_⟩
     refine ZaF (K:=K) (a:=r) (xs:=zs.map λz=>V.ref z.1) (λj ys Ha=>Same H8 Ha/\Ha D=some (.lst [])/\ys=[]) ⟨Same.new hD,Zab,rfl⟩ (λj ys Ha _ ⟨sa,_⟩=>SqL.of (sa _ _ er)) ?_ ?_
     ·rintro j x ys Ha hxj ⟨sa,eD,rfl⟩
      rw [List.getElem?_map] at hxj
      cases hz:zs[j]? with
      | none=>rw [hz] at hxj;cases hxj
      | some z=>
       rw [hz] at hxj
       cases hxj
       have hzm:z∈zs:=List.mem_of_getElem? hz
       have hI:IsS rs none z.2:=(te.iff z.2).mp (List.mem_map.mpr ⟨z,hzm,rfl⟩)
       have hS:=ZdB g hI
       refine ⟨⟨rfl,trivial⟩,?_⟩
       refine ⟨_,rfl,_,rfl,z.1,ou,z.2,Zhn B rs rs.length,rfl,sa _ _ (lz z hzm),sa _ _ eou8,by have:=Zi0 hS;omega,λHb sb=>⟨rfl,_,rfl,?_⟩⟩
       rw [ZkK hS,Zj9 g hI]
       exact Zbo ⟨sa.trans sb,sb _ _ eD,rfl⟩
     ·rintro ys Ha ⟨sa,eD,rfl⟩
      refine ⟨Nat.zero_le _,λe1 he1=>?_⟩
      have sb:Same Ha (upd Ha e1 (.lst [])):=Same.new he1
      refine ⟨.list (Zb3 []),.list (Zb3 []),.lst (SqL.of (sb _ _ eD)) .nil,.lst (SqL.of Zab) .nil,ZaD _,ZaD _,_,rfl,?_⟩
      rw [ZdC]
      exact Zbo (hk2 _ _ ⟨rfl,sa.trans sb⟩)
    rintro σ' H9 ⟨rfl,s9⟩
    have ez8:=lz.same s9
    have er8:=s9 _ _ er
    have WT8:=WT.same (s8.trans s9)
    have hod8:=(S7.trans (s8.trans s9)) _ _ hod
    refine ⟨_,rfl,tw,tl,k,_,Zbm rs ns,rfl,WT8,gT,λj R rg hj h3=>absurd (ZiY gT rg h3) (ZgM g pm te),λR rg hR fl fz H10 s10 hfl efl lfz ffz pm2 so2=>?_⟩
    have te2:ZdJ (Zbm rs ns) none (fz.map (·.2)):=ZgF gT rg hR pm2 so2
    refine ⟨_,rfl,r,rfl,⟨_,SqL.of (s10 _ _ er8)⟩,λD hD=>?_⟩
    refine ZaF (K:=K) (a:=r) (xs:=zs.map λz=>V.ref z.1) (λj ys H11=>Same H10 H11/\H11 D=some (.lst ys)/\∃ cz:List (Addr×List Int),ys=cz.map (λz=>V.ref z.1)/\Lz H11 cz/\(∀ z∈cz,z.1≠D)/\cz.map (·.2)=((zs.take j).map (·.2)).map λS=>Za5 ns S ns.length) ⟨Same.new hD,Zab,[],rfl,λz hz=>(by cases hz),λz hz=>(by cases hz),rfl⟩ (λj ys H11 _ ⟨s11,_⟩=>SqL.of (s11 _ _ (s10 _ _ er8))) ?_ ?_
    ·rintro j x ys H11 hxj ⟨s11,eD,cz,rfl,l11,f11,m11⟩
     rw [List.getElem?_map] at hxj
     cases hz:zs[j]? with
     | none=>rw [hz] at hxj;cases hxj
     | some z=>
      rw [hz] at hxj
      cases hxj
      have hzm:z∈zs:=List.mem_of_getElem? hz
      have hstep:zs.take (j+1)=zs.take j++[z]:=by rw [List.take_add_one,hz];rfl
      have lcz:cz.length<=300:=by
       have h1:cz.length=(cz.map (·.2)).length:=by rw [List.length_map]
       rw [h1,m11,List.length_map,List.length_map,List.length_take]
       omega
      refine ⟨⟨rfl,trivial⟩,?_⟩
      unfold Zhk
      refine Zbz ?_
      refine ⟨_,rfl,_,rfl,od,z.1,ns,z.2,rfl,(s10.trans s11) _ _ hod8,(s10.trans s11) _ _ (ez8 z hzm),by have:=g.2.2.1;omega,λpl H12 s12 hpl epl=>?_⟩
      have hDl:D≠pl:=λe=>by rw [<-e,eD] at hpl;cases hpl
      refine ⟨s12 _ _ eD,by rw [List.length_map];omega,(s11.trans s12).put hD,Zab,cz++[(pl,Za5 ns z.2 ns.length)],by rw [List.map_append];rfl,λy hy=>?_,λy hy=>?_,?_⟩
      ·rcases List.mem_append.mp hy with hy | hy
       ·exact Zal (s12 _ _ (l11 y hy)) (f11 y hy)
       ·rw [List.mem_singleton.mp hy]
        exact Zal epl (Ne.symm hDl)
      ·rcases List.mem_append.mp hy with hy | hy
       ·exact f11 y hy
       ·rw [List.mem_singleton.mp hy]
        exact Ne.symm hDl
      ·rw [List.map_append,m11,hstep,List.map_append,List.map_append]
       rfl
    ·rintro ys H11 ⟨s11,eD,cz,rfl,l11,f11,m11⟩
     rw [List.length_map,List.take_length] at m11
     refine ⟨D,cz,rfl,SqL.of eD,λy hy=>SqL.of (l11 y hy),λsl rz hsl pmz soz=>?_⟩
     have eL:fz.map (·.2)=rz.map (·.2):=(Zfj g pm te (by rw [<-m11];exact pmz.map _) soz).2 te2
     have s12:Same H11 (upd H11 sl (.lst (rz.map λz=>V.ref z.1))):=Same.new hsl
     have l12:Lz (upd H11 sl (.lst (rz.map λz=>V.ref z.1))) rz:=λy hy=>s12 _ _ (l11 y (pmz.mem_iff.mp hy))
     refine ⟨.list (Zb3 (rz.map (·.2))),.list (Zb3 (rz.map (·.2))),.lst (SqL.of (s12 _ _ (s11 _ _ efl))) (by rw [<-eL];exact Zcf (lfz.same (s11.trans s12))),.lst (SqL.of Zab) (Zcf l12),ZaD _,ZaD _,_,rfl,?_⟩
     rw [ZdC]
     exact Zbo (hk' _ _ ⟨rfl,((s9.trans s10).trans s11).trans s12⟩)
  rintro σ' H9 ⟨rfl,s9⟩
  have S9:=S7.trans (s8.trans s9)
  have WT9:=WT.same (s8.trans s9)
  refine ⟨_,rfl,_,rfl,_,rfl,tw,tl,k,p,q',_,Zbm rs ns,rfl,WT9,gT,.inl ⟨en,λcn H10 s10=>?_,λnc re cs H10 s10 hre ere nd so l16 mem=>?_⟩⟩
  ·refine ⟨_,rfl,_,rfl,_,rfl,wb,l,k,p,q',xs,rs,rfl,W.same (S9.trans s10),g,.inl ⟨en,λcn2 H11 s11=>?_,λnc2=>absurd ((ZdG pm).mp cn) nc2⟩⟩
   refine ⟨.none,.none,.non,.non,by decide,by decide,?_⟩
   rw [show PyData.eqv .none .none=true by simp [PyData.eqv]]
   exact q _ ((S9.trans s10).trans s11)
  ·refine ⟨_,rfl,_,rfl,_,rfl,wb,l,k,p,q',xs,rs,rfl,W.same (S9.trans s10),g,.inl ⟨en,λcn2=>absurd ((ZdG pm).mpr cn2) nc,λnc2 re2 cs2 H11 s11 hre2 ere2 nd2 so2 l162 mem2=>?_⟩⟩
   have e:cs=cs2:=Zgx (Zba so nd) (Zba so2 nd2) λx=>by rw [mem,mem2,ZdG pm]
   subst e
   refine ⟨.list (cs.map PyData.int),.list (cs.map PyData.int),.lst (SqL.of (s11 _ _ ere)) (Zbc _),.lst (SqL.of ere2) (Zbc _),Za8 _,Za8 _,?_⟩
   rw [Zc6,decide_eq_true rfl]
   exact q _ ((S9.trans s10).trans s11)
end
end M
namespace M
open PySem L2
section
variable {P:Program} {w:World} {K:PySem.W.Frag} {mg:Str->Option Value} {base:Heap}
structure DeckAt (Hs H:Hp) (d:Addr):Prop where
 s:Same Hs H
 n:Hs d=none
 at_:∃ n:Int,H d=some (.lst [.int n])
theorem DeckAt.grow {Hs H H':Hp} {d:Addr} (h:DeckAt Hs H d) (s:Same H H'):DeckAt Hs H' d:=⟨h.s.trans s,h.n,h.at_.elim λn e=>⟨n,s _ _ e⟩⟩
theorem DeckAt.dk {Hs H H':Hp} {d:Addr} (h:DeckAt Hs H d) (s:Dk H H' d):DeckAt Hs H' d:=⟨λb o e=>s.keep b o (Zag e h.n) (h.s b o e),h.n,s.at_⟩
theorem Zl1 {ns:List Int} {lo hi:Option Int} {i:Nat} {x:V} (h:(Zfl (ns.map V.int) lo hi)[i]?=some x):∃ z,x=.int z:=by
 have hm:=List.mem_of_getElem? h
 unfold Zfl at hm
 have hm2:=List.mem_of_mem_drop (List.mem_of_mem_take hm)
 obtain ⟨z,_,rfl⟩:=List.mem_map.mp hm2
 exact ⟨z,rfl⟩
theorem Zfk {α β:Type} (f:α->β):∀ (l:List α) (k:Nat),(l.map f).eraseIdx k=(l.eraseIdx k).map f
 | [],_=>rfl
 | _::_,0=>rfl
 | x::r,k+1=>by
  rw [List.map_cons,List.eraseIdx_cons_succ,List.eraseIdx_cons_succ,List.map_cons,Zfk f r k]
theorem Zl2 {n:Nat} (h:n<1024):Lt2 9000 (n:Int):=Nat.lt_of_lt_of_le (show ((n:Int)).natAbs<2 ^ 10 by omega) (Nat.pow_le_pow_right (by decide) (by decide))
structure PartL (p q:Int) (j:Nat) (A:List Int):Prop where
 asc:A.Pairwise (· < ·)
 rg:∀ x∈A,0<=x/\x<(j:Int)
 me:p<(j:Int)->p∈A
 no:p≠q->q ∉ A
theorem PartL.take {p q:Int} {j:Nat} {A:List Int} (h:PartL p q j A) (hq:p=q\/(j:Int)≠q):PartL p q (j+1) (A++[(j:Int)]):=by
 refine ⟨List.pairwise_append.mpr ⟨h.asc,by simp,λa ha b hb=>?_⟩,λx hx=>?_,λhp=>?_,λne hm=>?_⟩
 ·rw [List.mem_singleton.mp hb]
  exact (h.rg a ha).2
 ·rcases List.mem_append.mp hx with hx | hx
  ·have:=h.rg x hx
   omega
  ·rw [List.mem_singleton.mp hx]
   omega
 ·by_cases e:p=(j:Int)
  ·exact List.mem_append_right _ (by rw [e];simp)
  ·exact List.mem_append_left _ (h.me (by omega))
 ·rcases List.mem_append.mp hm with hm | hm
  ·exact h.no ne hm
  ·rcases hq with hq | hq
   ·exact ne hq
   ·exact hq (List.mem_singleton.mp hm).symm
theorem PartL.skip {p q:Int} {j:Nat} {A:List Int} (h:PartL p q j A) (hp:(j:Int)≠p):PartL p q (j+1) A:=
 ⟨h.asc,λx hx=>by have:=h.rg x hx;omega,λz=>h.me (by omega),h.no⟩
def Zkc (K:PySem.W.Frag):Sp:=λvs H Q _=>∃ (a:Addr) (ns:List Int),vs=[.ref a]/\SqL K H a (ns.map V.int)/\ns.length<=63/\∀ H',Q (.bl true) H'
theorem scLaw:Zau ["script", "cell", "deck", "places", "roads", "one", "other", "bits", "part", "left", "order", "k"] ["script"] (Zae ZjU):=⟨rfl,rfl,rfl,by decide +kernel,rfl,by decide +kernel,by decide +kernel⟩
theorem Zny {f fD fT fW fEn fRg:Addr} {fd fdD fdT fdW fdEn fdRg:FuncData} (F:Fun K "law" "law" ZjU f fd)
  (FD:Fun K "_law_deck" "_law_deck" ZfS fD fdD) (bD:Binds K fdD ["cell"] []) (mD:mg "_law_deck" = some (.ref fD)) (GD:ZaI P w K mg base CX0 2 fD fdD ["cell"] Zky)
  (FT:Fun K "_law_take" "_law_take" Zet fT fdT) (bT:Binds K fdT ["deck", "many"] []) (mT:mg "_law_take" = some (.ref fT)) (GT:ZaI P w K mg base CX0 1 fT fdT ["deck", "many"] Zgu)
  (FW:Fun K "_law_web" "_law_web" Zlw fW fdW) (bW:Binds K fdW ["deck"] []) (mW:mg "_law_web" = some (.ref fW)) (GW:ZaI P w K mg base CX0 2 fW fdW ["deck"] ZmR)
  (FEn:Fun K "_law_ends" "_law_ends" Zlx fEn fdEn) (bEn:Binds K fdEn ["deck", "places"] []) (mEn:mg "_law_ends" = some (.ref fEn)) (GEn:ZaI P w K mg base CX0 2 fEn fdEn ["deck", "places"] Zna)
  (FRg:Fun K "_law_right" "_law_right" ZlB fRg fdRg) (bRg:Binds K fdRg ["web", "one", "other", "part", "order"] []) (mRg:mg "_law_right" = some (.ref fRg)) (GRg:ZaI P w K mg base CX0 7 fRg fdRg ["web", "one", "other", "part", "order"] Znw)
  (mRange:mg "range" = none) (mLst:mg "list" = none) (mLen:mg "len" = none) :
  ZaI P w K mg base CX0 8 f fd ["script"] (Zkc K):=by
 refine F.ok scLaw (λvs H Q E h=>?_) (λcdv A outer s H vs Q E hr h=>?_)
 ·obtain ⟨a,ns,rfl,_⟩:=h
  rfl
 ·obtain ⟨a,ns,rfl,hS,hlen,q⟩:=h
  have hu:=hr.units
  have h16:(16777216:Nat)=sizeLine:=sizeLine_eq.symm
  refine ⟨_,Zad (Zci PassesOwn.never rfl (ZbA K (Zaz Zf5 (ZaX (Zaa (Zaz ZcV Zai Zai) Zac)) (Zd5 (kSl K) (pv 0) Zfr (Zfs Zai)))) (Zao (i:=1) scLaw.nd rfl (Or.inl rfl))
    (Zad (Zav (i:=2) scLaw.nd rfl (Or.inl rfl) (Zak GD (hr.mono (by decide)) rfl mD FD.kp bD .nil ZaL (Zaa (pv 1) Zac)))
    (Zad (Zhu (Zak GW (hr.mono (by decide)) rfl mW FW.kp bW .nil ZaL (Zaa (pv 2) Zac)) (Zk0 K (n:=2) rfl (ZaP (Zao (i:=3) scLaw.nd rfl (Or.inl rfl)) (ZaP (Zao (i:=4) scLaw.nd rfl (Or.inl rfl)) Zca))))
    (Zad (Zhu (Zak GEn (hr.mono (by decide)) rfl mEn FEn.kp bEn .nil ZaL (Zaa (pv 2) (Zaa (pv 3) Zac))) (Zk0 K (n:=2) rfl (ZaP (Zao (i:=5) scLaw.nd rfl (Or.inr rfl)) (ZaP (Zao (i:=6) scLaw.nd rfl (Or.inr rfl)) Zca))))
    (Zad (Zav (i:=7) scLaw.nd rfl (Or.inr rfl) (Zak GT (hr.mono (by decide)) rfl mT FT.kp bT .nil ZaL (Zaa (pv 2) (Zaa (Zaz Zmi Zai (pv 3)) Zac))))
    (Zad (Zd7 (i:=8) scLaw.nd rfl (Or.inl rfl) (own:=["place"]) rfl (Zaj (fr:=[("one", 5),("other", 6),("bits", 7)]) [(".0", .local),("place", .local),("bits", .cell),("one", .cell),("other", .cell)] rfl rfl (by decide +kernel) rfl (by decide +kernel) ⟨rfl,rfl,rfl,trivial⟩ ⟨λh=>ZaA h,λh=>ZaA h,λ_=>⟨_,rfl⟩,λ_=>⟨_,rfl⟩,λ_=>⟨_,rfl⟩,trivial⟩ ⟨⟨rfl,.inl rfl,.inl rfl⟩,⟨rfl,.inl rfl,.inl rfl⟩,⟨rfl,.inl rfl,.inl rfl⟩,trivial⟩) (ZaT rfl mRange (Zaa (pv 3) Zac)) (λ_ _ _ _=>Zao (i:=0) (show List.Nodup (["place", "one", "other", "bits"]:List Str) by decide +kernel) rfl (Or.inl rfl)) (λ_ _ _ _=>Za0 (PW.pt (Zfq (Zar ZdH (pv 0) (pv 1) (ZaB _)) (ZdK (PW.pt (ZeC (Zar ZhC (pv 0) (pv 2) (ZaB _)) (Zdg (Zar ZdH (Zaz Zmk (Zaz Zmj (pv 3) (pv 0)) Zai) Zai (ZaB _))))))))) (λ_ _ _ _=>pv 0))
    (Zad (Zav (i:=9) scLaw.nd rfl (Or.inl rfl) (Zbt (Zcn rfl) rfl mLst Zbu (Zaa (ZhW rfl mRange (Zaa (Zax (ZhU K) rfl mLen PySem.boot_len (Zaa (pv 4) Zac)) Zac)) Zac)))
    (Zad (Zav (i:=10) scLaw.nd rfl (Or.inl rfl) (ZaX Zac))
    (Zad (Zci PassesOwn.never rfl (ZaT rfl mRange (Zaa (Zax (ZhU K) rfl mLen PySem.boot_len (Zaa (pv 4) Zac)) Zac)) (Zao (i:=11) scLaw.nd rfl (Or.inl rfl))
    (Zah (Za6 (Zdj PySem.F.plainAttrs_list PySem.F.slot_list_append PySem.F.type_list_append ZaY (pv 10) (Zaa (Zdj PySem.F.plainAttrs_list PySem.F.slot_list_pop PySem.F.type_list_pop Zf4 (pv 9) (Zaa (Zak GT (hr.mono (by decide)) rfl mT FT.kp bT .nil ZaL (Zaa (pv 2) (Zaa (Zax (ZhU K) rfl mLen PySem.boot_len (Zaa (pv 9) Zac)) Zac))) Zac)) Zac)))))
    (Zah (Zbb (PW.pt (ZeC (Zar ZhC (pv 5) (pv 6) (ZaB _)) (Zdg (ZcU (Zch (Zak GRg (hr.mono (by decide)) rfl mRg FRg.kp bRg .nil ZaL (Zaa (Zbn (Zaa (pv 3) (Zaa (pv 4) Zac))) (Zaa (pv 5) (Zaa (pv 6) (Zaa (pv 8) (Zaa (pv 10) Zac))))))))))) (Zah (Zaw ZbB)) ZaC)))))))))))
    (Zah (Zaw ZbB)),?_⟩
  refine ⟨_,_,rfl,rfl,⟨by decide,by decide,by decide⟩,(by show 1<=sizeLine;decide),λp1 hp1=>?_⟩
  have s1:Same H (upd H p1 (.lst [.int (10 ^ (18:Int).toNat)])):=Same.new hp1
  refine ⟨_,rfl,_,rfl,a,_,rfl,s1.seq hS,λp2 hp2=>?_⟩
  have hcut:=Zdh (ns.map V.int) none (some 2)
  rw [List.length_map] at hcut
  refine ⟨p1,p2,_,_,rfl,rfl,Zal Zab (λz=>by rw [<-z,Zab] at hp2;cases hp2),Zab,(by rw [List.length_singleton];omega),λp3 hp3=>?_⟩
  refine ⟨p3,rfl,⟨_,SqL.of Zab⟩,?_⟩
  generalize hHs:upd (upd (upd H p1 (.lst [.int (10 ^ (18:Int).toNat)])) p2 (.lst (Zfl (ns.map V.int) none (some 2)))) p3 (.lst ([.int (10 ^ (18:Int).toNat)]++Zfl (ns.map V.int) none (some 2)))=Hs
  have hL:Hs p3=some (.lst ([.int (10 ^ (18:Int).toNat)]++Zfl (ns.map V.int) none (some 2))):=by rw [<-hHs];exact Zab
  refine Zd3 (K:=K) (a:=p3) (xs:=[.int (10 ^ (18:Int).toNat)]++Zfl (ns.map V.int) none (some 2)) (λi σ H2=>∃ v1 v2 v3 v4 v5 v6 v7 v8 v9 v10 v11:Option V,σ=[some (.ref a),v1,v2,v3,v4,v5,v6,v7,v8,v9,v10,v11]/\Same Hs H2)
   ⟨none,none,none,none,none,none,none,none,none,none,none,rfl,Same.refl _⟩ (λi σ H2 _ ⟨_,_,_,_,_,_,_,_,_,_,_,_,s2⟩=>SqL.of (s2 _ _ hL)) ?_ ?_
  ·rintro i x σ H2 hi ⟨v1,v2,v3,v4,v5,v6,v7,v8,v9,v10,v11,rfl,s2⟩
   obtain ⟨z,rfl⟩:∃ z,x=.int z:=by
    cases i with
    | zero=>simp at hi;exact ⟨_,hi.symm⟩
    | succ j=>exact Zl1 (i:=j) (by simpa using hi)
   clear hi hcut hHs hp3 hp2 hp1
   refine ⟨_,rfl,z,rfl,λd n0 hd=>?_⟩
   have hds:Hs d=none:=s2.free hd
   have D0:DeckAt Hs (upd H2 d (.lst [.int n0])) d:=⟨s2.put hds,hds,_,Zab⟩
   refine ⟨_,rfl,d,n0,rfl,Zab,λwp l xs k rs H3 K3 hwp hl hwl ew el pr good=>?_⟩
   have D3:=D0.dk K3
   have hld:l≠d:=λzz=>by rw [zz,Zab] at hl;cases hl
   refine ⟨wp,_,rfl,SqT.of ew,rfl,_,_,rfl,_,_,rfl,rfl,?_⟩
   have W3:WebAt H3 wp l k xs rs:=⟨ew,el,pr⟩
   clear K3 hwp hwl ew el pr
   obtain ⟨n3,e3⟩:=D3.at_
   have hk0:=good.1
   have hk1:=good.2.1
   have hxl:=W3.p.len
   have hrl:=good.2.2.1
   refine ⟨_,rfl,_,rfl,d,n3,k,rfl,e3,hk0,hk1,λet p q' H5 K5 het eet hp hq=>?_⟩
   have D5:=D3.dk K5
   have W5:=W3.dk K5 e3 hld
   refine ⟨et,_,rfl,SqT.of eet,rfl,_,_,rfl,_,_,rfl,rfl,?_⟩
   clear K5 eet het W3 D3 e3
   obtain ⟨n5,e5⟩:=D5.at_
   have hm2:(0:Int)<1 * 2 ^ k.toNat:=by rw [Int.one_mul];exact Int.pow_pos (by decide)
   have hl2:Lt2 9000 (1 * 2 ^ k.toNat):=by
    rw [Int.one_mul]
    unfold Lt2
    rw [Int.natAbs_pow]
    exact Nat.lt_of_lt_of_le (show 2 ^ k.toNat<2 ^ 17 from Nat.pow_lt_pow_right (by decide) (by omega)) (Nat.pow_le_pow_right (by decide) (by decide))
   refine ⟨_,rfl,_,rfl,_,_,rfl,rfl,⟨by omega,by omega,by decide⟩,d,n5,_,rfl,e5,hm2,hl2,λn6 bits b0 b1=>?_⟩
   have K6:=(Dk.start e5).take n6
   have D6:=D5.dk K6
   have W6:=W5.dk K6 e5 hld
   have e6:upd H5 d (.lst [.int n6]) d=some (.lst [.int n6]):=Zab
   generalize upd H5 d (.lst [.int n6])=H6 at K6 D6 W6 e6 ⊢
   clear K6 D5 W5 e5
   refine ⟨_,rfl,_,rfl,by omega,by omega,λpa hpa=>?_⟩
   refine Zbf (lo:=0) (n:=k.toNat) (λj ys H7=>Same H6 H7/\H7 pa=some (.lst ys)/\∃ B:List Int,ys=B.map V.int/\PartL p q' j B/\B.length<=j) ⟨Same.new hpa,Zab,[],rfl,⟨.nil,λx hx=>(by cases hx),λh=>absurd h (by omega),λ_ h=>(by cases h)⟩,Nat.le_refl _⟩ ?_ ?_
   ·rintro j ys H7 hj ⟨s7,ep,B,rfl,pl,lB⟩
    rw [Int.zero_add]
    have put:PartL p q' (j+1) (B++[(j:Int)])->H7 pa=some (.lst (B.map V.int))/\(B.map V.int).length<sizeLine/\Same H6 (upd H7 pa (.lst (B.map V.int++[V.int (j:Int)])))/\upd H7 pa (.lst (B.map V.int++[V.int (j:Int)])) pa=some (.lst (B.map V.int++[V.int (j:Int)]))/\∃ B':List Int,B.map V.int++[V.int (j:Int)]=B'.map V.int/\PartL p q' (j+1) B'/\B'.length<=j+1:=λh=>
     ⟨ep,by rw [List.length_map];omega,s7.put hpa,Zab,B++[(j:Int)],by rw [List.map_append];rfl,h,by rw [List.length_append,List.length_singleton];omega⟩
    refine ⟨⟨rfl,rfl,rfl,trivial⟩,?_⟩
    refine ⟨_,rfl,_,rfl,rfl,_,rfl,?_⟩
    by_cases e1:(j:Int)=p
    ·rw [show decide (V.int (j:Int)=V.int p)=true from decide_eq_true (by rw [e1])]
     refine Zbz (Zbz ⟨_,rfl,put (pl.take ?_)⟩)
     by_cases z:p=q'
     ·exact .inl z
     ·exact .inr (by rw [e1];exact z)
    ·rw [show decide (V.int (j:Int)=V.int p)=false from decide_eq_false λz=>e1 (V.int.inj z)]
     refine Zbo ?_
     refine ⟨_,rfl,_,rfl,rfl,_,rfl,?_⟩
     by_cases e2:(j:Int)=q'
     ·rw [show (!decide (V.int (j:Int)=V.int q'))=false by rw [decide_eq_true (by rw [e2])];rfl]
      exact Zbo (Zbo ⟨s7,ep,B,rfl,pl.skip e1,by omega⟩)
     ·rw [show (!decide (V.int (j:Int)=V.int q'))=true by rw [decide_eq_false λz=>e2 (V.int.inj z)];rfl]
      refine Zbz ?_
      refine ⟨_,rfl,_,rfl,_,_,rfl,rfl,by omega,_,_,rfl,rfl,rfl,_,rfl,?_⟩
      refine Zfv (λ_=>⟨_,rfl,put (pl.take (.inr e2))⟩) (λ_=>⟨s7,ep,B,rfl,pl.skip e1,by omega⟩)
   rintro ys H7 ⟨s7,ep7,B,rfl,pl,lB⟩
   have hkn:((k.toNat:Nat):Int)=k:=by omega
   have D7:=D6.grow s7
   have W7:=W6.same s7
   have e7:=s7 _ _ e6
   have hpad:pa≠d:=λzz=>by rw [zz,e6] at hpa;cases hpa
   clear e6 D6 W6
   dsimp only [ZcL]
   refine ⟨_,rfl,l,xs,rfl,.inl (SqL.of W7.l),_,rfl,λr hr'=>⟨r,xs.length,rfl,Zab,by omega,λlf hlf=>?_⟩⟩
   generalize hm:xs.length=m at *
   have Ds:=Dk.start e7
   have Dr:=Ds.new (o:=.rng 0 (m:Int)) hr'
   have D0:=Dr.new (o:=.lst ((List.range m).map λi=>V.int ((i:Nat):Int))) hlf
   have hlf0:H7 lf=none:=Dr.free hlf
   have hdl:d≠lf:=Dr.ne hlf
   have elf:upd (upd H7 r (.rng 0 (m:Int))) lf (.lst ((List.range m).map λi=>V.int ((i:Nat):Int))) lf=some (.lst ((Zb9 m).map V.int)):=by rw [Zab,ZkB]
   generalize upd (upd H7 r (.rng 0 (m:Int))) lf (.lst ((List.range m).map λi=>V.int ((i:Nat):Int)))=H8 at D0 elf ⊢
   refine ⟨Nat.zero_le _,λlo hlo=>?_⟩
   have D1:=D0.new (o:=.lst []) hlo
   have hlo0:=D0.free hlo
   have hdo:=D0.ne hlo
   have hfo:lf≠lo:=Zag elf hlo
   have e1':=Zal (o:=.lst []) elf hfo
   have e2':upd H8 lo (.lst []) lo=some (.lst (([]:List Int).map V.int)):=Zab
   generalize upd H8 lo (.lst [])=H9 at D1 e1' e2' ⊢
   have W9:=W7.dk D1 e7 hld
   dsimp only [ZcL]
   refine Za7 (λσ' H'=>∃ (os:List Int) (v:Option V),σ'=[some (.ref a),some (.int z),some (.ref d),some (.int k),some (.ref l),some (.int p),some (.int q'),some (.int bits),some (.ref pa),some (.ref lf),some (.ref lo),v]/\Dk H7 H' d/\H' lo=some (.lst (os.map V.int))/\os.Perm (Zb9 m)) ?so ?fo
   case fo=>
    intro hk'
    refine ⟨_,rfl,l,xs,rfl,.inl (SqL.of W9.l),_,rfl,by omega,by omega,?_⟩
    rw [hm,Int.toNat_natCast]
    refine Zcj (lo:=0) (λi σ H2=>∃ (ls os:List Int) (v:Option V),σ=[some (.ref a),some (.int z),some (.ref d),some (.int k),some (.ref l),some (.int p),some (.int q'),some (.int bits),some (.ref pa),some (.ref lf),some (.ref lo),v]/\Dk H7 H2 d/\H2 lf=some (.lst (ls.map V.int))/\H2 lo=some (.lst (os.map V.int))/\(os++ls).Perm (Zb9 m)/\os.length=i)
     ⟨Zb9 m,[],_,rfl,D1,e1',e2',List.Perm.refl _,rfl⟩ ?_ ?_
    ·rintro i σ H2 hi ⟨ls,os,v,rfl,D2,e1,e2,pm,ho⟩
     obtain ⟨n2,e3⟩:=D2.at_
     have hlen:=pm.length_eq
     rw [List.length_append,Zda] at hlen
     have hll:(ls.map V.int).length=ls.length:=List.length_map ..
     refine ⟨_,rfl,.inl ⟨rfl,_,SqL.of e2⟩,_,rfl,.inl ⟨rfl,_,SqL.of e1⟩,_,rfl,_,rfl,lf,_,rfl,.inl (SqL.of e1),d,n2,_,rfl,e3,(by rw [hll];omega),(by rw [hll];exact Zl2 (by omega)),λn3 r3 h30 h31=>?_⟩
     rw [hll] at h31
     have hk:r3.toNat<ls.length:=by omega
     have hy:ls[r3.toNat]?=some ls[r3.toNat]:=List.getElem?_eq_getElem hk
     refine ⟨lf,_,r3,r3.toNat,.int ls[r3.toNat],rfl,rfl,Zal e1 (Ne.symm hdl),by omega,by omega,ZmA h30 (by rw [hll];exact h31),by rw [List.getElem?_map,hy];rfl,?_⟩
     refine ⟨lo,_,_,rfl,rfl,Zal (Zal e2 (Ne.symm hdo)) (Ne.symm hfo),by rw [List.length_map];omega,?_⟩
     refine ⟨ls.eraseIdx r3.toNat,os++[ls[r3.toNat]],_,rfl,((D2.take n3).put hlf0 hdl).put hlo0 hdo,?_,?_,(Zc4 ls os r3.toNat _ hy).trans pm,by rw [List.length_append,List.length_singleton,ho]⟩
     ·rw [Zam hfo,Zab,Zfk]
     ·rw [Zab,List.map_append]
      rfl
    ·rintro σ H2 ⟨ls,os,v,rfl,D2,e1,e2,pm,ho⟩
     have hlen:=pm.length_eq
     rw [List.length_append,Zda] at hlen
     have hls:ls=[]:=List.eq_nil_of_length_eq_zero (by omega)
     subst hls
     rw [List.append_nil] at pm
     exact hk' _ _ ⟨os,_,rfl,D2,e2,pm⟩
   rintro σ' HN ⟨os,v,rfl,KN,elo,pm⟩
   have DN:=D7.dk KN
   have WN:=W7.dk KN e7 hld
   have epN:=KN.keep _ _ hpad ep7
   refine ⟨_,rfl,_,rfl,rfl,_,rfl,?_⟩
   by_cases hpq:p=q'
   ·subst hpq
    rw [show (!decide (V.int p=V.int p))=false by rw [decide_eq_true rfl];rfl]
    exact Zbo (Zbo ⟨_,_,_,_,_,_,_,_,_,_,_,rfl,DN.s⟩)
   ·rw [show (!decide (V.int p=V.int q'))=true by rw [decide_eq_false λe=>hpq (V.int.inj e)];rfl]
    refine Zbz ?_
    have en:Ends k p q':=⟨hp,hq,hpq⟩
    refine ⟨_,rfl,_,rfl,Zby,λt ht=>?_⟩
    have sT:Same HN (upd HN t (.tup [.int k,.ref l])):=Same.new ht
    have WT:WebAt (upd HN t (.tup [.int k,.ref l])) t l k xs rs:=⟨Zab,sT _ _ WN.l,WN.p.same sT⟩
    generalize upd HN t (.tup [.int k,.ref l])=HT at sT WT ⊢
    refine ⟨_,rfl,_,rfl,_,rfl,_,rfl,t,l,pa,lo,k,p,q',xs,rs,B,os,rfl,WT,good,en,sT _ _ epN,pl.asc,λx hx=>by have:=pl.rg x hx;omega,pl.me (by omega),pl.no hpq,sT _ _ elo,by rw [<-hxl];exact pm,λHE sE=>⟨_,rfl,Zbo ?_⟩⟩
    exact ⟨_,_,_,_,_,_,_,_,_,_,_,rfl,(DN.s.trans sT).trans sE⟩
  ·rintro σ H2 _
   exact q H2
end
end M
section
open PySem PySem.W PyProof.Rows
def M.rowP:Program:=PySem.Challenge.rw_onceways_k40_whole_ways_leave_parts.prog
def M.seenP:Program:={ M.rowP with main:={ M.rowP.main with body:=[1,2,3,4,5,7,8,9,10,12,13,14,15,17,18,19,20,21,23,24,26,28,29,30,31,32,33,34,35,36,37,38].filterMap (λi=>M.rowP.main.body[i]?) } }
def M.loosely:List Str:=[Str.ofString "roads_of"]
def M.hookX (s:Shared):Bool:=xlAt M.seenP [] s && recOk (RowW.records (OpenRow.toRowW PySem.Challenge.rw_onceways_k40_whole_ways_leave_parts.row)) s
noncomputable def M.atBoot (w:World) (os:OsState):Shared:=⟨boot_heap w.params,Array.mk [],boot_drawn,boot_toks,os⟩
noncomputable def M.topOf (p:Program) (N:Nat) (w:World) (os:OsState):Option Shared:=topRun treeTable p w (M.atBoot w os).heap.objs.size ((M.atBoot w os).heap.nsMap mainGlobals "__annotations__") N (M.atBoot w os) (topStub p)
theorem M.top_run {p:Program} {N:Nat} {w:World} {os:OsState} {s:Shared} (h:topFrom treeTable p w N (M.atBoot w os)=some s):M.topOf p N w os=some s:=by
 unfold topFrom at h
 split at h
 ·obtain ⟨s1,h1,h2⟩:=Option.bind_eq_some_iff.mp h
  split at h2
  ·cases h2;exact h1
  ·cases h2
 ·cases h
theorem M.left_boot {p q:Program} {loose:List Str} {Xt:Shared->Bool} {α:Type} {Yf:Shared->α} {Ya:World->α} {N:Nat} (e:opening p=plainProg p.main.scope.names) (hN:Nat.ble 600 N=true) (f:∀ s,fenceModules? p s=some s)
  (hc:∀ (w:World) (os:OsState),(topFrom treeTable p w N (M.atBoot w os)).isSome=true)
  (ha:∀ (w:World) (os:OsState),(M.topOf p N w os).map (openSeen q loose (importedModules p.main.body) Xt true)=some (openGood q loose))
  (hb:∀ (w:World) (os:OsState),(M.topOf p N w os).map Yf=some (Ya w)) :
  LeftO p q loose Xt Yf Ya N:=λw=>by
 obtain ⟨⟨a,b,c,d,os⟩,e1,e2⟩:=Option.map_eq_some_iff.mp (boot_open e hN f w)
 obtain ⟨rfl,rfl,rfl,rfl⟩:a=boot_heap w.params/\b=Array.mk []/\c=boot_drawn/\d=boot_toks:=by simpa using e2
 obtain ⟨s,hs⟩:=Option.isSome_iff_exists.mp (hc w os)
 have h1:=ha w os
 have h2:=hb w os
 rw [M.top_run hs] at h1 h2
 unfold openEnds
 rw [e1]
 show (topFrom treeTable p w N (M.atBoot w os)).map _=_
 rw [hs]
 simp only [Option.map_some,Option.some.injEq] at h1 h2 ⊢
 rw [h1,h2]
set_option maxHeartbeats 0 in
theorem M.topA (w:World) (os:OsState):(M.topOf M.rowP 6000 w os).map (openSeen M.seenP M.loosely (importedModules M.rowP.main.body) M.hookX true)=some (openGood M.seenP M.loosely):=by
 unfold M.topOf;rw [PySem.W.Fast.te14082659384304107361,PySem.W.Fast.te14364793385576792824,PySem.W.Fast.te4187177175401517315];kernel_rfl
set_option maxHeartbeats 0 in
theorem M.topC (w:World) (os:OsState):(topFrom treeTable M.rowP w 6000 (M.atBoot w os)).isSome=true:=by
 unfold topFrom;rw [PySem.W.Fast.te14082659384304107361,PySem.W.Fast.te14364793385576792824];kernel_rfl
end
namespace M
open PySem L2
theorem Zkd {K:PySem.W.Frag} {C:Addr} (h:PySem.W.subIn K (.ref C) (.ref C)=some true) (ht:PySem.W.typeIn K (.ref C)=some (.type "type")):PySem.W.kitCls K (.ref C) (.ref C)=some true:=by
 have hs:(PySem.W.clsIn K C).isSome=true:=by
  cases e:PySem.W.clsIn K C with
  | some _=>rfl
  | none=>
   have:PySem.W.mroIn K C (.ref C)=some true:=h
   unfold PySem.W.mroIn at this
   rw [e] at this
   cases this
 show (if ((PySem.W.clsIn K C).isSome && PySem.W.typeIn K (Value.ref C) == some (Value.type "type"))=true then PySem.W.subIn K (.ref C) (.ref C) else none)=_
 rw [hs,ht,if_pos (by decide +kernel)]
 exact h
theorem all_mk {l:PySem.W.OpenLaw} {w:World} {K:PySem.W.Frag} {h:Heap} {mg:Str->Option Value} {fa f1 f2 f3 f4 f5 f6 f7 f8 f9 f10 f11 f12 f13 f14 f15 f16 f17 f18 f19 f20 f21 f22 f23 f24 f25 f26 f27 C NO C2 TM dT:Addr} {tM:Tok} {dtc:Value} {dtd:Option Addr} {dtn:Nat} {dts:Array (Option Value)} (X:K.In h) (G:h.Ns mainGlobals mg) (hfa:mg "law" = some (.ref fa))
  {od1 an1 od2 an2 od3 an3 od4 an4 od5 an5 od6 an6 od7 an7 od8 an8 od9 an9 od10 an10 od11 an11 od12 an12 od13 an13 od14 an14 od15 an15 od16 an16 od17 an17 od18 an18 od19 an19 od20 an20 od21 an21 od22 an22 od23 an23 od24 an24 od25 an25 od26 an26 od27 an27:Option Addr} {sl1 sl2 sl3 sl4 sl5 sl6 sl7 sl8 sl9 sl10 sl11 sl12 sl13 sl14 sl15 sl16 sl17 sl18 sl19 sl20 sl21 sl22 sl23 sl24 sl25 sl26 sl27:Array (Option Value)} {oc1 kV1 dc1 pm1 cd1 ct1 oc2 kV2 dc2 pm2 cd2 ct2 oc3 kV3 dc3 pm3 cd3 ct3 oc4 kV4 dc4 pm4 cd4 ct4 oc5 kV5 dc5 pm5 cd5 ct5 oc6 kV6 dc6 pm6 cd6 ct6 oc7 kV7 dc7 pm7 cd7 ct7 oc8 kV8 dc8 pm8 cd8 ct8 oc9 kV9 dc9 pm9 cd9 ct9 oc10 kV10 dc10 pm10 cd10 ct10 oc11 kV11 dc11 pm11 cd11 ct11 oc12 kV12 dc12 pm12 cd12 ct12 oc13 kV13 dc13 pm13 cd13 ct13 oc14 kV14 dc14 pm14 cd14 ct14 oc15 kV15 dc15 pm15 cd15 ct15 oc16 kV16 dc16 pm16 cd16 ct16 oc17 kV17 dc17 pm17 cd17 ct17 oc18 kV18 dc18 pm18 cd18 ct18 oc19 kV19 dc19 pm19 cd19 ct19 oc20 kV20 dc20 pm20 cd20 ct20 oc21 kV21 dc21 pm21 cd21 ct21 oc22 kV22 dc22 pm22 cd22 ct22 oc23 kV23 dc23 pm23 cd23 ct23 oc24 kV24 dc24 pm24 cd24 ct24 oc25 kV25 dc25 pm25 cd25 ct25 oc26 kV26 dc26 pm26 cd26 ct26 oc27 kV27 dc27 pm27 cd27 ct27:Value}
  (aF1:PySem.W.nsIn K mainGlobals "is_place" = some (some (.ref f1))) (lF1:K.lookup f1=some ⟨oc1,od1,.func (PySem.W.fnOf "is_place" "is_place" (Zat sIs) (Zaq sIs) (Zae sIs) .none kV1 dc1 pm1 an1 cd1 ct1),sl1⟩) (cF1:PySem.W.codeIn K cd1 "is_place" = true) (kF1:PySem.W.keepIn K (.ref f1)=true)
  (aF2:PySem.W.nsIn K mainGlobals "check_place" = some (some (.ref f2))) (lF2:K.lookup f2=some ⟨oc2,od2,.func (PySem.W.fnOf "check_place" "check_place" (Zat Zlr) (Zaq Zlr) (Zae Zlr) .none kV2 dc2 pm2 an2 cd2 ct2),sl2⟩) (cF2:PySem.W.codeIn K cd2 "check_place" = true) (kF2:PySem.W.keepIn K (.ref f2)=true)
  (aF3:PySem.W.nsIn K mainGlobals "beside" = some (some (.ref f3))) (lF3:K.lookup f3=some ⟨oc3,od3,.func (PySem.W.fnOf "beside" "beside" (Zat Zks) (Zaq Zks) (Zae Zks) .none kV3 dc3 pm3 an3 cd3 ct3),sl3⟩) (cF3:PySem.W.codeIn K cd3 "beside" = true) (kF3:PySem.W.keepIn K (.ref f3)=true)
  (aF4:PySem.W.nsIn K mainGlobals "reordered" = some (some (.ref f4))) (lF4:K.lookup f4=some ⟨oc4,od4,.func (PySem.W.fnOf "reordered" "reordered" (Zat Zls) (Zaq Zls) (Zae Zls) .none kV4 dc4 pm4 an4 cd4 ct4),sl4⟩) (cF4:PySem.W.codeIn K cd4 "reordered" = true) (kF4:PySem.W.keepIn K (.ref f4)=true)
  (aF5:PySem.W.nsIn K mainGlobals "check_ends" = some (some (.ref f5))) (lF5:K.lookup f5=some ⟨oc5,od5,.func (PySem.W.fnOf "check_ends" "check_ends" (Zat ZjR) (Zaq ZjR) (Zae ZjR) .none kV5 dc5 pm5 an5 cd5 ct5),sl5⟩) (cF5:PySem.W.codeIn K cd5 "check_ends" = true) (kF5:PySem.W.keepIn K (.ref f5)=true)
  (aF6:PySem.W.nsIn K mainGlobals "numbers_by_step" = some (some (.ref f6))) (lF6:K.lookup f6=some ⟨oc6,od6,.func (PySem.W.fnOf "numbers_by_step" "numbers_by_step" (Zat Zkt) (Zaq Zkt) (Zae Zkt) .none kV6 dc6 pm6 an6 cd6 ct6),sl6⟩) (cF6:PySem.W.codeIn K cd6 "numbers_by_step" = true) (kF6:PySem.W.keepIn K (.ref f6)=true)
  (aF7:PySem.W.nsIn K mainGlobals "steps_of" = some (some (.ref f7))) (lF7:K.lookup f7=some ⟨oc7,od7,.func (PySem.W.fnOf "steps_of" "steps_of" (Zat Zlt) (Zaq Zlt) (Zae Zlt) .none kV7 dc7 pm7 an7 cd7 ct7),sl7⟩) (cF7:PySem.W.codeIn K cd7 "steps_of" = true) (kF7:PySem.W.keepIn K (.ref f7)=true)
  (aF8:PySem.W.nsIn K mainGlobals "roads_of" = some (some (.ref f8))) (lF8:K.lookup f8=some ⟨oc8,od8,.func (PySem.W.fnOf "roads_of" "roads_of" (Zat ZfQ) (Zaq ZfQ) (Zae ZfQ) (.ref dT) kV8 dc8 pm8 an8 cd8 ct8),sl8⟩) (cF8:PySem.W.codeIn K cd8 "roads_of" = true) (kF8:PySem.W.keepIn K (.ref f8)=true)
  (aF9:PySem.W.nsIn K mainGlobals "reached" = some (some (.ref f9))) (lF9:K.lookup f9=some ⟨oc9,od9,.func (PySem.W.fnOf "reached" "reached" (Zat ZiG) (Zaq ZiG) (Zae ZiG) .none kV9 dc9 pm9 an9 cd9 ct9),sl9⟩) (cF9:PySem.W.codeIn K cd9 "reached" = true) (kF9:PySem.W.keepIn K (.ref f9)=true)
  (aF10:PySem.W.nsIn K mainGlobals "ways_between" = some (some (.ref f10))) (lF10:K.lookup f10=some ⟨oc10,od10,.func (PySem.W.fnOf "ways_between" "ways_between" (Zat ZjS) (Zaq ZjS) (Zae ZjS) .none kV10 dc10 pm10 an10 cd10 ct10),sl10⟩) (cF10:PySem.W.codeIn K cd10 "ways_between" = true) (kF10:PySem.W.keepIn K (.ref f10)=true)
  (aF11:PySem.W.nsIn K mainGlobals "told_sets" = some (some (.ref f11))) (lF11:K.lookup f11=some ⟨oc11,od11,.func (PySem.W.fnOf "told_sets" "told_sets" (Zat Zku) (Zaq Zku) (Zae Zku) .none kV11 dc11 pm11 an11 cd11 ct11),sl11⟩) (cF11:PySem.W.codeIn K cd11 "told_sets" = true) (kF11:PySem.W.keepIn K (.ref f11)=true)
  (aF12:PySem.W.nsIn K mainGlobals "every_way" = some (some (.ref f12))) (lF12:K.lookup f12=some ⟨oc12,od12,.func (PySem.W.fnOf "every_way" "every_way" (Zat ZjT) (Zaq ZjT) (Zae ZjT) .none kV12 dc12 pm12 an12 cd12 ct12),sl12⟩) (cF12:PySem.W.codeIn K cd12 "every_way" = true) (kF12:PySem.W.keepIn K (.ref f12)=true)
  (aF13:PySem.W.nsIn K mainGlobals "every_closed" = some (some (.ref f13))) (lF13:K.lookup f13=some ⟨oc13,od13,.func (PySem.W.fnOf "every_closed" "every_closed" (Zat Zkv) (Zaq Zkv) (Zae Zkv) .none kV13 dc13 pm13 an13 cd13 ct13),sl13⟩) (cF13:PySem.W.codeIn K cd13 "every_closed" = true) (kF13:PySem.W.keepIn K (.ref f13)=true)
  (aF14:PySem.W.nsIn K mainGlobals "cut" = some (some (.ref f14))) (lF14:K.lookup f14=some ⟨oc14,od14,.func (PySem.W.fnOf "cut" "cut" (Zat Zkw) (Zaq Zkw) (Zae Zkw) .none kV14 dc14 pm14 an14 cd14 ct14),sl14⟩) (cF14:PySem.W.codeIn K cd14 "cut" = true) (kF14:PySem.W.keepIn K (.ref f14)=true)
  (aF15:PySem.W.nsIn K mainGlobals "is_cut" = some (some (.ref f15))) (lF15:K.lookup f15=some ⟨oc15,od15,.func (PySem.W.fnOf "is_cut" "is_cut" (Zat Zlu) (Zaq Zlu) (Zae Zlu) .none kV15 dc15 pm15 an15 cd15 ct15),sl15⟩) (cF15:PySem.W.codeIn K cd15 "is_cut" = true) (kF15:PySem.W.keepIn K (.ref f15)=true)
  (aF16:PySem.W.nsIn K mainGlobals "put_into" = some (some (.ref f16))) (lF16:K.lookup f16=some ⟨oc16,od16,.func (PySem.W.fnOf "put_into" "put_into" (Zat Zlv) (Zaq Zlv) (Zae Zlv) .none kV16 dc16 pm16 an16 cd16 ct16),sl16⟩) (cF16:PySem.W.codeIn K cd16 "put_into" = true) (kF16:PySem.W.keepIn K (.ref f16)=true)
  (aF17:PySem.W.nsIn K mainGlobals "_law_stir" = some (some (.ref f17))) (lF17:K.lookup f17=some ⟨oc17,od17,.func (PySem.W.fnOf "_law_stir" "_law_stir" (Zat ZfR) (Zaq ZfR) (Zae ZfR) .none kV17 dc17 pm17 an17 cd17 ct17),sl17⟩) (cF17:PySem.W.codeIn K cd17 "_law_stir" = true) (kF17:PySem.W.keepIn K (.ref f17)=true)
  (aF18:PySem.W.nsIn K mainGlobals "_law_deck" = some (some (.ref f18))) (lF18:K.lookup f18=some ⟨oc18,od18,.func (PySem.W.fnOf "_law_deck" "_law_deck" (Zat ZfS) (Zaq ZfS) (Zae ZfS) .none kV18 dc18 pm18 an18 cd18 ct18),sl18⟩) (cF18:PySem.W.codeIn K cd18 "_law_deck" = true) (kF18:PySem.W.keepIn K (.ref f18)=true)
  (aF19:PySem.W.nsIn K mainGlobals "_law_take" = some (some (.ref f19))) (lF19:K.lookup f19=some ⟨oc19,od19,.func (PySem.W.fnOf "_law_take" "_law_take" (Zat Zet) (Zaq Zet) (Zae Zet) .none kV19 dc19 pm19 an19 cd19 ct19),sl19⟩) (cF19:PySem.W.codeIn K cd19 "_law_take" = true) (kF19:PySem.W.keepIn K (.ref f19)=true)
  (aF20:PySem.W.nsIn K mainGlobals "_law_grid" = some (some (.ref f20))) (lF20:K.lookup f20=some ⟨oc20,od20,.func (PySem.W.fnOf "_law_grid" "_law_grid" (Zat Zdt) (Zaq Zdt) (Zae Zdt) .none kV20 dc20 pm20 an20 cd20 ct20),sl20⟩) (cF20:PySem.W.codeIn K cd20 "_law_grid" = true) (kF20:PySem.W.keepIn K (.ref f20)=true)
  (aF21:PySem.W.nsIn K mainGlobals "_law_web" = some (some (.ref f21))) (lF21:K.lookup f21=some ⟨oc21,od21,.func (PySem.W.fnOf "_law_web" "_law_web" (Zat Zlw) (Zaq Zlw) (Zae Zlw) .none kV21 dc21 pm21 an21 cd21 ct21),sl21⟩) (cF21:PySem.W.codeIn K cd21 "_law_web" = true) (kF21:PySem.W.keepIn K (.ref f21)=true)
  (aF22:PySem.W.nsIn K mainGlobals "_law_ends" = some (some (.ref f22))) (lF22:K.lookup f22=some ⟨oc22,od22,.func (PySem.W.fnOf "_law_ends" "_law_ends" (Zat Zlx) (Zaq Zlx) (Zae Zlx) .none kV22 dc22 pm22 an22 cd22 ct22),sl22⟩) (cF22:PySem.W.codeIn K cd22 "_law_ends" = true) (kF22:PySem.W.keepIn K (.ref f22)=true)
  (aF23:PySem.W.nsIn K mainGlobals "_law_told" = some (some (.ref f23))) (lF23:K.lookup f23=some ⟨oc23,od23,.func (PySem.W.fnOf "_law_told" "_law_told" (Zat Zly) (Zaq Zly) (Zae Zly) .none kV23 dc23 pm23 an23 cd23 ct23),sl23⟩) (cF23:PySem.W.codeIn K cd23 "_law_told" = true) (kF23:PySem.W.keepIn K (.ref f23)=true)
  (aF24:PySem.W.nsIn K mainGlobals "_law_cut_off" = some (some (.ref f24))) (lF24:K.lookup f24=some ⟨oc24,od24,.func (PySem.W.fnOf "_law_cut_off" "_law_cut_off" (Zat Zlz) (Zaq Zlz) (Zae Zlz) .none kV24 dc24 pm24 an24 cd24 ct24),sl24⟩) (cF24:PySem.W.codeIn K cd24 "_law_cut_off" = true) (kF24:PySem.W.keepIn K (.ref f24)=true)
  (aF25:PySem.W.nsIn K mainGlobals "_law_odd" = some (some (.ref f25))) (lF25:K.lookup f25=some ⟨oc25,od25,.func (PySem.W.fnOf "_law_odd" "_law_odd" (Zat ZlA) (Zaq ZlA) (Zae ZlA) .none kV25 dc25 pm25 an25 cd25 ct25),sl25⟩) (cF25:PySem.W.codeIn K cd25 "_law_odd" = true) (kF25:PySem.W.keepIn K (.ref f25)=true)
  (aF26:PySem.W.nsIn K mainGlobals "_law_right" = some (some (.ref f26))) (lF26:K.lookup f26=some ⟨oc26,od26,.func (PySem.W.fnOf "_law_right" "_law_right" (Zat ZlB) (Zaq ZlB) (Zae ZlB) .none kV26 dc26 pm26 an26 cd26 ct26),sl26⟩) (cF26:PySem.W.codeIn K cd26 "_law_right" = true) (kF26:PySem.W.keepIn K (.ref f26)=true)
  (aF27:PySem.W.nsIn K mainGlobals "law" = some (some (.ref f27))) (lF27:K.lookup f27=some ⟨oc27,od27,.func (PySem.W.fnOf "law" "law" (Zat ZjU) (Zaq ZjU) (Zae ZjU) .none kV27 dc27 pm27 an27 cd27 ct27),sl27⟩) (cF27:PySem.W.codeIn K cd27 "law" = true) (kF27:PySem.W.keepIn K (.ref f27)=true)
  (gC:PySem.W.nsIn K mainGlobals "NoEnds" = some (some (.ref C)))
  (gO:PySem.W.nsIn K mainGlobals "NoOrder" = some (some (.ref NO)))
  (gP:PySem.W.nsIn K mainGlobals "NoPlace" = some (some (.ref C2)))
  (gT:PySem.W.nsIn K mainGlobals "TooMany" = some (some (.ref TM)))
  (xC:ExcC K C)
  (xO:ExcC K NO)
  (xP:ExcC K C2)
  (xT:ExcC K TM)
  (beT:PySem.W.subIn K (.ref TM) (.type "BaseException")=some true)
  (kcT:PySem.W.subIn K (.ref TM) (.ref TM)=some true)
  (ktT:PySem.W.typeIn K (.ref TM)=some (.type "type"))
  (gMW:PySem.W.nsIn K mainGlobals "MOST_WAYS" = some (some (.int 300 tM)))
  (dTl:K.lookup dT=some ⟨dtc,dtd,.seq #[.bool false] dtn,dts⟩)
  (nrange:PySem.W.nsIn K mainGlobals "range" = some none)
  (nlist:PySem.W.nsIn K mainGlobals "list" = some none)
  (nlen:PySem.W.nsIn K mainGlobals "len" = some none)
  (nint:PySem.W.nsIn K mainGlobals "int" = some none)
  (nmin:PySem.W.nsIn K mainGlobals "min" = some none)
  (nmax:PySem.W.nsIn K mainGlobals "max" = some none)
  (nsorted:PySem.W.nsIn K mainGlobals "sorted" = some none)
  (nset:PySem.W.nsIn K mainGlobals "set" = some none)
  (nall:PySem.W.nsIn K mainGlobals "all" = some none)
  (nzip:PySem.W.nsIn K mainGlobals "zip" = some none)
  (nenumerate:PySem.W.nsIn K mainGlobals "enumerate" = some none)
  : ∃ fd:FuncData,(∀ (s:Shared) (v:Value),BindsTo s fd ⟨[v],[]⟩ [("script", v)])/\∀ base:Heap,K.In base->base.Ns mainGlobals mg->ZaI l.prog w K mg base CX0 8 fa fd ["script"] (Zkc K):=by
 have e:=hfa.symm.trans (PySem.W.mg_of X G aF27)
 cases e
 have FIp:=ZaK (st:=sIs) lF1 cF1 kF1
 have bIp:=FIp.binds (ps:=["web", "place"]) λ_ _ _ _ _ _ us hl=>match us,hl with | [_,_],_=>rfl
 have mIp:mg "is_place" = some (.ref f1):=PySem.W.mg_of X G aF1
 have FCp:=ZaK (st:=Zlr) lF2 cF2 kF2
 have bCp:=FCp.binds (ps:=["web", "place"]) λ_ _ _ _ _ _ us hl=>match us,hl with | [_,_],_=>rfl
 have mCp:mg "check_place" = some (.ref f2):=PySem.W.mg_of X G aF2
 have FBe:=ZaK (st:=Zks) lF3 cF3 kF3
 have bBe:=FBe.binds (ps:=["web", "place"]) λ_ _ _ _ _ _ us hl=>match us,hl with | [_,_],_=>rfl
 have mBe:mg "beside" = some (.ref f3):=PySem.W.mg_of X G aF3
 have FRe2:=ZaK (st:=Zls) lF4 cF4 kF4
 have bRe2:=FRe2.binds (ps:=["web", "order"]) λ_ _ _ _ _ _ us hl=>match us,hl with | [_,_],_=>rfl
 have mRe2:mg "reordered" = some (.ref f4):=PySem.W.mg_of X G aF4
 have FCe:=ZaK (st:=ZjR) lF5 cF5 kF5
 have bCe:=FCe.binds (ps:=["web", "one", "other"]) λ_ _ _ _ _ _ us hl=>match us,hl with | [_,_,_],_=>rfl
 have mCe:mg "check_ends" = some (.ref f5):=PySem.W.mg_of X G aF5
 have FNb:=ZaK (st:=Zkt) lF6 cF6 kF6
 have bNb:=FNb.binds (ps:=["web"]) λ_ _ _ _ _ _ us hl=>match us,hl with | [_],_=>rfl
 have mNb:mg "numbers_by_step" = some (.ref f6):=PySem.W.mg_of X G aF6
 have FSo:=ZaK (st:=Zlt) lF7 cF7 kF7
 have bSo:=FSo.binds (ps:=["places", "closed"]) λ_ _ _ _ _ _ us hl=>match us,hl with | [_,_],_=>rfl
 have mSo:mg "steps_of" = some (.ref f7):=PySem.W.mg_of X G aF7
 have FRo:=Zlc (st:=ZfQ) lF8 cF8 kF8
 have bRo:Binds K _ ["web", "places", "closed"] []:=λs us X' hl=>match us,hl with | [_,_,_],_=>PySem.W.binds_K (fd:=PySem.W.fnOf "roads_of" "roads_of" (Zat ZfQ) (Zaq ZfQ) (Zae ZfQ) (.ref dT) kV8 dc8 pm8 an8 cd8 ct8) X' rfl dTl rfl rfl rfl
 have bRo2:Binds K _ ["web", "places", "closed"] [.bool false]:=λs us X' hl=>match us,(show us.length=2 by rw [List.length_append] at hl;simpa using hl) with | [_,_],_=>PySem.W.binds_K (fd:=PySem.W.fnOf "roads_of" "roads_of" (Zat ZfQ) (Zaq ZfQ) (Zae ZfQ) (.ref dT) kV8 dc8 pm8 an8 cd8 ct8) X' rfl dTl rfl rfl rfl
 have mRo:mg "roads_of" = some (.ref f8):=PySem.W.mg_of X G aF8
 have FRe:=ZaK (st:=ZiG) lF9 cF9 kF9
 have bRe:=FRe.binds (ps:=["links", "start", "gone"]) λ_ _ _ _ _ _ us hl=>match us,hl with | [_,_,_],_=>rfl
 have mRe:mg "reached" = some (.ref f9):=PySem.W.mg_of X G aF9
 have FWb:=ZaK (st:=ZjS) lF10 cF10 kF10
 have bWb:=FWb.binds (ps:=["web", "one", "other"]) λ_ _ _ _ _ _ us hl=>match us,hl with | [_,_,_],_=>rfl
 have mWb:mg "ways_between" = some (.ref f10):=PySem.W.mg_of X G aF10
 have FTs:=ZaK (st:=Zku) lF11 cF11 kF11
 have bTs:=FTs.binds (ps:=["sets"]) λ_ _ _ _ _ _ us hl=>match us,hl with | [_],_=>rfl
 have mTs:mg "told_sets" = some (.ref f11):=PySem.W.mg_of X G aF11
 have FEw:=ZaK (st:=ZjT) lF12 cF12 kF12
 have bEw:=FEw.binds (ps:=["web", "one", "other"]) λ_ _ _ _ _ _ us hl=>match us,hl with | [_,_,_],_=>rfl
 have mEw:mg "every_way" = some (.ref f12):=PySem.W.mg_of X G aF12
 have FEc:=ZaK (st:=Zkv) lF13 cF13 kF13
 have bEc:=FEc.binds (ps:=["web"]) λ_ _ _ _ _ _ us hl=>match us,hl with | [_],_=>rfl
 have mEc:mg "every_closed" = some (.ref f13):=PySem.W.mg_of X G aF13
 have FCu:=ZaK (st:=Zkw) lF14 cF14 kF14
 have bCu:=FCu.binds (ps:=["web", "one", "other"]) λ_ _ _ _ _ _ us hl=>match us,hl with | [_,_,_],_=>rfl
 have mCu:mg "cut" = some (.ref f14):=PySem.W.mg_of X G aF14
 have FIc:=ZaK (st:=Zlu) lF15 cF15 kF15
 have bIc:=FIc.binds (ps:=["web", "one", "other", "places"]) λ_ _ _ _ _ _ us hl=>match us,hl with | [_,_,_,_],_=>rfl
 have mIc:mg "is_cut" = some (.ref f15):=PySem.W.mg_of X G aF15
 have FPi:=ZaK (st:=Zlv) lF16 cF16 kF16
 have bPi:=FPi.binds (ps:=["order", "roads"]) λ_ _ _ _ _ _ us hl=>match us,hl with | [_,_],_=>rfl
 have mPi:mg "put_into" = some (.ref f16):=PySem.W.mg_of X G aF16
 have FSt:=ZaK (st:=ZfR) lF17 cF17 kF17
 have bSt:=FSt.binds (ps:=["cell", "k"]) λ_ _ _ _ _ _ us hl=>match us,hl with | [_,_],_=>rfl
 have mSt:mg "_law_stir" = some (.ref f17):=PySem.W.mg_of X G aF17
 have FDe:=ZaK (st:=ZfS) lF18 cF18 kF18
 have bDe:=FDe.binds (ps:=["cell"]) λ_ _ _ _ _ _ us hl=>match us,hl with | [_],_=>rfl
 have mDe:mg "_law_deck" = some (.ref f18):=PySem.W.mg_of X G aF18
 have FTa:=ZaK (st:=Zet) lF19 cF19 kF19
 have bTa:=FTa.binds (ps:=["deck", "many"]) λ_ _ _ _ _ _ us hl=>match us,hl with | [_,_],_=>rfl
 have mTa:mg "_law_take" = some (.ref f19):=PySem.W.mg_of X G aF19
 have FGr:=ZaK (st:=Zdt) lF20 cF20 kF20
 have bGr:=FGr.binds (ps:=["rows", "columns"]) λ_ _ _ _ _ _ us hl=>match us,hl with | [_,_],_=>rfl
 have mGr:mg "_law_grid" = some (.ref f20):=PySem.W.mg_of X G aF20
 have FWe:=ZaK (st:=Zlw) lF21 cF21 kF21
 have bWe:=FWe.binds (ps:=["deck"]) λ_ _ _ _ _ _ us hl=>match us,hl with | [_],_=>rfl
 have mWe:mg "_law_web" = some (.ref f21):=PySem.W.mg_of X G aF21
 have FEn:=ZaK (st:=Zlx) lF22 cF22 kF22
 have bEn:=FEn.binds (ps:=["deck", "places"]) λ_ _ _ _ _ _ us hl=>match us,hl with | [_,_],_=>rfl
 have mEn:mg "_law_ends" = some (.ref f22):=PySem.W.mg_of X G aF22
 have FTo:=ZaK (st:=Zly) lF23 cF23 kF23
 have bTo:=FTo.binds (ps:=["web", "ends"]) λ_ _ _ _ _ _ us hl=>match us,hl with | [_,_],_=>rfl
 have mTo:mg "_law_told" = some (.ref f23):=PySem.W.mg_of X G aF23
 have FCf:=ZaK (st:=Zlz) lF24 cF24 kF24
 have bCf:=FCf.binds (ps:=["web", "one", "other", "part", "out"]) λ_ _ _ _ _ _ us hl=>match us,hl with | [_,_,_,_,_],_=>rfl
 have mCf:mg "_law_cut_off" = some (.ref f24):=PySem.W.mg_of X G aF24
 have FOd:=ZaK (st:=ZlA) lF25 cF25 kF25
 have bOd:=FOd.binds (ps:=["roads", "out"]) λ_ _ _ _ _ _ us hl=>match us,hl with | [_,_],_=>rfl
 have mOd:mg "_law_odd" = some (.ref f25):=PySem.W.mg_of X G aF25
 have FRg:=ZaK (st:=ZlB) lF26 cF26 kF26
 have bRg:=FRg.binds (ps:=["web", "one", "other", "part", "order"]) λ_ _ _ _ _ _ us hl=>match us,hl with | [_,_,_,_,_],_=>rfl
 have mRg:mg "_law_right" = some (.ref f26):=PySem.W.mg_of X G aF26
 have FL:=ZaK (st:=ZjU) lF27 cF27 kF27
 refine ⟨PySem.W.fnOf "law" "law" (Zat ZjU) (Zaq ZjU) (Zae ZjU) .none kV27 dc27 pm27 an27 cd27 ct27,λs v=>.of_eq rfl,λbase _ _=>?_⟩
 have GDe:=ZlD (P:=l.prog) (w:=w) (base:=base) FDe FSt bSt mSt
 have GTa:=ZfT (P:=l.prog) (w:=w) (mg:=mg) (base:=base) FTa
 have GWe:=ZmS (P:=l.prog) (w:=w) (base:=base) FWe FTa bTa mTa FGr bGr mGr (PySem.W.mg_none_of X G nrange) (PySem.W.mg_none_of X G nint) (PySem.W.mg_none_of X G nmin) (PySem.W.mg_none_of X G nlen)
 have GEn:=Znb (P:=l.prog) (w:=w) (base:=base) FEn FTa bTa mTa (PySem.W.mg_none_of X G nmax)
 have GCe:=Zm0 (P:=l.prog) (w:=w) (base:=base) FCe FIp bIp mIp (PySem.W.mg_of X G gC) xC
 have GCp:=Zm3 (P:=l.prog) (w:=w) (base:=base) FCp FIp bIp mIp (PySem.W.mg_of X G gP) xP
 have GBe:=Zm4 (P:=l.prog) (w:=w) (base:=base) FBe FCp bCp mCp GCp (PySem.W.mg_none_of X G nsorted)
 have GRo:=Zm1 (P:=l.prog) (w:=w) (base:=base) FRo FNb bNb mNb FSo bSo mSo (PySem.W.mg_none_of X G nenumerate) (PySem.W.mg_none_of X G nlist) (PySem.W.mg_none_of X G nzip) (PySem.W.mg_none_of X G nsorted)
 have GWb:=Znk (P:=l.prog) (w:=w) (base:=base) FWb FBe bBe mBe GBe FRe bRe mRe (PySem.W.mg_of X G gMW) (PySem.W.mg_none_of X G nrange) (PySem.W.mg_none_of X G nlen)
 have GTs:=Znl (P:=l.prog) (w:=w) (base:=base) FTs (PySem.W.mg_of X G gMW) (PySem.W.mg_of X G gT) xT (PySem.W.mg_none_of X G nlen) (PySem.W.mg_none_of X G nsorted)
 have GEw:=Znm (P:=l.prog) (w:=w) (base:=base) FEw FCe bCe mCe GCe FWb bWb mWb GWb FTs bTs mTs GTs FRo bRo2 mRo GRo
 have GEc:=Znn (P:=l.prog) (w:=w) (base:=base) FEc FWb bWb mWb GWb FTs bTs mTs GTs FRo bRo mRo GRo (PySem.W.mg_none_of X G nenumerate)
 have GTo:=Znq (P:=l.prog) (w:=w) (base:=base) FTo FEc bEc mEc GEc FEw bEw mEw GEw (PySem.W.mg_of X G gT) beT (Zkd kcT ktT)
 have GCu:=Znh (P:=l.prog) (w:=w) (base:=base) FCu FCe bCe mCe GCe FBe bBe mBe GBe FRe bRe mRe (PySem.W.mg_none_of X G nrange) (PySem.W.mg_none_of X G nsorted)
 have GIc:=Znj (P:=l.prog) (w:=w) (base:=base) FIc FCe bCe mCe GCe FIp bIp mIp (PySem.W.mg_none_of X G nsorted) (PySem.W.mg_none_of X G nset) (PySem.W.mg_none_of X G nall)
 have GRe2:=Zm6 (P:=l.prog) (w:=w) (base:=base) FRe2 (PySem.W.mg_of X G gO) xO (PySem.W.mg_none_of X G nrange) (PySem.W.mg_none_of X G nlist) (PySem.W.mg_none_of X G nlen) (PySem.W.mg_none_of X G nsorted)
 have GPi:=Zm8 (P:=l.prog) (w:=w) (base:=base) FPi (PySem.W.mg_none_of X G nenumerate)
 have GOd:=Znt (P:=l.prog) (w:=w) (base:=base) FOd (PySem.W.mg_none_of X G nlen)
 have GCf:=Znv (P:=l.prog) (w:=w) (base:=base) FCf FIc bIc mIc GIc FEw bEw mEw GEw FCu bCu mCu GCu (PySem.W.mg_none_of X G nrange) (PySem.W.mg_none_of X G nlen) (PySem.W.mg_none_of X G nlist)
 have GRg:=Znx (P:=l.prog) (w:=w) (base:=base) FRg FCf bCf mCf GCf FTo bTo mTo GTo FRe2 bRe2 mRe2 GRe2 FOd bOd mOd GOd FCu bCu mCu GCu FEw bEw mEw GEw FEc bEc mEc GEc FPi bPi mPi GPi (PySem.W.mg_none_of X G nrange) (PySem.W.mg_none_of X G nlen) (PySem.W.mg_none_of X G nlist) (PySem.W.mg_none_of X G nsorted)
 exact Zny FL FDe bDe mDe GDe FTa bTa mTa GTa FWe bWe mWe GWe FEn bEn mEn GEn FRg bRg mRg GRg (PySem.W.mg_none_of X G nrange) (PySem.W.mg_none_of X G nlist) (PySem.W.mg_none_of X G nlen)
theorem walk {l:PySem.W.OpenLaw} {q:Program} {loose:List Str} {XP:(Str->Option Value)->Heap->Prop} {YP:World->Heap->Prop} {d:DefRec} {K:Params->PySem.W.Frag} (hn:l.most=some 63) (hdf:d.params.defaults=[])
  (hY:∀ (w:World) (h:Heap),YP w h->(K w.params).In h)
  (F:∀ (w:World) (mg:Str->Option Value) (fa:Addr) (h:Heap),(K w.params).In h->h.Ns mainGlobals mg->mg d.name=some (.ref fa) ->
   ∃ fd:FuncData,(∀ (s:Shared) (u:Value),BindsTo s fd ⟨[u],[]⟩ [("script", u)])/\∀ base:Heap,(K w.params).In base->base.Ns mainGlobals mg->ZaI l.prog w (K w.params) mg base CX0 8 fa fd ["script"] (Zkc (K w.params))) :
  PySem.W.WalkO q loose XP YP l.row.toRowW d [] (λf vs=>PySem.call f vs):=
 L2.walk_of (n:=63) (k:=8) (x := "script") (CX:=λ_=>CX0) (sp:=λw=>Zkc (K w.params)) hn (by decide) hdf ⟨rfl,by decide,by decide⟩ hY F (λ_ _ a ns hl _ hS=>⟨a,ns,rfl,hS,hl,λ_=>rfl⟩) λ_ _ _ _ _ z=>z
end M
open PySem PySem.W PyProof.Rows
local macro_rules
 | `(tactic| o_head $H)=>`(tactic| (
  refine @holds_open _ M.seenP M.loosely M.hookX (XL M.seenP []) _ (Hook.obs $H) (Hook.val $H) (Hook.says $H) _ _ 6000
   (@M.left_boot M.rowP M.seenP M.loosely M.hookX _ (Hook.obs $H) (Hook.val $H) 6000 ?b1 ?b2 ?b3 M.topC M.topA ?hl)
   (Hook.of $H) (Hook.keeps $H) ?h1 XL.keeps (by rfl) (by rfl) (by rfl) ?h5 ?h6 ?h7 ?h8 ?h9 ?hw ?hc
  (case h1=>exact λs e=>xl_of s (Bool.and_eq_true_iff.mp e).1)
  (case h5=>exact λs e=>recFacts_of (Bool.and_eq_true_iff.mp e).2)
  (case h6=>rfl)
  (case h7=>first | assumption | decide +kernel)
  (case h8=>decide +kernel)
  (case h9=>exact ⟨rfl,rfl,rfl,rfl,rfl,by decide +kernel⟩)
  (case b1=>kernel_rfl)
  (case b2=>decide)
  (case b3=>(intro s;kernel_rfl))
  (case hl=>(intro w os;unfold M.topOf;rw [PySem.W.Fast.te14082659384304107361,PySem.W.Fast.te14364793385576792824];kernel_rfl))))
set_option maxRecDepth 100000 in
set_option maxHeartbeats 0 in
theorem PySem.Challenge.cw_onceways_k40_whole_ways_leave_parts_holds : PySem.Challenge.rw_onceways_k40_whole_ways_leave_parts.Holds := by
 w_on;o_law;k_head;(case hw=>w_witness2)
 k_fill
 refine M.walk (l:=PySem.Challenge.rw_onceways_k40_whole_ways_leave_parts) rfl rfl (λw h Y=>PySem.W.kIn_of Y) ?F
 case F=>
  intro w mg fa h KX G hmg
  refine' M.all_mk KX G hmg ?aF1 ?lF1 ?cF1 ?kF1 ?aF2 ?lF2 ?cF2 ?kF2 ?aF3 ?lF3 ?cF3 ?kF3 ?aF4 ?lF4 ?cF4 ?kF4 ?aF5 ?lF5 ?cF5 ?kF5 ?aF6 ?lF6 ?cF6 ?kF6 ?aF7 ?lF7 ?cF7 ?kF7 ?aF8 ?lF8 ?cF8 ?kF8 ?aF9 ?lF9 ?cF9 ?kF9 ?aF10 ?lF10 ?cF10 ?kF10 ?aF11 ?lF11 ?cF11 ?kF11 ?aF12 ?lF12 ?cF12 ?kF12 ?aF13 ?lF13 ?cF13 ?kF13 ?aF14 ?lF14 ?cF14 ?kF14 ?aF15 ?lF15 ?cF15 ?kF15 ?aF16 ?lF16 ?cF16 ?kF16 ?aF17 ?lF17 ?cF17 ?kF17 ?aF18 ?lF18 ?cF18 ?kF18 ?aF19 ?lF19 ?cF19 ?kF19 ?aF20 ?lF20 ?cF20 ?kF20 ?aF21 ?lF21 ?cF21 ?kF21 ?aF22 ?lF22 ?cF22 ?kF22 ?aF23 ?lF23 ?cF23 ?kF23 ?aF24 ?lF24 ?cF24 ?kF24 ?aF25 ?lF25 ?cF25 ?kF25 ?aF26 ?lF26 ?cF26 ?kF26 ?aF27 ?lF27 ?cF27 ?kF27 ?gC ?gO ?gP ?gT ?xC ?xO ?xP ?xT ?beT ?kcT ?ktT ?gMW ?dTl ?nrange ?nlist ?nlen ?nint ?nmin ?nmax ?nsorted ?nset ?nall ?nzip ?nenumerate
  (case aF1=>k_is)
  (case lF1=>k_is)
  (case cF1=>k_is)
  (case kF1=>k_is)
  (case aF2=>k_is)
  (case lF2=>k_is)
  (case cF2=>k_is)
  (case kF2=>k_is)
  (case aF3=>k_is)
  (case lF3=>k_is)
  (case cF3=>k_is)
  (case kF3=>k_is)
  (case aF4=>k_is)
  (case lF4=>k_is)
  (case cF4=>k_is)
  (case kF4=>k_is)
  (case aF5=>k_is)
  (case lF5=>k_is)
  (case cF5=>k_is)
  (case kF5=>k_is)
  (case aF6=>k_is)
  (case lF6=>k_is)
  (case cF6=>k_is)
  (case kF6=>k_is)
  (case aF7=>k_is)
  (case lF7=>k_is)
  (case cF7=>k_is)
  (case kF7=>k_is)
  (case aF8=>k_is)
  (case lF8=>k_is)
  (case cF8=>k_is)
  (case kF8=>k_is)
  (case aF9=>k_is)
  (case lF9=>k_is)
  (case cF9=>k_is)
  (case kF9=>k_is)
  (case aF10=>k_is)
  (case lF10=>k_is)
  (case cF10=>k_is)
  (case kF10=>k_is)
  (case aF11=>k_is)
  (case lF11=>k_is)
  (case cF11=>k_is)
  (case kF11=>k_is)
  (case aF12=>k_is)
  (case lF12=>k_is)
  (case cF12=>k_is)
  (case kF12=>k_is)
  (case aF13=>k_is)
  (case lF13=>k_is)
  (case cF13=>k_is)
  (case kF13=>k_is)
  (case aF14=>k_is)
  (case lF14=>k_is)
  (case cF14=>k_is)
  (case kF14=>k_is)
  (case aF15=>k_is)
  (case lF15=>k_is)
  (case cF15=>k_is)
  (case kF15=>k_is)
  (case aF16=>k_is)
  (case lF16=>k_is)
  (case cF16=>k_is)
  (case kF16=>k_is)
  (case aF17=>k_is)
  (case lF17=>k_is)
  (case cF17=>k_is)
  (case kF17=>k_is)
  (case aF18=>k_is)
  (case lF18=>k_is)
  (case cF18=>k_is)
  (case kF18=>k_is)
  (case aF19=>k_is)
  (case lF19=>k_is)
  (case cF19=>k_is)
  (case kF19=>k_is)
  (case aF20=>k_is)
  (case lF20=>k_is)
  (case cF20=>k_is)
  (case kF20=>k_is)
  (case aF21=>k_is)
  (case lF21=>k_is)
  (case cF21=>k_is)
  (case kF21=>k_is)
  (case aF22=>k_is)
  (case lF22=>k_is)
  (case cF22=>k_is)
  (case kF22=>k_is)
  (case aF23=>k_is)
  (case lF23=>k_is)
  (case cF23=>k_is)
  (case kF23=>k_is)
  (case aF24=>k_is)
  (case lF24=>k_is)
  (case cF24=>k_is)
  (case kF24=>k_is)
  (case aF25=>k_is)
  (case lF25=>k_is)
  (case cF25=>k_is)
  (case kF25=>k_is)
  (case aF26=>k_is)
  (case lF26=>k_is)
  (case cF26=>k_is)
  (case kF26=>k_is)
  (case aF27=>k_is)
  (case lF27=>k_is)
  (case cF27=>k_is)
  (case kF27=>k_is)
  (case gC=>k_is)
  (case gO=>k_is)
  (case gP=>k_is)
  (case gT=>k_is)
  (case xC=>(unfold L2.ExcC;k_exc))
  (case xO=>(unfold L2.ExcC;k_exc))
  (case xP=>(unfold L2.ExcC;k_exc))
  (case xT=>(unfold L2.ExcC;k_exc))
  (case beT=>k_is)
  (case kcT=>k_is)
  (case ktT=>k_is)
  (case gMW=>k_is)
  (case dTl=>k_is)
  (case nrange=>k_is)
  (case nlist=>k_is)
  (case nlen=>k_is)
  (case nint=>k_is)
  (case nmin=>k_is)
  (case nmax=>k_is)
  (case nsorted=>k_is)
  (case nset=>k_is)
  (case nall=>k_is)
  (case nzip=>k_is)
  (case nenumerate=>k_is)
#print axioms PySem.Challenge.cw_onceways_k40_whole_ways_leave_parts_holds
