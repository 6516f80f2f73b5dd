import PyProof.Rows.All
import Wide.All
import OpenK.AllK
import Wide.FinOn
import Lean
import PyProof.EqAt
import PyProof.EqKinds
import PyProof.TupleCall
import PySem.Challenge.RW_onceways_k10_every_way_by_trial
set_option Elab.async false
set_option linter.all false
set_option maxRecDepth 100000
set_option maxHeartbeats 4000000
namespace L2
open PySem PySem.Spec PyProof.Rows
abbrev Key:=Sum Int Str
def ZfY:Key->Value->Bool
 | .inl k,v=>Value.isInt k v
 | .inr x,v=>Value.isStrOf x v
def Zn6 (w:World):Key->Int
 | .inl k=>hashInt k
 | .inr x=>hashStr w x
theorem ZaM:∀ {k:Key} {v:Value},ZfY k v=true->(∃ i t,k=Sum.inl i/\v=Value.int i t)\/(∃ x t,k=Sum.inr x/\v=Value.str x t)
 | .inl i,v,h=>by
  obtain ⟨t,e⟩:=Value.isInt_shape (k:=i) (v:=v) h
  exact .inl ⟨i,t,rfl,e⟩
 | .inr x,v,h=>by
  obtain ⟨t,e⟩:=Value.isStrOf_shape (x:=x) (v:=v) h
  exact .inr ⟨x,t,rfl,e⟩
theorem Zgr (i:Int) (t:Tok):ZfY (.inl i) (.int i t)=true:=by simp [ZfY,Value.isInt]
theorem Zgs (x:Str) (t:Tok):ZfY (.inr x) (.str x t)=true:=by simp [ZfY,Value.isStrOf]
theorem ZkV (a b:Int):decide ((Sum.inl a:Key)=Sum.inl b)=(a == b):=by
 by_cases e:a=b
 ·subst e;simp
 ·have h:¬ (Sum.inl a:Key)=Sum.inl b:=λq=>e (Sum.inl.inj q)
  rw [decide_eq_false h]
  exact (beq_eq_false_iff_ne.mpr e).symm
theorem ZkW (a b:Str):decide ((Sum.inr a:Key)=Sum.inr b)=decide (a=b):=by
 by_cases e:a=b
 ·subst e;simp
 ·have h:¬ (Sum.inr a:Key)=Sum.inr b:=λq=>e (Sum.inr.inj q)
  rw [decide_eq_false h,decide_eq_false e]
theorem ZkX (a:Int) (b:Str):decide ((Sum.inl a:Key)=Sum.inr b)=false:=decide_eq_false (λq=>nomatch q)
theorem ZkY (a:Str) (b:Int):decide ((Sum.inr a:Key)=Sum.inl b)=false:=decide_eq_false (λq=>nomatch q)
def ZaU (prog:Program) (w:World):PySem.KeyKind prog w Key where
 is:=ZfY
 hash:=Zn6 w
 inj:=λv a b ha hb=>by
  rcases ZaM ha with ⟨i,t,rfl,rfl⟩ | ⟨x,t,rfl,rfl⟩
  ·rcases ZaM hb with ⟨j,u,rfl,e⟩ | ⟨y,u,rfl,e⟩
   ·injection e with e1 _;rw [e1]
   ·exact nomatch e
  ·rcases ZaM hb with ⟨j,u,rfl,e⟩ | ⟨y,u,rfl,e⟩
   ·exact nomatch e
   ·injection e with e1 _;rw [e1]
 byValue:=λk v h=>by
  rcases ZaM h with ⟨i,t,rfl,rfl⟩ | ⟨x,t,rfl,rfl⟩ <;> rfl
 pyHash:=λhv h=>by
  rcases ZaM hv with ⟨i,t,rfl,rfl⟩ | ⟨x,t,rfl,rfl⟩
  ·exact wpAny_pyHash_int h
  ·exact wpAny_pyHash_str h
 eqBool:=λhu hv h=>by
  rcases ZaM hu with ⟨i,t,rfl,rfl⟩ | ⟨x,t,rfl,rfl⟩
  ·rcases ZaM hv with ⟨j,u,rfl,rfl⟩ | ⟨y,u,rfl,rfl⟩
   ·rw [ZkV] at h;exact wpAny_eqBool_int h
   ·rw [ZkX] at h;exact SeqAt.EqAt.int_str i t y u _ _ _ _ h
  ·rcases ZaM hv with ⟨j,u,rfl,rfl⟩ | ⟨y,u,rfl,rfl⟩
   ·rw [ZkY] at h;exact SeqAt.EqAt.str_int x t j u _ _ _ _ h
   ·rw [ZkW] at h;exact wpAny_eqBool_str h
 «strs»:=λk x t v h=>by
  rcases ZaM h with ⟨i,u,rfl,e⟩ | ⟨y,u,rfl,e⟩
  ·exact nomatch e
  ·injection e with e1 _
   subst e1
   cases v <;> rfl
theorem ZeQ (prog:Program) (w:World) (i:Int) (t:Tok):(ZaU prog w).is (.inl i) (.int i t)=true:=Zgr i t
theorem ZeR (prog:Program) (w:World) (x:Str) (t:Tok):(ZaU prog w).is (.inr x) (.str x t)=true:=Zgs x t
end L2
namespace L2
open PySem PySem.Spec PyProof.Rows
inductive V where
 | non | bl (b:Bool) | int (i:Int) | str (x:Str) | byt (b:Array UInt8) | flt (b:UInt64) | ref (a:Addr) | ty (n:String)
 deriving DecidableEq
def RelV:V->Value->Prop
 | .non,u=>u=Value.none
 | .bl b,u=>u=Value.bool b
 | .int i,u=>∃ t,u=Value.int i t
 | .str x,u=>∃ t,u=Value.str x t
 | .byt b,u=>∃ t,u=Value.bytes b t
 | .flt b,u=>∃ t,u=Value.float b t
 | .ref a,u=>u=Value.ref a
 | .ty n,u=>u=Value.type n
abbrev Vals:List V->List Value->Prop:=Paired RelV
theorem Vals.length {xs:List V} {us:List Value} (r:Vals xs us):xs.length=us.length:=Paired.length r
theorem Vals.get:∀ {xs:List V} {us:List Value} {i:Nat} {x:V},Vals xs us->xs[i]?=some x->∃ u,us[i]?=some u/\RelV x u
 | _,_,_,_,.nil,e=>by simp at e
 | _,_,0,_,.cons r _,e=>by simp at e;subst e;exact ⟨_,rfl,r⟩
 | _,_,i+1,x,.cons _ t,e=>by
  obtain ⟨u,h1,h2⟩:=Vals.get (i:=i) (x:=x) t (by simpa using e)
  exact ⟨u,by simpa using h1,h2⟩
theorem Vals.set {x:V} {u:Value} (r:RelV x u):∀ {xs:List V} {us:List Value} (i:Nat),Vals xs us->Vals (xs.set i x) (us.set i u)
 | _,_,_,.nil=>.nil
 | _,_,0,.cons _ t=>.cons r t
 | _,_,i+1,.cons q t=>.cons q (Vals.set r i t)
theorem Vals.append:∀ {xs ys:List V} {us ws:List Value},Vals xs us->Vals ys ws->Vals (xs++ys) (us++ws)
 | _,_,_,_,.nil,s=>s
 | _,_,_,_,.cons r t,s=>.cons r (Vals.append t s)
theorem Vals.take:∀ {xs:List V} {us:List Value} (n:Nat),Vals xs us->Vals (xs.take n) (us.take n)
 | _,_,0,_=>.nil
 | _,_,_+1,.nil=>.nil
 | _,_,n+1,.cons r t=>.cons r (Vals.take n t)
theorem Vals.drop:∀ {xs:List V} {us:List Value} (n:Nat),Vals xs us->Vals (xs.drop n) (us.drop n)
 | _,_,0,r=>r
 | _,_,_+1,.nil=>.nil
 | _,_,n+1,.cons _ t=>Vals.drop n t
def RelO:Option V->Option Value->Prop
 | some v,some u=>RelV v u
 | none,none=>True
 | _,_=>False
def KV {κ:Type}:List (κ×V)->List (κ×Value)->Prop:=Paired λ(p:κ×V) (q:κ×Value)=>p.1=q.1/\RelV p.2 q.2
def kV:Key->V
 | .inl i=>.int i
 | .inr x=>.str x
inductive HO where
  | lst (xs:List V)
  | tup (xs:List V)
  | dK (kvs:List (Key×V)) | dT (kvs:List (List Key×V))
  | set (S:Int->Bool) (n:Nat)
  | ins (C dx:Addr) (fs:List (Str×V))
  | own (x:Addr)
  | xd (fs:List (Str×V))
  | met (f x:Addr)
  | rng (lo hi:Int)
  | frz (o:Obj) (u:HO)
  | tbl (ps:Array Value)
  | ext (φ:Heap->Prop)
abbrev Hp:=Addr->Option HO
def upd (H:Hp) (a:Addr) (o:HO):Hp:=λb=>if b=a then some o else H b
theorem Zab {H:Hp} {a:Addr} {o:HO}:upd H a o a=some o:=by unfold upd;rw [if_pos rfl]
theorem Zao {H:Hp} {a b:Addr} {o:HO} (h:b≠a):upd H a o b=H b:=by unfold upd;rw [if_neg h]
theorem Zgt {H:Hp} {a b:Addr} {o u:HO} (h:H a=some o) (h':H b=some u) (d:o≠u):a≠b:=by
 intro e;subst e;rw [h] at h';exact d (Option.some.inj h')
theorem Zai {H:Hp} {a b:Addr} {o:HO} (h:H a=some o) (h':H b=none):a≠b:=by
 intro e;subst e;rw [h] at h';cases h'
section
variable (P:Program) (w:World)
def ObjOk (H:Hp) (h:Heap) (a:Addr):HO->Prop
 | .lst xs=>xs.length<=sizeLine/\∃ (its:List Value) (n:Nat),Vals xs its/\h.get? a=some { cls:=.type "list", data:=.seq its.toArray n }
 | .tup xs=>xs.length<=sizeLine/\∃ its:List Value,Vals xs its/\IsTup h a its.toArray
 | .dK kvs=>kvs.length<=sizeLine/\(a == sysModules)=false/\∃ vs,KV kvs vs/\h.DictOf (ZaU P w) a vs
 | .dT kvs=>kvs.length<=sizeLine/\(a == sysModules)=false/\∃ xs:List (List Key×Addr×Value),
   Paired (λ(p:List Key×V) (q:List Key×Addr×Value)=>p.1=q.1/\H q.2.1=some (.tup (p.1.map kV))/\RelV p.2 q.2.2) kvs xs /\
   ∃ o es ep,h.get? a=some o/\o.ExactDict/\o.data=.dict es ep/\es.toList=xs.map (entryOfKey (tupleKind (ZaU P w)))/\(xs.map (·.1)).Nodup
 | .set S n=>h.SetOf (intKind P w) a S n
 | .ins C dx fs=>H dx=some (.own a)/\fs.length<=1000/\dx≠a/\h.get? a=some (PySem.W.instObj C dx) /\
   ∃ mA,h.Ns1 dx mA/\(∀ f,RelO (fs.lookup f) (mA f))/\PySem.Within mA (fs.map (·.1))
 | .own _=>∃ o,h.get? a=some o
 | .xd fs=>∃ mA,h.Ns1 a mA/\∀ f,RelO (fs.lookup f) (mA f)
 | .rng lo hi=>∃ t u v,h.get? a=some { cls:=.type "range", data:=.fields #[.int lo t,.int hi u,.int 1 v] }
 | .frz o u=>h.get? a=some o/\ObjOk H h a u
 | .tbl ps=>h.get? a=some { cls:=.none,data:=.fields ps }
 | .met f x=>h.get? a=some (PySem.W.methodObj (.ref f) (.ref x))
 | .ext φ=>φ h/\(∃ o,h.get? a=some o)/\∀ h1 h2:Heap,φ h1->(∀ o,h1.get? a=some o->h2.get? a=some o)->φ h2
def HOk (H:Hp) (h:Heap):Prop:=∀ a o,H a=some o->ObjOk P w H h a o
end
section
variable {P:Program} {w:World} {H H':Hp} {h h':Heap} {a:Addr} {o:HO}
theorem ObjOk.lt (x:ObjOk P w H h a o):a<h.objs.size:=by
 cases o with
 | lst xs=>obtain ⟨_,_,_,_,e⟩:=x;exact Heap.lt_size e
 | tup xs=>obtain ⟨_,_,_,p⟩:=x;exact p.lt
 | dK kvs=>obtain ⟨_,_,_,_,o,_,_,e,_⟩:=x;exact Heap.lt_size e
 | dT kvs=>obtain ⟨_,_,_,_,o,_,_,e,_⟩:=x;exact Heap.lt_size e
 | set S n=>obtain ⟨o,_,_,_,e,_⟩:=x;exact Heap.lt_size e
 | ins C dx fs=>obtain ⟨_,_,_,e,_⟩:=x;exact Heap.lt_size e
 | own y=>obtain ⟨_,e⟩:=x;exact Heap.lt_size e
 | xd fs=>obtain ⟨_,⟨_,_,_,e,_⟩,_⟩:=x;exact Heap.lt_size e
 | rng lo hi=>obtain ⟨_,_,_,e⟩:=x;exact Heap.lt_size e
 | frz ob u=>obtain ⟨e,_⟩:=x;exact Heap.lt_size e
 | tbl ps=>exact Heap.lt_size (show h.get? a=some _ from x)
 | met f y=>exact Heap.lt_size (show h.get? a=some _ from x)
 | ext φ=>obtain ⟨_,⟨_,e⟩,_⟩:=x;exact Heap.lt_size e
theorem Paired.mapP {α β:Type} {F G:α->β->Prop}:∀ {l₁:List α} {l₂:List β},Paired F l₁ l₂->(∀ a b,F a b->G a b)->Paired G l₁ l₂
 | _,_,.nil,_=>.nil
 | _,_,.cons r t,f=>.cons (f _ _ r) (Paired.mapP t f)
theorem ObjOk.stay (x:ObjOk P w H h a o) (k:∀ b u,(b=a\/H b=some (.own a))->h.get? b=some u->h'.get? b=some u)
  (ho:∀ b,H b=some (.own a)->H' b=some (.own a)) (ht:∀ b xs,H b=some (.tup xs)->H' b=some (.tup xs)):ObjOk P w H' h' a o:=by
 induction o with
 | lst xs=>obtain ⟨z,its,n,r,e⟩:=x;exact ⟨z,its,n,r,k _ _ (.inl rfl) e⟩
 | tup xs=>obtain ⟨z,its,r,ob,e,c⟩:=x;exact ⟨z,its,r,ob,k _ _ (.inl rfl) e,c⟩
 | dK kvs=>obtain ⟨z,y,vs,r,ob,es,ep,e,c⟩:=x;exact ⟨z,y,vs,r,ob,es,ep,k _ _ (.inl rfl) e,c⟩
 | dT kvs=>
  obtain ⟨z,y,xs,r,ob,es,ep,e,c⟩:=x
  exact ⟨z,y,xs,Paired.mapP r λp q z=>⟨z.1,ht _ _ z.2.1,z.2.2⟩,ob,es,ep,k _ _ (.inl rfl) e,c⟩
 | set S n=>obtain ⟨ob,es,ep,t,e,c⟩:=x;exact ⟨ob,es,ep,t,k _ _ (.inl rfl) e,c⟩
 | ins C dx fs=>
  obtain ⟨d,z,ne,e,mA,⟨od,es,ep,e2,c⟩,r⟩:=x
  exact ⟨ho _ d,z,ne,k _ _ (.inl rfl) e,mA,⟨od,es,ep,k _ _ (.inr d) e2,c⟩,r⟩
 | own y=>obtain ⟨ob,e⟩:=x;exact ⟨ob,k _ _ (.inl rfl) e⟩
 | xd fs=>obtain ⟨mA,⟨od,es,ep,e,c⟩,r⟩:=x;exact ⟨mA,⟨od,es,ep,k _ _ (.inl rfl) e,c⟩,r⟩
 | rng lo hi=>obtain ⟨t,u,v,e⟩:=x;exact ⟨t,u,v,k _ _ (.inl rfl) e⟩
 | frz ob u ih=>obtain ⟨e,q⟩:=x;exact ⟨k _ _ (.inl rfl) e,ih q⟩
 | tbl ps=>
  have e:h.get? a=some { cls:=.none,data:=.fields ps }:=x
  show h'.get? a=some { cls:=.none,data:=.fields ps }
  exact k a _ (.inl rfl) e
 | met f y=>
  have e:h.get? a=some (PySem.W.methodObj (.ref f) (.ref y)):=x
  show h'.get? a=some (PySem.W.methodObj (.ref f) (.ref y))
  exact k a _ (.inl rfl) e
 | ext φ=>obtain ⟨p,⟨o,e⟩,st⟩:=x;exact ⟨st _ _ p λo q=>k _ _ (.inl rfl) q,⟨o,k _ _ (.inl rfl) e⟩,st⟩
theorem HOk.lt (x:HOk P w H h) (e:H a=some o):a<h.objs.size:=(x a o e).lt
theorem HOk.fresh (x:HOk P w H h) (e:h.objs.size<=a):H a=none:=by
 cases q:H a with
 | none=>rfl
 | some u=>exact absurd (Nat.lt_of_lt_of_le (x.lt q) e) (Nat.lt_irrefl _)
theorem HOk.kept (x:HOk P w H h) (k:∀ b u,h.get? b=some u->h'.get? b=some u):HOk P w H h':=λa o e=>
 (x a o e).stay (λb u _ q=>k b u q) (λ_ q=>q) λ_ _ q=>q
theorem HOk.laid (x:HOk P w H h) (k:∀ b u,h.get? b=some u->h'.get? b=some u) (hp:h.objs.size<=a) (new:ObjOk P w (upd H a o) h' a o):HOk P w (upd H a o) h':=λb u e=>by
 have hn:=x.fresh hp
 by_cases hb:b=a
 ·subst hb;rw [Zab] at e;cases e;exact new
 ·rw [Zao hb] at e
  exact (x b u e).stay (λc v _ q=>k c v q) (λc q=>by rw [Zao (Zai q hn)];exact q) λc xs q=>by rw [Zao (Zai q hn)];exact q
end
def Rd (H:Hp) (a:Addr) (u:HO):Prop:=H a=some u\/∃ o,H a=some (.frz o u)
theorem Rd.ok {P:Program} {w:World} {H:Hp} {h:Heap} {a:Addr} {u:HO} (r:Rd H a u) (x:HOk P w H h):ObjOk P w H h a u:=by
 rcases r with r | ⟨o,r⟩
 ·exact x a u r
 ·obtain ⟨_,q⟩:=x a _ r
  exact q
def Mut:Option HO->Prop
 | some (.lst _)=>True
 | some (.dK _)=>True
 | some (.dT _)=>True
 | some (.set _ _)=>True
 | some (.ins _ _ _)=>True
 | some (.ext _)=>True
 | _=>False
section
variable {P:Program} {w:World} {H:Hp} {h h':Heap} {x e:Addr} {o':HO}
theorem HOk.write (ok:HOk P w H h) (mu:Mut (H x)) (he:e=x\/H e=some (.own x)) (k:∀ b u,b≠e->h.get? b=some u->h'.get? b=some u) (heo:∃ u,h'.get? e=some u)
  (new:ObjOk P w (upd H x o') h' x o'):HOk P w (upd H x o') h':=λb u q=>by
 have nown:∀ c y,H c=some (.own y)->c≠x:=λc y r z=>by subst z;rw [r] at mu;exact mu
 have ntup:∀ c xs,H c=some (.tup xs)->c≠x:=λc xs r z=>by subst z;rw [r] at mu;exact mu
 by_cases hb:b=x
 ·subst hb;rw [Zab] at q;cases q;exact new
 ·rw [Zao hb] at q
  by_cases hbe:b=e
  ·have q':H b=some (.own x):=by
    rcases he with z | z
    ·exact absurd (hbe.trans z) hb
    ·rw [hbe];exact z
   rw [q] at q';cases q'
   obtain ⟨v,hv⟩:=heo
   exact ⟨v,by rw [hbe];exact hv⟩
  ·refine (ok b u q).stay (λc v hc r=>k c v ?_ r) (λc r=>by rw [Zao (nown c b r)];exact r) λc xs r=>by rw [Zao (ntup c xs r)];exact r
   rcases hc with rfl | hc
   ·exact hbe
   ·rintro rfl
    rcases he with z | z
    ·exact nown c b hc z
    ·rw [hc] at z;cases z;exact hb rfl
end
structure Un (fs ex:List Addr) (H H':Hp) (h h':Heap):Prop where
 keep:∀ b o,h.get? b=some o->H b=none->b ∉ fs->b ∉ ex->h'.get? b=some o
 slot:∀ b o,h.get? b=some o->H b=none->b∈fs->b ∉ ex->∃ sl,h'.get? b=some { o with slots:=sl }
 free:∀ b o,h.get? b=some o->H b=none->b ∉ ex->H' b=none
 there:∀ b o,h.get? b=some o->b ∉ ex->∃ o',h'.get? b=some o'
 tups:∀ b xs,H b=some (.tup xs)->H' b=some (.tup xs)
 frzs:∀ b o u,H b=some (.frz o u)->H' b=some (.frz o u)
 tbls:∀ b ps,H b=some (.tbl ps)->∃ more,H' b=some (.tbl (ps++more))
section
variable {fs fs' ex ex':List Addr} {H H1 H2:Hp} {h h1 h2 h':Heap} {a x e:Addr} {o:HO}
theorem Un.any (u:Un fs ex H H1 h h1) {b:Addr} {ob:Obj} (q:h.get? b=some ob) (n:H b=none) (hx:b ∉ ex):∃ sl,h1.get? b=some { ob with slots:=sl }:=by
 by_cases hb:b∈fs
 ·exact u.slot b ob q n hb hx
 ·exact ⟨ob.slots,u.keep b ob q n hb hx⟩
theorem Un.trans (a:Un fs ex H H1 h h1) (b:Un fs ex H1 H2 h1 h2):Un fs ex H H2 h h2 where
 keep:=λc ob q n hc hx=>b.keep c ob (a.keep c ob q n hc hx) (a.free c ob q n hx) hc hx
 slot:=λc ob q n hc hx=>by
  obtain ⟨sl,e1⟩:=a.slot c ob q n hc hx
  obtain ⟨sl',e2⟩:=b.slot c _ e1 (a.free c ob q n hx) hc hx
  exact ⟨sl',e2⟩
 free:=λc ob q n hx=>by
  obtain ⟨o',e1⟩:=a.there c ob q hx
  exact b.free c o' e1 (a.free c ob q n hx) hx
 there:=λc ob q hx=>by
  obtain ⟨o',e1⟩:=a.there c ob q hx
  exact b.there c o' e1 hx
 tups:=λc xs q=>b.tups c xs (a.tups c xs q)
 frzs:=λc ob xs q=>b.frzs c ob xs (a.frzs c ob xs q)
 tbls:=λc ps q=>by
  obtain ⟨m1,e1⟩:=a.tbls c ps q
  obtain ⟨m2,e2⟩:=b.tbls c _ e1
  exact ⟨m1++m2,by rw [e2,Array.append_assoc]⟩
theorem Un.kept (k:∀ b u,h.get? b=some u->h'.get? b=some u):Un fs ex H H h h':=
 ⟨λb ob q _ _ _=>k b ob q,λb ob q _ _ _=>⟨ob.slots,k b ob q⟩,λ_ _ _ n _=>n,λb ob q _=>⟨ob,k b ob q⟩,λ_ _ q=>q,λ_ _ _ q=>q,λ_ ps q=>⟨#[],by rw [q];simp⟩⟩
theorem Un.refl:Un fs ex H H h h:=Un.kept λ_ _ q=>q
theorem Un.laid (k:∀ b u,h.get? b=some u->h'.get? b=some u) (hp:h.objs.size<=a) (hn:H a=none):Un fs ex H (upd H a o) h h' where
 keep:=λb u q _ _ _=>k b u q
 slot:=λb u q _ _ _=>⟨u.slots,k b u q⟩
 free:=λb u q n _=>by rw [Zao (Nat.ne_of_lt (Nat.lt_of_lt_of_le (Heap.lt_size q) hp))];exact n
 there:=λb u q _=>⟨u,k b u q⟩
 tups:=λb xs q=>by rw [Zao (Zai q hn)];exact q
 frzs:=λb u xs q=>by rw [Zao (Zai q hn)];exact q
 tbls:=λb ps q=>⟨#[],by rw [Zao (Zai q hn),q];simp⟩
theorem Un.write (mu:Mut (H x)) (he:e=x\/H e=some (.own x)) (k:∀ b u,b≠e->h.get? b=some u->h'.get? b=some u) (heo:∃ u,h'.get? e=some u):Un fs ex H (upd H x o) h h':=by
 have hx:∀ b,H b=none->b≠x:=λb n z=>by subst z;rw [n] at mu;exact mu
 have hb:∀ b,H b=none->b≠e:=λb n z=>by
  subst z
  rcases he with r | r
  ·exact hx b n r
  ·rw [n] at r;cases r
 have hm:∀ b u,H b=some u->¬ Mut (some u)->b≠x:=λb u q nm z=>by subst z;rw [q] at mu;exact nm mu
 refine ⟨λb u q n _ _=>k b u (hb b n) q,λb u q n _ _=>⟨u.slots,k b u (hb b n) q⟩,λb u q n _=>by rw [Zao (hx b n)];exact n,λb u q _=>?_,
  λb xs q=>by rw [Zao (hm b _ q λz=>z)];exact q,λb u xs q=>by rw [Zao (hm b _ q λz=>z)];exact q,λb ps q=>⟨#[],by rw [Zao (hm b _ q λz=>z),q];simp⟩⟩
 by_cases hbe:b=e
 ·subst hbe;exact heo
 ·exact ⟨u,k b u hbe q⟩
theorem Un.mono (u:Un fs ex H H1 h h1) (hs:∀ b∈fs,b∈fs') (hx:∀ b∈ex,b∈ex'):Un fs' ex' H H1 h h1:=
 ⟨λb ob q n hb he=>u.keep b ob q n (λz=>hb (hs b z)) λz=>he (hx b z),λ_ _ q n _ he=>u.any q n λz=>he (hx _ z),λb ob q n he=>u.free b ob q n λz=>he (hx b z),λb ob q he=>u.there b ob q λz=>he (hx b z),u.tups,u.frzs,u.tbls⟩
end
def trk (h:Heap) (H:Hp):List Addr:=(List.range h.objs.size).filter λa=>(H a).isSome
def ZhX (h:Heap) (H:Hp):Heap:=PySem.W.hideAll h (trk h H)
theorem Zgu (h:Heap) (H:Hp):(ZhX h H).objs.size=h.objs.size:=PySem.W.hideAll_size _ _
theorem ZhY {h:Heap} {H:Hp} {b:Addr} {o:Obj} (e:h.get? b=some o) (n:H b=none):(ZhX h H).get? b=some o:=
 PySem.W.hideAll_get _ e λhm=>by
  have q:(H b).isSome=true:=(List.mem_filter.mp hm).2
  rw [n] at q;simp at q
theorem ZjA {h:Heap} {H:Hp} {b:Addr} {o:Obj} (e:(ZhX h H).get? b=some o):h.get? b=some o/\H b=none:=by
 have e':h.get? b=some o:=PySem.W.of_hideAll (trk h H) e
 refine ⟨e',?_⟩
 cases q:H b with
 | none=>rfl
 | some x=>
  have hm:b∈trk h H:=List.mem_filter.mpr ⟨List.mem_range.mpr (Heap.lt_size e'),by simp [q]⟩
  have z:(ZhX h H).get? b=none:=PySem.W.hideAll_none (trk h H) hm
  rw [z] at e;cases e
def ZjB (g h:Heap) (L:Addr):List (Addr×Obj):=(List.range h.objs.size).filterMap λa=>if a=L\/(g.get? a).isSome=true then none else (h.get? a).map λo=>(a,o)
def rest (g h:Heap) (L d:Addr):List (Addr×Obj):=(ZjB g h L).filter λp=>decide (p.1≠d)
end L2
namespace L2
open PySem PySem.Spec PyProof.Rows
structure Mod (K:PySem.W.Frag) (mg:Str->Option Value) (base:Heap):Prop where
 kin:K.In base
 glob:base.Ns mainGlobals mg
 blt:∃ mb,base.Ns builtinsNs mb/\∀ x:Str,x ≠ "__name__" -> mb x=bootBuiltins x
 nolimit:base.NoLimit
structure Cx where
 prog:Program
 w:World
 K:PySem.W.Frag
 mg:Str->Option Value
 base:Heap
 A:Around
 N:List Str
 s₀:Shared
 H₀:Hp
 env:Env
 outer:List Env
 stack:List Env
 ex:List Addr
 fn:Str->Bool
 calm:Bool
 pn:List (Addr×Obj)
 xe:Value->Shared->Prop
def frs (l:List Env):List Addr:=l.filterMap (·.frame)
abbrev Cx.fs (X:Cx):List Addr:=frs X.outer
def Vis (sc:Scope) (x:Str):Prop:=sc.names.lookup x=some .local\/sc.names.lookup x=some .cell\/sc.names.lookup x=some .free
def Loc (sc:Scope) (x:Str):Prop:=sc.names.lookup x=some .local\/sc.names.lookup x=some .cell
def Zn7 (env:Env) (h:Heap) (m:Str->Option Value) (x:Str) (u:Value):Prop:=
 (env.kindOf x=some .local/\m x=some u)\/((env.kindOf x=some .cell\/env.kindOf x=some .free)/\∃ c,env.cells.lookup x=some c/\h.IsCell c (some u))
structure Cx.Ok (X:Cx):Prop where
 mod:Mod X.K X.mg X.base
 kind:X.env.scope.kind=.function
 glob:X.env.globals=mainGlobals
 blt:X.env.builtins=builtinsNs
 above:X.s₀.heap.objs.size<=X.env.locals
 inj:∀ x y c,X.env.cells.lookup x=some c->X.env.cells.lookup y=some c->x=y
 has:∀ x,(X.env.kindOf x=some .cell\/X.env.kindOf x=some .free)->∃ c,X.env.cells.lookup x=some c
 cab:∀ x c,X.fn x=true->X.env.cells.lookup x=some c->X.s₀.heap.objs.size<=c
 hd:X.calm=true->X.A.handled=none
 frames:X.A.frames=some X.stack
 stk:X.stack=X.outer\/(X.stack=X.env::X.outer/\X.env.frame=some X.env.locals)
 exf:∀ b∈X.ex,b≠X.env.locals/\∀ x c,X.env.cells.lookup x=some c->c≠b
 bs:∀ b o,X.base.get? b=some o->X.s₀.heap.get? b=some o/\X.H₀ b=none
 bsz:X.base.objs.size<=X.s₀.heap.objs.size
 noex:∀ b o,X.base.get? b=some o->b ∉ X.ex
 exfs:∀ b∈X.ex,b ∉ X.fs
 funs:X.s₀.heap.FunFrames X.base X.outer
 frf:∀ b∈X.fs,X.H₀ b=none
structure Inv (X:Cx) (pins:List (Addr×Obj)) (σ:List (Option V)) (H:Hp) (s:Shared):Prop where
 ok:X.Ok
 os:s.os=X.s₀.os
 bare:AllBare s.gens
 base:Un X.fs X.ex X.H₀ H X.s₀.heap s.heap
 loc:∃ m,s.heap.Ns X.env.locals m/\∀ (i:Nat) (x:Str) (v:V),X.N[i]?=some x->σ[i]?=some (some v)->Vis X.env.scope x->∃ u,RelV v u/\Zn7 X.env s.heap m x u
 cell:∀ x c,X.env.cells.lookup x=some c->∃ v,s.heap.IsCell c v
 free:H X.env.locals=none
 freeC:∀ x c,X.env.cells.lookup x=some c->H c=none
 pin:∀ p∈X.pn++pins,s.heap.get? p.1=some p.2/\H p.1=none/\p.1≠X.env.locals/\p.1 ∉ X.fs/\∀ v,p.2.data≠.cell v
 hok:HOk X.prog X.w H s.heap
 len:σ.length=X.N.length
section
variable {X:Cx} {pins:List (Addr×Obj)} {σ:List (Option V)} {H H':Hp} {s:Shared} {h':Heap}
theorem Cx.Ok.nofr (ok:X.Ok) {b:Addr} {o:Obj} (e:X.base.get? b=some o):b ∉ X.fs:=λhb=>by
 have:=(ok.funs.mem hb).1
 rw [e] at this;cases this
theorem Inv.bs (I:Inv X pins σ H s):∀ b o,X.base.get? b=some o->s.heap.get? b=some o/\H b=none:=λb o e=>
 ⟨I.base.keep b o (I.ok.bs b o e).1 (I.ok.bs b o e).2 (I.ok.nofr e) (I.ok.noex b o e),I.base.free b o (I.ok.bs b o e).1 (I.ok.bs b o e).2 (I.ok.noex b o e)⟩
theorem Inv.bk (I:Inv X pins σ H s):∀ b o,X.base.get? b=some o->s.heap.get? b=some o:=λb o e=>(I.bs b o e).1
theorem Inv.mod (I:Inv X pins σ H s):Mod X.K X.mg X.base:=I.ok.mod
theorem Inv.kIn (I:Inv X pins σ H s):X.K.In s.heap:=I.ok.mod.kin.keeps I.bk
theorem Inv.lt (I:Inv X pins σ H s):X.env.locals<s.heap.objs.size:=let ⟨_,hn,_⟩:=I.loc;hn.lt
theorem Inv.sz (I:Inv X pins σ H s):X.s₀.heap.objs.size<=s.heap.objs.size:=Nat.le_trans I.ok.above (Nat.le_of_lt I.lt)
theorem Inv.nofs (I:Inv X pins σ H s) {a:Addr} (h:s.heap.objs.size<=a):a ∉ X.fs:=λhb=>by
 obtain ⟨_,o,ho,_⟩:=I.ok.funs.mem hb
 exact absurd (Nat.lt_of_lt_of_le (Heap.lt_size ho) (Nat.le_trans I.sz h)) (Nat.lt_irrefl _)
theorem Inv.cne (I:Inv X pins σ H s):∀ x c,X.env.cells.lookup x=some c->c≠X.env.locals:=λx c e z=>by
 obtain ⟨v,o,ho,hd⟩:=I.cell x c e
 obtain ⟨m,⟨o',es,ep,ho',hd',_⟩,_⟩:=I.loc
 rw [z,ho'] at ho;cases ho;rw [hd'] at hd;cases hd
theorem Inv.funs (I:Inv X pins σ H s):s.heap.FunFrames X.base X.outer:=by
 have all:∀ (l:List Env),(∀ b∈frs l,b∈X.fs)->X.s₀.heap.FunFrames X.base l->s.heap.FunFrames X.base l:=by
  intro l
  induction l with
  | nil=>intro _ _;trivial
  | cons env r ih=>
   intro hs hl
   obtain ⟨hk,⟨L,o,hf,hn,ho,hd⟩,hr⟩:=hl
   have hL:L∈X.fs:=hs L (by unfold frs;rw [List.filterMap_cons,hf];exact List.mem_cons_self)
   obtain ⟨sl,e⟩:=I.base.slot L o ho (I.ok.frf L hL) hL λz=>I.ok.exfs L z hL
   exact ⟨hk,⟨L,_,hf,hn,e,hd⟩,ih (λb hb=>hs b (by unfold frs;rw [List.filterMap_cons,hf];exact List.mem_cons_of_mem _ hb)) hr⟩
 exact all X.outer (λ_ hb=>hb) I.ok.funs
theorem Inv.stack (I:Inv X pins σ H s):s.heap.FunFrames X.base X.stack:=by
 rcases I.ok.stk with e | ⟨e,hf⟩
 ·rw [e];exact I.funs
 ·rw [e]
  obtain ⟨m,hn,_⟩:=I.loc
  refine .cons (by rw [I.ok.kind];decide) hf hn ?_ I.funs
  exact Heap.get?_none_of_le (Nat.le_trans I.ok.bsz I.ok.above)
theorem Inv.stkSub (I:Inv X pins σ H s):∀ b∈frs X.stack,b∈X.env.locals::X.fs:=λb hb=>by
 rcases I.ok.stk with e | ⟨e,hf⟩
 ·rw [e] at hb;exact List.mem_cons_of_mem _ hb
 ·rw [e] at hb
  unfold frs at hb
  rw [List.filterMap_cons,hf] at hb
  exact hb
theorem Inv.stkFree (I:Inv X pins σ H s):∀ b∈frs X.stack,H b=none:=λb hb=>by
 rcases List.mem_cons.mp (I.stkSub b hb) with e | hb
 ·rw [e];exact I.free
 ·obtain ⟨_,o,ho,_⟩:=I.ok.funs.mem hb
  exact I.base.free b o ho (I.ok.frf b hb) λz=>I.ok.exfs b z hb
theorem Inv.step {g':Array GenState} {t':Nat} {d':Drawn} {ch:List Addr} (I:Inv X pins σ H s)
  (hch:∀ b∈ch,(b∈X.ex\/X.s₀.heap.objs.size<=b)/\b≠X.env.locals/\(∀ x c,X.env.cells.lookup x=some c->c≠b)/\∀ p∈X.pn++pins,p.1≠b)
  (keep:∀ b o,b≠X.env.locals->b ∉ X.fs->b ∉ ch->s.heap.get? b=some o->H b=none->h'.get? b=some o)
  (slot:∀ b o,b≠X.env.locals->b∈X.fs->b ∉ ch->s.heap.get? b=some o->H b=none->∃ sl,h'.get? b=some { o with slots:=sl }) (free:∀ b o,b ∉ ch->s.heap.get? b=some o->H b=none->H' b=none)
  (there:∀ b o,b ∉ ch->s.heap.get? b=some o->∃ o',h'.get? b=some o')
  (tups:∀ b xs,H b=some (.tup xs)->H' b=some (.tup xs)) (frzs:∀ b o u,H b=some (.frz o u)->H' b=some (.frz o u)) (tbls:∀ b ps,H b=some (.tbl ps)->∃ more,H' b=some (.tbl (ps++more)))
  (ns:∀ m,s.heap.Ns X.env.locals m->h'.Ns X.env.locals m) (hok:HOk X.prog X.w H' h') (hg:AllBare g') :
  Inv X pins σ H' { s with heap:=h',gens:=g',drawn:=d',toks:=t' }:=by
 have neL:∀ b o,X.s₀.heap.get? b=some o->b≠X.env.locals:=λb o e=>Nat.ne_of_lt (Nat.lt_of_lt_of_le (Heap.lt_size e) I.ok.above)
 have neC:∀ b o,X.s₀.heap.get? b=some o->b ∉ X.ex->b ∉ ch:=λb o e hx hb=>by
  rcases (hch b hb).1 with z | z
  ·exact hx z
  ·exact absurd (Nat.lt_of_lt_of_le (Heap.lt_size e) z) (Nat.lt_irrefl _)
 have cellK:∀ x c,X.env.cells.lookup x=some c->∀ v,s.heap.IsCell c v->h'.IsCell c v:=λx c e v ⟨o,ho,hd⟩=>by
  have nch:c ∉ ch:=λz=>(hch c z).2.2.1 x c e rfl
  by_cases hc:c∈X.fs
  ·obtain ⟨sl,q⟩:=slot c o (I.cne x c e) hc nch ho (I.freeC x c e)
   exact ⟨_,q,hd⟩
  ·exact ⟨o,keep c o (I.cne x c e) hc nch ho (I.freeC x c e),hd⟩
 refine ⟨I.ok,I.os,hg,⟨λb o e n hb hx=>?_,λb o e n hb hx=>?_,λb o e n hx=>?_,λb o e hx=>?_,λb xs e=>tups b xs (I.base.tups b xs e),λb o xs e=>frzs b o xs (I.base.frzs b o xs e),λb ps e=>?_⟩,?_,λx c e=>?_,?_,λx c e=>?_,λp hp=>?_,hok,I.len⟩
 ·exact keep b o (neL b o e) hb (neC b o e hx) (I.base.keep b o e n hb hx) (I.base.free b o e n hx)
 ·obtain ⟨sl,e1⟩:=I.base.slot b o e n hb hx
  obtain ⟨sl',e2⟩:=slot b _ (neL b o e) hb (neC b o e hx) e1 (I.base.free b o e n hx)
  exact ⟨sl',e2⟩
 ·obtain ⟨o',e1⟩:=I.base.there b o e hx
  exact free b o' (neC b o e hx) e1 (I.base.free b o e n hx)
 ·obtain ⟨o',e1⟩:=I.base.there b o e hx
  exact there b o' (neC b o e hx) e1
 ·obtain ⟨m1,e1⟩:=I.base.tbls b ps e
  obtain ⟨m2,e2⟩:=tbls b _ e1
  exact ⟨m1++m2,by rw [e2,Array.append_assoc]⟩
 ·obtain ⟨m,hn,hl⟩:=I.loc
  refine ⟨m,ns m hn,λi x v e1 e2 e3=>?_⟩
  obtain ⟨u,r,l⟩:=hl i x v e1 e2 e3
  refine ⟨u,r,?_⟩
  rcases l with l | ⟨k,c,e,z⟩
  ·exact .inl l
  ·exact .inr ⟨k,c,e,cellK x c e _ z⟩
 ·obtain ⟨v,z⟩:=I.cell x c e
  exact ⟨v,cellK x c e v z⟩
 ·obtain ⟨m,⟨o,_,_,ho,_⟩,_⟩:=I.loc
  exact free _ o (λz=>(hch _ z).2.1 rfl) ho I.free
 ·obtain ⟨v,o,ho,hd⟩:=I.cell x c e
  exact free c o (λz=>(hch c z).2.2.1 x c e rfl) ho (I.freeC x c e)
 ·obtain ⟨e,n,ne,nf,d⟩:=I.pin p hp
  have nch:p.1 ∉ ch:=λz=>(hch p.1 z).2.2.2 p hp rfl
  exact ⟨keep p.1 p.2 ne nf nch e n,free p.1 p.2 nch e n,ne,nf,d⟩
theorem Inv.un {t':Nat} (I:Inv X pins σ H s) (u:Un X.fs [] H H' s.heap h') (hok:HOk X.prog X.w H' h'):Inv X pins σ H' { s with heap:=h',toks:=t' }:=by
 obtain ⟨m,⟨o,es,ep,ho,r⟩,_⟩:=id I.loc
 obtain ⟨sl,hL⟩:=u.any ho I.free (by simp)
 exact I.step (g':=s.gens) (d':=s.drawn) (ch:=[]) (λ_ z=>nomatch z) (λb o _ hb _ e n=>u.keep b o e n hb (by simp)) (λb o _ hb _ e n=>u.slot b o e n hb (by simp)) (λb o _ e n=>u.free b o e n (by simp)) (λb o _ e=>u.there b o e (by simp)) u.tups u.frzs u.tbls (λm' hm=>by
  obtain ⟨o',es',ep',ho',r'⟩:=hm
  rw [ho] at ho';cases ho'
  exact ⟨_,es',ep',hL,r'⟩) hok I.bare
theorem Inv.call {g':Array GenState} {t':Nat} {d':Drawn} {ch:List Addr} (I:Inv X pins σ H s) (u:Un (frs X.stack) ch H H' s.heap h') (hok:HOk X.prog X.w H' h') (hg:AllBare g')
  (hch:∀ b∈ch,(b∈X.ex\/X.s₀.heap.objs.size<=b)/\b≠X.env.locals/\(∀ x c,X.env.cells.lookup x=some c->c≠b)/\∀ p∈X.pn++pins,p.1≠b) :
  Inv X pins σ H' { s with heap:=h',gens:=g',drawn:=d',toks:=t' }:=by
 obtain ⟨m,⟨o,es,ep,ho,r⟩,_⟩:=id I.loc
 obtain ⟨sl,hL⟩:=u.any ho I.free λz=>(hch _ z).2.1 rfl
 exact I.step (ch:=ch) hch (λb o hL hb hc e n=>u.keep b o e n (λz=>(List.mem_cons.mp (I.stkSub b z)).elim hL hb) hc) (λb o _ _ hc e n=>u.any e n hc) (λb o hc e n=>u.free b o e n hc) (λb o hc e=>u.there b o e hc) u.tups u.frzs u.tbls (λm' hm=>by
  obtain ⟨o',es',ep',ho',r'⟩:=hm
  rw [ho] at ho';cases ho'
  exact ⟨_,es',ep',hL,r'⟩) hok hg
theorem Inv.turned {t':Nat} {it:Addr} (I:Inv X pins σ H s) (k:∀ b o,b≠it->s.heap.get? b=some o->h'.get? b=some o) (hn:H it=none) (hL:it≠X.env.locals)
  (h1:it∈X.ex\/X.s₀.heap.objs.size<=it) (h2:∀ x c,X.env.cells.lookup x=some c->c≠it) (h3:∀ p∈X.pn++pins,p.1≠it):Inv X pins σ H { s with heap:=h',toks:=t' }:=by
 have nit:∀ b u,H b=some u->b≠it:=λb u e z=>by rw [z,hn] at e;cases e
 refine I.step (g':=s.gens) (d':=s.drawn) (ch:=[it]) (λb hb=>?_) (λb o _ _ hc e _=>k b o (λz=>hc (by simp [z])) e) (λb o _ _ hc e _=>⟨o.slots,k b o (λz=>hc (by simp [z])) e⟩) (λ_ _ _ _ n=>n)
  (λb o hc e=>⟨o,k b o (λz=>hc (by simp [z])) e⟩) (λ_ _ e=>e) (λ_ _ _ e=>e) (λb ps e=>⟨#[],by rw [e];simp⟩) (λm hm=>?_) (λb u e=>?_) I.bare
 ·have e:b=it:=by simpa using hb
  subst e
  exact ⟨h1,hL,h2,h3⟩
 ·obtain ⟨o,es,ep,ho,r⟩:=hm
  exact ⟨o,es,ep,k _ o (Ne.symm hL) ho,r⟩
 ·refine (I.hok b u e).stay (λc v hc q=>k c v ?_ q) (λ_ q=>q) λ_ _ q=>q
  rcases hc with z | z
  ·rw [z];exact nit b u e
  ·exact nit c _ z
theorem Inv.tok (I:Inv X pins σ H s) (t:Nat):Inv X pins σ H { s with toks:=t }:=I.un (h':=s.heap) (t':=t) Un.refl I.hok
theorem Inv.kept {t':Nat} (I:Inv X pins σ H s) (k:∀ b u,s.heap.get? b=some u->h'.get? b=some u):Inv X pins σ H { s with heap:=h',toks:=t' }:=I.un (Un.kept k) (I.hok.kept k)
theorem Inv.laid {a:Addr} {o:HO} {t':Nat} (I:Inv X pins σ H s) (k:∀ b u,s.heap.get? b=some u->h'.get? b=some u) (hp:s.heap.objs.size<=a) (new:ObjOk X.prog X.w (upd H a o) h' a o) :
  Inv X pins σ (upd H a o) { s with heap:=h',toks:=t' }:=I.un (Un.laid k hp (I.hok.fresh hp)) (I.hok.laid k hp new)
theorem Inv.write {x e:Addr} {o:HO} {t':Nat} (I:Inv X pins σ H s) (mu:Mut (H x)) (he:e=x\/H e=some (.own x)) (k:∀ b u,b≠e->s.heap.get? b=some u->h'.get? b=some u) (heo:∃ u,h'.get? e=some u)
  (new:ObjOk X.prog X.w (upd H x o) h' x o):Inv X pins σ (upd H x o) { s with heap:=h',toks:=t' }:=I.un (Un.write mu he k heo) (I.hok.write mu he k heo new)
theorem Inv.weak {σ':List (Option V)} (I:Inv X pins σ H s) (hl:σ'.length=σ.length) (w:∀ (i:Nat) v,σ'[i]?=some (some v)->σ[i]?=some (some v)):Inv X pins σ' H s:=
 ⟨I.ok,I.os,I.bare,I.base,let ⟨m,hn,hl'⟩:=I.loc;⟨m,hn,λi x v e1 e2 e3=>hl' i x v e1 (w i v e2) e3⟩,I.cell,I.free,I.freeC,I.pin,I.hok,hl.trans I.len⟩
theorem Inv.pins_of {pins':List (Addr×Obj)} (I:Inv X pins σ H s) (h:∀ p∈pins',s.heap.get? p.1=some p.2/\H p.1=none/\p.1≠X.env.locals/\p.1 ∉ X.fs/\∀ v,p.2.data≠.cell v):Inv X pins' σ H s:=
 ⟨I.ok,I.os,I.bare,I.base,I.loc,I.cell,I.free,I.freeC,λp hp=>(List.mem_append.mp hp).elim (λz=>I.pin p (List.mem_append_left _ z)) (h p),I.hok,I.len⟩
theorem ZdB {N:List Str} (hN:N.Nodup) {i j:Nat} {x:Str} (a:N[i]?=some x) (b:N[j]?=some x):i=j:=by
 obtain ⟨h1,e1⟩:=List.getElem?_eq_some_iff.mp a
 obtain ⟨h2,e2⟩:=List.getElem?_eq_some_iff.mp b
 exact (List.getElem_inj hN).mp (e1.trans e2.symm)
theorem Zd9 {M:Model} {A:Around} {E:Value->Shared->Prop} {i:Nat} {x:Str} {v:V} {u:Value} {Q:Unit->Shared->Prop} (I:Inv X pins σ H s) (hN:X.N.Nodup) (hi:X.N[i]?=some x) (hx:Loc X.env.scope x) (r:RelV v u)
  (h:∀ s',Inv X pins (σ.set i (some v)) H s'->(∃ a,Heap.SameBut a s.heap s'.heap/\(a=X.env.locals\/X.env.cells.lookup x=some a))->Q () s') (hf:X.fn x=true\/X.env.scope.names.lookup x=some .local:=by first | exact .inl rfl | exact .inr rfl | assumption):wpAny M A (storeName X.env x u) Q E s:=by
 obtain ⟨m,hn,hl⟩:=id I.loc
 have hcls:(X.env.scope.kind == .class || (X.env.scope.kind == .module && X.env.locals != X.env.globals))=false:=by rw [I.ok.kind];rfl
 have hiσ:i<σ.length:=by rw [I.len];exact (List.getElem?_eq_some_iff.mp hi).1
 have cne:=I.cne
 have tracked:∀ {a:Addr} {h':Heap},(∃ o,s.heap.get? a=some o/\H a=none)->Heap.SameBut a s.heap h'->HOk X.prog X.w H h':=λ{a h'} ha hs b ob e=>by
  obtain ⟨_,_,hfree⟩:=ha
  refine (I.hok b ob e).stay (λc w' hc q=>(hs.2 c ?_).trans q) (λ_ q=>q) λ_ _ q=>q
  rintro rfl
  rcases hc with rfl | hc
  ·rw [hfree] at e;cases e
  ·rw [hfree] at hc;cases hc
 rcases hx with hk | hk
 ·refine wpAny_storeName_local hk hn (λh' hn' hs=>?_) hcls
  obtain ⟨oL,_,_,hoL,_⟩:=id hn
  refine h _ ⟨I.ok,I.os,I.bare,⟨λb o e n hb hx=>?_,λb o e n hb hx=>?_,I.base.free,λb o e hx=>?_,I.base.tups,I.base.frzs,I.base.tbls⟩,⟨_,hn',λj y v' e1 e2 e3=>?_⟩,λy c e=>?_,I.free,I.freeC,λp hp=>?_,tracked ⟨oL,hoL,I.free⟩ hs,by simpa using I.len⟩ ⟨_,hs,.inl rfl⟩
  ·exact (hs.2 b (Nat.ne_of_lt (Nat.lt_of_lt_of_le (Heap.lt_size e) I.ok.above))).trans (I.base.keep b o e n hb hx)
  ·obtain ⟨sl,e1⟩:=I.base.slot b o e n hb hx
   exact ⟨sl,(hs.2 b (Nat.ne_of_lt (Nat.lt_of_lt_of_le (Heap.lt_size e) I.ok.above))).trans e1⟩
  ·obtain ⟨o',e1⟩:=I.base.there b o e hx
   exact ⟨o',(hs.2 b (Nat.ne_of_lt (Nat.lt_of_lt_of_le (Heap.lt_size e) I.ok.above))).trans e1⟩
  ·by_cases hj:j=i
   ·subst hj
    rw [hi] at e1;cases e1
    rw [List.getElem?_set_self hiσ] at e2
    cases e2
    exact ⟨u,r,.inl ⟨hk,by simp⟩⟩
   ·rw [List.getElem?_set_ne (Ne.symm hj)] at e2
    obtain ⟨u',r',q⟩:=hl j y v' e1 e2 e3
    refine ⟨u',r',?_⟩
    rcases q with ⟨k,e⟩ | ⟨k,c,e,z⟩
    ·refine .inl ⟨k,?_⟩
     have:y≠x:=λe=>hj (ZdB hN e1 (e▸hi))
     simp [this,e]
    ·exact .inr ⟨k,c,e,z.sameBut hs (cne y c e)⟩
  ·obtain ⟨w',z⟩:=I.cell y c e
   exact ⟨w',z.sameBut hs (cne y c e)⟩
  ·obtain ⟨e,n,ne,nf,d⟩:=I.pin p hp
   exact ⟨(hs.2 p.1 ne).trans e,n,ne,nf,d⟩
 ·have hfn:X.fn x=true:=by
   rcases hf with z | z
   ·exact z
   ·rw [z] at hk;cases hk
  obtain ⟨c,hc⟩:=I.ok.has x (.inl hk)
  obtain ⟨w',z⟩:=I.cell x c hc
  refine wpAny_storeName_cell I.ok.kind hk hc z (λh' hc' hs=>?_)
  obtain ⟨oc,hoc,hocd⟩:=id z
  refine h { s with heap:=h' } ⟨I.ok,I.os,I.bare,⟨λb o e n hb hx=>?_,λb o e n hb hx=>?_,I.base.free,λb o e hx=>?_,I.base.tups,I.base.frzs,I.base.tbls⟩,⟨m,hn.sameBut hs (Ne.symm (cne x c hc)),λj y v' e1 e2 e3=>?_⟩,λy c' e=>?_,I.free,I.freeC,λp hp=>?_,tracked ⟨oc,hoc,I.freeC x c hc⟩ hs,by simpa using I.len⟩ ⟨c,hs,.inr hc⟩
  ·exact (hs.2 b (Nat.ne_of_lt (Nat.lt_of_lt_of_le (Heap.lt_size e) (I.ok.cab x c hfn hc)))).trans (I.base.keep b o e n hb hx)
  ·obtain ⟨sl,e1⟩:=I.base.slot b o e n hb hx
   exact ⟨sl,(hs.2 b (Nat.ne_of_lt (Nat.lt_of_lt_of_le (Heap.lt_size e) (I.ok.cab x c hfn hc)))).trans e1⟩
  ·obtain ⟨o',e1⟩:=I.base.there b o e hx
   exact ⟨o',(hs.2 b (Nat.ne_of_lt (Nat.lt_of_lt_of_le (Heap.lt_size e) (I.ok.cab x c hfn hc)))).trans e1⟩
  ·by_cases hj:j=i
   ·subst hj
    rw [hi] at e1;cases e1
    rw [List.getElem?_set_self hiσ] at e2
    cases e2
    exact ⟨u,r,.inr ⟨.inl hk,c,hc,hc'⟩⟩
   ·rw [List.getElem?_set_ne (Ne.symm hj)] at e2
    obtain ⟨u',r',q⟩:=hl j y v' e1 e2 e3
    refine ⟨u',r',?_⟩
    rcases q with q | ⟨k,c',e,z'⟩
    ·exact .inl q
    ·refine .inr ⟨k,c',e,z'.sameBut hs ?_⟩
     rintro rfl
     exact hj (ZdB hN e1 (I.ok.inj _ _ _ e hc▸hi))
  ·by_cases hcc:c'=c
   ·subst hcc;exact ⟨_,hc'⟩
   ·obtain ⟨w2,z2⟩:=I.cell y c' e
    exact ⟨w2,z2.sameBut hs hcc⟩
  ·obtain ⟨e,n,ne,nf,d⟩:=I.pin p hp
   refine ⟨(hs.2 p.1 ?_).trans e,n,ne,nf,d⟩
   intro q
   rw [q,hoc] at e
   have q':oc=p.2:=Option.some.inj e
   exact d w' (by rw [<-q'];exact hocd)
theorem ZdC {M:Model} {A:Around} {E:Value->Shared->Prop} {i:Nat} {x:Str} {v:V} {u:Value} {Q:Unit->Shared->Prop} (I:Inv X pins σ H s) (hN:X.N.Nodup) (hi:X.N[i]?=some x) (hx:Loc X.env.scope x) (r:RelV v u)
  (h:∀ s',Inv X pins (σ.set i (some v)) H s'->Q () s') (hf:X.fn x=true\/X.env.scope.names.lookup x=some .local:=by first | exact .inl rfl | exact .inr rfl | assumption):wpAny M A (storeName X.env x u) Q E s:=
 Zd9 I hN hi hx r (λs' I' _=>h s' I') hf
theorem Inv.call' {s':Shared} {ch:List Addr} (I:Inv X pins σ H s) (ho:s'.os=s.os) (u:Un (frs X.stack) ch H H' s.heap s'.heap) (hok:HOk X.prog X.w H' s'.heap) (hg:AllBare s'.gens)
  (hch:∀ b∈ch,(b∈X.ex\/X.s₀.heap.objs.size<=b)/\b≠X.env.locals/\(∀ x c,X.env.cells.lookup x=some c->c≠b)/\∀ p∈X.pn++pins,p.1≠b):Inv X pins σ H' s':=by
 obtain ⟨h',g',d',t',o'⟩:=s'
 have e:o'=s.os:=ho
 subst e
 exact I.call (g':=g') (t':=t') (d':=d') u hok hg hch
end
abbrev XK:=Value->Option Addr->Hp->Prop
abbrev St:=List (Option V)
abbrev VK:=V->Hp->Prop
abbrev TE:=St->Hp->VK->Prop
abbrev TT:=St->Hp->(Bool->Hp->Prop)->Prop
abbrev TA:=St->Hp->(List V->Hp->Prop)->Prop
structure Ends where
 nx:St->Hp->Prop
 rt:VK
 bk:St->Hp->Prop:=λ_ _=>False
 ct:St->Hp->Prop:=λ_ _=>False
abbrev TS:=Ends->St->Hp->Prop
def EP (X:Cx) (pins:List (Addr×Obj)) (σ:St) (Q:VK) (u:Value) (s':Shared):Prop:=∃ v H',Inv X pins σ H' s'/\RelV v u/\Q v H'
def TP (X:Cx) (pins:List (Addr×Obj)) (σ:St) (Q:Bool->Hp->Prop) (b:Bool) (s':Shared):Prop:=∃ H',Inv X pins σ H' s'/\Q b H'
def AP (X:Cx) (pins:List (Addr×Obj)) (σ:St) (Q:List V->Hp->Prop) (us:List Value) (s':Shared):Prop:=∃ vs H',Inv X pins σ H' s'/\Vals vs us/\Q vs H'
def SP (X:Cx) (pins:List (Addr×Obj)) (D:Ends) (f:Flow) (s':Shared):Prop:=
 match f with
 | .next=>∃ σ' H',Inv X pins σ' H' s'/\D.nx σ' H'
 | .brk=>∃ σ' H',Inv X pins σ' H' s'/\D.bk σ' H'
 | .cont=>∃ σ' H',Inv X pins σ' H' s'/\D.ct σ' H'
 | .ret u=>∃ v σ' H',Inv X pins σ' H' s'/\RelV v u/\D.rt v H'
def PE (X:Cx) (e:Expr) (t:TE):Prop:=
 ∀ (pins:List (Addr×Obj)) (s:Shared) (σ:St) (H:Hp) (Q:VK),Inv X pins σ H s->t σ H Q->wpAny (model X.prog X.w) X.A (eval e X.env) (EP X pins σ Q) X.xe s
def PT (X:Cx) (e:Expr) (t:TT):Prop:=
 ∀ (pins:List (Addr×Obj)) (s:Shared) (σ:St) (H:Hp) (Q:Bool->Hp->Prop),Inv X pins σ H s->t σ H Q->wpAny (model X.prog X.w) X.A (isTrue e X.env (eval e X.env)) (TP X pins σ Q) X.xe s
def PW (X:Cx) (e:Expr) (t:TT):Prop:=
 ∀ (whole:Sem Value) (pins:List (Addr×Obj)) (s:Shared) (σ:St) (H:Hp) (Q:Bool->Hp->Prop),Inv X pins σ H s->t σ H Q->wpAny (model X.prog X.w) X.A (isTrue e X.env whole) (TP X pins σ Q) X.xe s
theorem PW.pt {X:Cx} {e:Expr} {t:TT} (h:PW X e t):PT X e t:=h _
def PA (X:Cx) (es:List Expr) (t:TA):Prop:=
 ∀ (pos:Pos) (pins:List (Addr×Obj)) (s:Shared) (σ:St) (H:Hp) (Q:List V->Hp->Prop),Inv X pins σ H s->t σ H Q->wpAny (model X.prog X.w) X.A (spliced (backTo pos (starEach es X.env))) (AP X pins σ Q) X.xe s
def PS (X:Cx) (st:Stmt) (t:TS):Prop:=
 ∀ (pins:List (Addr×Obj)) (s:Shared) (σ:St) (H:Hp) (D:Ends),Inv X pins σ H s->t D σ H->wpAny (model X.prog X.w) X.A (exec st X.env) (SP X pins D) X.xe s
def PSs (X:Cx) (st:List Stmt) (t:TS):Prop:=
 ∀ (pins:List (Addr×Obj)) (s:Shared) (σ:St) (H:Hp) (D:Ends),Inv X pins σ H s->t D σ H->wpAny (model X.prog X.w) X.A (execs st X.env) (SP X pins D) X.xe s
theorem thn {α:Type} {t:Sem α} {Q Q':α->Shared->Prop} {M:Model} {A:Around} {E:Value->Shared->Prop} {s:Shared} (h:wpAny M A t Q E s) (hQ:∀ a s,Q a s->Q' a s):wpAny M A t Q' E s:=wpAny_mono h hQ λ_ _ x=>x
end L2
namespace L2
open PySem PySem.Spec PyProof.Rows
section
variable {X:Cx}
def Zny (i:Nat):TE:=λσ H Q=>∃ v,σ[i]?=some (some v)/\Q v H
def tC (v:V):TE:=λ_ H Q=>Q v H
theorem ZkZ {i:Nat} {x:Str} {pos:Pos} (hN:X.N[i]?=some x) (hv:Vis X.env.scope x) (hd:(x == ("__debug__" : Str))=false:=by decide) (hcd:(x == ("__classdict__" : Str))=false:=by decide):PE X (.Name x pos) (Zny i):=by
 intro pins s σ H Q I h
 obtain ⟨v,e,h⟩:=h
 obtain ⟨m,hn,hl⟩:=I.loc
 obtain ⟨u,r,l⟩:=hl i x v hN e hv
 have fin:EP X pins σ Q u s:=⟨v,H,I,r,h⟩
 rcases l with ⟨hk,hm⟩ | ⟨hk,c,hc,hcell⟩
 ·exact wpAny_Name (wpAny_loadName_local I.ok.kind hk hn hm fin) hd
 ·rcases hk with hk | hk
  ·exact wpAny_Name (wpAny_loadName_cell I.ok.kind hk hc hcell fin) hd
  ·exact wpAny_Name (wpAny_loadName_free I.ok.kind hk hc hcell fin hcd) hd
theorem Zaf {i j pos}:PE X (.Constant (.int i) j pos) (tC (.int i)):=λ_ _ _ H _ I h=>wpAny_Constant_int ⟨.int i,H,I.tok _,⟨_,rfl⟩,h⟩
theorem Zb7 {b j pos}:PE X (.Constant (.bool b) j pos) (tC (.bl b)):=λ_ _ _ H _ I h=>Constant_bool ⟨.bl b,H,I,rfl,h⟩
theorem Zb8 {j pos}:PE X (.Constant .none j pos) (tC .non):=λ_ _ _ H _ I h=>Constant_none ⟨.non,H,I,rfl,h⟩
theorem Zgv {x j pos}:PE X (.Constant (.str x) j pos) (tC (.str x)):=λ_ _ _ H _ I h=>Calls.Constant_str ⟨.str x,H,I.tok _,⟨_,rfl⟩,h⟩
def Gl (X:Cx) (x:Str):Prop:=X.env.kindOf x=some .globalImplicit
theorem ZcS {E:Value->Shared->Prop} {pins:List (Addr×Obj)} {s:Shared} {σ:St} {H:Hp} {x:Str} {u:Value} {pos:Pos} {Q:Value->Shared->Prop} (I:Inv X pins σ H s) (hg:Gl X x) (hm:X.mg x=some u) (h:Q u s)
  (hd:(x == ("__debug__" : Str))=false:=by decide):wpAny (model X.prog X.w) X.A (eval (.Name x pos) X.env) Q E s:=
 Calls.Name_function_global I.ok.kind hg (Calls.loadGlobal_global (by rw [I.ok.glob];exact I.mod.glob.keeps I.bk) hm h) hd
theorem ZcT {E:Value->Shared->Prop} {pins:List (Addr×Obj)} {s:Shared} {σ:St} {H:Hp} {x:Str} {u:Value} {pos:Pos} {Q:Value->Shared->Prop} (I:Inv X pins σ H s) (hg:Gl X x) (hm:X.mg x=none) (hv:bootBuiltins x=some u) (h:Q u s)
  (hn:x ≠ "__name__" := by decide) (hd:(x == ("__debug__" : Str))=false:=by decide):wpAny (model X.prog X.w) X.A (eval (.Name x pos) X.env) Q E s:=by
 obtain ⟨mb,h1,h2⟩:=I.mod.blt
 exact Calls.Name_function_global I.ok.kind hg (Calls.loadGlobal_builtin (by rw [I.ok.glob];exact I.mod.glob.keeps I.bk) hm (by rw [I.ok.blt];exact h1.keeps I.bk) ((h2 x hn).trans hv) h) hd
theorem ZeS {x:Str} {v:V} {u:Value} {pos:Pos} (hg:Gl X x) (hm:X.mg x=some u) (r:RelV v u) (hd:(x == ("__debug__" : Str))=false:=by decide):PE X (.Name x pos) (tC v):=
 λ_ _ _ H _ I h=>ZcS I hg hm ⟨v,H,I,r,h⟩ hd
theorem ZjC {x:Str} {v:V} {u:Value} {pos:Pos} (hg:Gl X x) (hm:X.mg x=none) (hv:bootBuiltins x=some u) (r:RelV v u) (hn:x ≠ "__name__" := by decide) (hd:(x == ("__debug__" : Str))=false:=by decide):PE X (.Name x pos) (tC v):=
 λ_ _ _ H _ I h=>ZcT I hg hm hv ⟨v,H,I,r,h⟩ hn hd
def t2I (ta tb:TE) (k:Int->Int->Hp->Prop):St->Hp->Prop:=λσ H=>ta σ H λx H1=>tb σ H1 λy H2=>∃ i j,x=.int i/\y=.int j/\k i j H2
def ZoY (ta tb:TE):TE:=λσ H Q=>t2I ta tb (λi j H2=>Q (.int (i+j)) H2) σ H
def ZoZ (ta tb:TE):TE:=λσ H Q=>t2I ta tb (λi j H2=>Q (.int (i-j)) H2) σ H
def Zo0 (ta tb:TE):TE:=λσ H Q=>t2I ta tb (λi j H2=>(-(2 ^ 64)<i/\i<2 ^ 64)/\Q (.int (i * j)) H2) σ H
variable {a b:Expr} {ta tb:TE} {pos:Pos}
def PC (X:Cx) (op:CmpOp) (a b:Expr) (t:TE):Prop:=
 ∀ (pins:List (Addr×Obj)) (s:Shared) (σ:St) (H:Hp) (Q:VK),Inv X pins σ H s->t σ H Q ->
  wpAny (model X.prog X.w) X.A (eval a X.env) (λv s₁=>wpAny (model X.prog X.w) X.A (eval b X.env) (λu s₂=>wpAny (model X.prog X.w) X.A (compareOp op v u) (EP X pins σ Q) X.xe s₂) X.xe s₁) X.xe s
def ZkT (p:Int->Int->Bool) (ta tb:TE):TE:=λσ H Q=>t2I ta tb (λi j H2=>Q (.bl (p i j)) H2) σ H
abbrev tLt:TE->TE->TE:=ZkT λi j=>decide (i<j)
abbrev tLe:TE->TE->TE:=ZkT λi j=>decide (i<=j)
abbrev tGt:TE->TE->TE:=ZkT λi j=>decide (j<i)
abbrev tGe:TE->TE->TE:=ZkT λi j=>decide (j<=i)
abbrev Zo1:TE->TE->TE:=ZkT λi j=>decide (i=j)
abbrev Zo2:TE->TE->TE:=ZkT λi j=>!decide (i=j)
def Zo3 (ta:TE):TE:=λσ H Q=>ta σ H λx H1=>Q (.bl (decide (x=.non))) H1
def Zn8 (ta:TE):TE:=λσ H Q=>ta σ H λx H1=>Q (.bl (!decide (x=.non))) H1
def tB (t:TE):TT:=λσ H Q=>t σ H λx H1=>∃ c,x=.bl c/\Q c H1
theorem ZiZ {op:CmpOp} {t:TE} (h:PC X op a b t) (h1:behindInMarks op b=false:=by first | exact nobehind _ (by decide) (by decide) | rfl):PT X (.Compare a [op] [b] pos) (tB t):=by
 intro pins s σ H Q I hw
 refine wpAny_isTrue_Compare1 (thn (h pins s σ H _ I hw) λv s1 h1=>thn h1 λu s2 h2=>thn h2 λc s3 ⟨x,H1,I1,r1,q1⟩=>?_) h1
 obtain ⟨d,rfl,q⟩:=q1
 cases r1
 exact wpAny_truthy_bool ⟨H1,I1,q⟩
theorem Zbh {e:Expr} {t:TE} (h:PE X e t) (he:∀ whole,isTrue e X.env whole=(do let v <- whole;standAt e.pos;holding [v] (truthy v)):=by intro _;rfl):PT X e (tB t):=by
 intro pins s σ H Q I hw
 refine isTrue_plain (thn (h pins s σ H _ I hw) λv s1 ⟨x,H1,I1,r1,q1⟩=>?_) (he _)
 obtain ⟨d,rfl,q⟩:=q1
 cases r1
 exact wpAny_truthy_bool ⟨H1,I1,q⟩
variable {tA tB':TT} {rest:List Expr}
def Zn9 (t u:TT):TT:=λσ H Q=>t σ H λc H1=>if c=true then u σ H1 Q else Q false H1
def tOr (t u:TT):TT:=λσ H Q=>t σ H λc H1=>if c=true then Q true H1 else u σ H1 Q
def Zoa (t:TT):TT:=λσ H Q=>t σ H λc H1=>Q (!c) H1
theorem ZeT (ha:PT X a tA):PW X (.BoolOp .And [a] pos) tA:=by
 intro wh pins s σ H Q I h
 refine isTrue_and (thn (ha pins s σ H Q I h) λc s1 e=>?_)
 cases c with
 | true=>exact isTrue_and_nil e
 | false=>exact e
theorem Zdl (ha:PT X a tA):PW X (.BoolOp .Or [a] pos) tA:=by
 intro wh pins s σ H Q I h
 refine isTrue_or (thn (ha pins s σ H Q I h) λc s1 e=>?_)
 cases c with
 | false=>exact isTrue_or_nil e
 | true=>exact e
theorem Zgw (ha:PT X a tA) (hb:PW X (.BoolOp .And (b::rest) pos) tB'):PW X (.BoolOp .And (a::b::rest) pos) (Zn9 tA tB'):=by
 intro wh pins s σ H Q I h
 refine isTrue_and (thn (ha pins s σ H _ I h) λc s1 ⟨H1,I1,q1⟩=>?_)
 cases c with
 | true=>exact hb wh pins s1 σ H1 Q I1 q1
 | false=>exact ⟨H1,I1,q1⟩
theorem Zea (ha:PT X a tA) (hb:PW X (.BoolOp .Or (b::rest) pos) tB'):PW X (.BoolOp .Or (a::b::rest) pos) (tOr tA tB'):=by
 intro wh pins s σ H Q I h
 refine isTrue_or (thn (ha pins s σ H _ I h) λc s1 ⟨H1,I1,q1⟩=>?_)
 cases c with
 | true=>exact ⟨H1,I1,q1⟩
 | false=>exact hb wh pins s1 σ H1 Q I1 q1
theorem ZbY (ha:PT X a tA):PT X (.UnaryOp .Not a pos) (Zoa tA):=by
 intro pins s σ H Q I h
 exact isTrue_not (ha pins s σ H (λc H1=>Q (!c) H1) I h)
def ZmH (ta tb:TE):TE:=λσ H Q=>ta σ H λx H1=>∃ c,x=.bl c/\if c=true then tb σ H1 Q else Q (.bl false) H1
def Zob (ta tb:TE):TE:=λσ H Q=>ta σ H λx H1=>∃ c,x=.bl c/\if c=true then Q (.bl true) H1 else tb σ H1 Q
def Zoc (ta:TE):TE:=λσ H Q=>ta σ H λx H1=>∃ c,x=.bl c/\Q (.bl (!c)) H1
theorem Zi0 {op} {t:TE} (h:PE X a t):PE X (.BoolOp op [a] pos) t:=λpins s σ H Q I hw=>BoolOp_one (h pins s σ H Q I hw)
theorem Zk0 (ha:PE X a ta) (hb:PE X (.BoolOp .And (b::rest) pos) tb):PE X (.BoolOp .And (a::b::rest) pos) (ZmH ta tb):=by
 intro pins s σ H Q I h
 refine BoolOp_and (thn (ha pins s σ H _ I h) λv s1 ⟨x,H1,I1,r1,q1⟩=>?_)
 obtain ⟨c,rfl,q1⟩:=q1
 cases r1
 refine wpAny_truthy_bool ?_
 cases c with
 | true=>exact hb pins s1 σ H1 Q I1 q1
 | false=>exact ⟨.bl false,H1,I1,rfl,q1⟩
theorem ZmI (ha:PE X a ta) (hb:PE X (.BoolOp .Or (b::rest) pos) tb):PE X (.BoolOp .Or (a::b::rest) pos) (Zob ta tb):=by
 intro pins s σ H Q I h
 refine BoolOp_or (thn (ha pins s σ H _ I h) λv s1 ⟨x,H1,I1,r1,q1⟩=>?_)
 obtain ⟨c,rfl,q1⟩:=q1
 cases r1
 refine wpAny_truthy_bool ?_
 cases c with
 | false=>exact hb pins s1 σ H1 Q I1 q1
 | true=>exact ⟨.bl true,H1,I1,rfl,q1⟩
def tIf (t:TT) (ta tb:TE):TE:=λσ H Q=>t σ H λc H1=>if c=true then ta σ H1 Q else tb σ H1 Q
end
end L2
namespace L2
open PySem PySem.Spec PyProof.Rows
def SqL (K:PySem.W.Frag) (H:Hp) (a:Addr) (xs:List V):Prop:=
 Rd H a (.lst xs) \/
  ∃ (o:Obj) (its:Array Value) (n:Nat),K.lookup a=some o/\o.cls=.type "list" /\ o.dict=none/\o.data=.seq its n/\its.size<=sizeLine/\Vals xs its.toList
def SqT (K:PySem.W.Frag) (H:Hp) (a:Addr) (xs:List V):Prop:=
 Rd H a (.tup xs) \/
  ∃ (o:Obj) (its:Array Value) (n:Nat),K.lookup a=some o/\o.cls=.type "tuple" /\ o.data=.seq its n/\its.size<=sizeLine/\Vals xs its.toList
def Zod:Value->Option V
 | .none=>some .non
 | .bool b=>some (.bl b)
 | .int i _=>some (.int i)
 | .str x _=>some (.str x)
 | .bytes b _=>some (.byt b)
 | .float b _=>some (.flt b)
 | .ref a=>some (.ref a)
 | .type n=>some (.ty n)
 | _=>none
theorem RelV.abs {x:V} {u:Value} (r:RelV x u):Zod u=some x:=by
 cases x with
 | non=>cases r;rfl
 | bl _=>cases r;rfl
 | int _=>obtain ⟨t,rfl⟩:=r;rfl
 | str _=>obtain ⟨t,rfl⟩:=r;rfl
 | byt _=>obtain ⟨t,rfl⟩:=r;rfl
 | flt _=>obtain ⟨t,rfl⟩:=r;rfl
 | ref _=>cases r;rfl
 | ty _=>cases r;rfl
theorem RelV.inj {x y:V} {u:Value} (r:RelV x u) (q:RelV y u):x=y:=Option.some.inj (r.abs.symm.trans q.abs)
theorem Vals.inj:∀ {xs ys:List V} {us:List Value},Vals xs us->Vals ys us->xs=ys
 | _,_,_,.nil,.nil=>rfl
 | _,_,_,.cons r t,.cons r' t'=>by rw [r.inj r',Vals.inj t t']
section
variable {X:Cx} {pins:List (Addr×Obj)} {σ:St} {H:Hp} {s:Shared} {a:Addr} {xs ys:List V}
theorem SqL.of {K:PySem.W.Frag} (h:H a=some (.lst xs)):SqL K H a xs:=.inl (.inl h)
theorem SqT.of {K:PySem.W.Frag} (h:H a=some (.tup xs)):SqT K H a xs:=.inl (.inl h)
theorem Inv.list (I:Inv X pins σ H s) (h:SqL X.K H a xs):∃ its:List Value,Vals xs its/\PlainL s.heap a its.toArray/\xs.length<=sizeLine:=by
 rcases h with h | ⟨o,its,n,hk,hc,hd,hs,hz,r⟩
 ·obtain ⟨z,its,n,r,e⟩:=h.ok I.hok
  exact ⟨its,r,⟨_,n,e,rfl,rfl,rfl⟩,z⟩
 ·refine ⟨its.toList,r,⟨o,n,I.kIn a o hk,hc,hd,by simpa using hs⟩,?_⟩
  have e:=r.length
  simp only [Array.length_toList] at e
  omega
theorem Inv.tuple (I:Inv X pins σ H s) (h:SqT X.K H a xs):∃ its:List Value,Vals xs its/\IsTup s.heap a its.toArray/\xs.length<=sizeLine:=by
 rcases h with h | ⟨o,its,n,hk,hc,hs,hz,r⟩
 ·obtain ⟨z,its,r,p⟩:=h.ok I.hok
  exact ⟨its,r,p,z⟩
 ·refine ⟨its.toList,r,⟨o,I.kIn a o hk,hc,n,by simpa using hs⟩,?_⟩
  have e:=r.length
  simp only [Array.length_toList] at e
  omega
theorem Inv.list_inj (I:Inv X pins σ H s) (h:SqL X.K H a xs) (h':SqL X.K H a ys):xs=ys:=by
 obtain ⟨its,r,⟨o,n,e,_,_,d⟩,_⟩:=I.list h
 obtain ⟨its',r',⟨o',n',e',_,_,d'⟩,_⟩:=I.list h'
 rw [e] at e';cases e'
 rw [d] at d'
 injection d' with d1 _
 have:its=its':=by simpa using congrArg Array.toList d1
 subst this
 exact r.inj r'
end
abbrev Cx.wish (X:Cx) (E:Value->Shared->Prop):Cx:={ X with xe:=E }
abbrev Cx.nox (X:Cx):Cx:=X.wish λ_ _=>False
theorem Cx.Ok.wish {X:Cx} (ok:X.Ok) (E:Value->Shared->Prop):(X.wish E).Ok:=
 ⟨ok.mod,ok.kind,ok.glob,ok.blt,ok.above,ok.inj,ok.has,ok.cab,ok.hd,ok.frames,ok.stk,ok.exf,ok.bs,ok.bsz,ok.noex,ok.exfs,ok.funs,ok.frf⟩
theorem Cx.Ok.unwish {X:Cx} {E:Value->Shared->Prop} (ok:(X.wish E).Ok):X.Ok:=
 ⟨ok.mod,ok.kind,ok.glob,ok.blt,ok.above,ok.inj,ok.has,ok.cab,ok.hd,ok.frames,ok.stk,ok.exf,ok.bs,ok.bsz,ok.noex,ok.exfs,ok.funs,ok.frf⟩
section
variable {X:Cx} {pins:List (Addr×Obj)} {σ:St} {H:Hp} {s:Shared} {E:Value->Shared->Prop}
theorem Inv.wish (I:Inv X pins σ H s) (E:Value->Shared->Prop):Inv (X.wish E) pins σ H s:=⟨I.ok.wish E,I.os,I.bare,I.base,I.loc,I.cell,I.free,I.freeC,I.pin,I.hok,I.len⟩
theorem Inv.unwish (I:Inv (X.wish E) pins σ H s):Inv X pins σ H s:=⟨I.ok.unwish,I.os,I.bare,I.base,I.loc,I.cell,I.free,I.freeC,I.pin,I.hok,I.len⟩
theorem SP.unwish {D:Ends} {f:Flow} {s':Shared} (h:SP (X.wish E) pins D f s'):SP X pins D f s':=by
 cases f with
 | next=>obtain ⟨σ',H',I,q⟩:=h;exact ⟨σ',H',I.unwish,q⟩
 | brk=>obtain ⟨σ',H',I,q⟩:=h;exact ⟨σ',H',I.unwish,q⟩
 | cont=>obtain ⟨σ',H',I,q⟩:=h;exact ⟨σ',H',I.unwish,q⟩
 | ret u=>obtain ⟨v,σ',H',I,r,q⟩:=h;exact ⟨v,σ',H',I.unwish,r,q⟩
theorem PSs.nox {st:List Stmt} {t:TS} (h:PSs X.nox st t):PSs X st t:=λpins s σ H D I hw=>
 wpAny_mono (h pins s σ H D (I.wish _) hw) (λ_ _ q=>q.unwish) λ_ _ z=>False.elim z
end
section
variable {X:Cx} {st:Stmt} {rest:List Stmt} {t u:TS} {e:Expr} {te:TE} {pos:Pos}
def ZhZ:TS:=λD σ H=>D.nx σ H
def Znz (t u:TS):TS:=λD σ H=>t { D with nx:=u D } σ H
theorem ZaA:PSs X [] ZhZ:=λ_ _ σ H _ I h=>wpAny_execs_nil ⟨σ,H,I,h⟩
theorem Zae (h1:PS X st t) (h2:PSs X rest u):PSs X (st::rest) (Znz t u):=by
 intro pins s σ H D I h
 refine wpAny_execs_cons (thn (h1 pins s σ H { D with nx:=u D } I h) λf s1 q=>?_)
 cases f with
 | next=>
  obtain ⟨σ',H',I',q⟩:=q
  exact h2 pins s1 σ' H' D I' q
 | ret v=>exact q
 | brk=>exact q
 | cont=>exact q
theorem Zag (h1:PS X st t):PSs X [st] t:=by
 intro pins s σ H D I h
 refine wpAny_execs_cons (thn (h1 pins s σ H D I h) λf s1 q=>?_)
 cases f with
 | next=>exact wpAny_execs_nil q
 | ret v=>exact q
 | brk=>exact q
 | cont=>exact q
def ZnA:TS:=λD σ H=>D.bk σ H
def Zoe:TS:=λD σ H=>D.ct σ H
theorem Inv.quiet {pins:List (Addr×Obj)} {σ:St} {H:Hp} {s:Shared} (I:Inv X pins σ H s):interactive X.env=false:=by simp [interactive,I.ok.kind]
def ZmJ (te:TE):TS:=λD σ H=>te σ H λ_ H1=>D.nx σ H1
theorem ZaX (he:PE X e te) (hs:swapsWith e none pos.line X.env=pure false:=by rfl):PS X (.Expr e pos) (ZmJ te):=by
 intro pins s σ H D I h
 exact wpAny_Expr_any (thn (he pins s σ H _ I h) λv s1 ⟨x,H1,I1,r1,q1⟩=>⟨σ,H1,I1,q1⟩) I.quiet hs
def Zof (te:TE):TS:=λD σ H=>te σ H D.rt
theorem Zay (he:PE X e te):PS X (.Return (some e) pos) (Zof te):=by
 intro pins s σ H D I h
 exact wpAny_Return_some (thn (he pins s σ H _ I h) λv s1 ⟨x,H1,I1,r1,q1⟩=>⟨x,σ,H1,I1,r1,q1⟩)
def Zog:TS:=λD _ H=>D.rt .non H
def Zoh (c:TT) (t u:TS):TS:=λD σ H=>c σ H λb H1=>if b=true then t D σ H1 else u D σ H1
theorem Za1 {c:Expr} {a b:List Stmt} {tc:TT} (hc:PT X c tc) (ha:PSs X a t) (hb:PSs X b u):PS X (.If c a b pos) (Zoh tc t u):=by
 intro pins s σ H D I h
 refine wpAny_If (thn (hc pins s σ H _ I h) λd s1 ⟨H1,I1,q1⟩=>?_)
 cases d with
 | true=>exact ha pins s1 σ H1 D I1 q1
 | false=>exact hb pins s1 σ H1 D I1 q1
def ZnB:TS:=λ_ _ _=>False
end
abbrev TG:=V->St->Hp->(St->Hp->Prop)->Prop
abbrev TGs:=List V->St->Hp->(St->Hp->Prop)->Prop
def PG (X:Cx) (target:Expr) (t:TG):Prop:=
 ∀ (pins:List (Addr×Obj)) (s:Shared) (σ:St) (H:Hp) (v:V) (u:Value) (Q:St->Hp->Prop),Inv X pins σ H s->RelV v u->t v σ H Q ->
  wpAny (model X.prog X.w) X.A (assign target X.env u) (λ_ s'=>∃ σ' H',Inv X pins σ' H' s'/\Q σ' H') X.xe s
def PGs (X:Cx) (ts:List Expr) (t:TGs):Prop:=
 ∀ (pins:List (Addr×Obj)) (s:Shared) (σ:St) (H:Hp) (vs:List V) (us:List Value) (Q:St->Hp->Prop),Inv X pins σ H s->Vals vs us->t vs σ H Q ->
  wpAny (model X.prog X.w) X.A (assignInOrder ((assignEach ts X.env).map (·.2)) us) (λ_ s'=>∃ σ' H',Inv X pins σ' H' s'/\Q σ' H') X.xe s
abbrev Zmy:=V->V->V->Hp->(Hp->Prop)->Prop
def ZnC (X:Cx) (t:Zmy):Prop:=
 ∀ (pins:List (Addr×Obj)) (s:Shared) (σ:St) (H:Hp) (o i v:V) (ov iv u:Value) (Q:Hp->Prop),Inv X pins σ H s->RelV o ov->RelV i iv->RelV v u->t o i v H Q ->
  wpAny (model X.prog X.w) X.A (setItem ov iv u) (λ_ s'=>∃ H',Inv X pins σ H' s'/\Q H') X.xe s
abbrev TIp:=V->V->Hp->VK->Prop
def PIp (X:Cx) (op:Operator) (t:TIp):Prop:=
 ∀ (pins:List (Addr×Obj)) (s:Shared) (σ:St) (H:Hp) (x y:V) (v u:Value) (Q:VK),Inv X pins σ H s->RelV x v->RelV y u->t x y H Q ->
  wpAny (model X.prog X.w) X.A (inplaceOp op v u) (EP X pins σ Q) X.xe s
section
variable {X:Cx} {pos:Pos}
def Zdg (i:Nat):TG:=λv σ H Q=>Q (σ.set i (some v)) H
theorem Zat {i:Nat} {x:Str} (hN:X.N.Nodup) (hi:X.N[i]?=some x) (hx:Loc X.env.scope x) (hf:X.fn x=true\/X.env.scope.names.lookup x=some .local:=by first | exact .inl rfl | exact .inr rfl | assumption):PG X (.Name x pos) (Zdg i):=by
 intro pins s σ H v u Q I r h
 exact wpAny_assign_Name (ZdC I hN hi hx r (λs' I'=>⟨_,H,I',h⟩) hf)
def Zoi:TGs:=λvs σ H Q=>vs=[]/\Q σ H
def ZmK (t:TG) (u:TGs):TGs:=λvs σ H Q=>∃ v r,vs=v::r/\t v σ H λσ' H'=>u r σ' H' Q
theorem ZcU:PGs X [] Zoi:=by
 intro pins s σ H vs us Q I r h
 obtain ⟨e,h⟩:=h
 subst e
 cases r
 exact assignInOrder_nil ⟨σ,H,I,h⟩
theorem Za4 {e:Expr} {es:List Expr} {t:TG} {u:TGs} (h1:PG X e t) (h2:PGs X es u)
  (hs:(assignEach (e::es) X.env).map (·.2)=assign e X.env::(assignEach es X.env).map (·.2):=by rfl):PGs X (e::es) (ZmK t u):=by
 intro pins s σ H vs us Q I r h
 obtain ⟨v,vr,e1,h⟩:=h
 subst e1
 cases r with
 | cons r rr=>
  rw [hs]
  refine assignInOrder_cons (thn (h1 pins s σ H _ _ _ I r h) λ_ s1 ⟨σ1,H1,I1,q1⟩=>?_)
  exact h2 pins s1 σ1 H1 _ _ Q I1 rr q1
def ZnD (K:PySem.W.Frag) (n:Nat) (t:TGs):TG:=λv σ H Q=>∃ a xs,v=.ref a/\SqT K H a xs/\xs.length=n/\t xs σ H Q
theorem Zk1 {es:List Expr} {k:Nat} {t:TGs} {n:Nat} (hc:X.calm=true) (h:PGs X es t)
  (hn:(assignEach es X.env).length=n:=by rfl) (hst:(assignEach es X.env).findIdx? (·.1)=none:=by rfl):PG X (.Tuple es k pos) (ZnD X.K n t):=by
 intro pins s σ H v u Q I r hw
 obtain ⟨a,xs,e1,hq,hl,hw⟩:=hw
 subst e1
 cases r
 obtain ⟨its,rv,ht,hz⟩:=I.tuple hq
 refine assign_Tuple_tuple (I.ok.hd hc) ht (by simp [hn,<-hl,rv.length]) hst λh' hx=>?_
 have I1:Inv X pins σ H { s with heap:=h' }:=I.kept (t':=s.toks) λb o e=>hx b o (Nat.ne_of_lt (Heap.lt_size e)) e
 exact h pins _ σ H xs _ Q I1 (by simpa using rv) hw
def Zoj (to ti:TE) (t:Zmy):TG:=λv σ H Q=>to σ H λo H1=>ti σ H1 λi H2=>t o i v H2 λH3=>Q σ H3
theorem Zk2 {o i:Expr} {to ti:TE} {t:Zmy} (ho:PE X o to) (hi:PE X i ti) (hs:ZnC X t)
  (ha:∀ v,assign (.Subscript o i pos) X.env v=(do
   let ov <- holding [v] (eval o X.env)
   let iv <- holding [v,ov] (eval i X.env)
   standAt pos
   holding [v,ov,iv] (setItem ov iv v)
   release [v,ov,iv] []):=by intro _;rfl):PG X (.Subscript o i pos) (Zoj to ti t):=by
 intro pins s σ H v u Q I r h
 rw [ha]
 refine wpAny_bind (wpAny_holding (thn (ho pins s σ H _ I h) λov s1 ⟨x,H1,I1,r1,q1⟩=>?_))
 refine wpAny_bind (wpAny_holding (thn (hi pins s1 σ H1 _ I1 q1) λiv s2 ⟨y,H2,I2,r2,q2⟩=>?_))
 refine wpAny_bind (wpAny_standAt (wpAny_bind (wpAny_holding (thn (hs pins s2 σ H2 x y v ov iv u _ I2 r1 r2 r q2) λ_ s3 ⟨H3,I3,q3⟩=>?_))))
 exact wpAny_release ⟨σ,H3,I3,q3⟩
def ZmL (te:TE) (g:TG):TS:=λD σ H=>te σ H λx H1=>g x σ H1 D.nx
theorem Zgx {tg e:Expr} {te:TE} {g:TG} (he:PE X e te) (hg:PG X tg g) (hs:swapsWithSole [tg] e pos.line X.env=pure false:=by rfl) (hw:swappedStores [tg] e X.env=pure none:=by rfl)
  (h1:(assignEach [tg] X.env).map (·.2)=[assign tg X.env]:=by rfl):PS X (.Assign [tg] e pos) (ZmL te g):=by
 intro pins s σ H D I h
 refine wpAny_Assign_stores (thn (he pins s σ H _ I h) λv s1 ⟨x,H1,I1,r1,q1⟩=>?_) hs hw
 rw [h1]
 exact thn (hg pins s1 σ H1 x v _ I1 r1 q1) λ_ s2 q=>q
theorem Zau {i:Nat} {x:Str} {e:Expr} {te:TE} {pos':Pos} (hN:X.N.Nodup) (hi:X.N[i]?=some x) (hx:Loc X.env.scope x) (he:PE X e te) (hs:swapsWith e (some (.Name x pos')) pos.line X.env=pure false:=by rfl) (hf:X.fn x=true\/X.env.scope.names.lookup x=some .local:=by first | exact .inl rfl | exact .inr rfl | assumption) :
  PS X (.Assign [.Name x pos'] e pos) (ZmL te (Zdg i)):=by
 intro pins s σ H D I h
 refine wpAny_Assign_Name (thn (he pins s σ H _ I h) λv s1 ⟨y,H1,I1,r1,q1⟩=>?_) hs
 exact ZdC I1 hN hi hx r1 (λs2 I2=>⟨_,H1,I2,q1⟩) hf
def Zo4 (i j:Nat) (ta:TA):TS:=λD σ H=>ta σ H λvs H1=>∃ v w,vs=[v,w]/\D.nx ((σ.set i (some v)).set j (some w)) H1
def Zo5 (i:Nat) (te:TE) (ti:TIp):TS:=λD σ H=>∃ x,σ[i]?=some (some x)/\te σ H λy H1=>ti x y H1 λz H2=>D.nx (σ.set i (some z)) H2
def Zok (to ti te:TE) (tget:V->V->Hp->VK->Prop) (tip:TIp) (tset:Zmy):TS:=λD σ H=>to σ H λo H1=>ti σ H1 λi H2=>tget o i H2 λx H3=>te σ H3 λy H4=>tip x y H4 λz H5=>tset o i z H5 λH6=>D.nx σ H6
def Zo6 (X:Cx) (t:V->V->Hp->VK->Prop):Prop:=
 ∀ (pins:List (Addr×Obj)) (s:Shared) (σ:St) (H:Hp) (o i:V) (ov iv:Value) (Q:VK),Inv X pins σ H s->RelV o ov->RelV i iv->t o i H Q ->
  wpAny (model X.prog X.w) X.A (getItem ov iv) (EP X pins σ Q) X.xe s
def ipI (f:Int->Int->Int):TIp:=λx y H Q=>∃ i j,x=.int i/\y=.int j/\Q (.int (f i j)) H
end
section
variable {X:Cx} {pos:Pos}
def Zk3 (c:TT) (tb:TS):TS:=λD σ H=>∃ W:Nat->St->Hp->Prop,(∃ m,W m σ H)/\∀ m σ H,W m σ H ->
 c σ H λb H1=>if b=true then ∃ N:St->Hp->Prop,(∀ σ' H',N σ' H'->∃ m',m'<m/\W m' σ' H')/\tb { D with nx:=N,ct:=N,bk:=D.nx } σ H1 else D.nx σ H1
theorem ZdD {c:Expr} {body:List Stmt} {tc:TT} {tb:TS} (hp:PassesOwn (model X.prog X.w) X.A X.env X.xe) (hc:PT X c tc) (hb:PSs X body tb):PS X (.While c body [] pos) (Zk3 tc tb):=by
 intro pins s σ H D I h
 obtain ⟨W,⟨m0,w0⟩,turn⟩:=h
 refine wpAny_While (codeAny_whileLoop (λn s'=>∃ σ' H',Inv X pins σ' H' s'/\W n σ' H') ?_ m0 ⟨σ,H,I,w0⟩)
 rintro n s1 ⟨σ1,H1,I1,w1⟩
 refine wpAny_passesOwn hp (thn (hc pins s1 σ1 H1 _ I1 (turn n σ1 H1 w1)) λb s2 ⟨H2,I2,q2⟩=>?_)
 cases b with
 | true=>
  obtain ⟨N,hN,q2⟩:=q2
  rw [if_pos rfl]
  refine wpAny_passesOwn hp (thn (hb pins s2 σ1 H2 _ I2 q2) λf s3 q3=>?_)
  cases f with
  | next=>
   obtain ⟨σ3,H3,I3,n3⟩:=q3
   obtain ⟨m',hm,w3⟩:=hN σ3 H3 n3
   exact ⟨m',hm,σ3,H3,I3,w3⟩
  | cont=>
   obtain ⟨σ3,H3,I3,n3⟩:=q3
   obtain ⟨m',hm,w3⟩:=hN σ3 H3 n3
   exact ⟨m',hm,σ3,H3,I3,w3⟩
  | brk=>exact q3
  | ret v=>exact q3
 | false=>
  rw [if_neg Bool.false_ne_true]
  exact wpAny_execs_nil ⟨σ1,H2,I2,q2⟩
end
structure It where
 go:Nat->Hp->Prop
 yld:Nat->Hp->V->Hp->Prop
 stop:Nat->Hp->Prop
def ZhU (X:Cx) (pins:List (Addr×Obj)) (H:Hp) (b:Addr):Prop:=
 H b=none/\b≠X.env.locals/\b ∉ X.fs/\(b∈X.ex\/X.s₀.heap.objs.size<=b)/\(∀ x c,X.env.cells.lookup x=some c->c≠b)/\∀ p∈X.pn++pins,p.1≠b
theorem Inv.fpOk {X:Cx} {pins:List (Addr×Obj)} {σ:St} {H H':Hp} {s:Shared} {b:Addr} (I:Inv X pins σ H s) (hb:s.heap.objs.size<=b) (hn:H' b=none):ZhU X pins H' b:=by
 refine ⟨hn,Nat.ne_of_gt (Nat.lt_of_lt_of_le I.lt hb),I.nofs hb,.inr (Nat.le_trans I.sz hb),λx c e z=>?_,λp hp z=>?_⟩
 ·obtain ⟨v,q⟩:=I.cell x c e
  exact absurd (Nat.lt_of_lt_of_le q.lt (by rw [z];exact hb)) (Nat.lt_irrefl _)
 ·exact absurd (Nat.lt_of_lt_of_le (Heap.lt_size (I.pin p hp).1) (by rw [z];exact hb)) (Nat.lt_irrefl _)
structure Zk4 (P:Program) (w:World) (K:PySem.W.Frag) (tg:Expr) (J:It) (fp:List Addr) (it:Addr) (tn:Nat->Heap->Prop):Prop where
 mem:it∈fp
 obj:∀ i h,tn i h->∀ b∈fp,∃ o,h.get? b=some o/\∀ v,o.data≠.cell v
 keep:∀ i h h',tn i h->(∀ b∈fp,∀ o,h.get? b=some o->h'.get? b=some o)->tn i h'
 item:∀ (X:Cx),X.prog=P->X.w=w->X.K=K->X.calm=true->∀ (i:Nat) (pins:List (Addr×Obj)) (s:Shared) (σ:St) (H:Hp) (E:Value->Shared->Prop),Inv X pins σ H s->(∀ b∈fp,ZhU X pins H b)->tn i s.heap->J.go i H ->
  wpAny (model P w) X.A (pyNext (.ref it)) (λr s1=>∃ u,r=some u /\
   wpAny (model P w) X.A (letOwnedTupleGo tg (.ref it) u) (λ_ s2=>∃ x H',Inv X pins σ H' s2/\RelV x u/\J.yld i H x H'/\tn (i+1) s2.heap/\∀ b∈fp,H' b=none) E s1) E s
 done:∀ (X:Cx),X.prog=P->X.w=w->X.K=K->X.calm=true->∀ (i:Nat) (pins:List (Addr×Obj)) (s:Shared) (σ:St) (H:Hp) (E:Value->Shared->Prop),Inv X pins σ H s->(∀ b∈fp,ZhU X pins H b)->tn i s.heap->J.stop i H ->
  wpAny (model P w) X.A (pyNext (.ref it)) (λr s1=>r=none/\Inv X pins σ H s1) E s
 self:∀ (A:Around) (i:Nat) (s:Shared) (Q:Value->Shared->Prop) (E:Value->Shared->Prop),tn i s.heap->Q (.ref it) s->wpAny (model P w) A (pyIter (.ref it)) Q E s
abbrev TI:=St->Hp->(It->Hp->Prop)->Prop
def PIE (X:Cx) (pins:List (Addr×Obj)) (σ:St) (tg:Expr) (R:It->Hp->Prop) (itv:Value) (s2:Shared):Prop:=
 ∃ (it:Addr) (fp:List Addr) (tn:Nat->Heap->Prop) (J:It) (H':Hp),itv=.ref it/\Inv X pins σ H' s2/\Zk4 X.prog X.w X.K tg J fp it tn/\tn 0 s2.heap/\(∀ b∈fp,ZhU X pins H' b)/\R J H'
def PI (X:Cx) (tg iter:Expr) (wi:TI):Prop:=
 ∀ (pins:List (Addr×Obj)) (s:Shared) (σ:St) (H:Hp) (R:It->Hp->Prop),Inv X pins σ H s->wi σ H R ->
  wpAny (model X.prog X.w) X.A (eval iter X.env) (λv s1=>wpAny (model X.prog X.w) X.A (pyIter v) (PIE X pins σ tg R) X.xe s1) X.xe s
theorem Zk5 {M:Model} {A:Around} {E:Value->Shared->Prop} {s:Shared} {tg:Expr} {it:Addr} {u:Value} {o:Obj} {n:String} {vs:Array Value} {Q:Unit->Shared->Prop} (ho:s.heap.get? it=some o) (hc:o.cls=.type n) (hd:o.data=.fields vs)
  (hn:["enumerate", "zip", "dict_itemiterator", "dict_reverseitemiterator", "odict_iterator", "itertools.zip_longest", "itertools.pairwise"].contains n=false) (hQ:Q () s):wpAny M A (letOwnedTupleGo tg (.ref it) u) Q E s:=by
 unfold letOwnedTupleGo
 cases tg <;> first
  | exact wpAny_pure hQ
  | (cases u <;> first
    | exact wpAny_pure hQ
    | (refine wpAny_bind (wpAny_load ho ?_)
       rw [hc,hd]
       show wpAny M A (if (["enumerate", "zip", "dict_itemiterator", "dict_reverseitemiterator", "odict_iterator", "itertools.zip_longest", "itertools.pairwise"].contains n && vs[0]? == some (rawInt _))=true then _ else _) Q E s
       rw [if_neg (by intro h;rw [hn,Bool.false_and] at h;cases h)]
       exact wpAny_pure hQ))
def Itl (K:PySem.W.Frag) (a:Addr):It:=
 ⟨λi H=>∃ xs x,SqL K H a xs/\xs[i]?=some x,λi H x H'=>H'=H/\∀ xs,SqL K H a xs->xs[i]?=some x,λi H=>∃ xs,SqL K H a xs/\xs.length<=i⟩
def Itt (K:PySem.W.Frag) (a:Addr):It:=
 ⟨λi H=>∃ xs x,SqT K H a xs/\xs[i]?=some x,λi H x H'=>H'=H/\∀ xs,SqT K H a xs->xs[i]?=some x,λi H=>∃ xs,SqT K H a xs/\xs.length<=i⟩
def Itr (lo:Int) (n:Nat):It:=⟨λi _=>i<n,λi H x H'=>H'=H/\x=.int (lo+i),λi _=>n<=i⟩
theorem Zgy {P:Program} {w:World} {K:PySem.W.Frag} {tg:Expr} (a it:Addr):Zk4 P w K tg (Itl K a) [it] it (λi h=>h.IsListIter it a i) where
 mem:=by simp
 obj:=λi h st b hb=>by
  have e:b=it:=by simpa using hb
  subst e
  obtain ⟨o,e,c,d⟩:=st
  exact ⟨o,e,λv z=>by rw [d] at z;cases z⟩
 keep:=λi h h' st k=>st.at λo e=>k it (by simp) o e
 item:=by
  intro X hP hw hK hc i pins s σ H E I hf st hg
  subst hP hw hK
  obtain ⟨xs,x,hq,hx⟩:=hg
  obtain ⟨its,rv,p,hz⟩:=I.list hq
  obtain ⟨u,hu,ru⟩:=rv.get hx
  obtain ⟨f0,f1,f2,f3,f4,f5⟩:=hf it (by simp)
  refine wpAny_pyNext_list_item st p.isList (x:=u) (by simpa using hu) λh' st' sb=>?_
  have I1:Inv X pins σ H { s with heap:=h' }:=I.turned (t':=s.toks) (λb o hb e=>(sb.2 b hb).trans e) f0 f1 f3 f4 f5
  obtain ⟨o,e,c,d⟩:=id st'
  exact ⟨u,rfl,Zk5 (s:={ s with heap:=h' }) e c d (by decide) ⟨x,H,I1,ru,⟨rfl,λys hy=>by rw [I.list_inj hy hq];exact hx⟩,st',λb hb=>(hf b hb).1⟩⟩
 done:=by
  intro X hP hw hK hc i pins s σ H E I hf st hg
  subst hP hw hK
  obtain ⟨xs,hq,hx⟩:=hg
  obtain ⟨its,rv,p,hz⟩:=I.list hq
  obtain ⟨f0,f1,f2,f3,f4,f5⟩:=hf it (by simp)
  have hl:=rv.length
  exact wpAny_pyNext_list_end (I.ok.hd hc) st p.isList (by simp;omega) λh' eb=>⟨rfl,I.turned (t':=s.toks) (λb o hb e=>eb b o hb e) f0 f1 f3 f4 f5⟩
 self:=λ_ _ _ _ _ st h=>wpAny_pyIter_listiter st h
theorem ZfZ {P:Program} {w:World} {K:PySem.W.Frag} {tg:Expr} (it:Addr) (lo:Int) (n:Nat):Zk4 P w K tg (Itr lo n) [it] it (λi h=>IsRangeIter h it (lo+(i:Nat) * 1) ((n:Int)-(i:Nat)) 1) where
 mem:=by simp
 obj:=λi h st b hb=>by
  have e:b=it:=by simpa using hb
  subst e
  exact ⟨_,st,λv z=>by
   have z':Data.fields _=Data.cell v:=z
   cases z'⟩
 keep:=λi h h' st k=>k it (by simp) _ st
 item:=by
  intro X hP hw hK hc i pins s σ H E I hf st hg
  subst hP hw hK
  obtain ⟨f0,f1,f2,f3,f4,f5⟩:=hf it (by simp)
  have W:=Walks.range (prog:=X.prog) (w:=X.w) (I.ok.hd hc) it lo 1 n
  refine W.item i s _ _ hg st λv h' tk hv st' kk=>?_
  obtain ⟨t,rfl⟩:=hv
  have I1:Inv X pins σ H { s with heap:=h',toks:=tk }:=I.turned (λb o hb e=>kk b o (by simpa using hb) e) f0 f1 f3 f4 f5
  refine ⟨_,rfl,Zk5 (s:={ s with heap:=h',toks:=tk }) (n := "range_iterator") st' rfl rfl (by decide) ⟨.int (lo+i),H,I1,⟨t,?_⟩,⟨rfl,rfl⟩,st',λb hb=>(hf b hb).1⟩⟩
  rw [Int.mul_one]
 done:=by
  intro X hP hw hK hc i pins s σ H E I hf st hg
  subst hP hw hK
  obtain ⟨f0,f1,f2,f3,f4,f5⟩:=hf it (by simp)
  exact wpAny_pyNext_range_end (I.ok.hd hc) st (by have:n<=i:=hg;omega) λh' eb=>⟨rfl,I.turned (t':=s.toks) (λb o hb e=>eb b o hb e) f0 f1 f3 f4 f5⟩
 self:=λ_ _ _ _ _ st h=>wpAny_pyIter_rangeiter st h
end L2
namespace L2
open PySem PySem.Spec PyProof.Rows
section
variable {X:Cx} {tg:Expr}
def Zk6 (K:PySem.W.Frag) (tl:TE):TI:=λσ H R=>tl σ H λx H1=>∃ a,x=.ref a/\(∃ xs,SqL K H1 a xs)/\R (Itl K a) H1
def Zo7 (K:PySem.W.Frag) (tl:TE):TI:=λσ H R=>tl σ H λx H1=>∃ a,x=.ref a/\(∃ xs,SqT K H1 a xs)/\R (Itt K a) H1
theorem ZjD {l:Expr} {tl:TE} (hl:PE X l tl):PI X tg l (Zk6 X.K tl):=by
 intro pins s σ H R I h
 refine thn (hl pins s σ H _ I h) λv s1 ⟨x,H1,I1,r1,q1⟩=>?_
 obtain ⟨a,e,⟨xs,hq⟩,q⟩:=q1
 subst e
 cases r1
 obtain ⟨its,rv,p,hz⟩:=I1.list hq
 refine wpAny_pyIter_list p.isList ?_
 refine ⟨s1.heap.objs.size,[s1.heap.objs.size],_,_,H1,rfl,I1.kept (t':=s1.toks) λb o e=>Heap.get?_push_of_some _ e,Zgy a _,⟨_,Heap.get?_push_size _ rfl,rfl,rfl⟩,λb hb=>?_,q⟩
 have e:b=s1.heap.objs.size:=by simpa using hb
 subst e
 exact I1.fpOk (Nat.le_refl _) (I1.hok.fresh (Nat.le_refl _))
theorem Zh0 {pins:List (Addr×Obj)} {σ:St} {H:Hp} {s:Shared} {R:It->Hp->Prop} {E:Value->Shared->Prop} {lo hi:Int} {t u v:Tok} {tk:Nat} (I:Inv X pins σ H s) (h1:-(2 ^ 62)<=lo) (h2:lo<2 ^ 62) (h3:-(2 ^ 62)<=hi) (h4:hi<2 ^ 62)
  (q:R (Itr lo (hi-lo).toNat) H):wpAny (model X.prog X.w) X.A (pyIter (.ref s.heap.objs.size)) (PIE X pins σ tg R) E { s with heap:=s.heap.push { cls:=.type "range", data:=.fields #[.int lo t,.int hi u,.int 1 v] },toks:=tk }:=by
 refine wpAny_pyIter_range (IsRange.new ..) (small_one h1 h2 h3 h4) ?_
 have I1:Inv X pins σ H { s with heap:=s.heap.push { cls:=.type "range", data:=.fields #[.int lo t,.int hi u,.int 1 v] },toks:=tk }:=I.kept λb o e=>Heap.get?_push_of_some _ e
 refine ⟨(s.heap.push { cls:=.type "range", data:=.fields #[.int lo t,.int hi u,.int 1 v] }).objs.size,[(s.heap.push { cls:=.type "range", data:=.fields #[.int lo t,.int hi u,.int 1 v] }).objs.size],_,_,H,rfl,
  I1.kept (t':=tk) λb o e=>Heap.get?_push_of_some _ e,ZfZ _ lo (hi-lo).toNat,?_,λb hb=>?_,q⟩
 ·have e1:lo+((0:Nat):Int) * 1=lo:=by simp
  have e2:(((hi-lo).toNat:Nat):Int)-((0:Nat):Int)=Builtin.Range.rangeSize lo hi 1:=by rw [rangeSize_one];split <;> omega
  show IsRangeIter _ _ (lo+((0:Nat):Int) * 1) ((((hi-lo).toNat:Nat):Int)-((0:Nat):Int)) 1
  rw [e1,e2]
  exact Heap.get?_push_size _ rfl
 ·have e:b=(s.heap.push { cls:=.type "range", data:=.fields #[.int lo t,.int hi u,.int 1 v] }).objs.size:=by simpa using hb
  subst e
  exact I1.fpOk (Nat.le_refl _) (I1.hok.fresh (Nat.le_refl _))
def ZmM (ta:TA):TI:=λσ H R=>ta σ H λvs H1=>∃ j:Int,vs=[.int j]/\-(2 ^ 62)<=j/\j<2 ^ 62/\R (Itr 0 j.toNat) H1
def Zol (ta:TA):TI:=λσ H R=>ta σ H λvs H1=>∃ i j:Int,vs=[.int i,.int j]/\(-(2 ^ 62)<=i/\i<2 ^ 62/\-(2 ^ 62)<=j/\j<2 ^ 62)/\R (Itr i (j-i).toNat) H1
theorem ZaQ {a:Expr} {ta:TA} {p pos:Pos} (hg:Gl X "range") (hm:X.mg "range" = none) (ha:PA X [a] ta) (hs:starEach [a] X.env=[(false,eval a X.env)]:=by rfl):PI X tg (.Call (.Name "range" p) [a] [] pos) (ZmM ta):=by
 intro pins s σ H R I h
 refine Call_ (ZcT I hg hm boot_range (PyProof.Rows.callWith_type1 (thn (ha pos pins s σ H _ I h) λus s1 ⟨vs,H1,I1,r1,q1⟩=>?_) hs rfl))
 obtain ⟨j,e,q1,q2,q⟩:=q1
 subst e
 cases r1 with
 | cons r rr=>
  cases rr
  obtain ⟨t,rfl⟩:=r
  exact call_range_1 (Zh0 I1 (by omega) (by omega) q1 q2 (by simpa using q))
def Zom (wi:TI) (g:TG) (tb:TS):TS:=λD σ H=>wi σ H λJ H1=>∃ W:Nat->Nat->St->Hp->Prop,(∃ m,W 0 m σ H1)/\∀ i m σ H,W i m σ H ->
 (J.stop i H/\D.nx σ H)\/(J.go i H/\∃ N:St->Hp->Prop,(∀ σ' H',N σ' H'->∃ m',m'<m/\W (i+1) m' σ' H')/\∀ x H',J.yld i H x H'->g x σ H' λσ2 H2=>tb { D with nx:=N,ct:=N,bk:=D.nx } σ2 H2)
def Zeb (fp:List Addr) (h:Heap):List (Addr×Obj):=fp.filterMap λb=>(h.get? b).map λo=>(b,o)
theorem ZbJ {fp:List Addr} {h:Heap} {b:Addr} {o:Obj} (hb:b∈fp) (e:h.get? b=some o):(b,o)∈Zeb fp h:=List.mem_filterMap.mpr ⟨b,hb,by rw [e];rfl⟩
theorem Zgz {fp:List Addr} {h:Heap} {p:Addr×Obj} (hp:p∈Zeb fp h):p.1∈fp/\h.get? p.1=some p.2:=by
 obtain ⟨b,hb,e⟩:=List.mem_filterMap.mp hp
 cases q:h.get? b with
 | none=>rw [q] at e;cases e
 | some o=>
  rw [q] at e
  have e':(b,o)=p:=Option.some.inj e
  subst e'
  exact ⟨hb,q⟩
theorem Inv.pinned {pins:List (Addr×Obj)} {σ:St} {H:Hp} {s:Shared} {fp:List Addr} (I:Inv X pins σ H s) (hf:∀ b∈fp,ZhU X pins H b) (ho:∀ b∈fp,∃ o,s.heap.get? b=some o/\∀ v,o.data≠.cell v):Inv X (pins++Zeb fp s.heap) σ H s:=
 I.pins_of λp hp=>(List.mem_append.mp hp).elim (λz=>I.pin p (List.mem_append_right _ z)) λz=>by
  obtain ⟨hb,e⟩:=Zgz z
  obtain ⟨f0,f1,f2,_⟩:=hf p.1 hb
  obtain ⟨o,e',d⟩:=ho p.1 hb
  rw [e] at e';cases e'
  exact ⟨e,f0,f1,f2,d⟩
theorem Inv.unpinned {pins pl:List (Addr×Obj)} {σ:St} {H:Hp} {s:Shared} (I:Inv X (pins++pl) σ H s):Inv X pins σ H s:=I.pins_of λp hp=>I.pin p (List.mem_append_right _ (List.mem_append_left _ hp))
theorem Zbi {iter:Expr} {body:List Stmt} {wi:TI} {g:TG} {tb:TS} {pos:Pos} (hp:PassesOwn (model X.prog X.w) X.A X.env X.xe) (hc:X.calm=true) (hi:PI X tg iter wi) (hg:PG X tg g) (hb:PSs X body tb)
  (hs:∀ x,foldedSetIterable iter X.env x=pure x:=by intro _;rfl):PS X (.For tg iter body [] pos) (Zom wi g tb):=by
 intro pins s σ H D I h
 refine wpAny_For (thn (hi pins s σ H _ I h) λv s1 h1=>thn h1 λitv s2 h2=>?_) hs
 obtain ⟨it,fp,tn,J,H2,e,I2,T,st2,f2,W,⟨m0,w0⟩,turn⟩:=h2
 subst e
 have stat:∀ {H':Hp},(∀ b∈fp,H' b=none)->∀ b∈fp,ZhU X pins H' b:=λhn b hb=>⟨hn b hb,(f2 b hb).2⟩
 refine codeAny_forLoop_any (λn s'=>∃ i σ' H',Inv X pins σ' H' s'/\tn i s'.heap/\(∀ b∈fp,H' b=none)/\W i n σ' H') ?_ m0 ⟨0,σ,H2,I2,st2,λb hb=>(f2 b hb).1,w0⟩
 rintro n s3 ⟨i,σ3,H3,I3,st3,fr3,w3⟩
 rcases turn i n σ3 H3 w3 with ⟨stop,qn⟩ | ⟨go,N,hN,step⟩
 ·refine wpAny_passesOwn hp (thn (T.done X rfl rfl rfl hc i pins s3 σ3 H3 X.xe I3 (stat fr3) st3 stop) λr s4 ⟨hr,I4⟩=>?_)
  subst hr
  exact wpAny_execs_nil ⟨σ3,H3,I4,qn⟩
 ·refine wpAny_passesOwn hp (thn (T.item X rfl rfl rfl hc i pins s3 σ3 H3 X.xe I3 (stat fr3) st3 go) λr s4 ⟨u,hr,h4⟩=>?_)
  subst hr
  refine wpAny_passesOwn hp (thn h4 λ_ s5 ⟨x,H5,I5,r5,y5,st5,fr5⟩=>?_)
  have I5':=I5.pinned (stat fr5) (T.obj _ _ st5)
  refine wpAny_passesOwn hp (thn (hg _ s5 σ3 H5 x u _ I5' r5 (step x H5 y5)) λ_ s6 ⟨σ6,H6,I6,q6⟩=>?_)
  refine wpAny_passesOwn hp (thn (hb _ s6 σ6 H6 _ I6 q6) λf s7 q7=>?_)
  have again:∀ {σ7:St} {H7:Hp},Inv X (pins++Zeb fp s5.heap) σ7 H7 s7->N σ7 H7->∃ m,m<n/\∃ i σ' H',Inv X pins σ' H' s7/\tn i s7.heap/\(∀ b∈fp,H' b=none)/\W i m σ' H':=λ{σ7 H7} I7 n7=>by
   obtain ⟨m',hm,w7⟩:=hN σ7 H7 n7
   refine ⟨m',hm,i+1,σ7,H7,I7.unpinned,T.keep _ _ _ st5 λb hb o e=>(I7.pin (b,o) (List.mem_append_right _ (List.mem_append_right _ (ZbJ hb e)))).1,λb hb=>?_,w7⟩
   obtain ⟨o,e,d⟩:=T.obj _ _ st5 b hb
   exact (I7.pin (b,o) (List.mem_append_right _ (List.mem_append_right _ (ZbJ hb e)))).2.1
  cases f with
  | next=>obtain ⟨σ7,H7,I7,n7⟩:=q7;exact again I7 n7
  | cont=>obtain ⟨σ7,H7,I7,n7⟩:=q7;exact again I7 n7
  | brk=>obtain ⟨σ7,H7,I7,q7⟩:=q7;exact ⟨σ7,H7,I7.unpinned,q7⟩
  | ret v=>obtain ⟨x7,σ7,H7,I7,r7,q7⟩:=q7;exact ⟨x7,σ7,H7,I7.unpinned,r7,q7⟩
end
theorem Zb9 {K:PySem.W.Frag} {a:Addr} {xs:List V} {g:TG} {tb:TS} {D:Ends} {σ:St} {H:Hp} (Pv:Nat->St->Hp->Prop) (h0:Pv 0 σ H) (hl:∀ i σ H,i<=xs.length->Pv i σ H->SqL K H a xs)
  (hs:∀ i x σ H,xs[i]?=some x->Pv i σ H->g x σ H λσ2 H2=>tb { D with nx:=Pv (i+1),ct:=Pv (i+1),bk:=D.nx } σ2 H2) (hd:∀ σ H,Pv xs.length σ H->D.nx σ H) :
  ∃ W:Nat->Nat->St->Hp->Prop,(∃ m,W 0 m σ H)/\∀ i m σ H,W i m σ H ->
   ((Itl K a).stop i H/\D.nx σ H)\/((Itl K a).go i H/\∃ N:St->Hp->Prop,(∀ σ' H',N σ' H'->∃ m',m'<m/\W (i+1) m' σ' H')/\∀ x H',(Itl K a).yld i H x H'->g x σ H' λσ2 H2=>tb { D with nx:=N,ct:=N,bk:=D.nx } σ2 H2):=by
 refine ⟨λi m σ H=>m=xs.length-i/\i<=xs.length/\Pv i σ H,⟨xs.length,by simp,Nat.zero_le _,h0⟩,?_⟩
 rintro i m σ H ⟨rfl,hi,p⟩
 have q:=hl i σ H hi p
 by_cases hlt:i<xs.length
 ·refine .inr ⟨⟨xs,xs[i],q,by simp [hlt]⟩,Pv (i+1),λσ' H' p'=>⟨xs.length-(i+1),by omega,rfl,hlt,p'⟩,λx H' y=>?_⟩
  obtain ⟨e,y⟩:=y
  subst e
  exact hs i x σ _ (y xs q) p
 ·have e:i=xs.length:=by omega
  subst e
  exact .inl ⟨⟨xs,q,Nat.le_refl _⟩,hd σ H p⟩
theorem Zbc {lo:Int} {n:Nat} {g:TG} {tb:TS} {D:Ends} {σ:St} {H:Hp} (Pv:Nat->St->Hp->Prop) (h0:Pv 0 σ H)
  (hs:∀ i σ H,i<n->Pv i σ H->g (.int (lo+i)) σ H λσ2 H2=>tb { D with nx:=Pv (i+1),ct:=Pv (i+1),bk:=D.nx } σ2 H2) (hd:∀ σ H,Pv n σ H->D.nx σ H) :
  ∃ W:Nat->Nat->St->Hp->Prop,(∃ m,W 0 m σ H)/\∀ i m σ H,W i m σ H ->
   ((Itr lo n).stop i H/\D.nx σ H)\/((Itr lo n).go i H/\∃ N:St->Hp->Prop,(∀ σ' H',N σ' H'->∃ m',m'<m/\W (i+1) m' σ' H')/\∀ x H',(Itr lo n).yld i H x H'->g x σ H' λσ2 H2=>tb { D with nx:=N,ct:=N,bk:=D.nx } σ2 H2):=by
 refine ⟨λi m σ H=>m=n-i/\i<=n/\Pv i σ H,⟨n,by simp,Nat.zero_le _,h0⟩,?_⟩
 rintro i m σ H ⟨rfl,hi,p⟩
 by_cases hlt:i<n
 ·refine .inr ⟨hlt,Pv (i+1),λσ' H' p'=>⟨n-(i+1),by omega,rfl,hlt,p'⟩,λx H' y=>?_⟩
  obtain ⟨e,y⟩:=y
  subst e y
  exact hs i σ _ hlt p
 ·have e:i=n:=by omega
  subst e
  exact .inl ⟨Nat.le_refl _,hd σ H p⟩
end L2
namespace L2
open PySem PySem.Spec PyProof.Rows
abbrev R2:=V->V->Hp->VK->Prop
def OpR (X:Cx) (f:Value->Value->Sem Value) (r:R2):Prop:=
 ∀ (pins:List (Addr×Obj)) (s:Shared) (σ:St) (H:Hp) (x y:V) (v u:Value) (Q:VK),Inv X pins σ H s->RelV x v->RelV y u->r x y H Q ->
  wpAny (model X.prog X.w) X.A (f v u) (EP X pins σ Q) X.xe s
def UnR (X:Cx) (f:Value->Sem Value) (r:V->Hp->VK->Prop):Prop:=
 ∀ (pins:List (Addr×Obj)) (s:Shared) (σ:St) (H:Hp) (x:V) (v:Value) (Q:VK),Inv X pins σ H s->RelV x v->r x H Q ->
  wpAny (model X.prog X.w) X.A (f v) (EP X pins σ Q) X.xe s
def ZbW (X:Cx) (f:Value) (r:List V->Hp->VK->Prop):Prop:=
 ∀ (pins:List (Addr×Obj)) (s:Shared) (σ:St) (H:Hp) (xs:List V) (us:List Value) (Q:VK),Inv X pins σ H s->Vals xs us->r xs H Q ->
  wpAny (model X.prog X.w) X.A (call f us) (EP X pins σ Q) X.xe s
def Zon (X:Cx) (r:V->Hp->(Bool->Hp->Prop)->Prop):Prop:=
 ∀ (pins:List (Addr×Obj)) (s:Shared) (σ:St) (H:Hp) (x:V) (v:Value) (Q:Bool->Hp->Prop),Inv X pins σ H s->RelV x v->r x H Q ->
  wpAny (model X.prog X.w) X.A (truthy v) (TP X pins σ Q) X.xe s
def tOp (r:R2) (ta tb:TE):TE:=λσ H Q=>ta σ H λx H1=>tb σ H1 λy H2=>r x y H2 Q
def tUn (r:V->Hp->VK->Prop) (ta:TE):TE:=λσ H Q=>ta σ H λx H1=>r x H1 Q
def rI (C:Int->Int->Prop) (g:Int->Int->V):R2:=λx y H Q=>∃ i j,x=.int i/\y=.int j/\C i j/\Q (g i j) H
def rI0 (g:Int->Int->V):R2:=λx y H Q=>∃ i j,x=.int i/\y=.int j/\Q (g i j) H
def rU (g:Int->V):V->Hp->VK->Prop:=λx H Q=>∃ i,x=.int i/\Q (g i) H
section
variable {X:Cx} {a b c:Expr} {ta tb tc:TE} {pos:Pos}
theorem ZmN (ha:PE X a ta) (hb:PE X b tb) {pins:List (Addr×Obj)} {s:Shared} {σ:St} {H:Hp} {R:V->V->Hp->Prop} (I:Inv X pins σ H s)
  (h:ta σ H λx H1=>tb σ H1 λy H2=>R x y H2) {Q:Value->Shared->Prop} {f:Value->Value->Sem Value}
  (hf:∀ v u s2 x y H2,Inv X pins σ H2 s2->RelV x v->RelV y u->R x y H2->wpAny (model X.prog X.w) X.A (f v u) Q X.xe s2) :
  wpAny (model X.prog X.w) X.A (eval a X.env) (λv s₁=>wpAny (model X.prog X.w) X.A (eval b X.env) (λu s₂=>wpAny (model X.prog X.w) X.A (f v u) Q X.xe s₂) X.xe s₁) X.xe s:=by
 refine thn (ha pins s σ H _ I h) λv s1 ⟨x,H1,I1,r1,q1⟩=>?_
 refine thn (hb pins s1 σ H1 _ I1 q1) λu s2 ⟨y,H2,I2,r2,q2⟩=>?_
 exact hf v u s2 x y H2 I2 r1 r2 q2
theorem Zav {op:Operator} {r:R2} (ho:OpR X (binaryOp op) r) (ha:PE X a ta) (hb:PE X b tb):PE X (.BinOp a op b pos) (tOp r ta tb):=by
 intro pins s σ H Q I h
 exact wpAny_BinOp (ZmN ha hb I h λv u s2 x y H2 I2 rx ry q=>ho pins s2 σ H2 x y v u Q I2 rx ry q)
theorem Zec {op:UnaryOp} {r:V->Hp->VK->Prop} (ho:UnR X (unaryOp op) r) (ha:PE X a ta):PE X (.UnaryOp op a pos) (tUn r ta):=by
 intro pins s σ H Q I h
 exact UnaryOp_ (thn (ha pins s σ H _ I h) λv s1 ⟨x,H1,I1,r1,q1⟩=>ho pins s1 σ H1 x v Q I1 r1 q1)
theorem opI {f:Value->Value->Sem Value} {C:Int->Int->Prop} {g:Int->Int->Int}
  (rule:∀ (i j:Int) (t u:Tok) (s:Shared) (Q:Value->Shared->Prop) (E:Value->Shared->Prop),C i j->Q (.int (g i j) s.toks) { s with toks:=s.toks+1 }->wpAny (model X.prog X.w) X.A (f (.int i t) (.int j u)) Q E s) :
  OpR X f (rI C λi j=>.int (g i j)):=by
 intro pins s σ H x y v u Q I rx ry h
 obtain ⟨i,j,rfl,rfl,hc,q⟩:=h
 obtain ⟨t,rfl⟩:=rx
 obtain ⟨t',rfl⟩:=ry
 exact rule i j t t' s _ _ hc ⟨.int (g i j),H,I.tok _,⟨_,rfl⟩,q⟩
theorem ZmO {f:Value->Value->Sem Value} {g:Int->Int->Int}
  (rule:∀ (i j:Int) (t u:Tok) (s:Shared) (Q:Value->Shared->Prop) (E:Value->Shared->Prop),Q (.int (g i j) s.toks) { s with toks:=s.toks+1 }->wpAny (model X.prog X.w) X.A (f (.int i t) (.int j u)) Q E s) :
  OpR X f (rI0 λi j=>.int (g i j)):=by
 intro pins s σ H x y v u Q I rx ry h
 obtain ⟨i,j,rfl,rfl,q⟩:=h
 obtain ⟨t,rfl⟩:=rx
 obtain ⟨t',rfl⟩:=ry
 exact rule i j t t' s _ _ ⟨.int (g i j),H,I.tok _,⟨_,rfl⟩,q⟩
theorem Zmz {f:Value->Value->Sem Value} {g:Int->Int->Bool}
  (rule:∀ (i j:Int) (t u:Tok) (s:Shared) (Q:Value->Shared->Prop) (E:Value->Shared->Prop),Q (.bool (g i j)) s->wpAny (model X.prog X.w) X.A (f (.int i t) (.int j u)) Q E s) :
  OpR X f (rI0 λi j=>.bl (g i j)):=by
 intro pins s σ H x y v u Q I rx ry h
 obtain ⟨i,j,rfl,rfl,q⟩:=h
 obtain ⟨t,rfl⟩:=rx
 obtain ⟨t',rfl⟩:=ry
 exact rule i j t t' s _ _ ⟨.bl (g i j),H,I,rfl,q⟩
def Zo8 (i j:Int):Prop:=0<j/\j<1073741824
def Zoo (i j:Int):Prop:=j≠0/\j.natAbs<1073741824
def ZnE (i j:Int):Prop:=0<=j/\j<=1000000/\i.natAbs<2 ^ 64
def CMul (i j:Int):Prop:=(-(2 ^ 64)<i/\i<2 ^ 64)\/(-(2 ^ 64)<j/\j<2 ^ 64)
theorem CMul.ok {i j:Int} (h:CMul i j):IntMulOk i j:=by
 rcases h with ⟨h1,h2⟩ | ⟨h1,h2⟩
 ·exact .of_left (intBits_le_64 h1 h2)
 ·exact .of_right (intBits_le_64 h1 h2)
theorem Zf0 (k:Nat):(0:Int)<=2 ^ k:=by
 rw [two_pow_cast]
 exact Int.natCast_nonneg _
theorem ZaK:OpR X (binaryOp .Add) (rI0 λi j=>.int (i+j)):=ZmO λ_ _ _ _ _ _ _ q=>add_int q
theorem ZcV:OpR X (binaryOp .Sub) (rI0 λi j=>.int (i-j)):=ZmO λ_ _ _ _ _ _ _ q=>sub_int q
theorem ZgA:OpR X (binaryOp .Mult) (rI CMul λi j=>.int (i * j)):=opI λ_ _ _ _ _ _ _ hc q=>mul_int q hc.ok
theorem Zed:OpR X (binaryOp .Mod) (rI (λ_ j=>0<j) λi j=>.int (i % j)):=opI λi j _ _ _ _ _ hc q=>by
 have h1:(0:Int)<j:=hc
 exact mod_int' (by omega) (by rw [Int.fmod_eq_emod_of_nonneg i (by omega)];exact q)
theorem Zca:OpR X (binaryOp .Pow) (rI ZnE λi j=>.int (i ^ j.toNat)):=opI λ_ _ _ _ _ _ _ hc q=>pow_int_small hc.1 hc.2.1 hc.2.2 q
theorem Zk7:OpR X (binaryOp .LShift) (rI ZnE λi j=>.int (i * 2 ^ j.toNat)):=opI λ_ _ _ _ _ _ _ hc q=>lshift_int_small hc.1 hc.2.1 hc.2.2 q
theorem Zk8:OpR X (binaryOp .RShift) (rI (λ_ j=>0<=j) λi j=>.int (i / 2 ^ j.toNat)):=opI λi j _ _ _ _ _ hc q=>
 rshift_int hc (by rw [Int.fdiv_eq_ediv_of_nonneg i (Zf0 _)];exact q)
theorem Zk9:OpR X (binaryOp .BitAnd) (rI0 λi j=>.int (Builtin.bitAnd i j)):=ZmO λ_ _ _ _ _ _ _ q=>and_int q
end
def ZnF:V->V->Bool
 | .non,.non=>true | .non,.int _=>true | .int _,.non=>true | .non,.bl _=>true | .bl _,.non=>true | .non,.str _=>true | .str _,.non=>true
 | .int _,.int _=>true | .bl _,.bl _=>true | .str _,.str _=>true | .byt _,.byt _=>true
 | .int _,.str _=>true | .str _,.int _=>true | .bl _,.str _=>true | .str _,.bl _=>true
 | _,_=>false
def rEq:R2:=λx y H Q=>ZnF x y=true/\Q (.bl (decide (x=y))) H
def rNe:R2:=λx y H Q=>ZnF x y=true/\Q (.bl (!decide (x=y))) H
theorem ZgB {i j:Int}:decide (V.int i=V.int j)=(i == j):=by
 rw [Bool.eq_iff_iff]
 simp
theorem Zi1 {i j:Bool}:decide (V.bl i=V.bl j)=(i == j):=by
 rw [Bool.eq_iff_iff]
 simp
theorem ZgC {i j:Str}:decide (V.str i=V.str j)=(i == j):=by
 rw [Bool.eq_iff_iff]
 simp
theorem ZgD {i j:Array UInt8}:decide (V.byt i=V.byt j)=(i.toList == j.toList):=by
 rw [Bool.eq_iff_iff]
 cases i
 cases j
 simp
section
variable {X:Cx} {a b c:Expr} {ta tb tc:TE} {pos:Pos}
theorem ZaE {pins:List (Addr×Obj)} {σ:St} {H:Hp} {s:Shared} {Q:VK} {k k':Bool} (I:Inv X pins σ H s) (q:Q (.bl k) H) (e:k=k'):EP X pins σ Q (.bool k') s:=by
 subst e
 exact ⟨.bl k,H,I,rfl,q⟩
theorem Zdh:OpR X (compareOp .Eq) rEq:=by
 intro pins s σ H x y v u Q I rx ry h
 obtain ⟨hs,q⟩:=h
 cases x with
 | non=>
  cases rx
  cases y with
  | non=>cases ry;exact PySem.EqNone.eq_none_none (ZaE I q (by simp))
  | bl j=>cases ry;exact PySem.EqNone.eq_none_bool (ZaE I q (by simp))
  | int j=>obtain ⟨t',rfl⟩:=ry;exact PySem.EqNone.eq_none_int (ZaE I q (by simp))
  | str j=>obtain ⟨t',rfl⟩:=ry;exact PySem.EqNone.eq_none_str (ZaE I q (by simp))
  | _=>exact absurd (show false=true from hs) Bool.false_ne_true
 | bl i=>
  cases rx
  cases y with
  | non=>cases ry;exact PySem.EqNone.eq_bool_none (ZaE I q (by simp))
  | bl j=>cases ry;exact eq_bool (ZaE I q Zi1)
  | str j=>obtain ⟨t',rfl⟩:=ry;exact PySem.EqMixed.eq_bool_str (ZaE I q (by simp))
  | _=>exact absurd (show false=true from hs) Bool.false_ne_true
 | int i=>
  obtain ⟨t,rfl⟩:=rx
  cases y with
  | non=>cases ry;exact PySem.EqNone.eq_int_none (ZaE I q (by simp))
  | int j=>obtain ⟨t',rfl⟩:=ry;exact eq_int (ZaE I q ZgB)
  | str j=>obtain ⟨t',rfl⟩:=ry;exact PySem.EqMixed.eq_int_str (ZaE I q (by simp))
  | _=>exact absurd (show false=true from hs) Bool.false_ne_true
 | str i=>
  obtain ⟨t,rfl⟩:=rx
  cases y with
  | non=>cases ry;exact PySem.EqNone.eq_str_none (ZaE I q (by simp))
  | bl j=>cases ry;exact PySem.EqMixed.eq_str_bool (ZaE I q (by simp))
  | int j=>obtain ⟨t',rfl⟩:=ry;exact PySem.EqMixed.eq_str_int (ZaE I q (by simp))
  | str j=>obtain ⟨t',rfl⟩:=ry;exact eq_str (ZaE I q ZgC)
  | _=>exact absurd (show false=true from hs) Bool.false_ne_true
 | byt i=>
  obtain ⟨t,rfl⟩:=rx
  cases y with
  | byt j=>obtain ⟨t',rfl⟩:=ry;exact PySem.W.eq_bytes (ZaE I q ZgD)
  | _=>exact absurd (show false=true from hs) Bool.false_ne_true
 | _=>cases y <;> exact absurd (show false=true from hs) Bool.false_ne_true
theorem ZjE:OpR X (compareOp .NotEq) rNe:=by
 intro pins s σ H x y v u Q I rx ry h
 obtain ⟨hs,q⟩:=h
 cases x with
 | non=>
  cases rx
  cases y with
  | non=>cases ry;exact PySem.EqNone.ne_none_none (ZaE I q (by simp))
  | bl j=>cases ry;exact PySem.EqNone.ne_none_bool (ZaE I q (by simp))
  | int j=>obtain ⟨t',rfl⟩:=ry;exact PySem.EqNone.ne_none_int (ZaE I q (by simp))
  | str j=>obtain ⟨t',rfl⟩:=ry;exact PySem.EqNone.ne_none_str (ZaE I q (by simp))
  | _=>exact absurd (show false=true from hs) Bool.false_ne_true
 | bl i=>
  cases rx
  cases y with
  | non=>cases ry;exact PySem.EqNone.ne_bool_none (ZaE I q (by simp))
  | bl j=>cases ry;exact ne_bool (ZaE I q (congrArg not Zi1))
  | str j=>obtain ⟨t',rfl⟩:=ry;exact PySem.EqMixed.ne_bool_str (ZaE I q (by simp))
  | _=>exact absurd (show false=true from hs) Bool.false_ne_true
 | int i=>
  obtain ⟨t,rfl⟩:=rx
  cases y with
  | non=>cases ry;exact PySem.EqNone.ne_int_none (ZaE I q (by simp))
  | int j=>obtain ⟨t',rfl⟩:=ry;exact ne_int (ZaE I q (congrArg not ZgB))
  | str j=>obtain ⟨t',rfl⟩:=ry;exact PySem.EqMixed.ne_int_str (ZaE I q (by simp))
  | _=>exact absurd (show false=true from hs) Bool.false_ne_true
 | str i=>
  obtain ⟨t,rfl⟩:=rx
  cases y with
  | non=>cases ry;exact PySem.EqNone.ne_str_none (ZaE I q (by simp))
  | bl j=>cases ry;exact PySem.EqMixed.ne_str_bool (ZaE I q (by simp))
  | int j=>obtain ⟨t',rfl⟩:=ry;exact PySem.EqMixed.ne_str_int (ZaE I q (by simp))
  | str j=>obtain ⟨t',rfl⟩:=ry;exact ne_str (ZaE I q (congrArg not ZgC))
  | _=>exact absurd (show false=true from hs) Bool.false_ne_true
 | byt i=>
  obtain ⟨t,rfl⟩:=rx
  cases y with
  | byt j=>obtain ⟨t',rfl⟩:=ry;exact PySem.W.ne_bytes (ZaE I q (congrArg not ZgD))
  | _=>exact absurd (show false=true from hs) Bool.false_ne_true
 | _=>cases y <;> exact absurd (show false=true from hs) Bool.false_ne_true
theorem Zf1:OpR X (compareOp .Lt) (rI0 λi j=>.bl (decide (i<j))):=Zmz λ_ _ _ _ _ _ _ q=>lt_int q
theorem Zla:OpR X (compareOp .LtE) (rI0 λi j=>.bl (decide (i<=j))):=Zmz λ_ _ _ _ _ _ _ q=>le_int q
theorem Zlb:OpR X (compareOp .Gt) (rI0 λi j=>.bl (decide (j<i))):=Zmz λ_ _ _ _ _ _ _ q=>gt_int q
theorem ZjF:OpR X (compareOp .GtE) (rI0 λi j=>.bl (decide (j<=i))):=Zmz λ_ _ _ _ _ _ _ q=>ge_int q
theorem ZgE:OpR X (compareOp .IsNot) (λx y H Q=>y=.non/\Q (.bl (!decide (x=.non))) H):=by
 intro pins s σ H x y v u Q I rx ry h
 obtain ⟨rfl,q⟩:=h
 cases ry
 refine isnot_none_gen (ZaE I q ?_)
 cases x <;> first
  | (cases rx;rfl)
  | (obtain ⟨t,rfl⟩:=rx;rfl)
def Zop:HO->Bool
 | .lst _=>true
 | .ins _ _ _=>true
 | _=>false
theorem ZaD (b:Expr) {op:CmpOp} (h:op≠.In:=by decide) (h2:op≠.NotIn:=by decide):behindInMarks op b=false:=by
 have e1:(op == CmpOp.In)=false:=by cases op <;> first | rfl | exact absurd rfl h
 have e2:(op == CmpOp.NotIn)=false:=by cases op <;> first | rfl | exact absurd rfl h2
 cases b <;> simp [behindInMarks,e1,e2]
theorem Zcz {op:CmpOp} {r:R2} (ho:OpR X (compareOp op) r) (ha:PE X a ta) (hb:PE X b tb) (hm:behindInMarks op b=false):PE X (.Compare a [op] [b] pos) (tOp r ta tb):=by
 intro pins s σ H Q I h
 exact wpAny_Compare1 (ZmN ha hb I h λv u s2 x y H2 I2 rx ry q=>ho pins s2 σ H2 x y v u Q I2 rx ry q) hm
def ZmP (t:TE):TT:=λσ H Q=>t σ H λx H'=>∃ k,x=.bl k/\Q k H'
theorem Zax {op:CmpOp} {r:R2} (ho:OpR X (compareOp op) r) (ha:PE X a ta) (hb:PE X b tb) (hm:behindInMarks op b=false):PT X (.Compare a [op] [b] pos) (ZmP (tOp r ta tb)):=by
 intro pins s σ H Q I h
 refine wpAny_isTrue_Compare1 (thn (ha pins s σ H _ I h) λv s1 ⟨x,H1,I1,r1,q1⟩=>thn (hb pins s1 σ H1 _ I1 q1) λu s2 ⟨y,H2,I2,r2,q2⟩=>
  thn (ho pins s2 σ H2 x y v u _ I2 r1 r2 q2) λc s3 ⟨z,H3,I3,r3,k,e,q3⟩=>?_) hm
 subst e
 cases r3
 exact wpAny_truthy_bool ⟨H3,I3,q3⟩
def Zlc (r r':R2) (ta tb tc:TE):TE:=λσ H Q=>ta σ H λx H1=>tb σ H1 λy H2=>r x y H2 λz H3=>∃ k,z=.bl k /\
 (if k=true then tc σ H3 λw' H4=>r' y w' H4 Q else Q (.bl false) H3)
theorem Zh1 {op op':CmpOp} {r r':R2} (ho:OpR X (compareOp op) r) (ho':OpR X (compareOp op') r') (ha:PE X a ta) (hb:PE X b tb) (hc:PE X c tc)
  (hm:lastMarks [op,op'] [b,c]=false:=by with_unfolding_all rfl):PE X (.Compare a [op,op'] [b,c] pos) (Zlc r r' ta tb tc):=by
 intro pins s σ H Q I h
 refine Compare_chain (thn (ha pins s σ H _ I h) λv s1 ⟨x,H1,I1,r1,q1⟩=>chain_link (thn (hb pins s1 σ H1 _ I1 q1) λu s2 ⟨y,H2,I2,r2,q2⟩=>
  thn (ho pins s2 σ H2 x y v u _ I2 r1 r2 q2) λd s3 ⟨z,H3,I3,r3,k,e,q3⟩=>?_)) hm
 subst e
 cases r3
 refine wpAny_truthy_bool ?_
 cases k with
 | false=>exact ite_ff ⟨.bl false,H3,I3,rfl,q3⟩
 | true=>exact ite_tt (chain_last (thn (hc pins s3 σ H3 _ I3 q3) λw' s4 ⟨z',H4,I4,r4,q4⟩=>ho' pins s4 σ H4 y z' u w' Q I4 r2 r4 q4))
def ZnG (K:PySem.W.Frag) (x:V) (H:Hp) (k:Bool):Prop:=
 match x with
 | .non=>k=false
 | .bl b=>k=b
 | .int i=>k=(i != 0)
 | .str y=>y.length<=sizeLine/\k=((y.length:Int) != 0)
 | .byt y=>y.size<=sizeLine/\k=((y.size:Int) != 0)
 | .ref p=>(∃ xs,SqL K H p xs/\k=!xs.isEmpty)\/(∃ xs,SqT K H p xs/\k=!xs.isEmpty)\/∃ kvs,H p=some (.dK kvs)/\k=!kvs.isEmpty
 | _=>False
theorem Zf2 {κ:Type} {kvs:List (κ×V)} {vs:List (κ×Value)} (r:KV kvs vs):(!vs.isEmpty)=!kvs.isEmpty:=by
 cases r <;> rfl
theorem Zdm {xs:List V} {its:List Value} (r:Vals xs its):(!its.toArray.isEmpty)=!xs.isEmpty:=by
 cases r <;> simp
theorem Zee:(sizeLine:Nat)<2 ^ 63:=by rw [sizeLine_eq];decide
theorem Zld:Zon X (λx H Q=>∃ k,ZnG X.K x H k/\Q k H):=by
 intro pins s σ H x v Q I rx h
 obtain ⟨k,e,q⟩:=h
 have hl:=Zee
 have hs:sizeLine=16777216:=sizeLine_eq
 cases x with
 | non=>
  cases rx
  have e':k=false:=e
  subst e'
  exact truthy_none ⟨H,I,q⟩
 | bl b=>
  cases rx
  have e':k=b:=e
  subst e'
  exact wpAny_truthy_bool ⟨H,I,q⟩
 | int i=>
  obtain ⟨t,rfl⟩:=rx
  have e':k=(i != 0):=e
  subst e'
  exact PySem.P.truthy_int ⟨H,I,q⟩
 | str y=>
  obtain ⟨t,rfl⟩:=rx
  obtain ⟨hy,e'⟩:y.length<=sizeLine/\k=((y.length:Int) != 0):=e
  subst e'
  exact PySem.P.truthy_str (by omega) ⟨H,I.tok _,q⟩
 | byt y=>
  obtain ⟨t,rfl⟩:=rx
  obtain ⟨hy,e'⟩:y.size<=sizeLine/\k=((y.size:Int) != 0):=e
  subst e'
  exact PySem.W.truthy_bytes (by omega) ⟨H,I.tok _,q⟩
 | ref p=>
  cases rx
  have e':(∃ xs,SqL X.K H p xs/\k=!xs.isEmpty)\/(∃ xs,SqT X.K H p xs/\k=!xs.isEmpty)\/∃ kvs,H p=some (.dK kvs)/\k=!kvs.isEmpty:=e
  rcases e' with ⟨xs,hx,e'⟩ | ⟨xs,hx,e'⟩ | ⟨kvs,hx,e'⟩
  ·subst e'
   obtain ⟨its,r,pl,hz⟩:=I.list hx
   have hlen:=r.length
   exact wpAny_truthy_list pl.isList (by simp only [List.size_toArray];omega) ⟨H,I.tok _,by rw [Zdm r];exact q⟩
  ·subst e'
   obtain ⟨its,r,pl,hz⟩:=I.tuple hx
   have hlen:=r.length
   exact truthy_tuple pl (by simp only [List.size_toArray];omega) ⟨H,I.tok _,by rw [Zdm r];exact q⟩
  ·subst e'
   obtain ⟨hz,hS,vs,r,m⟩:kvs.length<=sizeLine/\(p == sysModules)=false/\∃ vs,KV kvs vs/\s.heap.DictOf (ZaU X.prog X.w) p vs:=I.hok p _ hx
   have hlen:kvs.length=vs.length:=Paired.length r
   exact wpAny_truthy_dict hS m (by omega) ⟨H,I.tok _,by rw [Zf2 r];exact q⟩
 | _=>exact (show False from e).elim
theorem Zfq (ha:PE X a ta) (he:∀ whole,isTrue a X.env whole=(do let v <- whole;standAt a.pos;holding [v] (truthy v))) :
  PT X a (λσ H Q=>ta σ H λx H'=>∃ k,ZnG X.K x H' k/\Q k H'):=by
 intro pins s σ H Q I h
 exact isTrue_plain (thn (ha pins s σ H _ I h) λv s1 ⟨x,H1,I1,r1,q1⟩=>Zld pins s1 σ H1 x v Q I1 r1 q1) (he _)
def ZmA (b:Expr):Prop:=∀ o i,subscripted b false o i=operate [o,i] (getItem o i)
theorem Zh2 {x:V} {us:List Value} (r:Vals [x] us):∃ u,us=[u]/\RelV x u:=by
 cases r with
 | cons r1 r2=>cases r2;exact ⟨_,rfl,r1⟩
theorem Zle {x y:V} {us:List Value} (r:Vals [x,y] us):∃ u w',us=[u,w']/\RelV x u/\RelV y w':=by
 cases r with
 | cons r1 r2=>
  cases r2 with
  | cons r3 r4=>cases r4;exact ⟨_,_,rfl,r1,r3⟩
theorem ZgF (hc:X.calm=true):ZbW X (.builtin "max") (λxs H Q=>∃ i j,xs=[.int i,.int j]/\Q (.int (if j > i then j else i)) H):=by
 intro pins s σ H xs us Q I r h
 obtain ⟨i,j,rfl,q⟩:=h
 obtain ⟨u,w',rfl,⟨t,rfl⟩,⟨t',rfl⟩⟩:=Zle r
 refine max_two_ints (I.ok.hd hc) λh' tk k=>⟨_,H,I.kept k,?_,q⟩
 by_cases hj:j > i
 ·rw [if_pos hj,if_pos hj];exact ⟨_,rfl⟩
 ·rw [if_neg hj,if_neg hj];exact ⟨_,rfl⟩
theorem ZgG (hc:X.calm=true):ZbW X (.builtin "min") (λxs H Q=>∃ i j,xs=[.int i,.int j]/\Q (.int (if j<i then j else i)) H):=by
 intro pins s σ H xs us Q I r h
 obtain ⟨i,j,rfl,q⟩:=h
 obtain ⟨u,w',rfl,⟨t,rfl⟩,⟨t',rfl⟩⟩:=Zle r
 refine min_two_ints (I.ok.hd hc) λh' tk k=>⟨_,H,I.kept k,?_,q⟩
 by_cases hj:j<i
 ·rw [if_pos hj,if_pos hj];exact ⟨_,rfl⟩
 ·rw [if_neg hj,if_neg hj];exact ⟨_,rfl⟩
theorem ZcW:ZbW X (.type "int") (λxs H Q=>(∃ i,xs=[.int i]/\Q (.int i) H)\/∃ k,xs=[.bl k]/\Q (.int (if k then 1 else 0)) H):=by
 intro pins s σ H xs us Q I r h
 rcases h with ⟨i,rfl,q⟩ | ⟨k,rfl,q⟩
 ·obtain ⟨u,rfl,t,rfl⟩:=Zh2 r
  exact call_int_int ⟨.int i,H,I,⟨_,rfl⟩,q⟩
 ·obtain ⟨u,rfl,r1⟩:=Zh2 r
  cases r1
  exact call_int_bool ⟨.int (if k then 1 else 0),H,I.tok _,⟨_,rfl⟩,q⟩
def Zo9 (K:PySem.W.Frag) (x:V) (H:Hp) (n:Nat):Prop:=
 match x with
 | .str y=>y.length<=sizeLine/\n=y.length
 | .byt y=>y.size<=sizeLine/\n=y.size
 | .ref p=>(∃ xs,SqL K H p xs/\n=xs.length)\/∃ xs,SqT K H p xs/\n=xs.length
 | _=>False
end
end L2
namespace L2
open PySem PySem.Spec PyProof.Rows
structure ObjM (h:Heap) (x dx C:Addr) (mA:Str->Option Value):Prop where
 obj:h.get? x=some (PySem.W.instObj C dx)
 ns:h.Ns1 dx mA
 ne:dx≠x
theorem ZgH {h:Heap} {dx:Addr} {mA:Str->Option Value} (n:h.Ns1 dx mA):∃ od,h.get? dx=some od/\∀ name,PySem.W.lookIn name od=some (mA name):=by
 obtain ⟨o,es,ep,ho,hd,hk,_,hm⟩:=n
 refine ⟨o,ho,λname=>?_⟩
 have e:=hm name
 unfold nsFind findBy at e
 rw [<-Array.find?_toList] at e
 unfold PySem.W.lookIn
 rw [hd]
 dsimp only
 split
 ·rename_i y q
  rw [q] at e
  exact congrArg some e
 ·rename_i q
  rw [q] at e
  have a:es.toList.any (·.refKey)=false:=by
   rw [List.any_eq_false]
   intro y hy
   obtain ⟨z,t,hkey⟩:=hk y (Array.mem_toList_iff.mp hy)
   simp [DictEntry.refKey,hkey]
  have a':¬ es.toList.any (·.refKey)=true:=by rw [a];exact Bool.false_ne_true
  rw [if_neg a']
  exact congrArg some e
theorem ObjM.look {h:Heap} {x dx C:Addr} {mA:Str->Option Value} (I:ObjM h x dx C mA):∃ od,PySem.W.InstAt h x (PySem.W.instObj C dx) C (some od)/\∀ name,PySem.W.lookIn name od=some (mA name):=
 let ⟨od,ho,hl⟩:=ZgH I.ns
 ⟨od,⟨I.obj,rfl,rfl,ho⟩,hl⟩
section
variable {prog:Program} {w:World} {A:Around} {E:Value->Shared->Prop} {s:Shared} {K:PySem.W.Frag} {x dx C f:Addr} {mA:Str->Option Value} {name:Str} {v:Value}
end
def ZmQ (f:Str) (v:V):List (Str×V)->List (Str×V)
 | []=>[(f,v)]
 | (g,x)::r=>if g=f then (g,v)::r else (g,x)::ZmQ f v r
theorem RelO.some_of {v:V} {o:Option Value} (r:RelO (some v) o):∃ u,o=some u/\RelV v u:=by
 cases o with
 | none=>exact (show False from r).elim
 | some u=>exact ⟨u,rfl,r⟩
section
variable {P:Program} {w:World} {H H':Hp} {h h':Heap} {a C dx:Addr} {fs fs':List (Str×V)}
theorem ZjG (hok:HOk P w H h) (e:H a=some (.ins C dx fs)):∃ mA,ObjM h a dx C mA/\(∀ f,RelO (fs.lookup f) (mA f))/\PySem.Within mA (fs.map (·.1))/\fs.length<=1000/\H dx=some (.own a):=by
 obtain ⟨d,z,ne,ob,mA,n,r,q⟩:=(show ObjOk P w H h a (.ins C dx fs) from hok a _ e)
 exact ⟨mA,⟨ob,n,ne⟩,r,q,z,d⟩
end
structure Cls (K:PySem.W.Frag) (C:Addr):Prop where
 pg:PySem.W.plainGet K C Str.empty=true
 hd:PySem.W.hasDictIn K C=true
 po:PySem.W.plainOver K C=true
 sa:PySem.W.findIn K (.ref C) "__setattr__" = some (some (.builtin "object.__setattr__"))
theorem Cls.get {K:PySem.W.Frag} {C:Addr} (c:Cls K C) (f:Str):PySem.W.plainGet K C f=true:=c.pg
def ZgI (K:PySem.W.Frag) (C:Addr) (f:Str):Prop:=PySem.W.findIn K (.ref C) f=some none
structure Con (K:PySem.W.Frag) (C:Addr) (f:Str) (v:V) (u:Value):Prop where
 at_:PySem.W.findIn K (.ref C) f=some (some u)
 rel:RelV v u
 get:PySem.W.specialIn K u "__get__" = some none
 cp:PySem.W.copiedNames.contains f=false
structure Zpa (K:PySem.W.Frag) (C:Addr) (m:Str) (f:Addr):Prop where
 at_:PySem.W.findIn K (.ref C) m=some (some (.ref f))
 fn:PySem.W.isFn K (.ref f)=true
 kp:PySem.W.keepIn K (.ref f)=true
section
variable {X:Cx} {pins:List (Addr×Obj)} {σ:St} {H:Hp} {s:Shared} {a C dx:Addr} {fs:List (Str×V)} {f:Str} {v:V} {A:Around} {E:Value->Shared->Prop}
end
def Zpb (K:PySem.W.Frag) (ta:TE) (f:Str):TE:=λσ H Q=>ta σ H λx H1=>∃ a C dx fs v,x=.ref a/\H1 a=some (.ins C dx fs)/\Cls K C/\ZgI K C f/\fs.lookup f=some v/\Q v H1
def Zpc (K:PySem.W.Frag) (ta:TE) (f:Str):TE:=λσ H Q=>ta σ H λx H1=>∃ a C dx fs v u,x=.ref a/\H1 a=some (.ins C dx fs)/\Cls K C/\Con K C f v u/\fs.lookup f=none/\Q v H1
def Zpd (K:PySem.W.Frag) (ta tv:TE) (f:Str):TS:=λD σ H=>tv σ H λy H1=>ta σ H1 λx H2=>∃ a C dx fs,x=.ref a/\H2 a=some (.ins C dx fs)/\Cls K C/\ZgI K C f/\fs.length<1000 /\
 D.nx σ (upd H2 a (.ins C dx (ZmQ f y fs)))
def Zpe (X:Cx) (op:Operator) (rd:V->V->Hp->VK->Prop):Prop:=
 ∀ (pins:List (Addr×Obj)) (s:Shared) (σ:St) (H:Hp) (x y:V) (u v:Value) (Q:VK),Inv X pins σ H s->RelV x u->RelV y v->rd x y H Q->wpAny (model X.prog X.w) X.A (inplaceOp op u v) (EP X pins σ Q) X.xe s
def ZmR (K:PySem.W.Frag) (ta tv:TE) (rd:V->V->Hp->VK->Prop) (f:Str):TS:=λD σ H=>ta σ H λx H1=>∃ a C dx fs v,x=.ref a/\H1 a=some (.ins C dx fs)/\Cls K C/\ZgI K C f/\fs.lookup f=some v /\
 tv σ H1 λy H2=>rd v y H2 λz H3=>∃ dx' fs',H3 a=some (.ins C dx' fs')/\fs'.length<1000/\D.nx σ (upd H3 a (.ins C dx' (ZmQ f z fs')))
section
variable {X:Cx} {o e value:Expr} {f:Str} {pos pos' tpos:Pos} {ta tv:TE}
def Zpf:V->V->Hp->VK->Prop:=λx y H Q=>∃ i j,x=.int i/\y=.int j/\Q (.int (i+j)) H
def Zpg:V->V->Hp->VK->Prop:=λx y H Q=>∃ i j,x=.int i/\y=.int j/\Q (.int (i-j)) H
end
section
variable {X:Cx} {pins:List (Addr×Obj)} {σ:St} {H:Hp} {s:Shared} {A:Around} {E:Value->Shared->Prop} {Q:Value->Shared->Prop} {c:Value} {b:Bool}
inductive Zf3 (K:PySem.W.Frag) (H:Hp):V->Value->Prop where
 | non:Zf3 K H .non (.type "NoneType")
 | bl (x:Bool):Zf3 K H (.bl x) (.type "bool")
 | int (i:Int):Zf3 K H (.int i) (.type "int")
 | str (x:Str):Zf3 K H (.str x) (.type "str")
 | flt (x:UInt64):Zf3 K H (.flt x) (.type "float")
 | lst {a:Addr} {xs:List V} (e:H a=some (.lst xs)):Zf3 K H (.ref a) (.type "list")
 | frz {a:Addr} {o:Obj} {xs:List V} (e:H a=some (.frz o (.lst xs))):Zf3 K H (.ref a) (.type "list")
 | tup {a:Addr} {xs:List V} (e:H a=some (.tup xs)):Zf3 K H (.ref a) (.type "tuple")
 | dK {a:Addr} {kvs:List (Key×V)} (e:H a=some (.dK kvs)):Zf3 K H (.ref a) (.type "dict")
 | dT {a:Addr} {kvs:List (List Key×V)} (e:H a=some (.dT kvs)):Zf3 K H (.ref a) (.type "dict")
 | ins {a C dx:Addr} {fs:List (Str×V)} (e:H a=some (.ins C dx fs)) (cl:Cls K C) (ha:PySem.W.findIn K (.ref C) "__class__" = some (some (.builtin "object.__class__")))
   (hn:PySem.W.specialIn K (.builtin "object.__class__") "__get__" = some (some (.builtin "getset_descriptor.__get__"))) (htk:PySem.W.takesIn K (.builtin "object.__class__")=some true)
   (hm:PySem.W.mroIn K C (.type "object")=some true):Zf3 K H (.ref a) (.ref C)
theorem ZgJ {x:V} {u t:Value} (I:Inv X pins σ H s) (rx:RelV x u) (ty:Zf3 X.K H x t) (e:PySem.W.kitOne X.K t c=some b) (h:∀ tk,Q (.bool b) { s with toks:=tk }) :
  wpAny (model X.prog X.w) A (call (.builtin "isinstance") [u,c]) Q E s:=by
 cases ty with
 | non=>cases (show u=Value.none from rx);exact PySem.W.kia_one PySem.W.kitx_none I.kIn True.intro e (λz=>nomatch z) h
 | bl y=>cases (show u=Value.bool y from rx);exact PySem.W.kia_one PySem.W.kitx_bool I.kIn True.intro e (λz=>nomatch z) h
 | int i=>obtain ⟨t,q⟩:=(show ∃ t,u=Value.int i t from rx);cases q;exact PySem.W.kia_one PySem.W.kitx_int I.kIn True.intro e (λz=>nomatch z) h
 | str y=>obtain ⟨t,q⟩:=(show ∃ t,u=Value.str y t from rx);cases q;exact PySem.W.kia_one PySem.W.kitx_str I.kIn True.intro e (λz=>nomatch z) h
 | flt y=>obtain ⟨t,q⟩:=(show ∃ t,u=Value.float y t from rx);cases q;exact PySem.W.kia_one PySem.W.kitx_float I.kIn True.intro e (λz=>nomatch z) h
 | @lst a xs ea=>
  cases (show u=Value.ref a from rx)
  obtain ⟨_,_,n,_,h1⟩:=(show ObjOk X.prog X.w H s.heap a (.lst xs) from I.hok a _ ea)
  exact PySem.W.kia_one PySem.W.kitx_list I.kIn ⟨_,h1,rfl⟩ e (λz=>nomatch z) h
 | @frz a ob xs ea=>
  cases (show u=Value.ref a from rx)
  obtain ⟨_,_,_,n,_,h1⟩:=(show ObjOk X.prog X.w H s.heap a (.frz ob (.lst xs)) from I.hok a _ ea)
  exact PySem.W.kia_one PySem.W.kitx_list I.kIn ⟨_,h1,rfl⟩ e (λz=>nomatch z) h
 | @tup a xs ea=>
  cases (show u=Value.ref a from rx)
  obtain ⟨_,_,_,p⟩:=(show ObjOk X.prog X.w H s.heap a (.tup xs) from I.hok a _ ea)
  obtain ⟨o,h1,h2,_⟩:=p
  exact PySem.W.kia_one PySem.W.kitx_tuple I.kIn ⟨o,h1,h2⟩ e (λz=>nomatch z) h
 | @dK a kvs ea=>
  cases (show u=Value.ref a from rx)
  obtain ⟨_,_,vs,_,p⟩:=(show ObjOk X.prog X.w H s.heap a (.dK kvs) from I.hok a _ ea)
  obtain ⟨o,es,ep,h1,h2,_⟩:=p
  exact PySem.W.kia_one PySem.W.kitx_dict I.kIn ⟨o,h1,h2.1⟩ e (λz=>nomatch z) h
 | @dT a kvs ea=>
  cases (show u=Value.ref a from rx)
  obtain ⟨_,_,xs,_,o,es,ep,h1,h2,_⟩:=(show ObjOk X.prog X.w H s.heap a (.dT kvs) from I.hok a _ ea)
  exact PySem.W.kia_one PySem.W.kitx_dict I.kIn ⟨o,h1,h2.1⟩ e (λz=>nomatch z) h
 | @ins a C dx fs ea cl ha hn htk hm=>
  cases (show u=Value.ref a from rx)
  obtain ⟨mA,O,_⟩:=ZjG I.hok ea
  obtain ⟨od,J,_⟩:=O.look
  exact PySem.W.kia_one (PySem.W.kitx_own (cl.get _) cl.hd ha hn htk hm) I.kIn J e (λz=>nomatch z) h
end
end L2
namespace L2
open PySem PySem.Spec PyProof.Rows
structure Room (k:Nat) (A:Around):Prop where
 hd:A.handled=none
 dp:A.depth+3 * k+5<recursionLimit
 un:A.units+16 * k+200<cLine
theorem Room.mono {j k:Nat} {A:Around} (r:Room k A) (h:j<=k):Room j A:=⟨r.hd,by have:=r.dp;omega,by have:=r.un;omega⟩
theorem Room.deeper {k:Nat} {A:Around} (r:Room (k+1) A) (env:Env):Room k (A.deeper env):=
 ⟨r.hd,by have:=r.dp;show A.depth+1+3 * k+5<_;omega,by have:=r.un;show A.units+3+16 * k+200<_;omega⟩
theorem Room.depth {k:Nat} {A:Around} (r:Room k A):A.depth<recursionLimit:=by have:=r.dp;omega
theorem Room.units {k:Nat} {A:Around} (r:Room k A):A.units+64<cLine:=by have:=r.un;omega
def ZnH:TA:=λ_ H Q=>Q [] H
def ZmS (ta:TE) (tr:TA):TA:=λσ H Q=>ta σ H λx H1=>tr σ H1 λxs H2=>Q (x::xs) H2
section
variable {X:Cx} {e:Expr} {es:List Expr} {te:TE} {t:TA} {pos:Pos}
theorem Zac:PA X [] ZnH:=λ_ _ _ _ H Q I h=>Calls.spliced_nil ⟨[],H,I,.nil,h⟩
theorem Zaa (ha:PE X e te) (hr:PA X es t) (hs:starEach (e::es) X.env=(false,eval e X.env)::starEach es X.env:=by rfl):PA X (e::es) (ZmS te t):=by
 intro pos pins s σ H Q I h
 rw [hs]
 show wpAny _ _ (spliced ((false,eval e X.env)::backTo pos (starEach es X.env))) _ _ s
 refine Calls.spliced_cons (thn (ha pins s σ H _ I h) λu s1 ⟨x,H1,I1,r1,q1⟩=>?_)
 exact thn (hr pos pins s1 σ H1 _ I1 q1) λus s2 ⟨xs,H2,I2,r2,q2⟩=>⟨x::xs,H2,I2,.cons r1 r2,q2⟩
def Zoq (t:TA):TE:=λσ H Q=>t σ H λxs H1=>xs.length<=sizeLine/\∀ p,H1 p=none->Q (.ref p) (upd H1 p (.tup xs))
def Zor (t:TA):TE:=λσ H Q=>t σ H λxs H1=>xs.length<=sizeLine/\∀ p,H1 p=none->Q (.ref p) (upd H1 p (.lst xs))
theorem ZaV {x1} (h:PA X es t):PE X (.Tuple es x1 pos) (Zoq t):=by
 intro pins s σ H Q I hq
 refine wpAny_Tuple_spliced (thn (h pos pins s σ H _ I hq) λus s1 ⟨xs,H1,I1,r,z,q⟩=>⟨by rw [<-r.length];exact z,?_⟩)
 have hf:H1 s1.heap.objs.size=none:=I1.hok.fresh (Nat.le_refl _)
 refine ⟨.ref s1.heap.objs.size,upd H1 s1.heap.objs.size (.tup xs),I1.laid (t':=s1.toks) (λb u e=>Heap.get?_push_of_some _ e) (Nat.le_refl _) ?_,rfl,q _ hf⟩
 exact ⟨z,us,r,⟨_,Heap.get?_push_size _ rfl,rfl,_,rfl⟩⟩
theorem ZaF (h:PA X es t):PE X (.List es pos) (Zor t):=by
 intro pins s σ H Q I hq
 refine wpAny_List_spliced (thn (h pos pins s σ H _ I hq) λus s1 ⟨xs,H1,I1,r,z,q⟩=>⟨by rw [<-r.length];exact z,?_⟩)
 have hf:H1 s1.heap.objs.size=none:=I1.hok.fresh (Nat.le_refl _)
 refine ⟨.ref s1.heap.objs.size,upd H1 s1.heap.objs.size (.lst xs),I1.laid (t':=s1.toks) (λb u e=>Heap.get?_push_of_some _ e) (Nat.le_refl _) ?_,rfl,q _ hf⟩
 exact ⟨z,us,0,r,Heap.get?_push_size _ rfl⟩
end
abbrev Sp:=List V->Hp->VK->XK->Prop
abbrev CXT:=List Env->Hp->Shared->XK->Value->Shared->Prop
structure ZmB (P:Program) (w:World) (K:PySem.W.Frag) (mg:Str->Option Value) (base:Heap) (A:Around) (outer:List Env) (s:Shared) (H:Hp):Prop where
 frames:A.frames=some outer
 mod:Mod K mg base
 bs:∀ b o,base.get? b=some o->s.heap.get? b=some o/\H b=none
 bsz:base.objs.size<=s.heap.objs.size
 funs:s.heap.FunFrames base outer
 frf:∀ b∈frs outer,H b=none
 hok:HOk P w H s.heap
 bare:AllBare s.gens
def CE (outer:List Env) (P:Program) (w:World) (H:Hp) (s:Shared) (Q:VK) (u:Value) (s':Shared):Prop:=
 ∃ v H',s'.os=s.os/\AllBare s'.gens/\Un (frs outer) [] H H' s.heap s'.heap/\HOk P w H' s'.heap/\RelV v u/\Q v H'
def CR (CX:CXT) (outer:List Env) (P:Program) (w:World) (H:Hp) (s:Shared) (Q:VK) (E:XK) (r:Result) (s':Shared):Prop:=
 match r with
 | .ok (.ret u)=>CE outer P w H s Q u s'
 | .ok _=>False
 | .error e=>CX outer H s E e s'
structure ZaN (P:Program) (w:World) (K:PySem.W.Frag) (mg:Str->Option Value) (base:Heap) (CX:CXT) (k:Nat) (f:Addr) (fd:FuncData) (ps:List Str) (sp:Sp):Prop where
 len:∀ vs H Q E,sp vs H Q E->vs.length=ps.length
 run:∀ (A:Around) (outer:List Env) (s:Shared) (H:Hp) (args:Args) (us:List Value) (vs:List V) (Q:VK) (E:XK),Room k A->ZmB P w K mg base A outer s H->BindsTo s fd args (ps.zip us)->Vals vs us->sp vs H Q E ->
  codeAny (model P w) A (.call (.ref f) args) (CR CX outer P w H s Q E) s
section
variable {X:Cx} {pins:List (Addr×Obj)} {σ:St} {H:Hp} {s s':Shared}
theorem Inv.env0 (I:Inv X pins σ H s):ZmB X.prog X.w X.K X.mg X.base X.A X.stack s H:=
 ⟨I.ok.frames,I.ok.mod,I.bs,Nat.le_trans I.ok.bsz I.sz,I.stack,I.stkFree,I.hok,I.bare⟩
theorem Inv.after {Q:VK} {u:Value} (I:Inv X pins σ H s) (h:CE X.stack X.prog X.w H s Q u s'):EP X pins σ Q u s':=by
 obtain ⟨v,H',os,bare,un,hok,r,q⟩:=h
 obtain ⟨hh,g,d,t,os'⟩:=s'
 obtain rfl:os'=s.os:=os
 exact ⟨v,H',I.call (h':=hh) (g':=g) (d':=d) (t':=t) (ch:=[]) un hok bare (λb z=>absurd z (by simp)),r,q⟩
end
def ZmT (sp:Sp) (dvs:List V) (E:XK) (t:TA):TE:=λσ H Q=>t σ H λvs H1=>sp (vs++dvs) H1 Q E
def Zos (C:Addr) (m:Str) (sp:Sp) (dvs:List V) (E:XK) (ta:TE) (t:TA):TE:=λσ H Q=>ta σ H λx H1=>∃ a dx fs,x=.ref a/\H1 a=some (.ins C dx fs)/\fs.lookup m=none /\
 t σ H1 λvs H2=>sp (x::(vs++dvs)) H2 Q E
def Zot (C:Addr) (sp:Sp) (dvs:List V) (E:XK) (t:TA):TE:=λσ H Q=>t σ H λvs H1=>∀ x dx,H1 x=none->H1 dx=none->dx≠x ->
 sp (.ref x::(vs++dvs)) (upd (upd H1 dx (.own x)) x (.ins C dx [])) (λv H2=>v=.non/\Q (.ref x) H2) E
def Binds (K:PySem.W.Frag) (fd:FuncData) (ps:List Str) (ds:List Value):Prop:=
 ∀ (s:Shared) (us:List Value),K.In s.heap->(us++ds).length=ps.length->BindsTo s fd ⟨us,[]⟩ (ps.zip (us++ds))
theorem Binds.all {K:PySem.W.Frag} {fd:FuncData} {ps:List Str} (h:∀ us:List Value,us.length=ps.length->bindArgs fd ⟨us,[]⟩=pure (ps.zip us)):Binds K fd ps []:=λs us _ hl=>by
 rw [List.append_nil] at hl ⊢
 exact .of_eq (h us hl)
def Zef (CX:CXT) (X:Cx) (E:XK):Prop:=∀ (pins:List (Addr×Obj)) (σ:St) (H:Hp) (s:Shared) (e:Value) (s':Shared),Inv X pins σ H s->CX X.stack H s E e s'->X.xe e s'
section
variable {X:Cx} {CX:CXT} {k:Nat} {f C:Addr} {fd:FuncData} {ps:List Str} {sp:Sp} {dvs:List V} {ds:List Value} {E:XK} {x m:Str} {p pos apos:Pos} {e o:Expr} {es:List Expr} {ta:TE} {t:TA}
theorem Zlf {pins:List (Addr×Obj)} {σ:St} {H:Hp} {s:Shared} {Q:VK} {us:List Value} {vs:List V} (F:ZaN X.prog X.w X.K X.mg X.base CX k f fd ps sp) (hr:Room k X.A) (hb:Binds X.K fd ps ds) (hd:Vals dvs ds) (hx:Zef CX X E)
  (I:Inv X pins σ H s) (r:Vals vs us) (h:sp (vs++dvs) H Q E):wpAny (model X.prog X.w) X.A (call (.ref f) us) (EP X pins σ Q) X.xe s:=by
 have r2:Vals (vs++dvs) (us++ds):=r.append hd
 have hl:(us++ds).length=ps.length:=by rw [<-r2.length];exact F.len _ _ _ _ h
 refine wpAny_call (codeAny_mono (F.run X.A X.stack s H ⟨us,[]⟩ (us++ds) (vs++dvs) Q E hr I.env0 (hb s us I.kIn hl) r2 h) λr s' hq=>?_)
 cases r with
 | error e=>exact hx pins σ H s e s' I hq
 | ok fl=>
  cases fl with
  | ret u=>exact I.after hq
  | next=>exact False.elim hq
  | brk=>exact False.elim hq
  | cont=>exact False.elim hq
theorem Zaj (F:ZaN X.prog X.w X.K X.mg X.base CX k f fd ps sp) (hr:Room k X.A) (hg:Gl X x) (hm:X.mg x=some (.ref f)) (hk:PySem.W.keepIn X.K (.ref f)=true) (hb:Binds X.K fd ps ds) (hd:Vals dvs ds) (hx:Zef CX X E)
  (ha:PA X (e::es) t) (hdb:(x == ("__debug__" : Str))=false:=by decide) (he:starEach (e::es) X.env=(false,eval e X.env)::starEach es X.env:=by rfl) (hpl:(backTo pos (starEach es X.env)).any (·.1)=false:=by rfl) :
  PE X (.Call (.Name x p) (e::es) [] pos) (ZmT sp dvs E t):=by
 intro pins s σ H Q I h
 refine wpAny_Call_Name_kw (ZcS I hg hm ?_ hdb)
 refine PySem.W.callWith_K (h₀:=X.base) I.ok.mod.kin hk (thn (ha pos pins s σ H _ I h) λus s1 ⟨vs,H1,I1,r,q⟩=>⟨I1.kIn,?_⟩) he hpl
 exact Zlf F hr hb hd hx I1 r q
structure Mk (K:PySem.W.Frag) (C f:Addr):Prop where
 makes:PySem.W.makesIn K C=true
 init:PySem.W.findIn K (.ref C) "__init__" = some (some (.ref f))
 fn:PySem.W.isFn K (.ref f)=true
 kp:PySem.W.keepIn K (.ref C)=true
end
def PK (X:Cx) (kws:List Keyword) (t:TA):Prop:=
 ∀ (pos:Pos) (pins:List (Addr×Obj)) (s:Shared) (σ:St) (H:Hp) (Q:List V->Hp->Prop),Inv X pins σ H s->t σ H Q->wpAny (model X.prog X.w) X.A (evalAll ((backToKw pos (keywordEach kws X.env)).map (·.2))) (AP X pins σ Q) X.xe s
section
variable {X:Cx} {CX:CXT} {k:Nat} {f C:Addr} {fd:FuncData} {ps ks:List Str} {sp:Sp} {E:XK} {x m:Str} {p pos apos kpos:Pos} {e o:Expr} {es:List Expr} {kws:List Keyword} {te ta:TE} {t tk:TA} {nm:Option Str}
structure ZnI (K:PySem.W.Frag) (fd:FuncData) (ps ks:List Str) (g:List Value->List Value->List Value) (gV:List V->List V->List V):Prop where
 to:∀ (s:Shared) (us ws:List Value),K.In s.heap->(g us ws).length=ps.length->BindsTo s fd ⟨us,ks.zip ws⟩ (ps.zip (g us ws))
 rel:∀ {vs:List V} {us:List Value} {zs:List V} {ws:List Value},Vals vs us->Vals zs ws->Vals (gV vs zs) (g us ws)
def ZnJ (sp:Sp) (gV:List V->List V->List V) (E:XK) (t tk:TA):TE:=λσ H Q=>t σ H λvs H1=>tk σ H1 λzs H2=>sp (gV vs zs) H2 Q E
variable {g:List Value->List Value->List Value} {gV:List V->List V->List V}
end
structure Zaw (N P:List Str) (sc:Scope):Prop where
 kind:sc.kind=.function
 co:sc.isCoroutine=false
 gen:sc.isGenerator=false
 nd:N.Nodup
 pre:N.take P.length=P
 par:∀ x∈P,sc.names.lookup x=some .local\/sc.names.lookup x=some .cell
 nofree:∀ y∈sc.names,y.2≠.free
theorem Zeg {kindOf:Str->Option NameKind} {x:Str}:∀ {binds:List (Str×Value)} {m:Str->Option Value},(∀ v,(x,v) ∉ binds)->bindL kindOf binds m x=m x
 | [],_,_=>rfl
 | (n,v)::r,m,h=>by
  unfold bindL
  rw [Zeg λw hw=>h w (List.mem_cons_of_mem _ hw)]
  split
  ·have:x≠n:=by rintro rfl;exact h v List.mem_cons_self
   simp [this]
  ·rfl
theorem Zeh {kindOf:Str->Option NameKind} {x:Str}:∀ {binds:List (Str×Value)} {m:Str->Option Value},(∀ v,(x,v) ∉ binds)->bindC kindOf binds m x=m x
 | [],_,_=>rfl
 | (n,v)::r,m,h=>by
  unfold bindC
  rw [Zeh λw hw=>h w (List.mem_cons_of_mem _ hw)]
  split
  ·rfl
  ·have:x≠n:=by rintro rfl;exact h v List.mem_cons_self
   simp [this]
theorem Zei {kindOf:Str->Option NameKind} {x:Str} {v:Value}:∀ {P:List Str} {vs:List Value} {i:Nat} {m:Str->Option Value},P.Nodup->P[i]?=some x->vs[i]?=some v->kindOf x=some .local ->
  bindL kindOf (P.zip vs) m x=some v
 | [],_,_,_,_,h,_,_=>by simp at h
 | _::_,[],_,_,_,_,h,_=>by simp at h
 | p::P,w::vs,0,m,nd,h1,h2,hk=>by
  simp at h1 h2;subst h1;subst h2
  show bindL kindOf ((p,w)::P.zip vs) m p=_
  unfold bindL
  rw [Zeg λv hv=>(List.nodup_cons.mp nd).1 (List.of_mem_zip hv).1,if_pos hk]
  simp
 | p::P,w::vs,i+1,m,nd,h1,h2,hk=>by
  show bindL kindOf ((p,w)::P.zip vs) m x=_
  unfold bindL
  exact Zei (i:=i) (List.nodup_cons.mp nd).2 (by simpa using h1) (by simpa using h2) hk
theorem Zej {kindOf:Str->Option NameKind} {x:Str} {v:Value}:∀ {P:List Str} {vs:List Value} {i:Nat} {m:Str->Option Value},P.Nodup->P[i]?=some x->vs[i]?=some v->kindOf x≠some .local ->
  bindC kindOf (P.zip vs) m x=some v
 | [],_,_,_,_,h,_,_=>by simp at h
 | _::_,[],_,_,_,_,h,_=>by simp at h
 | p::P,w::vs,0,m,nd,h1,h2,hk=>by
  simp at h1 h2;subst h1;subst h2
  show bindC kindOf ((p,w)::P.zip vs) m p=_
  unfold bindC
  rw [Zeh λv hv=>(List.nodup_cons.mp nd).1 (List.of_mem_zip hv).1,if_neg hk]
  simp
 | p::P,w::vs,i+1,m,nd,h1,h2,hk=>by
  show bindC kindOf ((p,w)::P.zip vs) m x=_
  unfold bindC
  exact Zej (i:=i) (List.nodup_cons.mp nd).2 (by simpa using h1) (by simpa using h2) hk
def start (N:List Str) (vs:List V):St:=vs.map some++List.replicate (N.length-vs.length) none
def ZgK (CX:CXT) (P:Program) (w:World) (K:PySem.W.Frag) (mg:Str->Option Value) (base:Heap) (N:List Str) (qual:Str) (scope:Scope) (f:Addr) (cd:Value) (A:Around) (outer:List Env) (s:Shared) (H:Hp) (E:XK):Cx where
 prog:=P
 w:=w
 K:=K
 mg:=mg
 base:=base
 A:=A.deeper (envOfC qual scope s.heap.objs.size f cd)
 N:=N
 s₀:=s
 H₀:=H
 env:=envOfC qual scope s.heap.objs.size f cd
 outer:=outer
 stack:=envOfC qual scope s.heap.objs.size f cd::outer
 ex:=[]
 calm:=true
 fn:=λ_=>true
 pn:=[]
 xe:=λe s'=>wpAny (model P w) (A.deeper (envOfC qual scope s.heap.objs.size f cd)) (leaving (envOfC qual scope s.heap.objs.size f cd) e) (λ_ s''=>CX outer H s E e s'') (λe' s''=>CX outer H s E e' s'') s'
theorem Zfr {sc:Scope} {n:Nat} {x:Str} (h:sc.names.lookup x=some .cell):∃ c,(cellsFrom n sc.names []).lookup x=some c:=by
 have q:=PySem.W.cellsFrom_some sc.names n [] (.inl h)
 exact Option.isSome_iff_exists.mp q
theorem ZgL {CX:CXT} {P:Program} {w:World} {K:PySem.W.Frag} {mg:Str->Option Value} {base:Heap} {N ps:List Str} {qual:Str} {scope:Scope} {f:Addr} {cd:Value} {A:Around} {outer:List Env} {s s1:Shared} {H:Hp} {E:XK} {us:List Value} {vs:List V}
  (S:Zaw N ps scope) (hd:A.handled=none) (e0:ZmB P w K mg base A outer s H) (hl:vs.length=ps.length) (r:Vals vs us)
  (x:InCallC s s.heap.objs.size (bindL (envOfC qual scope s.heap.objs.size f cd).kindOf (ps.zip us) λ_=>none) (cellsFrom (s.heap.objs.size+1) scope.names []) (bindC (envOfC qual scope s.heap.objs.size f cd).kindOf (ps.zip us) λ_=>none) s1) :
  Inv (ZgK CX P w K mg base N qual scope f cd A outer s H E) [] (start N vs) H s1:=by
 have hpl:ps.length<=N.length:=by have:=congrArg List.length S.pre;rw [List.length_take] at this;omega
 obtain ⟨h1,tk,rfl,hk⟩:=x.done
 have noA:∀ b:Addr,b ∉ (ZgK CX P w K mg base N qual scope f cd A outer s H E).ex:=λb z=>absurd (show b∈([]:List Addr) from z) (by simp)
 refine ⟨⟨e0.mod,S.kind,rfl,rfl,Nat.le_refl _,λy z c h1 h2=>?_,λy hy=>?_,λy c _ h=>?_,λ_=>hd,Around.frames_deeper e0.frames,.inr ⟨rfl,rfl⟩,λb z=>absurd z (noA b),e0.bs,e0.bsz,λb _ _=>noA b,λb z=>absurd z (noA b),e0.funs,e0.frf⟩,
  rfl,e0.bare,Un.kept hk,⟨_,x.toInCall.ns,λi y v h1 h2 h3=>?_⟩,λy c h=>⟨_,x.cell y c h⟩,e0.hok.fresh (Nat.le_refl _),λy c h=>?_,λp hp=>absurd (show p∈([]:List (Addr×Obj)) from hp) (by simp),e0.hok.kept hk,?_⟩
 ·exact name_of_addr x.apart (PySem.mem_of_lookup h1) (PySem.mem_of_lookup h2)
 ·have hy:scope.names.lookup y=some .cell\/scope.names.lookup y=some .free:=hy
  rcases hy with hy | hy
  ·exact Zfr hy
  ·exact absurd rfl (S.nofree _ (PySem.mem_of_lookup hy))
 ·exact Nat.le_of_lt (x.above y c (PySem.mem_of_lookup h))
 ·have hi:i<vs.length:=by
   unfold start at h2
   by_cases hi:i<vs.length
   ·exact hi
   ·rw [List.getElem?_append_right (by simpa using hi)] at h2
    rw [List.getElem?_replicate] at h2
    split at h2 <;> cases h2
  have ha:vs[i]?=some v:=by
   unfold start at h2
   rw [List.getElem?_append_left (by simpa using hi),List.getElem?_map] at h2
   cases e:vs[i]? with
   | none=>rw [e] at h2;cases h2
   | some a=>rw [e] at h2;cases h2;rfl
  obtain ⟨u,hu,rv⟩:=r.get ha
  have hp:ps[i]?=some y:=by
   rw [<-S.pre,List.getElem?_take_of_lt (by omega)];exact h1
  have ndP:ps.Nodup:=by rw [<-S.pre];exact S.nd.sublist (List.take_sublist _ _)
  refine ⟨u,rv,?_⟩
  rcases S.par y (List.mem_of_getElem? hp) with k | k
  ·exact .inl ⟨k,Zei ndP hp hu k⟩
  ·obtain ⟨c,e⟩:=Zfr (n:=s.heap.objs.size+1) k
   refine .inr ⟨.inl k,c,e,?_⟩
   have q:=x.cell y c e
   rw [Zej ndP hp hu (by show scope.names.lookup y≠_;rw [k];decide)] at q
   exact q
 ·exact e0.hok.fresh (Nat.le_of_lt (x.above y c (PySem.mem_of_lookup h)))
 ·unfold start
  show _=N.length
  rw [List.length_append,List.length_map,List.length_replicate]
  omega
theorem ZjH {CX:CXT} {P:Program} {w:World} {K:PySem.W.Frag} {mg:Str->Option Value} {base:Heap} {k:Nat} {f:Addr} {name qual:Str} {params:Arguments} {body:List Stmt} {scope:Scope} {dV kV doc pm cdv ct oc:Value} {an od:Option Addr}
  {osl:Array (Option Value)} {N ps:List Str} {sp:Sp} (lk:K.lookup f=some ⟨oc,od,.func (PySem.W.fnOf name qual params body scope dV kV doc pm an cdv ct),osl⟩) (hcd:PySem.W.codeIn K cdv qual=true) (S:Zaw N ps scope)
  (len:∀ vs H Q E,sp vs H Q E->vs.length=ps.length)
  (hbody:∀ (A:Around) (outer:List Env) (s:Shared) (H:Hp) (vs:List V) (Q:VK) (E:XK),Room k (A.deeper (envOfC qual scope s.heap.objs.size f cdv))->sp vs H Q E ->
   ∃ t,PSs (ZgK CX P w K mg base N qual scope f cdv A outer s H E) body t/\t { nx:=λ_ H'=>Q .non H',rt:=Q } (start N vs) H) :
  ZaN P w K mg base CX (k+1) f (PySem.W.fnOf name qual params body scope dV kV doc pm an cdv ct) ps sp:=by
 refine ⟨len,λA outer s H args us vs Q E hr e0 hb r hsp=>?_⟩
 have hl:=len _ _ _ _ hsp
 have KX:K.In s.heap:=e0.mod.kin.keeps λb o e=>(e0.bs b o e).1
 have lim:s.heap.NoLimit:=e0.mod.nolimit.keeps λb o e=>(e0.bs b o e).1
 have hkind:∀ y∈ps.zip us,scope.names.lookup y.1=some .local\/(scope.names.lookup y.1=some .cell/\((cellsFrom (s.heap.objs.size+1) scope.names []).lookup y.1).isSome=true):=λ⟨n,v⟩ hy=>by
  rcases S.par n (List.of_mem_zip hy).1 with q | q
  ·exact .inl q
  ·exact .inr ⟨q,PySem.W.cellsFrom_some _ _ _ (.inl q)⟩
 refine codeAny_call_function hr.depth (KX _ _ lk) rfl S.co S.gen rfl (PySem.W.codeRec_of KX hcd) (hb _ _ _ _ ?_)
 refine wpAny_newFunctionEnv_cells S.kind hkind λenv he s1 x=>?_
 subst he
 refine ⟨lim.keeps x.toInCall.keep,codeAny_func ?_⟩
 obtain ⟨t,ht,hq⟩:=hbody A outer s H vs Q E (hr.deeper _) hsp
 have I:Inv (ZgK CX P w K mg base N qual scope f cdv A outer s H E) [] (start N vs) H s1:=ZgL S hr.hd e0 hl r x
 refine wpAny_mono (ht [] s1 (start N vs) H _ I hq) (λfl s' hs=>?_) λe s' hs=>hs
 have fin:∀ {σ':St} {H':Hp} {v:V} {u:Value},Inv (ZgK CX P w K mg base N qual scope f cdv A outer s H E) [] σ' H' s'->RelV v u->Q v H'->CE outer P w H s Q u s':=
  λ{σ' H' v u} J rv q=>⟨v,H',J.os,J.bare,J.base,J.hok,rv,q⟩
 cases fl with
 | ret u=>
  obtain ⟨v,σ',H',J,rv,q⟩:=hs
  exact fin J rv q
 | next=>
  obtain ⟨σ',H',J,q⟩:=hs
  exact fin (v:=V.non) (u:=Value.none) J rfl q
 | brk=>
  obtain ⟨_,_,_,q⟩:=hs
  exact False.elim q
 | cont=>
  obtain ⟨_,_,_,q⟩:=hs
  exact False.elim q
end L2
namespace L2
open PySem PySem.Spec PyProof.Rows
section
variable {X:Cx} {x:Str} {p pos:Pos} {e:Expr} {es:List Expr} {t:TA} {id T:String} {r:List V->Hp->VK->Prop}
def tCB (r:List V->Hp->VK->Prop) (t:TA):TE:=λσ H Q=>t σ H λvs H1=>r vs H1 Q
theorem Zar (hc:ZbW X (.builtin id) r) (hg:Gl X x) (hm:X.mg x=none) (hv:bootBuiltins x=some (.builtin id)) (ha:PA X (e::es) t) (hn:x ≠ "__name__" := by decide) (hdb:(x == ("__debug__" : Str))=false:=by decide)
  (he:starEach (e::es) X.env=(false,eval e X.env)::starEach es X.env:=by rfl) (hpl:(backTo pos (starEach es X.env)).any (·.1)=false:=by rfl):PE X (.Call (.Name x p) (e::es) [] pos) (tCB r t):=by
 intro pins s σ H Q I h
 refine wpAny_Call_Name_kw (ZcT I hg hm hv ?_ hn hdb)
 exact PyProof.Rows.callWith_builtin1 (thn (ha pos pins s σ H _ I h) λus s1 ⟨vs,H1,I1,r1,q1⟩=>hc pins s1 σ H1 vs us Q I1 r1 q1) he hpl
theorem Zbv (hc:ZbW X (.type T) r) (hg:Gl X x) (hm:X.mg x=none) (hv:bootBuiltins x=some (.type T)) (ha:PA X (e::es) t) (hn:x ≠ "__name__" := by decide) (hdb:(x == ("__debug__" : Str))=false:=by decide)
  (he:starEach (e::es) X.env=(false,eval e X.env)::starEach es X.env:=by rfl) (hpl:(backTo pos (starEach es X.env)).any (·.1)=false:=by rfl):PE X (.Call (.Name x p) (e::es) [] pos) (tCB r t):=by
 intro pins s σ H Q I h
 refine wpAny_Call_Name_kw (ZcT I hg hm hv ?_ hn hdb)
 exact PyProof.Rows.callWith_type1 (thn (ha pos pins s σ H _ I h) λus s1 ⟨vs,H1,I1,r1,q1⟩=>hc pins s1 σ H1 vs us Q I1 r1 q1) he hpl
end
end L2
namespace HT
open PySem PyProof.Rows
def lexLt:List Int->List Int->Bool
 | [],[]=>false
 | [],_::_=>true
 | _::_,[]=>false
 | x::xs,y::ys=>if x=y then lexLt xs ys else decide (x<y)
section
open PySem.SeqAt
open PySem.AutoSeq1 (wpAny_loadPart')
open PySem.MeetsSeq PySem.MeetsSeq2 PySem.MeetsSeq3
end
section
variable {prog:Program} {w:World} {A:Around} {E:Value->Shared->Prop} {s:Shared}
def sIx (n d:Nat):Option Int->Nat
 | none=>d
 | some v=>if v<0 then (v+(n:Int)).toNat else min v.toNat n
theorem sIx_none (n d:Nat):sIx n d none=d:=rfl
theorem sIx_nat (n d k:Nat):sIx n d (some (k:Int))=min k n:=by
 show (if (k:Int)<0 then ((k:Int)+(n:Int)).toNat else min (k:Int).toNat n)=min k n
 rw [if_neg (by omega),Int.toNat_natCast]
end
end HT
namespace L2
open PySem PySem.Spec PyProof.Rows
abbrev TO:=St->Hp->(Option Int->Hp->Prop)->Prop
def PO (X:Cx) (e:Option Expr) (t:TO):Prop:=
 ∀ (pins:List (Addr×Obj)) (s:Shared) (σ:St) (H:Hp) (Q:Option Int->Hp->Prop),Inv X pins σ H s->t σ H Q ->
  wpAny (model X.prog X.w) X.A (evalPart e X.env) (λu s'=>∃ o H',Inv X pins σ H' s'/\IsPart u o/\Q o H') X.xe s
def ZjI:TO:=λ_ H Q=>Q none H
def ZmU (t:TE):TO:=λσ H Q=>t σ H λx H1=>∃ i,x=.int i/\Q (some i) H1
theorem Zdn {ns:List Int}:∀ {us:List Value},Vals (ns.map V.int) us->IntsAre us ns:=by
 induction ns with
 | nil=>intro us r;rw [List.map_nil] at r;cases r;exact .nil
 | cons n ns ih=>
  intro us r
  rw [List.map_cons] at r
  cases r with
  | cons r1 r2=>
   obtain ⟨t,e⟩:=r1
   subst e
   exact .cons n t (ih r2)
section
variable {X:Cx} {e:Expr} {te:TE} {lo hi:Option Expr} {tl th:TO} {pos p2:Pos}
theorem ZcX:PO X none ZjI:=by
 intro pins s σ H Q I h
 rw [evalPart_none]
 exact wpAny_pure ⟨none,H,I,.none,h⟩
theorem ZcY (h:PE X e te):PO X (some e) (ZmU te):=by
 intro pins s σ H Q I hw
 rw [evalPart_some]
 refine thn (h pins s σ H _ I hw) λu s1 ⟨x,H1,I1,r1,q1⟩=>?_
 obtain ⟨i,rfl,q⟩:=q1
 obtain ⟨t,rfl⟩:=r1
 exact ⟨some i,H1,I1,.int i t,q⟩
def SlR (X:Cx) (r:V->Option Int->Option Int->Hp->VK->Prop):Prop:=
 ∀ (pins:List (Addr×Obj)) (s:Shared) (σ:St) (H:Hp) (x:V) (v vl vu:Value) (lo hi:Option Int) (sl:Addr) (Q:VK),Inv X pins σ H s->RelV x v->s.heap.IsSliceOf sl vl vu .none->IsPart vl lo->IsPart vu hi->r x lo hi H Q ->
  ∃ T id,typeLookup (.type T) "__getitem__" = pure (some (.builtin id))/\s.TypeIs v T/\wpAny (model X.prog X.w) X.A (getItem v (.ref sl)) (EP X pins σ Q) X.xe s
def tSl (r:V->Option Int->Option Int->Hp->VK->Prop) (te:TE) (tl th:TO):TE:=λσ H Q=>te σ H λx H1=>tl σ H1 λl H2=>th σ H2 λu H3=>r x l u H3 Q
theorem Zcb {r:V->Option Int->Option Int->Hp->VK->Prop} (hr:SlR X r) (he:PE X e te) (hl:PO X lo tl) (hu:PO X hi th):PE X (.Subscript e (.Slice lo hi none p2) pos) (tSl r te tl th):=by
 intro pins s σ H Q I h
 refine Subscript_ (thn (he pins s σ H _ I h) λv s1 ⟨x,H1,I1,r1,q1⟩=>?_)
 refine wpAny_Slice (thn (hl pins s1 σ H1 _ I1 q1) λvl s2 ⟨l,H2,I2,pl,q2⟩=>thn (hu pins s2 σ H2 _ I2 q2) λvu s3 ⟨u,H3,I3,pu,q3⟩=>?_)
 rw [evalPart_none]
 refine wpAny_pure ?_
 have I4:Inv X pins σ H3 { s3 with heap:=s3.heap.push { cls:=.type "slice", data:=.fields #[vl,vu,.none] } }:=I3.kept (t':=s3.toks) λb ob q=>Heap.get?_push_of_some _ q
 obtain ⟨T,id,hT,ht,hg⟩:=hr pins { s3 with heap:=s3.heap.push { cls:=.type "slice", data:=.fields #[vl,vu,.none] } } σ H3 x v vl vu l u s3.heap.objs.size Q I4 r1 (Heap.IsSliceOf.new ..) pl pu q3
 show wpAny (model X.prog X.w) X.A (subscriptTail e (.Slice lo hi none p2) v (.ref s3.heap.objs.size)) (EP X pins σ Q) X.xe { s3 with heap:=s3.heap.push { cls:=.type "slice", data:=.fields #[vl,vu,.none] } }
 exact tail_any (ops:=[.ref s3.heap.objs.size,v]) ht hT hg (by with_unfolding_all rfl)
def Zdi (xs:List V) (lo hi:Option Int):List V:=(xs.drop (HT.sIx xs.length 0 lo)).take (HT.sIx xs.length xs.length hi-HT.sIx xs.length 0 lo)
theorem ZcZ (xs:List V) (lo hi:Option Int):(Zdi xs lo hi).length<=xs.length:=by
 unfold Zdi
 rw [List.length_take,List.length_drop]
 omega
def Zph (K:PySem.W.Frag):V->Option Int->Option Int->Hp->VK->Prop:=λx lo hi H Q=>∃ a xs,x=.ref a/\SqT K H a xs /\
 ¬ (HT.sIx xs.length 0 lo=0/\HT.sIx xs.length xs.length hi=xs.length)/\∀ p,H p=none->Q (.ref p) (upd H p (.tup (Zdi xs lo hi)))
def Zpi (K:PySem.W.Frag):R2:=λx y H Q=>∃ a b ns ms,x=.ref a/\y=.ref b/\SqT K H a (ns.map V.int)/\SqT K H b (ms.map V.int)/\Q (.bl (HT.lexLt ns ms)) H
def Zou (K:PySem.W.Frag):R2:=λx y H Q=>∃ a b xs ys,x=.ref a/\y=.ref b/\SqT K H a xs/\SqT K H b ys/\xs≠[]/\xs.length+ys.length<=sizeLine /\
 (ys=[]->Q (.ref a) H)/\(ys≠[]->∀ p,H p=none->Q (.ref p) (upd H p (.tup (xs++ys))))
end
end L2
namespace L2
open PySem PySem.Spec PyProof.Rows
def ixN (n:Nat) (i:Int):Option Nat:=if 0<=i then (if i<n then some i.toNat else none) else if -(n:Int)<=i then some (i+n).toNat else none
def atI {α:Type} (xs:List α) (i:Int):Option α:=(ixN xs.length i).bind λj=>xs[j]?
theorem ZeU {n:Nat} {i:Int} {j:Nat} (h:ixN n i=some j):seqIndex? i n=some j/\j<n/\-(n:Int)<=i/\i<n:=by
 unfold ixN at h
 by_cases h0:0<=i
 ·rw [if_pos h0] at h
  by_cases h1:i<n
  ·rw [if_pos h1] at h
   have e:i.toNat=j:=Option.some.inj h
   exact ⟨by rw [seqIndex_of h0 h1,e],by omega,by omega,h1⟩
  ·rw [if_neg h1] at h;cases h
 ·rw [if_neg h0] at h
  by_cases h1:-(n:Int)<=i
  ·rw [if_pos h1] at h
   have e:(i+n).toNat=j:=Option.some.inj h
   exact ⟨by rw [seqIndex_neg (by omega) h1,e],by omega,h1,by omega⟩
  ·rw [if_neg h1] at h;cases h
theorem ZgM {α:Type} {xs:List α} {i:Int} {v:α} (h:atI xs i=some v):∃ j,seqIndex? i xs.length=some j/\xs[j]?=some v/\j<xs.length/\-(xs.length:Int)<=i/\i<xs.length:=by
 unfold atI at h
 cases e:ixN xs.length i with
 | none=>rw [e] at h;cases h
 | some j=>
  rw [e] at h
  obtain ⟨h1,h2,h3,h4⟩:=ZeU e
  exact ⟨j,h1,h,h2,h3,h4⟩
theorem Zam {α:Type} {xs:List α} {j:Nat} {v:α} (h:xs[j]?=some v):atI xs (j:Int)=some v:=by
 have hj:j<xs.length:=(List.getElem?_eq_some_iff.mp h).1
 have e:ixN xs.length (j:Int)=some j:=by
  unfold ixN
  rw [if_pos (by omega),if_pos (by omega)];simp
 unfold atI;rw [e];exact h
def ZjJ (b:Expr):Prop:=∀ o i,subscripted b false o i=operate [o,i] (getItem o i)
def IxR (X:Cx) (r:R2):Prop:=
 ∀ (value slice:Expr) (pins:List (Addr×Obj)) (s:Shared) (σ:St) (H:Hp) (x y:V) (v u:Value) (Q:VK),Inv X pins σ H s->RelV x v->RelV y u->r x y H Q ->
  subscripted slice false v u=operate [v,u] (getItem v u)->wpAny (model X.prog X.w) X.A (subscriptTail value slice v u) (EP X pins σ Q) X.xe s
def MtR (X:Cx) (id:String) (r:V->List V->Hp->VK->Prop):Prop:=
 ∀ (pins:List (Addr×Obj)) (s:Shared) (σ:St) (H:Hp) (x:V) (xs:List V) (v:Value) (us:List Value) (Q:VK),Inv X pins σ H s->RelV x v->Vals xs us->r x xs H Q ->
  wpAny (model X.prog X.w) X.A (call (.builtin id) (v::us)) (EP X pins σ Q) X.xe s
section
variable {X:Cx} {a b:Expr} {ta tb:TE} {pos:Pos}
theorem ZaB {r:R2} (hr:IxR X r) (ha:PE X a ta) (hb:PE X b tb) (hs:ZjJ b):PE X (.Subscript a b pos) (tOp r ta tb):=by
 intro pins s σ H Q I h
 exact Subscript_ (ZmN ha hb I h λv u s2 x y H2 I2 rx ry q=>hr a b pins s2 σ H2 x y v u Q I2 rx ry q (hs _ _))
def ZmV (K:PySem.W.Frag):R2:=λx y H Q=>∃ p xs i v,x=.ref p/\y=.int i/\SqL K H p xs/\atI xs i=some v/\Q v H
def ZmW (K:PySem.W.Frag):R2:=λx y H Q=>∃ p xs i v,x=.ref p/\y=.int i/\SqT K H p xs/\atI xs i=some v/\Q v H
def Zov:R2:=λx y H Q=>∃ z i c,x=.str z/\y=.int i/\z.length<=sizeLine/\atI z.cps.toList i=some c/\Q (.str ⟨#[c]⟩) H
theorem ZeV:IxR X (ZmV X.K):=by
 intro value slice pins s σ H x y v u Q I rx ry h hs
 obtain ⟨p,xs,i,z,rfl,rfl,hq,he,q⟩:=h
 cases rx
 obtain ⟨t,rfl⟩:=ry
 obtain ⟨its,r,pl,hz⟩:=I.list hq
 obtain ⟨j,h1,h2,h3,h4,h5⟩:=ZgM he
 obtain ⟨w,ew,rw'⟩:=r.get h2
 have hl:=r.length
 have hn:=Zee
 have fin:EP X pins σ Q w s:=⟨z,H,I,rw',q⟩
 by_cases h0:0<=i
 ·have hj:i.toNat=j:=by
   rw [seqIndex_of h0 h5] at h1
   exact Option.some.inj h1
  exact item_listR pl.isList h0 (by omega) (by rw [hj];simpa using ew) fin hs
 ·have hj:(i+(its.toArray.size:Int)).toNat=j:=by
   rw [seqIndex_neg (by omega) h4] at h1
   rw [List.size_toArray,<-hl]
   exact Option.some.inj h1
  exact subscriptTail_builtinR (x:=w) pl.isList.typeIs slot_list_getitem.lookup
   (wpAny_getItem_list_neg (Q:=λr s'=>r=w/\EP X pins σ Q r s') pl.isList (by omega) (by rw [List.size_toArray] <;> omega) (by omega) (by rw [hj];simpa using ew) ⟨rfl,fin⟩) hs
theorem Zlg:IxR X (ZmW X.K):=by
 intro value slice pins s σ H x y v u Q I rx ry h hs
 obtain ⟨p,xs,i,z,rfl,rfl,hq,he,q⟩:=h
 cases rx
 obtain ⟨t,rfl⟩:=ry
 obtain ⟨its,r,pl,hz⟩:=I.tuple hq
 obtain ⟨j,h1,h2,h3,h4,h5⟩:=ZgM he
 obtain ⟨w,ew,rw'⟩:=r.get h2
 have hl:=r.length
 have hn:=Zee
 have fin:EP X pins σ Q w s:=⟨z,H,I,rw',q⟩
 exact subscriptTail_builtinR (x:=w) pl.typeIs slot_tuple_getitem.lookup
  (getItem_tuple (j:=j) (Q:=λr s'=>r=w/\EP X pins σ Q r s') pl (by omega) (by omega) (by rw [List.size_toArray,<-hl];exact h1) (by simpa using ew) ⟨rfl,fin⟩) hs
def rIx (K:PySem.W.Frag):R2:=λx y H Q=>ZmV K x y H Q\/ZmW K x y H Q\/Zov x y H Q
theorem Zf4 (its:List Value) (n j:Nat) (u:Value):Obj.mapSeq (·.setIfInBounds j u) { cls:=.type "list", data:=.seq its.toArray n }={ cls:=.type "list", data:=.seq (its.set j u).toArray n }:=by
 simp [Obj.mapSeq]
theorem Inv.lst {pins:List (Addr×Obj)} {σ:St} {H:Hp} {s:Shared} {p:Addr} {xs:List V} (I:Inv X pins σ H s) (h:H p=some (.lst xs)) :
  ∃ (its:List Value) (n:Nat),Vals xs its/\s.heap.get? p=some { cls:=.type "list", data:=.seq its.toArray n }/\xs.length<=sizeLine:=by
 obtain ⟨z,its,n,r,e⟩:=I.hok p _ h
 exact ⟨its,n,r,e,z⟩
theorem Inv.lstUpd {pins:List (Addr×Obj)} {σ:St} {H:Hp} {s:Shared} {p:Addr} {xs ys:List V} {its its':List Value} {n n':Nat} {f:Obj->Obj} (I:Inv X pins σ H s) (h:H p=some (.lst xs))
  (ho:s.heap.get? p=some { cls:=.type "list", data:=.seq its.toArray n }) (hf:f { cls:=.type "list", data:=.seq its.toArray n }={ cls:=.type "list", data:=.seq its'.toArray n' }) (r:Vals ys its') (hz:ys.length<=sizeLine) (t:Nat) :
  Inv X pins σ (upd H p (.lst ys)) { s with heap:=s.heap.update p f,toks:=t }:=by
 have e:(s.heap.update p f).get? p=some { cls:=.type "list", data:=.seq its'.toArray n' }:=by
  rw [Heap.get?_update_self f ho (by rw [hf] <;> rfl),hf]
 refine I.write (x:=p) (e:=p) (by rw [h];trivial) (.inl rfl) (λb u hb q=>(Heap.get?_update_other _ _ (Ne.symm hb)).trans q) ⟨_,e⟩ ?_
 exact ⟨hz,its',n',r,e⟩
def ZmX:V->V->V->Hp->(Hp->Prop)->Prop:=λo i v H Q=>∃ p xs k j,o=.ref p/\i=.int k/\H p=some (.lst xs)/\ixN xs.length k=some j/\Q (upd H p (.lst (xs.set j v)))
theorem Zh3:ZnC X ZmX:=by
 intro pins s σ H o i v ov iv u Q I ro ri rv h
 obtain ⟨p,xs,k,j,rfl,rfl,hp,hj,q⟩:=h
 cases ro
 obtain ⟨t,rfl⟩:=ri
 obtain ⟨its,n,r,ho,hz⟩:=I.lst hp
 obtain ⟨h1,h2,h3,h4⟩:=ZeU hj
 have hl:=r.length
 have hn:=Zee
 have I':Inv X pins σ (upd H p (.lst (xs.set j v))) { s with heap:=s.heap.update p (Obj.mapSeq (·.setIfInBounds j u)) }:=
  I.lstUpd hp ho (Zf4 its n j u) (r.set rv j) (by rw [List.length_set];exact hz) s.toks
 by_cases h0:0<=k
 ·have hk:k.toNat=j:=by
   rw [seqIndex_of h0 h4] at h1
   exact Option.some.inj h1
  exact PySem.W.ki_setAt ho h0 (by omega) (by rw [List.size_toArray,<-hl];exact h4) (by rw [hk];exact ⟨_,I',q⟩)
 ·have hk:(k+(its.toArray.size:Int)).toNat=j:=by
   rw [seqIndex_neg (by omega) h3] at h1
   rw [List.size_toArray,<-hl]
   exact Option.some.inj h1
  exact PySem.W.ki_setBack ho (by omega) (by rw [List.size_toArray,<-hl];exact h3) (by omega) (by rw [hk];exact ⟨_,I',q⟩)
theorem Zek (lo hi:Option Int) (n:Nat):(sliceBounds lo hi none n).1=((HT.sIx n 0 lo:Nat):Int)/\(sliceBounds lo hi none n).2.1=((HT.sIx n n hi:Nat):Int)/\(sliceBounds lo hi none n).2.2=1:=by
 refine ⟨?_,?_,rfl⟩
 ·cases lo with
  | none=>simp [sliceBounds,HT.sIx]
  | some i=>
   simp only [sliceBounds,HT.sIx,Option.getD_none,show (1:Int) > 0 by decide,if_true]
   by_cases h:i<0
   ·simp only [h,if_true] <;> omega
   ·simp only [h,if_false] <;> omega
 ·cases hi with
  | none=>simp [sliceBounds,HT.sIx]
  | some i=>
   simp only [sliceBounds,HT.sIx,Option.getD_none,show (1:Int) > 0 by decide,if_true]
   by_cases h:i<0
   ·simp only [h,if_true] <;> omega
   ·simp only [h,if_false] <;> omega
theorem ZdE (its:List Value) (lo hi:Option Int):slicePick its.toArray lo hi none=((its.drop (HT.sIx its.length 0 lo)).take (HT.sIx its.length its.length hi-HT.sIx its.length 0 lo)).toArray:=by
 obtain ⟨h1,h2,h3⟩:=Zek lo hi its.toArray.size
 unfold slicePick
 rw [h1,h2,h3]
 simp only [sliceRange_one,pick_run,List.size_toArray] <;> rfl
def ZnK (K:PySem.W.Frag):V->Option Int->Option Int->Hp->VK->Prop:=λx lo hi H Q=>∃ a xs,x=.ref a/\SqL K H a xs/\∀ p,H p=none->Q (.ref p) (upd H p (.lst (Zdi xs lo hi)))
theorem ZjK:SlR X (ZnK X.K):=by
 intro pins s σ H x v vl vu lo hi sl Q I rx hs pl pu h
 obtain ⟨a,xs,rfl,hx,q⟩:=h
 cases rx
 obtain ⟨its,r,ht,hz⟩:=I.list hx
 have hlen:=r.length
 refine ⟨"list", _,slot_list_getitem.lookup,ht.isList.typeIs,?_⟩
 refine wpAny_getItem_list_slice ht.isList hs pl pu .none (by simp) ?_ (by rw [List.size_toArray] <;> omega)
 rw [ZdE,<-hlen]
 refine ⟨.ref s.heap.objs.size,_,I.laid (t':=s.toks) (o:=.lst (Zdi xs lo hi)) (λb ob q=>Heap.get?_push_of_some _ q) (Nat.le_refl _) ?_,rfl,q _ (I.hok.fresh (Nat.le_refl _))⟩
 exact ⟨Nat.le_trans (ZcZ xs lo hi) hz,_,0,(r.drop (HT.sIx xs.length 0 lo)).take (HT.sIx xs.length xs.length hi-HT.sIx xs.length 0 lo),Heap.get?_push_size _ rfl⟩
def ZdF:V->Bool
 | .non=>true
 | .bl _=>true
 | .int _=>true
 | .str _=>true
 | _=>false
def eqV:V->V->Bool
 | .non,.non=>true
 | .bl a,.bl b=>a == b
 | .bl a,.int b=>(if a then 1 else 0) == b
 | .int a,.bl b=>a == (if b then 1 else 0)
 | .int a,.int b=>a == b
 | .str a,.str b=>a == b
 | _,_=>false
theorem Zlh {A:Around} {s:Shared} {y x:V} {u v:Value} (ry:RelV y u) (rx:RelV x v) (fy:ZdF y=true) (fx:ZdF x=true):SeqAt.EqAt A s u v (eqV y x):=by
 cases y with
 | non=>
  cases ry
  cases x with
  | non=>cases rx;exact SeqAt.EqAt.same _
  | bl b=>cases rx;exact SeqAt.EqAt.none_bool b
  | int b=>obtain ⟨t,rfl⟩:=rx;exact SeqAt.EqAt.none_int b t
  | str b=>obtain ⟨t,rfl⟩:=rx;exact SeqAt.EqAt.none_str b t
  | _=>exact absurd (show false=true from fx) Bool.false_ne_true
 | bl a=>
  cases ry
  cases x with
  | non=>cases rx;exact SeqAt.EqAt.bool_none a
  | bl b=>cases rx;exact SeqAt.EqAt.bool_bool a b
  | int b=>obtain ⟨t,rfl⟩:=rx;exact SeqAt.EqAt.bool_int a b t
  | str b=>obtain ⟨t,rfl⟩:=rx;exact SeqAt.EqAt.bool_str a b t
  | _=>exact absurd (show false=true from fx) Bool.false_ne_true
 | int a=>
  obtain ⟨t',rfl⟩:=ry
  cases x with
  | non=>cases rx;exact SeqAt.EqAt.int_none a t'
  | bl b=>cases rx;exact SeqAt.EqAt.int_bool a t' b
  | int b=>obtain ⟨t,rfl⟩:=rx;exact SeqAt.EqAt.int_int a t' b t
  | str b=>obtain ⟨t,rfl⟩:=rx;exact SeqAt.EqAt.int_str a t' b t
  | _=>exact absurd (show false=true from fx) Bool.false_ne_true
 | str a=>
  obtain ⟨t',rfl⟩:=ry
  cases x with
  | non=>cases rx;exact SeqAt.EqAt.str_none a t'
  | bl b=>cases rx;exact SeqAt.EqAt.str_bool a t' b
  | int b=>obtain ⟨t,rfl⟩:=rx;exact SeqAt.EqAt.str_int a t' b t
  | str b=>obtain ⟨t,rfl⟩:=rx;exact SeqAt.EqAt.str_str a t' b t
  | _=>exact absurd (show false=true from fx) Bool.false_ne_true
 | _=>exact absurd (show false=true from fy) Bool.false_ne_true
def eqU (x:V) (u:Value):Bool:=match u with
 | .none=>eqV .non x
 | .bool b=>eqV (.bl b) x
 | .int i _=>eqV (.int i) x
 | .str z _=>eqV (.str z) x
 | _=>false
theorem Zi2 {x y:V} {u:Value} (r:RelV y u) (f:ZdF y=true):eqU x u=eqV y x:=by
 cases y with
 | non=>cases r;rfl
 | bl b=>cases r;rfl
 | int i=>obtain ⟨t,rfl⟩:=r;rfl
 | str z=>obtain ⟨t,rfl⟩:=r;rfl
 | _=>exact absurd (show false=true from f) Bool.false_ne_true
theorem Zc0 {x:V}:∀ {xs:List V} {us:List Value},Vals xs us->xs.all ZdF=true->us.any (eqU x)=xs.any λy=>eqV y x
 | _,_,.nil,_=>rfl
 | y::xs,u::us,.cons r t,f=>by
  rw [List.all_cons,Bool.and_eq_true] at f
  rw [List.any_cons,List.any_cons,Zi2 r f.1,Zc0 t f.2]
theorem Zcc {A:Around} {s:Shared} {x:V} {v:Value} (rx:RelV x v) (fx:ZdF x=true):∀ {xs:List V} {us:List Value},Vals xs us->xs.all ZdF=true->∀ u∈us,SeqAt.EqAt A s u v (eqU x u)
 | _,_,.nil,_=>λu hu=>by cases hu
 | y::xs,u::us,.cons r t,f=>λu' hu=>by
  rw [List.all_cons,Bool.and_eq_true] at f
  rcases List.mem_cons.mp hu with rfl | hu
  ·rw [Zi2 r f.1];exact Zlh r rx f.1 fx
  ·exact Zcc rx fx t f.2 u' hu
def inV (x:V) (xs:List V):Bool:=xs.any λy=>eqV y x
def rIn (K:PySem.W.Frag) (neg:Bool):R2:=λx y H Q=>∃ p xs,y=.ref p/\(SqL K H p xs\/SqT K H p xs)/\ZdF x=true/\xs.all ZdF=true/\Q (.bl (if neg then !inV x xs else inV x xs)) H
theorem ZgN:OpR X (compareOp .In) (rIn X.K false):=by
 intro pins s σ H x y v u Q I rx ry h
 obtain ⟨p,xs,rfl,hq,fx,fs,q⟩:=h
 cases ry
 rcases hq with hq | hq
 ·obtain ⟨its,r,pl,hz⟩:=I.list hq
  refine SeqAt.in_listAt (eqU x) pl.isList (λw hw=>Zcc rx fx r fs w (by simpa using hw)) ⟨.bl _,H,I,rfl,?_⟩
  rw [show its.toArray.any (eqU x)=its.any (eqU x) by simp,Zc0 r fs]
  exact q
 ·obtain ⟨its,r,pl,hz⟩:=I.tuple hq
  refine SeqAt.in_tupleAt (eqU x) pl (λw hw=>Zcc rx fx r fs w (by simpa using hw)) ⟨.bl _,H,I,rfl,?_⟩
  rw [show its.toArray.any (eqU x)=its.any (eqU x) by simp,Zc0 r fs]
  exact q
theorem Zel:OpR X (compareOp .NotIn) (rIn X.K true):=by
 intro pins s σ H x y v u Q I rx ry h
 obtain ⟨p,xs,rfl,hq,fx,fs,q⟩:=h
 cases ry
 rcases hq with hq | hq
 ·obtain ⟨its,r,pl,hz⟩:=I.list hq
  refine SeqAt.notIn_listAt (eqU x) pl.isList (λw hw=>Zcc rx fx r fs w (by simpa using hw)) ⟨.bl _,H,I,rfl,?_⟩
  rw [show its.toArray.any (eqU x)=its.any (eqU x) by simp,Zc0 r fs]
  exact q
 ·obtain ⟨its,r,pl,hz⟩:=I.tuple hq
  refine SeqAt.notIn_tupleAt (eqU x) pl (λw hw=>Zcc rx fx r fs w (by simpa using hw)) ⟨.bl _,H,I,rfl,?_⟩
  rw [show its.toArray.any (eqU x)=its.any (eqU x) by simp,Zc0 r fs]
  exact q
theorem Zem:ZbW X (.builtin "len") (λxs H Q=>∃ p ys,xs=[.ref p]/\(SqL X.K H p ys\/SqT X.K H p ys)/\Q (.int ys.length) H):=by
 intro pins s σ H xs us Q I r h
 obtain ⟨p,ys,rfl,hq,q⟩:=h
 obtain ⟨u,rfl,rx⟩:=Zh2 r
 cases rx
 have hn:=Zee
 rcases hq with hq | hq
 ·obtain ⟨its,r',pl,hz⟩:=I.list hq
  have hlen:=r'.length
  exact Calls.call_len_list pl.isList (by simp only [List.size_toArray] <;> omega) ⟨.int ys.length,H,I.tok _,⟨s.toks+1,by rw [List.size_toArray,hlen]⟩,q⟩
 ·obtain ⟨its,r',pl,hz⟩:=I.tuple hq
  have hlen:=r'.length
  exact len_tuple pl (by simp only [List.size_toArray] <;> omega) ⟨.int ys.length,H,I.tok _,⟨s.toks+1,by rw [List.size_toArray,hlen]⟩,q⟩
theorem Zen:ZbW X (.type "list") (λxs H Q=>∃ p ys,xs=[.ref p]/\(SqL X.K H p ys\/SqT X.K H p ys)/\∀ l,H l=none->Q (.ref l) (upd H l (.lst ys))):=by
 intro pins s σ H xs us Q I r h
 obtain ⟨p,ys,rfl,hq,q⟩:=h
 obtain ⟨u,rfl,rx⟩:=Zh2 r
 cases rx
 have fin:∀ (its:List Value),Vals ys its->ys.length<=sizeLine->∀ (h':Heap) (c':Nat),(∀ b o',s.heap.get? b=some o'->h'.get? b=some o') ->
   h'.get? s.heap.objs.size=some { cls:=.type "list", dict:=none,data:=.seq its.toArray c',slots:=#[] }->EP X pins σ Q (.ref s.heap.objs.size) { s with heap:=h' }:=λits r' hz h' c' kp e=>
  ⟨.ref s.heap.objs.size,_,I.laid (t':=s.toks) kp (Nat.le_refl _) (show ObjOk X.prog X.w _ h' _ (.lst ys) from ⟨hz,its,c',r',e⟩),rfl,q _ (I.hok.fresh (Nat.le_refl _))⟩
 rcases hq with hq | hq
 ·obtain ⟨its,r',pl,hz⟩:=I.list hq
  have hlen:=r'.length
  obtain ⟨o,ho,hc,n,hd⟩:=pl.isList
  exact call_list_seq p (.inl rfl) ho hc hd (λh' c' kp e=>fin its r' hz h' c' kp e) (by simp only [List.size_toArray] <;> omega)
 ·obtain ⟨its,r',pl,hz⟩:=I.tuple hq
  have hlen:=r'.length
  obtain ⟨o,ho,hc,n,hd⟩:=pl
  exact call_list_seq p (.inr rfl) ho hc hd (λh' c' kp e=>fin its r' hz h' c' kp e) (by simp only [List.size_toArray] <;> omega)
def tyV (K:PySem.W.Frag) (T:String) (x:V) (H:Hp):Prop:=match x with
 | .str _=>T = "str"
 | .int _=>T = "int"
 | .ref p=>(T = "list" /\ ∃ xs,SqL K H p xs)\/(T = "tuple" /\ ∃ o,K.lookup p=some o/\o.cls=.type "tuple" /\ o.dict=none) \/
   (T = "dict" /\ ((∃ kvs,H p=some (.dK kvs))\/∃ kvs,H p=some (.dT kvs)))\/(T = "set" /\ ∃ S n,H p=some (.set S n))
 | _=>False
theorem Zi3 {pins:List (Addr×Obj)} {σ:St} {H:Hp} {s:Shared} {T:String} {x:V} {v:Value} (I:Inv X pins σ H s) (r:RelV x v) (ty:tyV X.K T x H) :
  s.TypeIs v T/\∀ a,v=.ref a->∃ ob,s.heap.get? a=some ob/\ob.dict=none:=by
 cases x with
 | str z=>
  obtain ⟨t,rfl⟩:=r
  cases (show T = "str" from ty)
  exact ⟨typeIs_str s z t,λ_ e=>nomatch e⟩
 | int i=>
  obtain ⟨t,rfl⟩:=r
  cases (show T = "int" from ty)
  exact ⟨typeIs_int s i t,λ_ e=>nomatch e⟩
 | ref p=>
  cases r
  rcases ty with ⟨rfl,xs,hq⟩ | ⟨rfl,o,hk,hc,hd⟩ | ⟨rfl,hk⟩ | ⟨rfl,S,n,hk⟩
  ·obtain ⟨its,_,pl,_⟩:=I.list hq
   refine ⟨pl.isList.typeIs,λa e=>?_⟩
   cases e
   obtain ⟨o,n,e,c,hd,_⟩:=pl
   exact ⟨o,e,hd⟩
  ·refine ⟨⟨o,I.kIn p o hk,hc⟩,λa e=>?_⟩
   cases e
   exact ⟨o,I.kIn _ o hk,hd⟩
  ·have z:∃ o,s.heap.get? p=some o/\o.ExactDict:=by
    rcases hk with ⟨kvs,hk⟩ | ⟨kvs,hk⟩
    ·obtain ⟨_,_,_,_,o,_,_,e,ex,_⟩:=I.hok p _ hk
     exact ⟨o,e,ex⟩
    ·obtain ⟨_,_,_,_,o,_,_,e,ex,_⟩:=I.hok p _ hk
     exact ⟨o,e,ex⟩
   obtain ⟨o,e,ex⟩:=z
   refine ⟨⟨o,e,ex.1⟩,λa e2=>?_⟩
   cases e2
   exact ⟨o,e,ex.2.1⟩
  ·obtain ⟨o,_,_,_,e,ex,_⟩:=I.hok p _ hk
   refine ⟨⟨o,e,ex.1⟩,λa e2=>?_⟩
   cases e2
   exact ⟨o,e,ex.2.1⟩
 | _=>exact False.elim ty
def Zow (K:PySem.W.Frag) (T:String) (r:V->List V->Hp->VK->Prop) (to:TE):TE:=λσ H Q=>to σ H λx H1=>tyV K T x H1/\r x [] H1 Q
def tBM (K:PySem.W.Frag) (T:String) (r:V->List V->Hp->VK->Prop) (to:TE) (t:TA):TE:=λσ H Q=>to σ H λx H1=>tyV K T x H1/\t σ H1 λxs H2=>r x xs H2 Q
variable {o e:Expr} {es:List Expr} {to:TE} {t:TA} {name:Str} {apos cpos:Pos} {T id:String} {r:V->List V->Hp->VK->Prop}
theorem Zi4 (pa:PlainAttrs T) (slot:Slot T name id) (hty:typeOf (.builtin id)=pure (.type "method_descriptor")) (hm:MtR X id r) (ho:PE X o to)
  (hbase:attributeBase o name X.env (eval o X.env)=eval o X.env:=by rfl) (hline:(apos.endLine == cpos.line)=true:=by rfl):PE X (.Call (.Attribute o name apos) [] [] cpos) (Zow X.K T r to):=by
 intro pins s σ H Q I h
 refine wpAny_Call_method0_late hbase hline (thn (ho pins s σ H _ I h) λv s1 ⟨x,H1,I1,r1,ty,q1⟩=>?_)
 obtain ⟨h1,h2⟩:=Zi3 I1 r1 ty
 exact ⟨T,id,pa,slot,hty,h1,h2,Calls.callWith_builtin rfl (PySem.evalArgs_none (hm pins s1 σ H1 x [] v [] Q I1 r1 .nil q1))⟩
theorem Zcd (pa:PlainAttrs T) (slot:Slot T name id) (hty:typeOf (.builtin id)=pure (.type "method_descriptor")) (hm:MtR X id r) (ho:PE X o to) (ha:PA X (e::es) t)
  (hbase:attributeBase o name X.env (eval o X.env)=eval o X.env:=by rfl)
  (hfew:((backTo cpos (starEach (e::es) X.env)).all (λx=>!x.1) && (backToKw cpos (keywordEach [] X.env)).all (λx=>x.1.isSome)
   && decide ((e::es).length+([]:List Keyword).length+(if ([]:List Keyword).isEmpty then 0 else 1)<30))=true:=by rfl)
  (hline:(apos.endLine == cpos.line)=true:=by rfl) (hs:starEach (e::es) X.env=(false,eval e X.env)::starEach es X.env:=by rfl) (hplain:(backTo cpos (starEach es X.env)).any (·.1)=false:=by rfl) :
  PE X (.Call (.Attribute o name apos) (e::es) [] cpos) (tBM X.K T r to t):=by
 intro pins s σ H Q I h
 refine wpAny_Call_method_late hbase hfew hline rfl (thn (ho pins s σ H _ I h) λv s1 ⟨x,H1,I1,r1,ty,q1⟩=>?_)
 obtain ⟨h1,h2⟩:=Zi3 I1 r1 ty
 refine ⟨T,id,pa,slot,hty,h1,h2,?_⟩
 have hA:=ha cpos pins s1 σ H1 _ I1 q1
 rw [hs] at hA ⊢
 refine Calls.callWith_builtin (by show (false || (backTo cpos (starEach es X.env)).any (·.1))=false;rw [hplain] <;> rfl) (Calls.evalArgs_plain ?_)
 exact thn hA λus s2 ⟨vs,H2,I2,r2,q2⟩=>hm pins s2 σ H2 x vs v us Q I2 r1 r2 q2
/- xs.append(e),list.index on a module's tuple .. are MtR facts of 06m -/
end
end L2
namespace L2
open PySem PySem.Spec PyProof.Rows
def MtM (X:Cx) (id:String) (r:V->List V->Hp->VK->Prop):Prop:=
 ∀ (pins:List (Addr×Obj)) (s:Shared) (σ:St) (H:Hp) (x:V) (xs:List V) (v:Value) (us:List Value) (Q:VK),Inv X pins σ H s->RelV x v->Vals xs us->r x xs H Q ->
  wpAny (model X.prog X.w) X.A (call (.builtin id) (v::us)) (EP X pins σ Q) X.xe s
theorem Vals.one:∀ {x:V} {us:List Value},Vals [x] us->∃ u,us=[u]/\RelV x u
 | _,_,.cons r .nil=>⟨_,rfl,r⟩
theorem Vals.two:∀ {x y:V} {us:List Value},Vals [x,y] us->∃ u v,us=[u,v]/\RelV x u/\RelV y v
 | _,_,_,.cons r (.cons q .nil)=>⟨_,_,rfl,r,q⟩
theorem Vals.zero:∀ {us:List Value},Vals [] us->us=[]
 | _,.nil=>rfl
theorem Vals.dropLast {xs:List V} {us:List Value} (h:Vals xs us):Vals xs.dropLast us.dropLast:=by
 induction h with
 | nil=>exact .nil
 | cons r t ih=>
  cases t with
  | nil=>exact .nil
  | cons q t'=>exact .cons r ih
theorem Vals.eraseIdx:∀ {xs:List V} {us:List Value} (i:Nat),Vals xs us->Vals (xs.eraseIdx i) (us.eraseIdx i)
 | _,_,_,.nil=>.nil
 | _,_,0,.cons _ t=>t
 | _,_,i+1,.cons r t=>.cons r (Vals.eraseIdx i t)
theorem Zf5 {α:Type} (l:List α):l.eraseIdx (l.length-1)=l.dropLast:=by
 induction l with
 | nil=>rfl
 | cons a r ih=>
  cases r with
  | nil=>rfl
  | cons b r=>
   have e:(a::b::r).length-1=((b::r).length-1)+1:=by
    have h1:(a::b::r).length=r.length+2:=rfl
    have h2:(b::r).length=r.length+1:=rfl
    omega
   rw [e,List.eraseIdx_cons_succ,ih]
   all_goals rfl
theorem Zc1 {α:Type}:∀ (l:List α) (i:Nat),(l.eraseIdx i).length<=l.length
 | [],_=>Nat.le_refl _
 | _::_,0=>Nat.le_succ _
 | _::r,i+1=>Nat.succ_le_succ (Zc1 r i)
section
variable {X:Cx} {pins:List (Addr×Obj)} {σ:St} {H:Hp} {s:Shared} {l b:Addr} {xs ys zs:List V}
theorem Inv.lset {its its':List Value} {n:Nat} {f:Array Value->Array Value} {t':Nat} (I:Inv X pins σ H s) (hH:H l=some (.lst xs))
  (e:s.heap.get? l=some { cls:=.type "list", data:=.seq its.toArray n }) (hf:f its.toArray=its'.toArray) (hv:Vals ys its') (hz:ys.length<=sizeLine) :
  Inv X pins σ (upd H l (.lst ys)) { s with heap:=s.heap.update l (Obj.mapSeq f),toks:=t' }:=by
 have q:=PySem.IsL.update e f
 rw [hf] at q
 refine I.write (x:=l) (e:=l) (by rw [hH];exact trivial) (.inl rfl) (λb' u hb hu=>(Heap.get?_update_other s.heap (Obj.mapSeq f) (Ne.symm hb)).trans hu) ⟨_,q⟩ ?_
 exact ⟨hz,its',_,hv,q⟩
theorem Inv.lnew {its:List Value} {t':Nat} (I:Inv X pins σ H s) (hv:Vals ys its) (hz:ys.length<=sizeLine) :
  Inv X pins σ (upd H s.heap.objs.size (.lst ys)) { s with heap:=s.heap.push { cls:=.type "list", data:=.seq its.toArray },toks:=t' }:=
 I.laid (λ_ _ q=>Heap.get?_push_of_some _ q) (Nat.le_refl _) ⟨hz,its,0,hv,Heap.get?_push_size _ rfl⟩
theorem Inv.fresh (I:Inv X pins σ H s):H s.heap.objs.size=none:=I.hok.fresh (Nat.le_refl _)
theorem Inv.lstM (I:Inv X pins σ H s) (hH:H l=some (.lst xs)):xs.length<=sizeLine/\∃ (its:List Value) (n:Nat),Vals xs its/\xs.length=its.length/\s.heap.get? l=some { cls:=.type "list", data:=.seq its.toArray n }:=by
 obtain ⟨z,its,n,r,e⟩:=I.hok l _ hH
 exact ⟨z,its,n,r,r.length,e⟩
theorem Zh4 {n:Nat} (h:n<=sizeLine):Builtin.List.listTooLong n=false:=by
 unfold Builtin.List.listTooLong
 exact decide_eq_false (by omega)
end
section
variable {X:Cx}
def ZjL:V->List V->Hp->VK->Prop:=λx vs H Q=>∃ l xs y,x=.ref l/\vs=[y]/\H l=some (.lst xs)/\xs.length<sizeLine/\Q .non (upd H l (.lst (xs++[y])))
theorem ZaO:MtM X "list.append" ZjL:=by
 intro pins s σ H x vs v us Q I rx rv h
 obtain ⟨l,xs,y,rfl,rfl,hH,hz,q⟩:=h
 cases rx
 obtain ⟨u,rfl,ru⟩:=rv.one
 obtain ⟨z,its,n,r,hl,e⟩:=I.lstM hH
 refine call_meets F.slot_list_append ⟨_,e,rfl⟩ F.entry_list_append (F.args_list_append_2 _ _) (PySem.list_append l its.toArray n u (by rw [List.size_toArray];omega)) ⟨e,?_⟩
 refine ⟨.non,_,I.lset (its':=its++[u]) hH e (by simp) (r.append (.cons ru .nil)) ?_,rfl,q⟩
 rw [List.length_append,List.length_singleton]
 omega
def ZjM:V->List V->Hp->VK->Prop:=λx vs H Q=>∃ l b xs zs,x=.ref l/\vs=[.ref b]/\H l=some (.lst xs)/\H b=some (.lst zs)/\xs.length+zs.length<=sizeLine/\Q .non (upd H l (.lst (xs++zs)))
theorem ZgO:MtM X "list.extend" ZjM:=by
 intro pins s σ H x vs v us Q I rx rv h
 obtain ⟨l,b,xs,zs,rfl,rfl,hH,hB,hz,q⟩:=h
 cases rx
 obtain ⟨u,rfl,ru⟩:=rv.one
 cases ru
 obtain ⟨z,its,n,r,hl,e⟩:=I.lstM hH
 obtain ⟨z2,its2,n2,r2,hl2,e2⟩:=I.lstM hB
 have hsz:its.toArray.size+its2.toArray.size<=sizeLine:=by rw [List.size_toArray,List.size_toArray];omega
 have hlong:¬ (!its.toArray.isEmpty && Builtin.List.listTooLong (its.toArray.size+its2.toArray.size))=true:=by
  rw [Zh4 hsz,Bool.and_false]
  exact Bool.false_ne_true
 refine call_meets F.slot_list_extend ⟨_,e,rfl⟩ F.entry_list_extend (F.args_list_extend_2 _ _)
  (AutoSeq1.list_extend_list_list_0 l its.toArray n b its2.toArray n2 hlong (by rw [List.size_toArray];omega) (by omega)) ⟨e,e2,?_⟩
 refine ⟨.non,_,I.lset (its':=its++its2) hH e (by simp) (r.append r2) ?_,rfl,q⟩
 rw [List.length_append]
 omega
def Zox:V->List V->Hp->VK->Prop:=λx vs H Q=>∃ l xs y,x=.ref l/\vs=[]/\H l=some (.lst xs)/\xs[xs.length-1]?=some y/\Q y (upd H l (.lst xs.dropLast))
theorem Zi5:MtM X "list.pop" Zox:=by
 intro pins s σ H x vs v us Q I rx rv h
 obtain ⟨l,xs,y,rfl,rfl,hH,hy,q⟩:=h
 cases rx
 have hus:=rv.zero
 subst hus
 obtain ⟨z,its,n,r,hl,e⟩:=I.lstM hH
 obtain ⟨u,hu,ru⟩:=r.get hy
 have hy':its.toArray[its.toArray.size-1]?=some u:=by
  show its.toArray[its.length-1]?=some u
  rw [<-Array.getElem?_toList,<-hl]
  exact hu
 refine call_meets F.slot_list_pop ⟨_,e,rfl⟩ F.entry_list_pop (F.args_list_pop_1 _) (MeetsSeq.list_pop_last l its.toArray n u hy' (by rw [List.size_toArray];omega)) ⟨e,?_⟩
 refine ⟨y,_,I.lset (its':=its.dropLast) hH e ?_ r.dropLast ?_,ru,q⟩
 ·show its.toArray.eraseIdxIfInBounds (its.toArray.size-1)=its.dropLast.toArray
  rw [List.size_toArray,List.eraseIdxIfInBounds_toArray,Zf5]
 ·rw [List.length_dropLast]
  omega
def Zli:V->List V->Hp->VK->Prop:=λx vs H Q=>∃ l xs i k y,x=.ref l/\vs=[.int i]/\H l=some (.lst xs)/\-(2 ^ 63)<=i/\i<2 ^ 63/\seqIndex? i xs.length=some k/\xs[k]?=some y/\Q y (upd H l (.lst (xs.eraseIdx k)))
theorem Zh5:MtM X "list.pop" Zli:=by
 intro pins s σ H x vs v us Q I rx rv h
 obtain ⟨l,xs,i,k,y,rfl,rfl,hH,h1,h2,hk,hy,q⟩:=h
 cases rx
 obtain ⟨u,rfl,ru⟩:=rv.one
 obtain ⟨t,rfl⟩:=ru
 obtain ⟨z,its,n,r,hl,e⟩:=I.lstM hH
 obtain ⟨w,hw,rw'⟩:=r.get hy
 refine call_meets F.slot_list_pop ⟨_,e,rfl⟩ F.entry_list_pop (F.args_list_pop_2 _ _)
  (MeetsSeq.list_pop_at l its.toArray n i t k w (fitsIndex_both h1 h2) (by rw [List.size_toArray,<-hl];exact hk) (by rw [<-Array.getElem?_toList];exact hw) (by rw [List.size_toArray];omega)) ⟨e,?_⟩
 refine ⟨y,_,I.lset (its':=its.eraseIdx k) hH e ?_ (r.eraseIdx k) ?_,rw',q⟩
 ·show its.toArray.eraseIdxIfInBounds k=(its.eraseIdx k).toArray
  rw [List.eraseIdxIfInBounds_toArray]
 ·have:=Zc1 xs k
  omega
def ZmC:V->List V->Hp->VK->Prop:=λx vs H Q=>∃ l xs,x=.ref l/\vs=[]/\H l=some (.lst xs)/\Q .non (upd H l (.lst xs.reverse))
def ZnL:V->List V->Hp->VK->Prop:=λx vs H Q=>∃ l xs,x=.ref l/\vs=[]/\H l=some (.lst xs)/\Q .non (upd H l (.lst []))
def Zoy:R2:=λx y H Q=>∃ l b xs zs,x=.ref l/\y=.ref b/\H l=some (.lst xs)/\H b=some (.lst zs)/\xs.length+zs.length<=sizeLine/\∀ p,H p=none->Q (.ref p) (upd H p (.lst (xs++zs)))
theorem Zeo:OpR X (binaryOp .Add) Zoy:=by
 intro pins s σ H x y v u Q I rx ry h
 obtain ⟨l,b,xs,zs,rfl,rfl,hH,hB,hz,q⟩:=h
 cases rx
 cases ry
 obtain ⟨z,its,n,r,hl,e⟩:=I.lstM hH
 obtain ⟨z2,its2,n2,r2,hl2,e2⟩:=I.lstM hB
 refine PySem.P.add_list e e2 ?_ (by rw [List.size_toArray,List.size_toArray];omega)
 have ea:its.toArray++its2.toArray=(its++its2).toArray:=by simp
 rw [ea]
 exact ⟨.ref _,_,I.lnew (t':=s.toks) (r.append r2) (by rw [List.length_append];omega),rfl,q _ I.fresh⟩
def Zpj:R2:=λx y H Q=>∃ l k xs,x=.ref l/\y=.int k/\H l=some (.lst xs)/\-(2 ^ 63)<=k/\k<2 ^ 63/\xs.length * k.toNat<=sizeLine /\
 ∀ p,H p=none->Q (.ref p) (upd H p (.lst (List.replicate k.toNat xs).flatten))
end
section
variable {prog:Program} {w:World} {A:Around} {E:Value->Shared->Prop} {s:Shared}
end
section
variable {X:Cx}
end
end L2
namespace Att
open PySem PySem.W PySem.Calls PyProof.Rows
theorem Zc2 {P:Params} {h:Heap}:∀ (ns:List Int) (vs:List Value),WellAll P h vs (ns.map WData.int)->IntsAre vs ns:=by
 intro ns
 induction ns with
 | nil=>
  intro vs w
  rw [List.map_nil] at w
  cases w
  exact .nil
 | cons n ns ih=>
  intro vs w
  rw [List.map_cons] at w
  cases w with
  | cons a b=>
   cases a
   exact .cons _ _ (ih _ b)
theorem ZgP {l:OpenLaw} {n:Nat} (hn:l.most=some n) {P:Params} {h:Heap} {args:List WData} {vals:List Value}
  (hpre:l.row.toRowW.claim.pre args=true) (hwl:WellAll P h vals args) :
  ∃ a vs ns,vals=[Value.ref a]/\args=[WData.list (ns.map WData.int)]/\h.get? a=some { cls:=.type "list", data:=.seq vs.toArray }/\IntsAre vs ns/\ns.length<=n:=by
 have hsh:WShape.hasAll [] args [.list .int]=true:=(pre_splitW hpre).1
 have hc:l.pre.holds [] { args:=args }=true:=(pre_splitW hpre).2
 obtain ⟨d,r,rfl,h1,h2⟩:=hasAllW_cons hsh
 obtain rfl:=hasAllW_nil h2
 obtain ⟨xs,rfl,h3⟩:=hasW_list h1
 obtain ⟨ns,rfl⟩:=items_int h3
 have hlen:ns.length<=n:=by
  unfold OpenLaw.pre at hc
  have h4:(WTm.not (.lt (.lit (.int (n:Int))) (.len (.arg 0)))).holds [] { args:=[.list (ns.map .int)] }=true:=by
   have h4:=(holds_andW hc).1
   rw [hn] at h4
   exact h4
  have h5:=condW_of h4 (w_not (w_lt w_lit (w_len_list (w_arg rfl))))
  rw [List.length_map] at h5
  refine Nat.le_of_not_lt λq=>?_
  have q':(n:Int)<((ns.length:Nat):Int):=by omega
  first
   | (rw [decide_eq_true q'] at h5;exact absurd h5 (by decide))
   | (simp at h5;omega)
 cases hwl with
 | cons w1 w2=>
  cases w2
  cases w1 with
  | list ho hall=>exact ⟨_,_,ns,rfl,rfl,ho,Zc2 ns _ hall,hlen⟩
theorem ZgQ (l:OpenLaw) (args:List WData):l.row.toRowW.claim.post args (.bool true) args=true:=
 postW_of (r:=l.row.toRowW) (X:=(true == true))
  (show WShape.has [] (.bool true) .bool=true by first | rfl | decide | simp [WShape.has,WShape.arms,WShape.armsAll])
  (show (WTm.eq .res (.lit (.bool true))).value [] { args:=args,res:=some (.bool true),after:=args }=some (.bool (true == true)) from w_eq_bool (w_res rfl) w_lit) rfl
theorem attach_call {l:OpenLaw} {n:Nat} {q:Program} {loose:List Str} {XP:(Str->Option Value)->Heap->Prop} {YP:World->Heap->Prop} {d:DefRec}
  (hn:l.most=some n) (hdf:d.params.defaults=[])
  (call:∀ (w:World) (s₀ s₁:Shared) (mg mb:Str->Option Value) (fa:Addr) (o:Obj) (pm cd doc:Value) (a:Addr) (vs:List Value) (ns:List Int),
   Ground q loose [] XP w s₀ mg mb s₁.heap->YP w s₁.heap ->
   s₁.heap.get? fa=some o->o.data=.func (docDef d.name d.params d.body d.scope pm cd doc)->s₁.heap.CodeRec cd d.name->mg d.name=some (.ref fa) ->
   s₁.heap.get? a=some { cls:=.type "list", data:=.seq vs.toArray }->IntsAre vs ns->ns.length<=n->s₁.gens=#[] ->
   codeAny (model l.prog w) callerA (.call (.ref fa) ⟨[.ref a],[]⟩) (λr s'=>r=.ok (.ret (.bool true))/\OldK s₁.heap s'.heap/\s'.os=s₁.os/\AllBare s'.gens) s₁) :
  WalkO q loose XP YP l.row.toRowW d [] (λf vs=>PySem.call f vs):=by
 intro w s₀ s₁ mg mb G Y fa o pm cd doc dV kV ho hd hcd hD hmg hg args vals as hpre hlay hrd hwl hlo
 obtain rfl:dV=.none:=Dflts.none hD hdf
 obtain rfl:kV=.none:=Dflts.noKw hD
 obtain ⟨a,vs,ns,rfl,rfl,hobj,hints,hlen⟩:=ZgP hn hpre hwl
 refine enter_call (codeAny_mono (call w s₀ s₁ mg mb fa o pm cd doc a vs ns G Y ho (fd_plain hd) hcd hmg hobj hints hlen hg) λr s' hq=>?_)
 obtain ⟨rfl,h2,h3,h4⟩:=hq
 exact ⟨.inl ⟨.bool true,.bool true,[],rfl,λ_=>rfl,.bool true,ZgQ l _,λ_=>⟨List.Pairwise.nil,λ_ hm=>(nomatch hm)⟩⟩,h2,h3,h4⟩
section
variable {prog:Program} {w:World} {A:Around} {E:Value->Shared->Prop} {s:Shared} {K:Frag}
def ZnM (h:Heap):Heap:={ h with objs:=#[] }
def ZnN (h:Heap) (L d:Addr):List (Addr×Obj):=(List.range h.objs.size).filterMap λa=>if a=L\/a=d then none else (h.get? a).map λo=>(a,o)
end
end Att
namespace L2
open PySem PySem.Spec PyProof.Rows
theorem Zc3:∀ {vs:List Value} {ns:List Int},IntsAre vs ns->Vals (ns.map V.int) vs
 | _,_,.nil=>.nil
 | _,_,.cons n t h=>.cons ⟨t,rfl⟩ (Zc3 h)
def ZmY (H:Hp):Prop:=∀ b,H b=none\/∃ o xs,H b=some (.frz o (.lst xs))
theorem Zh6 {P:Program} {w:World} {K:PySem.W.Frag} {mg mb:Str->Option Value} {CX:CXT} {k:Nat} {fa a:Addr} {fd:FuncData} {x:Str} {sp:Sp} {s₁:Shared} {vs:List Value} {ns:List Int}
  (KX:K.In s₁.heap) (hns:s₁.heap.Ns mainGlobals mg) (hb:s₁.heap.Ns builtinsNs mb) (hbb:∀ x:Str,x ≠ "__name__" -> mb x=bootBuiltins x) (hlim:s₁.heap.NoLimit) (hg:s₁.gens=#[])
  (ha:s₁.heap.get? a=some { cls:=.type "list", data:=.seq vs.toArray }) (hi:IntsAre vs ns) (hl:ns.length<=sizeLine) (hr:Room k callerA)
  (F:∀ base:Heap,K.In base->base.Ns mainGlobals mg->ZaN P w K mg base CX k fa fd [x] sp) (hbind:∀ (s:Shared) (u:Value),BindsTo s fd ⟨[u],[]⟩ [(x,u)])
  (hsp:∀ H:Hp,ZmY H->SqL K H a (ns.map V.int)->sp [.ref a] H (λv _=>v=.bl true) λ_ _ _=>False)
  (hCX:∀ H e s',CX [] H s₁ (λ_ _ _=>False) e s'->False) :
  codeAny (model P w) callerA (.call (.ref fa) ⟨[.ref a],[]⟩) (λr s'=>r=.ok (.ret (.bool true))/\OldK s₁.heap s'.heap/\s'.os=s₁.os/\AllBare s'.gens) s₁:=by
 have rv:=Zc3 hi
 have lenV:=hi.length
 have core:∀ H:Hp,ZmY H->SqL K H a (ns.map V.int)->HOk P w H s₁.heap->(∀ b,H b≠none->b=a)->(H a≠none->K.lookup a=none) ->
   codeAny (model P w) callerA (.call (.ref fa) ⟨[.ref a],[]⟩) (λr s'=>r=.ok (.ret (.bool true))/\OldK s₁.heap s'.heap/\s'.os=s₁.os/\AllBare s'.gens) s₁:=by
  intro H hO hS hok hA hK
  have base_of:∀ {b:Addr} {o:Obj},s₁.heap.get? b=some o->H b=none->(ZhX s₁.heap H).get? b=some o:=λe n=>ZhY e n
  have noA:∀ {b:Addr} {o:Obj} {es:Array DictEntry} {ep:Nat},s₁.heap.get? b=some o->o.data=.dict es ep->H b=none:=λ{b o es ep} e d=>by
   cases q:H b with
   | none=>rfl
   | some u=>
    have e':b=a:=hA b (by rw [q];simp)
    subst e'
    rw [ha] at e;cases e
    have d':Data.seq vs.toArray _=Data.dict es ep:=d
    cases d'
  have nsK:∀ {b:Addr} {m:Str->Option Value},s₁.heap.Ns b m->(ZhX s₁.heap H).Ns b m:=λ{b m} ⟨o,es,ep,e,d,r⟩=>⟨o,es,ep,base_of e (noA e d),d,r⟩
  have hKb:K.In (ZhX s₁.heap H):=λb o e=>base_of (KX b o e) (by
   cases q:H b with
   | none=>rfl
   | some u=>
    have e':b=a:=hA b (by rw [q];simp)
    subst e'
    rw [hK (by rw [q];simp)] at e;cases e)
  have hM:Mod K mg (ZhX s₁.heap H):=⟨hKb,nsK hns,⟨mb,nsK hb,hbb⟩,let ⟨mc,h1,h2⟩:=hlim;⟨mc,nsK h1,h2⟩⟩
  have e0:ZmB P w K mg (ZhX s₁.heap H) callerA [] s₁ H:=⟨rfl,hM,λb o e=>ZjA e,Nat.le_of_eq (Zgu _ _),trivial,λb hb=>absurd (show b∈([]:List Addr) from hb) (by simp),hok,.of_eq hg⟩
  refine codeAny_mono ((F _ hKb (nsK hns)).run callerA [] s₁ H ⟨[.ref a],[]⟩ [.ref a] [.ref a] _ _ hr e0 (hbind s₁ (.ref a)) (.cons rfl .nil) (hsp H hO hS)) λr s' h=>?_
  cases r with
  | error e=>exact (hCX H e s' h).elim
  | ok fl=>
   cases fl with
   | next=>exact False.elim h
   | brk=>exact False.elim h
   | cont=>exact False.elim h
   | ret u=>
    obtain ⟨v,H',os,bare,un,hok',r',q⟩:=h
    have q':v=.bl true:=q
    subst q'
    obtain rfl:u=Value.bool true:=r'
    refine ⟨rfl,OldK.of_keep λb o e=>?_,os,bare⟩
    cases q:H b with
    | none=>exact un.keep b o e q (by intro z;exact absurd (show b∈([]:List Addr) from z) (by simp)) (by simp)
    | some u=>
     rcases hO b with z | ⟨ob,xs,z⟩
     ·rw [q] at z;cases z
     ·have z2:=un.frzs b ob _ z
      obtain ⟨e1,_⟩:=hok b _ z
      obtain ⟨e2,_⟩:=hok' b _ z2
      rw [e] at e1;cases e1
      exact e2
 cases hk:K.lookup a with
 | some o=>
  have e:=KX a o hk
  rw [ha] at e
  cases e
  refine core (λ_=>none) (λ_=>.inl rfl) (.inr ⟨_,vs.toArray,_,hk,rfl,rfl,rfl,by rw [List.size_toArray,lenV];exact hl,by simpa using rv⟩) (λb u z=>by have z':(none:Option HO)=some u:=z;cases z') (λb z=>absurd rfl z) λz=>absurd rfl z
 | none=>
  refine core (λb=>if b=a then some (.frz { cls:=.type "list", data:=.seq vs.toArray } (.lst (ns.map V.int))) else none) (λb=>?_) (.inl (.inr ⟨{ cls:=.type "list", data:=.seq vs.toArray },if_pos rfl⟩)) (λb u z=>?_) (λb z=>?_) λ_=>hk
  ·by_cases hb:b=a
   ·exact .inr ⟨_,_,if_pos hb⟩
   ·exact .inl (if_neg hb)
  ·by_cases hb:b=a
   ·have z':=(if_pos hb).symm.trans z
    cases z'
    subst hb
    exact ⟨ha,by rw [List.length_map];exact hl,vs,_,rv,ha⟩
   ·have z':=(if_neg hb).symm.trans z
    cases z'
  ·by_cases hb:b=a
   ·exact hb
   ·exact absurd (if_neg hb) z
end L2
namespace L2
open PySem PySem.Spec PyProof.Rows
abbrev KOf {K:PySem.W.Frag} {h:Heap} (_:K.In h):PySem.W.Frag:=K
theorem walk_of {l:PySem.W.OpenLaw} {n k:Nat} {q:Program} {loose:List Str} {XP:(Str->Option Value)->Heap->Prop} {YP:World->Heap->Prop} {d:DefRec} {K:Params->PySem.W.Frag} {CX:World->CXT} {sp:World->Sp} {x:Str}
  (hn:l.most=some n) (hn2:n<=sizeLine) (hdf:d.params.defaults=[]) (hr:Room k callerA)
  (hY:∀ (w:World) (h:Heap),YP w h->(K w.params).In h)
  (F:∀ (w:World) (mg:Str->Option Value) (fa:Addr) (h:Heap),(K w.params).In h->h.Ns mainGlobals mg->mg d.name=some (.ref fa) ->
   ∃ fd:FuncData,(∀ (s:Shared) (u:Value),BindsTo s fd ⟨[u],[]⟩ [(x,u)]) /\
    ∀ base:Heap,(K w.params).In base->base.Ns mainGlobals mg->ZaN l.prog w (K w.params) mg base (CX w) k fa fd [x] (sp w))
  (hsp:∀ (w:World) (H:Hp) (a:Addr) (ns:List Int),ns.length<=n->ZmY H->SqL (K w.params) H a (ns.map V.int)->sp w [.ref a] H (λv _=>v=.bl true) λ_ _ _=>False)
  (hCX:∀ (w:World) (H:Hp) (s:Shared) (e:Value) (s':Shared),CX w [] H s (λ_ _ _=>False) e s'->False) :
  PySem.W.WalkO q loose XP YP l.row.toRowW d [] (λf vs=>PySem.call f vs):=by
 refine Att.attach_call hn hdf λw s₀ s₁ mg mb fa o pm cd doc a vs ns G Y ho hd hcd hmg hobj hints hlen hg=>?_
 have KX:=hY w _ Y
 obtain ⟨fd,hb,hF⟩:=F w mg fa _ KX G.T.g hmg
 exact Zh6 KX G.T.g G.T.b G.T.builtins G.T.nolimit hg hobj hints (Nat.le_trans hlen hn2) hr hF hb (λH hO hS=>hsp w H a ns hlen hO hS) λH e s'=>hCX w H s₁ e s'
end L2
/- THE LAST THEOREM (shape;LID,My.* are yours):
  My.Adr: a structure of the addresses that your layer names (classes,functions);My.Txt K t: a structure (Prop) of the equations over K;
  My.txt_mk:{K} {implicit addresses ..} (e1:nsIn K mainGlobals "law" = some (some (.ref f))) (e2:K.lookup f=some ⟨oc,od,.func (fnOf "law" "law" params body scope dV kV doc pm an cdv ct),sl⟩) (e3:codeIn K cdv "law" = true) ..:∃ t,My.Txt K t
set_option maxRecDepth 100000 in
set_option maxHeartbeats 0 in
theorem PySem.Challenge.cw_LID_holds:PySem.Challenge.rw_LID.Holds:=by
 w_on;o_law;k_head;(case hw=>w_witness2)
 k_fill
 refine L2.walk_of (l:=PySem.Challenge.rw_LID) (n:=63) (k:=40) (x := "script") (CX:=λw=>..) (sp:=λ_=>My.sp_law) rfl (by decide) rfl ⟨rfl,by decide,by decide⟩ (λw h Y=>PySem.W.kIn_of Y) ?F ?S ?C
 case F=>
  intro w mg fa h KX G hmg
  have T:∃ t,My.Txt (L2.KOf KX) t:=by
   dsimp only [L2.KOf]                          -- K must stand as «<heap const> w.params» for k_is
   refine' My.txt_mk ?e1 ?e2 ?e3 ..
   (case e1=>PySem.W.k_is)                    -- in the order: a name->its address->its object->its parts
   (case e2=>PySem.W.k_is)
   ..
  obtain ⟨t,T⟩:=T
  have e0:=hmg.symm.trans (PySem.W.mg_of KX G T.law)
  cases e0                                       -- fa is the law's own address
  exact ⟨_,λs u=>.of_eq rfl,λbase kb nb=>My.law_fn T kb nb⟩     -- if «.of_eq rfl» comes too early: refine' ⟨_,?b,λbase kb nb=>My.law_fn T kb nb⟩;exact λs u=>.of_eq rfl
 case S=>exact λw H a ns hl hO hS=>..
 case C=>exact ..
(the tactic k_is has no namespace: write k_is) -/
namespace L2
open PySem PySem.Spec PyProof.Rows
def ZmZ (s:Stmt) (j:Nat):Stmt:=match s with
 | .ClassDef _ _ _ body _ _ _ _ _ _ _=>body.getD j (.Pass ⟨0,0,0,0⟩)
 | _=>.Pass ⟨0,0,0,0⟩
def Zas (s:Stmt):Arguments:=match s with
 | .FunctionDef _ a _ _ _ _ _ _ _ _=>a
 | _=>{ posonlyargs:=[],args:=[],vararg:=none,kwonlyargs:=[],kw_defaults:=[],kwarg:=none,defaults:=[] }
def Zan (s:Stmt):List Stmt:=match s with
 | .FunctionDef _ _ b _ _ _ _ _ _ _=>b
 | _=>[]
def Zad (s:Stmt):Scope:=match s with
 | .FunctionDef _ _ _ _ _ _ sc _ _ _=>sc
 | _=>{ kind:=.function,names:=[],isGenerator:=false,isCoroutine:=false }
abbrev CX0:CXT:=λ_ _ _ _ _ _=>False
abbrev E0:XK:=λ_ _ _=>False
theorem ZaG {X:Cx}:Zef CX0 X E0:=λ_ _ _ _ _ _ _ h=>h.elim
structure Fun (K:PySem.W.Frag) (x qual:Str) (st:Stmt) (f:Addr) (fd:FuncData):Prop where
 ex:∃ (oc:Value) (od:Option Addr) (kV doc pm:Value) (an:Option Addr) (cdv ct:Value) (osl:Array (Option Value)),
  fd=PySem.W.fnOf x qual (Zas st) (Zan st) (Zad st) .none kV doc pm an cdv ct/\K.lookup f=some ⟨oc,od,.func fd,osl⟩/\PySem.W.codeIn K cdv qual=true
 kp:PySem.W.keepIn K (.ref f)=true
section
variable {P:Program} {w:World} {K:PySem.W.Frag} {mg:Str->Option Value} {base:Heap}
theorem Fun.ok {x qual:Str} {st:Stmt} {f:Addr} {fd:FuncData} {N ps:List Str} {k:Nat} {sp:Sp} (F:Fun K x qual st f fd) (S:Zaw N ps (Zad st)) (len:∀ vs H Q E,sp vs H Q E->vs.length=ps.length)
  (hbody:∀ (cdv:Value) (A:Around) (outer:List Env) (s:Shared) (H:Hp) (vs:List V) (Q:VK) (E:XK),Room k (A.deeper (envOfC qual (Zad st) s.heap.objs.size f cdv))->sp vs H Q E ->
   ∃ t,PSs (ZgK CX0 P w K mg base N qual (Zad st) f cdv A outer s H E).nox (Zan st) t/\t { nx:=λ_ H'=>Q .non H',rt:=Q } (start N vs) H):ZaN P w K mg base CX0 (k+1) f fd ps sp:=by
 obtain ⟨oc,od,kV,doc,pm,an,cdv,ct,osl,rfl,lk,hcd⟩:=F.ex
 refine ZjH lk hcd S len λA outer s H vs Q E hr hsp=>?_
 obtain ⟨t,h,q⟩:=hbody cdv A outer s H vs Q E hr hsp
 exact ⟨t,h.nox,q⟩
theorem Fun.binds {x qual:Str} {st:Stmt} {f:Addr} {fd:FuncData} {ps:List Str} (F:Fun K x qual st f fd)
  (h:∀ (kV doc pm:Value) (an:Option Addr) (cdv ct:Value) (us:List Value),us.length=ps.length->bindArgs (PySem.W.fnOf x qual (Zas st) (Zan st) (Zad st) .none kV doc pm an cdv ct) ⟨us,[]⟩=pure (ps.zip us)):Binds K fd ps []:=by
 obtain ⟨oc,od,kV,doc,pm,an,cdv,ct,osl,rfl,lk,hcd⟩:=F.ex
 exact .all (h kV doc pm an cdv ct)
theorem ZaJ {x qual:Str} {st:Stmt} {f:Addr} {oc:Value} {od an:Option Addr} {osl:Array (Option Value)} {kV doc pm cdv ct:Value} (l:K.lookup f=some ⟨oc,od,.func (PySem.W.fnOf x qual (Zas st) (Zan st) (Zad st) .none kV doc pm an cdv ct),osl⟩)
  (c:PySem.W.codeIn K cdv qual=true) (k:PySem.W.keepIn K (.ref f)=true):Fun K x qual st f (PySem.W.fnOf x qual (Zas st) (Zan st) (Zad st) .none kV doc pm an cdv ct):=⟨⟨oc,od,kV,doc,pm,an,cdv,ct,osl,rfl,l,c⟩,k⟩
end
section
variable {X:Cx}
theorem pv (i:Nat) {x:Str} {pos:Pos} (hN:X.N[i]?=some x:=by rfl) (hv:Vis X.env.scope x:=by first | exact Or.inl rfl | exact Or.inr (Or.inl rfl) | exact Or.inr (Or.inr rfl)) (hd:(x == ("__debug__" : Str))=false:=by decide)
  (hcd:(x == ("__classdict__" : Str))=false:=by decide):PE X (.Name x pos) (Zny i):=ZkZ hN hv hd hcd
end
theorem Zbw {A B:Prop} (h:B):if false=true then A else B:=by
 rw [if_neg Bool.false_ne_true]
 exact h
theorem Zce {A B:Prop} (h:A):if true=true then A else B:=by
 rw [if_pos rfl]
 exact h
theorem Zde {c A B:Prop} [Decidable c] (h1:c->A) (h2:¬ c->B):if c then A else B:=by
 by_cases h:c
 ·rw [if_pos h]
  exact h1 h
 ·rw [if_neg h]
  exact h2 h
def Same (H H':Hp):Prop:=∀ b o,H b=some o->H' b=some o
theorem Same.refl (H:Hp):Same H H:=λ_ _ h=>h
theorem Same.trans {H H1 H2:Hp} (a:Same H H1) (b:Same H1 H2):Same H H2:=λc o h=>b c o (a c o h)
theorem Same.free {H H':Hp} (e:Same H H') {l:Addr} (h:H' l=Option.none):H l=Option.none:=by
 cases q:H l with
 | none=>rfl
 | some o=>
  rw [e l o q] at h
  cases h
theorem Same.seq {K:PySem.W.Frag} {H H':Hp} {a:Addr} {xs:List V} (e:Same H H') (h:SqL K H a xs):SqL K H' a xs:=by
 rcases h with (h | ⟨o,h⟩) | h
 ·exact .inl (.inl (e _ _ h))
 ·exact .inl (.inr ⟨o,e _ _ h⟩)
 ·exact .inr h
end L2
namespace L2
open PySem PySem.Spec PyProof.Rows
section
variable {prog:Program} {w:World} {A:Around} {R:Result->Shared->Prop} {s:Shared}
theorem Zep {elt target iter:Expr} {ifs:List Expr} {scope:Scope} {pos:Pos} {it acc:Value} {env:Env} (I:Nat->Shared->Prop)
  (turn:∀ n s,I n s->wpAny (model prog w) A (pyNext it) (λr s1=>match r with
   | none=>R (.ok .next) s1
   | some v=>wpAny (model prog w) A (letOwnedTupleGo target it v) (λ_ s1'=>wpAny (model prog w) A (assign target env v) (λ_ s2=>
     wpAny (model prog w) A (forIn ifs true λc r=>if r=true then do let ok <- isTrue c env (eval c env);pure (ForInStep.yield ok) else pure (ForInStep.yield r)) (λok s3=>
      if ok=true then wpAny (model prog w) A (eval elt env) (λx s4=>
       wpAny (model prog w) A (call (.builtin "list.append") [acc,x]) (λ_ s5=>∃ m,m<n/\I m s5) (λ_ _=>False) s4) (λ_ _=>False) s3
      else ∃ m,m<n/\I m s3) (λ_ _=>False) s2) (λ_ _=>False) s1') (λ_ _=>False) s1) (λ_ _=>False) s)
  (n:Nat) (h:I n s) :
  codeAny (model prog w) A (.compLoop (.ListComp elt [⟨target,iter,ifs,0⟩] scope pos) 0 it acc env) R s:=by
 have ff:∀ {E:Value->Shared->Prop},∀ (x:Value) (s:Shared),(λ(_:Value) (_:Shared)=>False) x s->E x s:=λ_ _ z=>False.elim z
 refine codeAny_loop rfl I (λn s hI=>?_) n h
 show wpAny _ A ((compTurn (.ListComp elt [⟨target,iter,ifs,0⟩] scope pos) 0 it acc env).onRaise (λx=>do noteFrame x env;theTreesLotGoes x)) _ _ s
 refine wpAny_noted ?_
 rw [compTurn_list]
 refine wpAny_bind (wpAny_standAt (wpAny_bind (wpAny_mono (turn n s hI) (λr s1 h1=>?_) ff)))
 cases r with
 | none=>exact wpAny_pure h1
 | some v=>
  refine wpAny_bind (wpAny_mono h1 (λ_ s1' h1'=>?_) ff)
  refine wpAny_bind (wpAny_mono h1' (λ_ s2 h2=>wpAny_bind (wpAny_mono h2 (λok s3 h3=>?_) ff)) ff)
  cases ok with
  | false=>exact wpAny_pure ⟨rfl,h3⟩
  | true=>
   exact wpAny_bind (wpAny_bind (wpAny_mono h3 (λx s4 h4=>wpAny_bind (wpAny_mono h4 (λ_ s5 h5=>wpAny_pure (wpAny_pure ⟨rfl,h5⟩)) ff)) ff))
end
def Cx.comp (X:Cx) (scope:Scope) (cl:List (Str×Addr)) (N:List Str) (C:Addr) (s:Shared) (H:Hp) (fp:List Addr):Cx:=
 { X with N:=N,s₀:=s,H₀:=H,env:=compEnvC scope cl C X.env,outer:=X.stack,ex:=fp,fn:=λ_=>false,pn:=[],xe:=λ_ _=>False }
def Zlj (X:Cx) (ifs:List Expr) (t:TT):Prop:=
 ∀ (pins:List (Addr×Obj)) (s:Shared) (σ:St) (H:Hp) (Q:Bool->Hp->Prop),Inv X pins σ H s->t σ H Q ->
  wpAny (model X.prog X.w) X.A (forIn ifs true λc r=>if r=true then do let ok <- isTrue c X.env (eval c X.env);pure (ForInStep.yield ok) else pure (ForInStep.yield r)) (TP X pins σ Q) X.xe s
def ZjN:TT:=λ_ H Q=>Q true H
theorem ZbK {X:Cx}:Zlj X [] ZjN:=λ_ _ _ H _ I h=>wpAny_tests_nil ⟨H,I,h⟩
theorem Za9 {X:Cx} {c:Expr} {t:TT} (h:PT X c t):Zlj X [c] t:=λpins s σ H Q I hw=>wpAny_tests_one (h pins s σ H Q I hw)
structure Zbk (X:Cx) (scope:Scope) (cl:List (Str×Addr)) (own:List Str) (fr:List (Str×Nat)):Prop where
 clos:closureFor scope X.env=pure cl
 nocell:∀ y∈scope.names,y.2≠.cell
 kind:scope.kind=.function
 names:∀ y∈scope.names,y.2=.local->scope.names.lookup y.1=some .local
 cls:∀ y c,cl.lookup y=some c->X.env.cells.lookup y=some c
 has:∀ y,((relabel scope X.env).names.lookup y=some .cell\/(relabel scope X.env).names.lookup y=some .free)->∃ c,cl.lookup y=some c
 free:∀ p∈fr,X.N[p.2]?=some p.1/\(X.env.kindOf p.1=some .cell\/X.env.kindOf p.1=some .free)/\((relabel scope X.env).names.lookup p.1=some .cell\/(relabel scope X.env).names.lookup p.1=some .free)
def ZbZ (own:List Str) (fr:List (Str×Nat)) (σ:St):St:=own.map (λ_=>none)++fr.map λp=>(σ[p.2]?).join
def Zdo:St->St->Prop
 | [],[]=>True
 | none::r,_::r'=>Zdo r r'
 | some v::r,some v'::r'=>v=v'/\Zdo r r'
 | _,_=>False
theorem ZbL:∀ {a b:St},Zdo a b->∀ (i:Nat) (v:V),a[i]?=some (some v)->b[i]?=some (some v)
 | [],[],_,i,v,h=>by simp at h
 | [],_::_,z,_,_,_=>z.elim
 | none::r,[],z,_,_,_=>z.elim
 | some _::r,[],z,_,_,_=>z.elim
 | some _::r,none::_,z,_,_,_=>z.elim
 | none::r,_::r',z,0,v,h=>by simp at h
 | none::r,_::r',z,i+1,v,h=>by
  have:=ZbL (a:=r) (b:=r') z i v (by simpa using h)
  simpa using this
 | some x::r,some x'::r',z,0,v,h=>by
  obtain ⟨e,_⟩:=z
  subst e
  simpa using h
 | some x::r,some x'::r',z,i+1,v,h=>by
  have:=ZbL (a:=r) (b:=r') z.2 i v (by simpa using h)
  simpa using this
def Zcf (J:It) (D:Addr) (g:TG) (tc:TT) (te:TE) (σ0:St) (W:Nat->Nat->List V->Hp->Prop) (R:Hp->Prop):Prop:=
 ∀ i m ys H2,W i m ys H2->(J.stop i H2/\R H2)\/(J.go i H2/\∃ N:List V->Hp->Prop,(∀ ys' H',N ys' H'->∃ m',m'<m/\W (i+1) m' ys' H')/\∀ x H3,J.yld i H2 x H3->g x σ0 H3 λσ4 H4=>Zdo σ0 σ4/\tc σ4 H4 λb H5=>
  if b=true then te σ4 H5 λy H6=>H6 D=some (.lst ys)/\ys.length<sizeLine/\N (ys++[y]) (upd H6 D (.lst (ys++[y])))
  else N ys H5)
def Zlk (wi:TI) (g:TG) (tc:TT) (te:TE) (own:List Str) (fr:List (Str×Nat)):TE:=λσ H Q=>wi σ H λJ H1=>∀ D,H1 D=none ->
 ∃ W:Nat->Nat->List V->Hp->Prop,(∃ m,W 0 m [] (upd H1 D (.lst [])))/\Zcf J D g tc te (ZbZ own fr σ) W λH2=>Q (.ref D) H2
section
variable {X:Cx} {target iter elt:Expr} {ifs:List Expr} {scope:Scope} {cl:List (Str×Addr)} {own:List Str} {fr:List (Str×Nat)} {pos:Pos} {wi:TI} {g:TG} {tc:TT} {te:TE}
theorem Inv.sub_pins {pins pins':List (Addr×Obj)} {σ:St} {H:Hp} {s:Shared} (I:Inv X pins σ H s) (h:∀ p∈pins',p∈pins):Inv X pins' σ H s:=I.pins_of λp hp=>I.pin p (List.mem_append_right _ (h p hp))
theorem ZjO {pins:List (Addr×Obj)} {σ:St} {H:Hp} {s:Shared} {C:Addr} {fp:List Addr} (S:Zbk X scope cl own fr) (I:Inv X pins σ H s) (hf:∀ b∈fp,ZhU X pins H b) (hC:s.heap.objs.size<=C) (hfl:∀ b∈fp,b<s.heap.objs.size) :
  (X.comp scope cl (own++fr.map (·.1)) C s H fp).Ok:=by
 refine ⟨I.ok.mod,?_,I.ok.glob,I.ok.blt,hC,λx y c h1 h2=>I.ok.inj x y c (S.cls x c h1) (S.cls y c h2),S.has,λx c z=>absurd z (by simp [Cx.comp]),I.ok.hd,I.ok.frames,.inl rfl,
  λb hb=>⟨Nat.ne_of_lt (Nat.lt_of_lt_of_le (hfl b hb) hC),λx c h=>(hf b hb).2.2.2.2.1 x c (S.cls x c h)⟩,I.bs,Nat.le_trans I.ok.bsz I.sz,λb o e hb=>?_,λb hb z=>?_,I.stack,I.stkFree⟩
 ·show (relabel scope X.env).kind=.function
  exact S.kind
 ·rcases (hf b hb).2.2.2.1 with z | z
  ·exact I.ok.noex b o e z
  ·exact absurd (Nat.lt_of_lt_of_le (Heap.lt_size e) (Nat.le_trans I.ok.bsz z)) (Nat.lt_irrefl _)
 ·rcases List.mem_cons.mp (I.stkSub b z) with q | q
  ·exact (hf b hb).2.1 q
  ·exact (hf b hb).2.2.1 q
theorem Zdp (own:List Str) (fr:List (Str×Nat)) (σ:St):(ZbZ own fr σ).length=(own++fr.map (·.1)).length:=by
 unfold ZbZ
 simp
theorem Zdq {pins:List (Addr×Obj)} {σ:St} {H:Hp} {s:Shared} {it:Addr} {fp:List Addr} {tn:Nat->Heap->Prop} {J:It} {E:Value->Shared->Prop} {RR:Value->Addr->Result->Shared->Prop} {Rf:Addr->Hp->Prop}
  (hc:X.calm=true) (S:Zbk X scope cl own fr) (I:Inv X pins σ H s) (T:Zk4 X.prog X.w X.K target J fp it tn) (st:tn 0 s.heap) (hf:∀ b∈fp,ZhU X pins H b)
  (hg:∀ C s H fp,PG (X.comp scope cl (own++fr.map (·.1)) C s H fp) target g) (ht:∀ C s H fp,Zlj (X.comp scope cl (own++fr.map (·.1)) C s H fp) ifs tc) (he:∀ C s H fp,PE (X.comp scope cl (own++fr.map (·.1)) C s H fp) elt te)
  (hw:∀ D,H D=none->∃ W:Nat->Nat->List V->Hp->Prop,(∃ m,W 0 m [] (upd H D (.lst [])))/\Zcf J D g tc te (ZbZ own fr σ) W (Rf D))
  (hRR:∀ D C s' H',s.heap.objs.size<=C->C≠D->(∃ m,s'.heap.Ns C m)->H' C=none->Un (frs X.stack) fp H H' s.heap s'.heap->HOk X.prog X.w H' s'.heap->AllBare s'.gens->s'.os=s.os->Rf D H'->RR (.ref D) C (.ok .next) s') :
  wpAny (model X.prog X.w) X.A (newList []) (λacc s3=>wpAny (model X.prog X.w) X.A (newFunctionEnv scope X.env.globals cl [] X.env.qual none .none (some X.env)) (λcenv s4=>
   codeAny (model X.prog X.w) X.A (.compStart (.ListComp elt [⟨target,iter,ifs,0⟩] scope pos) 0 (.ref it) acc { cenv with scope:=relabel scope X.env }) (RR acc cenv.locals) s4) E s3) E s:=by
 have hfl:∀ b∈fp,b<s.heap.objs.size:=λb hb=>by
  obtain ⟨o,e,_⟩:=T.obj 0 s.heap st b hb
  exact Heap.lt_size e
 have hD:H s.heap.objs.size=none:=I.fresh
 obtain ⟨W,⟨m0,w0⟩,turns⟩:=hw s.heap.objs.size hD
 have I1:Inv X pins σ (upd H s.heap.objs.size (.lst [])) { s with heap:=s.heap.push { cls:=.type "list", data:=.seq ([]:List Value).toArray },toks:=s.toks }:=I.lnew .nil (Nat.zero_le _)
 refine wpAny_newObj_type (wpAny_newFunctionEnv S.nocell (by intro y hy;simp at hy) (λh1 hns1 hsb1=>?_) S.kind)
 dsimp only at hns1 hsb1 ⊢
 generalize hH2:s.heap.push { cls:=.type "list", dict:=none,data:=.seq ([]:List Value).toArray }=H2 at hns1 hsb1 ⊢ I1
 have hCs:H2.objs.size=s.heap.objs.size+1:=by rw [<-hH2,Heap.size_push]
 have hCle:s.heap.objs.size<=H2.objs.size:=by omega
 have hDC:s.heap.objs.size≠H2.objs.size:=by omega
 have up1:∀ b o,H2.get? b=some o->h1.get? b=some o:=λb o e=>hsb1.extBut b o (Nat.ne_of_lt (Heap.lt_size e)) (Heap.get?_push_of_some _ e)
 have up:∀ b o,s.heap.get? b=some o->h1.get? b=some o:=λb o e=>up1 b o (hH2▸Heap.get?_push_of_some _ e)
 have okY:=ZjO (C:=H2.objs.size) S I hf hCle hfl
 have I0:∀ tk,Inv (X.comp scope cl (own++fr.map (·.1)) H2.objs.size s H fp) [] (ZbZ own fr σ) (upd H s.heap.objs.size (.lst [])) { s with heap:=h1,toks:=tk }:=by
  intro tk
  have hok1:HOk X.prog X.w (upd H s.heap.objs.size (.lst [])) h1:=I1.hok.kept up1
  refine ⟨okY,rfl,I.bare,⟨λb o e n _ _=>up b o e,λb o e n _ _=>⟨o.slots,up b o e⟩,λb o e n _=>?_,λb o e _=>⟨o,up b o e⟩,λb xs q=>?_,λb o u q=>?_,λb ps q=>⟨#[],?_⟩⟩,
   ⟨_,hns1,λi x v e1 e2 e3=>?_⟩,λx c e=>?_,?_,λx c e=>?_,λp hp=>?_,hok1,Zdp own fr σ⟩
  ·have e':s.heap.get? b=some o:=e
   show upd H s.heap.objs.size (.lst []) b=none
   rw [Zao (Nat.ne_of_lt (Heap.lt_size e'))];exact n
  ·rw [Zao (Zai q hD)];exact q
  ·rw [Zao (Zai q hD)];exact q
  ·have q':H b=some (.tbl ps):=q
   rw [Zao (Zai q' hD),q'];simp
  ·-- the free names
   have e2':(ZbZ own fr σ)[i]?=some (some v):=e2
   have e1':(own++fr.map (·.1))[i]?=some x:=e1
   unfold ZbZ at e2'
   by_cases hi:i<own.length
   ·rw [List.getElem?_append_left (by simpa using hi),List.getElem?_map] at e2'
    cases q:own[i]? with
    | none=>rw [q] at e2';cases e2'
    | some y=>rw [q] at e2';cases e2'
   ·rw [List.getElem?_append_right (by simpa using hi),List.length_map,List.getElem?_map] at e2'
    rw [List.getElem?_append_right (by omega),List.getElem?_map] at e1'
    cases q:fr[i-own.length]? with
    | none=>rw [q] at e2';cases e2'
    | some p=>
     rw [q] at e1' e2'
     have ex:p.1=x:=Option.some.inj e1'
     have ev:(σ[p.2]?).join=some v:=Option.some.inj e2'
     have ev':σ[p.2]?=some (some v):=by
      cases z:σ[p.2]? with
      | none=>rw [z] at ev;cases ev
      | some o=>rw [z] at ev;cases o with
       | none=>cases ev
       | some v'=>have:v'=v:=Option.some.inj ev;rw [this]
     obtain ⟨f1,f2,f3⟩:=S.free p (List.mem_of_getElem? q)
     subst ex
     obtain ⟨m,hn,hl⟩:=I.loc
     have vis:Vis X.env.scope p.1:=by
      rcases f2 with f2 | f2
      ·exact .inr (.inl f2)
      ·exact .inr (.inr f2)
     obtain ⟨u,ru,lk⟩:=hl p.2 p.1 v f1 ev' vis
     refine ⟨u,ru,?_⟩
     rcases lk with ⟨k,_⟩ | ⟨k,c,e,z⟩
     ·rcases f2 with f2 | f2 <;> (rw [f2] at k;cases k)
     ·obtain ⟨c',hc'⟩:=S.has p.1 f3
      have e':=S.cls _ _ hc'
      rw [e] at e';cases e'
      obtain ⟨oc,ho,hd⟩:=z
      exact .inr ⟨f3,c,hc',⟨oc,up _ _ ho,hd⟩⟩
  ·obtain ⟨v,oc,ho,hd⟩:=I.cell x c (S.cls x c e)
   exact ⟨v,oc,up _ _ ho,hd⟩
  ·show upd H s.heap.objs.size (.lst []) H2.objs.size=none
   rw [Zao (Ne.symm hDC)]
   exact I.hok.fresh hCle
  ·obtain ⟨v,z⟩:=I.cell x c (S.cls x c e)
   show upd H s.heap.objs.size (.lst []) c=none
   rw [Zao (Nat.ne_of_lt z.lt)]
   exact I.freeC x c (S.cls x c e)
  ·exact absurd (show p∈([]:List (Addr×Obj)) from hp) (by simp)
 have fpf:∀ b∈fp,upd H s.heap.objs.size (.lst []) b=none:=λb hb=>by rw [Zao (Nat.ne_of_lt (hfl b hb))];exact (hf b hb).1
 have st1:tn 0 h1:=T.keep 0 _ _ st λb hb o e=>up b o e
 have stat:∀ {H':Hp},(∀ b∈fp,H' b=none)->∀ b∈fp,ZhU (X.comp scope cl (own++fr.map (·.1)) H2.objs.size s H fp) [] H' b:=λhn b hb=>
  ⟨hn b hb,(okY.exf b hb).1,okY.exfs b hb,.inl hb,(okY.exf b hb).2,λp hp=>absurd (show p∈([]:List (Addr×Obj)) from hp) (by simp)⟩
 have loop:∀ s3:Shared,(∃ tk,s3={ s with heap:=h1,toks:=tk }) ->
   codeAny (model X.prog X.w) X.A (.compLoop (.ListComp elt [⟨target,iter,ifs,0⟩] scope pos) 0 (.ref it) (.ref s.heap.objs.size) (compEnvC scope cl H2.objs.size X.env)) (RR (.ref s.heap.objs.size) H2.objs.size) s3:=by
  rintro s3 ⟨tk,rfl⟩
  refine Zep (λn s'=>∃ i ys H',Inv (X.comp scope cl (own++fr.map (·.1)) H2.objs.size s H fp) [] (ZbZ own fr σ) H' s'/\tn i s'.heap/\(∀ b∈fp,H' b=none)/\W i n ys H') ?_ m0 ⟨0,[],_,I0 tk,st1,fpf,w0⟩
  rintro n s4 ⟨i,ys,H4,I4,st4,fr4,w4⟩
  rcases turns i n ys H4 w4 with ⟨stop,q⟩ | ⟨go,N,hN,step⟩
  ·refine thn (T.done (X.comp scope cl (own++fr.map (·.1)) H2.objs.size s H fp) rfl rfl rfl hc i [] s4 _ H4 _ I4 (stat fr4) st4 stop) λr s5 ⟨hr,I5⟩=>?_
   subst hr
   exact hRR _ _ s5 H4 hCle (Ne.symm hDC) ⟨_,I5.loc.choose_spec.1⟩ I5.free I5.base I5.hok I5.bare I5.os q
  ·refine thn (T.item (X.comp scope cl (own++fr.map (·.1)) H2.objs.size s H fp) rfl rfl rfl hc i [] s4 _ H4 _ I4 (stat fr4) st4 go) λr s5 ⟨u,hr,h5⟩=>?_
   subst hr
   refine thn h5 λ_ s6 ⟨x,H6,I6,r6,y6,st6,fr6⟩=>?_
   have I6':=I6.pinned (stat fr6) (T.obj _ _ st6)
   refine thn (hg H2.objs.size s H fp _ s6 _ H6 x u _ I6' r6 (step x H6 y6)) λ_ s7 ⟨σ7,H7,I7,k7,q7⟩=>?_
   refine thn (ht H2.objs.size s H fp _ s7 σ7 H7 _ I7 q7) λok s8 ⟨H8,I8,q8⟩=>?_
   have again:∀ {s9:Shared} {σ9:St} {H9:Hp} {zs:List V},Inv (X.comp scope cl (own++fr.map (·.1)) H2.objs.size s H fp) ([]++Zeb fp s6.heap) σ9 H9 s9->(∀ (i:Nat) v,(ZbZ own fr σ)[i]?=some (some v)->σ9[i]?=some (some v))->(∃ m',m'<n/\W (i+1) m' zs H9) ->
     ∃ m,m<n/\∃ i ys H',Inv (X.comp scope cl (own++fr.map (·.1)) H2.objs.size s H fp) [] (ZbZ own fr σ) H' s9/\tn i s9.heap/\(∀ b∈fp,H' b=none)/\W i m ys H':=by
    intro s9 σ9 H9 zs I9 hσ ⟨m',hm,w9⟩
    refine ⟨m',hm,i+1,zs,H9,(I9.sub_pins (λp hp=>absurd (show p∈([]:List (Addr×Obj)) from hp) (by simp))).weak ?_ hσ,T.keep _ _ _ st6 λb hb o e=>(I9.pin (b,o) (List.mem_append_right _ (List.mem_append_right _ (ZbJ hb e)))).1,λb hb=>?_,w9⟩
    ·rw [I9.len];exact Zdp own fr σ
    ·obtain ⟨o,e,d⟩:=T.obj _ _ st6 b hb
     exact (I9.pin (b,o) (List.mem_append_right _ (List.mem_append_right _ (ZbJ hb e)))).2.1
   cases ok with
   | false=>exact (if_neg Bool.false_ne_true).mpr (again I8 (ZbL k7) (hN _ _ ((if_neg Bool.false_ne_true).mp q8)))
   | true=>
    refine (if_pos rfl).mpr ?_
    have q8':=(if_pos rfl).mp q8
    refine thn (he H2.objs.size s H fp _ s8 σ7 H8 _ I8 q8') λy s9 ⟨yv,H9,I9,r9,hD9,hz,q9⟩=>?_
    refine thn (ZaO _ s9 σ7 H9 (.ref s.heap.objs.size) [yv] (.ref s.heap.objs.size) [y] (λ_ H'=>H'=upd H9 s.heap.objs.size (.lst (ys++[yv]))) I9 rfl (.cons r9 .nil) ⟨_,ys,yv,rfl,rfl,hD9,hz,rfl⟩) λ_ s10 ⟨_,H10,I10,_,e10⟩=>?_
    subst e10
    exact again I10 (ZbL k7) (hN _ _ q9)
 exact codeAny_compStart_list (loop _ ⟨_,rfl⟩) (T.self _ 0 _ _ _ st1 (loop _ ⟨_,rfl⟩))
theorem Zdr {pins:List (Addr×Obj)} {σ:St} {H H':Hp} {s s':Shared} {fp:List Addr} (I:Inv X pins σ H s) (hf:∀ b∈fp,ZhU X pins H b) (un:Un (frs X.stack) fp H H' s.heap s'.heap)
  (hok:HOk X.prog X.w H' s'.heap) (bare:AllBare s'.gens) (os:s'.os=s.os):Inv X pins σ H' s':=
 I.call' os un hok bare λb hb=>⟨(hf b hb).2.2.2.1,(hf b hb).2.1,(hf b hb).2.2.2.2.1,(hf b hb).2.2.2.2.2⟩
theorem Zfs {pins:List (Addr×Obj)} {σ σ':St} {H H':Hp} {s s':Shared} {C:Addr} {h':Heap} (I:Inv X pins σ H s) (hC:s.heap.objs.size<=C) (hn:H' C=none) (I':Inv X pins σ' H' s') (sb:Heap.SameBut C s'.heap h') :
  Inv X pins σ' H' { s' with heap:=h' }:=by
 obtain ⟨f0,f1,f2,f3,f4,f5⟩:=I.fpOk hC hn
 exact I'.turned (t':=s'.toks) (λb o hb e=>(sb.2 b hb).trans e) f0 f1 f3 f4 f5
theorem Za2 (hc:X.calm=true) (S:Zbk X scope cl own fr) (hi:PI X target iter wi)
  (hg:∀ C s H fp,PG (X.comp scope cl (own++fr.map (·.1)) C s H fp) target g) (ht:∀ C s H fp,Zlj (X.comp scope cl (own++fr.map (·.1)) C s H fp) ifs tc) (he:∀ C s H fp,PE (X.comp scope cl (own++fr.map (·.1)) C s H fp) elt te)
  (hs:∀ x,foldedSetIterable iter X.env x=pure x:=by intro _;rfl):PE X (.ListComp elt [⟨target,iter,ifs,0⟩] scope pos) (Zlk wi g tc te own fr):=by
 intro pins s σ H Q I h
 rw [eval_ListComp]
 refine wpAny_comprehension_free (use:=none) rfl hs S.clos S.kind S.names (thn (hi pins s σ H _ I h) λv s1 h1=>thn h1 λitv s2 h2=>?_)
 obtain ⟨it,fp,tn,J,H2,e,I2,T,st2,f2,hw⟩:=h2
 subst e
 refine Zdq (RR:=λacc C=>compPost (model X.prog X.w) X.A X.xe none (EP X pins σ Q) acc C) hc S I2 T st2 f2 hg ht he hw ?_
 rintro D C s' H' hC hDC ⟨m,hn⟩ hCf un hok bare os q
 refine ⟨m,hn,λh' hs'=>⟨.ref D,H',?_,rfl,q⟩⟩
 exact Zfs (C:=C) (σ:=σ) I2 hC hCf (Zdr I2 f2 un hok bare os) hs'
theorem ZgR {i:Nat} {y:Str} {py spos:Pos} (hN:X.N.Nodup) (hi':X.N[i]?=some y) (hx:Loc X.env.scope y) (hc:X.calm=true) (S:Zbk X scope cl own fr) (hi:PI X target iter wi)
  (hg:∀ C s H fp,PG (X.comp scope cl (own++fr.map (·.1)) C s H fp) target g) (ht:∀ C s H fp,Zlj (X.comp scope cl (own++fr.map (·.1)) C s H fp) ifs tc) (he:∀ C s H fp,PE (X.comp scope cl (own++fr.map (·.1)) C s H fp) elt te)
  (hf:X.fn y=true\/X.env.scope.names.lookup y=some .local:=by first | exact .inl rfl | exact .inr rfl | assumption)
  (hsw:swapsWith (.ListComp elt [⟨target,iter,ifs,0⟩] scope pos) (some (.Name y py)) spos.line X.env=pure true:=by rfl)
  (hs:∀ x,foldedSetIterable iter X.env x=pure x:=by intro _;rfl):PS X (.Assign [.Name y py] (.ListComp elt [⟨target,iter,ifs,0⟩] scope pos) spos) (ZmL (Zlk wi g tc te own fr) (Zdg i)):=by
 intro pins s σ H Dn I h
 rw [exec_Assign_Name_used _ _ _ _ hsw]
 refine wpAny_bind (wpAny_standAt (wpAny_bind ?_))
 show wpAny _ X.A (do let _ <- comprehension (.ListComp elt [⟨target,iter,ifs,0⟩] scope pos) scope X.env _ (newList []) false (eval iter X.env) (some (assign (.Name y py) X.env))) _ _ s
 refine wpAny_bind (wpAny_mono (wpAny_comprehension_free (use:=some (assign (.Name y py) X.env)) (Q:=λ_ s'=>SP X pins Dn .next s') rfl hs S.clos S.kind S.names (thn (hi pins s σ H _ I h) λv s1 h1=>thn h1 λitv s2 h2=>?_))
  (λ_ s' hq=>wpAny_pure (wpAny_pure hq)) λ_ _ e=>e)
 obtain ⟨it,fp,tn,J,H2,e,I2,T,st2,f2,hw⟩:=h2
 subst e
 refine Zdq (RR:=λacc C=>compPost (model X.prog X.w) X.A X.xe (some (assign (.Name y py) X.env)) (λ_ s'=>SP X pins Dn .next s') acc C) hc S I2 T st2 f2 hg ht he hw ?_
 rintro D C s' H' hC hDC ⟨m,hn⟩ hCf un hok bare os q
 have I3:Inv X pins σ H' s':=Zdr I2 f2 un hok bare os
 show wpAny _ X.A (assign (.Name y py) X.env (.ref D)) _ _ s'
 refine wpAny_assign_Name (Zd9 I3 hN hi' hx (v:=.ref D) rfl (λs4 I4 ⟨a,hsa,ha⟩=>?_) hf)
 have hCa:C≠a:=by
  rcases ha with z | z
  ·rw [z];exact Nat.ne_of_gt (Nat.lt_of_lt_of_le I2.lt hC)
  ·obtain ⟨v,q⟩:=I2.cell y a z
   exact Nat.ne_of_gt (Nat.lt_of_lt_of_le q.lt hC)
 refine ⟨m,hn.sameBut hsa hCa,λh' hs'=>⟨_,H',Zfs (C:=C) (σ:=σ) I2 hC hCf I4 hs',q⟩⟩
end
theorem ZaR {K:PySem.W.Frag} {a D:Addr} {xs:List V} {g:TG} {tc:TT} {te:TE} {σ0:St} {R:Hp->Prop} {H1:Hp} (Pv:Nat->List V->Hp->Prop) (h0:Pv 0 [] (upd H1 D (.lst []))) (hl:∀ i ys H,i<=xs.length->Pv i ys H->SqL K H a xs)
  (hs:∀ i x ys H,xs[i]?=some x->Pv i ys H->g x σ0 H λσ4 H4=>Zdo σ0 σ4/\tc σ4 H4 λb H5=>if b=true then te σ4 H5 λy H6=>H6 D=some (.lst ys)/\ys.length<sizeLine/\Pv (i+1) (ys++[y]) (upd H6 D (.lst (ys++[y]))) else Pv (i+1) ys H5)
  (hd:∀ ys H,Pv xs.length ys H->R H):∃ W:Nat->Nat->List V->Hp->Prop,(∃ m,W 0 m [] (upd H1 D (.lst [])))/\Zcf (Itl K a) D g tc te σ0 W R:=by
 refine ⟨λi m ys H=>m=xs.length-i/\i<=xs.length/\Pv i ys H,⟨_,rfl,Nat.zero_le _,h0⟩,?_⟩
 rintro i m ys H ⟨rfl,hi,p⟩
 have q:=hl i ys H hi p
 by_cases hlt:i<xs.length
 ·refine .inr ⟨⟨xs,xs[i],q,by simp [hlt]⟩,Pv (i+1),λys' H' p'=>⟨xs.length-(i+1),by omega,rfl,hlt,p'⟩,λx H' y=>?_⟩
  obtain ⟨e,y⟩:=y
  subst e
  exact hs i x ys _ (y xs q) p
 ·have e:i=xs.length:=by omega
  subst e
  exact .inl ⟨⟨xs,q,Nat.le_refl _⟩,hd ys H p⟩
theorem ZbM {lo:Int} {n:Nat} {D:Addr} {g:TG} {tc:TT} {te:TE} {σ0:St} {R:Hp->Prop} {H1:Hp} (Pv:Nat->List V->Hp->Prop) (h0:Pv 0 [] (upd H1 D (.lst [])))
  (hs:∀ i ys H,i<n->Pv i ys H->g (.int (lo+i)) σ0 H λσ4 H4=>Zdo σ0 σ4/\tc σ4 H4 λb H5=>if b=true then te σ4 H5 λy H6=>H6 D=some (.lst ys)/\ys.length<sizeLine/\Pv (i+1) (ys++[y]) (upd H6 D (.lst (ys++[y]))) else Pv (i+1) ys H5)
  (hd:∀ ys H,Pv n ys H->R H):∃ W:Nat->Nat->List V->Hp->Prop,(∃ m,W 0 m [] (upd H1 D (.lst [])))/\Zcf (Itr lo n) D g tc te σ0 W R:=by
 refine ⟨λi m ys H=>m=n-i/\i<=n/\Pv i ys H,⟨_,rfl,Nat.zero_le _,h0⟩,?_⟩
 rintro i m ys H ⟨rfl,hi,p⟩
 by_cases hlt:i<n
 ·refine .inr ⟨hlt,Pv (i+1),λys' H' p'=>⟨n-(i+1),by omega,rfl,hlt,p'⟩,λx H' y=>?_⟩
  obtain ⟨e,y⟩:=y
  subst e y
  exact hs i ys _ hlt p
 ·have e:i=n:=by omega
  subst e
  exact .inl ⟨Nat.le_refl _,hd ys H p⟩
theorem Zc4 {X:Cx} {scope:Scope} {own:List Str} (hf:∀ y∈scope.names,y.2≠.free) (hc:∀ y∈scope.names,y.2≠.cell) (hk:scope.kind=.function) (hn:∀ y∈scope.names,y.2=.local->scope.names.lookup y.1=some .local):Zbk X scope [] own []:=by
 have rel:(relabel scope X.env).names=scope.names:=by
  unfold relabel
  dsimp only
  refine (List.map_congr_left λp hp=>?_).trans (List.map_id _)
  obtain ⟨n,k⟩:=p
  have:(k == NameKind.free)=false:=by
   have:=hf _ hp
   cases k <;> first | rfl | exact absurd rfl this
  simp [this]
 refine ⟨closureFor_none hf,hc,hk,hn,λy c h=>by simp at h,λy h=>?_,λp hp=>by simp at hp⟩
 rw [rel] at h
 rcases h with h | h
 ·exact absurd rfl (hc _ (PySem.mem_of_lookup h))
 ·exact absurd rfl (hf _ (PySem.mem_of_lookup h))
end L2
namespace L2
open PySem PySem.Spec PyProof.Rows
def Zf6 (a C:Addr) (h:Heap):Prop:=∃ ob vs,h.get? a=some ob/\ob.cls=.ref C/\ob.data=.fields vs
def Zi6 (a C:Addr):HO:=.ext (Zf6 a C)
theorem ZjP {P:Program} {w:World} {H:Hp} {h:Heap} {a C:Addr} (x:Zf6 a C h):ObjOk P w H h a (Zi6 a C):=by
 refine ⟨x,?_,λh1 h2 p k=>?_⟩
 ·obtain ⟨ob,_,e,_⟩:=x
  exact ⟨ob,e⟩
 ·obtain ⟨ob,vs,e,c,d⟩:=p
  exact ⟨ob,vs,k ob e,c,d⟩
theorem ObjOk.there {P:Program} {w:World} {H:Hp} {h:Heap} {a:Addr} {u:HO} (ok:ObjOk P w H h a u):∃ v,h.get? a=some v:=by
 cases u with
 | lst xs=>obtain ⟨_,_,_,_,e⟩:=ok;exact ⟨_,e⟩
 | tup xs=>obtain ⟨_,_,_,o,e,_⟩:=ok;exact ⟨_,e⟩
 | dK kvs=>obtain ⟨_,_,_,_,o,_,_,e,_⟩:=ok;exact ⟨_,e⟩
 | dT kvs=>obtain ⟨_,_,_,_,o,_,_,e,_⟩:=ok;exact ⟨_,e⟩
 | set S n=>obtain ⟨o,_,_,_,e,_⟩:=ok;exact ⟨_,e⟩
 | ins C dx fs=>obtain ⟨_,_,_,e,_⟩:=ok;exact ⟨_,e⟩
 | own y=>obtain ⟨_,e⟩:=ok;exact ⟨_,e⟩
 | xd fs=>obtain ⟨_,⟨_,_,_,e,_⟩,_⟩:=ok;exact ⟨_,e⟩
 | rng lo hi=>obtain ⟨_,_,_,e⟩:=ok;exact ⟨_,e⟩
 | frz ob u=>obtain ⟨e,_⟩:=ok;exact ⟨_,e⟩
 | tbl ps=>exact ⟨_,show h.get? a=some _ from ok⟩
 | met f y=>exact ⟨_,show h.get? a=some _ from ok⟩
 | ext φ=>obtain ⟨_,⟨_,e⟩,_⟩:=ok;exact ⟨_,e⟩
def Zm0 (P:Program) (w:World) (outer:List Env) (H H':Hp) (s:Shared) (a C:Addr) (s':Shared):Prop:=
 ∃ (t:Addr) (B:Heap),s'.os=s.os/\AllBare s'.gens/\Un (frs outer) [] H H' s.heap s'.heap/\HOk P w H' s'.heap/\Heap.FlyingW B outer a (.ref C) (.ref t) s'.heap /\
  (∀ b o,s'.heap.get? b=some o->H' b≠none->B.get? b=some o)/\(∀ b o0 o,s.heap.get? b=some o0->s'.heap.get? b=some o->b ∉ frs outer->B.get? b=some o)
def CXr (P:Program) (w:World):CXT:=λouter H s E e s'=>∃ (a C:Addr) (H':Hp),e=.ref a/\Zm0 P w outer H H' s a C s'/\E (.ref C) none H'
section
variable {X:Cx} {pins:List (Addr×Obj)} {σ:St} {H:Hp} {s:Shared}
def Zft (X:Cx) (E:XK):Prop:=∀ (pins:List (Addr×Obj)) (σ:St) (H:Hp) (s:Shared) (h':Heap) (a C:Addr) (vs:List Value),Inv X pins σ H s->Heap.MadeExcOf s.heap h' a (.ref C) vs->E (.ref C) none H->X.xe (.ref a) { s with heap:=h' }
theorem Zbx {P:Program} {w:World} {K:PySem.W.Frag} {mg:Str->Option Value} {base:Heap} {N:List Str} {qual:Str} {scope:Scope} {f:Addr} {cd:Value} {A:Around} {outer:List Env} {s:Shared} {H:Hp} {E:XK} :
  Zft (ZgK (CXr P w) P w K mg base N qual scope f cd A outer s H E) E:=by
 intro pins σ H1 s1 h' a C vs I hx hE
 have hfr:=I.ok.frames
 have hst:s1.heap.FunFrames base (envOfC qual scope s.heap.objs.size f cd::outer):=I.stack
 have hin:∀ env∈(envOfC qual scope s.heap.objs.size f cd::outer),∀ b,env.frame=some b->b∈frs (envOfC qual scope s.heap.objs.size f cd::outer):=λenv he b hb=>List.mem_filterMap.mpr ⟨env,he,hb⟩
 have inB:∀ b o,s1.heap.get? b=some o->b ∉ frs (envOfC qual scope s.heap.objs.size f cd::outer)->(PySem.W.hideAll s1.heap (frs (envOfC qual scope s.heap.objs.size f cd::outer))).get? b=some o:=λb o e n=>PySem.W.hideAll_get _ e n
 refine wpAny_leaves_madeW (base:=PySem.W.hideAll s1.heap (frs (envOfC qual scope s.heap.objs.size f cd::outer))) hfr rfl (λb o q=>PySem.W.of_hideAll _ q) (PySem.W.funFrames_hide hst hin) hx λh2 t fl tu tn sm=>?_
 refine ⟨a,C,H1,rfl,⟨t,_,I.os,I.bare,⟨λb o e n hb _=>?_,λb o e n hb _=>?_,λb o e n _=>?_,λb o e _=>?_,I.base.tups,I.base.frzs,I.base.tbls⟩,λb u e=>?_,fl,λb o e n=>?_,λb o0 o e0 e nb=>?_⟩,hE⟩
 ·have e1:s1.heap.get? b=some o:=I.base.keep b o e n hb (by intro z;exact absurd (show b∈([]:List Addr) from z) (by simp))
  refine fl.1 b o (inB b o e1 λz=>?_)
  rcases List.mem_cons.mp (I.stkSub b z) with q | q
  ·exact absurd (Nat.lt_of_lt_of_le (Heap.lt_size e) I.ok.above) (by rw [q];exact Nat.lt_irrefl _)
  ·exact hb q
 ·obtain ⟨sl,e1⟩:=I.base.slot b o e n hb (by intro z;exact absurd (show b∈([]:List Addr) from z) (by simp))
  have nf:∀ vs,o.data≠.fields vs:=by
   obtain ⟨_,o',ho',hnf⟩:=I.funs.mem (show b∈(outer.filterMap (·.frame)) from hb)
   rw [e1] at ho';cases ho'
   exact hnf
  obtain ⟨sl',e2⟩:=sm b { o with slots:=sl } (hx.keeps b _ e1) nf
  exact ⟨sl',e2⟩
 ·exact I.base.free b o e n (by intro z;exact absurd (show b∈([]:List Addr) from z) (by simp))
 ·obtain ⟨o1,e1⟩:=I.base.there b o e (by intro z;exact absurd (show b∈([]:List Addr) from z) (by simp))
  by_cases hb:b∈frs (envOfC qual scope s.heap.objs.size f cd::outer)
  ·obtain ⟨_,o',ho',hnf⟩:=hst.mem hb
   rw [e1] at ho';cases ho'
   obtain ⟨sl',e2⟩:=sm b o1 (hx.keeps b _ e1) hnf
   exact ⟨_,e2⟩
  ·exact ⟨o1,fl.1 b o1 (inB b o1 e1 hb)⟩
 ·have trk:∀ c v,s1.heap.get? c=some v->H1 c≠none->h2.get? c=some v:=λc v q hc=>fl.1 c v (inB c v q λz=>hc (I.stkFree c z))
  refine (I.hok b u e).stay (λc v hc q=>trk c v q ?_) (λ_ q=>q) λ_ _ q=>q
  rcases hc with z | z
  ·rw [z,e];simp
  ·rw [z];simp
 ·cases q':H1 b with
  | none=>exact absurd q' n
  | some u=>
   obtain ⟨v,q⟩:=(I.hok b u q').there
   have nb:b ∉ frs (envOfC qual scope s.heap.objs.size f cd::outer):=λz=>n (I.stkFree b z)
   have e2:=fl.1 b v (inB b v q nb)
   rw [e] at e2;cases e2
   exact inB b _ q nb
 ·obtain ⟨o1,e1⟩:=I.base.there b o0 e0 (by intro z;exact absurd (show b∈([]:List Addr) from z) (by simp))
  have nb':b ∉ frs (envOfC qual scope s.heap.objs.size f cd::outer):=λz=>by
   rcases List.mem_cons.mp (I.stkSub b z) with q | q
   ·exact absurd (Nat.lt_of_lt_of_le (Heap.lt_size e0) I.ok.above) (by rw [q];exact Nat.lt_irrefl _)
   ·exact nb q
  have e2:=fl.1 b o1 (inB b o1 e1 nb')
  have e':h2.get? b=some o:=e
  rw [e'] at e2;cases e2
  exact inB b _ e1 nb'
theorem Zfu {P:Program} {w:World} {outer:List Env} {H H':Hp} {s s':Shared} {a C t:Addr} {B h2:Heap} (un:Un (frs outer) [] H H' s.heap s'.heap) (hok:HOk P w H' s'.heap) (fr:s'.heap.FunFrames B outer)
  (trk:∀ b o,s'.heap.get? b=some o->H' b≠none->B.get? b=some o) (old:∀ b o0 o,s.heap.get? b=some o0->s'.heap.get? b=some o->b ∉ frs outer->B.get? b=some o) (st:B.StaysIn h2) (sm:s'.heap.UpToSlots h2) :
  Un (frs outer) [] H H' s.heap h2/\HOk P w H' h2:=by
 refine ⟨⟨λb o e n hb hx=>st b o (old b o o e (un.keep b o e n hb hx) hb),λb o e n hb hx=>?_,un.free,λb o e hx=>?_,un.tups,un.frzs,un.tbls⟩,λb u e=>?_⟩
 ·obtain ⟨sl,e1⟩:=un.slot b o e n hb hx
  obtain ⟨_,o',ho',hnf⟩:=fr.mem hb
  rw [e1] at ho';cases ho'
  obtain ⟨sl',e2⟩:=sm b _ e1 hnf
  exact ⟨sl',e2⟩
 ·obtain ⟨o1,e1⟩:=un.there b o e hx
  by_cases hb:b∈frs outer
  ·obtain ⟨_,o',ho',hnf⟩:=fr.mem hb
   rw [e1] at ho';cases ho'
   obtain ⟨sl',e2⟩:=sm b _ e1 hnf
   exact ⟨_,e2⟩
  ·exact ⟨o1,st b o1 (old b o o1 e e1 hb)⟩
 ·refine (hok b u e).stay (λc v hc q=>st c v (trk c v q ?_)) (λ_ q=>q) λ_ _ q=>q
  rcases hc with z | z
  ·rw [z,e];simp
  ·rw [z];simp
theorem Inv.track {a:Addr} {u:HO} (I:Inv X pins σ H s) (hn:H a=none) (f1:a≠X.env.locals) (f4:∀ x c,X.env.cells.lookup x=some c->c≠a) (f5:∀ p∈X.pn++pins,p.1≠a) (hs:X.s₀.heap.get? a=none)
  (ok:∀ H',ObjOk X.prog X.w H' s.heap a u):Inv X pins σ (upd H a u) s:=by
 refine ⟨I.ok,I.os,I.bare,⟨I.base.keep,I.base.slot,λb o e n z=>?_,I.base.there,λb xs e=>?_,λb o x e=>?_,λb ps e=>?_⟩,I.loc,I.cell,?_,λx c e=>?_,λp hp=>?_,λb v e=>?_,I.len⟩
 ·rw [Zao (show b≠a from λq=>by rw [q,hs] at e;cases e)]
  exact I.base.free b o e n z
 ·have:=I.base.tups b xs e
  rw [Zao (Zai this hn)];exact this
 ·have:=I.base.frzs b o x e
  rw [Zao (Zai this hn)];exact this
 ·obtain ⟨more,this⟩:=I.base.tbls b ps e
  exact ⟨more,by rw [Zao (Zai this hn)];exact this⟩
 ·rw [Zao (Ne.symm f1)];exact I.free
 ·rw [Zao (f4 x c e)];exact I.freeC x c e
 ·obtain ⟨e,n,r⟩:=I.pin p hp
  exact ⟨e,by rw [Zao (f5 p hp)];exact n,r⟩
 ·by_cases hb:b=a
  ·subst hb
   rw [Zab] at e;cases e
   exact ok _
  ·rw [Zao hb] at e
   exact (I.hok b v e).stay (λ_ _ _ q=>q) (λc q=>by rw [Zao (Zai q hn)];exact q) λc xs q=>by rw [Zao (Zai q hn)];exact q
end
end L2
namespace L2
open PySem PySem.Spec PyProof.Rows
abbrev ZnO:List Value:=[.type "ValueError", .type "Exception", .type "BaseException", .type "object"]
abbrev ExcC (K:PySem.W.Frag) (C:Addr):Prop:=PySem.W.excIn K C ZnO "ValueError.__new__" = true
theorem ZeW {K:PySem.W.Frag} {h:Heap} {C:Addr} (KX:K.In h) (ex:ExcC K C):∃ mro' ns' mN',(∃ nm' qn' bs' hd' sn' sub' ab' col' dd' j0 j1 j2 j3 j5,
  h.get? C=some (excClassObj nm' qn' C ns' bs' mro' hd' sn' sub' ab' col' dd' j0 j1 j2 j3 j5 "ValueError.__new__"))/\h.Ns ns' mN'/\mN' "__init__" = none/\OwnTail h ZnO mro':=by
 have ex':=ex
 unfold ExcC PySem.W.excIn at ex'
 split at ex'
 ·rename_i dd' cd' sl' lk
  have lk':=KX _ _ lk
  split at ex'
  ·rename_i C' rest' j0 j1 j2 j3 n' j5 hm hs
   rw [Bool.and_eq_true,Bool.and_eq_true,Bool.and_eq_true,Bool.and_eq_true,Bool.and_eq_true,beq_iff_eq,beq_iff_eq,beq_iff_eq] at ex'
   obtain ⟨⟨⟨⟨⟨z1,z2⟩,z3⟩,z4⟩,z5⟩,z6⟩:=ex'
   have z3':cd'.hasDel=false:=by simpa using z3
   subst z1 z2
   cases cd' with
   | mk a1 a2 a3 a4 a5 a6 a7 a8 a9 a10 a11=>
    have hm':a3=.ref C'::rest':=hm
    have h11:a11=false:=z3'
    subst hm' h11
    have es:sl'=#[j0,j1,j2,j3,some (.builtin "ValueError.__new__"),j5]:=by
     cases sl' with
     | mk l=>exact congrArg Array.mk hs
    subst es
    exact ⟨rest',a4,_,⟨_,_,_,_,_,_,_,_,_,_,_,_,_,_,lk'⟩,.of_isNs (PySem.W.isNs_of_in KX z5),PySem.W.nsMap_none_of_in KX z5 z6,PySem.W.tail_of_in KX z4⟩
  ·cases ex'
 ·cases ex'
section
variable {X:Cx}
def Zll (C:Addr) (E:XK) (t:TA):TS:=λ_ σ H=>t σ H λvs H1=>vs.length<=sizeLine/\E (.ref C) none H1
theorem ZdG {C:Addr} {E:XK} {x:Str} {np cpos pos:Pos} {e:Expr} {es:List Expr} {t:TA} (hc:X.calm=true) (hR:Zft X E) (hg:Gl X x) (hm:X.mg x=some (.ref C)) (ex:ExcC X.K C) (ha:PA X (e::es) t)
  (hdb:(x == ("__debug__" : Str))=false:=by decide) (he:starEach (e::es) X.env=(false,eval e X.env)::starEach es X.env:=by rfl) (hpl:(backTo cpos (starEach es X.env)).any (·.1)=false:=by rfl) :
  PS X (.Raise (some (.Call (.Name x np) (e::es) [] cpos)) none pos) (Zll C E t):=by
 intro pins s σ H D I h
 obtain ⟨mro',ns',mN',⟨nm',qn',bs',hd',sn',sub',ab',col',dd',j0,j1,j2,j3,j5,hC⟩,hN,hni,T⟩:=ZeW I.mod.kin ex
 refine wpAny_Raise_call_subT (C:=C) (nm:=nm') (q:=qn') (N:=ns') (bs:=bs') (bm:=mro') (hdct:=hd') (sn:=sn') (sub:=sub') (ab:=ab') (col:=col') (dd:=dd') (k0:=j0) (k1:=j1) (k2:=j2) (k3:=j3) (k5:=j5)
  PySem.F.excBase_ValueError (mN:=mN') (T.hasType PySem.F.excBase_ValueError.hasBase) (I.ok.hd hc) (by rw [he];show (false || (backTo cpos (starEach es X.env)).any (·.1))=false;rw [hpl];rfl) hni (ZcS I hg hm ⟨rfl,?_⟩ hdb)
 have hA:=ha cpos pins s σ H _ I h
 rw [he] at hA ⊢
 refine Calls.evalArgs_plain (thn hA λus s2 ⟨vs,H2,I2,r2,hl,q2⟩=>?_)
 exact ⟨rfl,by rw [<-r2.length];exact hl,I2.bk _ _ hC,hN.keeps I2.bk,T.keeps I2.bk,λh' a hm=>hR pins σ H2 s2 h' a C us I2 hm q2⟩
def Cx.inExc (X:Cx) (a:Addr):Cx:={ X with A:=X.A.mark (some (.ref a)),calm:=false,xe:=λ_ _=>False }
theorem Cx.Ok.inExc {X:Cx} (ok:X.Ok) (a:Addr):(X.inExc a).Ok:=
 ⟨ok.mod,ok.kind,ok.glob,ok.blt,ok.above,ok.inj,ok.has,ok.cab,(λz=>nomatch z),ok.frames,ok.stk,ok.exf,ok.bs,ok.bsz,ok.noex,ok.exfs,ok.funs,ok.frf⟩
variable {pins:List (Addr×Obj)} {σ:St} {H:Hp} {s:Shared}
theorem Inv.inExc (I:Inv X pins σ H s) (a:Addr):Inv (X.inExc a) pins σ H s:=⟨I.ok.inExc a,I.os,I.bare,I.base,I.loc,I.cell,I.free,I.freeC,I.pin,I.hok,I.len⟩
theorem Inv.outExc {a:Addr} (ok:X.Ok) (I:Inv (X.inExc a) pins σ H s):Inv X pins σ H s:=⟨ok,I.os,I.bare,I.base,I.loc,I.cell,I.free,I.freeC,I.pin,I.hok,I.len⟩
theorem ZcM {M:Model} {A:Around} {E:Value->Shared->Prop} {i:Nat} {n:Str} {pos:Pos} {Q:Unit->Shared->Prop} (I:Inv X pins σ H s) (hN:X.N.Nodup) (hi:X.N[i]?=some n) (hl:X.env.scope.names.lookup n=some .local)
  (h:∀ s',Inv X pins (σ.set i none) H s'->Q () s'):wpAny M A (do bindName X.env n .none;unbindBehindTheSuite X.env n pos) Q E s:=by
 obtain ⟨m,hn,hlk⟩:=id I.loc
 refine wpAny_nameGoes_keeps hl hn (by rw [I.ok.kind];rfl) λh' v hn' sb=>h _ ?_
 have old:∀ b o,X.s₀.heap.get? b=some o->b≠X.env.locals:=λb o e=>Nat.ne_of_lt (Nat.lt_of_lt_of_le (Heap.lt_size e) I.ok.above)
 have hLn:∀ b u,H b=some u->b≠X.env.locals:=λb u e z=>by rw [z,I.free] at e;cases e
 refine ⟨I.ok,I.os,I.bare,⟨λb o e z hb hx=>(sb.2 b (old b o e)).trans (I.base.keep b o e z hb hx),λb o e z hb hx=>?_,I.base.free,λb o e hx=>?_,I.base.tups,I.base.frzs,I.base.tbls⟩,
  ⟨_,hn',λj y v' e1 e2 e3=>?_⟩,λy c e=>?_,I.free,I.freeC,λp hp=>?_,λb u e=>?_,by simpa using I.len⟩
 ·obtain ⟨sl,q⟩:=I.base.slot b o e z hb hx
  exact ⟨sl,(sb.2 b (old b o e)).trans q⟩
 ·obtain ⟨o',q⟩:=I.base.there b o e hx
  exact ⟨o',(sb.2 b (old b o e)).trans q⟩
 ·by_cases hj:j=i
  ·subst hj
   have hiσ:j<σ.length:=by rw [I.len];exact (List.getElem?_eq_some_iff.mp hi).1
   rw [List.getElem?_set_self hiσ] at e2
   cases e2
  ·rw [List.getElem?_set_ne (Ne.symm hj)] at e2
   obtain ⟨u,ru,lk⟩:=hlk j y v' e1 e2 e3
   refine ⟨u,ru,?_⟩
   have hyn:y≠n:=λz=>hj (ZdB hN e1 (z▸hi))
   rcases lk with ⟨k,e⟩ | ⟨k,c,e,z⟩
   ·exact .inl ⟨k,by simp [hyn,e]⟩
   ·exact .inr ⟨k,c,e,z.sameBut sb (I.cne y c e)⟩
 ·obtain ⟨v',z⟩:=I.cell y c e
  exact ⟨v',z.sameBut sb (I.cne y c e)⟩
 ·obtain ⟨e,z,ne,nf,d⟩:=I.pin p hp
  exact ⟨(sb.2 p.1 ne).trans e,z,ne,nf,d⟩
 ·refine (I.hok b u e).stay (λc v' hc q=>(sb.2 c ?_).trans q) (λ_ q=>q) λ_ _ q=>q
  rcases hc with z | z
  ·rw [z];exact hLn b u e
  ·exact hLn c _ z
end
end L2
namespace L2
open PySem PySem.Spec PyProof.Rows
theorem ZdH {M:Model} {h:Heap} {a C:Addr} (hx:Zf6 a C h):PySem.W.Looks M h (typeOf (.ref a)) (.ref C):=by
 obtain ⟨ob,vs,e,c,d⟩:=hx
 exact c▸(PySem.W.Looks.ld e).andThen .now
theorem ZgS {K:PySem.W.Frag} {M:Model} {A:Around} {E:Value->Shared->Prop} {Q:Bool->Shared->Prop} {s:Shared} {a C W:Addr} {b:Bool} (KX:K.In s.heap) (hx:Zf6 a C s.heap)
  (hk:PySem.W.kitCls K (.ref C) (.ref W)=some b) (hb:PySem.W.subIn K (.ref W) (.type "BaseException")=some true) (h:Q b s):wpAny M A (excMatches (.ref a) (.ref W)) Q E s:=by
 obtain ⟨hty,his,hsub⟩:=PySem.W.kit_cls (M:=M) KX hk
 have hB:=PySem.W.looks_subIn (M:=M) KX hb
 have LT:=ZdH (M:=M) hx
 obtain ⟨h0,g,dd,tk,os⟩:=s
 have f:=tc_notTuple
 unfold excMatches isInstance isExcClass
 refine wpAny_bind (wpAny_bind (hty.at (wpAny_of_eq f ?_)))
 simp only [Bool.false_eq_true,if_false]
 refine wpAny_bind (wpAny_pure ?_)
 simp only [List.forIn_cons,List.forIn_nil]
 refine wpAny_bind (wpAny_bind (wpAny_bind (wpAny_bind (his.at ?_))))
 simp only [if_true]
 refine hB.at ?_
 simp only [Bool.not_true,Bool.false_eq_true,if_false]
 refine wpAny_pure (wpAny_pure ?_)
 refine wpAny_bind (LT.at ?_)
 refine wpAny_bind (wpAny_bind (wpAny_bind (hsub.at ?_)))
 cases b with
 | true=>simp only [if_true];first | exact wpAny_pure (wpAny_pure (wpAny_pure h)) | exact wpAny_pure (wpAny_pure h) | exact wpAny_pure h
 | false=>simp only [Bool.false_eq_true,if_false];first | exact wpAny_pure (wpAny_pure (wpAny_pure h)) | exact wpAny_pure (wpAny_pure h) | exact wpAny_pure h
section
variable {X:Cx} {k:Nat} {f:Addr} {fd:FuncData} {ps:List Str} {sp:Sp} {dvs:List V} {ds:List Value} {fx:Str} {fp cpos bpos np hpos pos:Pos} {e:Expr} {es:List Expr} {t:TA}
def Zi7 (K:PySem.W.Frag) (W:Addr) (i:Nat) (ts:TS) (D:Ends) (σ:St):XK:=λcls _ H2=>∃ C,cls=.ref C/\PySem.W.kitCls K (.ref C) (.ref W)=some true /\
 ∀ a,H2 a=none->ts { nx:=λσ' H'=>D.nx (σ'.set i none) H',rt:=D.rt,bk:=λσ' H'=>D.bk (σ'.set i none) H',ct:=λσ' H'=>D.ct (σ'.set i none) H' } (σ.set i (some (.ref a))) (upd H2 a (Zi6 a C))
theorem handled {pins:List (Addr×Obj)} {σ:St} {H:Hp} {s s':Shared} {D:Ends} {W:Addr} {wx n:Str} {i:Nat} {b0:Stmt} {suite:List Stmt} {rest:List ExceptHandler} {ts:TS} {ev:Value}
  (hc:X.calm=true) (hst:X.stack=X.env::X.outer) (hfr:X.env.frame=some X.env.locals) (hex:X.ex=[]) (hN:X.N.Nodup) (hi:X.N[i]?=some n) (hl:X.env.scope.names.lookup n=some .local)
  (hgW:Gl X wx) (hmW:X.mg wx=some (.ref W)) (hbE:PySem.W.subIn X.K (.ref W) (.type "BaseException")=some true) (hsu:∀ a,PSs (X.inExc a) (b0::suite) ts) (I:Inv X pins σ H s)
  (h:CXr X.prog X.w X.stack H s (Zi7 X.K W i ts D σ) ev s') (hdb:(wx == ("__debug__" : Str))=false:=by decide) :
  wpAny (model X.prog X.w) X.A (noteFrame ev X.env) (λ_ s2=>wpAny (model X.prog X.w) X.A (setFlight ev none) (λ_ s3=>
   wpAny (model X.prog X.w) X.A (handleBy ev X.env (.ExceptHandler (some (.Name wx np)) (some n) (b0::suite) hpos::rest)) (SP X pins D) X.xe s3) X.xe s2) X.xe s':=by
 obtain ⟨a,C,H',rfl,⟨t,B,os,bare,un,hok,fl,trk,old⟩,C',eC,hk,q⟩:=h
 cases eC
 have ff:∀ {E:Value->Shared->Prop},∀ (x:Value) (s:Shared),(λ(_:Value) (_:Shared)=>False) x s->E x s:=λ_ _ z=>False.elim z
 have flX:=fl
 rw [hst] at flX
 have afr:=I.ok.frames
 rw [hst] at afr
 have new:s.heap.get? a=none:=by
  cases z:s.heap.get? a with
  | none=>rfl
  | some o0=>
   exfalso
   obtain ⟨ob,vs,e1,c1,d1,_⟩:=fl.first
   by_cases hb:a∈frs X.stack
   ·obtain ⟨_,o',ho',hnf⟩:=fl.2.2.1.mem hb
    rw [e1] at ho';cases ho'
    exact hnf vs d1
   ·have:=old a o0 ob z e1 hb
    rw [fl.2.1] at this;cases this
 have hna:H' a=none:=by
  cases z:H' a with
  | none=>rfl
  | some u=>
   exfalso
   obtain ⟨ob,vs,e1,_⟩:=fl.first
   have:=trk a ob e1 (by rw [z];simp)
   rw [fl.2.1] at this;cases this
 have na1:a≠X.env.locals:=λz=>by
  obtain ⟨m,⟨o,_,_,ho,_⟩,_⟩:=I.loc
  rw [<-z,new] at ho;cases ho
 have na2:∀ x c,X.env.cells.lookup x=some c->c≠a:=λx c e z=>by
  obtain ⟨v,o,ho,_⟩:=I.cell x c e
  rw [z,new] at ho;cases ho
 have na3:∀ p∈X.pn++pins,p.1≠a:=λp hp z=>by
  have:=(I.pin p hp).1
  rw [z,new] at this;cases this
 have na4:X.s₀.heap.get? a=none:=by
  cases z:X.s₀.heap.get? a with
  | none=>rfl
  | some o=>
   obtain ⟨o',e'⟩:=I.base.there a o z (by rw [hex];simp)
   rw [new] at e';cases e'
 have at_:∀ {h2:Heap} {tk:Nat},B.StaysIn h2->s'.heap.UpToSlots h2->Inv X pins σ H' { s' with heap:=h2,toks:=tk }:=λ{h2 tk} st sm=>by
  obtain ⟨u2,k2⟩:=Zfu (t:=t) (a:=a) (C:=C) un hok fl.2.2.1 trk old st sm
  exact I.call' (ch:=[]) os u2 k2 bare (λb z=>absurd z (by simp))
 refine wpAny_looks_onW afr hfr flX λh4 held4 sm4=>?_
 refine wpAny_landsW held4 λh5 fl5 sm5=>?_
 have I5:Inv X pins σ H' { s' with heap:=h5 }:=at_ (tk:=s'.toks) fl5.1 (sm4.trans sm5)
 refine wpAny_handleBy_cons (codeAny_handlers_test ?_) (by intro q;cases q)
 refine ZcS (X:=X.inExc a) (I5.inExc a) hgW hmW ?_ hdb
 obtain ⟨ob,vs,e1,c1,d1,_⟩:=fl5.first
 refine ZgS (b:=true) I5.kIn ⟨ob,vs,e1,c1,d1⟩ hk hbE ?_
 refine codeAny_handlers_suite_as ?_
 refine lands_againW fl5 λh6 fl6 sm6=>?_
 have I6:Inv X pins σ H' { s' with heap:=h6 }:=at_ (tk:=s'.toks) fl6.1 ((sm4.trans sm5).trans sm6)
 obtain ⟨ob6,vs6,e6,c6,d6,_⟩:=fl6.first
 have I7:=I6.track (u:=Zi6 a C) hna na1 na2 na3 na4 λH2=>ZjP ⟨ob6,vs6,e6,c6,d6⟩
 refine ZdC (X:=X.inExc a) (I7.inExc a) hN hi (.inl hl) (v:=.ref a) rfl (λs8 I8=>?_) (.inr hl)
 refine wpAny_mono (hsu a pins s8 _ _ _ I8 (q a hna)) (λfl s9 q9=>?_) ff
 show wpAny _ _ (do bindName X.env n .none;unbindBehindTheSuite X.env n hpos) _ _ s9
 cases fl with
 | next=>
  obtain ⟨σ9,H9,I9,q9⟩:=q9
  exact ZcM (I9.outExc I.ok) hN hi hl λs10 I10=>⟨_,_,I10,q9⟩
 | brk=>
  obtain ⟨σ9,H9,I9,q9⟩:=q9
  exact ZcM (I9.outExc I.ok) hN hi hl λs10 I10=>⟨_,_,I10,q9⟩
 | cont=>
  obtain ⟨σ9,H9,I9,q9⟩:=q9
  exact ZcM (I9.outExc I.ok) hN hi hl λs10 I10=>⟨_,_,I10,q9⟩
 | ret u=>
  obtain ⟨v,σ9,H9,I9,r9,q9⟩:=q9
  exact ZcM (I9.outExc I.ok) hN hi hl λs10 I10=>⟨v,_,_,I10,r9,q9⟩
theorem Zh7 {pins:List (Addr×Obj)} {σ:St} {H:Hp} {s:Shared} {Q:VK} {E:XK} {QQ:Value->Shared->Prop} {EE:Value->Shared->Prop} (F:ZaN X.prog X.w X.K X.mg X.base (CXr X.prog X.w) k f fd ps sp) (hr:Room k X.A) (hg:Gl X fx) (hm:X.mg fx=some (.ref f)) (hk:PySem.W.keepIn X.K (.ref f)=true)
  (hb:Binds X.K fd ps ds) (hd:Vals dvs ds) (ha:PA X.nox (e::es) t) (I:Inv X pins σ H s) (h:t σ H λvs H1=>sp (vs++dvs) H1 Q E)
  (hQ:∀ u s',EP X pins σ Q u s'->QQ u s') (hE:∀ ev H1 s1 s',Inv X pins σ H1 s1->CXr X.prog X.w X.stack H1 s1 E ev s'->EE ev s')
  (hdb:(fx == ("__debug__" : Str))=false:=by decide) (he:starEach (e::es) X.env=(false,eval e X.env)::starEach es X.env:=by rfl) (hpl:(backTo cpos (starEach es X.env)).any (·.1)=false:=by rfl) :
  wpAny (model X.prog X.w) X.A (eval (.Call (.Name fx fp) (e::es) [] cpos) X.env) QQ EE s:=by
 refine wpAny_Call_Name_kw (ZcS I hg hm ?_ hdb)
 refine PySem.W.callWith_K (h₀:=X.base) I.ok.mod.kin hk (wpAny_mono (ha cpos pins s σ H _ (I.wish _) h) (λus s1 ⟨vs,H1,I1,r,q⟩=>⟨I1.unwish.kIn,?_⟩) (λ_ _ z=>False.elim z)) he hpl
 have I1:=I1.unwish
 have r2:Vals (vs++dvs) (us++ds):=r.append hd
 have hl:(us++ds).length=ps.length:=by rw [<-r2.length];exact F.len _ _ _ _ q
 refine wpAny_call (codeAny_mono (F.run X.A X.stack s1 H1 ⟨us,[]⟩ (us++ds) (vs++dvs) Q E hr I1.env0 (hb s1 us I1.kIn hl) r2 q) λr s' hq=>?_)
 cases r with
 | error ev=>exact hE ev H1 s1 s' I1 hq
 | ok fl=>
  cases fl with
  | ret u=>exact hQ u s' (I1.after hq)
  | next=>exact False.elim hq
  | brk=>exact False.elim hq
  | cont=>exact False.elim hq
def Zoz (K:PySem.W.Frag) (W:Addr) (i:Nat) (sp:Sp) (dvs:List V) (t:TA) (ts:TS):TS:=λD σ H=>t σ H λvs H1=>sp (vs++dvs) H1 (λ_ H2=>D.nx σ H2) (Zi7 K W i ts D σ)
theorem Zlm {W:Addr} {wx n:Str} {i:Nat} {b0:Stmt} {suite:List Stmt} {ts:TS} (F:ZaN X.prog X.w X.K X.mg X.base (CXr X.prog X.w) k f fd ps sp) (hr:Room k X.A) (hg:Gl X fx) (hm:X.mg fx=some (.ref f)) (hk:PySem.W.keepIn X.K (.ref f)=true)
  (hb:Binds X.K fd ps ds) (hd:Vals dvs ds) (ha:PA X.nox (e::es) t) (hc:X.calm=true) (hst:X.stack=X.env::X.outer) (hfr:X.env.frame=some X.env.locals) (hex:X.ex=[]) (hN:X.N.Nodup) (hi:X.N[i]?=some n) (hl:X.env.scope.names.lookup n=some .local)
  (hgW:Gl X wx) (hmW:X.mg wx=some (.ref W)) (hbE:PySem.W.subIn X.K (.ref W) (.type "BaseException")=some true) (hsu:∀ a,PSs (X.inExc a) (b0::suite) ts)
  (hdb:(fx == ("__debug__" : Str))=false:=by decide) (hdb2:(wx == ("__debug__" : Str))=false:=by decide) (he:starEach (e::es) X.env=(false,eval e X.env)::starEach es X.env:=by rfl) (hpl:(backTo cpos (starEach es X.env)).any (·.1)=false:=by rfl)
  (hs:swapsWith (.Call (.Name fx fp) (e::es) [] cpos) none bpos.line X.env=pure false:=by rfl) :
  PS X (.Try [.Expr (.Call (.Name fx fp) (e::es) [] cpos) bpos] [.ExceptHandler (some (.Name wx np)) (some n) (b0::suite) hpos] [] [] pos) (Zoz X.K W i sp dvs t ts):=by
 intro pins s σ H D I h
 refine wpAny_Try_except (wpAny_execs_cons (wpAny_Expr_any (Zh7 F hr hg hm hk hb hd ha I h (λu s' hq=>?_) (λev H1 s1 s' I1 hq=>?_) hdb he hpl) I.quiet hs))
 ·obtain ⟨v,H2,I2,_,q⟩:=hq
  exact wpAny_execs_nil (wpAny_execs_nil ⟨σ,H2,I2,q⟩)
 ·exact handled hc hst hfr hex hN hi hl hgW hmW hbE hsu I1 hq hdb2
end
end L2
namespace L2
open PySem PySem.Spec PyProof.Rows
theorem ZgT {K:PySem.W.Frag} {prog:Program} {w:World} {A:Around} {E:Value->Shared->Prop} {Q:Option Value->Shared->Prop} {s:Shared} {a C:Addr} (KX:K.In s.heap) (hx:Zf6 a C s.heap)
  (hga:PySem.W.findIn K (.ref C) "__getattribute__" = some (some (.builtin "BaseException.__getattribute__"))) (hnga:PySem.W.findIn K (.ref C) "__getattr__" = some none)
  (hcl:PySem.W.findIn K (.ref C) "__class__" = some (some (.builtin "object.__class__"))) (hm:PySem.W.mroIn K C (.type "object")=some true) (hB:PySem.W.subIn K (.ref C) (.type "BaseException")=some true)
  (h:Q (some (.ref C)) { s with toks:=s.toks+1 }):wpAny (model prog w) A (getAttr? (.ref a) "__class__") Q E s:=by
 have L0:=ZdH (M:=model prog w) hx
 have L1:=PySem.W.looks_findIn (M:=model prog w) KX hga
 have L2:=PySem.W.looks_findIn (M:=model prog w) KX hnga
 have L3:=PySem.W.looks_findIn (M:=model prog w) KX hcl
 have L4:=PySem.W.looks_subIn (M:=model prog w) KX hB
 obtain ⟨h0,g,d,t,os⟩:=s
 have f3:=PySem.F.attr_ValueError.ga.bind (.ref a)
 unfold getAttr? getAttrBy? getAttrBy
 refine wpAny_bind (wpAny_mkText (wpAny_bind (wpAny_attempt (wpAny_holding (wpAny_bind (L0.at (wpAny_bind (L1.at ?_))))))))
 dsimp only
 have hx2:(onTheHeap (Value.ref C) && Value.builtin "BaseException.__getattribute__" == Value.builtin "object.__getattribute__")=false:=by
  have z:(Value.builtin "BaseException.__getattribute__" == Value.builtin "object.__getattribute__")=false:=by decide +kernel
  rw [z,Bool.and_false]
 rw [hx2]
 simp only [Bool.false_eq_true,if_false]
 unfold getAttrByItsOwn
 repeat (any_goals (first | assumption | with_reducible refine L0.at ?_ | with_reducible refine L2.at ?_ | wp_step))
 have hsp:splitId "BaseException.__getattribute__" = some ("BaseException", "__getattribute__"):=by decide +kernel
 have hkd:builtinKind "BaseException.__getattribute__" = some .slot:=by decide +kernel
 have har:=PySem.F.args_bexc_ga (.ref a) (.str (Str.ofString "__class__") t)
 refine codeAny_call_builtin PySem.F.attr_ValueError.ga.plain PySem.F.entry_bexc_ga ?_
 show wpAny _ _ (checkBuiltinCall "BaseException.__getattribute__" ⟨[.ref a,.str (Str.ofString "__class__") t],[]⟩) _ _ _
 simp only [checkBuiltinCall,hkd,hsp]
 refine wpAny_bind ?_
 unfold isInstance
 have f5:=PySem.F.typeOf_object_class
 have f6:=PySem.F.slot_gs_get.lookup
 have f7:=PySem.F.slot_gs_set.lookup
 have hT5:(⟨h0,g,d,t+1,os⟩:Shared).TypeIs (.builtin "object.__class__") "getset_descriptor" := PySem.F.typeOf_object_class
 refine wpAny_bind (L0.at (L4.at ?_))
 repeat (any_goals (first | assumption | with_reducible refine L0.at ?_ | with_reducible refine L3.at ?_ | wp_step))
 have Lo:PySem.W.Looks (model prog w) h0 (isSubtype (.ref C) (.type (".".intercalate ("object.__class__".cutAt '.').dropLast))) true:=by
  rw [PySem.F.owner_object_class]
  exact PySem.W.looks_mroIn KX hm
 have hT6:(⟨h0,g,d,t+1,os⟩:Shared).TypeIs (.builtin "object.__class__") "getset_descriptor" := PySem.F.typeOf_object_class
 refine codeAny_call_builtin PySem.F.slot_gs_get.plain PySem.F.entry_gs_get (PySem.F.slot_gs_get.check _ _ _ _ _ _ _ _ hT6 (PySem.F.args_gs_get _ _ _) ?_)
 repeat (any_goals (first | assumption | with_reducible refine L0.at ?_ | with_reducible refine Lo.at ?_ | wp_step))
 refine ⟨Code.quiet_builtin _ (by decide +kernel),codeAny_builtin PySem.F.entry_object_class ?_⟩
 repeat (any_goals (first | assumption | with_reducible refine L0.at ?_ | wp_step))
end L2
namespace L2
open PySem PySem.Spec PyProof.Rows
structure ZmD (K:PySem.W.Frag) (C:Addr):Prop where
 ex:ExcC K C
 ga:PySem.W.findIn K (.ref C) "__getattribute__" = some (some (.builtin "BaseException.__getattribute__"))
 nga:PySem.W.findIn K (.ref C) "__getattr__" = some none
 cl:PySem.W.findIn K (.ref C) "__class__" = some (some (.builtin "object.__class__"))
 ob:PySem.W.mroIn K C (.type "object")=some true
 be:PySem.W.subIn K (.ref C) (.type "BaseException")=some true
theorem Zfv {K:PySem.W.Frag} {a C:Addr} (k:ZmD K C):PySem.W.KitX K (.ref a) (.ref C) (Zf6 a C) where
 ty:=λ_ _ _ p=>ZdH p
 it:=λM h KX _=>by
  obtain ⟨_,_,_,⟨_,_,_,_,_,_,_,_,_,_,_,_,_,_,hC⟩,_⟩:=ZeW KX k.ex
  intro A Q E s kk q
  unfold isType loadHead
  exact wpAny_bind (wpAny_loadPart (kk _ _ hC) (wpAny_pure q))
 ne:=λh tp dd its n sl KX htp=>by
  obtain ⟨_,_,_,⟨_,_,_,_,_,_,_,_,_,_,_,_,_,_,hC⟩,_⟩:=ZeW KX k.ex
  refine Bool.eq_false_iff.mpr λq=>?_
  have e:C=tp:=Value.ref.inj (beq_iff_eq.mp q)
  rw [<-e,hC] at htp
  have z:=congrArg Obj.data (Option.some.inj htp)
  unfold excClassObj at z
  cases z
 ca:=λKX p q=>ZgT KX p k.ga k.nga k.cl k.ob k.be q
def Zeq:V->Value
 | .ty n=>.type n
 | .ref a=>.ref a
 | _=>.none
def ZgU:V->Bool
 | .ty _=>true
 | .ref _=>true
 | _=>false
theorem RelV.cls {c:V} {u:Value} (r:RelV c u) (h:ZgU c=true):u=Zeq c:=by
 cases c with
 | ty n=>exact r
 | ref a=>exact r
 | _=>cases h
theorem Vals.cls:∀ {cs:List V} {us:List Value},Vals cs us->cs.all ZgU=true->us=cs.map Zeq
 | _,_,.nil,_=>rfl
 | _,_,.cons r t,h=>by
  rw [List.all_cons,Bool.and_eq_true] at h
  rw [List.map_cons,r.cls h.1,Vals.cls t h.2]
def ZnP (K:PySem.W.Frag):List V->Hp->VK->Prop:=λxs H Q=>∃ x c b,xs=[x,c]/\Q (.bl b) H /\
 ((∃ t,Zf3 K H x t/\ZgU c=true/\PySem.W.kitOne K t (Zeq c)=some b) \/
  (∃ a C,x=.ref a/\H a=some (Zi6 a C)/\ZmD K C/\ZgU c=true/\PySem.W.kitOne K (.ref C) (Zeq c)=some b) \/
  (∃ a C tp cs,x=.ref a/\H a=some (Zi6 a C)/\ZmD K C/\c=.ref tp/\H tp=some (.tup cs)/\cs.all ZgU=true/\PySem.W.kitAny K (.ref C) (cs.map Zeq)=some b))
theorem Zh8 {X:Cx}:ZbW X (.builtin "isinstance") (ZnP X.K):=by
 intro pins s σ H xs us Q I rv h
 obtain ⟨x,c,b,rfl,q,h⟩:=h
 obtain ⟨u,cv,rfl,ru,rc⟩:=rv.two
 have fin:∀ tk,EP X pins σ Q (.bool b) { s with toks:=tk }:=λtk=>⟨.bl b,H,I.tok tk,rfl,q⟩
 rcases h with ⟨t,ty,hc,e⟩ | ⟨a,C,rfl,ha,k,hc,e⟩ | ⟨a,C,tp,cs,rfl,ha,k,rfl,ht,hc,e⟩
 ·rw [rc.cls hc]
  exact ZgJ I ru ty e fin
 ·rw [rc.cls hc]
  cases (show u=Value.ref a from ru)
  obtain ⟨p,_⟩:=I.hok a _ ha
  exact PySem.W.kia_one (Zfv k) I.kIn p e (λz=>nomatch z) fin
 ·cases (show u=Value.ref a from ru)
  cases (show cv=Value.ref tp from rc)
  obtain ⟨p,_⟩:=I.hok a _ ha
  obtain ⟨_,its,r,o,eo,co,n,dn⟩:=I.hok tp _ ht
  obtain ⟨ocl,odi,oda,osl⟩:=o
  cases (show ocl=.type "tuple" from co)
  cases (show oda=.seq its.toArray n from dn)
  exact PySem.W.kia_tup (its:=its) (Zfv k) I.kIn p eo (by rw [r.cls hc];exact e) (λz=>nomatch z) fin
mutual
inductive DatV (K:PySem.W.Frag) (H:Hp):V->PyData->Prop
 | non:DatV K H .non .none
 | bl (b:Bool):DatV K H (.bl b) (.bool b)
 | int (i:Int):DatV K H (.int i) (.int i)
 | str (x:Str):DatV K H (.str x) (.str x)
 | lst {a:Addr} {xs:List V} {ds:List PyData}:SqL K H a xs->DatVs K H xs ds->DatV K H (.ref a) (.list ds)
 | tup {a:Addr} {xs:List V} {ds:List PyData}:SqT K H a xs->DatVs K H xs ds->DatV K H (.ref a) (.tuple ds)
inductive DatVs (K:PySem.W.Frag) (H:Hp):List V->List PyData->Prop
 | nil:DatVs K H [] []
 | cons {x:V} {d:PyData} {xs:List V} {ds:List PyData}:DatV K H x d->DatVs K H xs ds->DatVs K H (x::xs) (d::ds)
end
section
variable {X:Cx} {pins:List (Addr×Obj)} {σ:St} {H:Hp} {s:Shared}
mutual
theorem DatV.reads (I:Inv X pins σ H s):∀ {x:V} {d:PyData} {u:Value},DatV X.K H x d->RelV x u->∃ as,Reads s.heap u d as
 | _,_,_,.non,r=>by cases r;exact ⟨_,.none⟩
 | _,_,_,.bl b,r=>by cases r;exact ⟨_,.bool b⟩
 | _,_,_,.int i,r=>by obtain ⟨t,rfl⟩:=r;exact ⟨_,.int i t⟩
 | _,_,_,.str x,r=>by obtain ⟨t,rfl⟩:=r;exact ⟨_,.str x t⟩
 | _,_,_,.lst hq hs,r=>by
  cases r
  obtain ⟨its,rv,⟨o,n,e,c,dd,dt⟩,_⟩:=I.list hq
  obtain ⟨as,ra⟩:=DatVs.reads I hs rv
  exact ⟨_,.list e c dt (by simpa using ra)⟩
 | _,_,_,.tup hq hs,r=>by
  cases r
  obtain ⟨its,rv,⟨o,e,c,n,dt⟩,_⟩:=I.tuple hq
  obtain ⟨as,ra⟩:=DatVs.reads I hs rv
  exact ⟨_,.tuple e c dt (by simpa using ra)⟩
theorem DatVs.reads (I:Inv X pins σ H s):∀ {xs:List V} {ds:List PyData} {us:List Value},DatVs X.K H xs ds->Vals xs us->∃ as,ReadsAll s.heap us ds as
 | _,_,_,.nil,.nil=>⟨_,.nil⟩
 | _,_,_,.cons h hs,.cons r rs=>by
  obtain ⟨as,ra⟩:=DatV.reads I h r
  obtain ⟨bs,rb⟩:=DatVs.reads I hs rs
  exact ⟨_,.cons ra rb⟩
end
end
def Zln (K:PySem.W.Frag) (neg:Bool):R2:=λx y H Q=>∃ d1 d2,DatV K H x d1/\DatV K H y d2/\SeqAt.shaped d1=true/\SeqAt.shaped d2=true/\Q (.bl (neg != PyData.eqv d1 d2)) H
theorem Zlo {X:Cx} (hu:X.A.units+64<cLine):OpR X (compareOp .NotEq) (Zln X.K true):=by
 intro pins s σ H x y v u Q I rx ry h
 obtain ⟨d1,d2,h1,h2,s1,s2,q⟩:=h
 obtain ⟨as,r1⟩:=h1.reads I rx
 obtain ⟨bs,r2⟩:=h2.reads I ry
 exact ne_dataH r1 r2 s1 s2 hu ⟨.bl _,H,I,by cases PyData.eqv d1 d2 <;> rfl,q⟩
def Lt2 (p:Nat) (a:Int):Prop:=a.natAbs<2 ^ p
theorem Lt2.bits {a:Int} {n:Nat} (h:Lt2 n a):Builtin.Int.intBits a<=n:=by
 unfold Builtin.Int.intBits
 by_cases z:a=0
 ·subst z
  exact Nat.zero_le _
 ·have hp:a.natAbs≠0:=by omega
  have hz:¬ ((a == 0)=true):=by simpa using z
  rw [if_neg hz]
  exact Nat.succ_le_of_lt ((Nat.log2_lt hp).mpr h)
theorem Lt2.mul {a b:Int} {p q:Nat} (h1:Lt2 p a) (h2:Lt2 q b):Lt2 (p+q) (a * b):=by
 show (a * b).natAbs<2 ^ (p+q)
 rw [Int.natAbs_mul,Nat.pow_add]
 exact Nat.mul_lt_mul_of_lt_of_lt h1 h2
theorem Lt2.add {a b:Int} {p:Nat} (h1:Lt2 p a) (h2:Lt2 p b):Lt2 (p+1) (a+b):=by
 have h1':a.natAbs<2 ^ p:=h1
 have h2':b.natAbs<2 ^ p:=h2
 show (a+b).natAbs<2 ^ (p+1)
 rw [Nat.pow_succ]
 omega
theorem Lt2.mono {a:Int} {p q:Nat} (h:Lt2 p a) (hp:p<=q):Lt2 q a:=Nat.lt_of_lt_of_le h (Nat.pow_le_pow_right (by decide) hp)
theorem Lt2.mod {a b:Int} {p:Nat} (hb:0<b) (h:Lt2 p b):Lt2 p (a % b):=by
 have h1:=Int.emod_nonneg a (Int.ne_of_gt hb)
 have h2:=Int.emod_lt_of_pos a hb
 have h':b.natAbs<2 ^ p:=h
 show (a % b).natAbs<2 ^ p
 omega
theorem Lt2.div {a b:Int} {p:Nat} (ha:0<=a) (hb:0<=b) (h:Lt2 p a):Lt2 p (a / b):=by
 have h':a.natAbs<2 ^ p:=h
 have h1:=Int.ediv_nonneg ha hb
 have h2:=Int.ediv_le_self b ha
 show (a / b).natAbs<2 ^ p
 omega
def Zm1 (i j:Int):Prop:=∃ p q,Lt2 p i/\Lt2 q j/\p<=100000/\q<=100000
theorem Zby {X:Cx}:OpR X (binaryOp .Mult) (rI Zm1 λi j=>.int (i * j)):=opI λi j _ _ _ _ _ hc q=>by
 obtain ⟨p,r,h1,h2,hp,hr⟩:=hc
 have e:(2:Nat) ^ 20=1048576:=by decide
 exact mul_int q (.of_bits (by have:=h1.bits;omega) (by have:=h2.bits;omega))
def Zm2 (i j:Int):Prop:=0<j/\Lt2 9000 j
theorem Zfw {X:Cx}:OpR X (binaryOp .FloorDiv) (rI Zm2 λi j=>.int (i / j)):=opI λi j _ _ _ _ _ hc q=>by
 have h1:(0:Int)<j:=hc.1
 have h2:j.natAbs<2 ^ 9000:=hc.2
 refine floordiv_int (by omega) (by rw [Int.fdiv_eq_ediv_of_nonneg i (by omega)];exact q) (.inl (PyProof.noPylong_of_log2 ?_))
 exact (Nat.log2_lt (by omega)).mpr h2
theorem Same.new {H:Hp} {p:Addr} {o:HO} (h:H p=none):Same H (upd H p o):=λb u e=>by rw [Zao (Zai e h)];exact e
theorem Same.put {H H1:Hp} {p:Addr} {o:HO} (s:Same H H1) (h:H p=none):Same H (upd H1 p o):=λb u e=>by rw [Zao (Zai e h)];exact s b u e
theorem Zal {H:Hp} {p b:Addr} {o u:HO} (h:H b=some u) (n:b≠p):upd H p o b=some u:=by rw [Zao n];exact h
inductive Prs (H:Hp):List V->List (Int×Int)->Prop
 | nil:Prs H [] []
 | cons {p:Addr} {a b:Int} {xs:List V} {rs:List (Int×Int)}:H p=some (.tup [.int a,.int b])->Prs H xs rs->Prs H (.ref p::xs) ((a,b)::rs)
theorem Prs.len {H:Hp} {xs:List V} {rs:List (Int×Int)} (h:Prs H xs rs):xs.length=rs.length:=by
 induction h with
 | nil=>rfl
 | cons _ _ ih=>rw [List.length_cons,List.length_cons,ih]
theorem Prs.snoc {H:Hp} {xs:List V} {rs:List (Int×Int)} (h:Prs H xs rs) {p:Addr} {a b:Int} (e:H p=some (.tup [.int a,.int b])):Prs H (xs++[.ref p]) (rs++[(a,b)]):=by
 induction h with
 | nil=>exact .cons e .nil
 | cons e1 _ ih=>exact .cons e1 ih
theorem Prs.keep {H H':Hp} {xs:List V} {rs:List (Int×Int)} (h:Prs H xs rs) (k:∀ p ys,H p=some (.tup ys)->H' p=some (.tup ys)):Prs H' xs rs:=by
 induction h with
 | nil=>exact .nil
 | cons e1 _ ih=>exact .cons (k _ _ e1) ih
theorem Prs.same {H H':Hp} {xs:List V} {rs:List (Int×Int)} (h:Prs H xs rs) (k:Same H H'):Prs H' xs rs:=h.keep λp ys e=>k p _ e
theorem ZaW {H:Hp} {l:Addr} {zs:List V} {o:HO} (h:H l=some (.lst zs)):∀ p ys,H p=some (.tup ys)->upd H l o p=some (.tup ys):=λp ys e=>Zal e (Zgt e h (λz=>by cases z))
theorem ZbN {H:Hp} {l:Addr} {o:HO} (h:H l=none):∀ p ys,H p=some (.tup ys)->upd H l o p=some (.tup ys):=λp ys e=>Zal e (Zai e h)
def prD (r:Int×Int):PyData:=.tuple [.int r.1,.int r.2]
theorem Prs.dats {K:PySem.W.Frag} {H:Hp} {xs:List V} {rs:List (Int×Int)} (h:Prs H xs rs):DatVs K H xs (rs.map prD):=by
 induction h with
 | nil=>exact .nil
 | cons e _ ih=>exact .cons (.tup (SqT.of e) (.cons (.int _) (.cons (.int _) .nil))) ih
theorem ZjQ (r q:Int×Int):PyData.eqv (prD r) (prD q)=decide (r=q):=by
 obtain ⟨a,b⟩:=r
 obtain ⟨c,d⟩:=q
 simp only [prD,PyData.eqv,PyData.eqvAll,Prod.mk.injEq]
 by_cases h1:a=c <;> by_cases h2:b=d <;> simp [h1,h2]
theorem ZeX:∀ rs qs:List (Int×Int),PyData.eqvAll (rs.map prD) (qs.map prD)=decide (rs=qs)
 | [],[]=>by simp [PyData.eqvAll]
 | [],_::_=>by simp [PyData.eqvAll]
 | _::_,[]=>by simp [PyData.eqvAll]
 | r::rs,q::qs=>by
  rw [List.map_cons,List.map_cons]
  simp only [PyData.eqvAll,ZjQ,ZeX rs qs]
  by_cases h1:r=q <;> by_cases h2:rs=qs <;> simp [h1,h2]
theorem ZeY:∀ rs:List (Int×Int),PyData.canLayAll0 (rs.map prD)=true
 | []=>by simp [PyData.canLayAll0]
 | r::rs=>by
  rw [List.map_cons]
  simp [PyData.canLayAll0,prD,PyData.canLay0,ZeY rs]
theorem Zc5:∀ rs:List (Int×Int),PyData.depthAll (rs.map prD)<=2
 | []=>by simp [PyData.depthAll]
 | r::rs=>by
  have ih:=Zc5 rs
  rw [List.map_cons]
  simp only [PyData.depthAll,prD,PyData.depth]
  omega
theorem Zds (rs:List (Int×Int)):SeqAt.shaped (.list (rs.map prD))=true:=by
 unfold SeqAt.shaped
 rw [Bool.and_eq_true]
 refine ⟨by simp only [PyData.canLay0];exact ZeY rs,decide_eq_true ?_⟩
 have:=Zc5 rs
 simp only [PyData.depth]
 omega
theorem Zdt (n:Int) (rs:List (Int×Int)):SeqAt.shaped (.tuple [.int n,.list (rs.map prD)])=true:=by
 unfold SeqAt.shaped
 rw [Bool.and_eq_true]
 have:=Zc5 rs
 refine ⟨by simp only [PyData.canLay0,PyData.canLayAll0,ZeY rs,Bool.and_self],decide_eq_true ?_⟩
 simp only [PyData.depth,PyData.depthAll]
 omega
theorem ZjR (n m:Int) (rs qs:List (Int×Int)):PyData.eqv (.tuple [.int n,.list (rs.map prD)]) (.tuple [.int m,.list (qs.map prD)])=(decide (n=m) && decide (rs=qs)):=by
 simp only [PyData.eqv,PyData.eqvAll,ZeX,Bool.and_true]
 by_cases h:n=m <;> simp [h]
end L2
namespace L2
open PySem PySem.Spec PyProof.Rows
section
variable {P:Program} {w:World} {K:PySem.W.Frag} {mg:Str->Option Value} {base:Heap}
theorem Fun.okR {x qual:Str} {st:Stmt} {f:Addr} {fd:FuncData} {N ps:List Str} {k:Nat} {sp:Sp} (F:Fun K x qual st f fd) (S:Zaw N ps (Zad st)) (len:∀ vs H Q E,sp vs H Q E->vs.length=ps.length)
  (hbody:∀ (cdv:Value) (A:Around) (outer:List Env) (s:Shared) (H:Hp) (vs:List V) (Q:VK) (E:XK),Room k (A.deeper (envOfC qual (Zad st) s.heap.objs.size f cdv))->sp vs H Q E ->
   ∃ t,PSs (ZgK (CXr P w) P w K mg base N qual (Zad st) f cdv A outer s H E) (Zan st) t/\t { nx:=λ_ H'=>Q .non H',rt:=Q } (start N vs) H):ZaN P w K mg base (CXr P w) (k+1) f fd ps sp:=by
 obtain ⟨oc,od,kV,doc,pm,an,cdv,ct,osl,rfl,lk,hcd⟩:=F.ex
 refine ZjH lk hcd S len λA outer s H vs Q E hr hsp=>?_
 obtain ⟨t,h,q⟩:=hbody cdv A outer s H vs Q E hr hsp
 exact ⟨t,h,q⟩
theorem ZjS {X:Cx}:Zef (CXr X.prog X.w) X E0:=λ_ _ _ _ _ _ _ ⟨_,_,_,_,_,h⟩=>h.elim
end
section
variable {X:Cx}
theorem Zbl {x:Str} {a:Addr} {pos:Pos} (hm:X.mg x=some (.ref a)) (hg:Gl X x:=by rfl) (hd:(x == ("__debug__" : Str))=false:=by decide):PE X (.Name x pos) (tC (.ref a)):=ZeS hg hm rfl hd
theorem Zfx {x:Str} {T:String} {pos:Pos} (hm:X.mg x=none) (hv:bootBuiltins x=some (.type T)) (hg:Gl X x:=by rfl) (hn:x ≠ "__name__" := by decide) (hd:(x == ("__debug__" : Str))=false:=by decide):PE X (.Name x pos) (tC (.ty T)):=ZjC hg hm hv rfl hn hd
end
theorem Zbp:bootBuiltins "isinstance" = some (.builtin "isinstance"):=by first | rfl | decide +kernel
theorem ZjT:bootBuiltins "ValueError" = some (.type "ValueError"):=by first | rfl | decide +kernel
theorem Zbz:bootBuiltins "list" = some (.type "list"):=by first | rfl | decide +kernel
theorem ZgV:bootBuiltins "bool" = some (.type "bool"):=by first | rfl | decide +kernel
theorem ZdI:bootBuiltins "int" = some (.type "int"):=by first | rfl | decide +kernel
theorem ZdJ {K:PySem.W.Frag} {t:Value}:PySem.W.kitOne K t t=some true:=by
 unfold PySem.W.kitOne
 rw [if_pos (beq_self_eq_true t)]
section
variable {X:Cx} (K:PySem.W.Frag)
theorem ZjU (h:X.K=K:=by rfl):ZbW X (.builtin "isinstance") (ZnP K):=h▸Zh8
theorem Zdf (h:X.K=K:=by rfl):IxR X (ZmV K):=h▸ZeV
theorem ZcA (h:X.K=K:=by rfl):IxR X (ZmW K):=h▸Zlg
theorem kIn (h:X.K=K:=by rfl):OpR X (compareOp .In) (rIn K false):=h▸ZgN
theorem ZgW (h:X.K=K:=by rfl):OpR X (compareOp .NotIn) (rIn K true):=h▸Zel
theorem Zf7 (h:X.K=K:=by rfl):ZbW X (.builtin "len") (λxs H Q=>∃ p ys,xs=[.ref p]/\(SqL K H p ys\/SqT K H p ys)/\Q (.int ys.length) H):=h▸Zem
theorem ZgX (h:X.K=K:=by rfl):ZbW X (.type "list") (λxs H Q=>∃ p ys,xs=[.ref p]/\(SqL K H p ys\/SqT K H p ys)/\∀ l,H l=none->Q (.ref l) (upd H l (.lst ys))):=h▸Zen
theorem ZkU (hu:X.A.units+64<cLine) (h:X.K=K:=by rfl):OpR X (compareOp .NotEq) (Zln K true):=h▸Zlo hu
theorem kSl (h:X.K=K:=by rfl):SlR X (ZnK K):=h▸ZjK
theorem Zlp {es:List Expr} {k:Nat} {t:TGs} {n:Nat} {pos:Pos} (hc:X.calm=true) (h:PGs X es t) (hK:X.K=K:=by rfl)
  (hn:(assignEach es X.env).length=n:=by rfl) (hst:(assignEach es X.env).findIdx? (·.1)=none:=by rfl):PG X (.Tuple es k pos) (ZnD K n t):=hK▸Zk1 hc h hn hst
theorem ZbX {tg l:Expr} {tl:TE} (hl:PE X l tl) (h:X.K=K:=by rfl):PI X tg l (Zk6 K tl):=h▸ZjD hl
end
end L2
namespace L2
open PySem
def Zf8 (r c:Nat) (p:Nat):List (Int×Int):=
 (if ((p:Int)+1) % (c:Int)=0 then [] else [((p:Int),(p:Int)+1)])++(if (p:Int)+(c:Int)<(r:Int) * (c:Int) then [((p:Int),(p:Int)+(c:Int))] else [])
def Zcg (r c i:Nat):List (Int×Int):=(List.range i).flatMap (Zf8 r c)
def Zm3 (r c i j:Nat):List (Int×Int):=
 (if (j:Int)<(c:Int)-1 then [((i:Int) * (c:Int)+(j:Int),(i:Int) * (c:Int)+(j:Int)+1)] else []) ++
 (if (i:Int)<(r:Int)-1 then [((i:Int) * (c:Int)+(j:Int),((i:Int)+1) * (c:Int)+(j:Int))] else [])
def ZoA (r c i j:Nat):List (Int×Int):=(List.range j).flatMap (Zm3 r c i)
def ZnQ (r c i:Nat):List (Int×Int):=(List.range i).flatMap λk=>ZoA r c k c
theorem Zb3 (r c i:Nat):Zcg r c (i+1)=Zcg r c i++Zf8 r c i:=by
 unfold Zcg
 rw [List.range_succ,List.flatMap_append,List.flatMap_singleton]
theorem ZdK {H H2:Hp} {l t:Addr} {xs:List V} {rs:List (Int×Int)} {a b:Int} (s:Same H H2) (hl:H l=none) (h2:H2 l=some (.lst xs)) (hp:Prs H2 xs rs) (ht:H2 t=none) :
  Same H (upd (upd H2 t (.tup [.int a,.int b])) l (.lst (xs++[.ref t])))/\upd (upd H2 t (.tup [.int a,.int b])) l (.lst (xs++[.ref t])) l=some (.lst (xs++[.ref t])) /\
   Prs (upd (upd H2 t (.tup [.int a,.int b])) l (.lst (xs++[.ref t]))) (xs++[.ref t]) (rs++[(a,b)]):=by
 have hne:t≠l:=λz=>by rw [z,h2] at ht;cases ht
 have s1:Same H (upd H2 t (.tup [.int a,.int b])):=s.put (s.free ht)
 refine ⟨s1.put hl,Zab,?_⟩
 have k1:=hp.keep (ZbN (o:=.tup [.int a,.int b]) ht)
 have k2:=k1.keep (ZaW (H:=upd H2 t (.tup [.int a,.int b])) (l:=l) (zs:=xs) (o:=.lst (xs++[.ref t])) (Zal h2 (Ne.symm hne)))
 exact k2.snoc (by rw [Zao hne,Zab])
end L2
namespace L2
open PySem PySem.Spec PyProof.Rows
def AllP {α:Type} (P:α->Prop):List α->Prop
 | []=>True
 | x::r=>P x/\AllP P r
theorem AllP.mem {α:Type} {P:α->Prop}:∀ {l:List α},AllP P l->∀ x∈l,P x
 | _::_,h,_,.head _=>h.1
 | _::_,h,x,.tail _ m=>AllP.mem h.2 x m
theorem Zaq {X:Cx} {scope:Scope} {cl:List (Str×Addr)} {own:List Str} {fr:List (Str×Nat)} (L:List (Str×NameKind)) (hcl:closureFor scope X.env=pure cl) (hL:(relabel scope X.env).names=L)
  (hc:∀ y∈scope.names,y.2≠.cell) (hk:scope.kind=.function) (hn:∀ y∈scope.names,y.2=.local->scope.names.lookup y.1=some .local)
  (hcs:AllP (λp=>X.env.cells.lookup p.1=some p.2) cl) (hall:AllP (λp=>(p.2=.cell\/p.2=.free)->∃ c,cl.lookup p.1=some c) L)
  (hfr:AllP (λp=>X.N[p.2]?=some p.1/\(X.env.kindOf p.1=some .cell\/X.env.kindOf p.1=some .free)/\(L.lookup p.1=some .cell\/L.lookup p.1=some .free)) fr):Zbk X scope cl own fr:=
 ⟨hcl,hc,hk,hn,λy c h=>hcs.mem (y,c) (PySem.mem_of_lookup h),λy h=>by
  rw [hL] at h
  rcases h with h | h
  ·exact hall.mem _ (PySem.mem_of_lookup h) (.inl rfl)
  ·exact hall.mem _ (PySem.mem_of_lookup h) (.inr rfl),λp hp=>by
  rw [hL]
  exact hfr.mem p hp⟩
theorem ZaP {k:NameKind} {P:Prop} (h:k=.cell\/k=.free) (h1:(k == .cell)=false:=by rfl) (h2:(k == .free)=false:=by rfl):P:=by
 rcases h with z | z
 ·subst z;exact absurd h1 (by decide)
 ·subst z;exact absurd h2 (by decide)
theorem Zh9:bootBuiltins "min" = some (.builtin "min"):=by first | rfl | decide +kernel
def Zah (n:Int) (rs:List (Int×Int)):Prop:=1<=n/\n<=16/\rs.length<=30/\(∀ p∈rs,0<=p.1/\p.1<p.2/\p.2<n)/\rs.Nodup
instance (n:Int) (rs:List (Int×Int)):Decidable (Zah n rs):=by unfold Zah;infer_instance
theorem ZgY {r c:Nat} (hr0:1<=r) (hr:r<=3) (hc0:1<=c) (hc:c<=4):Zah ((r:Int) * (c:Int)) (Zcg r c (r * c)):=by
 have h1:r=1\/r=2\/r=3:=by omega
 have h2:c=1\/c=2\/c=3\/c=4:=by omega
 rcases h1 with rfl | rfl | rfl <;> rcases h2 with rfl | rfl | rfl | rfl <;> decide +kernel
structure Dk (H0 H:Hp) (d:Addr):Prop where
 keep:∀ b o,b≠d->H0 b=some o->H b=some o
 at_:∃ n:Int,H d=some (.lst [.int n])
section
variable {H0 H H':Hp} {d p:Addr} {o:HO}
theorem Dk.start {n:Int} (h:H d=some (.lst [.int n])):Dk H H d:=⟨λ_ _ _ e=>e,n,h⟩
theorem Dk.take (h:Dk H0 H d) (n':Int):Dk H0 (upd H d (.lst [.int n'])) d:=⟨λb o n e=>by rw [Zao n];exact h.keep b o n e,n',Zab⟩
theorem Dk.grow (h:Dk H0 H d) (s:Same H H'):Dk H0 H' d:=⟨λb o n e=>s b o (h.keep b o n e),h.at_.elim λn e=>⟨n,s _ _ e⟩⟩
theorem Dk.new (h:Dk H0 H d) (hp:H p=none):Dk H0 (upd H p o) d:=h.grow (Same.new hp)
theorem Dk.free (h:Dk H0 H d) (hp:H p=none):H0 p=none:=by
 cases q:H0 p with
 | none=>rfl
 | some u=>
  by_cases z:p=d
  ·obtain ⟨n,e⟩:=h.at_
   rw [<-z,hp] at e;cases e
  ·rw [h.keep p u z q] at hp;cases hp
theorem Dk.ne (h:Dk H0 H d) (hp:H p=none):d≠p:=by
 obtain ⟨n,e⟩:=h.at_
 exact Zai e hp
theorem Dk.put (h:Dk H0 H d) (hp:H0 p=none) (hd:d≠p):Dk H0 (upd H p o) d:=⟨λb u n e=>Zal (h.keep b u n e) (Zai e hp),h.at_.elim λn e=>⟨n,Zal e hd⟩⟩
theorem Dk.tups (h:Dk H0 H d) {n:Int} (h0:H0 d=some (.lst [.int n])):∀ q ys,H0 q=some (.tup ys)->H q=some (.tup ys):=λq ys e=>h.keep q _ (Zgt e h0 (λz=>by cases z)) e
end
theorem Prs.get {H:Hp}:∀ {xs:List V} {rs:List (Int×Int)},Prs H xs rs->∀ {i:Nat} {x:V},xs[i]?=some x->∃ t r,x=.ref t/\H t=some (.tup [.int r.1,.int r.2])/\rs[i]?=some r
 | _,_,.nil,_,_,h=>by simp at h
 | _,_,.cons (a:=a) (b:=b) e _,0,_,h=>by
  simp at h
  subst h
  exact ⟨_,(a,b),rfl,e,rfl⟩
 | _,_,.cons _ r,i+1,x,h=>by
  obtain ⟨t,q,h1,h2,h3⟩:=Prs.get r (i:=i) (x:=x) (by simpa using h)
  exact ⟨t,q,h1,h2,by simpa using h3⟩
theorem Prs.app {H:Hp} {xs ys:List V} {rs qs:List (Int×Int)} (h:Prs H xs rs) (k:Prs H ys qs):Prs H (xs++ys) (rs++qs):=by
 induction h with
 | nil=>exact k
 | cons e _ ih=>exact .cons e ih
theorem Prs.erase {H:Hp}:∀ {xs:List V} {rs:List (Int×Int)},Prs H xs rs->∀ i:Nat,Prs H (xs.eraseIdx i) (rs.eraseIdx i)
 | _,_,.nil,_=>.nil
 | _,_,.cons _ r,0=>r
 | _,_,.cons e r,i+1=>.cons e (Prs.erase r i)
theorem Zb4 {t u:TS} {D:Ends} {σ:St} {H:Hp} (Pm:St->Hp->Prop) (h2:∀ σ' H',Pm σ' H'->u D σ' H') (h1:(∀ σ' H',Pm σ' H'->u D σ' H')->t { D with nx:=u D } σ H):Znz t u D σ H:=h1 h2
theorem Zm4 {n:Nat} {r:Int} (h0:0<=r) (h1:r<n):seqIndex? r n=some r.toNat:=by
 have h:ixN n r=some r.toNat:=by
  unfold ixN
  rw [if_pos h0,if_pos h1]
 exact (ZeU h).1
theorem Zfy {α:Type}:∀ (ps rs:List α) (k:Nat) (y:α),ps[k]?=some y->((rs++[y])++ps.eraseIdx k).Perm (rs++ps)
 | [],_,k,y,h=>by simp at h
 | x::r,rs,0,y,h=>by
  simp at h
  subst h
  rw [List.append_assoc]
  exact List.Perm.refl _
 | x::r,rs,k+1,y,h=>by
  have ih:=Zfy r [] k y (by simpa using h)
  rw [List.eraseIdx_cons_succ,List.append_assoc]
  refine List.Perm.append_left rs ?_
  have ih':(y::r.eraseIdx k).Perm r:=by simpa using ih
  exact (List.Perm.swap x y _).trans (ih'.cons x)
end L2
namespace L2
open PySem PySem.Spec PyProof.Rows
section
variable {X:Cx} (K:PySem.W.Frag)
def ZjV:List V->Hp->VK->Prop:=λxs H Q=>∃ (p:Addr) (ns:List Int),xs=[.ref p]/\SqL K H p (ns.map V.int)/\ns.length<64/\∀ (l:Addr) (ns':List Int),H l=none->ns'.Perm ns->ns'.Pairwise (· <= ·)->Q (.ref l) (upd H l (.lst (ns'.map V.int)))
theorem ZgZ (h:X.K=K:=by rfl):ZbW X (.builtin "sorted") (ZjV K):=by
 subst h
 intro pins s σ H xs us Q I rv h
 obtain ⟨p,ns,rfl,hq,h64,q⟩:=h
 obtain ⟨u,rfl,ru⟩:=rv.one
 cases ru
 obtain ⟨its,r,pl,hz⟩:=I.list hq
 have hl:=r.length
 rw [List.length_map] at hl
 refine sorted_ints pl.isList (Zdn r) (by omega) λout ns' h1 h2 h3=>?_
 obtain ⟨e,he⟩:=sortedAll_at s.heap its out
 have rv':=Zc3 h1
 have hlen:(ns'.map V.int).length<=sizeLine:=by
  have:=h2.length_eq
  rw [List.length_map] at hz ⊢
  omega
 refine ⟨.ref _,_,I.laid (a:=s.heap.objs.size+1) (t':=s.toks) (o:=.lst (ns'.map V.int)) (λb o e=>sortedAll_old e) (Nat.le_succ _) ⟨hlen,out.toList,e,rv',he⟩,rfl,q _ ns' (I.hok.fresh (Nat.le_succ _)) h2 h3⟩
end
section
variable {X:Cx}
end
section
variable {X:Cx}
theorem ZbA:UnR X (unaryOp .USub) (rU λi=>.int (-i)):=by
 intro pins s σ H x v Q I rx h
 obtain ⟨i,rfl,q⟩:=h
 obtain ⟨t,rfl⟩:=rx
 exact neg_int ⟨.int (-i),H,I.tok _,⟨_,rfl⟩,q⟩
end
theorem Zlq {xs:List V} {k:Nat}:Zdi xs none (some (k:Int))=xs.take k:=by
 unfold Zdi
 rw [HT.sIx_none,HT.sIx_nat,List.drop_zero,Nat.sub_zero]
 by_cases h:k<=xs.length
 ·rw [Nat.min_eq_left h]
 ·rw [Nat.min_eq_right (by omega),List.take_length,List.take_of_length_le (by omega)]
theorem Zfz {xs:List V} {k:Nat}:Zdi xs (some (k:Int)) none=xs.drop k:=by
 unfold Zdi
 rw [HT.sIx_none,HT.sIx_nat]
 by_cases h:k<=xs.length
 ·rw [Nat.min_eq_left h,List.take_of_length_le (by rw [List.length_drop];exact Nat.le_refl _)]
 ·rw [Nat.min_eq_right (by omega),List.drop_length,List.drop_of_length_le (by omega),List.take_nil]
theorem ZbB {K:PySem.W.Frag} {H:Hp}:∀ ns:List Int,DatVs K H (ns.map V.int) (ns.map PyData.int)
 | []=>.nil
 | n::ns=>.cons (.int n) (ZbB ns)
theorem ZdL:∀ ns:List Int,PyData.canLayAll0 (ns.map PyData.int)=true
 | []=>by simp [PyData.canLayAll0]
 | n::ns=>by
  rw [List.map_cons]
  simp [PyData.canLayAll0,PyData.canLay0,ZdL ns]
theorem ZcB:∀ ns:List Int,PyData.depthAll (ns.map PyData.int)<=1
 | []=>by simp [PyData.depthAll]
 | n::ns=>by
  have ih:=ZcB ns
  rw [List.map_cons]
  simp only [PyData.depthAll,PyData.depth]
  omega
theorem Zbq (ns:List Int):SeqAt.shaped (.list (ns.map PyData.int))=true:=by
 unfold SeqAt.shaped
 rw [Bool.and_eq_true]
 have:=ZcB ns
 refine ⟨by simp only [PyData.canLay0];exact ZdL ns,decide_eq_true ?_⟩
 simp only [PyData.depth]
 omega
theorem ZdM (ns ms:List Int):PyData.eqv (.list (ns.map PyData.int)) (.list (ms.map PyData.int))=decide (ns=ms):=by
 rw [<-PySem.W.ked_eqvAll]
 simp only [PyData.eqv]
end L2
namespace L2
open PySem PySem.Spec PyProof.Rows
theorem Zia {P:Program} {w:World} {K:PySem.W.Frag} {mg:Str->Option Value} {base:Heap} {N:List Str} {qual:Str} {scope:Scope} {f:Addr} {cd:Value} {A:Around} {outer:List Env} {s:Shared} {H:Hp} {E:XK} :
  Zef (CXr P w) (ZgK (CXr P w) P w K mg base N qual scope f cd A outer s H E) E:=by
 intro pins σ H1 s1 ev s' I h
 obtain ⟨a,C,H',rfl,⟨t,B,os,bare,un,hok,fl,trk,old⟩,hE⟩:=h
 have hfr:=I.ok.frames
 have nox:∀ b:Addr,b ∉ (ZgK (CXr P w) P w K mg base N qual scope f cd A outer s H E).ex:=λb z=>absurd (show b∈([]:List Addr) from z) (by simp)
 refine wpAny_leaves_onW hfr rfl fl λh2 fl2 sm=>?_
 obtain ⟨u2,k2⟩:=Zfu (t:=t) (a:=a) (C:=C) un hok fl.2.2.1 trk old fl2.1 sm
 have u1:Un (frs (envOfC qual scope s.heap.objs.size f cd::outer)) [] H H1 s.heap s1.heap:=Un.mono I.base (λb hb=>by
  have hb':b∈frs outer:=hb
  obtain ⟨env,he,q⟩:=List.mem_filterMap.mp hb'
  exact List.mem_filterMap.mpr ⟨env,List.mem_cons_of_mem _ he,q⟩) (λb hb=>absurd hb (nox b))
 have u3:=u1.trans u2
 have nst:∀ b o,s.heap.get? b=some o->b ∉ frs outer->b ∉ frs (envOfC qual scope s.heap.objs.size f cd::outer):=λb o e hb z=>by
  rcases List.mem_cons.mp (I.stkSub b z) with q | q
  ·exact absurd (Nat.lt_of_lt_of_le (Heap.lt_size e) I.ok.above) (by rw [q];exact Nat.lt_irrefl _)
  ·exact hb q
 have inst:∀ b,b∈frs outer->b∈frs (envOfC qual scope s.heap.objs.size f cd::outer):=λb hb=>by
  obtain ⟨env,he,q⟩:=List.mem_filterMap.mp hb
  exact List.mem_filterMap.mpr ⟨env,List.mem_cons_of_mem _ he,q⟩
 refine ⟨a,C,H',rfl,⟨t,B,os.trans I.os,bare,⟨λb o e n hb hx=>u3.keep b o e n (nst b o e hb) hx,λb o e n hb hx=>u3.slot b o e n (inst b hb) hx,u3.free,u3.there,u3.tups,u3.frzs,u3.tbls⟩,k2,fl2,λb o e n=>?_,λb o0 o e0 e nb=>?_⟩,hE⟩
 ·cases q':H' b with
  | none=>exact absurd q' n
  | some u=>
   obtain ⟨v,q⟩:=(hok b u q').there
   have e1:=trk b v q n
   have e2:=fl2.1 b v e1
   have e':h2.get? b=some o:=e
   rw [e'] at e2;cases e2
   exact e1
 ·obtain ⟨o1,e1⟩:=u1.there b o0 e0 (by simp)
  obtain ⟨o2,e2⟩:=un.there b o1 e1 (by simp)
  have e3:=old b o1 o2 e1 e2 (nst b o0 e0 nb)
  have e4:=fl2.1 b o2 e3
  have e':h2.get? b=some o:=e
  rw [e'] at e4;cases e4
  exact e3
section
variable {X:Cx}
def Zpk (K:PySem.W.Frag) (neg:Bool):R2:=λx y H Q=>∃ p xs d ds,y=.ref p/\(SqL K H p xs\/SqT K H p xs)/\DatV K H x d/\DatVs K H xs ds/\SeqAt.shaped d=true/\(∀ e∈ds,SeqAt.shaped e=true)/\Q (.bl (neg != ds.any λe=>PyData.eqv e d)) H
open Classical in
noncomputable def ZeZ (h:Heap) (u:Value):PyData:=if q:∃ d as,Reads h u d as/\SeqAt.shaped d=true then choose q else .none
theorem Zib {h:Heap} {u:Value} {d:PyData} {as:List Addr} (r:Reads h u d as) (hs:SeqAt.shaped d=true):ZeZ h u=d:=by
 have q:∃ d as,Reads h u d as/\SeqAt.shaped d=true:=⟨d,as,r,hs⟩
 unfold ZeZ
 rw [dif_pos q]
 obtain ⟨as',r',s'⟩:=Classical.choose_spec q
 exact SeqAt.Reads.unique _ _ _ _ _ (SeqAt.canLay_of_shaped s') r' r
theorem Zi8 {h:Heap}:∀ {us:List Value} {ds:List PyData} {as:List Addr},ReadsAll h us ds as->(∀ e∈ds,SeqAt.shaped e=true)->(∀ u∈us,∃ as',Reads h u (ZeZ h u) as'/\SeqAt.shaped (ZeZ h u)=true)/\us.map (ZeZ h)=ds
 | _,_,_,.nil,_=>⟨λu hu=>by simp at hu,rfl⟩
 | _,_,_,.cons r rs,hs=>by
  obtain ⟨i1,i2⟩:=Zi8 rs λe he=>hs e (List.mem_cons_of_mem _ he)
  have h0:=hs _ (List.mem_cons_self ..)
  have e0:=Zib r h0
  refine ⟨λu hu=>?_,by rw [List.map_cons,e0,i2]⟩
  rcases List.mem_cons.mp hu with rfl | hu
  ·rw [e0];exact ⟨_,r,h0⟩
  ·exact i1 u hu
def ZmE:V->List V->Hp->VK->Prop:=λx vs H Q=>∃ l xs y,x=.ref l/\vs=[.int 0,y]/\H l=some (.lst xs)/\xs.length<sizeLine/\Q .non (upd H l (.lst (y::xs)))
end
end L2
namespace L2
open PySem PySem.Spec PyProof.Rows
section
variable {X:Cx}
def Zm5:V->List V->Hp->VK->Prop:=λx vs H Q=>∃ l xs i y,x=.ref l/\vs=[.int i,y]/\H l=some (.lst xs)/\0<=i/\i<=xs.length/\xs.length<sizeLine/\Q .non (upd H l (.lst (xs.take i.toNat++y::xs.drop i.toNat)))
def Ite (K:PySem.W.Frag) (a:Addr):It:=
 ⟨λi H=>∃ xs x,SqL K H a xs/\xs[i]?=some x,λi H x H'=>∃ T y,x=.ref T/\H T=none/\H'=upd H T (.tup [.int (i:Nat),y])/\∀ xs,SqL K H a xs->xs[i]?=some y,λi H=>∃ xs,SqL K H a xs/\xs.length<=i⟩
theorem Zg0 {P:Program} {w:World} {K:PySem.W.Frag} {elts:List Expr} {k:Nat} {pos:Pos} (a e it:Addr) (hne:e≠it) :
  Zk4 P w K (.Tuple elts k pos) (Ite K a) [e,it] e (λi h=>(∃ old,IsEnum h e it ((i:Nat):Int) old)/\h.IsListIter it a i) where
 mem:=by simp
 obj:=λi h st b hb=>by
  obtain ⟨⟨old,he⟩,⟨o,ei,c,d⟩⟩:=st
  rcases List.mem_cons.mp hb with rfl | hb
  ·exact ⟨_,he,λv z=>by
    have z':Data.fields _=Data.cell v:=z
    cases z'⟩
  ·have eb:b=it:=by simpa using hb
   subst eb
   exact ⟨o,ei,λv z=>by rw [d] at z;cases z⟩
 keep:=λi h h' st q=>by
  obtain ⟨⟨old,he⟩,hi⟩:=st
  exact ⟨⟨old,q e (by simp) _ he⟩,hi.at λo ho=>q it (by simp) o ho⟩
 item:=by
  intro X hP hw hK hc i pins s σ H E I hf st hg
  subst hP hw hK
  obtain ⟨xs,x,hq,hx⟩:=hg
  obtain ⟨its,rv,p,hz⟩:=I.list hq
  obtain ⟨u,hu,ru⟩:=rv.get hx
  obtain ⟨⟨old,he⟩,hit⟩:=st
  refine wpAny_pyNext_enum_item he hit p.isList (x:=u) (by simpa using hu) hne λh1 heo hit1 ht1 hz1 hk1=>?_
  refine ⟨_,rfl,wpAny_letOwnedTupleGo_enum (s:={ s with heap:=h1,toks:=s.toks+1 }) heo λh2 he2 hs2=>?_⟩
  have hs2':Heap.SameBut e h1 h2:=hs2
  have hfr:H s.heap.objs.size=none:=I.fresh
  have hel:e<s.heap.objs.size:=Heap.lt_size he
  have kk:∀ b o,b ∉ [e,it]->s.heap.get? b=some o->h2.get? b=some o:=λb o hb q=>by
   have n1:b≠e:=λz=>hb (by simp [z])
   have n2:b≠it:=λz=>hb (by simp [z])
   exact (hs2'.2 b n1).trans (hk1 b o n1 n2 q)
  have nT:∀ b o,s.heap.get? b=some o->b≠s.heap.objs.size:=λb o q=>Nat.ne_of_lt (Heap.lt_size q)
  have trk:∀ c u,H c=some u->c ∉ [e,it]:=λc u q z=>by
   rw [(hf c z).1] at q;cases q
  refine ⟨.ref s.heap.objs.size,upd H s.heap.objs.size (.tup [.int (i:Nat),x]),I.call' (ch:=[e,it]) rfl ⟨λb o q _ _ hb=>kk b o hb q,λb o q _ _ hb=>⟨o.slots,kk b o hb q⟩,λb o q n _=>by rw [Zao (nT b o q)];exact n,
   λb o q hb=>⟨o,kk b o hb q⟩,λb ys q=>by rw [Zao (Zai q hfr)];exact q,λb o u q=>by rw [Zao (Zai q hfr)];exact q,λb ps q=>⟨#[],by rw [Zao (Zai q hfr),q];simp⟩⟩ (λb v q=>?_) I.bare (λb hb=>?_),
   rfl,⟨_,x,rfl,hfr,rfl,λys hy=>by rw [I.list_inj hy hq];exact hx⟩,⟨⟨_,by rw [Int.natCast_add];exact he2⟩,hit1.extBut hs2'.extBut (Ne.symm hne)⟩,λb hb=>?_⟩
  ·by_cases hb:b=s.heap.objs.size
   ·subst hb
    rw [Zab] at q;cases q
    refine ⟨by have h16:(16777216:Nat)=sizeLine:=sizeLine_eq.symm;rw [<-h16];show 2<=16777216;omega,[.int (i:Nat) s.toks,u],.cons ⟨_,rfl⟩ (.cons ru .nil),⟨_,(hs2'.2 _ (Nat.ne_of_gt hel)).trans ht1,rfl,_,rfl⟩⟩
   ·rw [Zao hb] at q
    refine (I.hok b v q).stay (λc v' hc z=>kk c v' ?_ z) (λc z=>by rw [Zao (Zai z hfr)];exact z) λc ys z=>by rw [Zao (Zai z hfr)];exact z
    rcases hc with rfl | hc
    ·exact trk _ _ q
    ·exact trk _ _ hc
  ·obtain ⟨f0,f1,f2,f3,f4,f5⟩:=hf b hb
   exact ⟨f3,f1,f4,f5⟩
  ·have ho:∃ o,s.heap.get? b=some o:=by
    rcases List.mem_cons.mp hb with rfl | hb
    ·exact ⟨_,he⟩
    ·have eb:b=it:=by simpa using hb
     subst eb
     obtain ⟨o,ei,_⟩:=hit
     exact ⟨o,ei⟩
   obtain ⟨o,ho⟩:=ho
   rw [Zao (nT b o ho)]
   exact (hf b hb).1
 done:=by
  intro X hP hw hK hc i pins s σ H E I hf st hg
  subst hP hw hK
  obtain ⟨xs,hq,hx⟩:=hg
  obtain ⟨its,rv,p,hz⟩:=I.list hq
  obtain ⟨⟨old,he⟩,hit⟩:=st
  obtain ⟨f0,f1,f2,f3,f4,f5⟩:=hf it (by simp)
  have hl:=rv.length
  exact wpAny_pyNext_enum_end (I.ok.hd hc) he hit p.isList (by simp;omega) λh' eb=>⟨rfl,I.turned (t':=s.toks) (λb o hb q=>eb b o hb q) f0 f1 f3 f4 f5⟩
 self:=λ_ _ _ _ _ ⟨⟨_,he⟩,_⟩ h=>wpAny_pyIter_enum he h
def Zlr (K:PySem.W.Frag) (ta:TA):TI:=λσ H R=>ta σ H λvs H1=>∃ a xs,vs=[.ref a]/\SqL K H1 a xs/\R (Ite K a) H1
theorem ZjW {elts:List Expr} {k:Nat} {p0:Pos} {l:Expr} {ta:TA} {p pos:Pos} (hg:Gl X "enumerate") (hm:X.mg "enumerate" = none) (ha:PA X [l] ta) (hs:starEach [l] X.env=[(false,eval l X.env)]:=by rfl) :
  PI X (.Tuple elts k p0) (.Call (.Name "enumerate" p) [l] [] pos) (Zlr X.K ta):=by
 intro pins s σ H R I h
 refine Call_ (ZcT I hg hm boot_enumerate (PyProof.Rows.callWith_type1 (thn (ha pos pins s σ H _ I h) λus s1 ⟨vs,H1,I1,r1,q1⟩=>?_) hs rfl))
 obtain ⟨a,xs,e,hq,q⟩:=q1
 subst e
 obtain ⟨u,rfl,ru⟩:=r1.one
 cases ru
 obtain ⟨its,rv,pl,hz⟩:=I1.list hq
 refine call_enumerate_list pl.isList λh' hE hI hsz hk=>?_
 refine wpAny_pyIter_enum hE ?_
 refine ⟨s1.heap.objs.size+1,[s1.heap.objs.size+1,s1.heap.objs.size],_,_,H1,rfl,I1.kept (t':=s1.toks) hk,Zg0 a _ _ (Nat.succ_ne_self _),⟨⟨_,hE⟩,hI⟩,λb hb=>?_,q⟩
 have e:s1.heap.objs.size<=b:=by
  rcases List.mem_cons.mp hb with rfl | hb
  ·exact Nat.le_succ _
  ·have eb:b=s1.heap.objs.size:=by simpa using hb
   rw [eb];exact Nat.le_refl _
 exact I1.fpOk e (I1.hok.fresh e)
theorem Zls (K:PySem.W.Frag) {elts:List Expr} {k:Nat} {p0:Pos} {l:Expr} {ta:TA} {p pos:Pos} (hg:Gl X "enumerate") (hm:X.mg "enumerate" = none) (ha:PA X [l] ta) (h:X.K=K:=by rfl) (hs:starEach [l] X.env=[(false,eval l X.env)]:=by rfl) :
  PI X (.Tuple elts k p0) (.Call (.Name "enumerate" p) [l] [] pos) (Zlr K ta):=h▸ZjW hg hm ha hs
end
abbrev TB:=Ends->(St->XK)->St->Hp->Prop
def PB (X:Cx) (body:List Stmt) (tb:TB):Prop:=∀ (pins:List (Addr×Obj)) (s:Shared) (σ:St) (H:Hp) (D:Ends) (Eσ:St->XK) (QQ:Flow->Shared->Prop) (EE:Value->Shared->Prop),Inv X pins σ H s->tb D Eσ σ H ->
 (∀ fl s',SP X pins D fl s'->QQ fl s')->(∀ σ1 ev H1 s1 s',Inv X pins σ1 H1 s1->CXr X.prog X.w X.stack H1 s1 (Eσ σ1) ev s'->EE ev s')->wpAny (model X.prog X.w) X.A (execs body X.env) QQ EE s
section
variable {X:Cx} {k:Nat} {f:Addr} {fd:FuncData} {ps:List Str} {sp:Sp} {dvs:List V} {ds:List Value} {fx:Str} {fp cpos bpos np hpos pos:Pos} {e:Expr} {es:List Expr} {t:TA}
end
end L2
namespace L2
open PySem PySem.Spec PyProof.Rows
section
variable {X:Cx} {a b c d:Expr} {ta tb tc td:TE} {pos:Pos}
def Zm6 (r1 r2 r3:R2) (ta tb tc td:TE):TE:=λσ H Q=>ta σ H λx H1=>tb σ H1 λy H2=>r1 x y H2 λz H3=>∃ k,z=.bl k /\
 (if k=true then tc σ H3 λw' H4=>r2 y w' H4 λz' H5=>∃ k',z'=.bl k'/\(if k'=true then td σ H5 λu' H6=>r3 w' u' H6 Q else Q (.bl false) H5) else Q (.bl false) H3)
end
end L2
namespace L2
open PySem PySem.Spec PyProof.Rows
section
variable {κ:Type} [DecidableEq κ]
def ZbO (kvs:List (κ×V)) (k:κ):Option V:=(kvs.find? λkv=>decide (kv.1=k)).map (·.2)
def ZcN (kvs:List (κ×V)) (k:κ) (v:V):List (κ×V):=
 if (kvs.any λkv=>decide (kv.1=k))=true then kvs.map (λkv=>if kv.1=k then (kv.1,v) else kv) else kvs++[(k,v)]
def ZjX (kvs:List (κ×V)) (k:κ):List (κ×V):=kvs.filter λkv=>decide (kv.1≠k)
theorem ZaY {p:κ×V} {r:List (κ×V)} {k:κ} (e:p.1=k):ZbO (p::r) k=some p.2:=by simp [ZbO,List.find?_cons,e]
theorem ZaZ {p:κ×V} {r:List (κ×V)} {k:κ} (e:¬ p.1=k):ZbO (p::r) k=ZbO r k:=by simp [ZbO,List.find?_cons,e]
theorem ZbP (k:κ):∀ kvs:List (κ×V),(kvs.any λkv=>decide (kv.1=k))=(ZbO kvs k).isSome
 | []=>rfl
 | p::r=>by
  rw [List.any_cons]
  by_cases e:p.1=k
  ·simp only [ZaY e,decide_eq_true e,Bool.true_or,Option.isSome_some]
  ·rw [ZaZ e,decide_eq_false e,Bool.false_or];exact ZbP k r
theorem ZfA (k j:κ) (y:V):∀ kvs:List (κ×V),ZbO (kvs.map λkv=>if kv.1=k then (kv.1,y) else kv) j=(ZbO kvs j).map λx=>if j=k then y else x
 | []=>rfl
 | p::r=>by
  have ih:=ZfA k j y r
  rw [List.map_cons]
  by_cases h:p.1=k
  ·rw [if_pos h]
   by_cases e:p.1=j
   ·rw [ZaY (p:=(p.1,y)) e,ZaY e,Option.map_some,if_pos (e.symm.trans h)]
   ·rw [ZaZ (p:=(p.1,y)) e,ZaZ e,ih]
  ·rw [if_neg h]
   by_cases e:p.1=j
   ·rw [ZaY (p:=p) e,ZaY e,Option.map_some,if_neg (λz=>h (e.trans z))]
   ·rw [ZaZ (p:=p) e,ZaZ e,ih]
theorem Zer (k j:κ) (y:V):∀ kvs:List (κ×V),ZbO kvs k=none->ZbO (kvs++[(k,y)]) j=if j=k then some y else ZbO kvs j
 | [],_=>by
  by_cases e:k=j
  ·rw [if_pos e.symm];exact ZaY (p:=(k,y)) e
  ·rw [if_neg (λz=>e z.symm)];exact ZaZ (p:=(k,y)) e
 | p::r,hn=>by
  rw [List.cons_append]
  have hk:¬ p.1=k:=λz=>by rw [ZaY z] at hn;cases hn
  rw [ZaZ hk] at hn
  have ih:=Zer k j y r hn
  by_cases e:p.1=j
  ·rw [ZaY e,ZaY e,if_neg (λz=>hk (e.trans z))]
  ·rw [ZaZ e,ZaZ e,ih]
theorem ZfB (kvs:List (κ×V)) (k j:κ) (y:V):ZbO (ZcN kvs k y) j=if j=k then some y else ZbO kvs j:=by
 unfold ZcN
 by_cases a:(kvs.any λkv=>decide (kv.1=k))=true
 ·rw [if_pos a,ZfA]
  rw [ZbP] at a
  by_cases e:j=k
  ·obtain ⟨x,hx⟩:=Option.isSome_iff_exists.mp a
   rw [if_pos e,e,hx,Option.map_some,if_pos rfl]
  ·rw [if_neg e]
   cases ZbO kvs j with
   | none=>rfl
   | some x=>rw [Option.map_some,if_neg e]
 ·rw [if_neg a]
  refine Zer k j y kvs ?_
  rw [ZbP] at a
  cases q:ZbO kvs k with
  | none=>rfl
  | some x=>rw [q] at a;exact (a rfl).elim
theorem Zbd (kvs:List (κ×V)) (k:κ) (v:V):(ZcN kvs k v).length<=kvs.length+1:=by
 unfold ZcN
 split
 ·rw [List.length_map];omega
 ·rw [List.length_append,List.length_cons,List.length_nil];omega
theorem Zic {kvs:List (κ×V)} {k:κ} (v:V) (h:ZbO kvs k=none):ZcN kvs k v=kvs++[(k,v)]:=by
 unfold ZcN
 rw [ZbP,h]
 exact if_neg (by decide)
theorem RelO.isSome_eq {o:Option V} {u:Option Value} (r:RelO o u):o.isSome=u.isSome:=by
 cases o with
 | none=>cases u with
  | none=>rfl
  | some _=>exact (show False from r).elim
 | some _=>cases u with
  | none=>exact (show False from r).elim
  | some _=>rfl
theorem KV.val {kvs:List (κ×V)} {vs:List (κ×Value)} (r:KV kvs vs) (k:κ):RelO (ZbO kvs k) (valueAt vs k):=by
 unfold KV at r
 induction r with
 | nil=>exact True.intro
 | @cons p q ps qs h t ih=>
  obtain ⟨h1,h2⟩:=h
  by_cases e:p.1=k
  ·have e':q.1=k:=h1.symm.trans e
   have b:valueAt (q::qs) k=some q.2:=by simp [valueAt,List.find?_cons,e']
   rw [ZaY e,b];exact h2
  ·have e':¬ q.1=k:=λz=>e (h1.trans z)
   have b:valueAt (q::qs) k=valueAt qs k:=by simp [valueAt,List.find?_cons,e']
   rw [ZaZ e,b];exact ih
theorem KV.any {kvs:List (κ×V)} {vs:List (κ×Value)} (r:KV kvs vs) (k:κ):(kvs.any λkv=>decide (kv.1=k))=vs.any λkv=>decide (kv.1=k):=by
 unfold KV at r
 induction r with
 | nil=>rfl
 | cons h t ih=>rw [List.any_cons,List.any_cons,ih,h.1]
theorem KV.repl {kvs:List (κ×V)} {vs:List (κ×Value)} (r:KV kvs vs) (k:κ) {y:V} {u:Value} (ry:RelV y u) :
  KV (kvs.map λkv=>if kv.1=k then (kv.1,y) else kv) (vs.map λkv=>if kv.1=k then (kv.1,u) else kv):=by
 unfold KV at r ⊢
 induction r with
 | nil=>exact .nil
 | @cons p q ps qs h t ih=>
  rw [List.map_cons,List.map_cons]
  refine .cons ?_ ih
  obtain ⟨h1,h2⟩:=h
  by_cases e:p.1=k
  ·rw [if_pos e,if_pos (h1.symm.trans e)];exact ⟨h1,ry⟩
  ·rw [if_neg e,if_neg (λz=>e (h1.trans z))];exact ⟨h1,h2⟩
theorem KV.put {kvs:List (κ×V)} {vs:List (κ×Value)} (r:KV kvs vs) (k:κ) {y:V} {u:Value} (ry:RelV y u):KV (ZcN kvs k y) (stored vs k u):=by
 unfold ZcN stored
 rw [r.any k]
 by_cases e:(vs.any λkv=>decide (kv.1=k))=true
 ·rw [if_pos e,if_pos e];exact r.repl k ry
 ·rw [if_neg e,if_neg e];exact Paired.snoc r ⟨rfl,ry⟩
theorem KV.length {kvs:List (κ×V)} {vs:List (κ×Value)} (r:KV kvs vs):kvs.length=vs.length:=Paired.length r
end
theorem Zf9 {P:Program} {w:World} {k:Key} {u:Value} (r:RelV (kV k) u):(ZaU P w).is k u=true:=by
 cases k with
 | inl i=>obtain ⟨t,e⟩:=(show ∃ t,u=Value.int i t from r);subst e;exact ZeQ P w i t
 | inr x=>obtain ⟨t,e⟩:=(show ∃ t,u=Value.str x t from r);subst e;exact ZeR P w x t
theorem Zes {P:Program} {w:World}:∀ {ks:List Key} {us:List Value},Vals (ks.map kV) us->ItemsAre (ZaU P w) ks us
 | [],_,r=>by rw [List.map_nil] at r;cases r;exact .nil
 | k::ks,_,r=>by
  rw [List.map_cons] at r
  cases r with
  | cons h t=>exact .cons (Zf9 h) (Zes t)
abbrev KT (H:Hp):List (List Key×V)->List (List Key×Addr×Value)->Prop:=Paired λp q=>p.1=q.1/\H q.2.1=some (.tup (p.1.map kV))/\RelV p.2 q.2.2
theorem KT.val {H:Hp} {kvs:List (List Key×V)} {xs:List (List Key×Addr×Value)} (r:KT H kvs xs) (k:List Key):RelO (ZbO kvs k) ((atKey xs k).map (·.2)):=by
 induction r with
 | nil=>exact True.intro
 | @cons p q ps qs h t ih=>
  obtain ⟨h1,_,h2⟩:=h
  by_cases e:p.1=k
  ·have e':q.1=k:=h1.symm.trans e
   have b:atKey (q::qs) k=some q.2:=by simp [atKey,List.find?_cons,e']
   rw [ZaY e,b];exact h2
  ·have e':¬ q.1=k:=λz=>e (h1.trans z)
   have b:atKey (q::qs) k=atKey qs k:=by simp [atKey,List.find?_cons,e']
   rw [ZaZ e,b];exact ih
theorem KT.repl {H:Hp} {kvs:List (List Key×V)} {xs:List (List Key×Addr×Value)} (r:KT H kvs xs) (k:List Key) {y:V} {u:Value} (ry:RelV y u) :
  KT H (kvs.map λkv=>if kv.1=k then (kv.1,y) else kv) (xs.map (putAt k u)):=by
 induction r with
 | nil=>exact .nil
 | @cons p q ps qs h t ih=>
  rw [List.map_cons,List.map_cons]
  refine .cons ?_ ih
  obtain ⟨h1,h2,h3⟩:=h
  unfold putAt
  by_cases e:p.1=k
  ·rw [if_pos e,if_pos (h1.symm.trans e)];exact ⟨h1,h2,ry⟩
  ·rw [if_neg e,if_neg (λz=>e (h1.trans z))];exact ⟨h1,h2,h3⟩
theorem KT.put {H:Hp} {kvs:List (List Key×V)} {xs:List (List Key×Addr×Value)} (r:KT H kvs xs) (k:List Key) {b:Addr} {y:V} {u:Value} (hb:H b=some (.tup (k.map kV))) (ry:RelV y u) :
  KT H (ZcN kvs k y) (storedH xs k b u):=by
 have e:(kvs.any λkv=>decide (kv.1=k))=(atKey xs k).isSome:=by
  rw [ZbP,(r.val k).isSome_eq,Option.isSome_map]
 unfold ZcN storedH
 rw [e]
 by_cases q:(atKey xs k).isSome=true
 ·rw [if_pos q,if_pos q];exact r.repl k ry
 ·rw [if_neg q,if_neg q];exact Paired.snoc r ⟨rfl,hb,ry⟩
theorem KT.keeps {H H':Hp} {kvs:List (List Key×V)} {xs:List (List Key×Addr×Value)} (r:KT H kvs xs) (ht:∀ b ys,H b=some (.tup ys)->H' b=some (.tup ys)):KT H' kvs xs:=
 Paired.mapP r λ_ _ z=>⟨z.1,ht _ _ z.2.1,z.2.2⟩
section
variable {P:Program} {w:World} {H:Hp} {h:Heap} {a:Addr}
theorem Zlt {u:HO} (ok:HOk P w H h) (e:Rd H a u):ObjOk P w H h a u:=e.ok ok
theorem Zg1 {kvs:List (Key×V)} (ok:HOk P w H h) (e:Rd H a (.dK kvs)):kvs.length<=sizeLine/\(a == sysModules)=false/\∃ vs,KV kvs vs/\h.DictOf (ZaU P w) a vs:=
 show ObjOk P w H h a (.dK kvs) from Zlt ok e
theorem Zlu {kvs:List (Key×V)} (ok:HOk P w H h) (e:H a=some (.dK kvs)):kvs.length<=sizeLine/\(a == sysModules)=false/\∃ vs,KV kvs vs/\h.DictOf (ZaU P w) a vs:=Zg1 ok (.inl e)
theorem Zet {ks:List Key} (ok:HOk P w H h) (e:H a=some (.tup (ks.map kV))):(tupleKind (ZaU P w)).is h ks a:=by
 obtain ⟨_,its,r,o,h1,h2,n,h3⟩:=(show ObjOk P w H h a (.tup (ks.map kV)) from ok a _ e)
 exact ⟨o,its.toArray,n,h1,h2,h3,by simpa using Zes r⟩
theorem Zg2 {kvs:List (List Key×V)} (ok:HOk P w H h) (e:Rd H a (.dT kvs)):kvs.length<=sizeLine/\(a == sysModules)=false /\
  ∃ xs,KT H kvs xs/\h.DictOfH (tupleKind (ZaU P w)) a xs:=by
 obtain ⟨z,y,xs,r,o,es,ep,h1,h2,h3,h4,h5⟩:=(show ObjOk P w H h a (.dT kvs) from Zlt ok e)
 refine ⟨z,y,xs,r,o,es,ep,h1,h2,h3,h4,λx hx=>?_,h5⟩
 have all:∀ {l:List (List Key×V)} {m:List (List Key×Addr×Value)},KT H l m->∀ x∈m,(tupleKind (ZaU P w)).is h x.1 x.2.1:=by
  intro l m q
  induction q with
  | nil=>intro x hx;exact nomatch hx
  | @cons p q ps qs hq t ih=>
   intro x hx
   rcases List.mem_cons.mp hx with e | hx
   ·subst e
    exact Zet ok (by rw [<-hq.1];exact hq.2.1)
   ·exact ih x hx
 exact all r x hx
theorem Zm7 {kvs:List (List Key×V)} (ok:HOk P w H h) (e:H a=some (.dT kvs)):kvs.length<=sizeLine/\(a == sysModules)=false /\
  ∃ xs,KT H kvs xs/\h.DictOfH (tupleKind (ZaU P w)) a xs:=Zg2 ok (.inl e)
end
def DGet (H:Hp) (a:Addr) (y:V) (r:Option V):Prop:=
 (∃ kvs k,Rd H a (.dK kvs)/\y=kV k/\r=ZbO kvs k)\/∃ kvs k b,Rd H a (.dT kvs)/\y=.ref b/\H b=some (.tup (k.map kV))/\r=ZbO kvs k
def DPut (H:Hp) (a:Addr) (y v:V) (H':Hp):Prop:=
 (∃ kvs k,H a=some (.dK kvs)/\y=kV k/\kvs.length<sizeLine/\H'=upd H a (.dK (ZcN kvs k v))) \/
 ∃ kvs k b,H a=some (.dT kvs)/\y=.ref b/\H b=some (.tup (k.map kV))/\kvs.length<sizeLine/\H'=upd H a (.dT (ZcN kvs k v))
theorem DGet.k {H:Hp} {a:Addr} {kvs:List (Key×V)} {k:Key} (e:H a=some (.dK kvs)):DGet H a (kV k) (ZbO kvs k):=.inl ⟨kvs,k,.inl e,rfl,rfl⟩
theorem DGet.t {H:Hp} {a b:Addr} {kvs:List (List Key×V)} {k:List Key} (e:H a=some (.dT kvs)) (eb:H b=some (.tup (k.map kV))):DGet H a (.ref b) (ZbO kvs k):=.inr ⟨kvs,k,b,.inl e,rfl,eb,rfl⟩
theorem DPut.k {H:Hp} {a:Addr} {kvs:List (Key×V)} {k:Key} {v:V} (e:H a=some (.dK kvs)) (hl:kvs.length<sizeLine):DPut H a (kV k) v (upd H a (.dK (ZcN kvs k v))):=.inl ⟨kvs,k,e,rfl,hl,rfl⟩
theorem DPut.t {H:Hp} {a b:Addr} {kvs:List (List Key×V)} {k:List Key} {v:V} (e:H a=some (.dT kvs)) (eb:H b=some (.tup (k.map kV))) (hl:kvs.length<sizeLine) :
  DPut H a (.ref b) v (upd H a (.dT (ZcN kvs k v))):=.inr ⟨kvs,k,b,e,rfl,eb,hl,rfl⟩
section
variable {X:Cx} {pins:List (Addr×Obj)} {σ:St} {H:Hp} {s:Shared} {a:Addr} {y v:V} {u r:Value} {o:Option V} {A:Around} {E:Value->Shared->Prop}
theorem Inv.big (I:Inv X pins σ H s):sysModules<s.heap.objs.size:=by
 have h:mainGlobals<s.heap.objs.size:=(I.mod.glob.keeps I.bk).lt
 exact Nat.lt_trans (by decide) h
theorem Zg3 {Q:Value->Shared->Prop} (hu:A.units+1<cLine) (I:Inv X pins σ H s) (g:DGet H a y (some v)) (ry:RelV y u) (h:∀ w' s',Inv X pins σ H s'->RelV v w'->Q w' s') :
  wpAny (model X.prog X.w) A (getItem (.ref a) u) Q E s:=by
 rcases g with ⟨kvs,k,e,ey,l⟩ | ⟨kvs,k,b,e,ey,eb,l⟩
 ·subst ey
  obtain ⟨z,hd,vs,rel,dd⟩:=Zg1 I.hok e
  obtain ⟨w',hw,rw'⟩:=RelO.some_of (v:=v) (o:=valueAt vs k) (by rw [l];exact rel.val k)
  exact wpAny_getItem_of (Zf9 ry) dd.mapOf hw (h w' _ (I.tok _) rw')
 ·subst ey
  cases (show u=Value.ref b from ry)
  obtain ⟨z,hd,xs,rel,dd⟩:=Zg2 I.hok e
  obtain ⟨w',hw,rw'⟩:=RelO.some_of (v:=v) (o:=(atKey xs k).map (·.2)) (by rw [l];exact rel.val k)
  obtain ⟨p,hp,hp2⟩:=Option.map_eq_some_iff.mp hw
  refine wpAny_getItem_heap (tupleKind_room_in1 hu) (Zet I.hok eb) dd hp ?_
  rw [hp2]
  exact h w' _ (I.tok _) rw'
theorem ZoB {Q:Value->Shared->Prop} (hu:A.units+1<cLine) (I:Inv X pins σ H s) (g:DGet H a y o) (ry:RelV y u) (h:∀ s',Inv X pins σ H s'->Q (.bool o.isSome) s') :
  wpAny (model X.prog X.w) A (compareOp .In u (.ref a)) Q E s:=by
 rcases g with ⟨kvs,k,e,ey,l⟩ | ⟨kvs,k,b,e,ey,eb,l⟩
 ·subst ey
  obtain ⟨z,hd,vs,rel,dd⟩:=Zg1 I.hok e
  refine wpAny_in_of (Zf9 ry) hd dd.mapOf ?_
  rw [<-(rel.val k).isSome_eq,<-l]
  exact h _ (I.tok _)
 ·subst ey
  cases (show u=Value.ref b from ry)
  obtain ⟨z,hd,xs,rel,dd⟩:=Zg2 I.hok e
  refine wpAny_in_heap (tupleKind_room_in1 hu) (Zet I.hok eb) hd dd ?_
  have q:=(rel.val k).isSome_eq
  rw [Option.isSome_map] at q
  rw [<-q,<-l]
  exact h _ (I.tok _)
theorem ZjY {Q:Value->Shared->Prop} (hu:A.units+1<cLine) (I:Inv X pins σ H s) (g:DGet H a y o) (ry:RelV y u) (h:∀ s',Inv X pins σ H s'->Q (.bool (!o.isSome)) s') :
  wpAny (model X.prog X.w) A (compareOp .NotIn u (.ref a)) Q E s:=by
 rcases g with ⟨kvs,k,e,ey,l⟩ | ⟨kvs,k,b,e,ey,eb,l⟩
 ·subst ey
  obtain ⟨z,hd,vs,rel,dd⟩:=Zg1 I.hok e
  refine wpAny_notIn_of (Zf9 ry) hd dd.mapOf ?_
  rw [<-(rel.val k).isSome_eq,<-l]
  exact h _ (I.tok _)
 ·subst ey
  cases (show u=Value.ref b from ry)
  obtain ⟨z,hd,xs,rel,dd⟩:=Zg2 I.hok e
  refine wpAny_notIn_heap (tupleKind_room_in1 hu) (Zet I.hok eb) hd dd ?_
  have q:=(rel.val k).isSome_eq
  rw [Option.isSome_map] at q
  rw [<-q,<-l]
  exact h _ (I.tok _)
theorem Ze0 {h':Heap} {t':Nat} {ob:HO} (I:Inv X pins σ H s) (mu:Mut (H a)) (hs:Heap.SameBut a s.heap h') (he:∃ q,h'.get? a=some q) (new:ObjOk X.prog X.w (upd H a ob) h' a ob) :
  Inv X pins σ (upd H a ob) { s with heap:=h',toks:=t' }:=
 I.write (x:=a) (e:=a) mu (.inl rfl) (λb q hb z=>(hs.2 b hb).trans z) he new
theorem Zi9 {P:Program} {w:World} {H':Hp} {h':Heap} {kvs:List (Key×V)} {vs:List (Key×Value)} (z:kvs.length<=sizeLine) (hd:(a == sysModules)=false) (rel:KV kvs vs) (dd:h'.DictOf (ZaU P w) a vs) :
  ObjOk P w H' h' a (.dK kvs):=⟨z,hd,vs,rel,dd⟩
theorem Zg4 {H':Hp} {Q:Unit->Shared->Prop} (hu:A.units+1<cLine) (I:Inv X pins σ H s) (g:DPut H a y v H') (ry:RelV y u) (rv:RelV v r) (h:∀ s',Inv X pins σ H' s'->Q () s') :
  wpAny (model X.prog X.w) A (setItem (.ref a) u r) Q E s:=by
 rcases g with ⟨kvs,k,e,ey,l,eH⟩ | ⟨kvs,k,b,e,ey,eb,l,eH⟩
 ·subst ey eH
  obtain ⟨z,hd,vs,rel,dd⟩:=Zlu I.hok e
  have hz:vs.length<=sizeLine:=by rw [<-rel.length];exact z
  have hl:(ZcN kvs k v).length<=sizeLine:=by have:=Zbd kvs k v;omega
  refine wpAny_setItem_pairs (hsz:=hz) (Zf9 ry) dd λh' dd' hs=>h _ ?_
  have he:∃ q,h'.get? a=some q:=let ⟨q,_,_,hq,_⟩:=dd';⟨q,hq⟩
  exact Ze0 I (by rw [e];exact True.intro) hs he (Zi9 hl hd (rel.put k rv) dd')
 ·subst ey eH
  cases (show u=Value.ref b from ry)
  obtain ⟨z,hd,xs,rel,dd⟩:=Zm7 I.hok e
  have hz:xs.length<=sizeLine:=by rw [<-Paired.length rel];exact z
  have hl:(ZcN kvs k v).length<=sizeLine:=by have:=Zbd kvs k v;omega
  refine wpAny_setItem_heap (hsz:=hz) (tupleKind_room_in1 hu) (Zet I.hok eb) dd λh' dd' hs=>h _ ?_
  obtain ⟨q,es,ep,hq,h2,h3,h4,_,h5⟩:=dd'
  refine Ze0 I (by rw [e];exact True.intro) hs ⟨q,hq⟩ ⟨hl,hd,_,(rel.put k eb rv).keeps λc ys ec=>?_,q,es,ep,hq,h2,h3,h4,h5⟩
  rw [Zao (Zgt ec e (λz=>nomatch z))]
  exact ec
end
section
variable {X:Cx} {pins:List (Addr×Obj)} {σ:St} {H:Hp} {s:Shared} {a:Addr} {kvs:List (Key×V)} {k:Key} {u:Value} {A:Around} {E:Value->Shared->Prop}
end
def ZnR (i:Expr):Prop:=∀ ov iv,subscripted i false ov iv=operate [ov,iv] (getItem ov iv)
theorem ZjZ {prog:Program} {w:World} {A:Around} {E:Value->Shared->Prop} {s:Shared} {env:Env} {value slice:Expr} {pos:Pos} {T id:String} {Q:Value->Shared->Prop}
  (hl:typeLookup (.type T) "__getitem__" = pure (some (.builtin id))) (hs:ZnR slice)
  (h:wpAny (model prog w) A (eval value env) (λo s₁=>wpAny (model prog w) A (eval slice env) (λi s₂=>s₂.TypeIs o T/\wpAny (model prog w) A (getItem o i) Q E s₂) E s₁) E s) :
  wpAny (model prog w) A (eval (.Subscript value slice pos) env) Q E s:=by
 refine Subscript_ (wpAny_mono h (λo s₁ h₁=>wpAny_mono h₁ (λi s₂ h₂=>?_) λ_ _ x=>x) λ_ _ x=>x)
 obtain ⟨hT,h₂⟩:=h₂
 unfold subscriptTail
 refine wpAny_bind ?_
 rw [getitemInPython_of_ne hT.not_modules]
 refine wpAny_bind (wpAny_specialOf hT hl ?_)
 have fin:wpAny (model prog w) A (subscripted slice false o i) (λr s₃=>wpAny (model prog w) A (letTemporaryGo value o r >>= λ_=>pure r) Q E s₃) E s₂:=by
  rw [hs o i]
  exact wpAny_operating (wpAny_mono h₂ (λr s₃ h₃=>wpAny_bind (wpAny_letTemporaryGo (wpAny_pure h₃))) λ_ _ x=>x)
 first
  | exact wpAny_pure (wpAny_bind fin)
  | exact wpAny_bind (wpAny_pure (wpAny_bind fin))
  | exact wpAny_bind fin
theorem Ze1 {X:Cx} {pins:List (Addr×Obj)} {σ:St} {H:Hp} {s:Shared} {a:Addr} {y:V} {o:Option V} (I:Inv X pins σ H s) (g:DGet H a y o):s.TypeIs (.ref a) "dict" := by
 rcases g with ⟨kvs,k,e,_,_⟩ | ⟨kvs,k,b,e,_,_,_⟩
 ·obtain ⟨_,_,vs,_,dd⟩:=Zg1 I.hok e
  exact dd.typeIs
 ·obtain ⟨_,_,xs,_,dd⟩:=Zg2 I.hok e
  exact dd.typeIs
def Zm8 (td ty:TE):TE:=λσ H Q=>td σ H λx H1=>ty σ H1 λy H2=>∃ a v,x=.ref a/\DGet H2 a y (some v)/\Q v H2
def ZoC (ty td:TE):TE:=λσ H Q=>ty σ H λy H1=>td σ H1 λx H2=>∃ a o,x=.ref a/\DGet H2 a y o/\Q (.bl o.isSome) H2
def Zj0 (ty td:TE):TE:=λσ H Q=>ty σ H λy H1=>td σ H1 λx H2=>∃ a o,x=.ref a/\DGet H2 a y o/\Q (.bl (!o.isSome)) H2
def Zm9 (td ty tv:TE):TS:=λD σ H=>tv σ H λv H1=>td σ H1 λx H2=>ty σ H2 λy H3=>∃ a H4,x=.ref a/\DPut H3 a y v H4/\D.nx σ H4
def ZoD (td ty tv:TE) (rd:V->V->Hp->VK->Prop):TS:=λD σ H=>td σ H λx H1=>ty σ H1 λy H2=>∃ a v,x=.ref a/\DGet H2 a y (some v) /\
 tv σ H2 λy2 H3=>rd v y2 H3 λz H4=>∃ H5,DPut H4 a y z H5/\D.nx σ H5
def ZoE (td ty:TE):TS:=λD σ H=>td σ H λx H1=>ty σ H1 λy H2=>∃ a kvs k,x=.ref a/\H2 a=some (.dK kvs)/\y=kV k/\(ZbO kvs k).isSome=true/\D.nx σ (upd H2 a (.dK (ZjX kvs k)))
section
variable {X:Cx} {o i e value:Expr} {pos pos' tpos:Pos} {td ty tv:TE}
theorem Zj1 (hu:X.A.units+1<cLine) (ho:PE X o td) (hi:PE X i ty) (hs:ZnR i):PE X (.Subscript o i pos) (Zm8 td ty):=by
 intro pins s σ H Q I h
 refine ZjZ PySem.F.slot_dict_getitem.lookup hs (thn (ho pins s σ H _ I h) λu s1 ⟨x,H1,I1,rx,q1⟩=>thn (hi pins s1 σ H1 _ I1 q1) λiv s2 ⟨y,H2,I2,ry,a,v,ex,g,q2⟩=>?_)
 subst ex
 obtain rfl:u=Value.ref a:=rx
 exact ⟨Ze1 I2 g,Zg3 hu I2 g ry λw' s3 I3 rw'=>⟨v,H2,I3,rw',q2⟩⟩
theorem Zlv (hu:X.A.units+1<cLine) (hi:PE X i ty) (ho:PE X o td):PC X .In i o (ZoC ty td):=by
 intro pins s σ H Q I h
 refine thn (hi pins s σ H _ I h) λiv s1 ⟨y,H1,I1,ry,q1⟩=>thn (ho pins s1 σ H1 _ I1 q1) λu s2 ⟨x,H2,I2,rx,a,ov,ex,g,q2⟩=>?_
 subst ex
 obtain rfl:u=Value.ref a:=rx
 exact ZoB hu I2 g ry λs3 I3=>⟨.bl ov.isSome,H2,I3,rfl,q2⟩
theorem Zg5 (hu:X.A.units+1<cLine) (hi:PE X i ty) (ho:PE X o td):PC X .NotIn i o (Zj0 ty td):=by
 intro pins s σ H Q I h
 refine thn (hi pins s σ H _ I h) λiv s1 ⟨y,H1,I1,ry,q1⟩=>thn (ho pins s1 σ H1 _ I1 q1) λu s2 ⟨x,H2,I2,rx,a,ov,ex,g,q2⟩=>?_
 subst ex
 obtain rfl:u=Value.ref a:=rx
 exact ZjY hu I2 g ry λs3 I3=>⟨.bl (!ov.isSome),H2,I3,rfl,q2⟩
theorem Ze2 (hu:X.A.units+1<cLine) (ho:PE X o td) (hi:PE X i ty) (hv:PE X value tv) (hs:swapsWith value (some (.Subscript o i pos')) pos.line X.env=pure false) :
  PS X (.Assign [.Subscript o i pos'] value pos) (Zm9 td ty tv):=by
 intro pins s σ H D I h
 refine wpAny_Assign_Subscript (thn (hv pins s σ H _ I h) λr s1 ⟨v,H1,I1,rv,q1⟩=>thn (ho pins s1 σ H1 _ I1 q1) λu s2 ⟨x,H2,I2,rx,q2⟩=>thn (hi pins s2 σ H2 _ I2 q2) λiv s3 ⟨y,H3,I3,ry,a,H4,ex,g,q3⟩=>?_) hs
 subst ex
 obtain rfl:u=Value.ref a:=rx
 exact Zg4 hu I3 g ry rv λs4 I4=>⟨σ,H4,I4,q3⟩
end
theorem Zid {P:Program} {w:World} {H:Hp} (h:Heap) (hb:sysModules<h.objs.size):ObjOk P w H (h.push { cls:=.type "dict", data:=.dict #[] }) h.objs.size (.dK []):=
 ⟨Nat.zero_le _,beq_eq_false_iff_ne.mpr (Ne.symm (Nat.ne_of_lt hb)),[],.nil,Heap.DictOf.new h⟩
theorem Zie {P:Program} {w:World} {H:Hp} (h:Heap) (hb:sysModules<h.objs.size):ObjOk P w H (h.push { cls:=.type "dict", data:=.dict #[] }) h.objs.size (.dT []):=
 ⟨Nat.zero_le _,beq_eq_false_iff_ne.mpr (Ne.symm (Nat.ne_of_lt hb)),[],.nil,_,#[],0,Heap.get?_push_size _ rfl,⟨rfl,rfl,rfl⟩,rfl,rfl,List.nodup_nil⟩
def ZnS:TE:=λ_ H Q=>∀ p,H p=none->Q (.ref p) (upd H p (.dK []))
def Zlw:TE:=λ_ H Q=>∀ p,H p=none->Q (.ref p) (upd H p (.dT []))
section
variable {X:Cx} {pos:Pos}
theorem Zif:PE X (.Dict [] [] pos) Zlw:=λpins s σ H Q I h=>
 wpAny_Dict_empty ⟨.ref s.heap.objs.size,_,I.laid (a:=s.heap.objs.size) (o:=.dT []) (t':=s.toks) (λ_ _ q=>Heap.get?_push_of_some _ q) (Nat.le_refl _) (Zie s.heap I.big),rfl,h _ (I.hok.fresh (Nat.le_refl _))⟩
end
def Zg6:List (TE×TE)->St->Hp->(List (V×V)->Hp->Prop)->Prop
 | [],_,H,Q=>Q [] H
 | (tk,tv)::r,σ,H,Q=>tk σ H λx H1=>tv σ H1 λy H2=>Zg6 r σ H2 λps H3=>Q ((x,y)::ps) H3
abbrev VV:List (V×V)->List (Value×Value)->Prop:=Paired λp q=>RelV p.1 q.1/\RelV p.2 q.2
def PPs (X:Cx) (pos:Pos) (keys:List (Option Expr)) (values:List Expr) (trs:List (TE×TE)):Prop:=
 ∀ (pins:List (Addr×Obj)) (s:Shared) (σ:St) (H:Hp) (Q:List (V×V)->Hp->Prop),Inv X pins σ H s->Zg6 trs σ H Q ->
  wpAny (model X.prog X.w) X.A (evalPairs (pairTrees keys values X.env pos)) (λvs s'=>∃ ps H',Inv X pins σ H' s'/\VV ps vs/\Q ps H') X.xe s
theorem Zj2 {X:Cx} {pos:Pos}:PPs X pos [] [] []:=λpins s σ H Q I h=>pairTrees_nil_walk ⟨[],H,I,.nil,h⟩
theorem Zig {X:Cx} {pos:Pos} {k v:Expr} {ks:List (Option Expr)} {vs:List Expr} {tk tv:TE} {trs:List (TE×TE)} (hk:PE X k tk) (hv:PE X v tv) (hr:PPs X pos ks vs trs) :
  PPs X pos (some k::ks) (v::vs) ((tk,tv)::trs):=λpins s σ H Q I h=>
 pairTrees_cons_walk (thn (hk pins s σ H _ I h) λu s1 ⟨x,H1,I1,rx,q1⟩=>thn (hv pins s1 σ H1 _ I1 q1) λw2 s2 ⟨y,H2,I2,ry,q2⟩=>
  thn (hr pins s2 σ H2 _ I2 q2) λws s3 ⟨ps,H3,I3,rel,q3⟩=>⟨(x,y)::ps,H3,I3,.cons ⟨rx,ry⟩ rel,q3⟩)
def ZcI (kvs more:List (Key×V)):List (Key×V):=more.foldl (λacc kv=>ZcN acc kv.1 kv.2) kvs
theorem KV.merge:∀ {more:List (Key×V)} {rs:List (Key×Value)} {kvs:List (Key×V)} {vs:List (Key×Value)},KV more rs->KV kvs vs->KV (ZcI kvs more) (merged vs rs):=by
 intro more rs kvs vs r
 unfold KV at r
 induction r generalizing kvs vs with
 | nil=>intro q;exact q
 | @cons p q ps qs h t ih=>
  intro r0
  have e:KV (ZcN kvs p.1 p.2) (stored vs q.1 q.2):=by
   have:=r0.put p.1 h.2
   rw [<-h.1];exact this
  exact ih e
theorem Zch:∀ (more kvs:List (Key×V)),(ZcI kvs more).length<=kvs.length+more.length
 | [],kvs=>by show kvs.length<=kvs.length+0;omega
 | p::r,kvs=>by
  have h1:=Zch r (ZcN kvs p.1 p.2)
  have h2:=Zbd kvs p.1 p.2
  show (ZcI (ZcN kvs p.1 p.2) r).length<=_
  rw [List.length_cons];omega
theorem Zdu {P:Program} {w:World}:∀ {kvs:List (Key×V)} {ws:List (Value×Value)},VV (kvs.map λkv=>(kV kv.1,kv.2)) ws->∃ rs,Carries (ZaU P w) ws rs/\KV kvs rs
 | [],_,r=>by rw [List.map_nil] at r;cases r;exact ⟨[],True.intro,.nil⟩
 | p::kvs,_,r=>by
  rw [List.map_cons] at r
  cases r with
  | @cons a b as bs h t=>
   obtain ⟨rs,c,q⟩:=Zdu (P:=P) (w:=w) t
   obtain ⟨b1,b2⟩:=b
   exact ⟨(p.1,b2)::rs,⟨Zf9 h.1,rfl,c⟩,.cons ⟨rfl,h.2⟩ q⟩
def Zna (trs:List (TE×TE)):TE:=λσ H Q=>∀ p,H p=none->Zg6 trs σ (upd H p (.dK [])) λps H2=>H2 p=some (.dK [])/\∃ kvs:List (Key×V),ps=kvs.map (λkv=>(kV kv.1,kv.2))/\kvs.length<=15/\Q (.ref p) (upd H2 p (.dK (ZcI [] kvs)))
theorem Zj3 {X:Cx} {pos:Pos} {keys:List (Option Expr)} {values:List Expr} {trs:List (TE×TE)} (h:PPs X pos keys values trs) (hall:keys.all (·.isSome)=true) (hl:keys.length=values.length) (h0:keys≠[])
  (h15:keys.length<=15):PE X (.Dict keys values pos) (Zna trs):=by
 intro pins s σ H Q I q
 have hn:=I.hok.fresh (Nat.le_refl s.heap.objs.size)
 have I1:=I.laid (a:=s.heap.objs.size) (o:=.dK []) (h':=s.heap.push { cls:=.type "dict", data:=.dict #[] }) (t':=s.toks) (λ_ _ q=>Heap.get?_push_of_some _ q) (Nat.le_refl _) (Zid s.heap I.big)
 refine wpAny_Dict_walk (knd:=ZaU X.prog X.w) hall hl h0 h15 (thn (h pins _ σ _ _ I1 (q _ hn)) λws s2 ⟨ps,H2,I2,rel,e,kvs,ep,lk,q2⟩=>?_)
 subst ep
 obtain ⟨rs,c,rk⟩:=Zdu (P:=X.prog) (w:=X.w) rel
 obtain ⟨z,hd,vs0,r0,dd⟩:=Zlu I2.hok e
 cases r0
 refine ⟨rs,c,dd,λh' dd' hs=>⟨.ref s.heap.objs.size,_,?_,rfl,q2⟩⟩
 have hz:(ZcI [] kvs).length<=sizeLine:=by
  have h1:=Zch kvs []
  rw [List.length_nil] at h1
  rw [sizeLine_eq];omega
 have he:∃ q,h'.get? s.heap.objs.size=some q:=let ⟨q,_,_,hq,_⟩:=dd';⟨q,hq⟩
 exact Ze0 I2 (by rw [e];exact True.intro) hs he (Zi9 hz hd (rk.merge .nil) dd')
structure M1 (X:Cx) (o:Expr) (m:Str) (apos:Pos) (e:Expr) (cpos:Pos):Prop where
 base:attributeBase o m X.env (eval o X.env)=eval o X.env
 few:((backTo cpos (starEach [e] X.env)).all (λx=>!x.1) && (backToKw cpos (keywordEach [] X.env)).all (λx=>x.1.isSome)
  && decide (([e]:List Expr).length+([]:List Keyword).length+(if ([]:List Keyword).isEmpty then 0 else 1)<30))=true
 line:(apos.endLine == cpos.line)=true
 trees:backTo cpos (starEach [e] X.env)=[(false,eval e X.env)]
structure M2 (X:Cx) (o:Expr) (m:Str) (apos:Pos) (e f:Expr) (cpos:Pos):Prop where
 base:attributeBase o m X.env (eval o X.env)=eval o X.env
 few:((backTo cpos (starEach [e,f] X.env)).all (λx=>!x.1) && (backToKw cpos (keywordEach [] X.env)).all (λx=>x.1.isSome)
  && decide (([e,f]:List Expr).length+([]:List Keyword).length+(if ([]:List Keyword).isEmpty then 0 else 1)<30))=true
 line:(apos.endLine == cpos.line)=true
 trees:backTo cpos (starEach [e,f] X.env)=[(false,eval e X.env),(false,eval f X.env)]
def IsD (H:Hp) (a:Addr):Prop:=(∃ kvs,Rd H a (.dK kvs))\/∃ kvs,Rd H a (.dT kvs)
section
variable {X:Cx} {pins:List (Addr×Obj)} {σ:St} {H:Hp} {s:Shared} {a:Addr} {y d:V} {u r:Value} {o:Option V} {A:Around} {E:Value->Shared->Prop}
end
def ZnT (td ty:TE):TE:=λσ H Q=>td σ H λx H1=>∃ a,x=.ref a/\IsD H1 a/\ty σ H1 λy H2=>∃ o,DGet H2 a y o/\Q (o.getD .non) H2
def ZnU (td ty tx:TE):TE:=λσ H Q=>td σ H λx H1=>∃ a,x=.ref a/\IsD H1 a/\ty σ H1 λy H2=>tx σ H2 λz H3=>∃ o,DGet H3 a y o/\Q (o.getD z) H3
def ZnV (td ty:TE):TE:=λσ H Q=>td σ H λx H1=>∃ a,x=.ref a/\IsD H1 a/\ty σ H1 λy H2=>∃ kvs k v,H2 a=some (.dK kvs)/\y=kV k/\ZbO kvs k=some v/\Q v (upd H2 a (.dK (ZjX kvs k)))
def ZnW (td ty tx:TE):TE:=λσ H Q=>td σ H λx H1=>∃ a,x=.ref a/\IsD H1 a/\ty σ H1 λy H2=>tx σ H2 λz H3=>∃ kvs k,H3 a=some (.dK kvs)/\y=kV k /\
 (∀ v,ZbO kvs k=some v->Q v (upd H3 a (.dK (ZjX kvs k))))/\(ZbO kvs k=none->Q z H3)
section
variable {X:Cx} {o e f:Expr} {apos cpos:Pos} {td ty tx:TE}
end
section
variable {X:Cx} {pins:List (Addr×Obj)} {σ:St} {H:Hp} {s:Shared} {a:Addr} {kvs:List (Key×V)} {A:Around} {E:Value->Shared->Prop}
end
section
variable {X:Cx} {pins:List (Addr×Obj)} {σ:St} {H:Hp} {s:Shared} {a:Addr} {y:V} {u:Value} {A:Around} {E:Value->Shared->Prop}
end
end L2
namespace L2
open PySem PySem.Spec PyProof.Rows
section
variable {X:Cx}
def ZnX:V->List V->Hp->VK->Prop:=λx vs H Q=>∃ (l:Addr) (ns:List Int) (i:Int),x=.ref l/\vs=[.int i]/\H l=some (.lst (ns.map V.int))/\i∈ns/\Q (.int ((ns.idxOf i:Nat):Int)) H
end
end L2
namespace L2
open PySem PySem.Spec PyProof.Rows
structure Lane where
 it:Addr
 l:Addr
 xs:Array Value
def Lane.On (r:Lane) (k:Nat) (h:Heap):Prop:=h.IsListIter r.it r.l k/\h.IsList r.l r.xs
theorem Lane.On.keep {r:Lane} {k:Nat} {h h':Heap} (x:r.On k h) (e:∀ c,c=r.it\/c=r.l->∀ o,h.get? c=some o->h'.get? c=some o):r.On k h':=
 ⟨x.1.at (e _ (.inl rfl)),x.2.at (e _ (.inr rfl))⟩
structure Zlx (rs:List Lane):Prop where
 nd:(rs.map Lane.it).Nodup
 ls:∀ r∈rs,∀ q∈rs,q.l≠r.it
abbrev Ze3 (h:Heap) (z TI TO:Addr) (f0:Value) (f1:Bool):Prop:=
 h.get? z=some { cls:=.type "zip", dict:=none,data:=.fields #[f0,.bool f1,.bool false,.ref TI,.ref TO],slots:=#[] }
section
variable {prog:Program} {w:World} {A:Around} {E:Value->Shared->Prop} {s:Shared}
theorem Zg7 {z TI TO T:Addr} {f1:Bool} {o:Obj} {Q:Bool->Shared->Prop} (hz:Ze3 s.heap z TI TO (rawInt T) f1) (hT:s.heap.get? T=some o)
  (h:∀ h',Ze3 h' z TI TO (rawInt T) true->Heap.SameBut z s.heap h'->Q false { s with heap:=h' }):wpAny (model prog w) A (Builtin.SmallTypes.ownedTupleIsFree (.ref z)) Q E s:=by
 wp_walk using wpAny_field hz rfl rfl
 refine PySem.W.kdx_alive (a:=T) hT ?_
 cases f1
 ·wp_walk using wpAny_field hz rfl rfl
  exact h _ (Heap.get?_update_self _ hz rfl) (Heap.SameBut.update ..)
 ·wp_walk using wpAny_field hz rfl rfl
  exact h s.heap hz ⟨rfl,λ_ _=>rfl⟩
theorem Zih {z TI TO T:Addr} {f1:Bool} {o:Obj} {rs:List Lane} {k:Nat} {Q:Value->Shared->Prop} (hh:A.handled=none) (ap:Zlx rs) (hz:Ze3 s.heap z TI TO (rawInt T) f1) (hT:s.heap.get? T=some o) (hr:∀ r∈rs,r.it≠z/\r.l≠z)
  (hTI:s.heap.get? TI=some { cls:=.type "tuple", data:=.seq (rs.map λr=>Value.ref r.it).toArray }) (h0:rs≠[]) (hl:rs.length<=64) (on:∀ r∈rs,r.On k s.heap)
  (hQ:∀ (vs:List Value) h',rs.map (λr=>r.xs[k]?)=vs.map some->Ze3 h' z TI TO (rawInt T) true->(∀ r∈rs,r.On (k+1) h')->h'.get? s.heap.objs.size=some { cls:=.type "tuple", data:=.seq vs.toArray }->h'.objs.size=s.heap.objs.size+1 ->
   (∀ c o,c≠z->c ∉ rs.map Lane.it->s.heap.get? c=some o->h'.get? c=some o)->Q (.ref s.heap.objs.size) { s with heap:=h' })
  (hE:∀ h' e,(∃ r∈rs,r.xs[k]?=none)->(∀ c o,c≠z->c ∉ rs.map Lane.it->s.heap.get? c=some o->h'.get? c=some o)->(∃ o,h'.get? e=some o/\o.cls=.type "StopIteration")->E (.ref e) { s with heap:=h' }) :
  wpAny (model prog w) A (Builtin.«zip.__next__» ⟨[.ref z],[]⟩) (λfin s'=>∃ v,fin=.done (.ret v)/\Q v s') E s:=by
 have hne:(rs.map λr=>Value.ref r.it).toArray.isEmpty=false:=by cases rs with
  | nil=>exact absurd rfl h0
  | cons=>rfl
 wp_walk using wpAny_field hz rfl rfl,wpAny_seqItems hTI rfl,Zg7 hz hT
 intro h1 z1 s1
 wp_walk
 refine MeetsSeq2.wpAny_forIn_array _ (λrest b s'=>∃ dn rm h',rs=dn++rm/\rest=rm.map (λr=>Value.ref r.it)/\b.1=none/\dn.map (λr=>r.xs[k]?)=b.2.toList.map some/\s'={ s with heap:=h' }/\h'.objs.size=s.heap.objs.size /\
   (∀ r∈dn,r.On (k+1) h')/\(∀ r∈rm,r.On k h')/\∀ c o,c ∉ rs.map Lane.it->h1.get? c=some o->h'.get? c=some o) _ ?_ ?_ _ _ ?_
 ·rintro x rest ⟨b1,b2⟩ s' ⟨dn,rm,h',hd,hx,hb,hv,rfl,hsz,on1,on0,kp⟩
  cases rm with
  | nil=>cases hx
  | cons r rm=>
   obtain ⟨rfl,rfl⟩:x=Value.ref r.it/\rest=rm.map (λr=>Value.ref r.it):=by cases hx;exact ⟨rfl,rfl⟩
   have mr:r∈rs:=by rw [hd];simp
   have nd:=ap.nd
   rw [hd,List.map_append,List.map_cons,List.nodup_append] at nd
   obtain ⟨-,nd2,nd3⟩:=nd
   have nr:∀ q,q∈dn\/q∈rm->q.it≠r.it/\q.l≠r.it:=λq hq=>⟨hq.elim (λy=>nd3 _ (List.mem_map_of_mem y) _ List.mem_cons_self) (λy e=>(List.nodup_cons.1 nd2).1 (e▸List.mem_map_of_mem y)),ap.ls r mr q (by rw [hd];rcases hq with y | y <;> simp [y])⟩
   have o0:=on0 r List.mem_cons_self
   refine wpAny_bind (wpAny_holding (?_:wpAny _ _ (Builtin.SmallTypes.nextOf (.ref r.it) >>= λv=>pure (some v)) _ _ _))
   cases e:r.xs[k]? with
   | none=>
    refine wpAny_bind (wpAny_nextOf_list_end hh o0.1 o0.2 e λh2 e2 x2 c2=>?_)
    exact hE h2 e2 ⟨r,mr,e⟩ (λc o c1 c3 q=>x2 c o (λy=>c3 (y▸List.mem_map_of_mem mr)) (kp c o c3 (by rw [s1.2 c c1];exact q))) c2
   | some v=>
    refine wpAny_bind (wpAny_nextOf_list_item o0.1 o0.2 e λh2 on2 x2=>?_)
    wp_walk
    have ot:∀ q,q∈dn\/q∈rm->∀ c,c=q.it\/c=q.l->∀ o,h'.get? c=some o->h2.get? c=some o:=λq hq c hc o y=>by
     rw [x2.2 c (hc.elim (λy=>y▸(nr q hq).1) (λy=>y▸(nr q hq).2))];exact y
    refine ⟨dn++[r],rm,h2,by rw [hd];simp,rfl,rfl,?_,rfl,x2.1.trans hsz,λq hq=>?_,λq hq=>(on0 q (List.mem_cons_of_mem _ hq)).keep (ot q (.inr hq)),λc o c1 q=>?_⟩
    ·rw [List.map_append,hv];simp [e]
    ·rcases List.mem_append.1 hq with y | y
     ·exact (on1 q y).keep (ot q (.inl y))
     ·cases List.mem_singleton.1 y
      exact ⟨on2,o0.2.at λo y=>by rw [x2.2 _ (ap.ls r mr r mr)];exact y⟩
    ·rw [x2.2 c (λy=>c1 (y▸List.mem_map_of_mem mr))];exact kp c o c1 q
 ·rintro ⟨b1,b2⟩ s' ⟨dn,rm,h',hd,hx,hb,hv,rfl,hsz,on1,on0,kp⟩
  cases rm with
  | cons=>cases hx
  | nil=>
   cases hb
   rw [List.append_nil] at hd
   subst hd
   have hlv:b2.toList.length<=sizeLine:=by
    have:=congrArg List.length hv
    rw [List.length_map,List.length_map] at this
    rw [<-this,sizeLine_eq];omega
   wp_walk using wpAny_newTuple (hsz:=hlv)
   have pu:∀ c o,h'.get? c=some o->(h'.push { cls:=.type "tuple", data:=.seq b2.toList.toArray }).get? c=some o:=λc o=>Heap.get?_push_of_some _
   refine ⟨_,rfl,?_⟩
   rw [hsz]
   refine hQ b2.toList _ hv (pu _ _ (kp _ _ (λy=>?_) z1)) (λr y=>(on1 r y).keep λc _=>pu c) ?_ (by rw [Heap.size_push,hsz]) λc o c1 c2 q=>pu _ _ (kp _ _ c2 (by rw [s1.2 c c1];exact q))
   ·obtain ⟨r,y,e⟩:=List.mem_map.1 y
    exact (hr r y).1 e
   ·rw [<-hsz];exact Heap.get?_push_size _ rfl
 ·exact ⟨[],rs,h1,rfl,rfl,rfl,rfl,rfl,s1.1,λ_ y=>absurd y (List.not_mem_nil),λr y=>(on r y).keep λc hc o q=>by rw [s1.2 c (hc.elim (λe=>e▸(hr r y).1) (λe=>e▸(hr r y).2))];exact q,λ_ _ _ q=>q⟩
theorem Zii {z TI TO T:Addr} {f1:Bool} {o:Obj} {rs:List Lane} {k:Nat} {Q:Option Value->Shared->Prop} (hh:A.in1.handled=none) (ap:Zlx rs) (hz:Ze3 s.heap z TI TO (rawInt T) f1) (hT:s.heap.get? T=some o) (hr:∀ r∈rs,r.it≠z/\r.l≠z)
  (hTI:s.heap.get? TI=some { cls:=.type "tuple", data:=.seq (rs.map λr=>Value.ref r.it).toArray }) (h0:rs≠[]) (hl:rs.length<=64) (on:∀ r∈rs,r.On k s.heap)
  (hQ:∀ (vs:List Value) h',rs.map (λr=>r.xs[k]?)=vs.map some->Ze3 h' z TI TO (rawInt T) true->(∀ r∈rs,r.On (k+1) h')->h'.get? s.heap.objs.size=some { cls:=.type "tuple", data:=.seq vs.toArray }->h'.objs.size=s.heap.objs.size+1 ->
   (∀ c o,c≠z->c ∉ rs.map Lane.it->s.heap.get? c=some o->h'.get? c=some o)->Q (some (.ref s.heap.objs.size)) { s with heap:=h' })
  (hN:∀ h',(∃ r∈rs,r.xs[k]?=none)->(∀ c o,c≠z->c ∉ rs.map Lane.it->s.heap.get? c=some o->h'.get? c=some o)->Q none { s with heap:=h' }):wpAny (model prog w) A (pyNext (.ref z)) Q E s:=by
 have ty:s.TypeIs (.ref z) "zip" := ⟨_,hz,rfl⟩
 refine wpAny_bind (wpAny_attempt (wpAny_callSpecial?_slot ty F.slot_zip_next (wpAny_call_entry F.slot_zip_next ty F.entry_zip_next (Zih hh ap hz hT hr hTI h0 hl on ?_ ?_) (F.args_zip_next_1 _))))
 ·intro vs h' a1 a2 a3 a4 a5 a6
  wp_walk
  exact hQ vs h' a1 a2 a3 a4 a5 a6
 ·rintro h' e a1 a2 ⟨o',e1,e2⟩
  exact wpAny_bind (wpAny_isInstance ⟨o',e1,e2⟩ isSubtype_stop (wpAny_pure (hN h' a1 a2)))
def ZipSt (S z TI TO:Addr) (a b:Lane) (i:Nat) (h:Heap):Prop:=
 ((IsZip h z TI TO .none/\∃ x y,IsPair h TO x y)\/∃ (T:Addr) (f1:Bool) (o:Obj),Ze3 h z TI TO (rawInt T) f1/\h.get? T=some o/\T≠z/\T≠a.it/\T≠b.it/\T≠S)/\IsPair h TI (.ref a.it) (.ref b.it)/\a.On i h/\b.On i h/\S<h.objs.size
abbrev Zap (z TI TO:Addr) (a b:Lane):Prop:=ZipApart z TI TO a.it b.it a.l b.l
theorem ZipSt.next {S z TI TO:Addr} {a b:Lane} {i:Nat} {Q:Option Value->Shared->Prop} (hh:A.in1.handled=none) (D:Zap z TI TO a b) (st:ZipSt S z TI TO a b i s.heap)
  (hQ:∀ x y h',a.xs[i]?=some x->b.xs[i]?=some y->ZipSt S z TI TO a b (i+1) h'->IsPair h' s.heap.objs.size x y->h'.objs.size=s.heap.objs.size+1->(∀ c o,c ∉ [z,TO,a.it,b.it]->s.heap.get? c=some o->h'.get? c=some o)->Q (some (.ref s.heap.objs.size)) { s with heap:=h' })
  (hN:∀ h',a.xs[i]?=none\/b.xs[i]?=none->(∀ c o,c ∉ [z,TO,a.it,b.it]->s.heap.get? c=some o->h'.get? c=some o)->Q none { s with heap:=h' }) :
  wpAny (model prog w) A (pyNext (.ref z)) Q E s:=by
 obtain ⟨st,hTI,oa,ob,lS⟩:=st
 have new:∀ c,(∃ o,s.heap.get? c=some o)->s.heap.objs.size≠c:=λc ⟨o,y⟩ e=>Nat.lt_irrefl _ (e▸Heap.lt_size y)
 have na:=new a.it ⟨_,oa.1.choose_spec.1⟩
 have nb:=new b.it ⟨_,ob.1.choose_spec.1⟩
 have four:∀ {c},c≠z->c≠TO->c≠a.it->c≠b.it->c ∉ [z,TO,a.it,b.it]:=λh1 h2 h3 h4 h=>by simp [h1,h2,h3,h4] at h
 have not4:∀ {c},c ∉ [z,TO,a.it,b.it]->c≠z/\c≠TO/\c≠a.it/\c≠b.it:=λh=>by simpa using h
 rcases st with ⟨hz,p,q,hTO⟩ | ⟨T,f1,o,hz,hT,t1,t2,t3,t4⟩
 ·have nz:=new z ⟨_,hz⟩
  cases ea:a.xs[i]? with
  | none=>exact wpAny_pyNext_zip_end hh D hz hTI hTO oa.1 ob.1 oa.2 ob.2 (.inl ea) λh' k1=>hN h' (.inl ea) λc o y=>k1 c o (not4 y).1 (not4 y).2.1 (not4 y).2.2.1 (not4 y).2.2.2
  | some x=>
   cases eb:b.xs[i]? with
   | none=>exact wpAny_pyNext_zip_end hh D hz hTI hTO oa.1 ob.1 oa.2 ob.2 (.inr eb) λh' k1=>hN h' (.inr eb) λc o y=>k1 c o (not4 y).1 (not4 y).2.1 (not4 y).2.2.1 (not4 y).2.2.2
   | some y=>
    refine wpAny_pyNext_zip_item D hz hTI hTO oa.1 ob.1 oa.2 ob.2 ea eb λh' b1 b2 b3 b4 b5 b6 k1=>hQ x y h' ea eb ⟨.inr ⟨_,_,_,b1,b5,nz,na,nb,Nat.ne_of_gt lS⟩,?_,⟨b3,oa.2.at λo=>?_⟩,⟨b4,ob.2.at λo=>?_⟩,by rw [b6];exact Nat.lt_succ_of_lt lS⟩ b5 b6 λc o y=>k1 c o (not4 y).1 (not4 y).2.1 (not4 y).2.2.1 (not4 y).2.2.2
    ·exact k1 _ _ D.TIz D.TITO D.TIi1 D.TIi2 hTI
    ·exact k1 _ o D.l1z D.l1TO D.l1i1 D.l1i2
    ·exact k1 _ o D.l2z D.l2TO D.l2i1 D.l2i2
 ·refine Zii (rs:=[a,b]) hh ⟨?_,?_⟩ hz hT ?_ hTI (by simp) (by simp) (k:=i) (λr hr=>?_) ?_ ?_
  ·simpa using D.i12
  ·simpa using ⟨⟨D.l1i1,D.l2i1⟩,D.l1i2,D.l2i2⟩
  ·simpa using ⟨⟨D.i1z,D.l1z⟩,D.i2z,D.l2z⟩
  ·simp only [List.mem_cons,List.not_mem_nil,or_false] at hr
   rcases hr with rfl | rfl
   ·exact oa
   ·exact ob
  ·intro vs h' e b1 on b5 b6 k1
   match vs,e with
   | [x,y],e=>
    simp only [List.map_cons,List.map_nil,List.cons.injEq,and_true] at e
    refine hQ x y h' e.1 e.2 ⟨.inr ⟨T,true,o,b1,k1 _ _ t1 (by simp [t2,t3]) hT,t1,t2,t3,t4⟩,k1 _ _ D.TIz (by simp [D.TIi1,D.TIi2]) hTI,on a (by simp),on b (by simp),by rw [b6];exact Nat.lt_succ_of_lt lS⟩ b5 b6 λc o y=>k1 c o (not4 y).1 (by simp [(not4 y).2.2.1,(not4 y).2.2.2])
   | [],e=>simp at e
   | [_],e=>simp at e
   | _::_::_::_,e=>simp at e
  ·intro h' e k1
   refine hN h' (by simpa using e) λc o y=>k1 c o (not4 y).1 (by simp [(not4 y).2.2.1,(not4 y).2.2.2])
theorem ZipSt.aside {S z TI TO:Addr} {a b:Lane} {i:Nat} {h:Heap} (f:Obj->Obj) (hS:S ∉ [z,TI,TO,a.it,b.it,a.l,b.l]) (st:ZipSt S z TI TO a b i h):ZipSt S z TI TO a b i (h.update S f):=by
 obtain ⟨st,hTI,oa,ob,lS⟩:=st
 have kp:∀ c o,c≠S->h.get? c=some o->(h.update S f).get? c=some o:=λc o hc y=>(Heap.get?_update_other _ _ (Ne.symm hc)).trans y
 have k1:∀ c,c∈[z,TI,TO,a.it,b.it,a.l,b.l]->∀ o,h.get? c=some o->(h.update S f).get? c=some o:=λc hc o=>kp c o λe=>hS (e▸hc)
 refine ⟨st.imp (λ⟨hz,x,y,p⟩=>⟨k1 z (by simp) _ hz,x,y,k1 TO (by simp) _ p⟩) λ⟨T,f1,o,hz,hT,t1,t2,t3,t4⟩=>⟨T,f1,o,k1 z (by simp) _ hz,kp T o t4 hT,t1,t2,t3,t4⟩,k1 TI (by simp) _ hTI,oa.keep λc hc=>k1 c (by rcases hc with rfl | rfl <;> simp),
  ob.keep λc hc=>k1 c (by rcases hc with rfl | rfl <;> simp),by rw [Heap.size_update];exact lS⟩
end
end L2
namespace L2
open PySem PySem.Spec PyProof.Rows
theorem HOk.stayOn {P:Program} {w:World} {H:Hp} {h h':Heap} (x:HOk P w H h) (k:∀ b u o,H b=some u->h.get? b=some o->h'.get? b=some o):HOk P w H h':=λa o e=>
 (x a o e).stay (λb u hb q=>hb.elim (λz=>k b o u (by rw [z];exact e) q) (λz=>k b _ u z q)) (λ_ q=>q) λ_ _ q=>q
def ZL (P:Program) (w:World) (H0:Hp) (h0:Heap) (z TO i1 i2 S:Addr) (ns ms:List Int) (i:Nat) (h:Heap) (acc:Array Value):Prop:=
 ∃ (Hj:Hp) (vs:List V),Same H0 Hj/\(∀ b o,Hj b=some o->H0 b=none->h0.objs.size<=b)/\(Hj z=none/\Hj TO=none/\Hj i1=none/\Hj i2=none/\Hj S=none)/\HOk P w Hj h/\Vals vs acc.toList/\Prs Hj vs ((ns.zip ms).take i) /\
  (∀ b o,h0.get? b=some o->h.get? b=some o)/\h0.objs.size<=h.objs.size
section
variable {P:Program} {w:World} {H0:Hp} {h0:Heap} {z TO i1 i2 S:Addr} {ns ms:List Int} {i:Nat} {h h':Heap} {acc:Array Value}
theorem ZL.put (L:ZL P w H0 h0 z TO i1 i2 S ns ms i h acc) (hS:h0.objs.size<=S) (hk:∀ b o,b≠S->h.get? b=some o->h'.get? b=some o) (hsz:h.objs.size<=h'.objs.size):ZL P w H0 h0 z TO i1 i2 S ns ms i h' acc:=by
 obtain ⟨Hj,vs,a1,a2,a3,a4,a5,a6,a7,a8⟩:=L
 refine ⟨Hj,vs,a1,a2,a3,a4.stayOn λb u o e q=>hk b o (λy=>?_) q,a5,a6,λb o e=>hk b o (Nat.ne_of_lt (Nat.lt_of_lt_of_le (Heap.lt_size e) hS)) (a7 b o e),Nat.le_trans a8 hsz⟩
 rw [y,a3.2.2.2.2] at e
 cases e
theorem ZL.next {a b:Int} {x y:Value} (L:ZL P w H0 h0 z TO i1 i2 S ns ms i h acc) (hlt:z<h.objs.size/\TO<h.objs.size/\i1<h.objs.size/\i2<h.objs.size/\S<h.objs.size) (hge:h0.objs.size<=z/\h0.objs.size<=TO/\h0.objs.size<=i1/\h0.objs.size<=i2)
  (ha:ns[i]?=some a) (hb:ms[i]?=some b) (rx:RelV (.int a) x) (ry:RelV (.int b) y) (hT:IsPair h' h.objs.size x y) (hsz:h'.objs.size=h.objs.size+1)
  (hk:∀ c o,c≠z->c≠TO->c≠i1->c≠i2->h.get? c=some o->h'.get? c=some o):ZL P w H0 h0 z TO i1 i2 S ns ms (i+1) h' (acc.push (.ref h.objs.size)):=by
 obtain ⟨Hj,vs,a1,a2,⟨f1,f2,f3,f4,f5⟩,a4,a5,a6,a7,a8⟩:=L
 obtain ⟨l1,l2,l3,l4,l5⟩:=hlt
 obtain ⟨g1,g2,g3,g4⟩:=hge
 have hn:Hj h.objs.size=none:=a4.fresh (Nat.le_refl _)
 have nn:∀ c o,Hj c=some o->c≠z/\c≠TO/\c≠i1/\c≠i2:=λc o e=>⟨λq=>(by rw [q,f1] at e;cases e),λq=>(by rw [q,f2] at e;cases e),λq=>(by rw [q,f3] at e;cases e),λq=>(by rw [q,f4] at e;cases e)⟩
 have b1:HOk P w Hj h':=a4.stayOn λc u o e q=>hk c o (nn c u e).1 (nn c u e).2.1 (nn c u e).2.2.1 (nn c u e).2.2.2 q
 have sm:Same Hj (upd Hj h.objs.size (.tup [.int a,.int b])):=Same.new hn
 refine ⟨upd Hj h.objs.size (.tup [.int a,.int b]),vs++[.ref h.objs.size],a1.trans sm,λc o e n=>?_,⟨?_,?_,?_,?_,?_⟩,λc o e=>?_,?_,?_,λc o e=>?_,by omega⟩
 ·by_cases hc:c=h.objs.size
  ·rw [hc];exact a8
  ·rw [Zao hc] at e;exact a2 c o e n
 ·rw [Zao (Nat.ne_of_lt l1)];exact f1
 ·rw [Zao (Nat.ne_of_lt l2)];exact f2
 ·rw [Zao (Nat.ne_of_lt l3)];exact f3
 ·rw [Zao (Nat.ne_of_lt l4)];exact f4
 ·rw [Zao (Nat.ne_of_lt l5)];exact f5
 ·by_cases hc:c=h.objs.size
  ·subst hc
   rw [Zab] at e;cases e
   exact ⟨by show 2<=sizeLine;decide,[x,y],.cons rx (.cons ry .nil),⟨_,hT,rfl,_,rfl⟩⟩
  ·rw [Zao hc] at e
   exact (b1 c o e).stay (λ_ _ _ q=>q) (λd q=>sm _ _ q) λd xs q=>sm _ _ q
 ·rw [Array.toList_push]
  exact a5.append (.cons rfl .nil)
 ·have e:(ns.zip ms)[i]?=some (a,b):=by
   rw [List.getElem?_zip_eq_some]
   exact ⟨ha,hb⟩
  rw [List.take_add_one,e]
  exact (a6.same sm).snoc Zab
 ·have hc:=Heap.lt_size e
  exact hk c o (Nat.ne_of_lt (Nat.lt_of_lt_of_le hc g1)) (Nat.ne_of_lt (Nat.lt_of_lt_of_le hc g2)) (Nat.ne_of_lt (Nat.lt_of_lt_of_le hc g3)) (Nat.ne_of_lt (Nat.lt_of_lt_of_le hc g4)) (a7 c o e)
end
abbrev Zij (h:Heap) (S:Addr) (acc:Array Value) (c:Nat):Prop:=h.get? S=some { cls:=.type "list", dict:=none,data:=.seq acc c,slots:=#[] }
structure Fed (prog:Program) (w:World) (A:Around) (I S:Addr) (n:Nat) (St:Nat->Heap->Array Value->Prop) (Fi:Heap->Array Value->Prop):Prop where
 give:∀ i (s:Shared) acc (Q:Option Value->Shared->Prop) E,i<n->St i s.heap acc ->
  (∀ v h',(∀ o,s.heap.get? S=some o->h'.get? S=some o)->St (i+1) h' (acc.push v)->Q (some v) { s with heap:=h' })->wpAny (model prog w) A (pyNext (.ref I)) Q E s
 stop:∀ (s:Shared) acc (o:Obj) (Q:Option Value->Shared->Prop) E,s.heap.get? S=some o->St n s.heap acc->(∀ h',(∀ o,s.heap.get? S=some o->h'.get? S=some o)->Fi h' acc->Q none { s with heap:=h' })->wpAny (model prog w) A (pyNext (.ref I)) Q E s
 aside:∀ i h f acc,St i h acc->St i (h.update S f) acc
section
variable {prog:Program} {w:World} {A:Around} {I S:Addr} {n:Nat} {St:Nat->Heap->Array Value->Prop} {Fi:Heap->Array Value->Prop}
theorem Fed.loop (W:Fed prog w A.in1 I S n St Fi) (hn:n<=1000) (res:Value) {R:Result->Shared->Prop}:∀ (k:Nat) (s:Shared) (acc:Array Value) (c:Nat),acc.size+k=n->St acc.size s.heap acc->Zij s.heap S acc c ->
  (∀ h' acc' c',acc'.size=n->Fi h' acc'->Zij h' S acc' c'->R (.ok (.ret res)) { s with heap:=h' })->codeAny (model prog w) A (.builtin "list.extend.loop" ⟨[.ref S,.ref I,res],[]⟩) R s
 | 0,s,acc,c,e,st,hS,hR=>codeAny_builtin F.entry_extend_loop <| (Around.under_plainId F.plain_extend_loop _)▸wpAny_bind (W.stop s acc _ _ _ hS (by rw [Nat.add_zero] at e;exact e▸st) λh' k1 f=>wpAny_pure (hR h' acc c e f (k1 _ hS)))
 | k+1,s,acc,c,e,st,hS,hR=>codeAny_builtin F.entry_extend_loop <| (Around.under_plainId F.plain_extend_loop _)▸wpAny_bind (W.give _ s acc _ _ (by omega) st λv h' k1 st1=>by
   have h16:=sizeLine_eq
   have hS1:=k1 _ hS
   refine wpAny_bind (wpAny_updateSeq (s:={ s with heap:=h' }) (f:=(·.push v)) hS1 rfl (wpAny_pure ⟨plainId_quiet F.plain_extend_loop _,?_⟩) (by omega) (by rw [Array.size_push];omega))
   have es:acc.size+1=(acc.push v).size:=(Array.size_push ..).symm
   exact W.loop hn res k _ (acc.push v) _ (by omega) (W.aside _ _ _ _ (es▸st1)) (Heap.get?_update_self _ hS1 rfl) hR)
end
section
variable {prog:Program} {w:World} {A:Around} {E:Value->Shared->Prop} {s:Shared}
namespace ZF
theorem no_len:typeLookup (.type "zip") "__len__" = pure none:=by rw [typeLookup_type,builtinLookup_eq_fast];kernel_rfl
theorem no_hint:typeLookup (.type "zip") "__length_hint__" = pure none:=by rw [typeLookup_type,builtinLookup_eq_fast];kernel_rfl
end ZF
theorem Zik {z TI TO:Addr} {f0:Value} {n:Nat} {St:Nat->Heap->Array Value->Prop} {Fi:Heap->Array Value->Prop} {Q:Value->Shared->Prop} (hz:IsZip s.heap z TI TO f0) (W:Fed prog w A.in1.in1 z s.heap.objs.size n St Fi) (hn:n<=1000)
  (st:St 0 (s.heap.push { cls:=.type "list", data:=.seq #[] }) #[])
  (hQ:∀ h' acc c,acc.size=n->Fi h' acc->Zij h' s.heap.objs.size acc c->Q (.ref s.heap.objs.size) { s with heap:=h' }):wpAny (model prog w) A (call (.type "list") [.ref z]) Q E s:=by
 have hS:Zij (s.heap.push { cls:=.type "list", data:=.seq #[] }) s.heap.objs.size #[] 0:=Heap.get?_push_size _ rfl
 have hz1:IsZip (s.heap.push { cls:=.type "list", data:=.seq #[] }) z TI TO f0:=Heap.get?_push_of_some _ hz
 have nz:s.heap.objs.size≠z:=λe=>Nat.lt_irrefl _ (e▸Heap.lt_size hz)
 refine callType_codes F.called_list (F.typeCall_list_1 _) F.entry_list_init (code_list_new (.ref z) (Q₁:=λv t=>v=.ref s.heap.objs.size/\t.heap=s.heap.push { cls:=.type "list", data:=.seq #[] }/\t={ s with heap:=t.heap }) ⟨rfl,rfl,rfl⟩) ?_
 rintro _ t ⟨rfl,ht,he⟩
 rw [he,ht]
 clear he ht t
 refine ⟨⟨_,hS,rfl⟩,F.args_list_init_2 _ _,?_⟩
 generalize s.heap.push { cls:=.type "list", data:=.seq #[] }=h1 at *
 generalize s.heap.objs.size=S at *
 wp_walk
 rw [if_neg (by simp [Builtin.List.listSameRef,nz])]
 have hz2:IsZip (h1.update S (Obj.mapSeq λ_=>#[])) z TI TO f0:=(Heap.get?_update_other _ _ nz).trans hz1
 have hS2:=Heap.get?_update_self (Obj.mapSeq λ_=>(#[]:Array Value)) hS rfl
 have st2:=W.aside 0 h1 (Obj.mapSeq λ_=>#[]) _ st
 generalize h1.update S (Obj.mapSeq λ_=>#[])=h2 at *
 refine wpAny_bind (wpAny_pyIter_zip hz2 ?_)
 have nl:=ZF.no_len
 have nh:=ZF.no_hint
 have ty:Shared.TypeIs { s with heap:=h2 } (.ref z) "zip" := ⟨_,hz2,rfl⟩
 wp_walk
 exact ⟨plainId_quiet F.plain_extend_loop _,W.loop hn .none n _ #[] _ (by simp) (W.aside _ _ _ _ (W.aside _ _ _ _ st2)) (Heap.get?_update_self _ (Heap.get?_update_self _ hS2 rfl) rfl) λh' acc c e f l=>⟨rfl,hQ h' acc c e f l⟩⟩
theorem Zj4 {P:Program} {H0:Hp} {h0:Heap} {z TI TO S:Addr} {a b:Lane} {ns ms:List Int} (hh:A.in1.handled=none) (D:Zap z TI TO a b) (hS:S ∉ [z,TI,TO,a.it,b.it,a.l,b.l]) (hlt:z<S/\TO<S/\a.it<S/\b.it<S)
  (hge:h0.objs.size<=z/\h0.objs.size<=TO/\h0.objs.size<=a.it/\h0.objs.size<=b.it) (hgS:h0.objs.size<=S) (vx:Vals (ns.map V.int) a.xs.toList) (vy:Vals (ms.map V.int) b.xs.toList) :
  Fed prog w A z S (min ns.length ms.length) (λi h acc=>ZipSt S z TI TO a b i h/\ZL P w H0 h0 z TO a.it b.it S ns ms i h acc) (ZL P w H0 h0 z TO a.it b.it S ns ms (min ns.length ms.length)):=by
 have S4:S ∉ [z,TO,a.it,b.it]:=λh=>hS (by simp only [List.mem_cons,List.not_mem_nil,or_false] at h ⊢;rcases h with h | h | h | h <;> simp [h])
 have item:∀ {ls:List Int} {r:Lane} {i:Nat},Vals (ls.map V.int) r.xs.toList->(hi:i<ls.length)->∃ u,r.xs[i]?=some u/\RelV (.int ls[i]) u:=λ{ls r i} v hi=>by
  obtain ⟨u,g,x⟩:=v.get (show (ls.map V.int)[i]?=some (.int ls[i]) by rw [List.getElem?_map,List.getElem?_eq_getElem hi];rfl)
  exact ⟨u,by simpa using g,x⟩
 have last:∀ {ls:List Int} {r:Lane} {i:Nat} {u:Value},Vals (ls.map V.int) r.xs.toList->r.xs[i]?=some u->i<ls.length:=λ{ls r i u} v e=>by
  have l:=v.length
  rw [List.length_map] at l
  rw [l,Array.length_toList]
  exact (Array.getElem?_eq_some_iff.1 e).1
 have out:∀ {c},c≠z->c≠TO->c≠a.it->c≠b.it->c ∉ [z,TO,a.it,b.it]:=λh1 h2 h3 h4 h=>by simp [h1,h2,h3,h4] at h
 refine ⟨λi s acc Q E hi ⟨st,L⟩ hQ=>?_,λs acc oS Q E eS ⟨st,L⟩ hQ=>?_,λi h f acc ⟨st,L⟩=>⟨st.aside f hS,L.put hgS (λc o hc y=>(Heap.get?_update_other _ _ (Ne.symm hc)).trans y) (Nat.le_of_eq (Heap.size_update ..).symm)⟩⟩
 ·obtain ⟨x,ex,rx⟩:=item (i:=i) vx (by omega)
  obtain ⟨y,ey,ry⟩:=item (i:=i) vy (by omega)
  have lS:=st.2.2.2.2
  refine st.next hh D (λx' y' h' fx fy st' p sz k1=>?_) λh' e=>?_
  ·rw [ex] at fx;rw [ey] at fy
   cases fx;cases fy
   exact hQ _ h' (λo=>k1 S o S4) ⟨st',L.next ⟨Nat.lt_trans hlt.1 lS,Nat.lt_trans hlt.2.1 lS,Nat.lt_trans hlt.2.2.1 lS,Nat.lt_trans hlt.2.2.2 lS,lS⟩ hge (List.getElem?_eq_getElem (by omega)) (List.getElem?_eq_getElem (by omega)) rx ry p sz λc o h1 h2 h3 h4=>k1 c o (out h1 h2 h3 h4)⟩
  ·rw [ex,ey] at e;simp at e
 ·refine st.next hh D (λx' y' h' fx fy=>?_) λh' e k1=>hQ h' (λo=>k1 S o S4) ?_
  ·have:=last vx fx;have:=last vy fy;omega
  ·obtain ⟨Hj,vs,a1,a2,a3,a4,a5,a6,a7,a8⟩:=L
   have old:∀ c,h0.objs.size > c->c ∉ [z,TO,a.it,b.it]:=λc hc=>out (Nat.ne_of_lt (Nat.lt_of_lt_of_le hc hge.1)) (Nat.ne_of_lt (Nat.lt_of_lt_of_le hc hge.2.1)) (Nat.ne_of_lt (Nat.lt_of_lt_of_le hc hge.2.2.1)) (Nat.ne_of_lt (Nat.lt_of_lt_of_le hc hge.2.2.2))
   have ours:∀ c o,Hj c=some o->c ∉ [z,TO,a.it,b.it]:=λc o y h=>by
    simp only [List.mem_cons,List.not_mem_nil,or_false] at h
    rcases h with rfl | rfl | rfl | rfl <;> simp [a3] at y
   exact ⟨Hj,vs,a1,a2,a3,a4.stayOn λc u o e y=>k1 c o (ours c u e) y,a5,a6,λc o y=>k1 c o (old c (Heap.lt_size y)) (a7 c o y),Nat.le_of_lt (Nat.lt_of_le_of_lt hgS (Heap.lt_size (k1 S oS S4 eS)))⟩
end
section
variable {X:Cx}
theorem Zg8:bootBuiltins "zip" = some (.type "zip"):=by first | rfl | decide +kernel
def Zil (K:PySem.W.Frag) (ta:TA):TE:=λσ H Q=>ta σ H λvs H1=>∃ (l1 l2:Addr) (ns ms:List Int),vs=[.ref l1,.ref l2]/\SqL K H1 l1 (ns.map V.int)/\SqL K H1 l2 (ms.map V.int)/\ns.length<=1000 /\
 ∀ (S:Addr) (ws:List V) (H':Hp),Same H1 H'->H1 S=none->H' S=some (.lst ws)->Prs H' ws (ns.zip ms)->Q (.ref S) H'
theorem Zga {a b:Expr} {ta:TA} {p p2 pos pos2:Pos} (K:PySem.W.Frag) (hc:X.calm=true) (hg:Gl X "list") (hm:X.mg "list" = none) (hg2:Gl X "zip") (hm2:X.mg "zip" = none) (ha:PA X [a,b] ta) (hK:X.K=K:=by rfl)
  (hs:starEach [Expr.Call (.Name "zip" p2) [a,b] [] pos2] X.env=[(false,eval (.Call (.Name "zip" p2) [a,b] [] pos2) X.env)]:=by rfl)
  (hs2:starEach [a,b] X.env=(false,eval a X.env)::starEach [b] X.env:=by rfl) (hp2:(backTo pos2 (starEach [b] X.env)).any (·.1)=false:=by rfl) :
  PE X (.Call (.Name "list" p) [.Call (.Name "zip" p2) [a,b] [] pos2] [] pos) (Zil K ta):=by
 subst hK
 intro pins s σ H Q I h
 refine wpAny_Call_Name_kw (ZcT I hg hm Zbz (PyProof.Rows.callWith_type1 ?_ hs rfl) (by decide) (by decide))
 rw [hs]
 refine Calls.spliced_cons ?_
 refine wpAny_Call_Name_kw (ZcT I hg2 hm2 Zg8 (PyProof.Rows.callWith_type1 (thn (ha pos2 pins s σ H _ I h) λus s1 ⟨vs,H1,I1,r1,q1⟩=>?_) hs2 hp2) (by decide) (by decide))
 obtain ⟨l1,l2,ns,ms,rfl,hq1,hq2,hn,q⟩:=q1
 obtain ⟨u1,u2,rfl,ru1,ru2⟩:=r1.two
 cases ru1
 cases ru2
 obtain ⟨xs,v1,p1,hz1⟩:=I1.list hq1
 obtain ⟨ys,v2,p2',hz2⟩:=I1.list hq2
 refine call_zip_2 p1.isList p2'.isList λh' hz hTI hTO hi1 hi2 hsz hk=>?_
 refine Calls.spliced_nil ?_
 have lt1:l1<s1.heap.objs.size:=by obtain ⟨_,e,_⟩:=p1.isList;exact Heap.lt_size e
 have lt2:l2<s1.heap.objs.size:=by obtain ⟨_,e,_⟩:=p2'.isList;exact Heap.lt_size e
 have D:ZipApart (s1.heap.objs.size+4) (s1.heap.objs.size+2) (s1.heap.objs.size+3) s1.heap.objs.size (s1.heap.objs.size+1) l1 l2:=by
  constructor <;> (first | exact Nat.ne_of_lt (by omega) | exact Nat.ne_of_gt (by omega) | (apply Nat.ne_of_lt;exact Nat.lt_of_lt_of_le (by assumption) (by omega)))
 have l1x:=v1.length
 rw [List.length_map] at l1x
 have fr:∀ b,s1.heap.objs.size<=b->H1 b=none:=λb hb=>I1.hok.fresh hb
 have hS:h'.objs.size ∉ [s1.heap.objs.size+4,s1.heap.objs.size+2,s1.heap.objs.size+3,s1.heap.objs.size,s1.heap.objs.size+1,l1,l2]:=by
  simp only [List.mem_cons,List.not_mem_nil,or_false]
  have g1:l1<h'.objs.size:=by rw [hsz];exact Nat.lt_of_lt_of_le lt1 (by omega)
  have g2:l2<h'.objs.size:=by rw [hsz];exact Nat.lt_of_lt_of_le lt2 (by omega)
  rintro (e | e | e | e | e | e | e) <;> first | omega | exact Nat.ne_of_gt g1 e | exact Nat.ne_of_gt g2 e
 have up:∀ b o,s1.heap.get? b=some o->(h'.push { cls:=.type "list", data:=.seq #[] }).get? b=some o:=λb o e=>Heap.get?_push_of_some _ (hk b o e)
 have pu:∀ b o,h'.get? b=some o->(h'.push { cls:=.type "list", data:=.seq #[] }).get? b=some o:=λb o e=>Heap.get?_push_of_some _ e
 have l2x:=v2.length
 rw [List.length_map] at l2x
 refine Zik hz (Zj4 (P:=X.prog) (H0:=H1) (h0:=s1.heap) (a:=⟨s1.heap.objs.size,l1,xs.toArray⟩) (b:=⟨s1.heap.objs.size+1,l2,ys.toArray⟩) (I1.ok.hd hc) D hS ⟨by show _<h'.objs.size;omega,by show _<h'.objs.size;omega,by show s1.heap.objs.size<h'.objs.size;omega,by show s1.heap.objs.size+1<h'.objs.size;omega⟩
  ⟨by omega,by omega,Nat.le_refl _,by show _<=s1.heap.objs.size+1;omega⟩ (by show _<=h'.objs.size;omega) v1 v2) (by omega)
  ⟨⟨.inl ⟨pu _ _ hz,_,_,pu _ _ hTO⟩,pu _ _ hTI,⟨hi1.at λo=>pu _ o,p1.isList.at λo=>up _ o⟩,⟨hi2.at λo=>pu _ o,p2'.isList.at λo=>up _ o⟩,by rw [Heap.size_push];exact Nat.lt_succ_self _⟩,
   H1,[],Same.refl _,λb o e n=>(by rw [n] at e;cases e),⟨fr _ (by omega),fr _ (by omega),fr _ (Nat.le_refl _),fr _ (by show _<=s1.heap.objs.size+1;omega),fr _ (by show _<=h'.objs.size;omega)⟩,I1.hok.kept λb u e=>up b u e,.nil,.nil,up,by rw [Heap.size_push];show _<=h'.objs.size+1;omega⟩ ?_
 ·intro h2 acc c z2 L e2
  obtain ⟨Hj,ws,a1,a2,⟨f1,f2,f3,f4,f5⟩,a4,a5,a6,a7,a8⟩:=L
  have h16:(16777216:Nat)=sizeLine:=sizeLine_eq.symm
  have hzl:(ns.zip ms).take (min ns.length ms.length)=ns.zip ms:=List.take_of_length_le (by rw [List.length_zip];omega)
  rw [hzl] at a6
  have hwl:ws.length<=sizeLine:=by rw [a5.length,Array.length_toList,z2];omega
  have sm:Same Hj (upd Hj h'.objs.size (.lst ws)):=Same.new f5
  have S1:=a1.trans sm
  refine ⟨.ref h'.objs.size,upd Hj h'.objs.size (.lst ws),I1.un (h':=h2) (t':=s1.toks) ⟨λb o e _ _ _=>a7 b o e,λb o e _ _ _=>⟨o.slots,a7 b o e⟩,λb o e n _=>?_,λb o e _=>⟨o,a7 b o e⟩,λb ys e=>S1 _ _ e,λb o u e=>S1 _ _ e,λb ps e=>⟨#[],by rw [S1 _ _ e];simp⟩⟩ (λb o e=>?_),rfl,?_⟩
  ·have hb:=Heap.lt_size e
   rw [Zao (Nat.ne_of_lt (Nat.lt_of_lt_of_le hb (show s1.heap.objs.size<=h'.objs.size by omega)))]
   cases z:Hj b with
   | none=>rfl
   | some u=>exact absurd (Nat.lt_of_lt_of_le hb (a2 b u z n)) (Nat.lt_irrefl _)
  ·by_cases hb:b=h'.objs.size
   ·subst hb
    rw [Zab] at e;cases e
    exact ⟨hwl,acc.toList,c,a5,e2⟩
   ·rw [Zao hb] at e
    exact (a4 b o e).stay (λ_ _ _ q=>q) (λd q=>sm _ _ q) λd xs q=>sm _ _ q
  ·refine q _ ws _ S1 ?_ Zab (a6.same sm)
   exact I1.hok.fresh (by omega)
end
end L2
namespace L2
open PySem PySem.Spec PyProof.Rows
theorem Zci:bootBuiltins "min" = some (.builtin "min"):=by first | rfl | decide +kernel
section
variable {X:Cx}
theorem ZoF (K:PySem.W.Frag) (hc:X.calm=true) (h:X.K=K:=by rfl):ZbW X (.builtin "min") (λxs H Q=>∃ (p:Addr) (ns:List Int),xs=[.ref p]/\SqL K H p (ns.map V.int)/\ns≠[]/\∀ m,m∈ns->(∀ n∈ns,m<=n)->Q (.int m) H):=by
 subst h
 intro pins s σ H xs us Q I rv h
 obtain ⟨p,ns,rfl,hq,hne,q⟩:=h
 obtain ⟨u,rfl,ru⟩:=rv.one
 cases ru
 obtain ⟨its,r,pl,hz⟩:=I.list hq
 have hh:X.A.in1.handled=none:=I.ok.hd hc
 have hl:=r.length
 rw [List.length_map] at hl
 have hpos:0<ns.length:=List.length_pos_iff.mpr hne
 obtain ⟨o,eo,_⟩:=id pl.isList
 have hlt:p<s.heap.objs.size:=Heap.lt_size eo
 have hval:∀ (i:Nat) (v:Value),its.toArray[i]?=some v->∃ t,v=Value.int (ns.getD i 0) t:=λi v hv=>by
  have hv':its[i]?=some v:=by simpa using hv
  have hi:i<its.length:=(List.getElem?_eq_some_iff.mp hv').1
  have ex:(ns.map V.int)[i]?=some (.int (ns[i]'(by omega))):=by rw [List.getElem?_map,List.getElem?_eq_getElem (by omega)];rfl
  obtain ⟨u,gu,ru⟩:=r.get ex
  rw [gu] at hv'
  cases hv'
  obtain ⟨t,rfl⟩:=ru
  exact ⟨t,by rw [List.getD_eq_getElem?_getD,List.getElem?_eq_getElem (by omega)];rfl⟩
 refine call_min_walk (wpAny_pyIter_list pl.isList ?_)
 refine ⟨s.heap.objs.size,_,_,_,_,_,_,rfl,Walks.list hh s.heap.objs.size p (Nat.ne_of_lt hlt) its.toArray,⟨⟨_,Heap.get?_push_size _ rfl,rfl,rfl⟩,pl.isList.at λo e=>Heap.get?_push_of_some _ e⟩,?_,by rw [List.size_toArray];omega,CmpOf.ints_lt (λi=>ns.getD i 0) hval,λv h' tk hv hk=>?_⟩
 ·intro b hb
  have e:b=s.heap.objs.size\/b=p:=by simpa using hb
  have hsz:(s.heap.push { cls:=.type "list_iterator", data:=.fields #[.ref p,.int 0 0] }).objs.size=s.heap.objs.size+1:=Heap.size_push ..
  show b<(s.heap.push { cls:=.type "list_iterator", data:=.fields #[.ref p,.int 0 0] }).objs.size
  rw [hsz]
  rcases e with e | e
  ·rw [e];exact Nat.lt_succ_self _
  ·rw [e];exact Nat.lt_succ_of_lt hlt
 ·obtain ⟨t,rfl⟩:=hval _ v hv
  have hA:=argBest_lt (λi=>ns.getD i 0) (its.toArray.size-1)
  have hsz:its.toArray.size=ns.length:=by rw [List.size_toArray];exact hl.symm
  generalize hg:argBest (λi j=>decide (ns.getD i 0<ns.getD j 0)) (its.toArray.size-1)=g at hA ⊢
  have hg1:g<ns.length:=by omega
  have eg:ns.getD g 0=ns[g]:=by rw [List.getD_eq_getElem?_getD,List.getElem?_eq_getElem hg1];rfl
  refine ⟨.int (ns.getD g 0),H,I.kept λb o e'=>hk b o ?_ (Heap.get?_push_of_some _ e'),⟨t,rfl⟩,q _ (by rw [eg];exact List.getElem_mem hg1) λn hn=>?_⟩
  ·intro z
   have:b=s.heap.objs.size:=by simpa using z
   exact absurd (Heap.lt_size e') (by rw [this];exact Nat.lt_irrefl _)
  ·obtain ⟨j,hj,rfl⟩:=List.getElem_of_mem hn
   have:=hA.2 j (by omega)
   have ej:ns.getD j 0=ns[j]:=by rw [List.getD_eq_getElem?_getD,List.getElem?_eq_getElem hj];rfl
   rw [<-ej]
   exact this
end
theorem ZfC {K:PySem.W.Frag} {a:Addr} {xs:List V} {g:TG} {tb:TS} {D:Ends} {σ:St} {H:Hp} (Pv:Nat->St->Hp->Prop) (h0:Pv 0 σ H) (hl:∀ i σ H,i<=xs.length->Pv i σ H->SqL K H a xs)
  (hs:∀ i x σ H T,xs[i]?=some x->Pv i σ H->H T=none->g (.ref T) σ (upd H T (.tup [.int (i:Nat),x])) λσ2 H2=>tb { D with nx:=Pv (i+1),ct:=Pv (i+1),bk:=D.nx } σ2 H2) (hd:∀ σ H,Pv xs.length σ H->D.nx σ H) :
  ∃ W:Nat->Nat->St->Hp->Prop,(∃ m,W 0 m σ H)/\∀ i m σ H,W i m σ H ->
   ((Ite K a).stop i H/\D.nx σ H)\/((Ite K a).go i H/\∃ N:St->Hp->Prop,(∀ σ' H',N σ' H'->∃ m',m'<m/\W (i+1) m' σ' H')/\∀ x H',(Ite K a).yld i H x H'->g x σ H' λσ2 H2=>tb { D with nx:=N,ct:=N,bk:=D.nx } σ2 H2):=by
 refine ⟨λi m σ H=>m=xs.length-i/\i<=xs.length/\Pv i σ H,⟨xs.length,by simp,Nat.zero_le _,h0⟩,?_⟩
 rintro i m σ H ⟨rfl,hi,p⟩
 have q:=hl i σ H hi p
 by_cases hlt:i<xs.length
 ·refine .inr ⟨⟨xs,xs[i],q,by simp [hlt]⟩,Pv (i+1),λσ' H' p'=>⟨xs.length-(i+1),by omega,rfl,hlt,p'⟩,λx H' y=>?_⟩
  obtain ⟨T,y',rfl,hT,rfl,hy⟩:=y
  exact hs i y' σ H T (hy xs q) p hT
 ·have e:i=xs.length:=by omega
  subst e
  exact .inl ⟨⟨xs,q,Nat.le_refl _⟩,hd σ H p⟩
def ZoG (lo:Int) (n:Nat):It:=⟨λi _=>i<n,λi H x H'=>H'=H/\x=.int (lo-i),λi _=>n<=i⟩
section
variable {X:Cx} {tg:Expr}
def ZoH (ta:TA):TI:=λσ H R=>ta σ H λvs H1=>∃ i j:Int,vs=[.int i,.int j,.int (-1)]/\(-1000<=i/\i<1000/\-1000<=j/\j<1000)/\R (ZoG i (i-j).toNat) H1
end
section
variable {X:Cx}
def ZoI (hi:Option Int) (xs:List V):List V:=match hi with
 | none=>xs.reverse
 | some _=>(xs.drop 1).reverse
def Zpl (K:PySem.W.Frag) (te:TE) (th:TO):TE:=λσ H Q=>te σ H λx H1=>th σ H1 λu H2=>∃ a xs,x=.ref a/\SqL K H2 a xs/\(u=none\/u=some 0)/\∀ p,H2 p=none->Q (.ref p) (upd H2 p (.lst (ZoI u xs)))
end
end L2
namespace L2
open PySem PySem.Spec PyProof.Rows
structure FunD (K:PySem.W.Frag) (x qual:Str) (st:Stmt) (dV:Value) (f:Addr) (fd:FuncData):Prop where
 ex:∃ (oc:Value) (od:Option Addr) (kV doc pm:Value) (an:Option Addr) (cdv ct:Value) (osl:Array (Option Value)),
  fd=PySem.W.fnOf x qual (Zas st) (Zan st) (Zad st) dV kV doc pm an cdv ct/\K.lookup f=some ⟨oc,od,.func fd,osl⟩/\PySem.W.codeIn K cdv qual=true
 kp:PySem.W.keepIn K (.ref f)=true
section
variable {P:Program} {w:World} {K:PySem.W.Frag} {mg:Str->Option Value} {base:Heap}
theorem FunD.ok {x qual:Str} {st:Stmt} {dV:Value} {f:Addr} {fd:FuncData} {N ps:List Str} {k:Nat} {sp:Sp} (F:FunD K x qual st dV f fd) (S:Zaw N ps (Zad st)) (len:∀ vs H Q E,sp vs H Q E->vs.length=ps.length)
  (hbody:∀ (cdv:Value) (A:Around) (outer:List Env) (s:Shared) (H:Hp) (vs:List V) (Q:VK) (E:XK),Room k (A.deeper (envOfC qual (Zad st) s.heap.objs.size f cdv))->sp vs H Q E ->
   ∃ t,PSs (ZgK CX0 P w K mg base N qual (Zad st) f cdv A outer s H E).nox (Zan st) t/\t { nx:=λ_ H'=>Q .non H',rt:=Q } (start N vs) H):ZaN P w K mg base CX0 (k+1) f fd ps sp:=by
 obtain ⟨oc,od,kV,doc,pm,an,cdv,ct,osl,rfl,lk,hcd⟩:=F.ex
 refine ZjH lk hcd S len λA outer s H vs Q E hr hsp=>?_
 obtain ⟨t,h,q⟩:=hbody cdv A outer s H vs Q E hr hsp
 exact ⟨t,h.nox,q⟩
theorem Zj5 {x qual:Str} {st:Stmt} {f:Addr} {oc:Value} {od an:Option Addr} {osl:Array (Option Value)} {dV kV doc pm cdv ct:Value} (l:K.lookup f=some ⟨oc,od,.func (PySem.W.fnOf x qual (Zas st) (Zan st) (Zad st) dV kV doc pm an cdv ct),osl⟩)
  (c:PySem.W.codeIn K cdv qual=true) (k:PySem.W.keepIn K (.ref f)=true):FunD K x qual st dV f (PySem.W.fnOf x qual (Zas st) (Zan st) (Zad st) dV kV doc pm an cdv ct):=⟨⟨oc,od,kV,doc,pm,an,cdv,ct,osl,rfl,l,c⟩,k⟩
end
end L2
namespace L2
open PySem PySem.Spec PyProof.Rows
end L2
namespace L2
open PySem
def itf (M:Nat):Nat->Nat->Nat
 | 0,x=>x
 | k+1,x=>itf M k ((x * 5+1) % M)
def orb (M:Nat):Nat->Nat->List Nat
 | 0,_=>[]
 | n+1,x=>x::orb M n ((x * 5+1) % M)
def Zpm (M:Nat):Bool:=(List.range M).all (λj=>(orb M M 0).contains j) && itf M M 0 == 0
def adv (mask:Nat) (p:SetTable.Probe):SetTable.Probe:=
 if p.more > 0 then { p with j:=p.j+1,more:=p.more-1 }
 else { p with j:=(SetTable.leap mask p.i p.perturb).1,more:=SetTable.runEnd mask (SetTable.leap mask p.i p.perturb).1-(SetTable.leap mask p.i p.perturb).1,i:=(SetTable.leap mask p.i p.perturb).1,perturb:=(SetTable.leap mask p.i p.perturb).2 }
def Zj6 (mask:Nat):Nat->SetTable.Probe->SetTable.Probe
 | 0,p=>p
 | n+1,p=>Zj6 mask n (adv mask p)
def rs (mask i pt:Nat):SetTable.Probe:={ j:=i,more:=SetTable.runEnd mask i-i,i:=i,perturb:=pt,dummy:=none }
def st0 (mask:Nat) (h:Int):SetTable.Probe:=rs mask (SetTable.bits h % (mask+1)) (SetTable.bits h)
def lps (mask:Nat):Nat->Nat×Nat->Nat×Nat
 | 0,x=>x
 | m+1,x=>lps mask m (SetTable.leap mask x.1 x.2)
def ZnY (xs:Array Nat):Prop:=xs.toList.Pairwise (· < ·)
section
variable {t:SetTable} {ha:Nat->Int} {h:Int}
end
end L2
namespace L2
open PySem
def ZnZ (mask:Nat) (acc:Option (Array (Option Nat)×Nat)) (h:Int):Option (Array (Option Nat)×Nat):=
 acc.bind λx=>(SetTable.layClean.free mask x.1 (SetTable.turns mask) (SetTable.bits h % (mask+1)) (SetTable.bits h)).bind λj=>some (x.1.setIfInBounds j (some x.2),x.2+1)
structure Lc (mask:Nat) (ow:Array (Option Nat)) (js:List Nat) (hs:List Int):Prop where
 sz:ow.size=mask+1
 len:js.length=hs.length
 at_:∀ (q j:Nat),js[q]?=some j↔ow[j]?=some (some q)
 rch:∀ (q:Nat) (h:Int) (j:Nat),hs[q]?=some h->js[q]?=some j->∃ n,(Zj6 mask n (st0 mask h)).j=j/\∀ r,r<n->ow[(Zj6 mask r (st0 mask h)).j]?≠some none
structure Zpn (t:SetTable) (od:Array Nat) (mask finger moves:Nat) (led plain:Bool) (hashes:Array Int):Prop where
 tm:t.mask=mask
 tl:t.led=led
 tp:t.plain=plain
 td:t.dummies=#[]
 rise:ZnY t.place
 le:∀ j∈t.place.toList,j<=mask
 perm:od.toList.Perm (List.range hashes.size)
 sz:t.place.size=hashes.size
 rch:∀ (r q j:Nat) (h:Int),od[r]?=some q->t.place[r]?=some j->hashes[q]?=some h->∃ n,(Zj6 mask n (st0 mask h)).j=j/\∀ r',r'<n->(Zj6 mask r' (st0 mask h)).j∈t.place.toList
end L2
namespace L2
open PySem
def ins {α:Type} (l:List α) (p:Nat) (x:α):List α:=l.take p++x::l.drop p
structure TOk (t:SetTable) (hs:List Int):Prop where
 mask:t.mask=7\/t.mask=31\/t.mask=127
 dum:t.dummies=#[]
 len:t.place.size=hs.length
 rise:ZnY t.place
 le:∀ j∈t.place.toList,j<=t.mask
 rch:∀ (i:Nat) (h:Int) (j:Nat),hs[i]?=some h->t.place[i]?=some j->∃ n,(Zj6 t.mask n (st0 t.mask h)).j=j/\∀ q,q<n->(Zj6 t.mask q (st0 t.mask h)).j∈t.place.toList
abbrev ZoJ (es:Array (Int×Value)):List Int:=es.toList.map (·.1)
structure SOk (t:SetTable) (es:Array (Int×Value)):Prop where
 T:TOk t (ZoJ es)
 room:es.size * 5<t.mask * 3
end L2
namespace L2
open PySem PySem.Spec PyProof.Rows
end L2
namespace L2
open PySem PySem.Spec PyProof.Rows
def Zeu (w:World):Bool:=w.params.followText "set-order"
section
variable {P:Program} {w:World} {A:Around} {E:Value->Shared->Prop} {s:Shared}
def ZoK (P:Program) (w:World) (e:Int×Value) (n:Int):Prop:=e.1=(intKind P w).hash n/\∃ tk,e.2=Value.int n tk
def ZoL (P:Program) (w:World) (o:Obj) (σ:List Int):Prop:=∃ es ep t,o.ExactSet/\o.data=.set es ep t/\Paired (ZoK P w) es.toList σ/\σ.Nodup/\SOk t es/\t.plain=true/\t.led=!Zeu w
end
end L2
namespace L2
open PySem PySem.Spec PyProof.Rows
def Znb (w:World):Obj:={ cls:=.type "set", dict:=none,data:=.set #[] 0 (.fresh 0 0 (!Zeu w)) }
section
variable {P:Program} {w:World} {A:Around} {E:Value->Shared->Prop} {s:Shared}
end
end L2
namespace L2
open PySem PySem.Spec PyProof.Rows
def Zly (t:SetTable):Nat->Nat
 | 0=>0
 | i+1=>t.place.getD i 0+1
section
variable {P:Program} {w:World} {A:Around} {E:Value->Shared->Prop} {s:Shared}
def SAt (w:World) (h:Heap) (a:Addr) (es:Array (Int×Value)) (ep:Nat) (t:SetTable):Prop:=
 (∃ o,h.get? a=some o/\o.ExactSet/\o.data=.set es ep t)/\SOk t es/\t.plain=true/\t.led=!Zeu w
def Zn0 (w:World) (a:Addr) (es:Array (Int×Value)) (ep:Nat):List (Int×Value):=if Zeu w then (pickOrder (w.params.setOrder a ep) es).toList else es.toList
def Znc (w:World) (t:SetTable) (i:Nat):Nat:=if Zeu w then 0 else Zly t i
def Zlz (w:World) (h:Heap) (it a:Addr) (t:SetTable) (i n ep:Nat):Prop:=
 ∃ o,h.get? it=some o/\o.cls=.type "set_iterator" /\ o.data=.fields #[.int (Znc w t i) 0,.int i 0,.ref a,.int n 0,.int ep 0]
end
end L2
namespace L2
open PySem PySem.Spec PyProof.Rows
section
variable {P:Program} {w:World} {A:Around} {E:Value->Shared->Prop} {s:Shared}
end
def Zpo (P:Program) (w:World) (a:Addr) (ms:List Int):HO:=.ext λh=>∃ o σ,h.get? a=some o/\ZoL P w o σ/\σ.Perm ms
section
variable {X:Cx} (K:PySem.W.Frag)
end
end L2
namespace L2
open PySem PySem.Spec PyProof.Rows
section
variable {P:Program} {w:World} {A:Around} {E:Value->Shared->Prop} {s:Shared}
end
section
variable {X:Cx}
end
end L2
namespace L2
open PySem PySem.Spec PyProof.Rows
section
variable {X:Cx} (P:Program) (w:World) (K:PySem.W.Frag)
end
end L2
namespace L2
open PySem PySem.Spec PyProof.Rows
section
variable {X:Cx}
def Zn1:V->List V->Hp->VK->Prop:=λx vs H Q=>∃ (l:Addr) (ns:List Int) (i:Int),x=.ref l/\vs=[.int i]/\H l=some (.lst (ns.map V.int))/\Q (.int ((ns.count i:Nat):Int)) H
end
end L2
namespace L2
open PySem PySem.Spec PyProof.Rows
section
variable {P:Program} {w:World} {A:Around} {E:Value->Shared->Prop} {s:Shared}
abbrev Znd (P:Program) (w:World) (r:Int×Int):Int:=tupleKeyHash (intKind P w) [r.1,r.2]
def ZoM (P:Program) (w:World) (h:Heap) (r:Int×Int) (a:Addr):Prop:=IsTupleKey (intKind P w) h [r.1,r.2] a
def ZoN (P:Program) (w:World) (h:Heap) (e:Int×Value) (r:Int×Int):Prop:=e.1=Znd P w r/\∃ a,e.2=.ref a/\ZoM P w h r a
def hAt (es:Array (Int×Value)) (i:Nat):Int:=(es[i]?.map (·.1)).getD 0
section
variable {a b:Addr} {o:Obj} {es:Array (Int×Value)} {ep:Nat} {t:SetTable} {ps:List (Int×Int)} {r:Int×Int} {Q:SetFound->Shared->Prop}
end
end
end L2
namespace L2
open PySem PySem.Spec PyProof.Rows
section
variable {P:Program} {w:World} {A:Around} {E:Value->Shared->Prop} {s:Shared}
def ZoO (P:Program) (w:World) (h0:Heap) (o:Obj) (ps:List (Int×Int)):Prop:=∃ es ep t,o.ExactSet/\o.data=.set es ep t/\Paired (ZoN P w h0) es.toList ps/\ps.Nodup/\SOk t es
end
def Zpp (a:Addr) (m:Nat):HO:=.ext λh=>∃ o es ep t,h.get? a=some o/\o.ExactSet/\o.data=.set es ep t/\t.fits es.size=true/\es.size=m/\m<=76
section
variable {X:Cx} (K:PySem.W.Frag)
end
end L2
namespace L2
open PySem PySem.Spec PyProof.Rows
abbrev Tri:=Int×Int×Int
inductive Trs (H:Hp):List V->List Tri->Prop
 | nil:Trs H [] []
 | cons {p:Addr} {a b c:Int} {xs:List V} {rs:List Tri}:H p=some (.tup [.int a,.int b,.int c])->Trs H xs rs->Trs H (.ref p::xs) ((a,b,c)::rs)
def trD (r:Tri):PyData:=.tuple [.int r.1,.int r.2.1,.int r.2.2]
section
variable {X:Cx} (K:PySem.W.Frag)
end
end L2
namespace L2
open PySem PySem.Spec PyProof.Rows
def Nd (ts:List Tri) (c:Int) (r:Tri):Prop:=2<=c/\ts[(c-2).toNat]?=some r
def At (ts:List Tri) (c lo:Int):Prop:=c=0\/c=1\/∃ r,Nd ts c r/\lo<r.1
def ZoP (ts:List Tri):Prop:=∀ (i:Nat) (r:Tri),ts[i]?=some r->(0<=r.1/\r.1<30)/\At ts r.2.1 r.1/\At ts r.2.2 r.1
inductive Has (ts:List Tri):Int->List Int->Prop
 | one:Has ts 1 []
 | low {c:Int} {r:Tri} {rs:List Int}:Nd ts c r->Has ts r.2.1 rs->Has ts c rs
 | high {c:Int} {r:Tri} {rs:List Int}:Nd ts c r->Has ts r.2.2 rs->Has ts c (r.1::rs)
def ZlA (fs:List Int) (n:Int):Option Int:=if n=0 then some 0 else if n=1 then some 1 else (fs.idxOf? n).map λ(i:Nat)=>(i:Int)+2
end L2
namespace L2
open PySem PySem.Spec PyProof.Rows
structure Fnd (ks:List Tri) (root:Int) (fs:List Int) (kvs:List (Key×V)) (k:Nat):Prop where
 num:∀ n:Int,ZbO kvs (.inl n)=(ZlA fs n).map V.int
 nd:fs.Nodup
 nod:∀ x∈fs,∃ r,Nd ks x r
 kle:k<=fs.length
 cl:∀ (i:Nat),i<k->∀ (x:Int) (r:Tri),fs[i]?=some x->Nd ks x r->(ZlA fs r.2.1).isSome/\(ZlA fs r.2.2).isSome
 kl:kvs.length<=fs.length+2
def Zpq (ks:List Tri) (fs:List Int) (us:List Tri) (i:Nat):Prop:=∀ (j:Nat) (x:Int),j<i->fs[j]?=some x->∃ (r:Tri) (a b:Int),Nd ks x r/\ZlA fs r.2.1=some a/\ZlA fs r.2.2=some b/\us[j]?=some (r.1,a,b)
def Bk (ts:List Tri):Prop:=∀ (i:Nat) (r:Tri),ts[i]?=some r->r.2.1<(i:Int)+2/\r.2.2<(i:Int)+2
structure ZoQ (ts ks:List Tri) (sm:List Int) (i:Nat):Prop where
 len:sm.length=i+2
 at_:∀ c lo:Int,c<(i:Int)+2->At ts c lo->At ks (sm.getD c.toNat 0) lo
def ZoR (r:Tri):List Key:=[.inl r.1,.inl r.2.1,.inl r.2.2]
def Zn2 (kvs:List (List Key×V)) (ks:List Tri):Prop:=∀ r:Tri,∀ v:V,ZbO kvs (ZoR r)=some v->∃ c:Int,v=.int c/\Nd ks c r
end L2
namespace L2
open PySem PySem.Spec PyProof.Rows
section
variable {P:Program} {w:World} {A:Around} {E:Value->Shared->Prop} {s:Shared}
abbrev Zne (P:Program) (w:World) (r:List Int):Int:=tupleKeyHash (intKind P w) r
def ZoS (P:Program) (w:World) (h:Heap) (r:List Int) (a:Addr):Prop:=IsTupleKey (intKind P w) h r a
def ZoT (P:Program) (w:World) (h:Heap) (e:Int×Value) (r:List Int):Prop:=e.1=Zne P w r/\∃ a,e.2=.ref a/\ZoS P w h r a
section
variable {a b:Addr} {o:Obj} {es:Array (Int×Value)} {ep:Nat} {t:SetTable} {ps:List (List Int)} {r:List Int} {Q:SetFound->Shared->Prop}
end
end
end L2
namespace L2
open PySem PySem.Spec PyProof.Rows
section
variable {P:Program} {w:World} {A:Around} {E:Value->Shared->Prop} {s:Shared}
def ZoU (P:Program) (w:World) (h0:Heap) (o:Obj) (ps:List (List Int)):Prop:=∃ es ep t,o.ExactSet/\o.data=.set es ep t/\Paired (ZoT P w h0) es.toList ps/\ps.Nodup/\SOk t es
end
section
variable {X:Cx} (K:PySem.W.Frag)
inductive Tus (H:Hp):List V->List (List Int)->Prop
 | nil:Tus H [] []
 | cons {p:Addr} {r:List Int} {xs:List V} {rs:List (List Int)}:H p=some (.tup (r.map V.int))->Tus H xs rs->Tus H (.ref p::xs) (r::rs)
end
end L2
namespace L2
open PySem PySem.Spec PyProof.Rows
def tl3 (r:Tri):List Int:=[r.1,r.2.1,r.2.2]
section
variable {X:Cx} (K:PySem.W.Frag)
end
end L2
namespace L2
open PySem PySem.Spec PyProof.Rows
def chT (ks:List Tri) (x:Int):List Int:=match ks[(x-2).toNat]? with | some r=>[r.2.1,r.2.2] | none=>[]
def Znf (ks:List Tri) (root:Int) (f:List Int):List Int:=root::f.flatMap (chT ks)
def New (f:List Int) (x:Int):Prop:=x≠0/\x≠1/\x ∉ f
def Ext (ks:List Tri) (root:Int) (f:List Int) (x:Int):Prop:=∃ p q,Znf ks root f=p++x::q/\New f x/\∀ y∈p,¬ New f y
inductive Rch (ks:List Tri) (root:Int):List Int->Prop
 | nil:Rch ks root []
 | snoc {f:List Int} {x:Int}:Rch ks root f->Ext ks root f x->Rch ks root (f++[x])
def Fin (ks:List Tri) (root:Int) (f:List Int):Prop:=∀ y∈Znf ks root f,¬ New f y
def Zpr (n:Nat):List Int:=(List.range n).map λ(i:Nat)=>(i:Int)+2
end L2
namespace L2
open PySem PySem.Spec PyProof.Rows
section
variable {X:Cx}
def ZmF:V->List V->Hp->VK->Prop:=λx vs H Q=>∃ l b xs zs,x=.ref l/\vs=[.ref b]/\H l=some (.lst xs)/\H b=some (.tup zs)/\xs.length+zs.length<=sizeLine/\Q .non (upd H l (.lst (xs++zs)))
end
end L2
namespace L2
open PySem PySem.Spec PyProof.Rows
section
variable {X:Cx}
end
structure Wk (ks:List Tri) (root:Int) (fs:List Int) (kvs:List (Key×V)) (pr ah:List Int):Prop where
 e:Znf ks root fs=pr++ah
 old:∀ y∈pr,¬ New fs y
 seen:∀ n:Int,ZbO kvs (.inl n)=none↔New fs n
 nd:fs.Nodup
 nod:∀ x∈fs,∃ r,Nd ks x r
 rch:Rch ks root fs
 kl:kvs.length<=fs.length+2
 ok:∀ y∈ah,At ks y (-1)
structure Zn3 (ts:List Tri) (many:Int) (r:Tri):Prop where
 road:0<=r.1/\r.1<many
 low:0<=r.2.1/\r.2.1<(ts.length:Int)+2
 high:0<r.2.2/\r.2.2<(ts.length:Int)+2
 lo:∀ q,Nd ts r.2.1 q->r.1<q.1
 hi:∀ q,Nd ts r.2.2 q->r.1<q.1
end L2
namespace L2
open PySem PySem.Spec PyProof.Rows
theorem Prs.take {H:Hp} {xs:List V} {rs:List (Int×Int)} (h:Prs H xs rs):∀ n,Prs H (xs.take n) (rs.take n):=by
 induction h with
 | nil=>intro n;rw [List.take_nil,List.take_nil];exact .nil
 | cons e _ ih=>
  intro n
  cases n with
  | zero=>exact .nil
  | succ n=>exact .cons e (ih n)
end L2
namespace L2
open PySem PySem.Spec PyProof.Rows
open AutoSeq1 (wpAny_loadPart') in
theorem Ze4 (L:Addr) (its:Array Value) (c:Nat) (y:Value) (ev:Value->Bool) (at_:Nat) (ha:at_<its.size) (yes:ev its[at_]=true) (room:its.size<=sizeLine):∀ (left i:Nat),at_-i=left->i<=at_ ->
  (∀ m (hm:m<its.size),i<=m->m<at_->ev its[m]=false)->Meets (Builtin.«list.remove.loop» ⟨[.ref L,y,rawInt i],[]⟩)
   (λA R s=>s.heap.get? L=some { cls:=.type "list", dict:=none,data:=.seq its c,slots:=#[] }/\(∀ z,z∈its->SeqAt.EqAt A.in1 s z y (ev z))/\R (.ok (.ret .none)) { s with heap:=s.heap.update L (Obj.mapSeq λzs=>zs.eraseIdxIfInBounds at_) }):=by
 intro left
 induction left with
 | zero=>
  intro i hk hle no prog w A R s ⟨hl,he,h⟩
  obtain ⟨hp,g,d,tk,os⟩:=s
  have e:i=at_:=by omega
  subst e
  wp_walk using wpAny_loadPart' hl
  have g1:its[((i:Nat):Int).toNat]?=some its[i]:=by simp [ha]
  rw [g1]
  refine wpAny_bind (he _ (Array.getElem_mem ha) prog w _ _ ?_)
  rw [yes]
  have g2:(its.eraseIdxIfInBounds i).size<=sizeLine+1:=Nat.le_trans (MeetsSeq.size_erased its _) (Nat.le_succ_of_le room)
  wp_walk using (wpAny_updateSeq hl rfl (hz:=room) (_hz':=g2)),wpAny_loadPart' hl
  simpa using h
 | succ left ih=>
  intro i hk hle no prog w A R s ⟨hl,he,h⟩
  obtain ⟨hp,g,d,tk,os⟩:=s
  have hi:i<its.size:=by omega
  wp_walk using wpAny_loadPart' hl
  have g1:its[((i:Nat):Int).toNat]?=some its[i]:=by simp [hi]
  have g2:((i:Int)+1)=((i+1:Nat):Int):=by omega
  rw [g1]
  refine wpAny_bind (he _ (Array.getElem_mem hi) prog w _ _ ?_)
  rw [no i hi (Nat.le_refl _) (by omega)]
  wp_walk
  rw [g2]
  refine ⟨plainId_quiet MeetsSeq.plain_remove_loop _,codeAny_builtin MeetsSeq.entry_remove_loop ?_⟩
  rw [Around.under_plainId MeetsSeq.plain_remove_loop _]
  exact ih (i+1) (by omega) (by omega) (λm hm m1 m2=>no m hm (by omega) m2) prog w A R _ ⟨hl,he,h⟩
open AutoSeq1 (wpAny_loadPart') in
theorem Zgb (L:Addr) (its:Array Value) (c:Nat) (y:Value) (ev:Value->Bool) (at_:Nat) (ha:at_<its.size) (yes:ev its[at_]=true) (no:∀ m (hm:m<its.size),m<at_->ev its[m]=false) (room:its.size<=sizeLine):Meets (Builtin.«list.remove» ⟨[.ref L,y],[]⟩)
   (λA R s=>s.heap.get? L=some { cls:=.type "list", dict:=none,data:=.seq its c,slots:=#[] }/\(∀ z,z∈its->SeqAt.EqAt A.in1 s z y (ev z))/\R (.ok (.ret .none)) { s with heap:=s.heap.update L (Obj.mapSeq λzs=>zs.eraseIdxIfInBounds at_) }):=by
 intro prog w A R s ⟨hl,he,h⟩
 obtain ⟨hp,g,d,tk,os⟩:=s
 wp_walk using wpAny_loadPart' hl
 refine ⟨plainId_quiet MeetsSeq.plain_remove_loop _,codeAny_builtin MeetsSeq.entry_remove_loop ?_⟩
 rw [Around.under_plainId MeetsSeq.plain_remove_loop _]
 exact Ze4 L its c y ev at_ ha yes room _ 0 rfl (Nat.zero_le _) (λm hm _ m2=>no m hm m2) prog w A R _ ⟨hl,he,h⟩
section
variable {X:Cx}
def ZlB (K:PySem.W.Frag):V->List V->Hp->VK->Prop:=λx vs H Q=>∃ l xs y d ds j,x=.ref l/\vs=[y]/\H l=some (.lst xs)/\DatV K H y d/\DatVs K H xs ds/\SeqAt.shaped d=true/\(∀ e∈ds,SeqAt.shaped e=true) /\
 j<xs.length/\(∀ e,ds[j]?=some e->PyData.eqv e d=true)/\(∀ m,m<j->∀ e,ds[m]?=some e->PyData.eqv e d=false)/\Q .non (upd H l (.lst (xs.eraseIdx j)))
theorem Zng (K:PySem.W.Frag) (hu:X.A.units+65<cLine) (hK:X.K=K:=by rfl):MtM X "list.remove" (ZlB K):=by
 subst hK
 intro pins s σ H x vs v us Q I rx rv h
 obtain ⟨l,xs,y,d,ds,j,rfl,rfl,hH,hd,hds,sd,sds,hj,yes,no,q⟩:=h
 cases rx
 obtain ⟨u,rfl,ru⟩:=rv.one
 obtain ⟨z,its,n,r,hl,e⟩:=I.lstM hH
 obtain ⟨as,ra⟩:=hd.reads I ru
 obtain ⟨bs,rb⟩:=hds.reads I r
 obtain ⟨k1,k2⟩:=Zi8 rb sds
 have hu1:X.A.in1.units+64<cLine:=by rw [Around.in1_units];omega
 have hlen:its.length=xs.length:=hl.symm
 have at_:∀ m (hm:m<its.length),ds[m]?=some (ZeZ s.heap its[m]):=λm hm=>by
  rw [<-k2,List.getElem?_map,List.getElem?_eq_getElem hm]
  rfl
 have room:its.toArray.size<=sizeLine:=by rw [List.size_toArray];omega
 refine call_meets PySem.F.slot_list_remove ⟨_,e,rfl⟩ PySem.F.entry_list_remove (PySem.F.args_list_remove_2 _ _) (Zgb l its.toArray n u (λw=>PyData.eqv (ZeZ s.heap w) d) j (by rw [List.size_toArray];omega) (yes _ (at_ j (by omega))) (λm hm hlt=>no m hlt _ (at_ m (by simpa using hm))) room) ⟨e,λw hw=>?_,?_⟩
 ·obtain ⟨as',r',s'⟩:=k1 w (by simpa using hw)
  exact PySem.W.keq_at r' ra s' sd hu1
 ·refine ⟨.non,_,I.lset (its':=its.eraseIdx j) hH e ?_ (r.eraseIdx j) ?_,rfl,q⟩
  ·show its.toArray.eraseIdxIfInBounds j=(its.eraseIdx j).toArray
   rw [List.eraseIdxIfInBounds_toArray]
  ·have:=Zc1 xs j
   omega
theorem Zev {α β:Type} (f:α->β):∀ (l:List α) (k:Nat),(l.map f).eraseIdx k=(l.eraseIdx k).map f
 | [],_=>rfl
 | _::_,0=>rfl
 | x::l,k+1=>by
  show f x::(l.map f).eraseIdx k=f x::(l.eraseIdx k).map f
  rw [Zev f l k]
theorem ZoV {K:PySem.W.Frag} {H:Hp} {l:Addr} {ns:List Int} {k:Int} {Q:VK} (hl:H l=some (.lst (ns.map V.int))) (hm:k∈ns) (q:Q .non (upd H l (.lst ((ns.erase k).map V.int)))):ZlB K (.ref l) [.int k] H Q:=by
 have hj:ns.idxOf k<ns.length:=List.idxOf_lt_length_iff.mpr hm
 have ee:∀ a b:Int,PyData.eqv (.int a) (.int b)=decide (a=b):=λa b=>by simp only [PyData.eqv];rfl
 refine ⟨l,_,.int k,.int k,ns.map PyData.int,ns.idxOf k,rfl,rfl,hl,.int k,ZbB ns,rfl,λe he=>?_,by rw [List.length_map];exact hj,λe he=>?_,λm hlt e he=>?_,?_⟩
 ·obtain ⟨z,_,rfl⟩:=List.mem_map.mp he
  rfl
 ·rw [List.getElem?_map,List.getElem?_eq_getElem hj] at he
  cases he
  rw [ee]
  exact decide_eq_true (List.getElem_idxOf hj)
 ·rw [List.getElem?_map,List.getElem?_eq_getElem (by omega)] at he
  cases he
  rw [ee]
  refine decide_eq_false λz=>?_
  have:=ne_of_lt_idxOf hlt (show m<ns.length by omega)
  rw [z] at this
  simp at this
 ·rw [List.erase_eq_eraseIdx_of_idxOf (i:=ns.idxOf k) rfl] at q
  rw [Zev]
  exact q
end
end L2
namespace L2
open PySem PySem.Spec PyProof.Rows
def ltP (x y:Int×Int):Bool:=decide (x.1<y.1) || (decide (x.1=y.1) && decide (x.2<y.2))
section
variable {prog:Program} {w:World} {A:Around} {E:Value->Shared->Prop} {s:Shared}
theorem lt_int {x y:Int} {t u:Tok} {Q:Value->Shared->Prop} (h:Q (.bool (decide (x<y))) s):wpAny (model prog w) A (richCompare .Lt (.int x t) (.int y u)) Q E s:=
 CmpOf.ints_lt (P:=λi v=>∃ t,v=.int (if i=0 then x else y) t) (λi=>if i=0 then x else y) (λ_ _ p=>p) 0 1 _ _ s Q E ⟨t,rfl⟩ ⟨u,rfl⟩ h
theorem Zj7 {a b:Addr} {x y:Int×Int} {t1 t2 u1 u2:Tok} {P:PySem.Fin->Shared->Prop} (ha:s.heap.IsTuple a #[.int x.1 t1,.int x.2 t2]) (hb:s.heap.IsTuple b #[.int y.1 u1,.int y.2 u2]) (h:P (.done (.ret (.bool (ltP x y)))) s) :
  wpAny (model prog w) A (Builtin.«tuple.__lt__» ⟨[.ref a,.ref b],[]⟩) P E s:=by
 obtain ⟨oa,ga,ca,na,da⟩:=ha
 obtain ⟨ob,gb,cb,nb,db⟩:=hb
 show wpAny _ _ (isInstance (.ref b) (.type "tuple") >>= _) _ _ s
 refine wpAny_bind (wpAny_isInstance (T := "tuple") ⟨ob,gb,cb⟩ isSubtype_tuple_tuple ?_)
 simp only [Bool.not_true,Bool.false_eq_true,if_false]
 refine wpAny_bind (wpAny_tupleItemsOf ga da (wpAny_bind (wpAny_tupleItemsOf gb db (wpAny_bind ?_))))
 show wpAny _ _ (forIn [(Value.int x.1 t1,Value.int y.1 u1),(Value.int x.2 t2,Value.int y.2 u2)] _ _) _ _ s
 rw [List.forIn_cons]
 refine wpAny_bind (wpAny_bind (wpAny_eqBool_int ?_))
 by_cases h1:x.1=y.1
 ·rw [show (x.1 == y.1)=true by rw [h1];exact beq_self_eq_true _]
  simp only [Bool.not_true,Bool.false_eq_true,if_false]
  refine wpAny_pure ?_
  show wpAny _ _ (forIn [(Value.int x.2 t2,Value.int y.2 u2)] _ _) _ _ s
  rw [List.forIn_cons]
  refine wpAny_bind (wpAny_bind (wpAny_eqBool_int ?_))
  by_cases h2:x.2=y.2
  ·rw [show (x.2 == y.2)=true by rw [h2];exact beq_self_eq_true _]
   simp only [Bool.not_true,Bool.false_eq_true,if_false]
   refine wpAny_pure ?_
   show wpAny _ _ (forIn [] _ _) _ _ s
   rw [List.forIn_nil]
   refine wpAny_pure (wpAny_pure ?_)
   have e:ltP x y=false:=by unfold ltP;rw [h1,h2];simp
   rw [e] at h
   exact h
  ·rw [show (x.2 == y.2)=false by rw [beq_eq_false_iff_ne];exact h2]
   simp only [Bool.not_false,if_true]
   refine wpAny_bind (wpAny_rule (wpAny_bind (lt_int ?_)))
   have e:ltP x y=decide (x.2<y.2):=by unfold ltP;rw [h1];simp
   rw [e] at h
   exact wpAny_bind (wpAny_pure (wpAny_pure (wpAny_pure (wpAny_pure h))))
 ·rw [show (x.1 == y.1)=false by rw [beq_eq_false_iff_ne];exact h1]
  simp only [Bool.not_false,if_true]
  refine wpAny_bind (wpAny_rule (wpAny_bind (lt_int ?_)))
  have e:ltP x y=decide (x.1<y.1):=by unfold ltP;rw [decide_eq_false h1];simp
  rw [e] at h
  exact wpAny_bind (wpAny_pure (wpAny_pure (wpAny_pure (wpAny_pure h))))
theorem Zj8 {a b:Addr} {x y:Int×Int} {t1 t2 u1 u2:Tok} {Q:Value->Shared->Prop} (ha:s.heap.IsTuple a #[.int x.1 t1,.int x.2 t2]) (hb:s.heap.IsTuple b #[.int y.1 u1,.int y.2 u2]) (hu:A.units<cLine) (h:Q (.bool (ltP x y)) s):wpAny (model prog w) A (richCompare .Lt (.ref a) (.ref b)) Q E s:=by
 have Ta:s.TypeIs (.ref a) "tuple" := ha.elim λo z=>⟨o,z.1,z.2.1⟩
 have Tb:s.TypeIs (.ref b) "tuple" := hb.elim λo z=>⟨o,z.1,z.2.1⟩
 exact wpAny_richCompare_same_room (op:=.Lt) Ta Tb F.slot_tuple_lt (wpAny_call_entry F.slot_tuple_lt Ta F.entry_tuple_lt (Zj7 ha hb ⟨_,rfl,(λe=>nomatch e),h⟩) (F.args_tuple_lt_2 _ _)) hu
end
def ZlC (prog:Program) (w:World) (A:Around) (op:CmpOp) (J:Heap->Prop) (P:Nat->Value->Prop) (bt:Nat->Nat->Bool):Prop:=
 ∀ (s:Shared) (i j:Nat) (vi vj:Value) (Q E:Value->Shared->Prop),J s.heap->P i vi->P j vj->Q (.bool (bt i j)) s->wpAny (model prog w) A (richCompare op vi vj) Q E s
section
variable {prog:Program} {w:World} {A:Around} {R:Result->Shared->Prop} {I:Addr} {fp wr:List Addr} {n:Nat} {P:Nat->Value->Prop} {St:Nat->Heap->Prop} {J:Heap->Prop} {kw:List (Str×Value)}
theorem Zg9 (W:Walks prog w A.in1 I fp wr n P St) (bt:Nat->Nat->Bool) (cmp:ZlC prog w A.in1 .Lt J P bt) (D:Addr) (hD:D ∉ fp) (keepJ:∀ h h':Heap,J h->(∀ b o,b ∉ wr->b≠D->h.get? b=some o->h'.get? b=some o)->J h') :
  ∀ (left m:Nat) (s:Shared) (best:Value) (c:Nat),n-(m+1)=left->m+1<=n->St (m+1) s.heap->J s.heap->P (argBest bt m) best ->
  s.heap.get? D=some { cls:=.type "list", dict:=none,data:=.seq #[best,best] c,slots:=#[] } ->
  (∀ v h' tk,P (argBest bt (n-1)) v->(∀ b o,b ∉ wr->b≠D->s.heap.get? b=some o->h'.get? b=some o)->R (.ok (.ret v)) { s with heap:=h',toks:=tk }) ->
  codeAny (model prog w) A (.builtin "min.loop" ⟨[.ref I,.none,.ref D],kw⟩) R s:=by
 have hDw:D ∉ wr:=λz=>hD (W.sub _ z)
 have nm:(toString "min" ++ toString ".loop" : String) = "min.loop" := by decide
 intro left
 induction left with
 | zero=>
  intro m s best c hl hm st j pb gD hR
  have en:m+1=n:=by omega
  refine codeAny_builtin F.entry_min_loop ?_;rw [Around.under_plainId F.plain_min_loop _]
  show wpAny _ A.in1 (seqItems? (.ref D) >>= _) _ _ s
  refine wpAny_bind (wpAny_seqItems gD rfl (show wpAny _ A.in1 (tryCatch (pyNext (.ref I)) _ >>= _) _ _ s from wpAny_bind (wpAny_tryCatch (W.done s _ _ (en▸st) λh' tk kept=>?_))))
  show wpAny _ A.in1 (updateSeq D (λ_=>#[]) >>= _) _ _ _
  refine wpAny_bind (wpAny_updateSeq (kept D _ hDw gD) rfl (wpAny_bind (wpAny_letGo (wpAny_pure (hR best _ tk (by rw [<-en];exact pb) λb o nw nD e=>?_)))))
  exact (Heap.get?_update_other _ _ (Ne.symm nD)).trans (kept b o nw e)
 | succ left ih=>
  intro m s best c hl hm st j pb gD hR
  refine codeAny_builtin F.entry_min_loop ?_;rw [Around.under_plainId F.plain_min_loop _]
  show wpAny _ A.in1 (seqItems? (.ref D) >>= _) _ _ s
  refine wpAny_bind (wpAny_seqItems gD rfl (show wpAny _ A.in1 (tryCatch (pyNext (.ref I)) _ >>= _) _ _ s from wpAny_bind (wpAny_tryCatch (W.item (m+1) s _ _ (by omega) st λv h' tk pv st' kept=>?_))))
  have gD':=kept D _ hDw gD
  have j':J h':=keepJ _ _ j λb o nw _ e=>kept b o nw e
  show wpAny _ A.in1 (tryCatch (holding [v,v] (richCompare .Lt v best >>= _)) _ >>= _) _ _ _
  refine wpAny_bind (wpAny_tryCatch (wpAny_holding (wpAny_bind (cmp _ (m+1) (argBest bt m) v best _ _ j' pv pb (wpAny_bind (wpAny_holding (wpAny_truthy_bool (wpAny_bind (wpAny_letGo (wpAny_pure ?_))))))))))
  cases hb:bt (m+1) (argBest bt m) with
  | true=>
   simp only [if_true]
   refine wpAny_bind (wpAny_updateSeq gD' rfl (wpAny_bind (wpAny_letGo ?_)));rw [nm]
   refine wpAny_pure ⟨plainId_quiet F.plain_min_loop _,ih (m+1) _ v _ (by omega) (by omega) (W.frame _ _ _ st' λb bf o e=>?_) (keepJ _ _ j' λb o _ nD e=>(Heap.get?_update_other _ _ (Ne.symm nD)).trans e) (by simp only [argBest,hb,if_true];exact pv) (Heap.get?_update_self _ gD' rfl) λv' h2 tk2 pv' k2=>?_⟩
   ·exact (Heap.get?_update_other _ _ (λz:D=b=>hD (by rw [z];exact bf))).trans e
   ·exact hR v' h2 tk2 pv' λb o nw nD e=>k2 b o nw nD ((Heap.get?_update_other _ _ (Ne.symm nD)).trans (kept b o nw e))
  | false=>
   simp only [Bool.false_eq_true,if_false]
   refine wpAny_bind (wpAny_letGo ?_);rw [nm]
   refine wpAny_pure ⟨plainId_quiet F.plain_min_loop _,ih (m+1) _ best c (by omega) (by omega) st' j' (by simp only [argBest,hb,Bool.false_eq_true,if_false];exact pb) gD' λv' h2 tk2 pv' k2=>?_⟩
   exact hR v' h2 tk2 pv' λb o nw nD e=>k2 b o nw nD (kept b o nw e)
theorem Zgc (W:Walks prog w A.in1 I fp wr n P St) (bt:Nat->Nat->Bool) (cmp:ZlC prog w A.in1 .Lt J P bt) (D:Addr) (hD:D ∉ fp) (keepJ:∀ h h':Heap,J h->(∀ b o,b ∉ wr->b≠D->h.get? b=some o->h'.get? b=some o)->J h') (hn:0<n) {s:Shared} {c:Nat} (st:St 0 s.heap) (j:J s.heap)
  (gD:s.heap.get? D=some { cls:=.type "list", dict:=none,data:=.seq #[] c,slots:=#[] })
  (hR:∀ v h' tk,P (argBest bt (n-1)) v->(∀ b o,b ∉ wr->b≠D->s.heap.get? b=some o->h'.get? b=some o)->R (.ok (.ret v)) { s with heap:=h',toks:=tk }) :
  codeAny (model prog w) A (.builtin "min.loop" ⟨[.ref I,.none,.ref D],kw⟩) R s:=by
 have hDw:D ∉ wr:=λz=>hD (W.sub _ z)
 have nm:(toString "min" ++ toString ".loop" : String) = "min.loop" := by decide
 refine codeAny_builtin F.entry_min_loop ?_;rw [Around.under_plainId F.plain_min_loop _]
 show wpAny _ A.in1 (seqItems? (.ref D) >>= _) _ _ s
 refine wpAny_bind (wpAny_seqItems gD rfl (show wpAny _ A.in1 (tryCatch (pyNext (.ref I)) _ >>= _) _ _ s from wpAny_bind (wpAny_tryCatch (W.item 0 s _ _ hn st λv h' tk pv st' kept=>?_))))
 have gD':=kept D _ hDw gD
 have j':J h':=keepJ _ _ j λb o nw _ e=>kept b o nw e
 show wpAny _ A.in1 (updateSeq D (λ_=>#[v,v]) >>= _) _ _ _
 refine wpAny_bind (wpAny_updateSeq gD' rfl ?_);rw [nm]
 refine wpAny_pure ⟨plainId_quiet F.plain_min_loop _,Zg9 W bt cmp D hD keepJ _ 0 _ v _ rfl hn (W.frame _ _ _ st' λb bf o e=>?_) (keepJ _ _ j' λb o _ nD e=>(Heap.get?_update_other _ _ (Ne.symm nD)).trans e) pv (Heap.get?_update_self _ gD' rfl) λv' h2 tk2 pv' k2=>?_⟩
 ·exact (Heap.get?_update_other _ _ (λz:D=b=>hD (by rw [z];exact bf))).trans e
 ·exact hR v' h2 tk2 pv' λb o nw nD e=>k2 b o nw nD ((Heap.get?_update_other _ _ (Ne.symm nD)).trans (kept b o nw e))
end
theorem ltP_iff {x y:Int×Int}:ltP x y=true↔x.1<y.1\/(x.1=y.1/\x.2<y.2):=by
 unfold ltP
 rw [Bool.or_eq_true,Bool.and_eq_true,decide_eq_true_iff,decide_eq_true_iff,decide_eq_true_iff]
theorem Zew (f:Nat->Int×Int):∀ k,argBest (λi j=>ltP (f i) (f j)) k<=k/\∀ j,j<=k->ltP (f j) (f (argBest (λi j=>ltP (f i) (f j)) k))=false
 | 0=>⟨Nat.le_refl _,λj hj=>by
  have:j=0:=by omega
  subst this
  rw [<-Bool.not_eq_true]
  intro z
  have:=ltP_iff.mp z
  have e:argBest (λi j=>ltP (f i) (f j)) 0=0:=rfl
  rw [e] at this
  omega⟩
 | k+1=>by
  obtain ⟨i1,i2⟩:=Zew f k
  have e:argBest (λi j=>ltP (f i) (f j)) (k+1)=if ltP (f (k+1)) (f (argBest (λi j=>ltP (f i) (f j)) k))=true then k+1 else argBest (λi j=>ltP (f i) (f j)) k:=rfl
  rw [e]
  generalize argBest (λi j=>ltP (f i) (f j)) k=g at i1 i2
  by_cases z:ltP (f (k+1)) (f g)=true
  ·rw [if_pos z]
   refine ⟨Nat.le_refl _,λj hj=>?_⟩
   rw [<-Bool.not_eq_true]
   intro y
   have z1:=ltP_iff.mp z
   have y1:=ltP_iff.mp y
   by_cases hk:j=k+1
   ·subst hk;omega
   ·have:=i2 j (by omega)
    rw [<-Bool.not_eq_true,ltP_iff] at this
    omega
  ·rw [if_neg z]
   refine ⟨by omega,λj hj=>?_⟩
   by_cases hk:j=k+1
   ·rw [hk];exact Bool.eq_false_iff.mpr z
   ·exact i2 j (by omega)
section
variable {X:Cx}
def ZfD (xs:List V) (rs:List (Int×Int)) (t:Addr) (r:Int×Int):Prop:=(∃ i:Nat,xs[i]?=some (.ref t)/\rs[i]?=some r)/\∀ r'∈rs,ltP r' r=false
def Znh (K:PySem.W.Frag):List V->Hp->VK->Prop:=λvs H Q=>∃ (p:Addr) (xs:List V) (rs:List (Int×Int)),vs=[.ref p]/\SqL K H p xs/\Prs H xs rs/\rs≠[]/\∀ t r,ZfD xs rs t r->Q (.ref t) H
theorem Zim {pins:List (Addr×Obj)} {s:Shared} {σ:St} {H:Hp} {Q:VK} {p:Addr} {xs:List V} {rs:List (Int×Int)} {its:List Value} {kw:List (Str×Value)} (hc:X.calm=true) (hu:X.A.units+1<cLine) (I:Inv X pins σ H s) (r:Vals xs its) (pl:PlainL s.heap p its.toArray) (pr:Prs H xs rs) (hne:rs≠[]) (q:∀ t r,ZfD xs rs t r->Q (.ref t) H)
  {R:Result->Shared->Prop} (hR:∀ v s',EP X pins σ Q v s'->R (.ok (.ret v)) s'):∀ c:Nat,
  codeAny (model X.prog X.w) X.A (.builtin "min.loop" ⟨[.ref s.heap.objs.size,.none,.ref (s.heap.objs.size+1)],kw⟩) R { s with heap:=(s.heap.push { cls:=.type "list_iterator", data:=.fields #[.ref p,.int 0 0] }).push { cls:=.type "list", dict:=none,data:=.seq #[] c,slots:=#[] } }:=by
 intro c
 have hl:=r.length
 have hx:=pr.len
 have hpos:0<rs.length:=List.length_pos_iff.mpr hne
 have hh:X.A.in1.handled=none:=I.ok.hd hc
 obtain ⟨o,eo,_⟩:=id pl.isList
 have hlt:p<s.heap.objs.size:=Heap.lt_size eo
 have e1:(s.heap.push { cls:=.type "list_iterator", data:=.fields #[.ref p,.int 0 0] }).objs.size=s.heap.objs.size+1:=Heap.size_push ..
 have at_:∀ i v,its[i]?=some v->∃ t u1 u2,v=.ref t/\xs[i]?=some (.ref t)/\rs[i]?=some (rs.getD i (0,0))/\s.heap.IsTuple t #[.int (rs.getD i (0,0)).1 u1,.int (rs.getD i (0,0)).2 u2]:=λi v hv=>by
  have hi:i<its.length:=(List.getElem?_eq_some_iff.mp hv).1
  have hxi:xs[i]?=some xs[i]:=List.getElem?_eq_getElem (by omega)
  obtain ⟨t,q',et,eh,er⟩:=pr.get hxi
  obtain ⟨u,gu,ru⟩:=r.get hxi
  rw [gu] at hv
  cases hv
  rw [et] at ru
  cases ru
  have eg:rs.getD i (0,0)=q':=by rw [List.getD_eq_getElem?_getD,er];rfl
  obtain ⟨its2,r2,pl2,_⟩:=I.tuple (SqT.of eh)
  cases r2 with
  | cons a1 r3=>
   cases r3 with
   | cons a2 r4=>
    cases r4
    obtain ⟨u1,rfl⟩:=a1
    obtain ⟨u2,rfl⟩:=a2
    exact ⟨t,u1,u2,rfl,by rw [hxi,et],by rw [eg];exact er,by rw [eg];exact pl2⟩
 have kept0:∀ b o,s.heap.get? b=some o->((s.heap.push { cls:=.type "list_iterator", data:=.fields #[.ref p,.int 0 0] }).push { cls:=.type "list", dict:=none,data:=.seq #[] c,slots:=#[] }).get? b=some o:=λb o e=>Heap.get?_push_of_some _ (Heap.get?_push_of_some _ e)
 have W:=Walks.list (prog:=X.prog) (w:=X.w) hh s.heap.objs.size p (Nat.ne_of_lt hlt) its.toArray
 have hsz:its.toArray.size=rs.length:=by rw [List.size_toArray];omega
 refine Zgc (J:=λh=>∀ i t u1 u2,its[i]?=some (.ref t)->s.heap.IsTuple t #[.int (rs.getD i (0,0)).1 u1,.int (rs.getD i (0,0)).2 u2]->h.IsTuple t #[.int (rs.getD i (0,0)).1 u1,.int (rs.getD i (0,0)).2 u2]) W (λi j=>ltP (rs.getD i (0,0)) (rs.getD j (0,0))) ?cmp (s.heap.objs.size+1) ?hD ?kJ (by rw [hsz];exact hpos) ?st ?j (by rw [<-e1];exact Heap.get?_push_size _ rfl) ?fin
 case cmp=>
  intro s' i j vi vj Q' E' hJ hi hj hq
  obtain ⟨a,u1,u2,rfl,_,_,ha⟩:=at_ i vi (by simpa using hi)
  obtain ⟨b,w1,w2,rfl,_,_,hb⟩:=at_ j vj (by simpa using hj)
  exact Zj8 (hJ i a u1 u2 (by simpa using hi) ha) (hJ j b w1 w2 (by simpa using hj) hb) (by rw [Around.in1_units];exact hu) hq
 case hD=>
  intro z
  have:s.heap.objs.size+1=s.heap.objs.size\/s.heap.objs.size+1=p:=by simpa using z
  rcases this with e | e
  ·exact absurd e (Nat.succ_ne_self _)
  ·exact absurd hlt (by rw [<-e];exact Nat.not_lt.mpr (Nat.le_succ _))
 case kJ=>
  intro h h' hJ kp i t u1 u2 hi hT
  obtain ⟨o',g',rest⟩:=hJ i t u1 u2 hi hT
  obtain ⟨o0,g0,_⟩:=hT
  have ht:t<s.heap.objs.size:=Heap.lt_size g0
  refine ⟨o',kp t o' (λz=>?_) (Nat.ne_of_lt (Nat.lt_succ_of_lt ht)) g',rest⟩
  have:t=s.heap.objs.size:=by simpa using z
  exact absurd ht (by rw [this];exact Nat.lt_irrefl _)
 case st=>
  refine ⟨⟨_,Heap.get?_push_of_some _ (Heap.get?_push_size _ rfl),rfl,rfl⟩,pl.isList.at λo e=>kept0 _ _ e⟩
 case j=>
  intro i t u1 u2 hi hT
  obtain ⟨o0,g0,rest⟩:=hT
  exact ⟨o0,kept0 _ _ g0,rest⟩
 case fin=>
  intro v h' tk hv hk
  obtain ⟨b1,b2⟩:=Zew (λi=>rs.getD i (0,0)) (its.toArray.size-1)
  generalize argBest (λi j=>ltP (rs.getD i (0,0)) (rs.getD j (0,0))) (its.toArray.size-1)=g at hv b1 b2
  obtain ⟨t,u1,u2,rfl,ex,er,_⟩:=at_ g v (by simpa using hv)
  refine hR _ _ ⟨.ref t,H,I.kept λb o e'=>hk b o ?_ ?_ (kept0 b o e'),rfl,q t _ ⟨⟨g,ex,er⟩,λr' hr'=>?_⟩⟩
  ·intro z
   have:b=s.heap.objs.size:=by simpa using z
   exact absurd (Heap.lt_size e') (by rw [this];exact Nat.lt_irrefl _)
  ·exact Nat.ne_of_lt (Nat.lt_succ_of_lt (Heap.lt_size e'))
  ·obtain ⟨j,hj,rfl⟩:=List.getElem_of_mem hr'
   have:=b2 j (by omega)
   rw [List.getD_eq_getElem?_getD,List.getElem?_eq_getElem hj] at this
   exact this
theorem ZlD (K:PySem.W.Frag) (hc:X.calm=true) (hu:X.A.units+1<cLine) (h:X.K=K:=by rfl):ZbW X (.builtin "min") (Znh K):=by
 subst h
 intro pins s σ H xs us Q I rv h
 obtain ⟨p,xs,rs,rfl,hq,pr,hne,q⟩:=h
 obtain ⟨u,rfl,ru⟩:=rv.one
 cases ru
 obtain ⟨its,r,pl,hz⟩:=I.list hq
 have nm:(toString "min" ++ toString ".loop" : String) = "min.loop" := by decide
 refine call_function_tree F.kind_min F.plain_min F.entry_min (F.args_min1 _) ?_
 refine wpAny_bind (wpAny_of_eq (show Builtin.Builtins.bindParams "min" ["key", "default"] 0 ⟨[],[]⟩=pure [none,none] from rfl) (wpAny_bind (wpAny_pure (wpAny_bind (wpAny_pyIter_list pl.isList (wpAny_bind (wpAny_newObj_type ?_)))))))
 rw [nm]
 have e1:(s.heap.push { cls:=.type "list_iterator", data:=.fields #[.ref p,.int 0 0] }).objs.size=s.heap.objs.size+1:=Heap.size_push ..
 refine wpAny_pure ⟨plainId_quiet F.plain_min_loop _,?_⟩
 show codeAny _ _ (.builtin "min.loop" ⟨[.ref s.heap.objs.size,.none,.ref (s.heap.push { cls:=.type "list_iterator", data:=.fields #[.ref p,.int 0 0] }).objs.size],[]⟩) _ _
 rw [e1]
 exact Zim hc hu I r pl pr hne q (λv s' h=>h) 0
def Zn4 (X:Cx) (f:Value) (ks:List Str) (r:List V->List V->Hp->VK->Prop):Prop:=∀ (pins:List (Addr×Obj)) (s:Shared) (σ:St) (H:Hp) (xs:List V) (us:List Value) (zs:List V) (ws:List Value) (Q:VK),Inv X pins σ H s->Vals xs us->Vals zs ws->r xs zs H Q->wpAny (model X.prog X.w) X.A (call f us (ks.zip ws)) (EP X pins σ Q) X.xe s
def Zps (r:List V->List V->Hp->VK->Prop) (t tk:TA):TE:=λσ H Q=>t σ H λvs H1=>tk σ H1 λzs H2=>r vs zs H2 Q
theorem Zni (K:PySem.W.Frag) (hc:X.calm=true) (h:X.K=K:=by rfl):ZbW X (.builtin "min") (λxs H Q=>∃ (p:Addr) (ns:List Int),xs=[.ref p]/\SqT K H p (ns.map V.int)/\ns≠[]/\∀ m,m∈ns->(∀ n∈ns,m<=n)->Q (.int m) H):=by
 subst h
 intro pins s σ H xs us Q I rv h
 obtain ⟨p,ns,rfl,hq,hne,q⟩:=h
 obtain ⟨u,rfl,ru⟩:=rv.one
 cases ru
 obtain ⟨its,r,pl,hz⟩:=I.tuple hq
 have hh:X.A.in1.handled=none:=I.ok.hd hc
 have hl:=r.length
 rw [List.length_map] at hl
 have hpos:0<ns.length:=List.length_pos_iff.mpr hne
 obtain ⟨o,eo,_⟩:=id pl
 have hlt:p<s.heap.objs.size:=Heap.lt_size eo
 have hval:∀ (i:Nat) (v:Value),its.toArray[i]?=some v->∃ t,v=Value.int (ns.getD i 0) t:=λi v hv=>by
  have hv':its[i]?=some v:=by simpa using hv
  have hi:i<its.length:=(List.getElem?_eq_some_iff.mp hv').1
  have ex:(ns.map V.int)[i]?=some (.int (ns[i]'(by omega))):=by rw [List.getElem?_map,List.getElem?_eq_getElem (by omega)];rfl
  obtain ⟨u,gu,ru⟩:=r.get ex
  rw [gu] at hv'
  cases hv'
  obtain ⟨t,rfl⟩:=ru
  exact ⟨t,by rw [List.getD_eq_getElem?_getD,List.getElem?_eq_getElem (by omega)];rfl⟩
 refine call_min_walk (wpAny_pyIter_tuple pl ?_)
 refine ⟨s.heap.objs.size,_,_,_,_,_,_,rfl,Walks.tuple hh s.heap.objs.size p (Nat.ne_of_lt hlt) its.toArray,⟨⟨_,Heap.get?_push_size _ rfl,rfl,rfl⟩,pl.elim λo z=>⟨o,Heap.get?_push_of_some _ z.1,z.2⟩⟩,?_,by rw [List.size_toArray];omega,CmpOf.ints_lt (λi=>ns.getD i 0) hval,λv h' tk hv hk=>?_⟩
 ·intro b hb
  have e:b=s.heap.objs.size\/b=p:=by simpa using hb
  have hsz:(s.heap.push { cls:=.type "tuple_iterator", data:=.fields #[.ref p,.int 0 0] }).objs.size=s.heap.objs.size+1:=Heap.size_push ..
  show b<(s.heap.push { cls:=.type "tuple_iterator", data:=.fields #[.ref p,.int 0 0] }).objs.size
  rw [hsz]
  rcases e with e | e
  ·rw [e];exact Nat.lt_succ_self _
  ·rw [e];exact Nat.lt_succ_of_lt hlt
 ·obtain ⟨t,rfl⟩:=hval _ v hv
  have hA:=argBest_lt (λi=>ns.getD i 0) (its.toArray.size-1)
  have hsz:its.toArray.size=ns.length:=by rw [List.size_toArray];exact hl.symm
  generalize hg:argBest (λi j=>decide (ns.getD i 0<ns.getD j 0)) (its.toArray.size-1)=g at hA ⊢
  have hg1:g<ns.length:=by omega
  have eg:ns.getD g 0=ns[g]:=by rw [List.getD_eq_getElem?_getD,List.getElem?_eq_getElem hg1];rfl
  refine ⟨.int (ns.getD g 0),H,I.kept λb o e'=>hk b o ?_ (Heap.get?_push_of_some _ e'),⟨t,rfl⟩,q _ (by rw [eg];exact List.getElem_mem hg1) λn hn=>?_⟩
  ·intro z
   have:b=s.heap.objs.size:=by simpa using z
   exact absurd (Heap.lt_size e') (by rw [this];exact Nat.lt_irrefl _)
  ·obtain ⟨j,hj,rfl⟩:=List.getElem_of_mem hn
   have:=hA.2 j (by omega)
   have ej:ns.getD j 0=ns[j]:=by rw [List.getD_eq_getElem?_getD,List.getElem?_eq_getElem hj];rfl
   rw [<-ej]
   exact this
end
section
variable {X:Cx} {k:Nat} {f:Addr} {fd:FuncData} {ps:List Str} {sp:Sp} {dvs:List V} {ds:List Value} {fx:Str} {fp cpos bpos np:Pos} {e:Expr} {es:List Expr} {t:TA}
end
end L2
namespace L2
open PySem PySem.Spec PyProof.Rows
section
variable {X:Cx} {k:Nat} {f:Addr} {fd:FuncData} {ps:List Str} {sp:Sp} {dvs:List V} {ds:List Value} {fx:Str} {fp cpos bpos np hpos pos:Pos} {e:Expr} {es:List Expr} {t:TA}
def Znj (K:PySem.W.Frag) (W:Addr) (ts:TS) (D:Ends) (σ:St):XK:=λcls _ H2=>∃ C,cls=.ref C/\PySem.W.kitCls K (.ref C) (.ref W)=some true/\∀ a,H2 a=none->ts D σ (upd H2 a (Zi6 a C))
end
end L2
namespace L2
open PySem PySem.Spec PyProof.Rows
def ZbC:Bool->Keyed->Array Keyed->Nat->Nat->Nat->StateT SortSt Sem (Option Nat):=sortPriv% PySem.Builtin.gallop
def ZdN:Array Keyed->Array Keyed->StateT SortSt Sem (Array Keyed):=sortPriv% PySem.Builtin.mergeLo
def ZdO:Array Keyed->Array Keyed->StateT SortSt Sem (Array Keyed):=sortPriv% PySem.Builtin.mergeHi
def Zc6:Nat->StateT SortSt Sem Unit:=sortPriv% PySem.Builtin.setMinGallop
def ZcC (left:Bool) (key:Keyed) (arr:Array Keyed) (base i:Nat):StateT SortSt Sem (Option Bool):=do
 let x <- elem' arr (base+i)
 if left then lt' x key else return (<- lt' key x).map (!·)
def Zcj (left:Bool) (key:Keyed) (arr:Array Keyed) (base n lo hi:Nat):StateT SortSt Sem (Option Nat):=do
 let mut lo:=lo
 let mut hi:=hi
 for _ in [:n] do
  if lo>=hi then break
  let m:=lo+(hi-lo) / 2
  let some more <- ZcC left key arr base m | return none
  if more then lo:=m+1
  else hi:=m
 return some hi
def ZdP (left:Bool) (key:Keyed) (arr:Array Keyed) (base n hint:Nat):StateT SortSt Sem (Option Nat):=do
 let mut lastofs:=0
 let mut ofs:=1
 let maxofs:=n-hint
 for _ in [:n] do
  if ofs>=maxofs then break
  let some more <- ZcC left key arr base (hint+ofs) | return none
  if !more then break
  lastofs:=ofs
  ofs:=2 * ofs+1
 Zcj left key arr base n (hint+lastofs+1) (hint+min ofs maxofs)
def ZcD (left:Bool) (key:Keyed) (arr:Array Keyed) (base n hint:Nat):StateT SortSt Sem (Option Nat):=do
 let mut lastofs:=0
 let mut ofs:=1
 let maxofs:=hint+1
 for _ in [:n] do
  if ofs>=maxofs then break
  let some found <- ZcC left key arr base (hint-ofs) | return none
  if found then break
  lastofs:=ofs
  ofs:=2 * ofs+1
 Zcj left key arr base n (hint+1-min ofs maxofs) (hint-lastofs)
theorem Zgd (left:Bool) (key:Keyed) (arr:Array Keyed) (base n hint:Nat):ZbC left key arr base n hint=(do
  let some right <- ZcC left key arr base hint | return none
  if right then ZdP left key arr base n hint else ZcD left key arr base n hint):=rfl
section
variable {M:Model} {A:Around} {E:Value->Shared->Prop} {s:Shared} {kd:SortKind} {b:Keyed->Keyed->Bool} {good:Keyed->Prop}
structure WO (b:Keyed->Keyed->Bool):Prop where
 irr:∀ x,b x x=false
 tr:∀ x y z,b x y=true->b y z=true->b x z=true
 neg:∀ x y z,b x z=true->b x y=true\/b y z=true
def ZcK (M:Model) (A:Around) (E:Value->Shared->Prop) (s:Shared) (kd:SortKind) (b:Keyed->Keyed->Bool) (good:Keyed->Prop):Prop:=
 ∀ (x y:Keyed) (st:SortSt) (Q:Option Bool->SortSt->Prop),good x->good y->kindOf st=kd->Q (some (b x y)) st->wpS M A E s (lt' x y) Q st
theorem Zaz {arr:Array Keyed} {i:Nat} {x:Keyed} {st:SortSt} {Q:Keyed->SortSt->Prop} (h:arr[i]?=some x) (q:Q x st):wpS M A E s (elem' arr i) Q st:=by
 rw [elem'_eq,h]
 exact wpS_pure q
def byd (b:Keyed->Keyed->Bool) (left:Bool) (key:Keyed) (arr:Array Keyed) (base i:Nat):Bool:=match arr[base+i]? with
 | some x=>if left then b x key else !b key x
 | none=>false
theorem ZbQ {left:Bool} {key:Keyed} {arr:Array Keyed} {base i:Nat} {x:Keyed} {st:SortSt} {Q:Option Bool->SortSt->Prop} (L:ZcK M A E s kd b good) (hk:good key) (hx:arr[base+i]?=some x) (gx:good x) (hs:kindOf st=kd)
  (q:Q (some (byd b left key arr base i)) st):wpS M A E s (ZcC left key arr base i) Q st:=by
 unfold ZcC
 refine wpS_bind (Zaz hx ?_)
 unfold byd at q
 rw [hx] at q
 cases left with
 | true=>exact L x key st Q gx hk hs q
 | false=>exact wpS_bind (L key x st _ hk gx hs (wpS_pure q))
section
variable {left:Bool} {key:Keyed} {arr:Array Keyed} {base n hint:Nat} {st:SortSt} {Q:Option Nat->SortSt->Prop}
structure Gal (b:Keyed->Keyed->Bool) (good:Keyed->Prop) (left:Bool) (key:Keyed) (arr:Array Keyed) (base n:Nat):Prop where
 gk:good key
 it:∀ i,i<n->∃ x,arr[base+i]?=some x/\good x
 mono:∀ i j,i<=j->j<n->byd b left key arr base j=true->byd b left key arr base i=true
theorem ZaS {lo hi:Nat} (L:ZcK M A E s kd b good) (G:Gal b good left key arr base n) (hs:kindOf st=kd) (h1:lo<=hi) (h2:hi<=n) (h3:∀ i,i<lo->byd b left key arr base i=true) (h4:∀ i,hi<=i->i<n->byd b left key arr base i=false)
  (q:∀ k,k<=n->(∀ i,i<k->byd b left key arr base i=true)->(∀ i,k<=i->i<n->byd b left key arr base i=false)->Q (some k) st):wpS M A E s (Zcj left key arr base n lo hi) Q st:=by
 unfold Zcj
 refine wpS_bind (wpS_forRange (λk c st'=>st'=st/\∃ lo hi,c=(none,lo,hi)/\lo<=hi/\hi<=n/\hi-lo<=n-k/\(∀ i,i<lo->byd b left key arr base i=true)/\(∀ i,hi<=i->i<n->byd b left key arr base i=false)) ?_ ?_ ⟨rfl,lo,hi,rfl,h1,h2,by omega,h3,h4⟩)
 ·rintro k c st' _ hk ⟨rfl,lo,hi,rfl,h1,h2,h5,h3,h4⟩
  dsimp only
  split
  ·rename_i h6
   have:lo=hi:=by omega
   subst this
   refine wpS_pure ?_
   dsimp only
   exact wpS_pure (q lo h2 h3 h4)
  ·rename_i h6
   obtain ⟨x,hx,gx⟩:=G.it (lo+(hi-lo) / 2) (by omega)
   refine wpS_bind (ZbQ L G.gk hx gx hs ?_)
   dsimp only
   cases hb:byd b left key arr base (lo+(hi-lo) / 2) with
   | true=>
    refine wpS_pure ⟨rfl,_,_,rfl,by omega,h2,by omega,λi hi'=>G.mono i (lo+(hi-lo) / 2) (by omega) (by omega) hb,h4⟩
   | false=>
    refine wpS_pure ⟨rfl,_,_,rfl,by omega,by omega,by omega,h3,λi h8 h9=>?_⟩
    cases hc:byd b left key arr base i with
    | false=>rfl
    | true=>rw [G.mono _ i h8 h9 hc] at hb;cases hb
 ·rintro c st' ⟨rfl,lo,hi,rfl,h1,h2,h5,h3,h4⟩
  have:lo=hi:=by simp at h5;omega
  subst this
  exact wpS_pure (q lo h2 h3 h4)
theorem Zbb (L:ZcK M A E s kd b good) (G:Gal b good left key arr base n) (hs:kindOf st=kd) (hn:hint<n)
  (q:∀ k,k<=n->(∀ i,i<k->byd b left key arr base i=true)->(∀ i,k<=i->i<n->byd b left key arr base i=false)->Q (some k) st):wpS M A E s (ZbC left key arr base n hint) Q st:=by
 rw [Zgd]
 obtain ⟨x,hx,gx⟩:=G.it hint hn
 have anti:∀ i j,byd b left key arr base i=false->i<=j->j<n->byd b left key arr base j=false:=λi j h1 h2 h3=>by
  cases hc:byd b left key arr base j with
  | false=>rfl
  | true=>rw [G.mono _ j h2 h3 hc] at h1;cases h1
 refine wpS_bind (ZbQ L G.gk hx gx hs ?_)
 cases hb:byd b left key arr base hint with
 | true=>
  show wpS M A E s (ZdP left key arr base n hint) Q st
  unfold ZdP
  refine wpS_bind (wpS_forRange (λk c st'=>st'=st/\∃ last ofs,c=(none,last,ofs)/\last<ofs/\k+1<=ofs/\hint+last<n/\byd b left key arr base (hint+last)=true) ?_ ?_ ⟨rfl,0,1,rfl,by omega,by omega,hn,hb⟩)
  ·rintro k c st' _ hk ⟨rfl,last,ofs,rfl,h1,h2,h3,h4⟩
   dsimp only
   split
   ·rename_i h5
    refine wpS_pure ?_
    dsimp only
    rw [Nat.min_eq_right h5]
    exact ZaS L G hs (by omega) (by omega) (λi hi=>G.mono i _ (show i<=hint+last by omega) h3 h4) (λi h6 h7=>by omega) q
   ·rename_i h5
    obtain ⟨y,hy,gy⟩:=G.it (hint+ofs) (by omega)
    refine wpS_bind (ZbQ L G.gk hy gy hs ?_)
    dsimp only
    cases hb2:byd b left key arr base (hint+ofs) with
    | true=>exact wpS_pure ⟨rfl,_,_,rfl,by omega,by omega,by omega,hb2⟩
    | false=>
     refine wpS_pure ?_
     dsimp only
     rw [Nat.min_eq_left (by omega)]
     exact ZaS L G hs (by omega) (by omega) (λi hi=>G.mono i _ (show i<=hint+last by omega) h3 h4) (λi h6 h7=>anti _ i hb2 h6 h7) q
  ·rintro c st' ⟨rfl,last,ofs,rfl,h1,h2,h3,h4⟩
   dsimp only
   have h5:n-hint<=ofs:=by simp at h2;omega
   rw [Nat.min_eq_right h5]
   exact ZaS L G hs (by omega) (by omega) (λi hi=>G.mono i _ (show i<=hint+last by omega) h3 h4) (λi h6 h7=>by omega) q
 | false=>
  show wpS M A E s (ZcD left key arr base n hint) Q st
  unfold ZcD
  refine wpS_bind (wpS_forRange (λk c st'=>st'=st/\∃ last ofs,c=(none,last,ofs)/\last<ofs/\k+1<=ofs/\last<=hint/\byd b left key arr base (hint-last)=false) ?_ ?_ ⟨rfl,0,1,rfl,by omega,by omega,by omega,hb⟩)
  ·rintro k c st' _ hk ⟨rfl,last,ofs,rfl,h1,h2,h3,h4⟩
   dsimp only
   split
   ·rename_i h5
    refine wpS_pure ?_
    dsimp only
    rw [Nat.min_eq_right h5]
    exact ZaS L G hs (by omega) (by omega) (λi hi=>by omega) (λi h6 h7=>anti _ i h4 h6 h7) q
   ·rename_i h5
    obtain ⟨y,hy,gy⟩:=G.it (hint-ofs) (by omega)
    refine wpS_bind (ZbQ L G.gk hy gy hs ?_)
    dsimp only
    cases hb2:byd b left key arr base (hint-ofs) with
    | false=>exact wpS_pure ⟨rfl,_,_,rfl,by omega,by omega,by omega,hb2⟩
    | true=>
     refine wpS_pure ?_
     dsimp only
     rw [Nat.min_eq_left (by omega)]
     exact ZaS L G hs (by omega) (by omega) (λi hi=>G.mono i (hint-ofs) (by omega) (by omega) hb2) (λi h6 h7=>anti _ i h4 h6 h7) q
  ·rintro c st' ⟨rfl,last,ofs,rfl,h1,h2,h3,h4⟩
   dsimp only
   have h5:hint+1<=ofs:=by simp at h2;omega
   rw [Nat.min_eq_right h5]
   exact ZaS L G hs (by omega) (by omega) (λi hi=>by omega) (λi h6 h7=>anti _ i h4 h6 h7) q
end
end
end L2
namespace L2
open PySem PySem.Spec PyProof.Rows
abbrev MLs:=Option (Array Keyed)×Array Keyed×Nat×Nat×Nat×Nat
abbrev MLt:=Option (Array Keyed)×Array Keyed×Nat×Nat×Nat×Nat×Nat
def Zb0 (a b out:Array Keyed) (ia ib:Nat):Array Keyed:=out++a.extract ia++b.extract ib
def Zdv (a b out:Array Keyed) (ia ib:Nat):Array Keyed:=out++b.extract ib++a.extract ia
def Zin (a b:Array Keyed) (mg:Nat):Nat->MLs->StateT SortSt Sem (ForInStep MLs):=λ_ r=>
 let out:=r.2.1;let ia:=r.2.2.1;let ib:=r.2.2.2.1;let acount:=r.2.2.2.2.1;let bcount:=r.2.2.2.2.2
 do
 let x <- elem' b ib
 let y <- elem' a ia
 match <- lt' x y with
 | some bWins=>
  if bWins=true then do
   let z <- elem' b ib
   let out:=out.push z
   let ib:=ib+1
   let bcount:=bcount+1
   let acount:=0
   if (ib == b.size)=true then pure (.done (some (Zb0 a b out ia ib),out,ia,ib,acount,bcount))
   else if bcount>=mg then pure (.done (none,out,ia,ib,acount,bcount))
   else pure (.yield (none,out,ia,ib,acount,bcount))
  else do
   let z <- elem' a ia
   let out:=out.push z
   let ia:=ia+1
   let acount:=acount+1
   let bcount:=0
   if (ia+1 == a.size)=true then pure (.done (some (Zdv a b out ia ib),out,ia,ib,acount,bcount))
   else if acount>=mg then pure (.done (none,out,ia,ib,acount,bcount))
   else pure (.yield (none,out,ia,ib,acount,bcount))
 | _=>pure (.done (some (Zb0 a b out ia ib),out,ia,ib,acount,bcount))
def mlD (a b:Array Keyed) (minGallop acount k:Nat) (out:Array Keyed) (ia ib:Nat):StateT SortSt Sem (ForInStep MLt):=do
 let bcount:=k
 let z <- elem' a ia
 let out:=out.push z
 let ia:=ia+1
 if (ia+1 == a.size)=true then pure (.done (some (Zdv a b out ia ib),out,ia,ib,minGallop,acount,bcount))
 else if (decide (acount<7) && decide (bcount<7))=true then pure (.done (none,out,ia,ib,minGallop,acount,bcount))
 else pure (.yield (none,out,ia,ib,minGallop,acount,bcount))
def mlC (a b:Array Keyed) (minGallop acount bcount:Nat) (out:Array Keyed) (ia ib:Nat):StateT SortSt Sem (ForInStep MLt):=do
 let z <- elem' b ib
 let out:=out.push z
 let ib:=ib+1
 if (ib == b.size)=true then pure (.done (some (Zb0 a b out ia ib),out,ia,ib,minGallop,acount,bcount))
 else do
  let y <- elem' a ia
  match <- ZbC true y b ib (b.size-ib) 0 with
  | some k=>
   let bcount:=k
   if k > 0 then
    let out:=out++b.extract ib (ib+k)
    let ib:=ib+k
    if (ib == b.size)=true then pure (.done (some (Zb0 a b out ia ib),out,ia,ib,minGallop,acount,bcount))
    else mlD a b minGallop acount k out ia ib
   else mlD a b minGallop acount k out ia ib
  | _=>pure (.done (some (Zb0 a b out ia ib),out,ia,ib,minGallop,acount,bcount))
def mlB (a b:Array Keyed) (minGallop acount bcount:Nat) (out:Array Keyed) (ia ib:Nat):StateT SortSt Sem (ForInStep MLt):=do
 Zc6 minGallop
 let x <- elem' b ib
 match <- ZbC false x a ia (a.size-ia) 0 with
 | some k=>
  let acount:=k
  if k > 0 then
   let out:=out++a.extract ia (ia+k)
   let ia:=ia+k
   if (ia+1 == a.size)=true then pure (.done (some (Zdv a b out ia ib),out,ia,ib,minGallop,acount,bcount))
   else if (ia == a.size)=true then pure (.done (some (Zb0 a b out ia ib),out,ia,ib,minGallop,acount,bcount))
   else mlC a b minGallop acount bcount out ia ib
  else mlC a b minGallop acount bcount out ia ib
 | _=>pure (.done (some (Zb0 a b out ia ib),out,ia,ib,minGallop,acount,bcount))
def Zio (a b:Array Keyed):Nat->MLt->StateT SortSt Sem (ForInStep MLt):=λ_ r=>
 let out:=r.2.1;let ia:=r.2.2.1;let ib:=r.2.2.2.1;let minGallop:=r.2.2.2.2.1;let acount:=r.2.2.2.2.2.1;let bcount:=r.2.2.2.2.2.2
 if minGallop > 1 then mlB a b (minGallop-1) acount bcount out ia ib else mlB a b minGallop acount bcount out ia ib
abbrev MLo:=Option (Array Keyed)×Array Keyed×Nat×Nat×Nat
def Zip (a b:Array Keyed):Nat->MLo->StateT SortSt Sem (ForInStep MLo):=λ_ r=>
 let out:=r.2.1;let ia:=r.2.2.1;let ib:=r.2.2.2.1;let minGallop:=r.2.2.2.2
 do
 let r <- forIn [:a.size+b.size] ((none,out,ia,ib,0,0):MLs) (Zin a b minGallop)
 match r.1 with
 | some x=>pure (.done (some x,r.2.1,r.2.2.1,r.2.2.2.1,minGallop))
 | none=>do
  liftM (rule "list.sort.gallop")
  let r <- forIn [:a.size+b.size] ((none,r.2.1,r.2.2.1,r.2.2.2.1,minGallop+1,r.2.2.2.2.1,r.2.2.2.2.2):MLt) (Zio a b)
  match r.1 with
  | some x=>pure (.done (some x,r.2.1,r.2.2.1,r.2.2.2.1,r.2.2.2.2.1))
  | none=>do
   Zc6 (r.2.2.2.2.1+1)
   pure (.yield (none,r.2.1,r.2.2.1,r.2.2.2.1,r.2.2.2.2.1+1))
theorem Za0 {α β:Type} {m:StateT SortSt Sem α} {f g:α->StateT SortSt Sem β} (h:∀ x,f x=g x):m >>= f=m >>= g:=by rw [funext h]
theorem ZdQ {α:Type} {c:Prop} [Decidable c] {x y u v:α} (h1:x=y) (h2:u=v):(if c then x else u)=if c then y else v:=by rw [h1,h2]
theorem Zc7 {β:Type} {r:Std.Legacy.Range} {c:β} {f g:Nat->β->StateT SortSt Sem (ForInStep β)} (h:∀ i x,f i x=g i x):forIn r c f=forIn r c g:=by rw [funext λi=>funext (h i)]
theorem Ze5 (a b:Array Keyed):ZdN a b=(do
  liftM (rule "list.sort.merge-lo")
  let x <- elem' b 0
  let out:=#[x]
  if (1 == b.size)=true then pure (Zb0 a b out 0 1)
  else if (0+1 == a.size)=true then pure (Zdv a b out 0 1)
  else do
   let st <- get
   let r <- forIn [:a.size+b.size] ((none,out,0,1,gallopOf st):MLo) (Zip a b)
   match r.1 with
   | some r=>pure r
   | none=>liftM (unsupported "internal:list.sort.merge-bound")):=by
 refine Za0 (m:=liftM (rule "list.sort.merge-lo")) λ_=>?_
 refine Za0 (m:=elem' b 0) λx=>?_
 refine ZdQ (c:=(1 == b.size)=true) rfl ?_
 refine ZdQ (c:=(0+1 == a.size)=true) rfl ?_
 refine Za0 (m:=get) λst=>?_
 refine (congrArg (λm:StateT SortSt Sem MLo=>m >>= _) (Zc7 (r:=[:a.size+b.size]) (c:=((none,#[x],0,1,gallopOf st):MLo)) (g:=Zip a b) λi r=>?_)).trans ?_
 rotate_left
 ·refine Za0 λr=>?_
  obtain ⟨r1,r2⟩:=r
  cases r1 <;> rfl
 unfold Zip
 refine (congrArg (λm:StateT SortSt Sem MLs=>m >>= _) (Zc7 (r:=[:a.size+b.size]) (g:=Zin a b r.2.2.2.2) λi r=>rfl)).trans ?_
 refine Za0 λq=>?_
 obtain ⟨q1,q2⟩:=q
 cases q1 with
 | some z=>rfl
 | none=>
  refine Za0 (m:=liftM (rule "list.sort.gallop")) λ_=>?_
  refine (congrArg (λm:StateT SortSt Sem MLt=>m >>= _) (Zc7 (r:=[:a.size+b.size]) (g:=Zio a b) λi r=>rfl)).trans ?_
  refine Za0 λq=>?_
  obtain ⟨q1,q2⟩:=q
  cases q1 <;> rfl
end L2
namespace L2
open PySem PySem.Spec PyProof.Rows
section
variable {b:Keyed->Keyed->Bool}
abbrev kle (b:Keyed->Keyed->Bool) (x y:Keyed):Prop:=b y x=false
theorem WO.le_trans (W:WO b) {x y z:Keyed} (h1:kle b x y) (h2:kle b y z):kle b x z:=by
 cases h:b z x with
 | false=>exact h
 | true=>
  rcases W.neg z y x h with q | q
  ·rw [show b z y=false from h2] at q;cases q
  ·rw [show b y x=false from h1] at q;cases q
theorem WO.le_of_lt (W:WO b) {x y:Keyed} (h:b x y=true):kle b x y:=by
 cases q:b y x with
 | false=>exact q
 | true=>
  have:=W.tr _ _ _ h q
  rw [W.irr] at this;cases this
theorem WO.le_refl (W:WO b) (x:Keyed):kle b x x:=W.irr x
structure Mrg (b:Keyed->Keyed->Bool) (all out ra rb:List Keyed):Prop where
 perm:(out++ra++rb).Perm all
 so:out.Pairwise (kle b)
 le:∀ x∈out,∀ y∈ra++rb,kle b x y
 sa:ra.Pairwise (kle b)
 sb:rb.Pairwise (kle b)
theorem Mrg.len {all out ra rb:List Keyed} (h:Mrg b all out ra rb):out.length+ra.length+rb.length=all.length:=by
 have:=h.perm.length_eq
 rw [List.length_append,List.length_append] at this
 exact this
theorem Mrg.moveA {all out u ra rb:List Keyed} (h:Mrg b all out (u++ra) rb) (hu:∀ x∈u,∀ y∈rb,kle b x y):Mrg b all (out++u) ra rb:=by
 have sa:=List.pairwise_append.mp h.sa
 refine ⟨by rw [List.append_assoc out u ra];exact h.perm,List.pairwise_append.mpr ⟨h.so,sa.1,λx hx y hy=>h.le x hx y (by simp [hy])⟩,λx hx y hy=>?_,sa.2.1,h.sb⟩
 rcases List.mem_append.mp hx with hx | hx
 ·refine h.le x hx y ?_
  rcases List.mem_append.mp hy with hy | hy
  ·simp [hy]
  ·simp [hy]
 ·rcases List.mem_append.mp hy with hy | hy
  ·exact sa.2.2 x hx y hy
  ·exact hu x hx y hy
theorem Mrg.moveB {all out u ra rb:List Keyed} (h:Mrg b all out ra (u++rb)) (hu:∀ x∈u,∀ y∈ra,kle b x y):Mrg b all (out++u) ra rb:=by
 have sb:=List.pairwise_append.mp h.sb
 refine ⟨?_,List.pairwise_append.mpr ⟨h.so,sb.1,λx hx y hy=>h.le x hx y (by simp [hy])⟩,λx hx y hy=>?_,h.sa,sb.2.1⟩
 ·refine List.Perm.trans ?_ h.perm
  simp only [List.append_assoc]
  refine List.Perm.append_left _ ?_
  rw [<-List.append_assoc,<-List.append_assoc]
  exact List.Perm.append_right _ List.perm_append_comm
 ·rcases List.mem_append.mp hx with hx | hx
  ·refine h.le x hx y ?_
   rcases List.mem_append.mp hy with hy | hy
   ·simp [hy]
   ·simp [hy]
  ·rcases List.mem_append.mp hy with hy | hy
   ·exact hu x hx y hy
   ·exact sb.2.2 x hx y hy
def Za5 (b:Keyed->Keyed->Bool) (all r:List Keyed):Prop:=r.Perm all/\r.Pairwise (kle b)
theorem Mrg.endA {all out ra rb:List Keyed} (h:Mrg b all out ra rb) (hz:∀ x∈ra,∀ y∈rb,kle b x y):Za5 b all (out++ra++rb):=by
 refine ⟨h.perm,?_⟩
 rw [List.append_assoc]
 exact List.pairwise_append.mpr ⟨h.so,List.pairwise_append.mpr ⟨h.sa,h.sb,hz⟩,h.le⟩
theorem Mrg.endB {all out ra rb:List Keyed} (h:Mrg b all out ra rb) (hz:∀ x∈rb,∀ y∈ra,kle b x y):Za5 b all (out++rb++ra):=by
 refine ⟨?_,?_⟩
 ·refine List.Perm.trans ?_ h.perm
  rw [List.append_assoc,List.append_assoc]
  exact List.Perm.append_left _ List.perm_append_comm
 ·rw [List.append_assoc]
  exact List.pairwise_append.mpr ⟨h.so,List.pairwise_append.mpr ⟨h.sb,h.sa,hz⟩,λx hx y hy=>h.le x hx y (by
   rcases List.mem_append.mp hy with hy | hy <;> simp [hy])⟩
end
theorem ZcO (a:Array Keyed) (i:Nat):(a.extract i).toList=a.toList.drop i:=by
 rw [Array.toList_extract,List.extract_eq_take_drop,List.take_of_length_le]
 rw [List.length_drop]
 exact Nat.le_refl _
theorem ZfE (a:Array Keyed) (i k:Nat):(a.extract i (i+k)).toList=(a.toList.drop i).take k:=by
 rw [Array.toList_extract,List.extract_eq_take_drop,Nat.add_sub_cancel_left]
theorem Zbe {a:Array Keyed} {i:Nat} {x:Keyed} (h:a[i]?=some x):a.toList.drop i=x::a.toList.drop (i+1):=by
 rw [<-Array.getElem?_toList] at h
 obtain ⟨h1,h2⟩:=List.getElem?_eq_some_iff.mp h
 rw [List.drop_eq_getElem_cons h1,h2]
def SameG (st st':SortSt):Prop:=kindOf st'=kindOf st/\arrOf st'=arrOf st/\pendingOf st'=pendingOf st/\failedOf st'=failedOf st
theorem SameG.refl (st:SortSt):SameG st st:=⟨rfl,rfl,rfl,rfl⟩
theorem SameG.trans {st st' st'':SortSt} (h:SameG st st') (k:SameG st' st''):SameG st st'':=⟨k.1.trans h.1,k.2.1.trans h.2.1,k.2.2.1.trans h.2.2.1,k.2.2.2.trans h.2.2.2⟩
section
variable {M:Model} {A:Around} {E:Value->Shared->Prop} {s:Shared} {kd:SortKind} {b:Keyed->Keyed->Bool} {good:Keyed->Prop}
theorem ZbR {g:Nat} {st:SortSt} {Q:Unit->SortSt->Prop} (q:∀ st',SameG st st'->Q () st'):wpS M A E s (Zc6 g) Q st:=by
 refine wpS_modify (f:=λs=>SortSt.mk' (kindOf s) (arrOf s) (pendingOf s) g (failedOf s)) (q _ ⟨rfl,rfl,rfl,rfl⟩)
structure Two (b:Keyed->Keyed->Bool) (good:Keyed->Prop) (a c:Array Keyed):Prop where
 ga:∀ x∈a.toList,good x
 gc:∀ x∈c.toList,good x
 sa:a.toList.Pairwise (kle b)
 sc:c.toList.Pairwise (kle b)
 na:0<a.size
 nc:0<c.size
 first:∀ x,c[0]?=some x->∀ y∈a.toList,kle b x y
 last:∀ z,a[a.size-1]?=some z->∀ y∈c.toList,kle b y z
variable {a c:Array Keyed}
theorem Two.at (T:Two b good a c) {i:Nat} (h:i<a.size):∃ x,a[i]?=some x/\good x:=⟨a[i],by simp [h],T.ga _ (by simp)⟩
theorem Two.ct (T:Two b good a c) {i:Nat} (h:i<c.size):∃ x,c[i]?=some x/\good x:=⟨c[i],by simp [h],T.gc _ (by simp)⟩
def ML (b:Keyed->Keyed->Bool) (a c out:Array Keyed) (ia ib:Nat):Prop:=Mrg b (a.toList++c.toList) out.toList (a.toList.drop ia) (c.toList.drop ib)
theorem ML.done {out:Array Keyed} {ia ib:Nat} (h:ML b a c out ia ib) (e:ib=c.size\/ia=a.size):Za5 b (a.toList++c.toList) (Zb0 a c out ia ib).toList:=by
 unfold Zb0
 rw [Array.toList_append,Array.toList_append,ZcO,ZcO]
 refine Mrg.endA h λx hx y hy=>?_
 rcases e with e | e
 ·rw [List.drop_of_length_le (by rw [e,Array.length_toList];exact Nat.le_refl _)] at hy
  cases hy
 ·rw [List.drop_of_length_le (by rw [e,Array.length_toList];exact Nat.le_refl _)] at hx
  cases hx
theorem ML.last {out:Array Keyed} {ia ib:Nat} (T:Two b good a c) (h:ML b a c out ia ib) (e:ia+1=a.size):Za5 b (a.toList++c.toList) (Zdv a c out ia ib).toList:=by
 unfold Zdv
 rw [Array.toList_append,Array.toList_append,ZcO,ZcO]
 refine Mrg.endB h λx hx y hy=>?_
 obtain ⟨z,hz,_⟩:=T.at (i:=ia) (by omega)
 rw [Zbe hz,List.drop_of_length_le (by rw [Array.length_toList];omega)] at hy
 have:y=z:=by simpa using hy
 subst this
 exact T.last y (by rw [<-e];exact hz) x (List.mem_of_mem_drop hx)
theorem ML.pushB {out:Array Keyed} {ia ib:Nat} {x:Keyed} (h:ML b a c out ia ib) (hx:c[ib]?=some x) (hl:∀ y∈a.toList.drop ia,kle b x y):ML b a c (out.push x) ia (ib+1):=by
 unfold ML at h ⊢
 rw [Array.toList_push]
 rw [Zbe hx] at h
 exact Mrg.moveB (u:=[x]) h λz hz y hy=>by
  have:z=x:=by simpa using hz
  subst this
  exact hl y hy
theorem ML.pushA {out:Array Keyed} {ia ib:Nat} {x:Keyed} (h:ML b a c out ia ib) (hx:a[ia]?=some x) (hl:∀ y∈c.toList.drop ib,kle b x y):ML b a c (out.push x) (ia+1) ib:=by
 unfold ML at h ⊢
 rw [Array.toList_push]
 rw [Zbe hx] at h
 exact Mrg.moveA (u:=[x]) h λz hz y hy=>by
  have:z=x:=by simpa using hz
  subst this
  exact hl y hy
theorem ML.takeA {out:Array Keyed} {ia ib k:Nat} (h:ML b a c out ia ib) (hl:∀ x∈(a.toList.drop ia).take k,∀ y∈c.toList.drop ib,kle b x y):ML b a c (out++a.extract ia (ia+k)) (ia+k) ib:=by
 unfold ML at h ⊢
 rw [Array.toList_append,ZfE]
 rw [<-List.take_append_drop k (a.toList.drop ia),List.drop_drop] at h
 exact Mrg.moveA h hl
theorem ML.takeB {out:Array Keyed} {ia ib k:Nat} (h:ML b a c out ia ib) (hl:∀ x∈(c.toList.drop ib).take k,∀ y∈a.toList.drop ia,kle b x y):ML b a c (out++c.extract ib (ib+k)) ia (ib+k):=by
 unfold ML at h ⊢
 rw [Array.toList_append,ZfE]
 rw [<-List.take_append_drop k (c.toList.drop ib),List.drop_drop] at h
 exact Mrg.moveB h hl
theorem ZdR {l:List Keyed} {x:Keyed} (W:WO b) (h:(x::l).Pairwise (kle b)):∀ y∈x::l,kle b x y:=λy hy=>by
 rcases List.mem_cons.mp hy with rfl | hy
 ·exact W.le_refl _
 ·exact (List.pairwise_cons.mp h).1 y hy
theorem Zha (W:WO b) (L:ZcK M A E s kd b good) (T:Two b good a c) {out:Array Keyed} {ia ib mg:Nat} {st:SortSt} (hs:kindOf st=kd) (h:ML b a c out ia ib) (h1:ia+1<a.size) (h2:ib<c.size)
  {Q:MLs->SortSt->Prop} (q1:∀ r y st',SameG st st'->Za5 b (a.toList++c.toList) r.toList->Q (some r,y) st')
  (q2:∀ out' ia' ib' ac bc st',SameG st st'->ML b a c out' ia' ib'->ia'+1<a.size->ib'<c.size->out.size<out'.size->Q (none,out',ia',ib',ac,bc) st') :
  wpS M A E s (forIn [:a.size+c.size] ((none,out,ia,ib,0,0):MLs) (Zin a c mg)) Q st:=by
 refine wpS_forRange (λk r st'=>SameG st st'/\∃ out' ia' ib' ac bc,r=(none,out',ia',ib',ac,bc)/\ML b a c out' ia' ib'/\ia'+1<a.size/\ib'<c.size/\out.size+k<=out'.size) ?_ ?_ ⟨SameG.refl _,_,_,_,_,_,rfl,h,h1,h2,Nat.le_refl _⟩
 ·rintro k r st1 _ hk ⟨sg,out',ia',ib',ac,bc,rfl,h,h1,h2,h3⟩
  have hs1:kindOf st1=kd:=sg.1.trans hs
  unfold Zin
  dsimp only
  obtain ⟨x,hx,gx⟩:=T.ct h2
  obtain ⟨y,hy,gy⟩:=T.at (i:=ia') (by omega)
  refine wpS_bind (Zaz hx (wpS_bind (Zaz hy (wpS_bind (L x y st1 _ gx gy hs1 ?_)))))
  have sA:(a.toList.drop ia').Pairwise (kle b):=h.sa
  have sB:(c.toList.drop ib').Pairwise (kle b):=h.sb
  rw [Zbe hy] at sA
  rw [Zbe hx] at sB
  dsimp only
  cases hb:b x y with
  | true=>
   rw [if_pos rfl]
   refine wpS_bind (Zaz hx ?_)
   have h':=h.pushB hx λz hz=>by
    rw [Zbe hy] at hz
    exact W.le_trans (W.le_of_lt hb) (ZdR W sA z hz)
   split
   ·rename_i e
    exact wpS_pure (q1 _ _ _ sg (h'.done (.inl (eq_of_beq e))))
   ·rename_i e
    have e:ib'+1<c.size:=by
     have:ib'+1≠c.size:=λz=>e (beq_iff_eq.mpr z)
     omega
    split
    ·exact wpS_pure (q2 _ _ _ _ _ _ sg h' h1 e (by rw [Array.size_push];omega))
    ·exact wpS_pure ⟨sg,_,_,_,_,_,rfl,h',h1,e,by rw [Array.size_push];omega⟩
  | false=>
   rw [if_neg Bool.false_ne_true]
   refine wpS_bind (Zaz hy ?_)
   have h':=h.pushA hy λz hz=>by
    rw [Zbe hx] at hz
    exact W.le_trans hb (ZdR W sB z hz)
   split
   ·rename_i e
    exact wpS_pure (q1 _ _ _ sg (h'.last T (eq_of_beq e)))
   ·rename_i e
    have e:ia'+1+1<a.size:=by
     have:ia'+1+1≠a.size:=λz=>e (beq_iff_eq.mpr z)
     omega
    split
    ·exact wpS_pure (q2 _ _ _ _ _ _ sg h' e h2 (by rw [Array.size_push];omega))
    ·exact wpS_pure ⟨sg,_,_,_,_,_,rfl,h',e,h2,by rw [Array.size_push];omega⟩
 ·rintro r st1 ⟨sg,out',ia',ib',ac,bc,rfl,h,h1,h2,h3⟩
  exact q2 _ _ _ _ _ _ sg h h1 h2 (by have:=T.na;simp at h3;omega)
end
end L2
namespace L2
open PySem PySem.Spec PyProof.Rows
def Rng (b:Keyed->Keyed->Bool) (arr:Array Keyed) (lo hi:Nat):Prop:=∀ i j x y,lo<=i->i<=j->j<hi->arr[i]?=some x->arr[j]?=some y->kle b x y
section
variable {M:Model} {A:Around} {E:Value->Shared->Prop} {s:Shared} {kd:SortKind} {b:Keyed->Keyed->Bool} {good:Keyed->Prop}
theorem Ziq (W:WO b):∀ {l:List Keyed} {i j:Nat} {x y:Keyed},l.Pairwise (kle b)->i<=j->l[i]?=some x->l[j]?=some y->kle b x y
 | [],_,_,_,_,_,_,h,_=>by simp at h
 | z::l,0,0,x,y,_,_,h1,h2=>by
  simp at h1 h2
  subst h1 h2
  exact W.le_refl _
 | z::l,0,j+1,x,y,h,_,h1,h2=>by
  simp at h1 h2
  subst h1
  exact (List.pairwise_cons.mp h).1 y (List.mem_of_getElem? h2)
 | z::l,i+1,0,_,_,_,h,_,_=>by omega
 | z::l,i+1,j+1,x,y,h,hij,h1,h2=>by
  simp at h1 h2
  exact Ziq W (List.pairwise_cons.mp h).2 (by omega) h1 h2
theorem Zja (W:WO b) {arr:Array Keyed} {lo:Nat} (h:(arr.toList.drop lo).Pairwise (kle b)):Rng b arr lo arr.size:=λi j x y h1 h2 h3 e1 e2=>by
 refine Ziq (i:=i-lo) (j:=j-lo) W h (by omega) ?_ ?_
 ·rw [List.getElem?_drop,Nat.add_sub_cancel' h1,Array.getElem?_toList];exact e1
 ·rw [List.getElem?_drop,Nat.add_sub_cancel' (Nat.le_trans h1 h2),Array.getElem?_toList];exact e2
theorem Zdw (W:WO b) {left:Bool} {key:Keyed} {arr:Array Keyed} {base n:Nat} (hk:good key) (hg:∀ i,i<n->∃ x,arr[base+i]?=some x/\good x) (h:Rng b arr base (base+n)):Gal b good left key arr base n:=by
 refine ⟨hk,hg,λi j h1 h2 h3=>?_⟩
 obtain ⟨x,hx,_⟩:=hg i (by omega)
 obtain ⟨y,hy,_⟩:=hg j h2
 have hxy:=h (base+i) (base+j) x y (by omega) (by omega) (by omega) hx hy
 unfold byd at h3 ⊢
 rw [hy] at h3
 rw [hx]
 dsimp only at h3 ⊢
 cases left with
 | true=>
  rw [if_pos rfl] at h3 ⊢
  rcases W.neg y x key h3 with z | z
  ·rw [show b y x=false from hxy] at z;cases z
  ·exact z
 | false=>
  rw [if_neg Bool.false_ne_true] at h3 ⊢
  rw [Bool.not_eq_true'] at h3 ⊢
  exact W.le_trans (x:=x) (y:=y) (z:=key) hxy h3
variable {a c:Array Keyed}
theorem ZfF {arr:Array Keyed} {base k:Nat} {x:Keyed} (h:x∈(arr.toList.drop base).take k):∃ i,i<k/\arr[base+i]?=some x:=by
 obtain ⟨i,hi⟩:=List.mem_iff_getElem?.mp h
 rw [List.getElem?_take] at hi
 split at hi
 ·rw [List.getElem?_drop,Array.getElem?_toList] at hi
  exact ⟨i,by assumption,hi⟩
 ·cases hi
theorem ZfG {arr:Array Keyed} {base:Nat} {x:Keyed} (h:x∈arr.toList.drop base):∃ i,base+i<arr.size/\arr[base+i]?=some x:=by
 obtain ⟨i,hi⟩:=List.mem_iff_getElem?.mp h
 rw [List.getElem?_drop,Array.getElem?_toList] at hi
 exact ⟨i,(Array.getElem?_eq_some_iff.mp hi).1,hi⟩
section
variable {out:Array Keyed} {ia ib:Nat} {st:SortSt} {Q:ForInStep MLt->SortSt->Prop}
structure Zir (b:Keyed->Keyed->Bool) (a c:Array Keyed) (n:Nat) (st:SortSt) (Q:ForInStep MLt->SortSt->Prop):Prop where
 fin:∀ r y st',SameG st st'->Za5 b (a.toList++c.toList) r.toList->Q (.done (some r,y)) st'
 brk:∀ out' ia' ib' y st',SameG st st'->ML b a c out' ia' ib'->ia'+1<a.size->ib'<c.size->n<=out'.size->Q (.done (none,out',ia',ib',y)) st'
 go:∀ out' ia' ib' y st',SameG st st'->ML b a c out' ia' ib'->ia'+1<a.size->ib'<c.size->n<=out'.size->Q (.yield (none,out',ia',ib',y)) st'
theorem Zhb (T:Two b good a c) {mg ac k n:Nat} (R:Zir b a c n st Q) (h:ML b a c out ia ib) (h1:ia+1<a.size) (h2:ib<c.size) (hn:n<=out.size) (hl:∀ x,a[ia]?=some x->∀ y∈c.toList.drop ib,kle b x y) :
  wpS M A E s (mlD a c mg ac k out ia ib) Q st:=by
 unfold mlD
 obtain ⟨x,hx,gx⟩:=T.at (i:=ia) (by omega)
 refine wpS_bind (Zaz hx ?_)
 have h':=h.pushA hx (hl x hx)
 have hn':n<=(out.push x).size:=by rw [Array.size_push];omega
 dsimp only
 split
 ·rename_i e
  exact wpS_pure (R.fin _ _ _ (SameG.refl _) (h'.last T (eq_of_beq e)))
 ·rename_i e
  have e:ia+1+1<a.size:=by
   have:ia+1+1≠a.size:=λz=>e (beq_iff_eq.mpr z)
   omega
  split
  ·exact wpS_pure (R.brk _ _ _ _ _ (SameG.refl _) h' e h2 hn')
  ·exact wpS_pure (R.go _ _ _ _ _ (SameG.refl _) h' e h2 hn')
theorem Zhc (W:WO b) (L:ZcK M A E s kd b good) (T:Two b good a c) {mg ac bc n:Nat} (R:Zir b a c n st Q) (hs:kindOf st=kd) (h:ML b a c out ia ib) (h1:ia+1<a.size) (h2:ib<c.size) (hn:n<=out.size)
  (hl:∀ x,c[ib]?=some x->∀ y∈a.toList.drop ia,kle b x y):wpS M A E s (mlC a c mg ac bc out ia ib) Q st:=by
 unfold mlC
 obtain ⟨x,hx,gx⟩:=T.ct h2
 obtain ⟨y,hy,gy⟩:=T.at (i:=ia) (by omega)
 refine wpS_bind (Zaz hx ?_)
 have h':=h.pushB hx (hl x hx)
 have hn':n<=(out.push x).size:=by rw [Array.size_push];omega
 generalize out.push x=out1 at h' hn'
 dsimp only
 split
 ·rename_i e
  exact wpS_pure (R.fin _ _ _ (SameG.refl _) (h'.done (.inl (eq_of_beq e))))
 ·rename_i e
  have e:ib+1<c.size:=by
   have:ib+1≠c.size:=λz=>e (beq_iff_eq.mpr z)
   omega
  refine wpS_bind (Zaz hy ?_)
  have sB:Rng b c (ib+1) c.size:=Zja W h'.sb
  have sA:(a.toList.drop ia).Pairwise (kle b):=h'.sa
  rw [Zbe hy] at sA
  have G:Gal b good true y c (ib+1) (c.size-(ib+1)):=Zdw W gy (λi hi=>T.ct (by omega)) (by rw [Nat.add_sub_cancel' (by omega)];exact sB)
  refine wpS_bind (Zbb L G hs (by omega) λk hk k1 k2=>?_)
  dsimp only
  have tk:∀ z∈(c.toList.drop (ib+1)).take k,∀ v∈a.toList.drop ia,kle b z v:=λz hz v hv=>by
   obtain ⟨i,hi,ez⟩:=ZfF hz
   have:=k1 i hi
   unfold byd at this
   rw [ez] at this
   dsimp only at this
   rw [if_pos rfl] at this
   rw [Zbe hy] at hv
   exact W.le_trans (W.le_of_lt this) (ZdR W sA v hv)
  have tr:∀ v∈c.toList.drop (ib+1+k),kle b y v:=λv hv=>by
   obtain ⟨i,hi,ev⟩:=ZfG hv
   have:=k2 (k+i) (by omega) (by omega)
   unfold byd at this
   rw [show ib+1+(k+i)=ib+1+k+i by omega,ev] at this
   dsimp only at this
   rw [if_pos rfl] at this
   exact this
  split
  ·have h3:=h'.takeB tk
   have hn3:n<=(out1++c.extract (ib+1) (ib+1+k)).size:=by rw [Array.size_append];omega
   split
   ·rename_i e2
    exact wpS_pure (R.fin _ _ _ (SameG.refl _) (h3.done (.inl (eq_of_beq e2))))
   ·rename_i e2
    have e2:ib+1+k<c.size:=by
     have:ib+1+k≠c.size:=λz=>e2 (beq_iff_eq.mpr z)
     omega
    exact Zhb T R h3 h1 e2 hn3 λx' hx' v hv=>by
     rw [hy] at hx';cases hx'
     exact tr v hv
  ·rename_i hk0
   have:k=0:=by omega
   subst this
   exact Zhb T R h' h1 e hn' λx' hx' v hv=>by
    rw [hy] at hx';cases hx'
    exact tr v hv
theorem Zj9 (W:WO b) (L:ZcK M A E s kd b good) (T:Two b good a c) {mg ac bc n:Nat} (R:∀ st',SameG st st'->Zir b a c n st' Q) (hs:kindOf st=kd) (h:ML b a c out ia ib) (h1:ia+1<a.size) (h2:ib<c.size) (hn:n<=out.size) :
  wpS M A E s (mlB a c mg ac bc out ia ib) Q st:=by
 unfold mlB
 refine wpS_bind (ZbR λst1 sg=>?_)
 have R:=R st1 sg
 have hs1:kindOf st1=kd:=sg.1.trans hs
 obtain ⟨x,hx,gx⟩:=T.ct h2
 refine wpS_bind (Zaz hx ?_)
 have sA:Rng b a ia a.size:=Zja W h.sa
 have sB:(c.toList.drop ib).Pairwise (kle b):=h.sb
 rw [Zbe hx] at sB
 have G:Gal b good false x a ia (a.size-ia):=Zdw W gx (λi hi=>T.at (by omega)) (by rw [Nat.add_sub_cancel' (by omega)];exact sA)
 refine wpS_bind (Zbb L G hs1 (by omega) λk hk k1 k2=>?_)
 dsimp only
 have tk:∀ z∈(a.toList.drop ia).take k,∀ v∈c.toList.drop ib,kle b z v:=λz hz v hv=>by
  obtain ⟨i,hi,ez⟩:=ZfF hz
  have:=k1 i hi
  unfold byd at this
  rw [ez] at this
  dsimp only at this
  rw [if_neg Bool.false_ne_true,Bool.not_eq_true'] at this
  rw [Zbe hx] at hv
  exact W.le_trans this (ZdR W sB v hv)
 have tr:∀ v∈a.toList.drop (ia+k),kle b x v:=λv hv=>by
  obtain ⟨i,hi,ev⟩:=ZfG hv
  have:=k2 (k+i) (by omega) (by omega)
  unfold byd at this
  rw [show ia+(k+i)=ia+k+i by omega,ev] at this
  dsimp only at this
  rw [if_neg Bool.false_ne_true,Bool.not_eq_false'] at this
  exact W.le_of_lt this
 split
 ·have h3:=h.takeA tk
  have hn3:n<=(out++a.extract ia (ia+k)).size:=by rw [Array.size_append];omega
  split
  ·rename_i e2
   exact wpS_pure (R.fin _ _ _ (SameG.refl _) (h3.last T (eq_of_beq e2)))
  ·rename_i e2
   split
   ·rename_i e3
    exact wpS_pure (R.fin _ _ _ (SameG.refl _) (h3.done (.inr (eq_of_beq e3))))
   ·rename_i e3
    have e4:ia+k+1<a.size:=by
     have:ia+k+1≠a.size:=λz=>e2 (beq_iff_eq.mpr z)
     have:ia+k≠a.size:=λz=>e3 (beq_iff_eq.mpr z)
     omega
    exact Zhc W L T R hs1 h3 e4 h2 hn3 λx' hx' v hv=>by
     rw [hx] at hx';cases hx'
     exact tr v hv
 ·have:k=0:=by omega
  subst this
  exact Zhc W L T R hs1 h h1 h2 hn λx' hx' v hv=>by
   rw [hx] at hx';cases hx'
   exact tr v hv
end
theorem Zhd (W:WO b) (L:ZcK M A E s kd b good) (T:Two b good a c) {out:Array Keyed} {ia ib n:Nat} {y:Nat×Nat×Nat} {st:SortSt} (hs:kindOf st=kd) (h:ML b a c out ia ib) (h1:ia+1<a.size) (h2:ib<c.size)
  {Q:MLt->SortSt->Prop} (q1:∀ r y st',SameG st st'->Za5 b (a.toList++c.toList) r.toList->Q (some r,y) st')
  (q2:∀ out' ia' ib' y st',SameG st st'->ML b a c out' ia' ib'->ia'+1<a.size->ib'<c.size->out.size<=out'.size->Q (none,out',ia',ib',y) st') :
  wpS M A E s (forIn [:n] ((none,out,ia,ib,y):MLt) (Zio a c)) Q st:=by
 refine wpS_forRange (λk r st'=>SameG st st'/\∃ out' ia' ib' y,r=(none,out',ia',ib',y)/\ML b a c out' ia' ib'/\ia'+1<a.size/\ib'<c.size/\out.size<=out'.size) ?_ ?_ ⟨SameG.refl _,_,_,_,_,rfl,h,h1,h2,Nat.le_refl _⟩
 ·rintro k r st1 _ hk ⟨sg,out',ia',ib',y,rfl,h,h1,h2,h3⟩
  have hs1:kindOf st1=kd:=sg.1.trans hs
  have R:∀ st',SameG st1 st'->Zir b a c out.size st' (λr st'=>match r with
   | .done c'=>Q c' st'
   | .yield c'=>SameG st st'/\∃ out' ia' ib' y,c'=(none,out',ia',ib',y)/\ML b a c out' ia' ib'/\ia'+1<a.size/\ib'<c.size/\out.size<=out'.size):=λst' sg'=>
   ⟨λr y st2 g m=>q1 r y st2 ((sg.trans sg').trans g) m,λo i j y st2 g m p1 p2 p3=>q2 o i j y st2 ((sg.trans sg').trans g) m p1 p2 p3,λo i j y st2 g m p1 p2 p3=>⟨(sg.trans sg').trans g,o,i,j,y,rfl,m,p1,p2,p3⟩⟩
  unfold Zio
  dsimp only
  have mono:∀ mg,wpS M A E s (mlB a c mg y.2.1 y.2.2 out' ia' ib') _ st1:=λmg=>Zj9 W L T R hs1 h h1 h2 h3
  split
  ·exact wpS_mono (mono _) λr st' hr=>by cases r <;> exact hr
  ·exact wpS_mono (mono _) λr st' hr=>by cases r <;> exact hr
 ·rintro r st1 ⟨sg,out',ia',ib',y,rfl,h,h1,h2,h3⟩
  exact q2 _ _ _ _ _ sg h h1 h2 h3
theorem Ze6 (W:WO b) (L:ZcK M A E s kd b good) (T:Two b good a c) {st:SortSt} (hs:kindOf st=kd) {Q:Array Keyed->SortSt->Prop}
  (q:∀ r st',SameG st st'->Za5 b (a.toList++c.toList) r.toList->Q r st'):wpS M A E s (ZdN a c) Q st:=by
 rw [Ze5]
 refine wpS_bind (wpS_lift (wpAny_rule ⟨rfl,?_⟩))
 obtain ⟨x,hx,gx⟩:=T.ct T.nc
 refine wpS_bind (Zaz hx ?_)
 have h0:ML b a c #[x] 0 1:=by
  have z:ML b a c #[] 0 0:=⟨by simp,by simp,by simp,by simpa using T.sa,by simpa using T.sc⟩
  exact z.pushB hx λy hy=>T.first x hx y (by simpa using hy)
 have hc:=T.nc
 have ha:=T.na
 dsimp only
 split
 ·rename_i e
  exact wpS_pure (q _ _ (SameG.refl _) (h0.done (.inl (eq_of_beq e))))
 ·rename_i e
  have e:1<c.size:=by
   have:1≠c.size:=λz=>e (beq_iff_eq.mpr z)
   omega
  split
  ·rename_i e2
   exact wpS_pure (q _ _ (SameG.refl _) (h0.last T (eq_of_beq e2)))
  ·rename_i e2
   have e2:0+1<a.size:=by
    have:0+1≠a.size:=λz=>e2 (beq_iff_eq.mpr z)
    omega
   refine wpS_bind (wpS_get ?_)
   refine wpS_bind (wpS_forRange (λk r st'=>SameG st st'/\∃ out' ia' ib' mg,r=(none,out',ia',ib',mg)/\ML b a c out' ia' ib'/\ia'+1<a.size/\ib'<c.size/\k<out'.size) ?_ ?_ ⟨SameG.refl _,_,_,_,_,rfl,h0,e2,e,by simp⟩)
   ·rintro k r st1 _ hk ⟨sg,out',ia',ib',mg,rfl,h,h1,h2,h3⟩
    have hs1:kindOf st1=kd:=sg.1.trans hs
    unfold Zip
    dsimp only
    refine wpS_bind (Zha W L T hs1 h h1 h2 (λr y st2 g m=>?_) (λo i j ac bc st2 g m p1 p2 p3=>?_))
    ·refine wpS_pure ?_
     dsimp only
     exact wpS_pure (q r st2 (sg.trans g) m)
    ·dsimp only
     refine wpS_bind (wpS_lift (wpAny_rule ⟨rfl,?_⟩))
     refine wpS_bind (Zhd W L T (g.1.trans hs1) m p1 p2 (λr y st3 g3 m3=>?_) (λo3 i3 j3 y3 st3 g3 m3 r1 r2 r3=>?_))
     ·refine wpS_pure ?_
      dsimp only
      exact wpS_pure (q r st3 ((sg.trans g).trans g3) m3)
     ·dsimp only
      refine wpS_bind (ZbR λst4 g4=>?_)
      exact wpS_pure ⟨((sg.trans g).trans g3).trans g4,_,_,_,_,rfl,m3,r1,r2,by omega⟩
   ·rintro r st1 ⟨sg,out',ia',ib',mg,rfl,h,h1,h2,h3⟩
    exfalso
    have:=Mrg.len h
    rw [List.length_append,List.length_drop,List.length_drop,Array.length_toList,Array.length_toList,Array.length_toList] at this
    simp at h3
    omega
end
end L2
namespace L2
open PySem PySem.Spec PyProof.Rows
abbrev MHs:=Option (Array Keyed)×Nat×Nat×Array Keyed×Nat×Nat
abbrev MHt:=Option (Array Keyed)×Nat×Nat×Array Keyed×Nat×Nat×Nat
abbrev MHo:=Option (Array Keyed)×Nat×Nat×Array Keyed×Nat
def Zb1 (a b out:Array Keyed) (na nb:Nat):Array Keyed:=a.extract 0 na++b.extract 0 nb++out.reverse
def ZcE (a b out:Array Keyed) (na nb:Nat):Array Keyed:=b.extract 0 nb++a.extract 0 na++out.reverse
def Zis (a b:Array Keyed) (mg:Nat):Nat->MHs->StateT SortSt Sem (ForInStep MHs):=λ_ r=>
 let na:=r.2.1;let nb:=r.2.2.1;let out:=r.2.2.2.1;let acount:=r.2.2.2.2.1;let bcount:=r.2.2.2.2.2
 do
 let x <- elem' b (nb-1)
 let y <- elem' a (na-1)
 match <- lt' x y with
 | some aWins=>
  if aWins=true then do
   let na:=na-1
   let z <- elem' a na
   let out:=out.push z
   let acount:=acount+1
   let bcount:=0
   if (na == 0)=true then pure (.done (some (Zb1 a b out na nb),na,nb,out,acount,bcount))
   else if acount>=mg then pure (.done (none,na,nb,out,acount,bcount))
   else pure (.yield (none,na,nb,out,acount,bcount))
  else do
   let nb:=nb-1
   let z <- elem' b nb
   let out:=out.push z
   let bcount:=bcount+1
   let acount:=0
   if (nb == 1)=true then pure (.done (some (ZcE a b out na nb),na,nb,out,acount,bcount))
   else if bcount>=mg then pure (.done (none,na,nb,out,acount,bcount))
   else pure (.yield (none,na,nb,out,acount,bcount))
 | _=>pure (.done (some (Zb1 a b out na nb),na,nb,out,acount,bcount))
def mhD (a b:Array Keyed) (minGallop acount bcount:Nat) (na nb:Nat) (out:Array Keyed):StateT SortSt Sem (ForInStep MHt):=do
 let na:=na-1
 let z <- elem' a na
 let out:=out.push z
 if (na == 0)=true then pure (.done (some (Zb1 a b out na nb),na,nb,out,minGallop,acount,bcount))
 else if (decide (acount<7) && decide (bcount<7))=true then pure (.done (none,na,nb,out,minGallop,acount,bcount))
 else pure (.yield (none,na,nb,out,minGallop,acount,bcount))
def mhC (a b:Array Keyed) (minGallop acount bcount:Nat) (na nb:Nat) (out:Array Keyed):StateT SortSt Sem (ForInStep MHt):=do
 let nb:=nb-1
 let z <- elem' b nb
 let out:=out.push z
 if (nb == 1)=true then pure (.done (some (ZcE a b out na nb),na,nb,out,minGallop,acount,bcount))
 else do
  let y <- elem' a (na-1)
  match <- ZbC true y b 0 nb (nb-1) with
  | some at_=>
   let k:=nb-at_
   let bcount:=k
   if k > 0 then
    let out:=out++(b.extract at_ nb).reverse
    let nb:=at_
    if (nb == 1)=true then pure (.done (some (ZcE a b out na nb),na,nb,out,minGallop,acount,bcount))
    else if (nb == 0)=true then pure (.done (some (Zb1 a b out na nb),na,nb,out,minGallop,acount,bcount))
    else mhD a b minGallop acount bcount na nb out
   else mhD a b minGallop acount bcount na nb out
  | _=>pure (.done (some (Zb1 a b out na nb),na,nb,out,minGallop,acount,bcount))
def mhB (a b:Array Keyed) (minGallop acount bcount:Nat) (na nb:Nat) (out:Array Keyed):StateT SortSt Sem (ForInStep MHt):=do
 Zc6 minGallop
 let x <- elem' b (nb-1)
 match <- ZbC false x a 0 na (na-1) with
 | some at_=>
  let k:=na-at_
  let acount:=k
  if k > 0 then
   let out:=out++(a.extract at_ na).reverse
   let na:=at_
   if (na == 0)=true then pure (.done (some (Zb1 a b out na nb),na,nb,out,minGallop,acount,bcount))
   else mhC a b minGallop acount bcount na nb out
  else mhC a b minGallop acount bcount na nb out
 | _=>pure (.done (some (Zb1 a b out na nb),na,nb,out,minGallop,acount,bcount))
def Zit (a b:Array Keyed):Nat->MHt->StateT SortSt Sem (ForInStep MHt):=λ_ r=>
 let na:=r.2.1;let nb:=r.2.2.1;let out:=r.2.2.2.1;let minGallop:=r.2.2.2.2.1;let acount:=r.2.2.2.2.2.1;let bcount:=r.2.2.2.2.2.2
 if minGallop > 1 then mhB a b (minGallop-1) acount bcount na nb out else mhB a b minGallop acount bcount na nb out
def Ziu (a b:Array Keyed):Nat->MHo->StateT SortSt Sem (ForInStep MHo):=λ_ r=>
 let na:=r.2.1;let nb:=r.2.2.1;let out:=r.2.2.2.1;let minGallop:=r.2.2.2.2
 do
 let r <- forIn [:a.size+b.size] ((none,na,nb,out,0,0):MHs) (Zis a b minGallop)
 match r.1 with
 | some x=>pure (.done (some x,r.2.1,r.2.2.1,r.2.2.2.1,minGallop))
 | none=>do
  liftM (rule "list.sort.gallop")
  let r <- forIn [:a.size+b.size] ((none,r.2.1,r.2.2.1,r.2.2.2.1,minGallop+1,r.2.2.2.2.1,r.2.2.2.2.2):MHt) (Zit a b)
  match r.1 with
  | some x=>pure (.done (some x,r.2.1,r.2.2.1,r.2.2.2.1,r.2.2.2.2.1))
  | none=>do
   Zc6 (r.2.2.2.2.1+1)
   pure (.yield (none,r.2.1,r.2.2.1,r.2.2.2.1,r.2.2.2.2.1+1))
theorem Ze7 (a b:Array Keyed):ZdO a b=(do
  liftM (rule "list.sort.merge-hi")
  let x <- elem' a (a.size-1)
  let out:=#[x]
  if (a.size-1 == 0)=true then pure (Zb1 a b out (a.size-1) b.size)
  else if (b.size == 1)=true then pure (ZcE a b out (a.size-1) b.size)
  else do
   let st <- get
   let r <- forIn [:a.size+b.size] ((none,a.size-1,b.size,out,gallopOf st):MHo) (Ziu a b)
   match r.1 with
   | some r=>pure r
   | none=>liftM (unsupported "internal:list.sort.merge-bound")):=by
 refine Za0 (m:=liftM (rule "list.sort.merge-hi")) λ_=>?_
 refine Za0 (m:=elem' a (a.size-1)) λx=>?_
 refine ZdQ (c:=(a.size-1 == 0)=true) rfl ?_
 refine ZdQ (c:=(b.size == 1)=true) rfl ?_
 refine Za0 (m:=get) λst=>?_
 refine (congrArg (λm:StateT SortSt Sem MHo=>m >>= _) (Zc7 (r:=[:a.size+b.size]) (c:=((none,a.size-1,b.size,#[x],gallopOf st):MHo)) (g:=Ziu a b) λi r=>?_)).trans ?_
 rotate_left
 ·refine Za0 λr=>?_
  obtain ⟨r1,r2⟩:=r
  cases r1 <;> rfl
 unfold Ziu
 refine (congrArg (λm:StateT SortSt Sem MHs=>m >>= _) (Zc7 (r:=[:a.size+b.size]) (g:=Zis a b r.2.2.2.2) λi r=>rfl)).trans ?_
 refine Za0 λq=>?_
 obtain ⟨q1,q2⟩:=q
 cases q1 with
 | some z=>rfl
 | none=>
  refine Za0 (m:=liftM (rule "list.sort.gallop")) λ_=>?_
  refine (congrArg (λm:StateT SortSt Sem MHt=>m >>= _) (Zc7 (r:=[:a.size+b.size]) (g:=Zit a b) λi r=>rfl)).trans ?_
  refine Za0 λq=>?_
  obtain ⟨q1,q2⟩:=q
  cases q1 <;> rfl
end L2
namespace L2
open PySem PySem.Spec PyProof.Rows
section
variable {b:Keyed->Keyed->Bool}
structure MrgH (b:Keyed->Keyed->Bool) (all out ra rb:List Keyed):Prop where
 perm:(ra++rb++out).Perm all
 so:out.Pairwise (kle b)
 le:∀ x∈ra++rb,∀ y∈out,kle b x y
 sa:ra.Pairwise (kle b)
 sb:rb.Pairwise (kle b)
theorem MrgH.len {all out ra rb:List Keyed} (h:MrgH b all out ra rb):ra.length+rb.length+out.length=all.length:=by
 have:=h.perm.length_eq
 rw [List.length_append,List.length_append] at this
 exact this
theorem MrgH.moveB {all out u ra rb:List Keyed} (h:MrgH b all out ra (rb++u)) (hu:∀ x∈u,∀ y∈ra,kle b y x):MrgH b all (u++out) ra rb:=by
 have sb:=List.pairwise_append.mp h.sb
 refine ⟨?_,List.pairwise_append.mpr ⟨sb.2.1,h.so,λx hx y hy=>h.le x (by simp [hx]) y hy⟩,λx hx y hy=>?_,h.sa,sb.1⟩
 ·have:=h.perm
  simp only [List.append_assoc] at this ⊢
  exact this
 ·rcases List.mem_append.mp hy with hy | hy
  ·rcases List.mem_append.mp hx with hx | hx
   ·exact hu y hy x hx
   ·exact sb.2.2 x hx y hy
  ·refine h.le x ?_ y hy
   rcases List.mem_append.mp hx with hx | hx <;> simp [hx]
theorem MrgH.moveA {all out u ra rb:List Keyed} (h:MrgH b all out (ra++u) rb) (hu:∀ x∈u,∀ y∈rb,kle b y x):MrgH b all (u++out) ra rb:=by
 have sa:=List.pairwise_append.mp h.sa
 refine ⟨?_,List.pairwise_append.mpr ⟨sa.2.1,h.so,λx hx y hy=>h.le x (by simp [hx]) y hy⟩,λx hx y hy=>?_,sa.1,h.sb⟩
 ·refine List.Perm.trans ?_ h.perm
  simp only [List.append_assoc]
  refine List.Perm.append_left _ ?_
  rw [<-List.append_assoc,<-List.append_assoc]
  exact List.Perm.append_right _ List.perm_append_comm
 ·rcases List.mem_append.mp hy with hy | hy
  ·rcases List.mem_append.mp hx with hx | hx
   ·exact sa.2.2 x hx y hy
   ·exact hu y hy x hx
  ·refine h.le x ?_ y hy
   rcases List.mem_append.mp hx with hx | hx <;> simp [hx]
theorem MrgH.endA {all out ra rb:List Keyed} (h:MrgH b all out ra rb) (hz:∀ x∈ra,∀ y∈rb,kle b x y):Za5 b all (ra++rb++out):=
 ⟨h.perm,List.pairwise_append.mpr ⟨List.pairwise_append.mpr ⟨h.sa,h.sb,hz⟩,h.so,h.le⟩⟩
theorem MrgH.endB {all out ra rb:List Keyed} (h:MrgH b all out ra rb) (hz:∀ x∈rb,∀ y∈ra,kle b x y):Za5 b all (rb++ra++out):=by
 refine ⟨List.Perm.trans (List.Perm.append_right _ List.perm_append_comm) h.perm,List.pairwise_append.mpr ⟨List.pairwise_append.mpr ⟨h.sb,h.sa,hz⟩,h.so,λx hx y hy=>h.le x ?_ y hy⟩⟩
 rcases List.mem_append.mp hx with hx | hx <;> simp [hx]
end
theorem ZfH (a:Array Keyed) (k:Nat):(a.extract 0 k).toList=a.toList.take k:=by
 rw [Array.toList_extract,List.extract_eq_take_drop,List.drop_zero,Nat.sub_zero]
theorem Zhe (a:Array Keyed) {i j:Nat} (h:i<=j):a.toList.take j=a.toList.take i++(a.extract i j).toList:=by
 rw [Array.toList_extract,List.extract_eq_take_drop]
 have:=List.take_append_drop i (a.toList.take j)
 rw [List.take_take,Nat.min_eq_left h,List.drop_take] at this
 exact this.symm
theorem Zhf {a:Array Keyed} {i:Nat} {x:Keyed} (h:a[i]?=some x):a.toList.take (i+1)=a.toList.take i++[x]:=by
 rw [<-Array.getElem?_toList] at h
 rw [List.take_add_one,h]
 rfl
theorem taken {arr:Array Keyed} {k:Nat} {x:Keyed} (h:x∈arr.toList.take k):∃ i,i<k/\arr[i]?=some x:=by
 obtain ⟨i,hi⟩:=List.mem_iff_getElem?.mp h
 rw [List.getElem?_take] at hi
 split at hi
 ·rw [Array.getElem?_toList] at hi
  exact ⟨i,by assumption,hi⟩
 ·cases hi
theorem Ze8 {arr:Array Keyed} {i j:Nat} {x:Keyed} (h:x∈(arr.extract i j).toList):∃ k,i<=k/\k<j/\arr[k]?=some x:=by
 rw [Array.toList_extract,List.extract_eq_take_drop] at h
 obtain ⟨k,hk⟩:=List.mem_iff_getElem?.mp h
 rw [List.getElem?_take] at hk
 split at hk
 ·rw [List.getElem?_drop,Array.getElem?_toList] at hk
  exact ⟨i+k,by omega,by omega,hk⟩
 ·cases hk
section
variable {M:Model} {A:Around} {E:Value->Shared->Prop} {s:Shared} {kd:SortKind} {b:Keyed->Keyed->Bool} {good:Keyed->Prop} {a c:Array Keyed}
def MH (b:Keyed->Keyed->Bool) (a c:Array Keyed) (na nb:Nat) (out:Array Keyed):Prop:=MrgH b (a.toList++c.toList) out.toList.reverse (a.toList.take na) (c.toList.take nb)
theorem Zhg (W:WO b) {arr:Array Keyed} {hi:Nat} (h:(arr.toList.take hi).Pairwise (kle b)):Rng b arr 0 (0+hi):=λi j x y h1 h2 h3 e1 e2=>by
 refine Ziq (i:=i) (j:=j) W h h2 ?_ ?_
 ·rw [List.getElem?_take,if_pos (by omega),Array.getElem?_toList];exact e1
 ·rw [List.getElem?_take,if_pos (by omega),Array.getElem?_toList];exact e2
theorem MH.done {out:Array Keyed} {na nb:Nat} (h:MH b a c na nb out) (e:na=0\/nb=0):Za5 b (a.toList++c.toList) (Zb1 a c out na nb).toList:=by
 unfold Zb1
 rw [Array.toList_append,Array.toList_append,ZfH,ZfH,Array.toList_reverse]
 refine MrgH.endA h λx hx y hy=>?_
 rcases e with e | e
 ·rw [e] at hx;simp at hx
 ·rw [e] at hy;simp at hy
theorem MH.first {out:Array Keyed} {na nb:Nat} (T:Two b good a c) (h:MH b a c na nb out) (e:nb=1):Za5 b (a.toList++c.toList) (ZcE a c out na nb).toList:=by
 unfold ZcE
 rw [Array.toList_append,Array.toList_append,ZfH,ZfH,Array.toList_reverse]
 refine MrgH.endB h λx hx y hy=>?_
 obtain ⟨i,hi,ex⟩:=taken hx
 have:i=0:=by omega
 subst this
 exact T.first x ex y (List.mem_of_mem_take hy)
theorem MH.pushB {out:Array Keyed} {na nb:Nat} {x:Keyed} (h:MH b a c na (nb+1) out) (hx:c[nb]?=some x) (hl:∀ y∈a.toList.take na,kle b y x):MH b a c na nb (out.push x):=by
 unfold MH at h ⊢
 rw [Array.toList_push,List.reverse_append]
 rw [Zhf hx] at h
 exact MrgH.moveB (u:=[x]) h λz hz y hy=>by
  have:z=x:=by simpa using hz
  subst this
  exact hl y hy
theorem MH.pushA {out:Array Keyed} {na nb:Nat} {x:Keyed} (h:MH b a c (na+1) nb out) (hx:a[na]?=some x) (hl:∀ y∈c.toList.take nb,kle b y x):MH b a c na nb (out.push x):=by
 unfold MH at h ⊢
 rw [Array.toList_push,List.reverse_append]
 rw [Zhf hx] at h
 exact MrgH.moveA (u:=[x]) h λz hz y hy=>by
  have:z=x:=by simpa using hz
  subst this
  exact hl y hy
theorem MH.takeA {out:Array Keyed} {na nb k:Nat} (h:MH b a c na nb out) (hk:k<=na) (hl:∀ x∈(a.extract k na).toList,∀ y∈c.toList.take nb,kle b y x):MH b a c k nb (out++(a.extract k na).reverse):=by
 unfold MH at h ⊢
 rw [Array.toList_append,Array.toList_reverse,List.reverse_append,List.reverse_reverse]
 rw [Zhe a hk] at h
 exact MrgH.moveA h hl
theorem MH.takeB {out:Array Keyed} {na nb k:Nat} (h:MH b a c na nb out) (hk:k<=nb) (hl:∀ x∈(c.extract k nb).toList,∀ y∈a.toList.take na,kle b y x):MH b a c na k (out++(c.extract k nb).reverse):=by
 unfold MH at h ⊢
 rw [Array.toList_append,Array.toList_reverse,List.reverse_append,List.reverse_reverse]
 rw [Zhe c hk] at h
 exact MrgH.moveB h hl
theorem ZdS (W:WO b) {arr:Array Keyed} {k:Nat} {x:Keyed} (h:(arr.toList.take (k+1)).Pairwise (kle b)) (hx:arr[k]?=some x):∀ y∈arr.toList.take (k+1),kle b y x:=λy hy=>by
 obtain ⟨i,hi,ey⟩:=taken hy
 exact Zhg W h i k y x (Nat.zero_le _) (by omega) (by omega) ey hx
theorem Zhh (W:WO b) (L:ZcK M A E s kd b good) (T:Two b good a c) {out:Array Keyed} {na nb mg:Nat} {st:SortSt} (hs:kindOf st=kd) (h:MH b a c na nb out) (h1:0<na/\na<=a.size) (h2:1<nb/\nb<=c.size)
  {Q:MHs->SortSt->Prop} (q1:∀ r y st',SameG st st'->Za5 b (a.toList++c.toList) r.toList->Q (some r,y) st')
  (q2:∀ na' nb' out' ac bc st',SameG st st'->MH b a c na' nb' out'->(0<na'/\na'<=a.size)->(1<nb'/\nb'<=c.size)->out.size<out'.size->Q (none,na',nb',out',ac,bc) st') :
  wpS M A E s (forIn [:a.size+c.size] ((none,na,nb,out,0,0):MHs) (Zis a c mg)) Q st:=by
 refine wpS_forRange (λk r st'=>SameG st st'/\∃ na' nb' out' ac bc,r=(none,na',nb',out',ac,bc)/\MH b a c na' nb' out'/\(0<na'/\na'<=a.size)/\(1<nb'/\nb'<=c.size)/\out.size+k<=out'.size) ?_ ?_ ⟨SameG.refl _,_,_,_,_,_,rfl,h,h1,h2,Nat.le_refl _⟩
 ·rintro k r st1 _ hk ⟨sg,na',nb',out',ac,bc,rfl,h,h1,h2,h3⟩
  have hs1:kindOf st1=kd:=sg.1.trans hs
  obtain ⟨na',rfl⟩:∃ n,na'=n+1:=⟨na' - 1,by omega⟩
  obtain ⟨nb',rfl⟩:∃ n,nb'=n+1:=⟨nb' - 1,by omega⟩
  unfold Zis
  dsimp only [Nat.add_sub_cancel]
  obtain ⟨x,hx,gx⟩:=T.ct (i:=nb') (by omega)
  obtain ⟨y,hy,gy⟩:=T.at (i:=na') (by omega)
  refine wpS_bind (Zaz hx (wpS_bind (Zaz hy (wpS_bind (L x y st1 _ gx gy hs1 ?_)))))
  dsimp only
  cases hb:b x y with
  | true=>
   rw [if_pos rfl]
   refine wpS_bind (Zaz hy ?_)
   have h':=h.pushA hy λz hz=>W.le_trans (ZdS W h.sb hx z hz) (W.le_of_lt hb)
   split
   ·rename_i e
    exact wpS_pure (q1 _ _ _ sg (h'.done (.inl (eq_of_beq e))))
   ·rename_i e
    have e:0<na':=by
     have:na'≠0:=λz=>e (beq_iff_eq.mpr z)
     omega
    split
    ·exact wpS_pure (q2 _ _ _ _ _ _ sg h' ⟨e,by omega⟩ h2 (by rw [Array.size_push];omega))
    ·exact wpS_pure ⟨sg,_,_,_,_,_,rfl,h',⟨e,by omega⟩,h2,by rw [Array.size_push];omega⟩
  | false=>
   rw [if_neg Bool.false_ne_true]
   refine wpS_bind (Zaz hx ?_)
   have h':=h.pushB hx λz hz=>W.le_trans (ZdS W h.sa hy z hz) hb
   split
   ·rename_i e
    exact wpS_pure (q1 _ _ _ sg (h'.first T (eq_of_beq e)))
   ·rename_i e
    have e:1<nb':=by
     have:nb'≠1:=λz=>e (beq_iff_eq.mpr z)
     omega
    split
    ·exact wpS_pure (q2 _ _ _ _ _ _ sg h' h1 ⟨e,by omega⟩ (by rw [Array.size_push];omega))
    ·exact wpS_pure ⟨sg,_,_,_,_,_,rfl,h',h1,⟨e,by omega⟩,by rw [Array.size_push];omega⟩
 ·rintro r st1 ⟨sg,na',nb',out',ac,bc,rfl,h,h1,h2,h3⟩
  exact q2 _ _ _ _ _ _ sg h h1 h2 (by have:=T.na;simp at h3;omega)
section
variable {out:Array Keyed} {na nb:Nat} {st:SortSt} {Q:ForInStep MHt->SortSt->Prop}
structure Ziv (b:Keyed->Keyed->Bool) (a c:Array Keyed) (n:Nat) (st:SortSt) (Q:ForInStep MHt->SortSt->Prop):Prop where
 fin:∀ r y st',SameG st st'->Za5 b (a.toList++c.toList) r.toList->Q (.done (some r,y)) st'
 brk:∀ na' nb' out' y st',SameG st st'->MH b a c na' nb' out'->(0<na'/\na'<=a.size)->(1<nb'/\nb'<=c.size)->n<=out'.size->Q (.done (none,na',nb',out',y)) st'
 go:∀ na' nb' out' y st',SameG st st'->MH b a c na' nb' out'->(0<na'/\na'<=a.size)->(1<nb'/\nb'<=c.size)->n<=out'.size->Q (.yield (none,na',nb',out',y)) st'
theorem Zhi (T:Two b good a c) {mg ac bc n:Nat} (R:Ziv b a c n st Q) (h:MH b a c (na+1) nb out) (h1:na+1<=a.size) (h2:1<nb/\nb<=c.size) (hn:n<=out.size) (hl:∀ x,a[na]?=some x->∀ y∈c.toList.take nb,kle b y x) :
  wpS M A E s (mhD a c mg ac bc (na+1) nb out) Q st:=by
 unfold mhD
 dsimp only [Nat.add_sub_cancel]
 obtain ⟨x,hx,gx⟩:=T.at (i:=na) (by omega)
 refine wpS_bind (Zaz hx ?_)
 have h':=h.pushA hx (hl x hx)
 have hn':n<=(out.push x).size:=by rw [Array.size_push];omega
 split
 ·rename_i e
  exact wpS_pure (R.fin _ _ _ (SameG.refl _) (h'.done (.inl (eq_of_beq e))))
 ·rename_i e
  have e:0<na:=by
   have:na≠0:=λz=>e (beq_iff_eq.mpr z)
   omega
  split
  ·exact wpS_pure (R.brk _ _ _ _ _ (SameG.refl _) h' ⟨e,by omega⟩ h2 hn')
  ·exact wpS_pure (R.go _ _ _ _ _ (SameG.refl _) h' ⟨e,by omega⟩ h2 hn')
theorem Zhj (W:WO b) (L:ZcK M A E s kd b good) (T:Two b good a c) {mg ac bc n:Nat} (R:Ziv b a c n st Q) (hs:kindOf st=kd) (h:MH b a c (na+1) (nb+1) out) (h1:na+1<=a.size) (h2:0<nb/\nb+1<=c.size) (hn:n<=out.size)
  (hl:∀ x,c[nb]?=some x->∀ y∈a.toList.take (na+1),kle b y x):wpS M A E s (mhC a c mg ac bc (na+1) (nb+1) out) Q st:=by
 unfold mhC
 dsimp only [Nat.add_sub_cancel]
 obtain ⟨x,hx,gx⟩:=T.ct (i:=nb) (by omega)
 obtain ⟨y,hy,gy⟩:=T.at (i:=na) (by omega)
 refine wpS_bind (Zaz hx ?_)
 have h':=h.pushB hx (hl x hx)
 have hn':n<=(out.push x).size:=by rw [Array.size_push];omega
 generalize out.push x=out1 at h' hn'
 split
 ·rename_i e
  exact wpS_pure (R.fin _ _ _ (SameG.refl _) (h'.first T (eq_of_beq e)))
 ·rename_i e
  have e:1<nb:=by
   have:nb≠1:=λz=>e (beq_iff_eq.mpr z)
   omega
  refine wpS_bind (Zaz hy ?_)
  have G:Gal b good true y c 0 nb:=Zdw W gy (λi hi=>by rw [Nat.zero_add];exact T.ct (by omega)) (Zhg W h'.sb)
  refine wpS_bind (Zbb L G hs (by omega) λk hk k1 k2=>?_)
  dsimp only
  have tk:∀ z∈(c.extract k nb).toList,∀ v∈a.toList.take (na+1),kle b v z:=λz hz v hv=>by
   obtain ⟨i,hi,hj,ez⟩:=Ze8 hz
   have:=k2 i hi hj
   unfold byd at this
   rw [Nat.zero_add,ez] at this
   dsimp only at this
   rw [if_pos rfl] at this
   exact W.le_trans (ZdS W h'.sa hy v hv) this
  have tr:∀ v∈c.toList.take k,kle b v y:=λv hv=>by
   obtain ⟨i,hi,ev⟩:=taken hv
   have:=k1 i hi
   unfold byd at this
   rw [Nat.zero_add,ev] at this
   dsimp only at this
   rw [if_pos rfl] at this
   exact W.le_of_lt this
  split
  ·have h3:=h'.takeB hk tk
   have hn3:n<=(out1++(c.extract k nb).reverse).size:=by rw [Array.size_append];omega
   split
   ·rename_i e2
    exact wpS_pure (R.fin _ _ _ (SameG.refl _) (h3.first T (eq_of_beq e2)))
   ·rename_i e2
    split
    ·rename_i e3
     exact wpS_pure (R.fin _ _ _ (SameG.refl _) (h3.done (.inr (eq_of_beq e3))))
    ·rename_i e3
     have e4:1<k:=by
      have:k≠1:=λz=>e2 (beq_iff_eq.mpr z)
      have:k≠0:=λz=>e3 (beq_iff_eq.mpr z)
      omega
     exact Zhi T R h3 h1 ⟨e4,by omega⟩ hn3 λx' hx' v hv=>by
      rw [hy] at hx';cases hx'
      exact tr v hv
  ·have:k=nb:=by omega
   subst this
   exact Zhi T R h' h1 ⟨e,by omega⟩ hn' λx' hx' v hv=>by
    rw [hy] at hx';cases hx'
    exact tr v hv
theorem Zka (W:WO b) (L:ZcK M A E s kd b good) (T:Two b good a c) {mg ac bc n:Nat} (R:∀ st',SameG st st'->Ziv b a c n st' Q) (hs:kindOf st=kd) (h:MH b a c na (nb+1) out) (h1:0<na/\na<=a.size) (h2:0<nb/\nb+1<=c.size) (hn:n<=out.size) :
  wpS M A E s (mhB a c mg ac bc na (nb+1) out) Q st:=by
 unfold mhB
 refine wpS_bind (ZbR λst1 sg=>?_)
 have R:=R st1 sg
 have hs1:kindOf st1=kd:=sg.1.trans hs
 dsimp only [Nat.add_sub_cancel]
 obtain ⟨x,hx,gx⟩:=T.ct (i:=nb) (by omega)
 refine wpS_bind (Zaz hx ?_)
 have G:Gal b good false x a 0 na:=Zdw W gx (λi hi=>by rw [Nat.zero_add];exact T.at (by omega)) (Zhg W h.sa)
 refine wpS_bind (Zbb L G hs1 (by omega) λk hk k1 k2=>?_)
 dsimp only
 have tk:∀ z∈(a.extract k na).toList,∀ v∈c.toList.take (nb+1),kle b v z:=λz hz v hv=>by
  obtain ⟨i,hi,hj,ez⟩:=Ze8 hz
  have:=k2 i hi hj
  unfold byd at this
  rw [Nat.zero_add,ez] at this
  dsimp only at this
  rw [if_neg Bool.false_ne_true,Bool.not_eq_false'] at this
  exact W.le_trans (ZdS W h.sb hx v hv) (W.le_of_lt this)
 have tr:∀ v∈a.toList.take k,kle b v x:=λv hv=>by
  obtain ⟨i,hi,ev⟩:=taken hv
  have:=k1 i hi
  unfold byd at this
  rw [Nat.zero_add,ev] at this
  dsimp only at this
  rw [if_neg Bool.false_ne_true,Bool.not_eq_true'] at this
  exact this
 split
 ·have h3:=h.takeA hk tk
  have hn3:n<=(out++(a.extract k na).reverse).size:=by rw [Array.size_append];omega
  split
  ·rename_i e2
   exact wpS_pure (R.fin _ _ _ (SameG.refl _) (h3.done (.inl (eq_of_beq e2))))
  ·rename_i e2
   have:k≠0:=λz=>e2 (beq_iff_eq.mpr z)
   obtain ⟨k,rfl⟩:∃ n,k=n+1:=⟨k-1,by omega⟩
   exact Zhj W L T R hs1 h3 (by omega) h2 hn3 λx' hx' v hv=>by
    rw [hx] at hx';cases hx'
    exact tr v hv
 ·have:k=na:=by omega
  subst this
  obtain ⟨k,rfl⟩:∃ n,k=n+1:=⟨k-1,by omega⟩
  exact Zhj W L T R hs1 h (by omega) h2 hn λx' hx' v hv=>by
   rw [hx] at hx';cases hx'
   exact tr v hv
end
theorem Zhk (W:WO b) (L:ZcK M A E s kd b good) (T:Two b good a c) {out:Array Keyed} {na nb n:Nat} {y:Nat×Nat×Nat} {st:SortSt} (hs:kindOf st=kd) (h:MH b a c na nb out) (h1:0<na/\na<=a.size) (h2:1<nb/\nb<=c.size)
  {Q:MHt->SortSt->Prop} (q1:∀ r y st',SameG st st'->Za5 b (a.toList++c.toList) r.toList->Q (some r,y) st')
  (q2:∀ na' nb' out' y st',SameG st st'->MH b a c na' nb' out'->(0<na'/\na'<=a.size)->(1<nb'/\nb'<=c.size)->out.size<=out'.size->Q (none,na',nb',out',y) st') :
  wpS M A E s (forIn [:n] ((none,na,nb,out,y):MHt) (Zit a c)) Q st:=by
 refine wpS_forRange (λk r st'=>SameG st st'/\∃ na' nb' out' y,r=(none,na',nb',out',y)/\MH b a c na' nb' out'/\(0<na'/\na'<=a.size)/\(1<nb'/\nb'<=c.size)/\out.size<=out'.size) ?_ ?_ ⟨SameG.refl _,_,_,_,_,rfl,h,h1,h2,Nat.le_refl _⟩
 ·rintro k r st1 _ hk ⟨sg,na',nb',out',y,rfl,h,h1,h2,h3⟩
  have hs1:kindOf st1=kd:=sg.1.trans hs
  have R:∀ st',SameG st1 st'->Ziv b a c out.size st' (λr st'=>match r with
   | .done c'=>Q c' st'
   | .yield c'=>SameG st st'/\∃ na' nb' out' y,c'=(none,na',nb',out',y)/\MH b a c na' nb' out'/\(0<na'/\na'<=a.size)/\(1<nb'/\nb'<=c.size)/\out.size<=out'.size):=λst' sg'=>
   ⟨λr y st2 g m=>q1 r y st2 ((sg.trans sg').trans g) m,λo i j y st2 g m p1 p2 p3=>q2 o i j y st2 ((sg.trans sg').trans g) m p1 p2 p3,λo i j y st2 g m p1 p2 p3=>⟨(sg.trans sg').trans g,o,i,j,y,rfl,m,p1,p2,p3⟩⟩
  unfold Zit
  dsimp only
  obtain ⟨nb',rfl⟩:∃ n,nb'=n+1:=⟨nb' - 1,by omega⟩
  have mono:∀ mg,wpS M A E s (mhB a c mg y.2.1 y.2.2 na' (nb'+1) out') _ st1:=λmg=>Zka W L T R hs1 h h1 ⟨by omega,h2.2⟩ h3
  split
  ·exact wpS_mono (mono _) λr st' hr=>by cases r <;> exact hr
  ·exact wpS_mono (mono _) λr st' hr=>by cases r <;> exact hr
 ·rintro r st1 ⟨sg,na',nb',out',y,rfl,h,h1,h2,h3⟩
  exact q2 _ _ _ _ _ sg h h1 h2 h3
theorem Ze9 (W:WO b) (L:ZcK M A E s kd b good) (T:Two b good a c) {st:SortSt} (hs:kindOf st=kd) {Q:Array Keyed->SortSt->Prop}
  (q:∀ r st',SameG st st'->Za5 b (a.toList++c.toList) r.toList->Q r st'):wpS M A E s (ZdO a c) Q st:=by
 rw [Ze7]
 refine wpS_bind (wpS_lift (wpAny_rule ⟨rfl,?_⟩))
 have hc:=T.nc
 have ha:=T.na
 obtain ⟨x,hx,gx⟩:=T.at (i:=a.size-1) (by omega)
 refine wpS_bind (Zaz hx ?_)
 have h0:MH b a c (a.size-1) c.size #[x]:=by
  have z:MH b a c (a.size-1+1) c.size #[]:=by
   unfold MH
   rw [Nat.sub_add_cancel (by omega),List.take_of_length_le (by simp),List.take_of_length_le (by simp)]
   exact ⟨by simp,by simp,by simp,T.sa,T.sc⟩
  exact z.pushA hx λy hy=>T.last x hx y (List.mem_of_mem_take hy)
 dsimp only
 split
 ·rename_i e
  exact wpS_pure (q _ _ (SameG.refl _) (h0.done (.inl (eq_of_beq e))))
 ·rename_i e
  have e:0<a.size-1:=by
   have:a.size-1≠0:=λz=>e (beq_iff_eq.mpr z)
   omega
  split
  ·rename_i e2
   exact wpS_pure (q _ _ (SameG.refl _) (h0.first T (eq_of_beq e2)))
  ·rename_i e2
   have e2:1<c.size:=by
    have:c.size≠1:=λz=>e2 (beq_iff_eq.mpr z)
    omega
   refine wpS_bind (wpS_get ?_)
   refine wpS_bind (wpS_forRange (λk r st'=>SameG st st'/\∃ na' nb' out' mg,r=(none,na',nb',out',mg)/\MH b a c na' nb' out'/\(0<na'/\na'<=a.size)/\(1<nb'/\nb'<=c.size)/\k<out'.size) ?_ ?_ ⟨SameG.refl _,_,_,_,_,rfl,h0,⟨e,by omega⟩,⟨e2,Nat.le_refl _⟩,by simp⟩)
   ·rintro k r st1 _ hk ⟨sg,na',nb',out',mg,rfl,h,h1,h2,h3⟩
    have hs1:kindOf st1=kd:=sg.1.trans hs
    unfold Ziu
    dsimp only
    refine wpS_bind (Zhh W L T hs1 h h1 h2 (λr y st2 g m=>?_) (λo i j ac bc st2 g m p1 p2 p3=>?_))
    ·refine wpS_pure ?_
     dsimp only
     exact wpS_pure (q r st2 (sg.trans g) m)
    ·dsimp only
     refine wpS_bind (wpS_lift (wpAny_rule ⟨rfl,?_⟩))
     refine wpS_bind (Zhk W L T (g.1.trans hs1) m p1 p2 (λr y st3 g3 m3=>?_) (λo3 i3 j3 y3 st3 g3 m3 r1 r2 r3=>?_))
     ·refine wpS_pure ?_
      dsimp only
      exact wpS_pure (q r st3 ((sg.trans g).trans g3) m3)
     ·dsimp only
      refine wpS_bind (ZbR λst4 g4=>?_)
      exact wpS_pure ⟨((sg.trans g).trans g3).trans g4,_,_,_,_,rfl,m3,r1,r2,by omega⟩
   ·rintro r st1 ⟨sg,na',nb',out',mg,rfl,h,h1,h2,h3⟩
    exfalso
    have:=MrgH.len h
    rw [List.length_append,List.length_take,List.length_take,List.length_reverse,Array.length_toList,Array.length_toList,Array.length_toList] at this
    simp at h3
    omega
end
end L2
namespace L2
open PySem PySem.Spec PyProof.Rows
abbrev Asc:=Option (Option Nat)×Nat
abbrev Dsc:=Option (Option Nat)×Nat×Nat
def Zkb (lo:Nat):Nat->Asc->StateT SortSt Sem (ForInStep Asc):=λ_ r=>do
 match <- ltAt' (lo+r.2) (lo+r.2-1) with
 | some smaller=>if smaller=true then pure (.done (none,r.2)) else pure (.yield (none,r.2+1))
 | _=>pure (.done (some none,r.2))
def ZmG (lo:Nat):Nat->Dsc->StateT SortSt Sem (ForInStep Dsc):=λ_ r=>do
 match <- ltAt' (lo+r.2.1) (lo+r.2.1-1) with
 | some smaller=>
  if smaller=true then
   if r.2.2 > 0 then do
    reverseSlice' (lo+r.2.1-(r.2.2+1)) (lo+r.2.1)
    pure (.yield (none,r.2.1+1,0))
   else pure (.yield (none,r.2.1+1,0))
  else do
   match <- ltAt' (lo+r.2.1-1) (lo+r.2.1) with
   | some larger=>if larger=true then pure (.done (none,r.2.1,r.2.2)) else pure (.yield (none,r.2.1+1,r.2.2+1))
   | _=>pure (.done (some none,r.2.1,r.2.2))
 | _=>pure (.done (some none,r.2.1,r.2.2))
def Zex (lo n nrem:Nat):StateT SortSt Sem (Option Nat):=do
 reverseSlice' lo (lo+n)
 let r <- forIn [n:nrem] ((none,n):Asc) (Zkb lo)
 match r.1 with
 | some x=>pure x
 | none=>pure (some r.2)
def Zge (lo n nrem:Nat):StateT SortSt Sem (Option Nat):=do
 liftM (rule "list.sort.descending-run")
 let r <- forIn [n+1:nrem] ((none,n+1,0):Dsc) (ZmG lo)
 match r.1 with
 | some x=>pure x
 | none=>(if r.2.2 > 0 then (do
   reverseSlice' (lo+r.2.1-(r.2.2+1)) (lo+r.2.1)
   Zex lo r.2.1 nrem) else Zex lo r.2.1 nrem)
theorem Zfa (lo nrem:Nat):countRun' lo nrem=(do
  let r <- forIn [1:nrem] ((none,1):Asc) (Zkb lo)
  match r.1 with
  | some x=>pure x
  | none=>(if (r.2 == nrem)=true then pure (some r.2) else (if r.2 > 1 then (do
    match <- ltAt' lo (lo+r.2-1) with
    | some rose=>(if rose=true then pure (some r.2) else (do
      reverseSlice' lo (lo+r.2)
      Zge lo r.2 nrem))
    | _=>pure none)
   else Zge lo r.2 nrem))):=by
 rw [countRun'_eq]
 refine (congrArg (λm:StateT SortSt Sem Asc=>m >>= _) (Zc7 (r:=[1:nrem]) (c:=((none,1):Asc)) (g:=Zkb lo) λi r=>rfl)).trans ?_
 refine Za0 λr=>?_
 obtain ⟨r1,r2⟩:=r
 cases r1 with
 | some z=>rfl
 | none=>
  refine ZdQ (c:=(r2 == nrem)=true) rfl ?_
  refine ZdQ (c:=r2 > 1) ?_ ?_
  ·refine Za0 λz=>?_
   cases z with
   | none=>rfl
   | some z=>
    refine ZdQ (c:=z=true) rfl ?_
    refine Za0 λ_=>?_
    unfold Zge
    refine Za0 λ_=>?_
    refine (congrArg (λm:StateT SortSt Sem Dsc=>m >>= _) (Zc7 (r:=[r2+1:nrem]) (c:=((none,r2+1,0):Dsc)) (g:=ZmG lo) λi r=>rfl)).trans ?_
    refine Za0 λr=>?_
    obtain ⟨r1,r2,r3⟩:=r
    cases r1 with
    | some z=>rfl
    | none=>
     refine ZdQ (c:=r3 > 0) (Za0 λ_=>?_) ?_
     all_goals
      unfold Zex
      refine Za0 λ_=>?_
      refine (congrArg (λm:StateT SortSt Sem Asc=>m >>= _) (Zc7 (r:=[r2:nrem]) (c:=((none,r2):Asc)) (g:=Zkb lo) λi r=>rfl)).trans ?_
      refine Za0 λr=>?_
      obtain ⟨r1,r2⟩:=r
      cases r1 <;> rfl
  ·unfold Zge
   refine Za0 λ_=>?_
   refine (congrArg (λm:StateT SortSt Sem Dsc=>m >>= _) (Zc7 (r:=[r2+1:nrem]) (c:=((none,r2+1,0):Dsc)) (g:=ZmG lo) λi r=>rfl)).trans ?_
   refine Za0 λr=>?_
   obtain ⟨r1,r2,r3⟩:=r
   cases r1 with
   | some z=>rfl
   | none=>
    refine ZdQ (c:=r3 > 0) (Za0 λ_=>?_) ?_
    all_goals
     unfold Zex
     refine Za0 λ_=>?_
     refine (congrArg (λm:StateT SortSt Sem Asc=>m >>= _) (Zc7 (r:=[r2:nrem]) (c:=((none,r2):Asc)) (g:=Zkb lo) λi r=>rfl)).trans ?_
     refine Za0 λr=>?_
     obtain ⟨r1,r2⟩:=r
     cases r1 <;> rfl
end L2
namespace L2
open PySem PySem.Spec PyProof.Rows
structure Ah (lo:Nat) (st st':SortSt):Prop where
 kd:kindOf st'=kindOf st
 pe:pendingOf st'=pendingOf st
 fa:failedOf st'=failedOf st
 pm:(arrOf st').Perm (arrOf st)
 lw:∀ i,i<lo->(arrOf st')[i]?=(arrOf st)[i]?
theorem Ah.refl (lo:Nat) (st:SortSt):Ah lo st st:=⟨rfl,rfl,rfl,.refl _,λ_ _=>rfl⟩
theorem Ah.trans {lo:Nat} {st st' st'':SortSt} (h:Ah lo st st') (k:Ah lo st' st''):Ah lo st st'':=
 ⟨k.kd.trans h.kd,k.pe.trans h.pe,k.fa.trans h.fa,k.pm.trans h.pm,λi hi=>(k.lw i hi).trans (h.lw i hi)⟩
theorem Ah.size {lo:Nat} {st st':SortSt} (h:Ah lo st st'):(arrOf st').size=(arrOf st).size:=h.pm.size_eq
def AllG (good:Keyed->Prop) (arr:Array Keyed):Prop:=∀ x∈arr.toList,good x
theorem AllG.perm {good:Keyed->Prop} {a c:Array Keyed} (h:AllG good a) (p:c.Perm a):AllG good c:=λx hx=>h x (p.toList.mem_iff.mp hx)
theorem AllG.at {good:Keyed->Prop} {a:Array Keyed} (h:AllG good a) {i:Nat} (hi:i<a.size):∃ x,a[i]?=some x/\good x:=⟨a[i],by simp [hi],h _ (by simp)⟩
def ZhV (b:Keyed->Keyed->Bool) (arr:Array Keyed) (lo hi:Nat):Prop:=∀ i j x y,lo<=i->i<=j->j<hi->arr[i]?=some x->arr[j]?=some y->kle b y x
section
variable {M:Model} {A:Around} {E:Value->Shared->Prop} {s:Shared} {kd:SortKind} {b:Keyed->Keyed->Bool} {good:Keyed->Prop}
theorem Zck {st:SortSt} {i j:Nat} {Q:Option Bool->SortSt->Prop} (L:ZcK M A E s kd b good) (hs:kindOf st=kd) (G:AllG good (arrOf st)) (hi:i<(arrOf st).size) (hj:j<(arrOf st).size)
  (q:∀ x y,(arrOf st)[i]?=some x->(arrOf st)[j]?=some y->Q (some (b x y)) st):wpS M A E s (ltAt' i j) Q st:=by
 obtain ⟨x,hx,gx⟩:=G.at hi
 obtain ⟨y,hy,gy⟩:=G.at hj
 rw [ltAt'_eq]
 refine wpS_bind (wpS_get ?_)
 exact wpS_bind (Zaz hx (wpS_bind (Zaz hy (L x y st Q gx gy hs (q x y hx hy)))))
theorem Zkc (arr:Array Keyed) (W:WO b) (lo:Nat):Rng b arr lo (lo+1):=λi j x y h1 h2 h3 e1 e2=>by
 have:i=j:=by omega
 subst this
 rw [e1] at e2;cases e2
 exact W.le_refl _
theorem Ziw {arr:Array Keyed} (W:WO b) {lo n:Nat} {x y:Keyed} (h:Rng b arr lo (lo+n)) (hn:0<n) (hx:arr[lo+n-1]?=some x) (hy:arr[lo+n]?=some y) (hxy:kle b x y):Rng b arr lo (lo+n+1):=λi j u v h1 h2 h3 e1 e2=>by
 by_cases hj:j<lo+n
 ·exact h i j u v h1 h2 hj e1 e2
 ·have:j=lo+n:=by omega
  subst this
  rw [hy] at e2;cases e2
  by_cases hi:i=lo+n
  ·subst hi
   rw [hy] at e1;cases e1
   exact W.le_refl _
  ·exact W.le_trans (h i (lo+n-1) u x h1 (by omega) (by omega) e1 hx) hxy
theorem ZbD {arr:Array Keyed} (W:WO b) {lo n:Nat} {x y:Keyed} (h:ZhV b arr lo (lo+n)) (hn:0<n) (hx:arr[lo+n-1]?=some x) (hy:arr[lo+n]?=some y) (hxy:kle b y x):ZhV b arr lo (lo+n+1):=λi j u v h1 h2 h3 e1 e2=>by
 by_cases hj:j<lo+n
 ·exact h i j u v h1 h2 hj e1 e2
 ·have:j=lo+n:=by omega
  subst this
  rw [hy] at e2;cases e2
  by_cases hi:i=lo+n
  ·subst hi
   rw [hy] at e1;cases e1
   exact W.le_refl _
  ·exact W.le_trans hxy (h i (lo+n-1) u x h1 (by omega) (by omega) e1 hx)
theorem Zhl (W:WO b) (L:ZcK M A E s kd b good) {st:SortSt} {lo a nrem:Nat} {Q:Asc->SortSt->Prop} (hs:kindOf st=kd) (G:AllG good (arrOf st)) (hn:lo+nrem<=(arrOf st).size) (h1:1<=a) (h2:a<=nrem) (h3:Rng b (arrOf st) lo (lo+a))
  (q:∀ n,a<=n->n<=nrem->Rng b (arrOf st) lo (lo+n)->(n=nrem\/∃ x y,(arrOf st)[lo+n-1]?=some x/\(arrOf st)[lo+n]?=some y/\b y x=true)->Q (none,n) st):wpS M A E s (forIn [a:nrem] ((none,a):Asc) (Zkb lo)) Q st:=by
 refine wpS_forRange (λk r st'=>st'=st/\r=(none,k)/\a<=k/\k<=nrem/\Rng b (arrOf st) lo (lo+k)) ?_ ?_ ⟨rfl,rfl,Nat.le_refl _,h2,h3⟩
 ·rintro k r st' _ hk ⟨rfl,rfl,h4,h5,h6⟩
  unfold Zkb
  refine wpS_bind (Zck L hs G (by show lo+k<_;omega) (by show lo+k-1<_;omega) λy x hy hx=>?_)
  dsimp only
  split
  ·rename_i hb
   exact wpS_pure (q k h4 h5 h6 (.inr ⟨x,y,hx,hy,hb⟩))
  ·rename_i hb
   exact wpS_pure ⟨rfl,rfl,by omega,by omega,Ziw W h6 (by omega) hx hy (Bool.eq_false_iff.mpr hb)⟩
 ·rintro r st' ⟨rfl,rfl,h4,h5,h6⟩
  rw [Nat.max_eq_right h2] at h6 ⊢
  exact q nrem h2 (Nat.le_refl _) h6 (.inl rfl)
def Zhm (b:Keyed->Keyed->Bool) (arr:Array Keyed) (lo hi:Nat):Prop:=∀ i j x y,lo<=i->i<hi->lo<=j->j<hi->arr[i]?=some x->arr[j]?=some y->kle b x y
theorem Zcl {st:SortSt} {lo i j:Nat} (h:lo<=i) (hj:j<=(arrOf st).size):Ah lo st (setArr st (mirror (arrOf st) i j ((j-i) / 2))):=by
 refine ⟨rfl,rfl,rfl,mirror_perm _ _ _ _,λk hk=>?_⟩
 show (mirror (arrOf st) i j ((j-i) / 2))[k]?=_
 rw [getElem?_mirror_all hj,if_neg (by omega)]
theorem Zgf {arr:Array Keyed} {lo hi:Nat} (hj:hi<=arr.size) (h:ZhV b arr lo hi):Rng b (mirror arr lo hi ((hi-lo) / 2)) lo hi:=λi j x y h1 h2 h3 e1 e2=>by
 rw [getElem?_mirror_all hj,if_pos (by omega)] at e1 e2
 exact h (lo+hi-1-j) (lo+hi-1-i) y x (by omega) (by omega) (by omega) e2 e1
theorem Zb5 {arr:Array Keyed} {lo hi i j:Nat} (hj:j<=arr.size) (h1:lo<=i) (h2:i<=j) (h3:j<=hi) (hA:Zhm b arr i j) (h:ZhV b arr lo hi):ZhV b (mirror arr i j ((j-i) / 2)) lo hi:=λp q x y k1 k2 k3 e1 e2=>by
 rw [getElem?_mirror_all hj] at e1 e2
 by_cases hp:i<=p/\p<j
 ·rw [if_pos hp] at e1
  by_cases hq:i<=q/\q<j
  ·rw [if_pos hq] at e2
   exact hA (i+j-1-q) (i+j-1-p) y x (by omega) (by omega) (by omega) (by omega) e2 e1
  ·rw [if_neg hq] at e2
   exact h _ q x y (by omega) (by omega) k3 e1 e2
 ·rw [if_neg hp] at e1
  by_cases hq:i<=q/\q<j
  ·rw [if_pos hq] at e2
   exact h p _ x y k1 (by omega) (by omega) e1 e2
  ·rw [if_neg hq] at e2
   exact h p q x y k1 k2 k3 e1 e2
def Znk (b:Keyed->Keyed->Bool) (lo nrem:Nat) (st:SortSt) (Q:Option Nat->SortSt->Prop):Prop:=∀ m st',Ah lo st st'->1<=m->m<=nrem->Rng b (arrOf st') lo (lo+m)->Q (some m) st'
theorem Zey (W:WO b) (L:ZcK M A E s kd b good) {st:SortSt} {lo n nrem:Nat} {Q:Option Nat->SortSt->Prop} (hs:kindOf st=kd) (G:AllG good (arrOf st)) (hn:lo+nrem<=(arrOf st).size) (h1:1<=n) (h2:n<=nrem) (h3:ZhV b (arrOf st) lo (lo+n))
  (q:Znk b lo nrem st Q):wpS M A E s (Zex lo n nrem) Q st:=by
 unfold Zex
 rw [reverseSlice'_eq]
 refine wpS_bind (wpS_modify ?_)
 have ah:=Zcl (st:=st) (lo:=lo) (i:=lo) (j:=lo+n) (Nat.le_refl _) (by omega)
 have r:=Zgf (arr:=arrOf st) (lo:=lo) (hi:=lo+n) (by omega) h3
 generalize hst:setArr st (mirror (arrOf st) lo (lo+n) ((lo+n-lo) / 2))=st1 at ah
 have e1:arrOf st1=mirror (arrOf st) lo (lo+n) ((lo+n-lo) / 2):=by rw [<-hst]
 rw [<-e1] at r
 refine wpS_bind (Zhl W L (ah.kd.trans hs) (G.perm ah.pm) (by rw [ah.size];exact hn) h1 h2 r λm k1 k2 k3 _=>?_)
 dsimp only
 exact wpS_pure (q m st1 ah (by omega) k2 k3)
theorem Zez (W:WO b) (L:ZcK M A E s kd b good) {st:SortSt} {lo n nrem:Nat} {Q:Option Nat->SortSt->Prop} (hs:kindOf st=kd) (G:AllG good (arrOf st)) (hn:lo+nrem<=(arrOf st).size) (h2:n+1<=nrem) (h3:ZhV b (arrOf st) lo (lo+(n+1)))
  (q:Znk b lo nrem st Q):wpS M A E s (Zge lo n nrem) Q st:=by
 unfold Zge
 refine wpS_bind (wpS_lift (wpAny_rule ⟨rfl,?_⟩))
 have fin:∀ m neq st1,Ah lo st st1->n+1<=m->m<=nrem->ZhV b (arrOf st1) lo (lo+m)->neq+1<=m->Zhm b (arrOf st1) (lo+m-(neq+1)) (lo+m) ->
   wpS M A E s (if neq > 0 then (do reverseSlice' (lo+m-(neq+1)) (lo+m);Zex lo m nrem) else Zex lo m nrem) Q st1:=by
  intro m neq st1 ah k1 k2 k3 k4 k5
  have G1:=G.perm ah.pm
  have hn1:lo+nrem<=(arrOf st1).size:=by rw [ah.size];exact hn
  split
  ·rw [reverseSlice'_eq]
   refine wpS_bind (wpS_modify ?_)
   have ah2:=Zcl (st:=st1) (lo:=lo) (i:=lo+m-(neq+1)) (j:=lo+m) (by omega) (by omega)
   have r:=Zb5 (arr:=arrOf st1) (lo:=lo) (hi:=lo+m) (i:=lo+m-(neq+1)) (j:=lo+m) (by omega) (by omega) (by omega) (Nat.le_refl _) k5 k3
   generalize hst:setArr st1 (mirror (arrOf st1) (lo+m-(neq+1)) (lo+m) ((lo+m-(lo+m-(neq+1))) / 2))=st2 at ah2
   have e1:arrOf st2=mirror (arrOf st1) (lo+m-(neq+1)) (lo+m) ((lo+m-(lo+m-(neq+1))) / 2):=by rw [<-hst]
   rw [<-e1] at r
   have ah3:=ah.trans ah2
   exact Zey W L (ah3.kd.trans hs) (G.perm ah3.pm) (by rw [ah3.size];exact hn) (by omega) k2 r λm' st' a'=>q m' st' (ah3.trans a')
  ·exact Zey W L (ah.kd.trans hs) G1 hn1 (by omega) k2 k3 λm' st' a'=>q m' st' (ah.trans a')
 have al0:∀ (arr:Array Keyed) m,Zhm b arr (lo+m-(0+1)) (lo+m):=λarr m i j x y i1 i2 i3 i4 e1 e2=>by
  have:i=j:=by omega
  subst this
  rw [e1] at e2;cases e2
  exact W.le_refl _
 refine wpS_bind (wpS_forRange (λk r st1=>Ah lo st st1/\∃ neq,r=(none,k,neq)/\n+1<=k/\k<=nrem/\ZhV b (arrOf st1) lo (lo+k)/\neq+1<=k/\Zhm b (arrOf st1) (lo+k-(neq+1)) (lo+k)) ?_ ?_ ⟨Ah.refl _ _,0,rfl,Nat.le_refl _,h2,h3,by omega,al0 _ _⟩)
 ·rintro k r st1 _ hk ⟨ah,neq,rfl,k1,k2,k3,k4,k5⟩
  have G1:=G.perm ah.pm
  have hn1:lo+nrem<=(arrOf st1).size:=by rw [ah.size];exact hn
  have hs1:=ah.kd.trans hs
  unfold ZmG
  refine wpS_bind (Zck L hs1 G1 (by show lo+k<_;omega) (by show lo+k-1<_;omega) λy x hy hx=>?_)
  dsimp only
  split
  ·rename_i hb
   have hyx:=W.le_of_lt hb
   split
   ·rw [reverseSlice'_eq]
    refine wpS_bind (wpS_modify ?_)
    have ah2:=Zcl (st:=st1) (lo:=lo) (i:=lo+k-(neq+1)) (j:=lo+k) (by omega) (by omega)
    have r:=Zb5 (arr:=arrOf st1) (lo:=lo) (hi:=lo+k) (i:=lo+k-(neq+1)) (j:=lo+k) (by omega) (by omega) (by omega) (Nat.le_refl _) k5 k3
    have e3:(mirror (arrOf st1) (lo+k-(neq+1)) (lo+k) ((lo+k-(lo+k-(neq+1))) / 2))[lo+k]?=some y:=by rw [getElem?_mirror_all (by omega),if_neg (by omega)];exact hy
    have e4:∃ z,(mirror (arrOf st1) (lo+k-(neq+1)) (lo+k) ((lo+k-(lo+k-(neq+1))) / 2))[lo+k-1]?=some z/\kle b y z:=by
     obtain ⟨z,hz,_⟩:=G1.at (i:=lo+k-(neq+1)) (by omega)
     refine ⟨z,?_,W.le_trans hyx (k3 (lo+k-(neq+1)) (lo+k-1) z x (by omega) (by omega) (by omega) hz hx)⟩
     rw [getElem?_mirror_all (by omega),if_pos (by omega),<-hz]
     congr 1
     omega
    generalize hst:setArr st1 (mirror (arrOf st1) (lo+k-(neq+1)) (lo+k) ((lo+k-(lo+k-(neq+1))) / 2))=st2 at ah2
    have e1:arrOf st2=mirror (arrOf st1) (lo+k-(neq+1)) (lo+k) ((lo+k-(lo+k-(neq+1))) / 2):=by rw [<-hst]
    rw [<-e1] at r e3 e4
    obtain ⟨z,hz,hyz⟩:=e4
    exact wpS_pure ⟨ah.trans ah2,0,rfl,by omega,by omega,ZbD W r (by omega) hz e3 hyz,by omega,al0 _ _⟩
   ·exact wpS_pure ⟨ah,0,rfl,by omega,by omega,ZbD W k3 (by omega) hx hy hyx,by omega,al0 _ _⟩
  ·rename_i hb
   have hxy:kle b x y:=Bool.eq_false_iff.mpr hb
   refine wpS_bind (Zck L hs1 G1 (by show lo+k-1<_;omega) (by show lo+k<_;omega) λx' y' hx' hy'=>?_)
   rw [hx] at hx';cases hx'
   rw [hy] at hy';cases hy'
   dsimp only
   split
   ·refine wpS_pure ?_
    dsimp only
    exact fin k neq st1 ah k1 k2 k3 k4 k5
   ·rename_i hb2
    have hyx:kle b y x:=Bool.eq_false_iff.mpr hb2
    refine wpS_pure ⟨ah,neq+1,rfl,by omega,by omega,ZbD W k3 (by omega) hx hy hyx,by omega,λi j u v i1 i2 i3 i4 e1 e2=>?_⟩
    have toX:∀ i u,lo+k-(neq+1)<=i->i<lo+(k+1)->(arrOf st1)[i]?=some u->kle b u x/\kle b x u:=λi u p1 p2 e=>by
     by_cases hi:i<lo+k
     ·exact ⟨k5 i (lo+k-1) u x p1 hi (by omega) (by omega) e hx,k5 (lo+k-1) i x u (by omega) (by omega) p1 hi hx e⟩
     ·have:i=lo+k:=by omega
      subst this
      rw [hy] at e;cases e
      exact ⟨hyx,hxy⟩
    exact W.le_trans (toX i u (by omega) i2 e1).1 (toX j v (by omega) i4 e2).2
 ·rintro r st1 ⟨ah,neq,rfl,k1,k2,k3,k4,k5⟩
  dsimp only
  rw [Nat.max_eq_right h2] at *
  exact fin nrem neq st1 ah k1 k2 k3 k4 k5
theorem ZdT (W:WO b) (L:ZcK M A E s kd b good) {st:SortSt} {lo nrem:Nat} {Q:Option Nat->SortSt->Prop} (hs:kindOf st=kd) (G:AllG good (arrOf st)) (hn:lo+nrem<=(arrOf st).size) (h1:1<=nrem)
  (q:Znk b lo nrem st Q):wpS M A E s (countRun' lo nrem) Q st:=by
 rw [Zfa]
 refine wpS_bind (Zhl W L hs G hn (Nat.le_refl _) h1 (Zkc _ W _) λn k1 k2 k3 k4=>?_)
 dsimp only
 split
 ·exact wpS_pure (q n st (Ah.refl _ _) k1 k2 k3)
 ·rename_i e
  have e:n≠nrem:=λz=>e (beq_iff_eq.mpr z)
  obtain ⟨x,y,hx,hy,hb⟩:=k4.resolve_left e
  have hyx:=W.le_of_lt hb
  split
  ·rename_i e1
   refine wpS_bind (Zck L hs G (by omega) (by omega) λu v hu hv=>?_)
   rw [hx] at hv;cases hv
   dsimp only
   split
   ·exact wpS_pure (q n st (Ah.refl _ _) k1 k2 k3)
   ·rename_i hb2
    have hxu:kle b x u:=Bool.eq_false_iff.mpr hb2
    have al:Zhm b (arrOf st) lo (lo+n):=λi j p r i1 i2 i3 i4 e1 e2=>
     W.le_trans (k3 i (lo+n-1) p x i1 (by omega) (by omega) e1 hx) (W.le_trans hxu (k3 lo j u r (Nat.le_refl _) i3 i4 hu e2))
    have ni:ZhV b (arrOf st) lo (lo+n):=λi j p r i1 i2 i3 e1 e2=>al j i r p (by omega) i3 i1 (by omega) e2 e1
    rw [reverseSlice'_eq]
    refine wpS_bind (wpS_modify ?_)
    have ah:=Zcl (st:=st) (lo:=lo) (i:=lo) (j:=lo+n) (Nat.le_refl _) (by omega)
    have r:=Zb5 (arr:=arrOf st) (lo:=lo) (hi:=lo+n) (i:=lo) (j:=lo+n) (by omega) (Nat.le_refl _) (by omega) (Nat.le_refl _) al ni
    have e3:(mirror (arrOf st) lo (lo+n) ((lo+n-lo) / 2))[lo+n]?=some y:=by rw [getElem?_mirror_all (by omega),if_neg (by omega)];exact hy
    have e4:(mirror (arrOf st) lo (lo+n) ((lo+n-lo) / 2))[lo+n-1]?=some u:=by
     rw [getElem?_mirror_all (by omega),if_pos (by omega),<-hu]
     congr 1
     omega
    generalize hst:setArr st (mirror (arrOf st) lo (lo+n) ((lo+n-lo) / 2))=st2 at ah
    have e1:arrOf st2=mirror (arrOf st) lo (lo+n) ((lo+n-lo) / 2):=by rw [<-hst]
    rw [<-e1] at r e3 e4
    exact Zez W L (ah.kd.trans hs) (G.perm ah.pm) (by rw [ah.size];exact hn) (by omega) (ZbD W r (by omega) e4 e3 (W.le_trans hyx hxu)) λm' st' a'=>q m' st' (ah.trans a')
  ·have:n=1:=by omega
   subst this
   refine Zez W L hs G hn (by omega) (ZbD W (λi j p r i1 i2 i3 e1 e2=>?_) (by omega) hx hy hyx) q
   have:i=j:=by omega
   subst this
   rw [e1] at e2;cases e2
   exact W.le_refl _
end
end L2
namespace L2
open PySem PySem.Spec PyProof.Rows
section
variable {M:Model} {A:Around} {E:Value->Shared->Prop} {s:Shared} {kd:SortKind} {b:Keyed->Keyed->Bool} {good:Keyed->Prop}
theorem Zgg (W:WO b) {arr:Array Keyed} {lo k l:Nat} {p:Keyed} (hk:lo+k<arr.size) (hl:l<=k) (h:Rng b arr lo (lo+k)) (hp:arr[lo+k]?=some p) (h1:∀ i x,i<l->arr[lo+i]?=some x->kle b x p) (h2:∀ i x,l<=i->i<k->arr[lo+i]?=some x->kle b p x) :
  Rng b (bubble arr (lo+k) (lo+k-(lo+l))) lo (lo+(k+1)):=by
 have e0:lo+k-(lo+k-(lo+l))=lo+l:=by omega
 have at_:∀ q,(bubble arr (lo+k) (lo+k-(lo+l)))[q]?=if q=lo+l then some p else if lo+l<q/\q<=lo+k then arr[q-1]? else arr[q]?:=λq=>by
  rw [getElem?_bubble hk _ (by omega),e0,hp]
 intro i j x y i1 i2 i3 e1 e2
 rw [at_] at e1 e2
 have low:∀ q z,lo<=q->q<lo+l->arr[q]?=some z->kle b z p:=λq z q1 q2 e=>h1 (q-lo) z (by omega) (by rw [Nat.add_sub_cancel' q1];exact e)
 have high:∀ q z,lo+l<=q->q<lo+k->arr[q]?=some z->kle b p z:=λq z q1 q2 e=>h2 (q-lo) z (by omega) (by omega) (by rw [Nat.add_sub_cancel' (by omega)];exact e)
 by_cases ci:i=lo+l
 ·rw [if_pos ci] at e1
  cases e1
  by_cases cj:j=lo+l
  ·rw [if_pos cj] at e2
   cases e2
   exact W.le_refl _
  ·rw [if_neg cj,if_pos (by omega)] at e2
   exact high (j-1) y (by omega) (by omega) e2
 ·rw [if_neg ci] at e1
  by_cases di:lo+l<i/\i<=lo+k
  ·rw [if_pos di] at e1
   rw [if_neg (by omega),if_pos (by omega)] at e2
   exact h (i-1) (j-1) x y (by omega) (by omega) (by omega) e1 e2
  ·rw [if_neg di] at e1
   by_cases cj:j=lo+l
   ·rw [if_pos cj] at e2
    cases e2
    exact low i x i1 (by omega) e1
   ·rw [if_neg cj] at e2
    by_cases dj:lo+l<j/\j<=lo+k
    ·rw [if_pos dj] at e2
     exact h i (j-1) x y i1 (by omega) (by omega) e1 e2
    ·rw [if_neg dj] at e2
     exact h i j x y i1 i2 (by omega) e1 e2
theorem Zhn {st:SortSt} {lo src d:Nat} (h1:src<(arrOf st).size) (h2:d<=src) (h3:lo<=src-d):Ah lo st (setArr st (bubble (arrOf st) src d)):=by
 refine ⟨rfl,rfl,rfl,bubble_perm _ _ _,λk hk=>?_⟩
 show (bubble (arrOf st) src d)[k]?=_
 rw [getElem?_bubble h1 _ h2,if_neg (by omega),if_neg (by omega)]
theorem Zgh (W:WO b) (L:ZcK M A E s kd b good) {st:SortSt} {lo n ok:Nat} {Q:Bool->SortSt->Prop} (hs:kindOf st=kd) (G:AllG good (arrOf st)) (hn:lo+n<=(arrOf st).size) (h1:1<=ok) (h2:ok<=n) (h3:Rng b (arrOf st) lo (lo+ok))
  (q:∀ st',Ah lo st st'->Rng b (arrOf st') lo (lo+n)->Q true st'):wpS M A E s (binarySort' lo n ok) Q st:=by
 rw [binarySort'_eq,Nat.max_eq_left h1]
 refine wpS_bind (wpS_forRange (λk r st1=>Ah lo st st1/\r=(none,())/\ok<=k/\k<=n/\Rng b (arrOf st1) lo (lo+k)) ?_ ?_ ⟨Ah.refl _ _,rfl,Nat.le_refl _,h2,h3⟩)
 ·rintro k r st1 _ hk ⟨ah,rfl,k1,k2,k3⟩
  have G1:=G.perm ah.pm
  have hn1:lo+n<=(arrOf st1).size:=by rw [ah.size];exact hn
  have hs1:=ah.kd.trans hs
  obtain ⟨p,hp,gp⟩:=G1.at (i:=lo+k) (by omega)
  have fin:∀ l,l<=k->(∀ i x,i<l->(arrOf st1)[lo+i]?=some x->kle b x p)->(∀ i x,l<=i->i<k->(arrOf st1)[lo+i]?=some x->kle b p x) ->
    wpS M A E s (do moveDown' (lo+k) (lo+l);pure (ForInStep.yield ((none,()):Option Bool×Unit))) (λr st'=>match r with
     | .done c'=>False
     | .yield c'=>Ah lo st st'/\c'=(none,())/\ok<=k+1/\k+1<=n/\Rng b (arrOf st') lo (lo+(k+1))) st1:=by
   intro l hl g1 g2
   rw [moveDown'_eq]
   refine wpS_bind (wpS_modify ?_)
   have ah2:=Zhn (st:=st1) (lo:=lo) (src:=lo+k) (d:=lo+k-(lo+l)) (by omega) (by omega) (by omega)
   exact wpS_pure ⟨ah.trans ah2,rfl,by omega,by omega,Zgg W (by omega) hl k3 hp g1 g2⟩
  dsimp only
  refine wpS_bind (wpS_forRange (λi c st'=>st'=st1/\∃ l r,c=(none,l,r)/\l<=r/\r<=k/\r-l<=k-i/\(∀ i x,i<l->(arrOf st1)[lo+i]?=some x->kle b x p)/\(∀ i x,r<=i->i<k->(arrOf st1)[lo+i]?=some x->kle b p x)) ?_ ?_ ⟨rfl,0,k,rfl,by omega,by omega,by omega,λi x hi=>by omega,λi x h1 h2=>by omega⟩)
  ·rintro i c st' _ hi ⟨rfl,l,r,rfl,g1,g2,g3,g4,g5⟩
   dsimp only
   split
   ·have:l=r:=by omega
    subst this
    refine wpS_pure ?_
    dsimp only
    exact wpS_mono (fin l g2 g4 g5) λr st' hr=>by
     cases r with
     | done z=>exact False.elim hr
     | yield z=>exact hr
   ·refine wpS_bind (Zck L hs1 G1 (by omega) (by omega) λp' m hp' hm=>?_)
    rw [hp] at hp';cases hp'
    dsimp only
    split
    ·rename_i hb
     refine wpS_pure ⟨rfl,_,_,rfl,by omega,by omega,by omega,g4,λj x j1 j2 e=>?_⟩
     exact W.le_trans (W.le_of_lt hb) (k3 _ (lo+j) m x (by omega) (by omega) (by omega) hm e)
    ·rename_i hb
     refine wpS_pure ⟨rfl,_,_,rfl,by omega,by omega,by omega,λj x j1 e=>?_,g5⟩
     exact W.le_trans (k3 (lo+j) _ x m (by omega) (by omega) (by omega) e hm) (Bool.eq_false_iff.mpr hb)
  ·rintro c st' ⟨rfl,l,r,rfl,g1,g2,g3,g4,g5⟩
   have:l=r:=by simp at g3;omega
   subst this
   dsimp only
   exact wpS_mono (fin l g2 g4 g5) λr st' hr=>by
     cases r with
     | done z=>exact False.elim hr
     | yield z=>exact hr
 ·rintro r st1 ⟨ah,rfl,k1,k2,k3⟩
  dsimp only
  rw [Nat.max_eq_right h2] at k3
  exact wpS_pure (q st1 ah k3)
end
end L2
namespace L2
open PySem PySem.Spec PyProof.Rows
def Zcm (arr:Array Keyed) (base:Nat) (l:List Keyed):Array Keyed:=List.foldl (λa (x:Keyed×Nat)=>a.setIfInBounds (base+x.2) x.1) arr l.zipIdx
def Zix (sa:Nat) (merged:Array Keyed):StateT SortSt Sem Bool:=do
 modify λs=>setArr s (Zcm (arrOf s) sa merged.toList)
 let s <- get
 pure (failedOf s).isNone
def ZlE (st:SortSt) (sa na sb nb:Nat):StateT SortSt Sem Bool:=(if (nb == 0)=true then pure true else (if na<=nb then (do
  let m <- ZdN ((arrOf st).extract sa sb) ((arrOf st).extract sb (sb+nb))
  Zix sa m) else (do
  let m <- ZdO ((arrOf st).extract sa sb) ((arrOf st).extract sb (sb+nb))
  Zix sa m)))
def ZlF (st:SortSt) (sa na sb nb:Nat):StateT SortSt Sem Bool:=(if (na == 0)=true then pure true else (do
  let y <- elem' (arrOf st) (sa+na-1)
  match <- ZbC true y (arrOf st) sb nb (nb-1) with
  | some nb=>ZlE st sa na sb nb
  | _=>pure false))
theorem Zfb (i:Nat):mergeAt' i=(do
  let st <- get
  match (pendingOf st)[i]?,(pendingOf st)[i+1]? with
  | some (sa,na,power),some (sb,nb,_)=>do
   set (setPending st (((pendingOf st).setIfInBounds i (sa,na+nb,power)).eraseIdxIfInBounds (i+1)))
   let x <- elem' (arrOf st) sb
   match <- ZbC false x (arrOf st) sa na 0 with
   | some k=>ZlF st (sa+k) (na-k) sb nb
   | _=>pure false
  | _,_=>liftM (unsupported "internal:list.sort.pending")):=by
 refine Za0 (m:=get) λst=>?_
 cases (pendingOf st)[i]? with
 | none=>rfl
 | some p=>
  cases (pendingOf st)[i+1]? with
  | none=>rfl
  | some q=>
   obtain ⟨sa,na,pw⟩:=p
   obtain ⟨sb,nb,pw'⟩:=q
   rfl
end L2
namespace L2
open PySem PySem.Spec PyProof.Rows
theorem Zjb:∀ (l:List Keyed) (arr:Array Keyed) (base n i:Nat),base+n+l.length<=arr.size ->
  (List.foldl (λa (x:Keyed×Nat)=>a.setIfInBounds (base+x.2) x.1) arr (l.zipIdx n))[i]?=if base+n<=i/\i<base+n+l.length then l[i-(base+n)]? else arr[i]?
 | [],arr,base,n,i,_=>by
  rw [if_neg (by simp)]
  rfl
 | x::l,arr,base,n,i,h=>by
  rw [List.zipIdx_cons,List.foldl_cons]
  rw [List.length_cons] at h
  have ih:=Zjb l (arr.setIfInBounds (base+n) x) base (n+1) i (by rw [Array.size_setIfInBounds];omega)
  refine ih.trans ?_
  rw [List.length_cons]
  by_cases h1:base+(n+1)<=i/\i<base+(n+1)+l.length
  ·rw [if_pos h1,if_pos (by omega)]
   rw [show i-(base+n)=(i-(base+(n+1)))+1 by omega,List.getElem?_cons_succ]
  ·rw [if_neg h1,Array.getElem?_setIfInBounds]
   by_cases h2:base+n=i
   ·subst h2
    rw [if_pos rfl,if_pos (by omega),if_pos (by omega),Nat.sub_self]
    rfl
   ·rw [if_neg h2,if_neg (by omega)]
theorem Zjc {arr:Array Keyed} {base:Nat} {l:List Keyed} (h:base+l.length<=arr.size) (i:Nat):(Zcm arr base l)[i]?=if base<=i/\i<base+l.length then l[i-base]? else arr[i]?:=Zjb l arr base 0 i h
theorem Ziy {arr:Array Keyed} {base:Nat} {l:List Keyed} (h:base+l.length<=arr.size) (p:l.Perm ((arr.toList.drop base).take l.length)):(Zcm arr base l).Perm arr:=by
 have e:(Zcm arr base l).toList=arr.toList.take base++l++arr.toList.drop (base+l.length):=by
  refine List.ext_getElem? λi=>?_
  have hl:arr.toList.length=arr.size:=Array.length_toList
  rw [Array.getElem?_toList,Zjc h]
  rw [List.append_assoc,List.getElem?_append,List.length_take,hl,Nat.min_eq_left (by omega)]
  by_cases h1:i<base
  ·rw [if_neg (by omega),if_pos h1,List.getElem?_take,if_pos h1,Array.getElem?_toList]
  ·rw [if_neg h1,List.getElem?_append]
   by_cases h2:i<base+l.length
   ·rw [if_pos (by omega),if_pos (by omega)]
   ·rw [if_neg (by omega),if_neg (by omega),List.getElem?_drop,Array.getElem?_toList]
    congr 1
    omega
 have e2:arr.toList=arr.toList.take base++(arr.toList.drop base).take l.length++arr.toList.drop (base+l.length):=by
  rw [List.append_assoc,<-List.drop_drop,List.take_append_drop,List.take_append_drop]
 rw [Array.perm_iff_toList_perm,e]
 exact ((List.Perm.append_left _ p).append_right _).trans (.of_eq e2.symm)
section
variable {M:Model} {A:Around} {E:Value->Shared->Prop} {s:Shared} {kd:SortKind} {b:Keyed->Keyed->Bool} {good:Keyed->Prop}
theorem ZcP {arr:Array Keyed} {lo mid hi:Nat} (h1:Rng b arr lo mid) (h2:Rng b arr mid hi) (h3:∀ i j x y,lo<=i->i<mid->mid<=j->j<hi->arr[i]?=some x->arr[j]?=some y->kle b x y):Rng b arr lo hi:=λi j x y i1 i2 i3 e1 e2=>by
 by_cases c1:j<mid
 ·exact h1 i j x y i1 i2 c1 e1 e2
 ·by_cases c2:i<mid
  ·exact h3 i j x y i1 c2 (by omega) i3 e1 e2
  ·exact h2 i j x y (by omega) i2 i3 e1 e2
theorem Zjd {arr:Array Keyed} {lo hi:Nat} (hh:hi<=arr.size) (h:Rng b arr lo hi):(arr.extract lo hi).toList.Pairwise (kle b):=by
 rw [List.pairwise_iff_getElem]
 intro i j hi' hj' hij
 have sz:(arr.extract lo hi).toList.length=hi-lo:=by rw [Array.length_toList,Array.size_extract,Nat.min_eq_left hh]
 refine h (lo+i) (lo+j) _ _ (by omega) (by omega) (by omega) ?_ ?_
 ·simp [Array.getElem_extract]
 ·simp [Array.getElem_extract]
end
end L2
namespace L2
open PySem PySem.Spec PyProof.Rows
section
variable {M:Model} {A:Around} {E:Value->Shared->Prop} {s:Shared} {kd:SortKind} {b:Keyed->Keyed->Bool} {good:Keyed->Prop}
def MgQ (b:Keyed->Keyed->Bool) (st:SortSt) (lo hi:Nat) (Q:Bool->SortSt->Prop):Prop:=∀ st',kindOf st'=kindOf st->pendingOf st'=pendingOf st->failedOf st'=failedOf st->(arrOf st').Perm (arrOf st) ->
 (∀ i,i<lo\/hi<=i->(arrOf st')[i]?=(arrOf st)[i]?)->Rng b (arrOf st') lo hi->Q true st'
structure GalF (b:Keyed->Keyed->Bool) (arr:Array Keyed) (sa k sb nb hi:Nat):Prop where
 k0:sa<=k
 k1:k<sb
 n0:0<nb
 n1:sb+nb<=hi
 ra:Rng b arr sa sb
 rb:Rng b arr sb hi
 lowA:∀ i x y,sa<=i->i<k->arr[i]?=some x->arr[sb]?=some y->kle b x y
 highA:∀ i x y,k<=i->i<sb->arr[i]?=some x->arr[sb]?=some y->kle b y x
 lowB:∀ i x y,sb<=i->i<sb+nb->arr[i]?=some x->arr[sb-1]?=some y->kle b x y
 highB:∀ i x y,sb+nb<=i->i<hi->arr[i]?=some x->arr[sb-1]?=some y->kle b y x
theorem GalF.two {arr:Array Keyed} {sa k sb nb hi:Nat} (F:GalF b arr sa k sb nb hi) (hh:hi<=arr.size) (G:AllG good arr):Two b good (arr.extract k sb) (arr.extract sb (sb+nb)):=by
 have h0:=F.k0;have h1:=F.k1;have h2:=F.n0;have h3:=F.n1
 have memG:∀ {i j x},x∈(arr.extract i j).toList->good x:=λ{i j x} hx=>by
  obtain ⟨q,_,_,e⟩:=Ze8 hx
  rw [<-Array.getElem?_toList] at e
  exact G x (List.mem_of_getElem? e)
 refine ⟨λx=>memG,λx=>memG,Zjd (by omega) λi j x y i1 i2 i3=>F.ra i j x y (by omega) i2 i3,Zjd (by omega) λi j x y i1 i2 i3=>F.rb i j x y i1 i2 (by omega),by rw [Array.size_extract];omega,by rw [Array.size_extract];omega,λx hx y hy=>?_,λz hz y hy=>?_⟩
 ·have hx:arr[sb]?=some x:=by
   rw [Array.getElem?_extract,if_pos (by omega)] at hx
   exact hx
  obtain ⟨q,q1,q2,e⟩:=Ze8 hy
  exact F.highA q y x q1 q2 e hx
 ·have hz:arr[sb-1]?=some z:=by
   rw [Array.size_extract,Array.getElem?_extract,if_pos (by omega)] at hz
   rw [<-hz]
   congr 1
   omega
  obtain ⟨q,q1,q2,e⟩:=Ze8 hy
  exact F.lowB q y z q1 (by omega) e hz
theorem GalF.fin (W:WO b) {st:SortSt} {sa k sb nb hi:Nat} {Q:Bool->SortSt->Prop} (F:GalF b (arrOf st) sa k sb nb hi) (hh:hi<=(arrOf st).size) (q:MgQ b st sa hi Q) (hf:failedOf st=none) {m:Array Keyed} {st1:SortSt} (sg:SameG st st1)
  (hm:Za5 b (((arrOf st).extract k sb).toList++((arrOf st).extract sb (sb+nb)).toList) m.toList):wpS M A E s (Zix k m) Q st1:=by
 have h0:=F.k0;have h1:=F.k1;have h2:=F.n0;have h3:=F.n1
 unfold Zix
 refine wpS_bind (wpS_modify (wpS_bind (wpS_get (wpS_pure ?_))))
 show Q (failedOf st1).isNone _
 rw [sg.2.2.2,hf]
 have hl:m.toList.length=sb+nb-k:=by
  have:=hm.1.length_eq
  rw [List.length_append,Array.length_toList,Array.length_toList,Array.length_toList,Array.size_extract,Array.size_extract] at this
  rw [Array.length_toList]
  omega
 have hb:k+m.toList.length<=(arrOf st).size:=by omega
 have e1:((arrOf st).toList.drop k).take m.toList.length=((arrOf st).extract k sb).toList++((arrOf st).extract sb (sb+nb)).toList:=by
  have x1:((arrOf st).extract k (sb+nb)).toList=((arrOf st).toList.drop k).take m.toList.length:=by
   rw [hl,Array.toList_extract,List.extract_eq_take_drop]
  rw [<-x1,<-Array.toList_append,Array.extract_append_extract]
  congr 2 <;> omega
 have at_:=Zjc (arr:=arrOf st) (base:=k) (l:=m.toList) hb
 have mem:∀ i x,k<=i->i<sb+nb->(Zcm (arrOf st) k m.toList)[i]?=some x->(∃ j,k<=j/\j<sb/\(arrOf st)[j]?=some x)\/(∃ j,sb<=j/\j<sb+nb/\(arrOf st)[j]?=some x):=λi x i1 i2 e=>by
  rw [at_,if_pos (by omega)] at e
  have hx:=hm.1.mem_iff.mp (List.mem_of_getElem? e)
  rcases List.mem_append.mp hx with hx | hx
  ·exact .inl (Ze8 hx)
  ·exact .inr (Ze8 hx)
 obtain ⟨b0,hb0⟩:∃ x,(arrOf st)[sb]?=some x:=⟨_,Array.getElem?_eq_getElem (by omega)⟩
 obtain ⟨aL,haL⟩:∃ x,(arrOf st)[sb-1]?=some x:=⟨_,Array.getElem?_eq_getElem (by omega)⟩
 refine q _ sg.1 sg.2.2.1 ?_ ?_ (λi hi'=>?_) ?_
 ·show failedOf st1=failedOf st
  exact sg.2.2.2
 ·show (Zcm (arrOf st1) k m.toList).Perm (arrOf st)
  rw [sg.2.1]
  exact Ziy hb (hm.1.trans (.of_eq e1.symm))
 ·show (Zcm (arrOf st1) k m.toList)[i]?=_
  rw [sg.2.1,at_,if_neg (by omega)]
 ·show Rng b (Zcm (arrOf st1) k m.toList) sa hi
  rw [sg.2.1]
  have old:∀ i,i<k\/sb+nb<=i->(Zcm (arrOf st) k m.toList)[i]?=(arrOf st)[i]?:=λi hi'=>by rw [at_,if_neg (by omega)]
  refine ZcP (mid:=k) (λi j x y i1 i2 i3 e1 e2=>?_) (ZcP (mid:=sb+nb) (λi j x y i1 i2 i3 e1 e2=>?_) (λi j x y i1 i2 i3 e1 e2=>?_) (λi j x y i1 i2 i3 i4 e1 e2=>?_)) (λi j x y i1 i2 i3 i4 e1 e2=>?_)
  ·rw [old i (by omega)] at e1
   rw [old j (by omega)] at e2
   exact F.ra i j x y i1 i2 (by omega) e1 e2
  ·rw [at_,if_pos (by omega)] at e1 e2
   exact Ziq W hm.2 (by omega) e1 e2
  ·rw [old i (by omega)] at e1
   rw [old j (by omega)] at e2
   exact F.rb i j x y (by omega) i2 i3 e1 e2
  ·rw [old j (by omega)] at e2
   rcases mem i x i1 i2 e1 with ⟨p,p1,p2,e⟩ | ⟨p,p1,p2,e⟩
   ·exact W.le_trans (F.ra p (sb-1) x aL (by omega) (by omega) (by omega) e haL) (F.highB j y aL i3 i4 e2 haL)
   ·exact F.rb p j x y p1 (by omega) i4 e e2
  ·rw [old i (by omega)] at e1
   have xb:=F.lowA i x b0 i1 i2 e1 hb0
   by_cases cj:j<sb+nb
   ·rcases mem j y i3 cj e2 with ⟨p,p1,p2,e⟩ | ⟨p,p1,p2,e⟩
    ·exact F.ra i p x y i1 (by omega) p2 e1 e
    ·exact W.le_trans xb (F.rb sb p b0 y (Nat.le_refl _) p1 (by omega) hb0 e)
   ·rw [old j (by omega)] at e2
    exact W.le_trans xb (F.rb sb j b0 y (Nat.le_refl _) (by omega) i4 hb0 e2)
theorem Zfc (W:WO b) (L:ZcK M A E s kd b good) {st:SortSt} {i sa na sb nb pw pw':Nat} {Q:Bool->SortSt->Prop} (hs:kindOf st=kd) (hf:failedOf st=none) (G:AllG good (arrOf st)) (p1:(pendingOf st)[i]?=some (sa,na,pw)) (p2:(pendingOf st)[i+1]?=some (sb,nb,pw'))
  (e:sb=sa+na) (hna:0<na) (hnb:0<nb) (hh:sb+nb<=(arrOf st).size) (ra:Rng b (arrOf st) sa sb) (rb:Rng b (arrOf st) sb (sb+nb))
  (q:MgQ b (setPending st (((pendingOf st).setIfInBounds i (sa,na+nb,pw)).eraseIdxIfInBounds (i+1))) sa (sb+nb) Q):wpS M A E s (mergeAt' i) Q st:=by
 subst e
 rw [Zfb]
 refine wpS_bind (wpS_get ?_)
 rw [p1,p2]
 dsimp only
 refine wpS_bind ?_
 show wpS M A E s (set _) _ st
 refine (show wpS M A E s (modify λ_=>setPending st (((pendingOf st).setIfInBounds i (sa,na+nb,pw)).eraseIdxIfInBounds (i+1))) _ st from wpS_modify ?_)
 generalize hst:setPending st (((pendingOf st).setIfInBounds i (sa,na+nb,pw)).eraseIdxIfInBounds (i+1))=st1 at q
 have ea:arrOf st1=arrOf st:=by rw [<-hst]
 have ek:kindOf st1=kd:=by rw [<-hst];exact hs
 have ef:failedOf st1=none:=by rw [<-hst];exact hf
 rw [<-ea] at G hh ra rb ⊢
 obtain ⟨b0,hb0,gb0⟩:=G.at (i:=sa+na) (by omega)
 obtain ⟨aL,haL,gaL⟩:=G.at (i:=sa+na-1) (by omega)
 refine wpS_bind (Zaz hb0 ?_)
 have G1:Gal b good false b0 (arrOf st1) sa na:=Zdw W gb0 (λi hi=>G.at (by omega)) ra
 refine wpS_bind (Zbb L G1 ek hna λk hk k1 k2=>?_)
 have lowA:∀ i x y,sa<=i->i<sa+k->(arrOf st1)[i]?=some x->(arrOf st1)[sa+na]?=some y->kle b x y:=λi x y i1 i2 e1 e2=>by
  rw [hb0] at e2;cases e2
  have:=k1 (i-sa) (by omega)
  unfold byd at this
  rw [Nat.add_sub_cancel' i1,e1] at this
  dsimp only at this
  rw [if_neg Bool.false_ne_true,Bool.not_eq_true'] at this
  exact this
 have highA:∀ i x y,sa+k<=i->i<sa+na->(arrOf st1)[i]?=some x->(arrOf st1)[sa+na]?=some y->kle b y x:=λi x y i1 i2 e1 e2=>by
  rw [hb0] at e2;cases e2
  have:=k2 (i-sa) (by omega) (by omega)
  unfold byd at this
  rw [Nat.add_sub_cancel' (by omega),e1] at this
  dsimp only at this
  rw [if_neg Bool.false_ne_true,Bool.not_eq_false'] at this
  exact W.le_of_lt this
 dsimp only
 unfold ZlF
 rw [show arrOf st=arrOf st1 from ea.symm]
 split
 ·rename_i e0
  have e0:na-k=0:=eq_of_beq e0
  refine wpS_pure (q st1 rfl rfl rfl (.refl _) (λ_ _=>rfl) (ZcP ra rb λi j x y i1 i2 i3 i4 e1 e2=>?_))
  exact W.le_trans (lowA i x b0 i1 (by omega) e1 hb0) (rb (sa+na) j b0 y (Nat.le_refl _) i3 i4 hb0 e2)
 ·rename_i e0
  have e0:na-k≠0:=λz=>e0 (beq_iff_eq.mpr z)
  refine wpS_bind (Zaz (show (arrOf st1)[sa+k+(na-k)-1]?=some aL by rw [<-haL];congr 1;omega) ?_)
  have G2:Gal b good true aL (arrOf st1) (sa+na) nb:=Zdw W gaL (λi hi=>G.at (by omega)) rb
  refine wpS_bind (Zbb L G2 ek (by omega) λnb' hk' k1' k2'=>?_)
  have lowB:∀ i x y,sa+na<=i->i<sa+na+nb'->(arrOf st1)[i]?=some x->(arrOf st1)[sa+na-1]?=some y->kle b x y:=λi x y i1 i2 e1 e2=>by
   rw [haL] at e2;cases e2
   have:=k1' (i-(sa+na)) (by omega)
   unfold byd at this
   rw [Nat.add_sub_cancel' i1,e1] at this
   dsimp only at this
   rw [if_pos rfl] at this
   exact W.le_of_lt this
  have highB:∀ i x y,sa+na+nb'<=i->i<sa+na+nb->(arrOf st1)[i]?=some x->(arrOf st1)[sa+na-1]?=some y->kle b y x:=λi x y i1 i2 e1 e2=>by
   rw [haL] at e2;cases e2
   have:=k2' (i-(sa+na)) (by omega) (by omega)
   unfold byd at this
   rw [Nat.add_sub_cancel' (by omega),e1] at this
   dsimp only at this
   rw [if_pos rfl] at this
   exact this
  dsimp only
  unfold ZlE
  split
  ·rename_i e1
   have e1:nb'=0:=eq_of_beq e1
   refine wpS_pure (q st1 rfl rfl rfl (.refl _) (λ_ _=>rfl) (ZcP ra rb λi j x y i1 i2 i3 i4 f1 f2=>?_))
   exact W.le_trans (ra i (sa+na-1) x aL i1 (by omega) (by omega) f1 haL) (highB j y aL (by omega) i4 f2 haL)
  ·rename_i e1
   have e1:nb'≠0:=λz=>e1 (beq_iff_eq.mpr z)
   have F:GalF b (arrOf st1) sa (sa+k) (sa+na) nb' (sa+na+nb):=⟨by omega,by omega,by omega,by omega,ra,rb,lowA,highA,lowB,highB⟩
   have T:=F.two hh G
   split
   ·refine wpS_bind ?_
    rw [show arrOf st=arrOf st1 from ea.symm]
    exact Ze6 W L T ek λr st' sg m=>F.fin W hh q ef sg m
   ·refine wpS_bind ?_
    rw [show arrOf st=arrOf st1 from ea.symm]
    exact Ze9 W L T ek λr st' sg m=>F.fin W hh q ef sg m
end
end L2
namespace L2
open PySem PySem.Spec PyProof.Rows
def Runs (b:Keyed->Keyed->Bool) (arr:Array Keyed):Nat->List (Nat×Nat×Nat)->Nat->Prop
 | s,[],e=>s=e
 | s,x::rest,e=>x.1=s/\0<x.2.1/\Rng b arr s (s+x.2.1)/\Runs b arr (s+x.2.1) rest e
section
variable {b:Keyed->Keyed->Bool} {arr arr':Array Keyed}
theorem Runs.le:∀ {p:List (Nat×Nat×Nat)} {s e:Nat},Runs b arr s p e->s+p.length<=e
 | [],s,e,h=>by have h:s=e:=h;simp [h]
 | x::p,s,e,h=>by
  have:=Runs.le h.2.2.2
  have:=h.2.1
  rw [List.length_cons]
  omega
theorem Runs.app:∀ {u v:List (Nat×Nat×Nat)} {s e:Nat},Runs b arr s (u++v) e↔∃ m,Runs b arr s u m/\Runs b arr m v e
 | [],v,s,e=>⟨λh=>⟨s,rfl,h⟩,λ⟨m,h1,h2⟩=>by have h1:s=m:=h1;rw [h1];exact h2⟩
 | x::u,v,s,e=>by
  constructor
  ·rintro ⟨h1,h2,h3,h4⟩
   obtain ⟨m,k1,k2⟩:=Runs.app.mp h4
   exact ⟨m,⟨h1,h2,h3,k1⟩,k2⟩
  ·rintro ⟨m,⟨h1,h2,h3,k1⟩,k2⟩
   exact ⟨h1,h2,h3,Runs.app.mpr ⟨m,k1,k2⟩⟩
theorem Runs.keep:∀ {p:List (Nat×Nat×Nat)} {s e:Nat},Runs b arr s p e->(∀ i,s<=i->i<e->arr'[i]?=arr[i]?)->Runs b arr' s p e
 | [],_,_,h,_=>h
 | x::p,s,e,h,k=>by
  have:=Runs.le h.2.2.2
  refine ⟨h.1,h.2.1,λi j u v i1 i2 i3 e1 e2=>?_,Runs.keep h.2.2.2 λi i1 i2=>k i (by omega) i2⟩
  rw [k i i1 (by omega)] at e1
  rw [k j (by omega) (by omega)] at e2
  exact h.2.2.1 i j u v i1 i2 i3 e1 e2
theorem Runs.push {p:List (Nat×Nat×Nat)} {s lo n pw:Nat} (h:Runs b arr s p lo) (hn:0<n) (hr:Rng b arr lo (lo+n)):Runs b arr s (p++[(lo,n,pw)]) (lo+n):=
 Runs.app.mpr ⟨lo,h,rfl,hn,hr,rfl⟩
theorem Runs.two {p:List (Nat×Nat×Nat)} {i e sa na pw sb nb pw':Nat} (h:Runs b arr 0 p e) (h1:p[i]?=some (sa,na,pw)) (h2:p[i+1]?=some (sb,nb,pw')) :
  sb=sa+na/\0<na/\0<nb/\sb+nb<=e/\Rng b arr sa sb/\Rng b arr sb (sb+nb) /\
   ((∀ i,i<sa\/sb+nb<=i->arr'[i]?=arr[i]?)->Rng b arr' sa (sb+nb)->Runs b arr' 0 ((p.set i (sa,na+nb,pw)).eraseIdx (i+1)) e):=by
 obtain ⟨l1,e1⟩:=List.getElem?_eq_some_iff.mp h1
 obtain ⟨l2,e2⟩:=List.getElem?_eq_some_iff.mp h2
 have d:p=p.take i++(sa,na,pw)::(sb,nb,pw')::p.drop (i+2):=by
  conv=>lhs;rw [<-List.take_append_drop i p,List.drop_eq_getElem_cons l1,e1,List.drop_eq_getElem_cons l2,e2]
 have hl:(p.take i).length=i:=by rw [List.length_take];omega
 generalize p.take i=u at d hl
 generalize p.drop (i+2)=v at d
 subst d
 obtain ⟨m,k1,k2,k3,k4,k5,k6,k7,k8⟩:=Runs.app.mp h
 have k2:sa=m:=k2
 have k3:0<na:=k3
 have k5:sb=m+na:=k5
 have k6:0<nb:=k6
 have k4:Rng b arr m (m+na):=k4
 have k7:Rng b arr (m+na) (m+na+nb):=k7
 have k8:Runs b arr (m+na+nb) v e:=k8
 subst k2 k5
 have k9:sa+na+nb+v.length<=e:=k8.le
 refine ⟨rfl,k3,k6,by omega,k4,k7,λho hr=>?_⟩
 have es:((u++(sa,na,pw)::(sa+na,nb,pw')::v).set i (sa,na+nb,pw)).eraseIdx (i+1)=u++(sa,na+nb,pw)::v:=by
  rw [List.set_append,if_neg (by omega),hl,Nat.sub_self,List.set_cons_zero,List.eraseIdx_append_of_length_le (by omega),hl,Nat.add_sub_cancel_left]
  rfl
 rw [es]
 refine Runs.app.mpr ⟨sa,k1.keep λj j1 j2=>ho j (.inl j2),rfl,by show 0<na+nb;omega,by show Rng b arr' sa (sa+(na+nb));rw [<-Nat.add_assoc];exact hr,?_⟩
 show Runs b arr' (sa+(na+nb)) v e
 rw [<-Nat.add_assoc]
 exact k8.keep λj j1 j2=>ho j (.inr j1)
theorem Runs.pow:∀ {p:List (Nat×Nat×Nat)} {s e:Nat} (i:Nat) (f:Nat×Nat×Nat->Nat×Nat×Nat),(∀ x,(f x).1=x.1/\(f x).2.1=x.2.1)->Runs b arr s p e->Runs b arr s (p.modify i f) e
 | [],_,_,i,f,_,h=>by cases i <;> exact h
 | x::p,s,e,0,f,hf,h=>by
  rw [List.modify_zero_cons]
  obtain ⟨q1,q2⟩:=hf x
  refine ⟨q1.trans h.1,by rw [q2];exact h.2.1,by rw [q2];exact h.2.2.1,by rw [q2];exact h.2.2.2⟩
 | x::p,s,e,i+1,f,hf,h=>by
  rw [List.modify_succ_cons]
  exact ⟨h.1,h.2.1,h.2.2.1,Runs.pow i f hf h.2.2.2⟩
theorem Runs.one (W:WO b) {p:List (Nat×Nat×Nat)} {e:Nat} (h:Runs b arr 0 p e) (hl:p.length<=1):Rng b arr 0 e:=by
 match p,h,hl with
 | [],h,_=>
  have h:0=e:=h
  subst h
  intro i j x y i1 i2 i3
  omega
 | [x],h,_=>
  have h4:0+x.2.1=e:=h.2.2.2
  rw [<-h4]
  exact h.2.2.1
end
end L2
namespace L2
open PySem PySem.Spec PyProof.Rows
section
variable {M:Model} {A:Around} {E:Value->Shared->Prop} {s:Shared} {kd:SortKind} {b:Keyed->Keyed->Bool} {good:Keyed->Prop}
structure SI (b:Keyed->Keyed->Bool) (kd:SortKind) (st0 st:SortSt) (lo:Nat):Prop where
 ki:kindOf st=kd
 fa:failedOf st=none
 pm:(arrOf st).Perm (arrOf st0)
 ru:Runs b (arrOf st) 0 (pendingOf st).toList lo
theorem SI.size {st0 st:SortSt} {lo:Nat} (h:SI b kd st0 st lo):(arrOf st).size=(arrOf st0).size:=h.pm.size_eq
theorem SI.merge (W:WO b) (L:ZcK M A E s kd b good) {st0 st:SortSt} {lo i:Nat} {Q:Bool->SortSt->Prop} (G:AllG good (arrOf st0)) (h:SI b kd st0 st lo) (hlo:lo<=(arrOf st0).size) (hi:i+1<(pendingOf st).size)
  (q:∀ st',SI b kd st0 st' lo->(pendingOf st').size+1=(pendingOf st).size->(∀ i,lo<=i->(arrOf st')[i]?=(arrOf st)[i]?)->Q true st'):wpS M A E s (mergeAt' i) Q st:=by
 obtain ⟨⟨sa,na,pw⟩,p1⟩:∃ x,(pendingOf st)[i]?=some x:=⟨_,Array.getElem?_eq_getElem (by omega)⟩
 obtain ⟨⟨sb,nb,pw'⟩,p2⟩:∃ x,(pendingOf st)[i+1]?=some x:=⟨_,Array.getElem?_eq_getElem hi⟩
 have two:=λarr'=>Runs.two (arr':=arr') h.ru (by rw [Array.getElem?_toList];exact p1) (by rw [Array.getElem?_toList];exact p2)
 obtain ⟨t1,t2,t3,t4,t5,t6,_⟩:=two (arrOf st)
 have hsz:=h.size
 refine Zfc W L h.ki h.fa (G.perm h.pm) p1 p2 t1 t2 t3 (by omega) t5 t6 λst' k1 k2 k3 k4 k5 k6=>?_
 have e0:arrOf (setPending st (((pendingOf st).setIfInBounds i (sa,na+nb,pw)).eraseIdxIfInBounds (i+1)))=arrOf st:=rfl
 rw [e0] at k4 k5
 have e1:pendingOf st'=((pendingOf st).setIfInBounds i (sa,na+nb,pw)).eraseIdxIfInBounds (i+1):=k2
 have e2:(pendingOf st').toList=((pendingOf st).toList.set i (sa,na+nb,pw)).eraseIdx (i+1):=by
  rw [e1,Array.toList_eraseIdxIfInBounds,Array.toList_setIfInBounds]
 refine q st' ⟨k1.trans h.ki,k3.trans h.fa,k4.trans h.pm,?_⟩ ?_ λj hj=>k5 j (.inr (by omega))
 ·rw [e2]
  exact (two (arrOf st')).2.2.2.2.2.2 k5 k6
 ·have:=congrArg List.length e2
  rw [Array.length_toList,List.length_eraseIdx,List.length_set,Array.length_toList,if_pos hi] at this
  omega
theorem ZcL (W:WO b) (L:ZcK M A E s kd b good) {st:SortSt} {Q:Unit->SortSt->Prop} (hs:kindOf st=kd) (hf:failedOf st=none) (hp:pendingOf st=#[]) (G:AllG good (arrOf st))
  (q:∀ st',(arrOf st').Perm (arrOf st)->failedOf st'=none->Rng b (arrOf st') 0 (arrOf st).size->Q () st'):wpS M A E s sortRuns' Q st:=by
 rw [sortRuns'_eq]
 refine wpS_bind (wpS_get ?_)
 dsimp only
 generalize hsz:(arrOf st).size=size at q
 generalize minRun' size size 0=minrun
 refine wpS_bind (wpS_mono (Q:=λr st1=>r=(none,size)/\SI b kd st st1 size) (wpS_forRange (λk r st1=>∃ lo,r=(none,lo)/\k<=lo/\lo<=size/\SI b kd st st1 lo) ?_ ?_ ⟨0,rfl,Nat.le_refl _,Nat.zero_le _,hs,hf,.refl _,by rw [hp];rfl⟩) ?_)
 ·rintro k r st1 _ hk ⟨lo,rfl,k1,k2,I⟩
  dsimp only
  split
  ·have:lo=size:=by omega
   subst this
   exact wpS_pure ⟨rfl,I⟩
  ·rename_i hlo
   have s1:(arrOf st1).size=size:=I.size.trans hsz
   refine wpS_bind (ZdT W L I.ki (G.perm I.pm) (by omega) (by omega) λn st2 ah n1 n2 n3=>?_)
   have I2:SI b kd st st2 lo:=⟨ah.kd.trans I.ki,ah.fa.trans I.fa,ah.pm.trans I.pm,by rw [ah.pe];exact I.ru.keep λi _ hi=>ah.lw i hi⟩
   dsimp only
   have pushed:∀ st3 n,SI b kd st st3 lo->0<n->Rng b (arrOf st3) lo (lo+n)->SI b kd st (setPending st3 ((pendingOf st3).push (lo,n,0))) (lo+n):=by
    intro st3 n I3 n1 n3
    refine ⟨I3.ki,I3.fa,I3.pm,?_⟩
    show Runs b (arrOf st3) 0 ((pendingOf st3).push (lo,n,0)).toList (lo+n)
    rw [Array.toList_push]
    exact I3.ru.push n1 n3
   have pow:∀ st3 pw,SI b kd st st3 lo->SI b kd st (setPending st3 ((pendingOf st3).modify ((pendingOf st3).size-1) λx=>(x.1,x.2.1,pw))) lo:=by
    intro st3 pw I3
    refine ⟨I3.ki,I3.fa,I3.pm,?_⟩
    show Runs b (arrOf st3) 0 ((pendingOf st3).modify ((pendingOf st3).size-1) λx=>(x.1,x.2.1,pw)).toList lo
    rw [Array.toList_modify]
    exact I3.ru.pow _ _ λx=>⟨rfl,rfl⟩
   split
   ·rename_i hmr
    refine wpS_bind (wpS_lift (wpAny_rule ⟨rfl,?_⟩))
    have s2:(arrOf st2).size=size:=I2.size.trans hsz
    refine wpS_bind (Zgh W L I2.ki (G.perm I2.pm) (by omega) n1 (by omega) n3 λst3 ah3 r3=>?_)
    have I3:SI b kd st st3 lo:=⟨ah3.kd.trans I2.ki,ah3.fa.trans I2.fa,ah3.pm.trans I2.pm,by rw [ah3.pe];exact I2.ru.keep λi _ hi=>ah3.lw i hi⟩
    rw [show (!true)=false from rfl,if_neg Bool.false_ne_true]
    have hN:1<=min (size-lo) minrun/\lo+min (size-lo) minrun<=size:=by omega
    clear hmr
    generalize min (size-lo) minrun=N at r3 hN
    refine wpS_bind (wpS_get ?_)
    cases hbk:(pendingOf st3).back? with
    | none=>exact wpS_bind (wpS_modify (wpS_pure ⟨_,rfl,by omega,by omega,pushed st3 _ I3 (by omega) r3⟩))
    | some x=>
     obtain ⟨s1,n1,pw1⟩:=x
     dsimp only
     refine wpS_bind (wpS_mono (Q:=λr st4=>r=(none,())/\SI b kd st st4 lo/\∀ i,lo<=i->(arrOf st4)[i]?=(arrOf st3)[i]?) (wpS_forRange (λ_ r st4=>r=(none,())/\SI b kd st st4 lo/\∀ i,lo<=i->(arrOf st4)[i]?=(arrOf st3)[i]?) ?_ (λ_ _ z=>z) ⟨rfl,I3,λ_ _=>rfl⟩) ?_)
     ·rintro k' r st4 _ hk' ⟨rfl,I4,same⟩
      refine wpS_bind (wpS_get ?_)
      by_cases hz:(pendingOf st4).size > 1
      ·obtain ⟨⟨z1,z2,z3⟩,pz⟩:∃ x,(pendingOf st4)[(pendingOf st4).size-2]?=some x:=⟨_,Array.getElem?_eq_getElem (by omega)⟩
       rw [if_pos hz,pz]
       dsimp only
       split
       ·exact wpS_pure ⟨rfl,I4,same⟩
       ·refine wpS_bind (I4.merge W L G (by omega) (by omega) λst5 I5 _ same5=>?_)
        rw [show (!true)=false from rfl,if_neg Bool.false_ne_true]
        exact wpS_pure ⟨rfl,I5,λi hi=>(same5 i hi).trans (same i hi)⟩
      ·rw [if_neg hz]
       exact wpS_pure ⟨rfl,I4,same⟩
     ·rintro r st4 ⟨rfl,I4,same⟩
      dsimp only
      refine wpS_bind (wpS_modify (wpS_bind (wpS_modify (wpS_pure ⟨_,rfl,by omega,by omega,?_⟩))))
      refine pushed _ _ (pow st4 _ I4) (by omega) λi j x y i1 i2 i3 e1 e2=>?_
      have e1:(arrOf st4)[i]?=some x:=e1
      have e2:(arrOf st4)[j]?=some y:=e2
      rw [same i i1] at e1
      rw [same j (by omega)] at e2
      exact r3 i j x y i1 i2 i3 e1 e2
   ·have hN:1<=n/\lo+n<=size:=by omega
    refine wpS_bind (wpS_get ?_)
    cases hbk:(pendingOf st2).back? with
    | none=>exact wpS_bind (wpS_modify (wpS_pure ⟨_,rfl,by omega,by omega,pushed st2 _ I2 (by omega) n3⟩))
    | some x=>
     obtain ⟨s1,n1,pw1⟩:=x
     dsimp only
     refine wpS_bind (wpS_mono (Q:=λr st4=>r=(none,())/\SI b kd st st4 lo/\∀ i,lo<=i->(arrOf st4)[i]?=(arrOf st2)[i]?) (wpS_forRange (λ_ r st4=>r=(none,())/\SI b kd st st4 lo/\∀ i,lo<=i->(arrOf st4)[i]?=(arrOf st2)[i]?) ?_ (λ_ _ z=>z) ⟨rfl,I2,λ_ _=>rfl⟩) ?_)
     ·rintro k' r st4 _ hk' ⟨rfl,I4,same⟩
      refine wpS_bind (wpS_get ?_)
      by_cases hz:(pendingOf st4).size > 1
      ·obtain ⟨⟨z1,z2,z3⟩,pz⟩:∃ x,(pendingOf st4)[(pendingOf st4).size-2]?=some x:=⟨_,Array.getElem?_eq_getElem (by omega)⟩
       rw [if_pos hz,pz]
       dsimp only
       split
       ·exact wpS_pure ⟨rfl,I4,same⟩
       ·refine wpS_bind (I4.merge W L G (by omega) (by omega) λst5 I5 _ same5=>?_)
        rw [show (!true)=false from rfl,if_neg Bool.false_ne_true]
        exact wpS_pure ⟨rfl,I5,λi hi=>(same5 i hi).trans (same i hi)⟩
      ·rw [if_neg hz]
       exact wpS_pure ⟨rfl,I4,same⟩
     ·rintro r st4 ⟨rfl,I4,same⟩
      dsimp only
      refine wpS_bind (wpS_modify (wpS_bind (wpS_modify (wpS_pure ⟨_,rfl,by omega,by omega,?_⟩))))
      refine pushed _ _ (pow st4 _ I4) (by omega) λi j x y i1 i2 i3 e1 e2=>?_
      have e1:(arrOf st4)[i]?=some x:=e1
      have e2:(arrOf st4)[j]?=some y:=e2
      rw [same i i1] at e1
      rw [same j (by omega)] at e2
      exact n3 i j x y i1 i2 i3 e1 e2
 ·rintro r st1 ⟨lo,rfl,k1,k2,I⟩
  have:lo=size:=by simp at k1;omega
  subst this
  exact ⟨rfl,I⟩
 ·rintro r st1 ⟨rfl,I⟩
  dsimp only
  refine wpS_bind (wpS_mono (Q:=λr st2=>r=(none,())/\SI b kd st st2 size/\(pendingOf st2).size<=1) (wpS_forRange (λk r st2=>r=(none,())/\SI b kd st st2 size/\(pendingOf st2).size+k<=size+1) ?_ ?_ ⟨rfl,I,?_⟩) ?_)
  ·rintro k r st2 _ hk ⟨rfl,I2,hz⟩
   refine wpS_bind (wpS_get ?_)
   split
   ·rename_i h1
    exact wpS_pure ⟨rfl,I2,h1⟩
   ·rename_i h1
    generalize hi:(if Option.any _ _=true then (pendingOf st2).size-2-1 else (pendingOf st2).size-2)=i
    have hi2:i+1<(pendingOf st2).size:=by
     rw [<-hi]
     have key:∀ (c:Prop) [Decidable c] (m:Nat),(if c then m-1 else m)<=m:=λc _ m=>by split <;> omega
     refine Nat.lt_of_le_of_lt (Nat.succ_le_succ (key _ ((pendingOf st2).size-2))) ?_
     omega
    refine wpS_bind (I2.merge W L G (by omega) hi2 λst3 I3 h3 _=>?_)
    rw [show (!true)=false from rfl,if_neg Bool.false_ne_true]
    exact wpS_pure ⟨rfl,I3,by omega⟩
  ·rintro r st2 ⟨rfl,I2,hz⟩
   exact ⟨rfl,I2,by simp at hz;omega⟩
  ·have:=I.ru.le
   rw [Array.length_toList] at this
   omega
  ·rintro r st2 ⟨rfl,I2,h1⟩
   refine wpS_pure (q st2 I2.pm I2.fa ?_)
   exact I2.ru.one W (by rw [Array.length_toList];exact h1)
end
end L2
namespace L2
open PySem PySem.Spec PyProof.Rows
section
variable {prog:Program} {w:World} {A:Around} {E:Value->Shared->Prop} {s:Shared} {kd:SortKind} {b:Keyed->Keyed->Bool} {good:Keyed->Prop}
def Zcn (s:Shared) (a:Addr) (vs:List Value):Shared:={ s with heap:=((s.heap.update a (Obj.mapSeq λ_=>#[])).push (seqObj "tuple" vs.toArray 0)).push (seqObj "list" #[] 0) }
theorem Zho (W:WO b) {arr:Array Keyed} (h:arr.size<2):Rng b arr 0 arr.size:=λi j x y i1 i2 i3 e1 e2=>by
 have:i=j:=by omega
 subst this
 rw [e1] at e2;cases e2
 exact W.le_refl _
theorem ZdU {a:Addr} {vs:List Value} {n:Nat} {P:PySem.Fin->Shared->Prop} (W:WO b) (ha:s.heap.get? a=some (seqObj "list" vs.toArray n)) (hz:vs.length<=sizeLine) (hg:∀ v∈vs,good (v,v))
  (hk:2<=vs.length->∀ {E':Value->Shared->Prop} {R:SortKind->Shared->Prop},R kd (Zcn s a vs)->wpAny (model prog w) A (keyKind' vs.toArray) R E' (Zcn s a vs)) (L:ZcK (model prog w) A E (Zcn s a vs) kd b good)
  (q:∀ out:Array Keyed,out.Perm (pairsOf vs)->Rng b out 0 vs.length->P (.done (.ret .none)) { s with heap:=sortedHeap s.heap a vs (out.map (·.2)) }) :
  wpAny (model prog w) A (Builtin.«list.sort» { pos:=[.ref a] }) P E s:=by
 rw [list_sort_plain]
 refine wpAny_bind (listItems_at ha rfl ?_)
 refine wpAny_bind (listUpdate_at ha rfl ?_ (by rw [List.size_toArray];exact hz) (Nat.zero_le _))
 have ha1:=get?_update_seq ha (λ_=>#[])
 generalize (if ((#[]:Array Value).size == vs.toArray.size)=true then n else n+1)=n1 at ha1
 refine wpAny_bind (seqEpoch_at ha1 rfl ?_)
 refine wpAny_bind (wpAny_newTuple ?_ hz)
 refine wpAny_bind (wpAny_newList ?_ (Nat.zero_le _))
 refine wpAny_holding ?_
 have ha2:(Zcn s a vs).heap.get? a=some (seqObj "list" #[] n1):=Heap.get?_push_of_some _ (Heap.get?_push_of_some _ ha1)
 show wpAny (model prog w) A _ P E (Zcn s a vs)
 have hps:(pairsOf vs).size=vs.length:=pairsOf_size vs
 dsimp only [List.size_toArray]
 split
 ·rename_i h2
  have h2:vs.length<2:=by simpa using h2
  refine wpAny_bind (wpAny_pure ?_)
  refine wpAny_bind (wpAny_mono (Q:=λr s'=>s'=Zcn s a vs/\failedOf r.2=none/\(arrOf r.2).Perm (pairsOf vs)/\Rng b (arrOf r.2) 0 vs.length) (wpAny_pure ⟨rfl,rfl,.refl _,?_⟩) ?_ (λ_ _ z=>z))
  ·have:=Zho W (arr:=pairsOf vs) (by omega)
   rw [hps] at this
   exact this
  ·rintro ⟨_,st⟩ s' ⟨rfl,e2,hp,hr⟩
   dsimp only
   refine wpAny_bind (seqEpoch_at ha2 rfl ?_)
   have e2:failedOf st=none:=e2
   have hl:((arrOf st).map (·.2)).size<=sizeLine+1:=by
    have this:(arrOf st).size=(pairsOf vs).size:=hp.size_eq
    rw [pairsOf_size] at this
    rw [Array.size_map]
    omega
   refine wpAny_bind (listUpdate_at ha2 rfl ?_ (Nat.zero_le _) hl)
   have:(n1 != n1)=false:=by simp
   rw [this,e2]
   exact wpAny_pure (q (arrOf st) hp hr)
 ·rename_i h2
  have h2:¬ vs.length<2:=by simpa using h2
  refine wpAny_bind (hk (by omega) ?_)
  refine wpAny_bind (wpAny_mono (Q:=λr s'=>s'=Zcn s a vs/\failedOf r.2=none/\(arrOf r.2).Perm (pairsOf vs)/\Rng b (arrOf r.2) 0 vs.length) ?_ ?_ (λ_ _ z=>z))
  ·refine ZcL (st:=SortSt.mk' kd (vs.toArray.zip vs.toArray) #[] 7 none) (Q:=λ_ st=>failedOf st=none/\(arrOf st).Perm (pairsOf vs)/\Rng b (arrOf st) 0 vs.length) W L rfl rfl rfl (λx hx=>?_) λst' k1 k2 k3=>⟨k2,k1,?_⟩
   ·have hx:x∈(pairsOf vs).toList:=hx
    rw [pairsOf_toList] at hx
    obtain ⟨e,hm⟩:=mem_zip_self hx
    obtain ⟨x1,x2⟩:=x
    have e:x1=x2:=e
    subst e
    exact hg _ hm
   ·have e:(arrOf (SortSt.mk' kd (vs.toArray.zip vs.toArray) #[] 7 none)).size=vs.length:=hps
    rw [e] at k3
    exact k3
  ·rintro ⟨_,st⟩ s' ⟨rfl,e2,hp,hr⟩
   dsimp only
   refine wpAny_bind (seqEpoch_at ha2 rfl ?_)
   have e2:failedOf st=none:=e2
   have hl:((arrOf st).map (·.2)).size<=sizeLine+1:=by
    have this:(arrOf st).size=(pairsOf vs).size:=hp.size_eq
    rw [pairsOf_size] at this
    rw [Array.size_map]
    omega
   refine wpAny_bind (listUpdate_at ha2 rfl ?_ (Nat.zero_le _) hl)
   have:(n1 != n1)=false:=by simp
   rw [this,e2]
   exact wpAny_pure (q (arrOf st) hp hr)
theorem Zco {h:Heap} {a c:Addr} {o:Obj} {f:Obj->Obj} (hc:c≠a) (e:h.get? c=some o):(h.update a f).get? c=some o:=(Heap.get?_update_ne h c a f hc).trans e
theorem Zgi {l:Addr} {vs:List Value} {Q:Value->Shared->Prop} (W:WO b) (hl:s.heap.IsList l vs.toArray) (hz:vs.length<=sizeLine) (hg:∀ v∈vs,good (v,v))
  (hk:∀ h':Heap,(∀ c o,s.heap.get? c=some o->h'.get? c=some o)->2<=vs.length->∀ {E':Value->Shared->Prop} {R:SortKind->Shared->Prop},R kd { s with heap:=h' }->wpAny (model prog w) A.in1.in1 (keyKind' vs.toArray) R E' { s with heap:=h' })
  (L:∀ h':Heap,(∀ c o,s.heap.get? c=some o->h'.get? c=some o)->ZcK (model prog w) A.in1.in1 E { s with heap:=h' } kd b good)
  (q:∀ out:Array Keyed,out.Perm (pairsOf vs)->Rng b out 0 vs.length->Q (.ref (s.heap.objs.size+1)) { s with heap:=sortedAll s.heap vs (out.map (·.2)) }) :
  wpAny (model prog w) A (call (.builtin "sorted") [.ref l]) Q E s:=by
 refine Calls.call_function_entry kind_sorted plain_sorted entry_sorted (args_sorted1 _) ?_
 unfold Builtin.sorted
 refine wpAny_bind (wpAny_pure ?_)
 refine wpAny_bind (collect_list hl ?_ hz)
 refine wpAny_bind (wpAny_newList ?_ hz)
 refine wpAny_bind (wpAny_holding ?_)
 generalize hh1:(s.heap.push (seqObj "list" #[] 0)).update s.heap.objs.size (Obj.mapSeq λx=>x++vs.toArray)=h1
 have sz1:h1.objs.size=s.heap.objs.size+1:=by rw [<-hh1,Heap.size_update,Heap.size_push]
 have k1:∀ c o,s.heap.get? c=some o->h1.get? c=some o:=λc o e=>by
  rw [<-hh1]
  exact Zco (Nat.ne_of_lt (Heap.lt_size e)) (Heap.get?_push_of_some _ e)
 generalize hh2:h1.push { cls:=Value.type "list", data:=Data.seq vs.toArray }=h2
 have ha:h2.get? h1.objs.size=some (seqObj "list" vs.toArray 0):=by rw [<-hh2];exact Heap.get?_push_size _ rfl
 have k2:∀ c o,s.heap.get? c=some o->h2.get? c=some o:=λc o e=>by
  rw [<-hh2]
  exact Heap.get?_push_of_some _ (k1 c o e)
 have k3:∀ c o,s.heap.get? c=some o->(Zcn { s with heap:=h2 } h1.objs.size vs).heap.get? c=some o:=λc o e=>by
  unfold Zcn
  refine Heap.get?_push_of_some _ (Heap.get?_push_of_some _ (Zco ?_ (k2 c o e)))
  have:=Heap.lt_size e
  rw [sz1]
  exact Nat.ne_of_lt (Nat.lt_succ_of_lt this)
 refine wpAny_call_entry (s:={ s with heap:=h2 }) slot_list_sort ⟨_,ha,rfl⟩ entry_list_sort ?_ (args_list_sort _)
 refine ZdU (s:={ s with heap:=h2 }) W ha hz hg (λh=>hk _ k3 h) (L _ k3) λout p r=>⟨.none,rfl,wpAny_pure ⟨_,rfl,?_⟩⟩
 have e:({ s with heap:=sortedHeap h2 h1.objs.size vs (out.map (·.2)) }:Shared)={ s with heap:=sortedAll s.heap vs (out.map (·.2)) }:=by
  unfold sortedAll
  rw [sz1,<-hh2,<-hh1]
 show Q (.ref h1.objs.size) { s with heap:=sortedHeap h2 h1.objs.size vs (out.map (·.2)) }
 rw [e,sz1]
 exact q out p r
def Zpt:Keyed->Keyed->Bool:=λx y=>match x.1,y.1 with
 | .int i _,.int j _=>decide (i<j)
 | _,_=>false
def Zpu (x:Keyed):Prop:=∃ i t,x.1=.int i t
def Zpv:Value->Int
 | .int i _=>i
 | _=>0
end
end L2
namespace L2
open PySem PySem.Spec PyProof.Rows
def Zcp:List Int->List Int->Bool
 | [],[]=>false
 | [],_::_=>true
 | _::_,[]=>false
 | x::xs,y::ys=>if x=y then Zcp xs ys else decide (x<y)
section
variable {prog:Program} {w:World} {A:Around} {E:Value->Shared->Prop} {s:Shared}
theorem ZdV:∀ {its:List Value} {ns:List Int},IntsAre its ns->∀ k:Nat,(its[k]?=none/\ns.drop k=[])\/∃ i t,its[k]?=some (.int i t)/\ns.drop k=i::ns.drop (k+1)
 | _,_,.nil,k=>.inl ⟨by simp,by simp⟩
 | _,_,.cons n t h,0=>.inr ⟨n,t,rfl,rfl⟩
 | _,_,.cons n t h,k+1=>by
  rcases ZdV h k with ⟨h1,h2⟩ | ⟨i,t,h1,h2⟩
  ·exact .inl ⟨by simpa using h1,by simpa using h2⟩
  ·exact .inr ⟨i,t,by simpa using h1,by simpa using h2⟩
theorem ZbS {its:List Value} {ns:List Int} (h:IntsAre its ns):its.length=ns.length:=by
 induction h with
 | nil=>rfl
 | cons n t h ih=>simp [ih]
theorem Zkd {a c:Addr} {oa oc:Obj} {xs ys:List Value} {ns ms:List Int} {na nc:Nat} {R:Result->Shared->Prop} (ga:s.heap.get? a=some oa) (gc:s.heap.get? c=some oc) (da:oa.data=.seq xs.toArray na) (dc:oc.data=.seq ys.toArray nc) (hx:IntsAre xs ns) (hy:IntsAre ys ms) :
  ∀ left k:Nat,ns.length-k=left->k<=ns.length->k<=ms.length->R (.ok (.ret (.bool (Zcp (ns.drop k) (ms.drop k))))) s->codeAny (model prog w) A (.builtin "list.__eq__.loop" { pos:=[.ref a,.ref c,rawInt (k:Int),rawInt 0] }) R s:=by
 intro left
 induction left with
 | zero=>
  intro k hl h1 h2 hR
  refine codeAny_builtin MeetsSeq3.entry_eq_loop ?_
  rw [Around.under_plainId MeetsSeq3.plain_eq_loop _]
  show wpAny _ A.in1 (Builtin.List.listItems (.ref a) >>= _) _ _ s
  refine wpAny_bind (listItems_at ga da (wpAny_bind (listItems_at gc dc ?_)))
  have e1:xs.toArray[((k:Int)).toNat]?=none:=by
   rw [Int.toNat_natCast]
   rcases ZdV hx k with ⟨h,_⟩ | ⟨i,t,h,_⟩
   ·simpa using h
   ·have:=(List.getElem?_eq_some_iff.mp h).1
    have:=ZbS hx
    omega
  rw [e1]
  show wpAny _ A.in1 (Builtin.List.listItems (.ref a) >>= _) _ _ s
  refine wpAny_bind (listItems_at ga da (wpAny_bind (listItems_at gc dc (wpAny_pure ?_))))
  show R (.ok (.ret (.bool (decide (xs.toArray.size<ys.toArray.size))))) s
  have e2:Zcp (ns.drop k) (ms.drop k)=decide (xs.toArray.size<ys.toArray.size):=by
   rw [List.size_toArray,List.size_toArray,ZbS hx,ZbS hy]
   have:ns.drop k=[]:=List.drop_of_length_le (by omega)
   rw [this]
   cases hd:ms.drop k with
   | nil=>
    have:=List.drop_eq_nil_iff.mp hd
    rw [decide_eq_false (by omega)]
    rfl
   | cons y l=>
    have:k<ms.length:=by
     refine Nat.lt_of_not_le λh=>?_
     rw [List.drop_of_length_le h] at hd
     cases hd
    rw [decide_eq_true (by omega)]
    rfl
  rw [<-e2]
  exact hR
 | succ left ih=>
  intro k hl h1 h2 hR
  refine codeAny_builtin MeetsSeq3.entry_eq_loop ?_
  rw [Around.under_plainId MeetsSeq3.plain_eq_loop _]
  show wpAny _ A.in1 (Builtin.List.listItems (.ref a) >>= _) _ _ s
  refine wpAny_bind (listItems_at ga da (wpAny_bind (listItems_at gc dc ?_)))
  rw [Int.toNat_natCast]
  rcases ZdV hx k with ⟨h,z⟩ | ⟨i,t,hi,di⟩
  ·have:=List.drop_eq_nil_iff.mp z
   omega
  ·have e1:xs.toArray[k]?=some (.int i t):=by simpa using hi
   rw [e1]
   rcases ZdV hy k with ⟨h,z⟩ | ⟨j,u,hj,dj⟩
   ·have e2:ys.toArray[k]?=none:=by simpa using h
    rw [e2]
    show wpAny _ A.in1 (Builtin.List.listItems (.ref a) >>= _) _ _ s
    refine wpAny_bind (listItems_at ga da (wpAny_bind (listItems_at gc dc (wpAny_pure ?_))))
    show R (.ok (.ret (.bool (decide (xs.toArray.size<ys.toArray.size))))) s
    rw [di,z] at hR
    have:=List.drop_eq_nil_iff.mp z
    rw [List.size_toArray,List.size_toArray,ZbS hx,ZbS hy,decide_eq_false (by omega)]
    exact hR
   ·have e2:ys.toArray[k]?=some (.int j u):=by simpa using hj
    rw [e2]
    rw [di,dj] at hR
    show wpAny _ A.in1 (eqBool (.int i t) (.int j u) >>= _) _ _ s
    refine wpAny_bind (wpAny_eqBool_int ?_)
    have kl:k<ms.length:=by
     have:=(List.getElem?_eq_some_iff.mp hj).1
     rw [ZbS hy] at this
     exact this
    by_cases hij:i=j
    ·rw [show (i == j)=true by rw [hij];exact beq_self_eq_true _,if_pos rfl]
     refine wpAny_pure ⟨plainId_quiet MeetsSeq3.plain_eq_loop _,ih (k+1) (by omega) (by omega) (by omega) ?_⟩
     unfold Zcp at hR
     rw [if_pos hij] at hR
     exact hR
    ·rw [show (i == j)=false by rw [beq_eq_false_iff_ne];exact hij,if_neg Bool.false_ne_true]
     refine wpAny_bind (listItems_at ga da (wpAny_bind (listItems_at gc dc ?_)))
     rw [e1,e2]
     refine wpAny_bind (lt_int (wpAny_pure ?_))
     unfold Zcp at hR
     rw [if_neg hij] at hR
     exact hR
theorem Ziz (a c:Addr) (xs ys:List Value) (ns ms:List Int) (na nc:Nat) (hx:IntsAre xs ns) (hy:IntsAre ys ms):Meets (Builtin.«list.__lt__» { pos:=[.ref a,.ref c] }) λA R s=>
  s.heap.IsList a xs.toArray/\s.heap.IsList c ys.toArray/\R (.ok (.ret (.bool (Zcp ns ms)))) s:=by
 intro prog w A R s ⟨ha,hc,hR⟩
 obtain ⟨oa,ga,ca,n1,da⟩:=ha
 obtain ⟨oc,gc,cc,n2,dc⟩:=hc
 show wpAny _ A.in1 (isInstance (.ref c) (.type "list") >>= _) _ _ s
 refine wpAny_bind (wpAny_isInstance (T := "list") ⟨oc,gc,cc⟩ (by first | rfl | decide +kernel) ?_)
 refine wpAny_pure ⟨plainId_quiet MeetsSeq3.plain_eq_loop _,?_⟩
 exact Zkd ga gc da dc hx hy _ 0 rfl (Nat.zero_le _) (Nat.zero_le _) hR
theorem Zgj {a c:Addr} {xs ys:List Value} {ns ms:List Int} {Q:Bool->Shared->Prop} (ha:s.heap.IsList a xs.toArray) (hc:s.heap.IsList c ys.toArray) (hx:IntsAre xs ns) (hy:IntsAre ys ms) (hu:A.units<cLine) (h:Q (Zcp ns ms) s) :
  wpAny (model prog w) A (oneLt' true (.ref a) (.ref c)) Q E s:=by
 rw [oneLt'_eq]
 dsimp only
 rw [if_pos rfl]
 refine wpAny_bind (wpAny_cRoom hu ?_)
 have Ta:s.TypeIs (.ref a) "list" := ha.elim λo z=>⟨o,z.1,z.2.1⟩
 refine wpAny_bind (wpAny_callSpecialIfBound?_slot Ta F.slot_list_lt (call_meets F.slot_list_lt Ta F.entry_list_lt (F.args_list_lt_2 _ _) (Ziz a c xs ys ns ms 0 0 hx hy) ⟨ha,hc,?_⟩))
 show wpAny _ A (truthOfDropped (.bool (Zcp ns ms))) Q E s
 exact wpAny_truthy_bool h
end
end L2
namespace L2
open PySem PySem.Spec PyProof.Rows Classical
theorem ZfI:∀ xs:List Int,Zcp xs xs=false
 | []=>rfl
 | x::xs=>by
  unfold Zcp
  rw [if_pos rfl]
  exact ZfI xs
theorem Zhp:∀ {xs ys zs:List Int},Zcp xs ys=true->Zcp ys zs=true->Zcp xs zs=true
 | [],[],_,h,_=>by simp [Zcp] at h
 | [],_::_,[],_,h=>by simp [Zcp] at h
 | [],_::_,_::_,_,_=>rfl
 | _::_,[],_,h,_=>by simp [Zcp] at h
 | _::_,_::_,[],_,h=>by simp [Zcp] at h
 | x::xs,y::ys,z::zs,h1,h2=>by
  unfold Zcp at h1 h2 ⊢
  by_cases e1:x=y
  ·rw [if_pos e1] at h1
   by_cases e2:y=z
   ·rw [if_pos e2] at h2
    rw [if_pos (e1.trans e2)]
    exact Zhp h1 h2
   ·rw [if_neg e2] at h2
    rw [if_neg (by rw [e1];exact e2),e1]
    exact h2
  ·rw [if_neg e1] at h1
   have h1:=of_decide_eq_true h1
   by_cases e2:y=z
   ·rw [if_neg (by rw [<-e2];exact e1),<-e2]
    exact decide_eq_true h1
   ·rw [if_neg e2] at h2
    have h2:=of_decide_eq_true h2
    rw [if_neg (by omega)]
    exact decide_eq_true (by omega)
theorem ZdW:∀ {xs ys:List Int},Zcp xs ys=false->Zcp ys xs=false->xs=ys
 | [],[],_,_=>rfl
 | [],_::_,h,_=>by simp [Zcp] at h
 | _::_,[],_,h=>by simp [Zcp] at h
 | x::xs,y::ys,h1,h2=>by
  unfold Zcp at h1 h2
  by_cases e:x=y
  ·rw [if_pos e] at h1
   rw [if_pos e.symm] at h2
   rw [e,ZdW h1 h2]
  ·rw [if_neg e] at h1
   rw [if_neg (Ne.symm e)] at h2
   have h1:=of_decide_eq_false h1
   have h2:=of_decide_eq_false h2
   omega
theorem ZlG {α:Type} {κ:Keyed->α} {lt:α->α->Bool} (irr:∀ a,lt a a=false) (tr:∀ {a b c},lt a b=true->lt b c=true->lt a c=true) (tot:∀ {a b},lt a b=false->lt b a=false->a=b):WO (λx y=>lt (κ x) (κ y)):=by
 refine ⟨λx=>irr _,λx y z=>tr,λx y z h=>?_⟩
 cases h1:lt (κ x) (κ y) with
 | true=>exact .inl rfl
 | false=>
  cases h2:lt (κ y) (κ x) with
  | true=>exact .inr (tr h2 h)
  | false=>
   rw [<-tot h1 h2]
   exact .inr h
theorem Zhq {α β:Type} {f:α->β}:∀ {l:List β} {zs:List α},l.Perm (zs.map f)->∃ zs':List α,zs'.Perm zs/\zs'.map f=l:=by
 intro l zs h
 generalize hm:zs.map f=m at h
 induction h generalizing zs with
 | nil=>exact ⟨zs,.refl _,by rw [hm]⟩
 | @cons x l1 l2 _ ih=>
  cases zs with
  | nil=>simp at hm
  | cons z zs=>
   simp at hm
   obtain ⟨zs',h1,h2⟩:=ih hm.2
   exact ⟨z::zs',h1.cons z,by rw [List.map_cons,h2,hm.1]⟩
 | swap x y l=>
  cases zs with
  | nil=>simp at hm
  | cons z zs=>
   cases zs with
   | nil=>simp at hm
   | cons z2 zs=>
    simp at hm
    exact ⟨z2::z::zs,.swap _ _ _,by simp [hm.1,hm.2.1,hm.2.2]⟩
 | trans _ _ ih1 ih2=>
  obtain ⟨zs1,h1,h2⟩:=ih2 hm
  obtain ⟨zs2,h3,h4⟩:=ih1 h2
  exact ⟨zs2,h3.trans h1,h4⟩
section
variable {prog:Program} {w:World} {A:Around} {E:Value->Shared->Prop} {s:Shared} {b:Keyed->Keyed->Bool} {good:Keyed->Prop}
theorem ZiA (h:∀ x y,good x->good y->∀ {E':Value->Shared->Prop} {Q:Bool->Shared->Prop},Q (b x y) s->wpAny (model prog w) A (oneLt' true x.1 y.1) Q E' s):ZcK (model prog w) A E s oneType' b good:=by
 intro x y st Q gx gy hs q
 rw [lt'_eq]
 refine wpS_bind (wpS_get ?_)
 refine wpS_bind (wpS_lift ?_)
 rw [hs,keyLt'_oneType]
 exact wpAny_attempt (h x y gx gy ⟨rfl,wpS_pure q⟩)
theorem ZcF {β:Type} {f:Value->Sem β} {g:Value->β}:∀ {vs:List Value} {Q:List β->Shared->Prop},(∀ v∈vs,∀ {Q:β->Shared->Prop},Q (g v) s->wpAny (model prog w) A (f v) Q E s)->Q (vs.map g) s->wpAny (model prog w) A (List.mapM f vs) Q E s
 | [],Q,_,q=>by
  rw [List.mapM_nil]
  exact wpAny_pure q
 | v::vs,Q,h,q=>by
  rw [List.mapM_cons]
  refine wpAny_bind (h v (List.mem_cons_self ..) ?_)
  exact wpAny_bind (ZcF (λu hu=>h u (List.mem_cons_of_mem _ hu)) (wpAny_pure q))
theorem ZeA {α β:Type} {m:Sem α} {f:α->β} {Q:β->Shared->Prop} (h:wpAny (model prog w) A m (λa s'=>Q (f a) s') E s):wpAny (model prog w) A (f <$> m) Q E s:=by
 rw [map_eq_pure_bind]
 exact wpAny_bind (wpAny_mono h (λa s' z=>wpAny_pure z) λ_ _ z=>z)
theorem Zfd {T:String} {vs:List Value} {R:SortKind->Shared->Prop} (hT:T ≠ "tuple") (h:∀ v∈vs,s.TypeIs v T) (h2:2<=vs.length) (q:R oneType' s):wpAny (model prog w) A (keyKind' vs.toArray) R E s:=by
 rw [keyKind'_eq,List.mapM_toArray]
 have ne:(Value.type T != Value.type "tuple")=true:=by
  rw [bne_iff_ne]
  intro e
  injection e with e
  exact hT e
 refine wpAny_bind (ZeA (ZcF (g:=λ_=>none) (λv hv Q q=>?_) ?_))
 ·show wpAny _ _ (typeOf v >>= _) _ _ s
  refine wpAny_bind (wpAny_typeOf (h v hv) ?_)
  rw [if_pos ne]
  exact wpAny_pure q
 ·obtain ⟨v1,v2,rest,rfl⟩:∃ v1 v2 rest,vs=v1::v2::rest:=by
   match vs,h2 with
   | v1::v2::rest,_=>exact ⟨v1,v2,rest,rfl⟩
  rw [if_neg (by simp)]
  rw [if_neg (by simp)]
  rw [oneTypeOnly'_eq,List.mapM_toArray]
  refine wpAny_bind (wpAny_bind (ZeA (ZcF (g:=λ_=>Value.type T) (λv hv Q q=>wpAny_typeOf (h v hv) q) ?_)))
  simp only [List.map_cons,List.getElem?_toArray,List.getElem?_cons_zero]
  refine wpAny_pure ?_
  rw [if_pos (by simp)]
  exact wpAny_pure q
end
end L2
namespace L2
open PySem PySem.Spec PyProof.Rows Classical
def ltI (x y:Int):Bool:=decide (x<y)
theorem ZeB {b:Keyed->Keyed->Bool} {out:Array Keyed} {n:Nat} (h:Rng b out 0 n) (hn:out.size=n):out.toList.Pairwise (kle b):=by
 rw [List.pairwise_iff_getElem]
 intro i j hi hj hij
 rw [Array.length_toList] at hi hj
 exact h i j _ _ (Nat.zero_le _) (by omega) (by omega) (by simp [hi]) (by simp [hj])
theorem ZiB {vs:List Value} {out:Array Keyed} (h:out.Perm (pairsOf vs)):(out.map (·.2)).toList.Perm vs/\(∀ x∈out.toList,x.1=x.2/\x.1∈vs)/\out.size=vs.length:=by
 have p:out.toList.Perm (vs.zip vs):=by
  have:=h.toList
  rw [pairsOf_toList] at this
  exact this
 refine ⟨?_,λx hx=>mem_zip_self (p.mem_iff.mp hx),by rw [h.size_eq,pairsOf_size]⟩
 rw [Array.toList_map]
 have:=p.map (λx:Keyed=>x.2)
 rw [show (vs.zip vs).map (λx:Keyed=>x.2)=vs from List.map_snd_zip (Nat.le_refl _)] at this
 exact this
noncomputable def Zke (h:Heap) (v:Value):List Int:=if q:∃ ns a its,v=.ref a/\h.IsList a its/\IntsAre its.toList ns then choose q else []
theorem ZfJ:∀ {its:List Value} {ns ms:List Int},IntsAre its ns->IntsAre its ms->ns=ms
 | _,_,_,.nil,.nil=>rfl
 | _,_,_,.cons n t h,.cons _ _ k=>by rw [ZfJ h k]
theorem Zgk {h:Heap} {a:Addr} {xs ys:Array Value} (h1:h.IsList a xs) (h2:h.IsList a ys):xs=ys:=by
 obtain ⟨o,e,_,n,d⟩:=h1
 obtain ⟨o',e',_,n',d'⟩:=h2
 rw [e] at e';cases e'
 rw [d] at d';cases d'
 rfl
theorem ZdX {h:Heap} {a:Addr} {its:Array Value} {ns:List Int} (hl:h.IsList a its) (hi:IntsAre its.toList ns):Zke h (.ref a)=ns:=by
 have q:∃ ns a' its,Value.ref a=.ref a'/\h.IsList a' its/\IntsAre its.toList ns:=⟨ns,a,its,rfl,hl,hi⟩
 unfold Zke
 rw [dif_pos q]
 obtain ⟨a',its',e,h1,h2⟩:=choose_spec q
 cases e
 have:=Zgk hl h1
 subst this
 exact ZfJ h2 hi
theorem Zkf (h:Heap):WO (λx y=>Zcp (Zke h x.1) (Zke h y.1)):=ZlG (κ:=λx:Keyed=>Zke h x.1) (lt:=Zcp) ZfI Zhp ZdW
section
variable {X:Cx} (K:PySem.W.Frag)
def Zn5:List V->Hp->VK->Prop:=λxs H Q=>∃ (p:Addr) (ns:List Int),xs=[.ref p]/\SqL K H p (ns.map V.int)/\∀ (l:Addr) (ns':List Int),H l=none->ns'.Perm ns->ns'.Pairwise (· <= ·)->Q (.ref l) (upd H l (.lst (ns'.map V.int)))
def Zkg:List V->Hp->VK->Prop:=λxs H Q=>∃ (p:Addr) (zs:List (Addr×List Int)),xs=[.ref p]/\SqL K H p (zs.map λz=>V.ref z.1)/\(∀ z∈zs,SqL K H z.1 (z.2.map V.int)) /\
 ∀ (l:Addr) (zs':List (Addr×List Int)),H l=none->zs'.Perm zs->(zs'.map (·.2)).Pairwise (λa b=>Zcp b a=false)->Q (.ref l) (upd H l (.lst (zs'.map λz=>V.ref z.1)))
theorem ZfK:∀ {zs:List (Addr×List Int)} {its:List Value},Vals (zs.map λz=>V.ref z.1) its->its=zs.map λz=>Value.ref z.1
 | [],_,h=>by cases h;rfl
 | z::zs,_,h=>by
  cases h with
  | cons r h=>
   cases r
   rw [ZfK h]
   rfl
theorem ZeC:∀ (zs:List (Addr×List Int)),Vals (zs.map λz=>V.ref z.1) (zs.map λz=>Value.ref z.1)
 | []=>.nil
 | z::zs=>.cons rfl (ZeC zs)
theorem Zfe (hu:X.A.units+64<cLine) (h:X.K=K:=by rfl):ZbW X (.builtin "sorted") (Zkg K):=by
 subst h
 intro pins s σ H xs us Q I rv h
 obtain ⟨p,zs,rfl,hq,hz,q⟩:=h
 obtain ⟨u,rfl,ru⟩:=rv.one
 cases ru
 obtain ⟨its,r,pl,hzl⟩:=I.list hq
 have hl:=r.length
 rw [List.length_map] at hl hzl
 have ei:=ZfK r
 have key:∀ z∈zs,∃ its:Array Value,s.heap.IsList z.1 its/\IntsAre its.toList z.2:=λz hzm=>by
  obtain ⟨iz,rz,pz,_⟩:=I.list (hz z hzm)
  exact ⟨iz.toArray,pz.isList,Zdn rz⟩
 have isL:∀ v∈its,∃ a,∃ it:Array Value,∃ ns,v=.ref a/\s.heap.IsList a it/\IntsAre it.toList ns:=λv hv=>by
  rw [ei] at hv
  obtain ⟨z,hzm,rfl⟩:=List.mem_map.mp hv
  obtain ⟨it,h1,h2⟩:=key z hzm
  exact ⟨z.1,it,z.2,rfl,h1,h2⟩
 have keepL:∀ {h':Heap} {a:Addr} {it:Array Value},(∀ c o,s.heap.get? c=some o->h'.get? c=some o)->s.heap.IsList a it->h'.IsList a it:=λk hl=>by
  obtain ⟨o,e,r⟩:=hl
  exact ⟨o,k _ _ e,r⟩
 refine Zgi (good:=λx=>∃ a,∃ it:Array Value,∃ ns,x.1=.ref a/\s.heap.IsList a it/\IntsAre it.toList ns) (Zkf s.heap) pl.isList (by omega) isL (λh' k h2 E' R q=>?_) (λh' k=>ZiA λx y gx gy E' Q q=>?_) λout hp hr=>?_
 ·refine Zfd (T := "list") (by decide) (λv hv=>?_) h2 q
  obtain ⟨a,it,ns,rfl,h1,_⟩:=isL v hv
  obtain ⟨o,e,c,_⟩:=keepL k h1
  exact ⟨o,e,c⟩
 ·obtain ⟨a,it,ns,e1,h1,h2⟩:=gx
  obtain ⟨c,jt,ms,e2,h3,h4⟩:=gy
  simp only [e1,e2,ZdX h1 h2,ZdX h3 h4] at q ⊢
  exact Zgj (xs:=it.toList) (ys:=jt.toList) (keepL k h1) (keepL k h3) h2 h4 (by rw [Around.in1_units,Around.in1_units];omega) q
 ·obtain ⟨o1,o2,o3⟩:=ZiB hp
  obtain ⟨e,he⟩:=sortedAll_at s.heap its (out.map (·.2))
  rw [ei] at o1
  obtain ⟨zs',p1,p2⟩:=Zhq o1
  have ps:(zs'.map (·.2)).Pairwise (λa b=>Zcp b a=false):=by
   have a1:=ZeB hr o3
   have a2:(out.toList.map (·.2)).Pairwise (λu v=>Zcp (Zke s.heap v) (Zke s.heap u)=false):=by
    rw [List.pairwise_map]
    refine a1.imp_of_mem λ{x y} hx hy hxy=>?_
    rw [<-(o2 x hx).1,<-(o2 y hy).1]
    exact hxy
   rw [Array.toList_map] at p2
   rw [<-p2,List.pairwise_map] at a2
   rw [List.pairwise_map]
   refine a2.imp_of_mem λ{x y} hx hy hxy=>?_
   obtain ⟨it,h1,h2⟩:=key x (p1.mem_iff.mp hx)
   obtain ⟨jt,h3,h4⟩:=key y (p1.mem_iff.mp hy)
   rw [ZdX h1 h2,ZdX h3 h4] at hxy
   exact hxy
  refine ⟨.ref _,_,I.laid (a:=s.heap.objs.size+1) (t':=s.toks) (o:=.lst (zs'.map λz=>V.ref z.1)) (λb o e=>sortedAll_old e) (Nat.le_succ _) ⟨by rw [List.length_map,p1.length_eq];exact hzl,(out.map (·.2)).toList,e,by rw [<-p2];exact ZeC zs',he⟩,rfl,q _ _ (I.hok.fresh (Nat.le_succ _)) p1 ps⟩
end
end L2
namespace M
open PySem L2
def top (i:Nat):Stmt:=PySem.Challenge.pw_onceways_k10_every_way_by_trial.main.body.getD i (.Pass ⟨0,0,0,0⟩)
abbrev sIs:Stmt:=top 16
abbrev Zkh:Stmt:=top 17
abbrev Zki:Stmt:=top 18
abbrev Zkj:Stmt:=top 21
abbrev Zje:Stmt:=top 22
abbrev Zkk:Stmt:=top 23
abbrev Zff:Stmt:=top 24
abbrev Zjf:Stmt:=top 25
abbrev ZiC:Stmt:=top 26
abbrev Zjg:Stmt:=top 27
abbrev Zjh:Stmt:=top 28
abbrev Zkl:Stmt:=top 29
abbrev Zfg:Stmt:=top 31
abbrev Zfh:Stmt:=top 32
abbrev ZdY:Stmt:=top 33
abbrev Zc8:Stmt:=top 34
abbrev Zkm:Stmt:=top 35
abbrev Zkn:Stmt:=top 36
abbrev Zko:Stmt:=top 37
abbrev Zkp:Stmt:=top 38
abbrev Zji:Stmt:=top 39
abbrev Zhr:Stmt:=top 40
abbrev Zjj:Stmt:=top 41
abbrev Zkq:Stmt:=top 42
abbrev Zjk:Stmt:=top 43
abbrev Zkr:Stmt:=top 44
abbrev Zks:Stmt:=top 45
abbrev Zkt:Stmt:=top 46
abbrev ZiD:Stmt:=top 47
section
variable {P:Program} {w:World} {K:PySem.W.Frag} {mg:Str->Option Value} {base:Heap}
theorem Za3 {p:Nat} {a:Int} (h:a.natAbs<2 ^ p:=by decide +kernel):Lt2 p a:=h
def Zjl:Sp:=λvs H Q _=>∃ (c k:Int),vs=[.int c,.int k]/\1<=k/\k<=3/\∀ r:Int,0<=r->Lt2 210 r->Q (.int r) H
theorem scStir:Zaw ["cell", "k", "number"] ["cell", "k"] (Zad Zfg):=⟨rfl,rfl,rfl,by decide +kernel,rfl,by decide +kernel,by decide +kernel⟩
theorem Zku {f:Addr} {fd:FuncData} (F:Fun K "_law_stir" "_law_stir" Zfg f fd):ZaN P w K mg base CX0 1 f fd ["cell", "k"] Zjl:=by
 refine F.ok scStir (λvs H Q E h=>?_) (λcdv A outer s H vs Q E hr h=>?_)
 ·obtain ⟨c,k,rfl,_⟩:=h
  rfl
 ·obtain ⟨c,k,rfl,h1,h2,q⟩:=h
  refine ⟨_,Zae (Zau (i:=2) scStir.nd rfl (Or.inl rfl)
    (Zav ZaK (Zav ZaK (Zav Zby (Zav Zed (pv 0) (Zav Zca Zaf Zaf)) Zaf) (Zav Zby (Zav Zby (Zav Zca Zaf Zaf) (Zav ZaK (pv 1) Zaf)) (Zav ZaK (pv 1) Zaf))) (pv 1)))
   (Zae (Zau (i:=2) scStir.nd rfl (Or.inl rfl) (Zav ZaK (Zav Zby (pv 2) (pv 2)) (Zav Zby Zaf (pv 2))))
   (Zag (Zay (Zav Zfw (Zav Zed (Zav Zby (pv 2) (pv 2)) (Zav ZaK (Zav Zca Zaf Zaf) Zaf)) Zaf)))),?_⟩
  have b1:Lt2 133 (10 ^ 40:Int):=Za3
  have m1:Lt2 133 (c % (10 ^ 40:Int)):=Lt2.mod (by decide) b1
  have k1:Lt2 3 (k+1):=by show (k+1).natAbs<2 ^ 3;omega
  have k2:Lt2 150 k:=by show k.natAbs<2 ^ 150;omega
  have t1:Lt2 96 (3 ^ 60:Int):=Za3
  have c1:Lt2 16 (48271:Int):=Za3
  have n1:=((m1.mul c1).mono (show 133+16<=149 by decide)).add (((t1.mul k1).mul k1).mono (show 96+3+3<=149 by decide))
  have n2:=n1.add k2
  have c2:Lt2 17 (69621:Int):=Za3
  have n3:=((n2.mul n2).mono (show 151+151<=302 by decide)).add ((c2.mul n2).mono (show 17+151<=302 by decide))
  refine ⟨_,rfl,_,_,rfl,rfl,⟨by decide,by decide,by decide⟩,_,_,rfl,rfl,(by show (0:Int)<10 ^ 40;decide),_,_,rfl,rfl,⟨133,16,m1,c1,by decide,by decide⟩,?_⟩
  refine ⟨_,_,rfl,rfl,⟨by decide,by decide,by decide⟩,_,rfl,_,_,rfl,rfl,_,_,rfl,rfl,⟨96,3,t1,k1,by decide,by decide⟩,_,rfl,_,_,rfl,rfl,_,_,rfl,rfl,⟨99,3,t1.mul k1,k1,by decide,by decide⟩,_,_,rfl,rfl,_,rfl,_,_,rfl,rfl,?_⟩
  refine ⟨_,rfl,_,rfl,_,_,rfl,rfl,⟨151,151,n2,n2,by decide,by decide⟩,_,rfl,_,_,rfl,rfl,⟨17,151,c2,n2,by decide,by decide⟩,_,_,rfl,rfl,?_⟩
  have md:Lt2 204 ((10:Int) ^ 61+7):=Za3
  refine ⟨_,rfl,_,rfl,_,_,rfl,rfl,⟨303,303,n3,n3,by decide,by decide⟩,_,_,rfl,rfl,⟨by decide,by decide,by decide⟩,_,_,rfl,rfl,_,_,rfl,rfl,(by show (0:Int)<10 ^ 61+7;decide),_,_,rfl,rfl,⟨by decide,Za3⟩,?_⟩
  have z0:=Int.emod_nonneg (b:=(10:Int) ^ 61+7) ((((c % 10 ^ 40) * 48271+3 ^ 60 * (k+1) * (k+1)+k) * ((c % 10 ^ 40) * 48271+3 ^ 60 * (k+1) * (k+1)+k)+69621 * ((c % 10 ^ 40) * 48271+3 ^ 60 * (k+1) * (k+1)+k)) * (((c % 10 ^ 40) * 48271+3 ^ 60 * (k+1) * (k+1)+k) * ((c % 10 ^ 40) * 48271+3 ^ 60 * (k+1) * (k+1)+k)+69621 * ((c % 10 ^ 40) * 48271+3 ^ 60 * (k+1) * (k+1)+k))) (by decide)
  exact q _ (Int.ediv_nonneg z0 (by decide)) ((Lt2.div z0 (by decide) (Lt2.mod (by decide) md)).mono (by decide))
def Zjm:Sp:=λvs H Q _=>∃ (c:Int),vs=[.int c]/\∀ (p:Addr) (n:Int),H p=none->Q (.ref p) (upd H p (.lst [.int n]))
theorem ZlH:Zaw ["cell"] ["cell"] (Zad Zfh):=⟨rfl,rfl,rfl,by decide +kernel,rfl,by decide +kernel,by decide +kernel⟩
theorem Zkv {f fS:Addr} {fd fdS:FuncData} (F:Fun K "_law_deck" "_law_deck" Zfh f fd) (FS:Fun K "_law_stir" "_law_stir" Zfg fS fdS) (bS:Binds K fdS ["cell", "k"] []) (mS:mg "_law_stir" = some (.ref fS)) :
  ZaN P w K mg base CX0 2 f fd ["cell"] Zjm:=by
 have GS:ZaN P w K mg base CX0 1 fS fdS ["cell", "k"] Zjl:=Zku FS
 refine F.ok ZlH (λvs H Q E h=>?_) (λcdv A outer s H vs Q E hr h=>?_)
 ·obtain ⟨c,rfl,_⟩:=h
  rfl
 ·obtain ⟨c,rfl,q⟩:=h
  refine ⟨_,Zae (Za1 (Zax ZjF (pv 0) (Zav Zca Zaf Zaf) (ZaD _)) (Zag (Zay (ZaF (Zaa (Zav ZcV (pv 0) (Zav Zca Zaf Zaf)) Zac)))) ZaA)
   (Zag (Zay (ZaF (Zaa (Zav ZaK (Zav Zby (Zav ZaK (Zav Zby
    (Zaj GS hr rfl mS FS.kp bS .nil ZaG (Zaa (pv 0) (Zaa Zaf Zac))) (Zav Zca Zaf Zaf))
    (Zaj GS hr rfl mS FS.kp bS .nil ZaG (Zaa (pv 0) (Zaa Zaf Zac)))) (Zav Zca Zaf Zaf))
    (Zaj GS hr rfl mS FS.kp bS .nil ZaG (Zaa (pv 0) (Zaa Zaf Zac)))) Zac)))),?_⟩
  refine ⟨_,rfl,_,_,rfl,rfl,⟨by decide,by decide,by decide⟩,_,_,rfl,rfl,_,rfl,?_⟩
  refine Zde (λ_=>?_) (λ_=>?_)
  ·refine ⟨_,rfl,_,_,rfl,rfl,⟨by decide,by decide,by decide⟩,_,_,rfl,rfl,(by show 1<=sizeLine;decide),λp hp=>q p _ hp⟩
  ·have b1:Lt2 210 (10 ^ 60:Int):=Za3
   refine ⟨_,rfl,c,1,rfl,by decide,by decide,λr1 h1 l1=>?_⟩
   refine ⟨_,_,rfl,rfl,⟨by decide,by decide,by decide⟩,_,_,rfl,rfl,⟨210,210,l1,b1,by decide,by decide⟩,?_⟩
   refine ⟨_,rfl,c,2,rfl,by decide,by decide,λr2 h2 l2=>?_⟩
   have l3:=((l1.mul b1).mono (show 210+210<=420 by decide)).add (l2.mono (show 210<=420 by decide))
   refine ⟨_,_,rfl,rfl,_,_,rfl,rfl,⟨by decide,by decide,by decide⟩,_,_,rfl,rfl,⟨421,210,l3,b1,by decide,by decide⟩,?_⟩
   refine ⟨_,rfl,c,3,rfl,by decide,by decide,λr3 h3 l4=>?_⟩
   exact ⟨_,_,rfl,rfl,(by show 1<=sizeLine;decide),λp hp=>q p _ hp⟩
def ZfL:Sp:=λvs H Q _=>∃ (d:Addr) (n m:Int),vs=[.ref d,.int m]/\H d=some (.lst [.int n])/\0<m/\Lt2 9000 m/\∀ n' r:Int,0<=r->r<m->Q (.int r) (upd H d (.lst [.int n']))
theorem scTake:Zaw ["deck", "many", "taken"] ["deck", "many"] (Zad ZdY):=⟨rfl,rfl,rfl,by decide +kernel,rfl,by decide +kernel,by decide +kernel⟩
theorem Zfi {f:Addr} {fd:FuncData} (F:Fun K "_law_take" "_law_take" ZdY f fd):ZaN P w K mg base CX0 1 f fd ["deck", "many"] ZfL:=by
 refine F.ok scTake (λvs H Q E h=>?_) (λcdv A outer s H vs Q E hr h=>?_)
 ·obtain ⟨d,n,m,rfl,_⟩:=h
  rfl
 ·obtain ⟨d,n,m,rfl,hd,hm,hb,q⟩:=h
  refine ⟨_,Zae (Zau (i:=2) scTake.nd rfl (Or.inl rfl) (Zav Zed (ZaB ZeV (pv 0) Zaf (λ_ _=>rfl)) (pv 1)))
   (Zae (Zgx (Zav Zfw (ZaB ZeV (pv 0) Zaf (λ_ _=>rfl)) (pv 1)) (Zk2 (pv 0) Zaf Zh3))
   (Zag (Zay (pv 2)))),?_⟩
  refine ⟨_,rfl,d,_,_,_,rfl,rfl,SqL.of hd,Zam (j:=0) rfl,_,rfl,_,_,rfl,rfl,hm,?_⟩
  refine ⟨_,rfl,d,_,_,_,rfl,rfl,SqL.of hd,Zam (j:=0) rfl,_,rfl,_,_,rfl,rfl,⟨hm,hb⟩,?_⟩
  refine ⟨_,rfl,d,_,0,0,rfl,rfl,hd,rfl,_,rfl,?_⟩
  exact q (n / m) (n % m) (Int.emod_nonneg n (Int.ne_of_gt hm)) (Int.emod_lt_of_pos n hm)
end
section
variable {P:Program} {w:World} {K:PySem.W.Frag} {mg:Str->Option Value} {base:Heap}
theorem ZaT:2<=sizeLine:=by decide
theorem ZiE (r c p:Nat):(Zf8 r c p).length<=2:=by
 unfold Zf8
 rw [List.length_append]
 split <;> split <;> simp
theorem ZeD (r c:Nat):∀ i,(Zcg r c i).length<=2 * i
 | 0=>by simp [Zcg]
 | i+1=>by
  have h1:=ZeD r c i
  have h2:=ZiE r c i
  rw [Zb3,List.length_append]
  omega
def Zhs:Sp:=λvs H Q _=>∃ (r c:Nat),vs=[.int (r:Int),.int (c:Int)]/\1<=r/\1<=c/\r<=16/\c<=16/\∀ (p l:Addr) (xs:List V) (H':Hp),Same H H'->H p=none->H l=none->p≠l->H' p=some (.tup [.int ((r:Int) * (c:Int)),.ref l])->H' l=some (.lst xs)->Prs H' xs (Zcg r c (r * c))->Q (.ref p) H'
theorem scLGrid:Zaw ["rows", "columns", "roads", "place"] ["rows", "columns"] (Zad Zc8):=⟨rfl,rfl,rfl,by decide +kernel,rfl,by decide +kernel,by decide +kernel⟩
theorem ZiF {f:Addr} {fd:FuncData} (F:Fun K "_law_grid" "_law_grid" Zc8 f fd) (mRange:mg "range" = none):ZaN P w K mg base CX0 1 f fd ["rows", "columns"] Zhs:=by
 refine F.ok scLGrid (λvs H Q E h=>?_) (λcdv A outer s H vs Q E hr h=>?_)
 ·obtain ⟨r,c,rfl,_⟩:=h
  rfl
 ·obtain ⟨r,c,rfl,hr1,hc1,hr2,hc2,q⟩:=h
  refine ⟨_,Zae (Zau (i:=2) scLGrid.nd rfl (Or.inl rfl) (ZaF Zac))
    (Zae (Zbi PassesOwn.never rfl (ZaQ rfl mRange (Zaa (Zav ZgA (pv 0) (pv 1)) Zac)) (Zat (i:=3) scLGrid.nd rfl (Or.inl rfl))
    (Zae (Za1 (Zax ZjE (Zav Zed (Zav ZaK (pv 3) Zaf) (pv 1)) Zaf (ZaD _)) (Zag (ZaX (Zcd PySem.F.plainAttrs_list PySem.F.slot_list_append PySem.F.type_list_append ZaO (pv 2) (Zaa (ZaV (Zaa (pv 3) (Zaa (Zav ZaK (pv 3) Zaf) Zac))) Zac)))) ZaA)
    (Zag (Za1 (Zax Zf1 (Zav ZaK (pv 3) (pv 1)) (Zav ZgA (pv 0) (pv 1)) (ZaD _)) (Zag (ZaX (Zcd PySem.F.plainAttrs_list PySem.F.slot_list_append PySem.F.type_list_append ZaO (pv 2) (Zaa (ZaV (Zaa (pv 3) (Zaa (Zav ZaK (pv 3) (pv 1)) Zac))) Zac)))) ZaA))))
    (Zag (Zay (ZaV (Zaa (Zav ZgA (pv 0) (pv 1)) (Zaa (pv 2) Zac)))))),?_⟩
  refine ⟨Nat.zero_le _,λl hl=>?_⟩
  have hrc:(r:Int) * (c:Int)=((r * c:Nat):Int):=by push_cast;rfl
  have hb:r * c<=16 * 16:=Nat.mul_le_mul hr2 hc2
  have s0:Same H (upd H l (.lst [])):=Same.new hl
  refine ⟨_,rfl,_,rfl,_,_,rfl,rfl,.inl ⟨by omega,by omega⟩,_,rfl,(by rw [hrc];omega),(by rw [hrc];omega),?_⟩
  refine Zbc (lo:=0) (λi σ H2=>∃ (xs:List V) (v:Option V),σ=[some (.int r),some (.int c),some (.ref l),v]/\Same H H2/\H2 l=some (.lst xs)/\Prs H2 xs (Zcg r c i))
   ⟨[],none,rfl,s0,Zab,.nil⟩ ?_ ?_
  ·rintro i σ H2 hi ⟨xs,v,rfl,s2,h2,p2⟩
   have hi':i<r * c:=by rw [hrc,Int.toNat_natCast] at hi;exact hi
   rw [show (0:Int)+(i:Int)=(i:Int) by omega]
   have hlen:∀ {zs:List V} {rs:List (Int×Int)} {H3:Hp},Prs H3 zs rs->rs.length<=2 * i+1->zs.length<sizeLine:=λp hq=>by
    have:=p.len
    have h16:(16777216:Nat)=sizeLine:=sizeLine_eq.symm
    omega
   have hgl:=ZeD r c i
   dsimp only [Zdg]
   refine Zb4 (λσ' H'=>∃ xs:List V,σ'=[some (.int r),some (.int c),some (.ref l),some (.int i)]/\Same H H'/\H' l=some (.lst xs)/\Prs H' xs (Zcg r c i++(if ((i:Int)+1) % (c:Int)=0 then [] else [((i:Int),(i:Int)+1)]))) ?snd ?fst
   case fst=>
    intro hk
    refine ⟨_,rfl,_,_,rfl,rfl,_,rfl,_,_,rfl,rfl,(by show (0:Int)<(c:Int);omega),rfl,_,rfl,?_⟩
    by_cases z:((i:Int)+1) % (c:Int)=0
    ·have zz:(!decide (V.int (((i:Int)+1) % (c:Int))=V.int 0))=false:=by rw [z];simp
     refine (if_neg (show ¬ ((!decide (V.int (((i:Int)+1) % (c:Int))=V.int 0))=true) by rw [zz];exact Bool.false_ne_true)).mpr ?_
     refine hk _ _ ?_
     exact ⟨xs,rfl,s2,h2,by rw [if_pos z,List.append_nil];exact p2⟩
    ·have zz:(!decide (V.int (((i:Int)+1) % (c:Int))=V.int 0))=true:=by simp [z]
     refine (if_pos zz).mpr ?_
     refine ⟨_,rfl,.inl ⟨rfl,_,SqL.of h2⟩,_,rfl,_,rfl,_,_,rfl,rfl,ZaT,λt ht=>?_⟩
     have hne:l≠t:=λq=>by rw [q,ht] at h2;cases h2
     obtain ⟨a1,a2,a3⟩:=ZdK (a:=(i:Int)) (b:=(i:Int)+1) s2 hl h2 p2 ht
     refine ⟨l,xs,_,rfl,rfl,Zal h2 hne,hlen p2 (by omega),?_⟩
     refine hk _ _ ?_
     exact ⟨_,rfl,a1,a2,by rw [if_neg z];exact a3⟩
   case snd=>
    rintro σ' H3 ⟨xs,rfl,s3,h3,p3⟩
    refine ⟨_,rfl,_,rfl,_,_,rfl,rfl,_,rfl,_,rfl,_,_,rfl,rfl,.inl ⟨by omega,by omega⟩,_,_,rfl,rfl,_,rfl,?_⟩
    refine Zde (λz=>?_) (λz=>?_)
    ·have z':=of_decide_eq_true z
     refine ⟨_,rfl,.inl ⟨rfl,_,SqL.of h3⟩,_,rfl,_,rfl,_,rfl,_,_,rfl,rfl,ZaT,λt ht=>?_⟩
     have hne:l≠t:=λq=>by rw [q,ht] at h3;cases h3
     obtain ⟨a1,a2,a3⟩:=ZdK (a:=(i:Int)) (b:=(i:Int)+(c:Int)) s3 hl h3 p3 ht
     refine ⟨l,xs,_,rfl,rfl,Zal h3 hne,hlen p3 (by rw [List.length_append];split <;> simp <;> omega),xs++[.ref t],_,rfl,a1,a2,?_⟩
     rw [Zb3]
     unfold Zf8
     rw [if_pos z',<-List.append_assoc]
     exact a3
    ·have z':¬ ((i:Int)+(c:Int)<(r:Int) * (c:Int)):=λq=>z (decide_eq_true q)
     refine ⟨xs,_,rfl,s3,h3,?_⟩
     rw [Zb3]
     unfold Zf8
     rw [if_neg z',List.append_nil]
     exact p3
  ·rintro σ H2 ⟨xs,v,rfl,s2,h2,p2⟩
   refine ⟨_,rfl,_,rfl,_,_,rfl,rfl,.inl ⟨by omega,by omega⟩,_,rfl,ZaT,λp hp=>?_⟩
   have hne:l≠p:=λq=>by rw [q,hp] at h2;cases h2
   refine q p l xs _ (s2.put (s2.free hp)) (s2.free hp) hl (Ne.symm hne) Zab (Zal h2 hne) ?_
   have p3:=p2.keep (ZbN (o:=.tup [.int ((r:Int) * (c:Int)),.ref l]) hp)
   rw [show ((r:Int) * (c:Int)).toNat=r * c by rw [hrc,Int.toNat_natCast]] at p3
   exact p3
end
section
variable {P:Program} {w:World} {K:PySem.W.Frag} {mg:Str->Option Value} {base:Heap}
def ZlI:Sp:=λvs H Q _=>∃ (d:Addr) (n:Int),vs=[.ref d]/\H d=some (.lst [.int n])/\∀ (p l:Addr) (xs:List V) (k:Int) (rs:List (Int×Int)) (H':Hp),Dk H H' d->H p=none->H l=none->p≠l->H' p=some (.tup [.int k,.ref l])->H' l=some (.lst xs)->Prs H' xs rs->Zah k rs->Q (.ref p) H'
theorem scWeb:Zaw ["deck", "rows", "places", "pairs", "b", "apart", "roads", "k"] ["deck"] (Zad Zkm):=⟨rfl,rfl,rfl,by decide +kernel,rfl,by decide +kernel,by decide +kernel⟩
structure PrsOk (n:Int) (ps:List (Int×Int)):Prop where
 ok:∀ p∈ps,0<=p.1/\p.1<p.2/\p.2<n
 nd:ps.Nodup
theorem PrsOk.sub {n:Int} {ps qs:List (Int×Int)} (h:PrsOk n ps) (s:qs.Sublist ps):PrsOk n qs:=⟨λp hp=>h.ok p (s.subset hp),h.nd.sublist s⟩
theorem Znl (i:Nat) {ps:List (Int×Int)} (h:PrsOk (i:Int) ps):PrsOk ((i+1:Nat):Int) (ps++(List.range i).map λa=>(((a:Nat):Int),(i:Int))):=by
 refine ⟨λp hp=>?_,?_⟩
 ·rcases List.mem_append.mp hp with hp | hp
  ·have:=h.ok p hp
   push_cast
   omega
  ·obtain ⟨a,ha,rfl⟩:=List.mem_map.mp hp
   have:=List.mem_range.mp ha
   push_cast
   omega
 ·refine List.nodup_append.mpr ⟨h.nd,?_,λp hp q hq z=>?_⟩
  ·refine List.pairwise_map.mpr ?_
   refine List.Pairwise.imp ?_ List.nodup_range
   intro a b hab z
   have:=congrArg Prod.fst z
   dsimp only at this
   exact hab (by omega)
  ·subst z
   obtain ⟨a,ha,rfl⟩:=List.mem_map.mp hq
   have:=(h.ok _ hp).2.2
   dsimp only at this
   omega
theorem ZlJ {f fT fQ:Addr} {fd fdT fdQ:FuncData} (F:Fun K "_law_web" "_law_web" Zkm f fd)
  (FT:Fun K "_law_take" "_law_take" ZdY fT fdT) (bT:Binds K fdT ["deck", "many"] []) (mT:mg "_law_take" = some (.ref fT))
  (FQ:Fun K "_law_grid" "_law_grid" Zc8 fQ fdQ) (bQ:Binds K fdQ ["rows", "columns"] []) (mQ:mg "_law_grid" = some (.ref fQ))
  (mRange:mg "range" = none) (mInt:mg "int" = none) (mMin:mg "min" = none) (mLen:mg "len" = none):ZaN P w K mg base CX0 2 f fd ["deck"] ZlI:=by
 have GT:ZaN P w K mg base CX0 1 fT fdT ["deck", "many"] ZfL:=Zfi FT
 have GQ:ZaN P w K mg base CX0 1 fQ fdQ ["rows", "columns"] Zhs:=ZiF FQ mRange
 refine F.ok scWeb (λvs H Q E h=>?_) (λcdv A outer s H vs Q E hr1 h=>?_)
 ·obtain ⟨d,n,rfl,_⟩:=h
  rfl
 ·obtain ⟨d,n,rfl,hd,q⟩:=h
  have h16:(16777216:Nat)=sizeLine:=sizeLine_eq.symm
  refine ⟨_,Zae (Za1 (Zax Zdh (Zaj GT hr1 rfl mT FT.kp bT .nil ZaG (Zaa (pv 0) (Zaa Zaf Zac))) Zaf (ZaD _)) (Zae (Zau (i:=1) scWeb.nd rfl (Or.inl rfl) (Zav ZaK Zaf (Zaj GT hr1 rfl mT FT.kp bT .nil ZaG (Zaa (pv 0) (Zaa Zaf Zac)))))
    (Zag (Zay (Zaj GQ hr1 rfl mQ FQ.kp bQ .nil ZaG (Zaa (pv 1) (Zaa (Zav ZaK Zaf (Zaj GT hr1 rfl mT FT.kp bT .nil ZaG (Zaa (pv 0) (Zaa Zaf Zac)))) Zac)))))) ZaA)
    (Zae (Zau (i:=2) scWeb.nd rfl (Or.inl rfl) (Zav ZaK Zaf (Zaj GT hr1 rfl mT FT.kp bT .nil ZaG (Zaa (pv 0) (Zaa Zaf Zac)))))
    (Zae (Zau (i:=3) scWeb.nd rfl (Or.inl rfl) (ZaF Zac))
    (Zae (Zbi PassesOwn.never rfl (ZaQ rfl mRange (Zaa (pv 2) Zac)) (Zat (i:=4) scWeb.nd rfl (Or.inr rfl))
    (Zag (Zau (i:=3) scWeb.nd rfl (Or.inl rfl) (Zav Zeo (pv 3) (Za2 (own:=["a"]) rfl (Zaq (fr:=[("b", 4)]) [(".0", .local),("a", .local),("b", .cell)] rfl rfl (by decide +kernel) rfl (by decide +kernel) ⟨rfl,trivial⟩ ⟨λh=>ZaP h,λh=>ZaP h,λ_=>⟨_,rfl⟩,trivial⟩ ⟨⟨rfl,.inl rfl,.inl rfl⟩,trivial⟩) (ZaQ rfl mRange (Zaa (pv 4) Zac)) (λ_ _ _ _=>Zat (i:=0) (show List.Nodup (["a", "b"]:List Str) by decide +kernel) rfl (Or.inl rfl)) (λ_ _ _ _=>ZbK) (λ_ _ _ _=>ZaV (Zaa (pv 0) (Zaa (pv 1) Zac))))))))
    (Zae (Za1 (Zax Zdh (Zaj GT hr1 rfl mT FT.kp bT .nil ZaG (Zaa (pv 0) (Zaa Zaf Zac))) Zaf (ZaD _)) (Zae (Zau (i:=5) scWeb.nd rfl (Or.inr rfl) (Zaj GT hr1 rfl mT FT.kp bT .nil ZaG (Zaa (pv 0) (Zaa (Zav ZaK (pv 2) Zaf) Zac))))
    (Zag (ZgR (i:=3) scWeb.nd rfl (Or.inl rfl) (own:=["pair"]) rfl (Zaq (fr:=[("apart", 5)]) [(".0", .local),("pair", .local),("apart", .cell)] rfl rfl (by decide +kernel) rfl (by decide +kernel) ⟨rfl,trivial⟩ ⟨λh=>ZaP h,λh=>ZaP h,λ_=>⟨_,rfl⟩,trivial⟩ ⟨⟨rfl,.inl rfl,.inl rfl⟩,trivial⟩) (ZbX K (pv 3)) (λ_ _ _ _=>Zat (i:=0) (show List.Nodup (["pair", "apart"]:List Str) by decide +kernel) rfl (Or.inl rfl)) (λ_ _ _ _=>Za9 (Zax Zdh (Zcz Zf1 (ZaB (ZcA K) (pv 0) Zaf (λ_ _=>rfl)) (pv 1) (ZaD _)) (Zcz Zf1 (ZaB (ZcA K) (pv 0) Zaf (λ_ _=>rfl)) (pv 1) (ZaD _)) (ZaD _))) (λ_ _ _ _=>pv 0)))) ZaA)
    (Zae (Zau (i:=6) scWeb.nd rfl (Or.inl rfl) (ZaF Zac))
    (Zae (Zbi PassesOwn.never rfl (ZaQ rfl mRange (Zaa (Zar (ZgG rfl) rfl mMin Zh9 (Zaa (Zaj GT hr1 rfl mT FT.kp bT .nil ZaG (Zaa (pv 0) (Zaa Zaf Zac))) (Zaa (Zar (Zf7 K) rfl mLen PySem.boot_len (Zaa (pv 3) Zac)) Zac))) Zac)) (Zat (i:=7) scWeb.nd rfl (Or.inl rfl))
    (Zag (ZaX (Zcd PySem.F.plainAttrs_list PySem.F.slot_list_append PySem.F.type_list_append ZaO (pv 6) (Zaa (Zcd PySem.F.plainAttrs_list PySem.F.slot_list_pop PySem.F.type_list_pop Zh5 (pv 3) (Zaa (Zaj GT hr1 rfl mT FT.kp bT .nil ZaG (Zaa (pv 0) (Zaa (Zar (Zf7 K) rfl mLen PySem.boot_len (Zaa (pv 3) Zac)) Zac))) Zac)) Zac)))))
    (Zag (Zay (ZaV (Zaa (pv 2) (Zaa (pv 6) Zac))))))))))),?_⟩
  refine ⟨_,rfl,d,n,6,rfl,hd,by decide,Za3,λn1 k1 hk0 hk1=>⟨rfl,_,rfl,?_⟩⟩
  have D1:Dk H (upd H d (.lst [.int n1])) d:=(Dk.start hd).take n1
  refine Zde (λ_=>?_) (λ_=>?_)
  ·-- a grid
   refine ⟨_,rfl,d,n1,3,rfl,Zab,by decide,Za3,λn2 r2 h20 h21=>⟨_,_,rfl,rfl,?_⟩⟩
   have D2:=D1.take n2
   refine ⟨_,rfl,_,rfl,d,n2,4,rfl,Zab,by decide,Za3,λn3 r3 h30 h31=>⟨_,_,rfl,rfl,?_⟩⟩
   have D3:=D2.take n3
   obtain ⟨r',e1⟩:∃ r':Nat,(1:Int)+r2=(r':Int):=⟨(1+r2).toNat,by omega⟩
   obtain ⟨c',e2⟩:∃ c':Nat,(1:Int)+r3=(c':Int):=⟨(1+r3).toNat,by omega⟩
   refine ⟨r',c',by rw [<-e1,<-e2];rfl,by omega,by omega,by omega,by omega,λp l xs H4 s4 hp hl hpl x1 x2 x3=>?_⟩
   exact q p l xs _ _ H4 (D3.grow s4) (D3.free hp) (D3.free hl) hpl x1 x2 x3 (ZgY (by omega) (by omega) (by omega) (by omega))
  ·-- places
   refine ⟨_,rfl,d,n1,8,rfl,Zab,by decide,Za3,λn2 r2 h20 h21=>⟨_,_,rfl,rfl,?_⟩⟩
   have D2:=D1.take n2
   obtain ⟨np,e1,hp1,hp2⟩:∃ np:Nat,(1:Int)+r2=(np:Int)/\1<=np/\np<=16:=⟨(1+r2).toNat,by omega,by omega,by omega⟩
   refine ⟨Nat.zero_le _,λl0 hl0=>?_⟩
   have D3:=D2.new (o:=.lst []) hl0
   dsimp only [Zdg]
   refine Zb4 (λσ' H'=>∃ (lp:Addr) (xs:List V) (ps:List (Int×Int)) (v2 v5:Option V),σ'=[some (.ref d),v2,some (.int (np:Int)),some (.ref lp),v5,none,none,none]/\Dk H H' d/\d≠lp/\H lp=none/\H' lp=some (.lst xs)/\Prs H' xs ps/\PrsOk (np:Int) ps/\ps.length<=16 * 16) ?after ?loop
   case loop=>
    intro hk
    refine ⟨_,rfl,_,rfl,(by show -(2 ^ 62)<=(1:Int)+r2;rw [e1];omega),(by show (1:Int)+r2<2 ^ 62;rw [e1];omega),?_⟩
    have hn:((1:Int)+r2).toNat=np:=by rw [e1,Int.toNat_natCast]
    rw [hn]
    refine Zbc (lo:=0) (λi σ' H'=>∃ (lp:Addr) (xs:List V) (ps:List (Int×Int)) (v2 v5:Option V),σ'=[some (.ref d),v2,some (.int (np:Int)),some (.ref lp),v5,none,none,none]/\Dk H H' d/\d≠lp/\H lp=none/\H' lp=some (.lst xs)/\Prs H' xs ps/\PrsOk (i:Int) ps/\ps.length<=i * 16)
     ⟨l0,[],[],none,none,by rw [<-e1];rfl,D3,D2.ne hl0,D2.free hl0,Zab,.nil,⟨λ_ h=>(nomatch h),.nil⟩,Nat.zero_le _⟩ ?_ ?_
    ·rintro i σ' H2 hi ⟨lp,xs,ps,v2,v5,rfl,D4,hdp,hlp,elp,pp,pok,plen⟩
     rw [show (0:Int)+(i:Int)=(i:Int) by omega]
     refine ⟨_,rfl,_,rfl,_,rfl,by omega,by omega,λD hD=>?_⟩
     rw [Int.toNat_natCast]
     refine ZbM (lo:=0) (n:=i) (λj ys H3=>Same H2 H3/\H3 D=some (.lst ys)/\Prs H3 ys ((List.range j).map λa=>(((a:Nat):Int),(i:Int)))) ⟨Same.new hD,Zab,.nil⟩ ?_ ?_
     ·rintro j ys H3 hj ⟨s3,hD3,p3⟩
      rw [show (0:Int)+(j:Int)=(j:Int) by omega]
      refine ⟨⟨rfl,trivial⟩,?_⟩
      unfold ZjN
      refine Zce ?_
      refine ⟨_,rfl,_,rfl,ZaT,λt ht=>?_⟩
      have hDt:D≠t:=Zai hD3 ht
      have hyl:ys.length<sizeLine:=by
       have:=p3.len
       rw [List.length_map,List.length_range] at this
       omega
      obtain ⟨a1,a2,a3⟩:=ZdK (a:=(j:Int)) (b:=(i:Int)) s3 hD hD3 p3 ht
      refine ⟨Zal hD3 hDt,hyl,a1,a2,?_⟩
      rw [List.range_succ,List.map_append]
      exact a3
     ·rintro ys H3 ⟨s3,hD3,p3⟩
      have e2:=s3 _ _ elp
      have hlen2:=p3.len
      rw [List.length_map,List.length_range] at hlen2
      have hlen1:=pp.len
      refine ⟨lp,D,xs,ys,rfl,rfl,e2,hD3,by omega,λpn hpn=>?_⟩
      have D5:=D4.grow s3
      have D6:=D5.new (o:=.lst (xs++ys)) hpn
      refine ⟨pn,xs++ys,ps++(List.range i).map λa=>(((a:Nat):Int),(i:Int)),_,_,rfl,D6,D5.ne hpn,D5.free hpn,Zab,?_,Znl i pok,?_⟩
      ·exact ((pp.same s3).keep (ZbN hpn)).app (p3.keep (ZbN hpn))
      ·rw [List.length_append,List.length_map,List.length_range]
       omega
    ·rintro σ' H2 ⟨lp,xs,ps,v2,v5,rfl,D4,hdp,hlp,elp,pp,pok,plen⟩
     refine hk _ _ ?_
     exact ⟨lp,xs,ps,v2,v5,rfl,D4,hdp,hlp,elp,pp,pok,by omega⟩
   case after=>
    rintro σ' H2 ⟨lp,xs,ps,v2,v5,rfl,D4,hdp,hlp,elp,pp,pok,plen⟩
    refine Zb4 (λσ' H'=>∃ (lp:Addr) (xs:List V) (ps:List (Int×Int)) (v2 v5 v6:Option V),σ'=[some (.ref d),v2,some (.int (np:Int)),some (.ref lp),v5,v6,none,none]/\Dk H H' d/\d≠lp/\H lp=none/\H' lp=some (.lst xs)/\Prs H' xs ps/\PrsOk (np:Int) ps/\ps.length<=16 * 16) ?draw ?filter
    case filter=>
     intro hk
     obtain ⟨n4,e4⟩:=D4.at_
     refine ⟨_,rfl,d,n4,5,rfl,e4,by decide,Za3,λn5 r5 _ _=>⟨rfl,_,rfl,?_⟩⟩
     have D5:=D4.take n5
     have elp5:upd H2 d (.lst [.int n5]) lp=some (.lst xs):=Zal elp (Ne.symm hdp)
     have pp5:=pp.keep (ZaW (o:=.lst [.int n5]) e4)
     refine Zde (λ_=>?_) (λ_=>?_)
     ·refine ⟨_,rfl,_,rfl,_,_,rfl,rfl,d,n5,_,rfl,Zab,(by show (0:Int)<(np:Int)+1;omega),(by show ((np:Int)+1).natAbs<2 ^ 9000;exact Nat.lt_of_lt_of_le (show ((np:Int)+1).natAbs<2 ^ 5 by omega) (Nat.pow_le_pow_right (by decide) (by decide))),λn6 r6 _ _=>?_⟩
      have D6:=D5.take n6
      have elp6:upd (upd H2 d (.lst [.int n5])) d (.lst [.int n6]) lp=some (.lst xs):=Zal elp5 (Ne.symm hdp)
      have pp6:=pp5.keep (ZaW (o:=.lst [.int n6]) (Zab (H:=H2) (a:=d) (o:=.lst [.int n5])))
      generalize upd (upd H2 d (.lst [.int n5])) d (.lst [.int n6])=H6 at D6 elp6 pp6 ⊢
      refine ⟨_,rfl,lp,rfl,⟨_,SqL.of elp6⟩,λD hD=>?_⟩
      refine ZaR (K:=K) (a:=lp) (xs:=xs) (λj ys H3=>Same H6 H3/\H3 D=some (.lst ys)/\∃ rs,Prs H3 ys rs/\rs.Sublist (ps.take j)) ⟨Same.new hD,Zab,[],.nil,List.nil_sublist _⟩ (λj ys H3 _ ⟨s3,_⟩=>SqL.of (s3 _ _ elp6)) ?_ ?_
      ·rintro j x ys H3 hx ⟨s3,hD3,rs,p3,sub⟩
       obtain ⟨t,r,rfl,et,er⟩:=(pp6.same s3).get hx
       have hstep:ps.take (j+1)=ps.take j++[r]:=by rw [List.take_add_one,er];rfl
       refine ⟨⟨rfl,trivial⟩,?_⟩
       refine ⟨_,rfl,t,_,_,_,rfl,rfl,SqT.of et,Zam (j:=0) rfl,_,rfl,_,_,rfl,rfl,_,rfl,t,_,_,_,rfl,rfl,SqT.of et,Zam (j:=1) rfl,_,rfl,_,_,rfl,rfl,rfl,_,rfl,?_⟩
       refine Zde (λ_=>?_) (λ_=>?_)
       ·have hyl:ys.length<sizeLine:=by
         have h1:=p3.len
         have h2:=sub.length_le
         rw [List.length_take] at h2
         omega
        refine ⟨_,rfl,hD3,hyl,s3.put hD,Zab,rs++[r],(p3.keep (ZaW hD3)).snoc (ZaW hD3 _ _ et),?_⟩
        rw [hstep]
        exact sub.append (List.Sublist.refl _)
       ·refine ⟨s3,hD3,rs,p3,?_⟩
        rw [hstep]
        exact sub.trans (List.sublist_append_left _ _)
      ·rintro ys H3 ⟨s3,hD3,rs,p3,sub⟩
       have sub':=sub.trans (List.take_sublist _ _)
       have hl':=sub'.length_le
       refine hk _ _ ?_
       exact ⟨D,ys,rs,_,_,_,rfl,D6.grow s3,D6.ne hD,D6.free hD,hD3,p3,pok.sub sub',by omega⟩
     ·refine hk _ _ ?_
      exact ⟨lp,xs,ps,_,_,_,rfl,D5,hdp,hlp,elp5,pp5,pok,plen⟩
    case draw=>
     clear elp pp pok plen hlp hdp
     rintro σ' H3 ⟨lp,xs,ps,v2,v5,v6,rfl,D5,hdp,hlp,elp,pp,pok,plen⟩
     refine ⟨Nat.zero_le _,λl7 hl7=>?_⟩
     have h70:H l7=none:=D5.free hl7
     have D6:=D5.new (o:=.lst []) hl7
     have hd7:d≠l7:=D5.ne hl7
     have hp7:lp≠l7:=Zai elp hl7
     have elp6:upd H3 l7 (.lst []) lp=some (.lst xs):=Zal elp hp7
     have pp6:=pp.keep (ZbN (o:=.lst []) hl7)
     obtain ⟨n6,e6⟩:=D6.at_
     refine ⟨_,rfl,d,n6,15,rfl,e6,by decide,Za3,λn8 r8 h80 h81=>?_⟩
     have D8:=D6.take n8
     have elp8:upd (upd H3 l7 (.lst [])) d (.lst [.int n8]) lp=some (.lst xs):=Zal elp6 (Ne.symm hdp)
     have e78:upd (upd H3 l7 (.lst [])) d (.lst [.int n8]) l7=some (.lst []):=Zal Zab (Ne.symm hd7)
     have pp8:=pp6.keep (ZaW (o:=.lst [.int n8]) e6)
     generalize upd (upd H3 l7 (.lst [])) d (.lst [.int n8])=H8 at D8 elp8 e78 pp8 ⊢
     refine ⟨_,rfl,lp,xs,rfl,.inl (SqL.of elp8),_,_,rfl,?_⟩
     obtain ⟨N,eN,hN1,hN2⟩:∃ N:Nat,(if (xs.length:Int)<r8 then (xs.length:Int) else r8)=(N:Int)/\N<=30/\N<=xs.length:=by
      by_cases z:(xs.length:Int)<r8
      ·exact ⟨xs.length,by rw [if_pos z],by omega,Nat.le_refl _⟩
      ·exact ⟨r8.toNat,by rw [if_neg z];omega,by omega,by omega⟩
     refine ⟨_,rfl,(by rw [eN];omega),(by rw [eN];omega),?_⟩
     rw [eN,Int.toNat_natCast]
     have hxl:=pp8.len
     refine Zbc (lo:=0) (λi σ' H9=>∃ (xs7:List V) (rs7:List (Int×Int)) (xsP:List V) (psP:List (Int×Int)) (v8:Option V),σ'=[some (.ref d),v2,some (.int (np:Int)),some (.ref lp),v5,v6,some (.ref l7),v8]/\Dk H H9 d /\
       H9 l7=some (.lst xs7)/\Prs H9 xs7 rs7/\H9 lp=some (.lst xsP)/\Prs H9 xsP psP/\PrsOk (np:Int) (rs7++psP)/\rs7.length=i/\psP.length+i=xs.length)
      ⟨[],[],xs,ps,none,rfl,D8,e78,.nil,elp8,pp8,pok,rfl,by omega⟩ ?_ ?_
     ·rintro i σ' H9 hi ⟨xs7,rs7,xsP,psP,v8,rfl,D9,e79,p7,elp9,pP,pk,hi7,hiP⟩
      obtain ⟨n9,e9⟩:=D9.at_
      have hPl:=pP.len
      have h7l:=p7.len
      refine ⟨_,rfl,.inl ⟨rfl,_,SqL.of e79⟩,_,rfl,.inl ⟨rfl,_,SqL.of elp9⟩,_,rfl,_,rfl,lp,xsP,rfl,.inl (SqL.of elp9),d,n9,_,rfl,e9,(by show (0:Int)<(xsP.length:Int);omega),
       (by show ((xsP.length:Int)).natAbs<2 ^ 9000;exact Nat.lt_of_lt_of_le (show ((xsP.length:Int)).natAbs<2 ^ 10 by omega) (Nat.pow_le_pow_right (by decide) (by decide))),λn10 r10 h100 h101=>?_⟩
      have hk:r10.toNat<xsP.length:=by omega
      have hy:xsP[r10.toNat]?=some xsP[r10.toNat]:=List.getElem?_eq_getElem hk
      obtain ⟨t,r,et,ett,er⟩:=pP.get hy
      refine ⟨lp,xsP,r10,r10.toNat,_,rfl,rfl,Zal elp9 (Ne.symm hdp),by omega,by omega,Zm4 h100 h101,hy,?_⟩
      refine ⟨l7,xs7,_,rfl,rfl,Zal (Zal e79 (Ne.symm hd7)) (Ne.symm hp7),by omega,?_⟩
      have D10:=((D9.take n10).put (o:=.lst (xsP.eraseIdx r10.toNat)) hlp hdp).put (o:=.lst (xs7++[xsP[r10.toNat]])) h70 hd7
      have k1:=ZaW (o:=.lst [.int n10]) e9
      have k2:=ZaW (H:=upd H9 d (.lst [.int n10])) (l:=lp) (zs:=xsP) (o:=.lst (xsP.eraseIdx r10.toNat)) (Zal elp9 (Ne.symm hdp))
      have k3:=ZaW (H:=upd (upd H9 d (.lst [.int n10])) lp (.lst (xsP.eraseIdx r10.toNat))) (l:=l7) (zs:=xs7) (o:=.lst (xs7++[xsP[r10.toNat]])) (Zal (Zal e79 (Ne.symm hd7)) (Ne.symm hp7))
      refine ⟨xs7++[xsP[r10.toNat]],rs7++[r],xsP.eraseIdx r10.toNat,psP.eraseIdx r10.toNat,_,rfl,D10,Zab,?_,?_,?_,?_,?_,?_⟩
      ·rw [et]
       rw [et] at k3
       exact (((p7.keep k1).keep k2).keep k3).snoc (k3 _ _ (k2 _ _ (k1 _ _ ett)))
      ·exact Zal Zab hp7
      ·exact (((pP.erase _).keep k1).keep k2).keep k3
      ·have pm:=Zfy psP rs7 r10.toNat r er
       exact ⟨λp hp=>pk.ok p (pm.mem_iff.mp hp),pm.nodup_iff.mpr pk.nd⟩
      ·rw [List.length_append,List.length_singleton,hi7]
      ·rw [List.length_eraseIdx_of_lt (by omega)]
       omega
     ·rintro σ' H9 ⟨xs7,rs7,xsP,psP,v8,rfl,D9,e79,p7,elp9,pP,pk,hi7,hiP⟩
      refine ⟨_,rfl,_,rfl,ZaT,λp hp=>?_⟩
      have hp7':l7≠p:=Zai e79 hp
      have pk':PrsOk (np:Int) rs7:=pk.sub (List.sublist_append_left _ _)
      exact q p l7 xs7 np rs7 _ (D9.new hp) (D9.free hp) h70 (Ne.symm hp7') Zab (Zal e79 hp7') (p7.keep (ZbN hp)) ⟨by omega,by omega,by omega,pk'.ok,pk'.nd⟩
end
end M
namespace M
open PySem L2
theorem ZdZ (p:Int):∀ ms:List Int,inV (.int p) (ms.map V.int)=decide (p∈ms):=by
 intro ms
 unfold inV
 induction ms with
 | nil=>rfl
 | cons m ms ih=>
  rw [List.map_cons,List.any_cons,ih]
  by_cases h1:p=m <;> by_cases h2:p∈ms <;> simp [eqV,h1,h2] <;> (try omega) <;> (try (intro z;exact h1 z.symm))
theorem Zht (ms:List Int):(ms.map V.int).all ZdF=true:=by
 rw [List.all_map]
 exact List.all_eq_true.mpr λ_ _=>rfl
section
variable {P:Program} {w:World} {K:PySem.W.Frag} {mg:Str->Option Value} {base:Heap}
theorem ZiG:bootBuiltins "max" = some (.builtin "max"):=by first | rfl | decide +kernel
structure WebAt (H:Hp) (wb l:Addr) (k:Int) (xs:List V) (rs:List (Int×Int)):Prop where
 w:H wb=some (.tup [.int k,.ref l])
 l:H l=some (.lst xs)
 p:Prs H xs rs
theorem WebAt.same {H H':Hp} {wb l:Addr} {k:Int} {xs:List V} {rs:List (Int×Int)} (h:WebAt H wb l k xs rs) (s:Same H H'):WebAt H' wb l k xs rs:=⟨s _ _ h.w,s _ _ h.l,h.p.same s⟩
theorem WebAt.dk {H H':Hp} {d wb l:Addr} {k:Int} {xs:List V} {rs:List (Int×Int)} (h:WebAt H wb l k xs rs) (s:Dk H H' d) {n:Int} (hd:H d=some (.lst [.int n])) (hl:l≠d):WebAt H' wb l k xs rs:=
 ⟨s.tups hd _ _ h.w,s.keep _ _ hl h.l,h.p.keep (s.tups hd)⟩
def Zb2 (rs:List (Int×Int)) (p q:Int):Nat->Option V
 | 0=>none
 | i+1=>if rs.getD i (0,0)=(p,q)\/rs.getD i (0,0)=(q,p) then some (.int (i:Nat)) else Zb2 rs p q i
def ky (p q:Int):List Key:=[.inl p,.inl q]
theorem ky_inj {p q a b:Int}:ky p q=ky a b↔p=a/\q=b:=by
 unfold ky
 constructor
 ·intro h
  injection h with h1 h2
  injection h2 with h2 _
  exact ⟨Sum.inl.inj h1,Sum.inl.inj h2⟩
 ·rintro ⟨rfl,rfl⟩;rfl
def ZlK:Sp:=λvs H Q _=>∃ (wb l:Addr) (k:Int) (xs:List V) (rs:List (Int×Int)),vs=[.ref wb]/\WebAt H wb l k xs rs/\xs.length<=30 /\
 ∀ (d:Addr) (H':Hp) (kvs:List (List Key×V)),Same H H'->H d=none->H' d=some (.dT kvs)->(∀ p q,ZbO kvs (ky p q)=Zb2 rs p q rs.length)->Q (.ref d) H'
theorem scNbs:Zaw ["web", "numbers", "number", "road"] ["web"] (Zad Zje):=⟨rfl,rfl,rfl,by decide +kernel,rfl,by decide +kernel,by decide +kernel⟩
theorem ZlL {f:Addr} {fd:FuncData} (F:Fun K "numbers_by_step" "numbers_by_step" Zje f fd) (mEnum:mg "enumerate" = none):ZaN P w K mg base CX0 1 f fd ["web"] ZlK:=by
 refine F.ok scNbs (λvs H Q E h=>?_) (λcdv A outer s H vs Q E hr h=>?_)
 ·obtain ⟨_,_,_,_,_,rfl,_⟩:=h
  rfl
 ·obtain ⟨wb,l,k,xs,rs,rfl,W,hx,q⟩:=h
  have hu1:(A.deeper (PyProof.Rows.envOfC "numbers_by_step" (Zad Zje) s.heap.objs.size f cdv)).units+1<cLine:=by have:=hr.un;omega
  have h16:(16777216:Nat)=sizeLine:=sizeLine_eq.symm
  refine ⟨_,Zae (Zau (i:=1) scNbs.nd rfl (Or.inl rfl) Zif)
    (Zae (Zbi PassesOwn.never rfl (Zls K rfl mEnum (Zaa (ZaB (ZcA K) (pv 0) Zaf (λ_ _=>rfl)) Zac)) (Zlp K (n:=2) rfl (Za4 (Zat (i:=2) scNbs.nd rfl (Or.inl rfl)) (Za4 (Zat (i:=3) scNbs.nd rfl (Or.inl rfl)) ZcU)))
    (Zae (Ze2 hu1 (pv 1) (pv 3) (pv 2) rfl)
    (Zag (Ze2 hu1 (pv 1) (ZaV (Zaa (ZaB (ZcA K) (pv 3) Zaf (λ_ _=>rfl)) (Zaa (ZaB (ZcA K) (pv 3) Zaf (λ_ _=>rfl)) Zac))) (pv 2) rfl))))
    (Zag (Zay (pv 1)))),?_⟩
  refine λd hd=>?_
  have s1:Same H (upd H d (.dT [])):=Same.new hd
  refine ⟨_,rfl,wb,_,_,_,rfl,rfl,SqT.of (s1 _ _ W.w),Zam (j:=1) rfl,l,xs,rfl,SqL.of (s1 _ _ W.l),?_⟩
  refine ZfC (K:=K) (a:=l) (xs:=xs) (λi σ H2=>∃ (v2 v3:Option V) (kvs:List (List Key×V)),σ=[some (.ref wb),some (.ref d),v2,v3]/\Same H H2/\H2 d=some (.dT kvs)/\kvs.length<=2 * i/\∀ p q,ZbO kvs (ky p q)=Zb2 rs p q i)
   ⟨none,none,[],rfl,s1,Zab,Nat.zero_le _,λ_ _=>rfl⟩ (λi σ H2 _ ⟨_,_,_,_,s2,_⟩=>SqL.of (s2 _ _ W.l)) ?_ ?_
  ·rintro i x σ H2 T hxi ⟨v2,v3,kvs,rfl,s2,e2,len,val⟩ hT
   obtain ⟨t,r,rfl,et,er⟩:=(W.same s2).p.get hxi
   have hi:i<xs.length:=(List.getElem?_eq_some_iff.mp hxi).1
   have s3:Same H (upd H2 T (.tup [.int (i:Nat),.ref t])):=s2.put (s2.free hT)
   have s23:Same H2 (upd H2 T (.tup [.int (i:Nat),.ref t])):=Same.new hT
   have hdT:d≠T:=Zai e2 hT
   refine ⟨T,_,rfl,SqT.of Zab,rfl,_,_,rfl,_,_,rfl,rfl,?_⟩
   refine ⟨_,rfl,_,rfl,_,rfl,d,_,rfl,DPut.t (k:=ky r.1 r.2) (Zal e2 hdT) (s23 _ _ et) (by omega),?_⟩
   have s4:=s3.put (o:=.dT (ZcN kvs (ky r.1 r.2) (.int (i:Nat)))) hd
   have et4:upd (upd H2 T (.tup [.int (i:Nat),.ref t])) d (.dT (ZcN kvs (ky r.1 r.2) (.int (i:Nat)))) t=some (.tup [.int r.1,.int r.2]):=Zal (s23 _ _ et) (Zgt (s23 _ _ et) (Zal e2 hdT) (λz=>by cases z))
   have hl1:=Zbd kvs (ky r.1 r.2) (.int (i:Nat))
   refine ⟨_,rfl,_,rfl,_,rfl,t,_,_,_,rfl,rfl,SqT.of et4,Zam (j:=1) rfl,_,rfl,t,_,_,_,rfl,rfl,SqT.of et4,Zam (j:=0) rfl,(by show 2<=sizeLine;decide),λu hu=>?_⟩
   have hdu:d≠u:=λz=>by rw [<-z,Zab] at hu;cases hu
   refine ⟨d,_,rfl,DPut.t (k:=ky r.2 r.1) (Zal Zab hdu) Zab (by omega),?_⟩
   refine ⟨_,_,_,rfl,((s4.put (s4.free hu)).put hd),Zab,?_,λp q=>?_⟩
   ·have:=Zbd (ZcN kvs (ky r.1 r.2) (.int (i:Nat))) (ky r.2 r.1) (.int (i:Nat))
    omega
   ·rw [ZfB,ZfB,val p q]
    have e:rs.getD i (0,0)=r:=by rw [List.getD_eq_getElem?_getD,er];rfl
    show _=if rs.getD i (0,0)=(p,q)\/rs.getD i (0,0)=(q,p) then some (V.int (i:Nat)) else Zb2 rs p q i
    rw [e]
    obtain ⟨r1,r2⟩:=r
    by_cases h1:p=r2/\q=r1
    ·rw [if_pos (ky_inj.mpr h1),if_pos (.inr (by rw [h1.1,h1.2]))]
    ·rw [if_neg λz=>h1 (ky_inj.mp z)]
     by_cases h2:p=r1/\q=r2
     ·rw [if_pos (ky_inj.mpr h2),if_pos (.inl (by rw [h2.1,h2.2]))]
     ·rw [if_neg λz=>h2 (ky_inj.mp z),if_neg]
      rintro (z | z)
      ·injection z with z1 z2
       exact h2 ⟨z1.symm,z2.symm⟩
      ·injection z with z1 z2
       exact h1 ⟨z2.symm,z1.symm⟩
  ·rintro σ H2 ⟨v2,v3,kvs,rfl,s2,e2,len,val⟩
   rw [W.p.len] at val
   exact ⟨_,rfl,q d H2 kvs s2 hd e2 val⟩
def Zak (ns:List Int) (c:Bool):List (Int×Int):=ns.zip (ns.drop 1)++(if c=true then [(ns.getD (ns.length-1) 0,ns.getD 0 0)] else [])
def ZlM:Sp:=λvs H Q _=>∃ (pl:Addr) (ns:List Int) (c:Bool),vs=[.ref pl,.bl c]/\H pl=some (.lst (ns.map V.int))/\ns.length<=100/\(c=true->ns≠[]) /\
 ∀ (S:Addr) (ws:List V) (H':Hp),Same H H'->H S=none->H' S=some (.lst ws)->Prs H' ws (Zak ns c)->Q (.ref S) H'
theorem scSte:Zaw ["places", "closed", "steps"] ["places", "closed"] (Zad Zkk):=⟨rfl,rfl,rfl,by decide +kernel,rfl,by decide +kernel,by decide +kernel⟩
theorem Zd0 {ns:List Int} (h:ns≠[]):atI (ns.map V.int) (-1)=some (.int (ns.getD (ns.length-1) 0)):=by
 have hp:0<ns.length:=List.length_pos_iff.mpr h
 have e:ixN (ns.map V.int).length (-1)=some (ns.length-1):=by
  unfold ixN
  rw [if_neg (by decide),List.length_map,if_pos (by omega)]
  congr 1
  omega
 unfold atI
 rw [e]
 show (ns.map V.int)[ns.length-1]?=_
 rw [List.getElem?_map,List.getElem?_eq_getElem (show ns.length-1<ns.length by omega),List.getD_eq_getElem?_getD,List.getElem?_eq_getElem (show ns.length-1<ns.length by omega)]
 rfl
theorem Zhu {ns:List Int} {i:Int} (h0:0<=i) (h1:i<ns.length):atI (ns.map V.int) i=some (.int (ns.getD i.toNat 0)):=by
 obtain ⟨k,rfl⟩:=Int.eq_ofNat_of_zero_le h0
 have hk:k<ns.length:=by omega
 refine Zam ?_
 show (ns.map V.int)[k]?=some (.int (ns.getD k 0))
 rw [List.getElem?_map,List.getD_eq_getElem?_getD,List.getElem?_eq_getElem hk]
 rfl
theorem ZlN {f:Addr} {fd:FuncData} (F:Fun K "steps_of" "steps_of" Zkk f fd) (mLst:mg "list" = none) (mZip:mg "zip" = none):ZaN P w K mg base CX0 1 f fd ["places", "closed"] ZlM:=by
 refine F.ok scSte (λvs H Q E h=>?_) (λcdv A outer s H vs Q E hr h=>?_)
 ·obtain ⟨_,_,_,rfl,_⟩:=h
  rfl
 ·obtain ⟨pl,ns,c,rfl,hp,hn,hc,q⟩:=h
  have h16:(16777216:Nat)=sizeLine:=sizeLine_eq.symm
  refine ⟨_,Zae (Zau (i:=2) scSte.nd rfl (Or.inl rfl) (Zga K rfl rfl mLst rfl mZip (Zaa (pv 0) (Zaa (Zcb (kSl K) (pv 0) (ZcY Zaf) ZcX) Zac))))
    (Zae (Za1 (Zbh (pv 1)) (Zag (ZaX (Zcd PySem.F.plainAttrs_list PySem.F.slot_list_append PySem.F.type_list_append ZaO (pv 2) (Zaa (ZaV (Zaa (ZaB (Zdf K) (pv 0) (Zec ZbA Zaf) (λ_ _=>rfl)) (Zaa (ZaB (Zdf K) (pv 0) Zaf (λ_ _=>rfl)) Zac))) Zac)))) ZaA)
    (Zag (Zay (pv 2)))),?_⟩
  refine ⟨_,rfl,_,rfl,_,rfl,pl,_,rfl,SqL.of hp,λp2 hp2=>?_⟩
  have s1:Same H (upd H p2 (.lst (Zdi (ns.map V.int) (some 1) none))):=Same.new hp2
  have ec:Zdi (ns.map V.int) (some 1) none=(ns.drop 1).map V.int:=by rw [show (some (1:Int))=some ((1:Nat):Int) from rfl,Zfz,List.map_drop]
  refine ⟨pl,p2,ns,ns.drop 1,rfl,SqL.of (s1 _ _ hp),by rw [<-ec];exact SqL.of Zab,by omega,λS ws H2 s2 hS eS pS=>?_⟩
  have s12:=s1.trans s2
  have hS0:=s1.free hS
  have lws:ws.length<=100:=by rw [pS.len,List.length_zip];omega
  refine ⟨_,rfl,c,rfl,?_⟩
  refine Zde (λz=>?_) (λz=>?_)
  ·have hne:=hc z
   have hpos:0<ns.length:=List.length_pos_iff.mpr hne
   refine ⟨_,rfl,.inl ⟨rfl,_,SqL.of eS⟩,_,rfl,_,rfl,pl,_,_,_,rfl,rfl,SqL.of (s12 _ _ hp),Zd0 hne,_,rfl,pl,_,_,_,rfl,rfl,SqL.of (s12 _ _ hp),Zhu (i:=0) (by decide) (by omega),(by show 2<=sizeLine;decide),λt ht=>?_⟩
   have hSt:S≠t:=Zai eS ht
   refine ⟨S,_,_,rfl,rfl,Zal eS hSt,by omega,?_⟩
   have s3:=(s12.put (o:=.tup [.int (ns.getD (ns.length-1) 0),.int (ns.getD 0 0)]) (s12.free ht))
   refine ⟨_,rfl,q S _ _ (s3.put hS0) hS0 Zab ?_⟩
   unfold Zak
   rw [if_pos z]
   have tg:∀ p ys,(upd H2 t (.tup [.int (ns.getD (ns.length-1) 0),.int (ns.getD 0 0)])) p=some (.tup ys)->(upd (upd H2 t (.tup [.int (ns.getD (ns.length-1) 0),.int (ns.getD 0 0)])) S (.lst (ws++[.ref t]))) p=some (.tup ys):=λp ys e=>Zal e (Zgt e (Zal eS hSt) (λz=>by cases z))
   exact Prs.keep (Prs.snoc (pS.same (Same.new ht)) Zab) tg
  ·refine ⟨_,rfl,q S ws H2 s12 hS0 eS ?_⟩
   unfold Zak
   rw [if_neg z,List.append_nil]
   exact pS
end
section
variable {P:Program} {w:World} {K:PySem.W.Frag} {mg:Str->Option Value} {base:Heap}
def Adj (rs:List (Int×Int)) (p q:Int):Prop:=(p,q)∈rs\/(q,p)∈rs
theorem Zb6 (rs:List (Int×Int)) (p q:Int):∀ i,(Zb2 rs p q i).isSome=true↔∃ j,j<i/\(rs.getD j (0,0)=(p,q)\/rs.getD j (0,0)=(q,p))
 | 0=>⟨λh=>(by cases h),λ⟨j,hj,_⟩=>absurd hj (Nat.not_lt_zero j)⟩
 | i+1=>by
  have ih:=Zb6 rs p q i
  show (if rs.getD i (0,0)=(p,q)\/rs.getD i (0,0)=(q,p) then some (V.int (i:Nat)) else Zb2 rs p q i).isSome=true↔_
  by_cases z:rs.getD i (0,0)=(p,q)\/rs.getD i (0,0)=(q,p)
  ·rw [if_pos z]
   exact ⟨λ_=>⟨i,Nat.lt_succ_self i,z⟩,λ_=>rfl⟩
  ·rw [if_neg z,ih]
   constructor
   ·rintro ⟨j,hj,e⟩
    exact ⟨j,Nat.lt_succ_of_lt hj,e⟩
   ·rintro ⟨j,hj,e⟩
    refine ⟨j,?_,e⟩
    rcases Nat.lt_or_ge j i with h | h
    ·exact h
    ·have:j=i:=by omega
     subst this
     exact absurd e z
theorem ZiH (rs:List (Int×Int)) (p q:Int):(Zb2 rs p q rs.length).isSome=true↔Adj rs p q:=by
 rw [Zb6]
 constructor
 ·rintro ⟨j,hj,e⟩
  have hm:rs.getD j (0,0)∈rs:=by
   rw [List.getD_eq_getElem?_getD,List.getElem?_eq_getElem hj]
   exact List.getElem_mem hj
  rcases e with e | e
  ·exact .inl (e▸hm)
  ·exact .inr (e▸hm)
 ·rintro (h | h)
  ·obtain ⟨j,hj,e⟩:=List.getElem_of_mem h
   exact ⟨j,hj,.inl (by rw [List.getD_eq_getElem?_getD,List.getElem?_eq_getElem hj];exact e)⟩
  ·obtain ⟨j,hj,e⟩:=List.getElem_of_mem h
   exact ⟨j,hj,.inr (by rw [List.getD_eq_getElem?_getD,List.getElem?_eq_getElem hj];exact e)⟩
def Zdx (rs:List (Int×Int)) (ns:List Int) (c:Bool):Prop:=(∀ t∈Zak ns c,Adj rs t.1 t.2)/\ns.Nodup
end
end M
namespace M
open PySem L2
section
variable {P:Program} {w:World} {K:PySem.W.Frag} {mg:Str->Option Value} {base:Heap}
theorem ZaC {ns:List Int} {i:Nat} (h:i<ns.length):ns.getD i 0=ns[i]:=by
 rw [List.getD_eq_getElem?_getD,List.getElem?_eq_getElem h]
 rfl
theorem zip_mem {ns:List Int} {t:Int×Int}:t∈ns.zip (ns.drop 1)↔∃ j,j+1<ns.length/\t=(ns.getD j 0,ns.getD (j+1) 0):=by
 constructor
 ·intro h
  obtain ⟨j,hj,e⟩:=List.getElem_of_mem h
  rw [List.length_zip,List.length_drop] at hj
  have h1:j+1<ns.length:=by omega
  refine ⟨j,h1,?_⟩
  rw [<-e,List.getElem_zip,List.getElem_drop,ZaC (by omega),ZaC h1]
  congr 2
  omega
 ·rintro ⟨j,hj,rfl⟩
  have h1:j<(ns.zip (ns.drop 1)).length:=by rw [List.length_zip,List.length_drop];omega
  have e:(ns.zip (ns.drop 1))[j]=(ns.getD j 0,ns.getD (j+1) 0):=by
   rw [List.getElem_zip,List.getElem_drop,ZaC (by omega),ZaC hj]
   congr 2
   omega
  rw [<-e]
  exact List.getElem_mem h1
theorem ZbT {ns:List Int} {i:Nat} (h:i<ns.length):ns.getD i 0∈ns:=by
 rw [ZaC h]
 exact List.getElem_mem h
theorem Zbr {ns:List Int} (nd:ns.Nodup) {i j:Nat} (hi:i<ns.length) (hj:j<ns.length) (h:i≠j):ns.getD i 0≠ns.getD j 0:=by
 rw [ZaC hi,ZaC hj]
 exact λe=>h ((List.getElem_inj nd).mp e)
def Mt (rs:List (Int×Int)) (p q:Int) (j:Nat):Prop:=rs.getD j (0,0)=(p,q)\/rs.getD j (0,0)=(q,p)
theorem Zcq {rs:List (Int×Int)} {j:Nat} (h:j<rs.length):rs.getD j (0,0)∈rs:=by
 rw [List.getD_eq_getElem?_getD,List.getElem?_eq_getElem h]
 exact List.getElem_mem h
theorem Zcr {rs:List (Int×Int)} (nd:rs.Nodup) {i j:Nat} (hi:i<rs.length) (hj:j<rs.length) (h:rs.getD i (0,0)=rs.getD j (0,0)):i=j:=by
 rw [List.getD_eq_getElem?_getD,List.getElem?_eq_getElem hi,List.getD_eq_getElem?_getD,List.getElem?_eq_getElem hj] at h
 exact (List.getElem_inj nd).mp h
theorem ZlO {k:Int} {rs:List (Int×Int)} (g:Zah k rs) {p q:Int} {i j:Nat} (hi:i<rs.length) (hj:j<rs.length) (a:Mt rs p q i) (b:Mt rs p q j):i=j:=by
 have gi:=(g.2.2.2.1 _ (Zcq hi)).2.1
 have gj:=(g.2.2.2.1 _ (Zcq hj)).2.1
 rcases a with a | a <;> rcases b with b | b
 ·exact Zcr g.2.2.2.2 hi hj (a.trans b.symm)
 ·rw [a] at gi;rw [b] at gj;dsimp only at gi gj;omega
 ·rw [a] at gi;rw [b] at gj;dsimp only at gi gj;omega
 ·exact Zcr g.2.2.2.2 hi hj (a.trans b.symm)
theorem Zc9 {k:Int} {rs:List (Int×Int)} (g:Zah k rs) {p q:Int} {j:Nat} (m:Mt rs p q j):∀ i,j<i->i<=rs.length->Zb2 rs p q i=some (.int (j:Nat))
 | 0,h,_=>absurd h (Nat.not_lt_zero j)
 | i+1,h,hl=>by
  show (if rs.getD i (0,0)=(p,q)\/rs.getD i (0,0)=(q,p) then some (V.int (i:Nat)) else Zb2 rs p q i)=_
  by_cases z:rs.getD i (0,0)=(p,q)\/rs.getD i (0,0)=(q,p)
  ·rw [if_pos z,ZlO g (i:=i) (j:=j) (by omega) (by omega) z m]
  ·rw [if_neg z]
   refine Zc9 g m i ?_ (by omega)
   rcases Nat.lt_or_ge j i with h' | h'
   ·exact h'
   ·have:j=i:=by omega
    subst this
    exact absurd m z
theorem Zjn {rs:List (Int×Int)} {p q:Int} (h:Adj rs p q):∃ j,j<rs.length/\Mt rs p q j:=by
 obtain ⟨j,hj,e⟩:=(Zb6 rs p q rs.length).mp ((ZiH rs p q).mpr h)
 exact ⟨j,hj,e⟩
def Zd1 (rs:List (Int×Int)) (t:Int×Int):Int:=match Zb2 rs t.1 t.2 rs.length with
 | some (.int j)=>j
 | _=>0
theorem Zhv {k:Int} {rs:List (Int×Int)} (g:Zah k rs) {t:Int×Int} {j:Nat} (hj:j<rs.length) (m:Mt rs t.1 t.2 j):Zd1 rs t=(j:Int):=by
 unfold Zd1
 rw [Zc9 g m rs.length hj (Nat.le_refl _)]
theorem Zjo {ns:List Int} {i:Nat} (h:i+1<ns.length) (hz:i<(ns.zip (ns.drop 1)).length):(ns.zip (ns.drop 1))[i]=(ns.getD i 0,ns.getD (i+1) 0):=by
 rw [List.getElem_zip,List.getElem_drop,ZaC (by omega),ZaC h]
 congr 2
 omega
theorem Zgl {ns:List Int} {c:Bool} (nd:ns.Nodup) (hc:c=true->3<=ns.length):(Zak ns c).Pairwise (λt u=>¬ (t=u\/t=(u.2,u.1))):=by
 unfold Zak
 have zl:(ns.zip (ns.drop 1)).length=ns.length-1:=by rw [List.length_zip,List.length_drop];omega
 have hz:(ns.zip (ns.drop 1)).Pairwise (λt u=>¬ (t=u\/t=(u.2,u.1))):=by
  rw [List.pairwise_iff_getElem]
  intro i j hi hj hij
  rw [Zjo (by omega) hi,Zjo (by omega) hj]
  rintro (e | e)
  ·injection e with e1 e2
   exact Zbr nd (i:=i) (j:=j) (by omega) (by omega) (by omega) e1
  ·injection e with e1 e2
   exact Zbr nd (i:=i) (j:=j+1) (by omega) (by omega) (by omega) e1
 cases c with
 | false=>rw [if_neg (by decide),List.append_nil];exact hz
 | true=>
  have h3:=hc rfl
  rw [if_pos rfl,List.pairwise_append]
  refine ⟨hz,List.pairwise_singleton _ _,λt ht u hu=>?_⟩
  rw [List.mem_singleton] at hu
  subst hu
  obtain ⟨i,hi,rfl⟩:=zip_mem.mp ht
  rintro (e | e)
  ·injection e with e1 e2
   exact Zbr nd (i:=i) (j:=ns.length-1) (by omega) (by omega) (by omega) e1
  ·injection e with e1 e2
   by_cases h0:i=0
   ·subst h0
    exact Zbr nd (i:=0+1) (j:=ns.length-1) (by omega) (by omega) (by omega) e2
   ·exact Zbr nd (i:=i) (j:=0) (by omega) (by omega) h0 e1
def Jk (rs:List (Int×Int)) (ns:List Int) (c:Bool) (k:Nat):Prop:=∃ t∈Zak ns c,Mt rs t.1 t.2 k
def Zpw (ns:List Int) (a b:Int):Prop:=a∈ns/\b∈ns/\(if (ns.idxOf a:Int)-(ns.idxOf b:Int)<0 then -((ns.idxOf a:Int)-(ns.idxOf b:Int)) else (ns.idxOf a:Int)-(ns.idxOf b:Int))=1
end
section
variable {P:Program} {w:World} {K:PySem.W.Frag} {mg:Str->Option Value} {base:Heap}
def pvI (ns:List Int) (i:Nat):Int:=if i=0 then ns.getD (ns.length-1) 0 else ns.getD (i-1) 0
theorem ZlP {rs:List (Int×Int)} (hlt:∀ r∈rs,r.1<r.2) (x y:Int):((if y<x then y else x),(if y > x then y else x))∈rs↔Adj rs x y:=by
 unfold Adj
 by_cases h1:y<x
 ·rw [if_pos h1,if_neg (show ¬ y > x by omega)]
  refine ⟨.inr,λh=>h.elim (λh=>?_) id⟩
  have:=hlt _ h
  dsimp only at this
  omega
 ·rw [if_neg h1]
  by_cases h2:y > x
  ·rw [if_pos h2]
   refine ⟨.inl,λh=>h.elim id (λh=>?_)⟩
   have:=hlt _ h
   dsimp only at this
   omega
  ·have e:x=y:=by omega
   subst e
   rw [if_neg h2]
   exact ⟨.inl,λh=>h.elim id id⟩
theorem ZcJ {k:Int} {rs:List (Int×Int)} (g:Zah k rs) {x y:Int} (h:Adj rs x y):0<=y/\y<k:=by
 rcases h with h | h
 ·have:=g.2.2.2.1 _ h
  dsimp only at this
  omega
 ·have:=g.2.2.2.1 _ h
  dsimp only at this
  omega
def Znm:Sp:=λvs H Q _=>∃ (wb l:Addr) (k p:Int),vs=[.ref wb,.int p]/\H wb=some (.tup [.int k,.ref l])/\Q (.bl (decide (0<=p/\p<k))) H
theorem ZoW:Zaw ["web", "place"] ["web", "place"] (Zad sIs):=⟨rfl,rfl,rfl,by decide +kernel,rfl,by decide +kernel,by decide +kernel⟩
theorem ZlQ {f:Addr} {fd:FuncData} (F:Fun K "is_place" "is_place" sIs f fd):ZaN P w K mg base CX0 1 f fd ["web", "place"] Znm:=by
 refine F.ok ZoW (λvs H Q E h=>?_) (λcdv A outer s H vs Q E hr h=>?_)
 ·obtain ⟨_,_,_,_,rfl,_⟩:=h
  rfl
 ·obtain ⟨wb,l,k,p,rfl,hw,q⟩:=h
  refine ⟨_,Zag (Zay (Zh1 Zla Zf1 Zaf (pv 1) (ZaB (ZcA K) (pv 0) Zaf (λ_ _=>rfl)))),?_⟩
  refine ⟨_,rfl,_,_,rfl,rfl,_,rfl,Zde (λh0=>?_) (λh0=>?_)⟩
  ·refine ⟨_,rfl,wb,_,_,_,rfl,rfl,SqT.of hw,Zam (j:=0) rfl,_,_,rfl,rfl,?_⟩
   have h0':=of_decide_eq_true h0
   have e:decide (p<k)=decide (0<=p/\p<k):=by
    by_cases h1:p<k
    ·rw [decide_eq_true h1,decide_eq_true (⟨h0',h1⟩:0<=p/\p<k)]
    ·rw [decide_eq_false h1,decide_eq_false λz=>h1 z.2]
   show Q (.bl (decide (p<k))) H
   rw [e]
   exact q
  ·have h0':¬ 0<=p:=λz=>h0 (decide_eq_true z)
   have e:decide (0<=p/\p<k)=false:=decide_eq_false λz=>h0' z.1
   rw [e] at q
   exact q
def Ends (k p q:Int):Prop:=(0<=p/\p<k)/\(0<=q/\q<k)/\p≠q
def ZlR (C:Addr):Sp:=λvs H Q E=>∃ (wb l:Addr) (k p q:Int),vs=[.ref wb,.int p,.int q]/\H wb=some (.tup [.int k,.ref l])/\((Ends k p q/\Q .non H)\/(¬ Ends k p q/\E (.ref C) none H))
theorem Znn:Zaw ["web", "one", "other"] ["web", "one", "other"] (Zad Zkj):=⟨rfl,rfl,rfl,by decide +kernel,rfl,by decide +kernel,by decide +kernel⟩
theorem ZlS {f fI C:Addr} {fd fdI:FuncData} (F:Fun K "check_ends" "check_ends" Zkj f fd) (FI:Fun K "is_place" "is_place" sIs fI fdI) (bI:Binds K fdI ["web", "place"] []) (mI:mg "is_place" = some (.ref fI)) (mC:mg "NoEnds" = some (.ref C)) (xC:ExcC K C) :
  ZaN P w K mg base (CXr P w) 2 f fd ["web", "one", "other"] (ZlR C):=by
 have GI:ZaN P w K mg base CX0 1 fI fdI ["web", "place"] Znm:=ZlQ FI
 refine F.okR Znn (λvs H Q E h=>?_) (λcdv A outer s H vs Q E hr h=>?_)
 ·obtain ⟨_,_,_,_,_,rfl,_⟩:=h
  rfl
 ·obtain ⟨wb,l,k,p,q,rfl,hw,h⟩:=h
  refine ⟨_,Zag (Za1 (PW.pt (Zea (ZbY (Zbh (Zaj GI (hr.mono (by decide)) rfl mI FI.kp bI .nil ZaG (Zaa (pv 0) (Zaa (pv 1) Zac))))) (Zea (ZbY (Zbh (Zaj GI (hr.mono (by decide)) rfl mI FI.kp bI .nil ZaG (Zaa (pv 0) (Zaa (pv 2) Zac))))) (Zdl (Zax Zdh (pv 1) (pv 2) (ZaD _)))))) (Zag (ZdG (E:=E) rfl Zbx rfl mC xC (Zaa Zgv Zac))) ZaA),?_⟩
  refine ⟨_,rfl,_,rfl,wb,l,k,p,rfl,hw,⟨_,rfl,?_⟩⟩
  by_cases h1:0<=p/\p<k
  ·rw [decide_eq_true h1]
   refine Zbw ?_
   refine ⟨_,rfl,_,rfl,wb,l,k,q,rfl,hw,⟨_,rfl,?_⟩⟩
   by_cases h2:0<=q/\q<k
   ·rw [decide_eq_true h2]
    refine Zbw ?_
    refine ⟨_,rfl,_,rfl,rfl,_,rfl,?_⟩
    by_cases h3:p=q
    ·subst h3
     rw [decide_eq_true rfl]
     refine Zce ?_
     rcases h with ⟨g,_⟩ | ⟨_,e⟩
     ·exact absurd rfl g.2.2
     ·exact ⟨by decide,e⟩
    ·rw [decide_eq_false λe=>h3 (V.int.inj e)]
     refine Zbw ?_
     rcases h with ⟨_,y⟩ | ⟨g,_⟩
     ·exact y
     ·exact absurd ⟨h1,h2,h3⟩ g
   ·rw [decide_eq_false h2]
    refine Zce ?_
    rcases h with ⟨g,_⟩ | ⟨_,e⟩
    ·exact absurd g.2.1 h2
    ·exact ⟨by decide,e⟩
  ·rw [decide_eq_false h1]
   refine Zce ?_
   rcases h with ⟨g,_⟩ | ⟨_,e⟩
   ·exact absurd g.1 h1
   ·exact ⟨by decide,e⟩
def Way (rs:List (Int×Int)) (p q:Int) (ns:List Int):Prop:=ns≠[]/\ns.getD 0 0=p/\ns.getD (ns.length-1) 0=q/\Zdx rs ns false
end
section
variable {P:Program} {w:World} {K:PySem.W.Frag} {mg:Str->Option Value} {base:Heap}
def ZlT (rs:List (Int×Int)) (ns:List Int):Prop:=3<=ns.length/\(∀ x∈ns,ns.getD 0 0<=x)/\ns.getD 1 0<ns.getD (ns.length-1) 0/\Zdx rs ns true
end
end M
namespace M
open PySem L2
section
variable {P:Program} {w:World} {K:PySem.W.Frag} {mg:Str->Option Value} {base:Heap}
def Zkw:Sp:=λvs H Q _=>∃ (wb l pl:Addr) (k:Int) (xs:List V) (rs:List (Int×Int)) (ns:List Int) (c:Bool),vs=[.ref wb,.ref pl,.bl c]/\WebAt H wb l k xs rs/\Zah k rs/\H pl=some (.lst (ns.map V.int))/\ns.length<=50/\(c=true->ns≠[])/\(∀ t∈Zak ns c,Adj rs t.1 t.2) /\
 ∀ (re:Addr) (ms:List Int) (H':Hp),Same H H'->H re=none->H' re=some (.lst (ms.map V.int))->ms.Perm ((Zak ns c).map (Zd1 rs))->ms.Pairwise (· <= ·)->Q (.ref re) H'
theorem scRds:Zaw ["web", "places", "closed", "numbers"] ["web", "places", "closed"] (Zad Zff):=⟨rfl,rfl,rfl,by decide +kernel,rfl,by decide +kernel,by decide +kernel⟩
theorem ZlU {f fU fV:Addr} {dV:Value} {fd fdU fdV:FuncData} (F:FunD K "roads_of" "roads_of" Zff dV f fd) (FU:Fun K "numbers_by_step" "numbers_by_step" Zje fU fdU) (bU:Binds K fdU ["web"] []) (mU:mg "numbers_by_step" = some (.ref fU))
  (FV:Fun K "steps_of" "steps_of" Zkk fV fdV) (bV:Binds K fdV ["places", "closed"] []) (mV:mg "steps_of" = some (.ref fV)) (mEnum:mg "enumerate" = none) (mLst:mg "list" = none) (mZip:mg "zip" = none) (mSor:mg "sorted" = none):ZaN P w K mg base CX0 2 f fd ["web", "places", "closed"] Zkw:=by
 have GU:ZaN P w K mg base CX0 1 fU fdU ["web"] ZlK:=ZlL FU mEnum
 have GV:ZaN P w K mg base CX0 1 fV fdV ["places", "closed"] ZlM:=ZlN FV mLst mZip
 refine F.ok scRds (λvs H Q E h=>?_) (λcdv A outer s H vs Q E hr h=>?_)
 ·obtain ⟨_,_,_,_,_,_,_,_,rfl,_⟩:=h
  rfl
 ·obtain ⟨wb,l,pl,k,xs,rs,ns,c,rfl,W,g,hp,hn,hc,adj,q⟩:=h
  have hu1:(A.deeper (PyProof.Rows.envOfC "roads_of" (Zad Zff) s.heap.objs.size f cdv)).units+1<cLine:=by have:=hr.un;omega
  have h16:(16777216:Nat)=sizeLine:=sizeLine_eq.symm
  have hx:xs.length<=30:=by rw [W.p.len];exact g.2.2.1
  refine ⟨_,Zae (Zau (i:=3) scRds.nd rfl (Or.inr rfl) (Zaj GU (hr.mono (by decide)) rfl mU FU.kp bU .nil ZaG (Zaa (pv 0) Zac)))
    (Zag (Zay (Zar (ZgZ K) rfl mSor PyProof.Rows.boot_sorted (Zaa (Za2 (own:=["step"]) rfl (Zaq (fr:=[("numbers", 3)]) [(".0", .local),("step", .local),("numbers", .cell)] rfl rfl (by decide +kernel) rfl (by decide +kernel) ⟨rfl,trivial⟩ ⟨λh=>ZaP h,λh=>ZaP h,λ_=>⟨_,rfl⟩,trivial⟩ ⟨⟨rfl,.inl rfl,.inl rfl⟩,trivial⟩) (ZbX K (Zaj GV (hr.mono (by decide)) rfl mV FV.kp bV .nil ZaG (Zaa (pv 1) (Zaa (pv 2) Zac)))) (λ_ _ _ _=>Zat (i:=0) (show List.Nodup (["step", "numbers"]:List Str) by decide +kernel) rfl (Or.inl rfl)) (λ_ _ _ _=>ZbK) (λ_ _ _ _=>Zj1 hu1 (pv 1) (pv 0) (λ_ _=>rfl))) Zac)))),?_⟩
  refine ⟨_,rfl,wb,l,k,xs,rs,rfl,W,hx,λd H1 kvs s1 hd ed val=>?_⟩
  refine ⟨_,rfl,_,rfl,pl,ns,c,rfl,s1 _ _ hp,by omega,hc,λS ws H2 s2 hS eS pS=>?_⟩
  have s12:=s1.trans s2
  have ed2:=s2 _ _ ed
  have lst:(Zak ns c).length<=51:=by
   unfold Zak
   rw [List.length_append,List.length_zip]
   split <;> simp <;> omega
  have lws:ws.length<=51:=by rw [pS.len];exact lst
  refine ⟨S,rfl,⟨_,SqL.of eS⟩,λD hD=>?_⟩
  refine ZaR (K:=K) (a:=S) (xs:=ws) (λi ys H3=>Same H2 H3/\H3 D=some (.lst ys)/\ys=(((Zak ns c).take i).map (Zd1 rs)).map V.int) ⟨Same.new hD,Zab,rfl⟩ (λi ys H3 _ ⟨s3,_⟩=>SqL.of (s3 _ _ eS)) ?_ ?_
  ·rintro i x ys H3 hxi ⟨s3,hD3,rfl⟩
   obtain ⟨t,r,rfl,et,er⟩:=(pS.same s3).get hxi
   have hi:i<ws.length:=(List.getElem?_eq_some_iff.mp hxi).1
   obtain ⟨j,hj,mj⟩:=Zjn (adj r (List.mem_of_getElem? er))
   refine ⟨⟨rfl,trivial⟩,?_⟩
   unfold ZjN
   refine Zce ?_
   have dg:DGet H3 d (.ref t) (some (.int (j:Nat))):=by
    have:=DGet.t (k:=ky r.1 r.2) (s3 _ _ ed2) et
    rw [val r.1 r.2,Zc9 g mj rs.length hj (Nat.le_refl _)] at this
    exact this
   refine ⟨_,rfl,_,rfl,d,_,rfl,dg,hD3,?_,s3.put hD,Zab,?_⟩
   ·rw [List.length_map,List.length_map,List.length_take]
    omega
   ·rw [List.take_add_one,er,List.map_append,List.map_append]
    show _=_++[V.int (Zd1 rs r)]
    rw [Zhv g hj mj]
  rintro ys H3 ⟨s3,hD3,rfl⟩
  rw [pS.len,List.take_length] at hD3
  refine ⟨D,_,rfl,SqL.of hD3,by rw [List.length_map];omega,λre ms hre pm so=>?_⟩
  have s13:=s12.trans s3
  exact q re ms _ (s13.put (s13.free hre)) (s13.free hre) Zab pm so
end
end M
namespace M
open PySem L2
section
variable {P:Program} {w:World} {K:PySem.W.Frag} {mg:Str->Option Value} {base:Heap}
def ZlV (C:Addr):Sp:=λvs H Q E=>∃ (wb l:Addr) (k p:Int),vs=[.ref wb,.int p]/\H wb=some (.tup [.int k,.ref l])/\(((0<=p/\p<k)/\Q .non H)\/(¬ (0<=p/\p<k)/\E (.ref C) none H))
theorem Zno:Zaw ["web", "place"] ["web", "place"] (Zad Zkh):=⟨rfl,rfl,rfl,by decide +kernel,rfl,by decide +kernel,by decide +kernel⟩
theorem ZlW {f fI C:Addr} {fd fdI:FuncData} (F:Fun K "check_place" "check_place" Zkh f fd) (FI:Fun K "is_place" "is_place" sIs fI fdI) (bI:Binds K fdI ["web", "place"] []) (mI:mg "is_place" = some (.ref fI)) (mC:mg "NoPlace" = some (.ref C)) (xC:ExcC K C) :
  ZaN P w K mg base (CXr P w) 2 f fd ["web", "place"] (ZlV C):=by
 have GI:ZaN P w K mg base CX0 1 fI fdI ["web", "place"] Znm:=ZlQ FI
 refine F.okR Zno (λvs H Q E h=>?_) (λcdv A outer s H vs Q E hr h=>?_)
 ·obtain ⟨_,_,_,_,rfl,_⟩:=h
  rfl
 ·obtain ⟨wb,l,k,p,rfl,hw,h⟩:=h
  refine ⟨_,Zag (Za1 (ZbY (Zbh (Zaj GI (hr.mono (by decide)) rfl mI FI.kp bI .nil ZaG (Zaa (pv 0) (Zaa (pv 1) Zac))))) (Zag (ZdG (E:=E) rfl Zbx rfl mC xC (Zaa Zgv Zac))) ZaA),?_⟩
  refine ⟨_,rfl,_,rfl,wb,l,k,p,rfl,hw,⟨_,rfl,?_⟩⟩
  rcases h with ⟨hin,q⟩ | ⟨hout,q⟩
  ·rw [decide_eq_true hin]
   refine Zbw ?_
   exact q
  ·rw [decide_eq_false hout]
   refine Zce ?_
   exact ⟨by decide,q⟩
def Zbu (r:Int×Int) (p:Int):Bool:=decide (r.1=p\/r.2=p)
theorem Znp (p a b:Int):inV (.int p) [.int a,.int b]=Zbu (a,b) p:=by
 unfold inV Zbu
 by_cases h1:a=p <;> by_cases h2:b=p <;> simp [eqV,h1,h2]
def Zdj (rs:List (Int×Int)) (p:Int):List Int:=(rs.filter λr=>Zbu r p).map λr=>r.1+r.2-p
theorem ZiI (rs:List (Int×Int)) (p:Int):(Zdj rs p).length<=rs.length:=by
 unfold Zdj
 rw [List.length_map]
 exact List.length_filter_le _ _
theorem Zhw (rs:List (Int×Int)) (p:Int) (i:Nat) {r:Int×Int} (h:rs[i]?=some r):Zdj (rs.take (i+1)) p=Zdj (rs.take i) p++(if Zbu r p=true then [r.1+r.2-p] else []):=by
 unfold Zdj
 rw [List.take_add_one,h]
 show List.map _ (List.filter _ (rs.take i++[r]))=_
 rw [List.filter_append,List.map_append,List.filter_cons,List.filter_nil]
 by_cases z:Zbu r p=true
 ·rw [if_pos z,if_pos z];rfl
 ·rw [if_neg z,if_neg z];rfl
def ZlX (C:Addr):Sp:=λvs H Q E=>∃ (wb l:Addr) (k p:Int) (xs:List V) (rs:List (Int×Int)),vs=[.ref wb,.int p]/\WebAt H wb l k xs rs/\xs.length<=60 /\
 (((0<=p/\p<k)/\∀ (r:Addr) (ns:List Int) (H':Hp),Same H H'->H r=none->H' r=some (.lst (ns.map V.int))->ns.Perm (Zdj rs p)->ns.Pairwise (· <= ·)->Q (.ref r) H')\/(¬ (0<=p/\p<k)/\E (.ref C) none H))
theorem Znq:Zaw ["web", "place"] ["web", "place"] (Zad Zki):=⟨rfl,rfl,rfl,by decide +kernel,rfl,by decide +kernel,by decide +kernel⟩
theorem ZlY {f fH C:Addr} {fd fdH:FuncData} (F:Fun K "beside" "beside" Zki f fd) (FH:Fun K "check_place" "check_place" Zkh fH fdH) (bH:Binds K fdH ["web", "place"] []) (mH:mg "check_place" = some (.ref fH))
  (GH:ZaN P w K mg base (CXr P w) 2 fH fdH ["web", "place"] (ZlV C)) (mSor:mg "sorted" = none):ZaN P w K mg base (CXr P w) 3 f fd ["web", "place"] (ZlX C):=by
 refine F.okR Znq (λvs H Q E h=>?_) (λcdv A outer s H vs Q E hr h=>?_)
 ·obtain ⟨_,_,_,_,_,_,rfl,_⟩:=h
  rfl
 ·obtain ⟨wb,l,k,p,xs,rs,rfl,W,hx,h⟩:=h
  have h16:(16777216:Nat)=sizeLine:=sizeLine_eq.symm
  refine ⟨_,Zae (ZaX (Zaj GH (hr.mono (by decide)) rfl mH FH.kp bH .nil Zia (Zaa (pv 0) (Zaa (pv 1) Zac))))
    (Zag (Zay (Zar (ZgZ K) rfl mSor PyProof.Rows.boot_sorted (Zaa (Za2 (own:=["a", "b"]) rfl (Zaq (fr:=[("place", 1)]) [(".0", .local),("a", .local),("b", .local),("place", .cell)] rfl rfl (by decide +kernel) rfl (by decide +kernel) ⟨rfl,trivial⟩ ⟨λh=>ZaP h,λh=>ZaP h,λh=>ZaP h,λ_=>⟨_,rfl⟩,trivial⟩ ⟨⟨rfl,.inl rfl,.inl rfl⟩,trivial⟩) (ZbX K (ZaB (ZcA K) (pv 0) Zaf (λ_ _=>rfl))) (λ_ _ _ _=>Zlp K (n:=2) rfl (Za4 (Zat (i:=0) (show List.Nodup (["a", "b", "place"]:List Str) by decide +kernel) rfl (Or.inl rfl)) (Za4 (Zat (i:=1) (show List.Nodup (["a", "b", "place"]:List Str) by decide +kernel) rfl (Or.inl rfl)) ZcU))) (λ_ _ _ _=>Za9 (Zax (kIn K) (pv 2) (ZaV (Zaa (pv 0) (Zaa (pv 1) Zac))) (by with_unfolding_all rfl))) (λ_ _ _ _=>Zav ZcV (Zav ZaK (pv 0) (pv 1)) (pv 2))) Zac)))),?_⟩
  rcases h with ⟨hin,q⟩ | ⟨hout,q⟩
  ·refine ⟨_,rfl,_,rfl,wb,l,k,p,rfl,W.w,.inl ⟨hin,?_⟩⟩
   refine ⟨_,rfl,wb,_,_,_,rfl,rfl,SqT.of W.w,Zam (j:=1) rfl,l,rfl,⟨_,SqL.of W.l⟩,λD hD=>?_⟩
   refine ZaR (K:=K) (a:=l) (xs:=xs) (λi ys H2=>Same H H2/\H2 D=some (.lst ys)/\ys=(Zdj (rs.take i) p).map V.int) ⟨Same.new hD,Zab,rfl⟩ (λi ys H2 _ ⟨s2,_⟩=>SqL.of (s2 _ _ W.l)) ?_ ?_
   ·rintro i x ys H2 hxi ⟨s2,hD2,rfl⟩
    obtain ⟨t,r,rfl,et,er⟩:=W.p.get hxi
    have hi:i<xs.length:=(List.getElem?_eq_some_iff.mp hxi).1
    refine ⟨t,_,rfl,SqT.of (s2 _ _ et),rfl,_,_,rfl,_,_,rfl,rfl,⟨rfl,trivial⟩,?_⟩
    refine ⟨_,rfl,_,rfl,_,rfl,ZaT,λT hT=>⟨T,_,rfl,.inr (SqT.of Zab),rfl,rfl,_,rfl,?_⟩⟩
    show if (inV (.int p) [.int r.1,.int r.2])=true then _ else _
    have sc:=Zhw rs p i er
    have s3:Same H (upd H2 T (.tup [.int r.1,.int r.2])):=s2.put (s2.free hT)
    have hDT:D≠T:=Zai hD2 hT
    rw [Znp]
    refine Zde (λz=>?_) (λz=>?_)
    ·rw [if_pos z] at sc
     refine ⟨_,rfl,_,rfl,_,_,rfl,rfl,_,rfl,_,_,rfl,rfl,Zal hD2 hDT,?_,s3.put hD,Zab,by rw [sc,List.map_append];rfl⟩
     rw [List.length_map]
     have:=ZiI (rs.take i) p
     rw [List.length_take] at this
     omega
    ·rw [if_neg z,List.append_nil] at sc
     exact ⟨s3,Zal hD2 hDT,by rw [sc]⟩
   ·rintro ys H2 ⟨s2,hD2,rfl⟩
    rw [W.p.len,List.take_length] at hD2
    refine ⟨D,_,rfl,SqL.of hD2,?_,λr ns hr hp hs=>q r ns _ (s2.put (s2.free hr)) (s2.free hr) Zab hp hs⟩
    unfold Zdj
    rw [List.length_map]
    have:=List.length_filter_le (λr=>Zbu r p) rs
    have:=W.p.len
    omega
  ·exact ⟨_,rfl,_,rfl,wb,l,k,p,rfl,W.w,.inr ⟨hout,q⟩⟩
end
end M
namespace M
open PySem L2
def Za8 (p q:Int):Int×Int:=((if q<p then q else p),(if q > p then q else p))
theorem Zba {ls:List (Int×Int)} (hlt:∀ r∈ls,r.1<r.2) (x y:Int):Za8 x y∈ls↔Adj ls x y:=ZlP hlt x y
def hit (p:Int) (t:Int×Int):Nat:=(if t.1=p then 1 else 0)+(if t.2=p then 1 else 0)
theorem ZlZ (p x y:Int):hit p (Za8 x y)=hit p (x,y):=by
 unfold hit Za8
 dsimp only
 by_cases h1:y<x
 ·rw [if_pos h1,if_neg (show ¬ y > x by omega)]
  exact Nat.add_comm _ _
 ·rw [if_neg h1]
  by_cases h2:y > x
  ·rw [if_pos h2]
  ·rw [if_neg h2,show x=y by omega]
def ZiJ (p:Int) (ls:List (Int×Int)):Nat:=(ls.map (hit p)).sum
theorem ZbE {p:Int} {ls ms:List (Int×Int)} (h:ls.Perm ms):ZiJ p ls=ZiJ p ms:=(h.map (hit p)).sum_nat
theorem ZeE (p:Int) (t:Int×Int) (ls:List (Int×Int)):ZiJ p (t::ls)=hit p t+ZiJ p ls:=by unfold ZiJ;rw [List.map_cons,List.sum_cons]
def ZaH (ns:List Int):List (Int×Int):=(ns.zip (ns.drop 1)).map λt=>Za8 t.1 t.2
theorem ZaI (a b:Int) (tl:List Int):ZaH (a::b::tl)=Za8 a b::ZaH (b::tl):=rfl
def Zbj (p q:Int):Nat:=if p=q then 1 else 0
theorem Zbm (p:Int):∀ (tl:List Int) (a:Int),ZiJ p (ZaH (a::tl))+Zbj a p+Zbj ((a::tl).getD tl.length 0) p=2 * (a::tl).count p
 | [],a=>by
  show 0+Zbj a p+Zbj a p=2 * List.count p [a]
  unfold Zbj
  by_cases h:a=p
  ·rw [if_pos h,h,List.count_singleton_self]
  ·rw [if_neg h,List.count_eq_zero_of_not_mem (λz=>h (List.mem_singleton.mp z).symm)]
 | b::tl,a=>by
  have ih:=Zbm p tl b
  rw [ZaI,ZeE,ZlZ]
  show hit p (a,b)+ZiJ p (ZaH (b::tl))+Zbj a p+Zbj ((b::tl).getD tl.length 0) p=_
  rw [List.count_cons]
  have e1:hit p (a,b)=Zbj a p+Zbj b p:=rfl
  have e2:(if (a == p)=true then 1 else 0)=Zbj a p:=by
   unfold Zbj
   by_cases h:a=p
   ·rw [if_pos h,if_pos (by rw [h];exact beq_self_eq_true p)]
   ·rw [if_neg h,if_neg (by rw [beq_iff_eq];exact h)]
  rw [e1,e2]
  omega
inductive Wk:List (Int×Int)->Int->List Int->List (Int×Int)->Prop
 | stop {ls:List (Int×Int)} {p:Int}:(∀ q,¬ Adj ls p q)->Wk ls p [] ls
 | go {ls rest:List (Int×Int)} {p q:Int} {row:List Int}:Adj ls p q->(∀ q',Adj ls p q'->q<=q')->Wk (ls.erase (Za8 p q)) q row rest->Wk ls p (q::row) rest
theorem Wk.det {ls e1:List (Int×Int)} {p:Int} {r1:List Int} (h:Wk ls p r1 e1):∀ {r2:List Int} {e2:List (Int×Int)},Wk ls p r2 e2->r1=r2:=by
 induction h with
 | stop n=>
  intro r2 e2 k
  cases k with
  | stop _=>rfl
  | go a _ _=>exact absurd a (n _)
 | go a l w ih=>
  intro r2 e2 k
  cases k with
  | stop n=>exact absurd a (n _)
  | go a' l' w'=>
   have e:=Int.le_antisymm (l _ a') (l' _ a)
   subst e
   rw [ih w']
theorem Zd2 {ls:List (Int×Int)} {t:Int×Int} (hlt:∀ r∈ls,r.1<r.2):∀ r∈ls.erase t,r.1<r.2:=λr hr=>hlt r (List.mem_of_mem_erase hr)
theorem Wk.perm {ls rest:List (Int×Int)} {p:Int} {row:List Int} (h:Wk ls p row rest) (hlt:∀ r∈ls,r.1<r.2):ls.Perm (ZaH (p::row)++rest):=by
 induction h with
 | stop _=>exact List.Perm.refl _
 | @go ls rest p q row a _ _ ih=>
  rw [ZaI]
  exact (List.perm_cons_erase ((Zba hlt _ _).mpr a)).trans ((ih (Zd2 hlt)).cons _)
theorem ZcG (a:Int) (tl:List Int):(ZaH (a::tl)).length=tl.length:=by
 unfold ZaH
 rw [List.length_map,List.length_zip,List.length_drop,List.length_cons]
 omega
theorem Wk.len {ls rest:List (Int×Int)} {p:Int} {row:List Int} (h:Wk ls p row rest) (hlt:∀ r∈ls,r.1<r.2):ls.length=row.length+rest.length:=by
 rw [(h.perm hlt).length_eq,List.length_append,ZcG]
def Zbg (rs:List (Int×Int)) (ks:List Int):Prop:=ks.Pairwise (· < ·)/\∀ x∈ks,0<=x/\x<(rs.length:Int)
def road (rs:List (Int×Int)) (x:Int):Int×Int:=rs.getD x.toNat (0,0)
def cho (rs:List (Int×Int)) (ks:List Int) (i:Nat):List (Int×Int):=((List.range i).filter λ(j:Nat)=>decide ((j:Int)∈ks)).map λ(j:Nat)=>rs.getD j (0,0)
theorem Zfj {rs:List (Int×Int)} {ks:List Int} {t:Int×Int} (h:t∈cho rs ks rs.length):t∈rs:=by
 unfold cho at h
 obtain ⟨j,hj,rfl⟩:=List.mem_map.mp h
 exact Zcq (List.mem_range.mp (List.mem_filter.mp hj).1)
theorem Zhx {xs ys:List Int} (hx:xs.Pairwise (· < ·)) (hy:ys.Pairwise (· < ·)) (h:∀ z,z∈xs↔z∈ys):xs=ys:=by
 induction xs generalizing ys with
 | nil=>
  cases ys with
  | nil=>rfl
  | cons y ys=>exact absurd ((h y).mpr (List.mem_cons_self ..)) List.not_mem_nil
 | cons x xs ih=>
  cases ys with
  | nil=>exact absurd ((h x).mp (List.mem_cons_self ..)) List.not_mem_nil
  | cons y ys=>
   have hx':=List.pairwise_cons.mp hx
   have hy':=List.pairwise_cons.mp hy
   have e:x=y:=by
    rcases List.mem_cons.mp ((h x).mp (List.mem_cons_self ..)) with z | z
    ·exact z
    ·rcases List.mem_cons.mp ((h y).mpr (List.mem_cons_self ..)) with u | u
     ·exact u.symm
     ·have:=hy'.1 _ z
      have:=hx'.1 _ u
      omega
   subst e
   rw [ih hx'.2 hy'.2 λz=>⟨λhz=>?_,λhz=>?_⟩]
   ·rcases List.mem_cons.mp ((h z).mp (List.mem_cons_of_mem _ hz)) with u | u
    ·have:=hx'.1 _ hz;omega
    ·exact u
   ·rcases List.mem_cons.mp ((h z).mpr (List.mem_cons_of_mem _ hz)) with u | u
    ·have:=hy'.1 _ hz;omega
    ·exact u
theorem ZbF {rs:List (Int×Int)} {ks:List Int} (h:Zbg rs ks):cho rs ks rs.length=ks.map (road rs):=by
 have e:((List.range rs.length).filter λ(j:Nat)=>decide ((j:Int)∈ks)).map (λ(j:Nat)=>(j:Int))=ks:=by
  refine Zhx ?_ h.1 λz=>?_
  ·rw [List.pairwise_map]
   exact (List.pairwise_lt_range.filter _).imp λhlt=>by omega
  ·rw [List.mem_map]
   constructor
   ·rintro ⟨j,hj,rfl⟩
    exact of_decide_eq_true (List.mem_filter.mp hj).2
   ·intro hz
    obtain ⟨z0,z1⟩:=h.2 z hz
    exact ⟨z.toNat,List.mem_filter.mpr ⟨List.mem_range.mpr (by omega),decide_eq_true (by rw [Int.toNat_of_nonneg z0];exact hz)⟩,Int.toNat_of_nonneg z0⟩
 unfold cho
 conv=>rhs;rw [<-e]
 rw [List.map_map]
 rfl
theorem ZiK {k:Int} {rs:List (Int×Int)} (g:Zah k rs) {t:Int×Int} (h:t∈rs) (p:Int):hit p t=if t.1=p\/t.2=p then 1 else 0:=by
 have:=g.2.2.2.1 t h
 unfold hit
 by_cases h1:t.1=p
 ·rw [if_pos h1,if_neg (by omega),if_pos (.inl h1)]
 ·rw [if_neg h1]
  by_cases h2:t.2=p
  ·rw [if_pos h2,if_pos (.inr h2)]
  ·rw [if_neg h2,if_neg (λz=>z.elim h1 h2)]
def degK (rs:List (Int×Int)) (ks:List Int) (p:Int):Nat:=(ks.filter λx=>decide ((road rs x).1=p\/(road rs x).2=p)).length
theorem Zcs {rs:List (Int×Int)} {x:Int} (h:0<=x/\x<(rs.length:Int)):road rs x∈rs:=Zcq (by omega)
theorem Zbn {k:Int} {rs:List (Int×Int)} (g:Zah k rs) (p:Int):∀ {ks:List Int},(∀ x∈ks,0<=x/\x<(rs.length:Int))->degK rs ks p=ZiJ p (ks.map (road rs))
 | [],_=>rfl
 | x::ks,h=>by
  have ih:=Zbn g p (ks:=ks) λy hy=>h y (List.mem_cons_of_mem _ hy)
  have hx:=ZiK g (Zcs (h x (List.mem_cons_self ..))) p
  rw [List.map_cons,ZeE,<-ih,hx]
  unfold degK
  rw [List.filter_cons]
  by_cases z:(road rs x).1=p\/(road rs x).2=p
  ·rw [if_pos (decide_eq_true z),if_pos z,List.length_cons,Nat.add_comm]
  ·rw [if_neg (by rw [decide_eq_false z];decide),if_neg z,Nat.zero_add]
theorem Zkx {rs:List (Int×Int)} {p q:Int} {x:Int} (m:Mt rs p q x.toNat) (hlt:(road rs x).1<(road rs x).2):road rs x=Za8 p q:=by
 unfold road at hlt ⊢
 unfold Za8
 rcases m with e | e
 ·rw [e] at hlt ⊢
  dsimp only at hlt
  rw [if_neg (by omega),if_pos (by omega)]
 ·rw [e] at hlt ⊢
  dsimp only at hlt
  rw [if_pos (by omega),if_neg (by omega)]
theorem Zct {k:Int} {rs:List (Int×Int)} (g:Zah k rs) {t:Int×Int} (a:Adj rs t.1 t.2):(0<=Zd1 rs t/\Zd1 rs t<(rs.length:Int))/\road rs (Zd1 rs t)=Za8 t.1 t.2:=by
 obtain ⟨j,hj,m⟩:=Zjn a
 rw [Zhv g hj m]
 have hr:0<=(j:Int)/\(j:Int)<(rs.length:Int):=by omega
 refine ⟨hr,Zkx ?_ (g.2.2.2.1 _ (Zcs hr)).2.1⟩
 rw [Int.toNat_natCast]
 exact m
theorem Zd3 {k:Int} {rs:List (Int×Int)} (g:Zah k rs) {x y:Int} (hx:0<=x/\x<(rs.length:Int)) (hy:0<=y/\y<(rs.length:Int)) (e:road rs x=road rs y):x=y:=by
 have:=Zcr g.2.2.2.2 (i:=x.toNat) (j:=y.toNat) (by omega) (by omega) e
 omega
theorem ZeF {k:Int} {rs:List (Int×Int)} (g:Zah k rs) {xs ys:List Int} (hx:∀ x∈xs,0<=x/\x<(rs.length:Int)) (hy:∀ y∈ys,0<=y/\y<(rs.length:Int)) (p:(xs.map (road rs)).Perm (ys.map (road rs))):xs.Perm ys:=by
 induction xs generalizing ys with
 | nil=>
  have:=p.length_eq
  rw [List.length_map,List.length_map] at this
  cases ys with
  | nil=>exact .nil
  | cons y ys=>simp at this
 | cons x xs ih=>
  rw [List.map_cons] at p
  have hm:road rs x∈ys.map (road rs):=p.mem_iff.mp (List.mem_cons_self ..)
  obtain ⟨y,hym,e⟩:=List.mem_map.mp hm
  have exy:=Zd3 g (hx x (List.mem_cons_self ..)) (hy y hym) e.symm
  subst exy
  have p2:=List.perm_cons_erase hym
  have p3:(xs.map (road rs)).Perm ((ys.erase x).map (road rs)):=by
   have:=p.trans (p2.map (road rs))
   rw [List.map_cons] at this
   exact this.cons_inv
  exact ((ih (λz hz=>hx z (List.mem_cons_of_mem _ hz)) (λz hz=>hy z (List.mem_of_mem_erase hz)) p3).cons x).trans p2.symm
theorem Zbo {k:Int} {rs:List (Int×Int)} (g:Zah k rs):∀ {ts:List (Int×Int)},(∀ t∈ts,Adj rs t.1 t.2)->(ts.map (Zd1 rs)).map (road rs)=ts.map λt=>Za8 t.1 t.2
 | [],_=>rfl
 | t::ts,h=>by
  rw [List.map_cons,List.map_cons,List.map_cons,(Zct g (h t (List.mem_cons_self ..))).2,Zbo g λu hu=>h u (List.mem_cons_of_mem _ hu)]
theorem Zgm {ms:List Int} (h:ms.Pairwise (· <= ·)) (nd:ms.Nodup):ms.Pairwise (· < ·):=(h.and nd).imp λh=>by have:=h.1;have:=h.2;omega
theorem ZcQ {k:Int} {rs:List (Int×Int)} (g:Zah k rs) {ns ms:List Int} {c:Bool} (o:Zdx rs ns c) (hc:c=true->3<=ns.length) (pm:ms.Perm ((Zak ns c).map (Zd1 rs))) (so:ms.Pairwise (· <= ·)):Zbg rs ms:=by
 have nd:((Zak ns c).map (Zd1 rs)).Nodup:=by
  unfold List.Nodup
  rw [List.pairwise_map]
  refine (Zgl o.2 hc).imp_of_mem λ{t u} ht hu h e=>h ?_
  have rt:=Zct g (o.1 t ht)
  have ru:=Zct g (o.1 u hu)
  have e2:Za8 t.1 t.2=Za8 u.1 u.2:=by rw [<-rt.2,<-ru.2,e]
  unfold Za8 at e2
  have e3:=Prod.mk.inj e2
  obtain ⟨t1,t2⟩:=t
  obtain ⟨u1,u2⟩:=u
  dsimp only at e3 ⊢
  rw [Prod.mk.injEq,Prod.mk.injEq]
  split at e3 <;> split at e3 <;> split at e3 <;> split at e3 <;> omega
 refine ⟨Zgm so (pm.nodup_iff.mpr nd),λx hx=>?_⟩
 obtain ⟨t,ht,rfl⟩:=List.mem_map.mp (pm.mem_iff.mp hx)
 exact (Zct g (o.1 t ht)).1
end M
namespace M
open PySem L2
theorem ZfM {k:Int} {rs:List (Int×Int)} (g:Zah k rs) (ks:List Int):∀ r∈cho rs ks rs.length,r.1<r.2:=λr hr=>(g.2.2.2.1 r (Zfj hr)).2.1
theorem Zd4 {ls rs:List (Int×Int)} (h:∀ r∈ls,r∈rs) {p q:Int} (a:Adj ls p q):Adj rs p q:=a.elim (λz=>.inl (h _ z)) λz=>.inr (h _ z)
theorem Zhy {ls:List (Int×Int)} {p q:Int} (a:Adj ls p q):Adj ls q p:=a.elim .inr .inl
theorem Wk.met {ls rest:List (Int×Int)} {p:Int} {row:List Int} (h:Wk ls p row rest):∀ x∈row,∃ y,Adj ls y x:=by
 induction h with
 | stop _=>exact λx hx=>absurd hx List.not_mem_nil
 | go a _ _ ih=>
  intro x hx
  rcases List.mem_cons.mp hx with rfl | hx
  ·exact ⟨_,a⟩
  ·obtain ⟨y,hy⟩:=ih x hx
   exact ⟨y,Zd4 (λr hr=>List.mem_of_mem_erase hr) hy⟩
theorem Za6 (ns:List Int):ZaH ns=(Zak ns false).map λt=>Za8 t.1 t.2:=by
 unfold ZaH Zak
 rw [if_neg Bool.false_ne_true,List.append_nil]
def Zjp (rs:List (Int×Int)) (ks:List Int) (k one other:Int):Prop:=∀ p,0<=p->p<k->if p=one\/p=other then degK rs ks p=1 else degK rs ks p=0\/degK rs ks p=2
theorem ZeG {k:Int} {rs ls:List (Int×Int)} {ns:List Int} {c:Bool} (g:Zah k rs) (hs:∀ r∈ls,r∈rs) (h:ls.Perm ((Zak ns c).map λt=>Za8 t.1 t.2)):∀ t∈Zak ns c,Adj rs t.1 t.2:=λt ht=>
 (Zba (λr hr=>(g.2.2.2.1 r hr).2.1) _ _).mp (hs _ (h.mem_iff.mpr (List.mem_map.mpr ⟨t,ht,rfl⟩)))
theorem Zfk {k:Int} {rs:List (Int×Int)} {ns ks ms:List Int} {c:Bool} (g:Zah k rs) (S:Zbg rs ks) (o:Zdx rs ns c) (hc:c=true->3<=ns.length) (h:(ks.map (road rs)).Perm ((Zak ns c).map λt=>Za8 t.1 t.2)) (pm:ms.Perm ((Zak ns c).map (Zd1 rs))) (so:ms.Pairwise (· <= ·)):ms=ks:=by
 have T:=ZcQ g o hc pm so
 have p1:(ms.map (road rs)).Perm (ks.map (road rs)):=by
  have:=pm.map (road rs)
  rw [Zbo g o.1] at this
  exact this.trans h.symm
 have p2:=ZeF g T.2 S.2 p1
 exact Zhx T.1 S.1 λz=>p2.mem_iff
theorem ZfN (a:Int) (tl:List Int):(a::tl).getD tl.length 0∈a::tl:=ZbT (by rw [List.length_cons];omega)
theorem ZiL {k:Int} {rs rest:List (Int×Int)} {ks tl:List Int} {one other:Int} (g:Zah k rs) (E:Ends k one other) (w:Wk (cho rs ks rs.length) one tl rest) (S:Zbg rs ks) (D:Zjp rs ks k one other) (hl:tl.length=ks.length) :
  Way rs one other (one::tl)/\∀ ms:List Int,ms.Perm ((Zak (one::tl) false).map (Zd1 rs))->ms.Pairwise (· <= ·)->ms=ks:=by
 have hlt:=ZfM g ks
 have hsub:∀ r∈cho rs ks rs.length,r∈rs:=λr hr=>Zfj hr
 have e:=ZbF S
 have ll:=w.len hlt
 rw [e,List.length_map] at ll
 have hr0:rest=[]:=List.length_eq_zero_iff.mp (by omega)
 have pm:=w.perm hlt
 rw [hr0,List.append_nil,Za6] at pm
 have dg:∀ p,degK rs ks p+Zbj one p+Zbj ((one::tl).getD tl.length 0) p=2 * (one::tl).count p:=λp=>by
  rw [Zbn g p S.2,<-e,ZbE pm,<-Za6]
  exact Zbm p tl one
 have rng:∀ x∈one::tl,0<=x/\x<k:=λx hx=>by
  rcases List.mem_cons.mp hx with rfl | hx
  ·exact E.1
  ·obtain ⟨y,hy⟩:=w.met x hx
   exact ZcJ g (Zd4 hsub hy)
 have hL:=ZfN one tl
 generalize hLe:(one::tl).getD tl.length 0=L at dg hL
 have rL:=rng L hL
 have s1:∀ p,Zbj p p=1:=λp=>if_pos rfl
 have s0:∀ p q,p≠q->Zbj p q=0:=λp q h=>if_neg h
 have h1:L≠one:=λz=>by
  have:=dg one
  have d1:=D one E.1.1 E.1.2
  rw [if_pos (.inl rfl)] at d1
  rw [z,s1,d1] at this
  omega
 have h2:L=other:=by
  have:=dg L
  have d1:=D L rL.1 rL.2
  rw [s1,s0 _ _ (Ne.symm h1)] at this
  by_cases z:L=one\/L=other
  ·exact z.elim (λy=>absurd y h1) id
  ·rw [if_neg z] at d1
   omega
 subst h2
 have nd:(one::tl).Nodup:=List.nodup_iff_count.mpr λp=>by
  by_cases hp:p∈one::tl
  ·have r:=rng p hp
   have:=dg p
   have d1:=D p r.1 r.2
   by_cases z:p=one\/p=L
   ·rw [if_pos z] at d1
    rcases z with z | z
    ·rw [z,s1,s0 _ _ h1] at this
     rw [z] at d1 ⊢
     omega
    ·rw [z,s1,s0 _ _ (Ne.symm h1)] at this
     rw [z] at d1 ⊢
     omega
   ·rw [if_neg z] at d1
    rw [s0 _ _ (λy=>z (.inl y.symm)),s0 _ _ (λy=>z (.inr y.symm))] at this
    omega
  ·rw [List.count_eq_zero.mpr hp]
   exact Nat.zero_le _
 have o:Zdx rs (one::tl) false:=⟨ZeG g hsub pm,nd⟩
 refine ⟨⟨List.cons_ne_nil _ _,rfl,?_,o⟩,λms p so=>Zfk g S o (λz=>absurd z Bool.false_ne_true) (e▸pm) p so⟩
 exact hLe
theorem ZiM {k:Int} {rs:List (Int×Int)} {ks tl ms:List Int} {one other:Int} (g:Zah k rs) (E:Ends k one other) (W:Way rs one other (one::tl)) (pm:ms.Perm ((Zak (one::tl) false).map (Zd1 rs))) (so:ms.Pairwise (· <= ·)) (e:ms=ks) :
  Zbg rs ks/\Zjp rs ks k one other/\tl.length=ks.length:=by
 subst e
 have o:=W.2.2.2
 have S:=ZcQ g o (λz=>absurd z Bool.false_ne_true) pm so
 have lo:(one::tl).getD tl.length 0=other:=W.2.2.1
 have hp:(ms.map (road rs)).Perm (ZaH (one::tl)):=by
  have:=pm.map (road rs)
  rw [Zbo g o.1,<-Za6] at this
  exact this
 refine ⟨S,λp p0 p1=>?_,?_⟩
 ·have dg:=Zbm p tl one
  rw [lo,<-ZbE hp,<-Zbn g p S.2,o.2.count] at dg
  have s1:∀ p,Zbj p p=1:=λp=>if_pos rfl
  have s0:∀ p q,p≠q->Zbj p q=0:=λp q h=>if_neg h
  have hne:=E.2.2
  by_cases z:p=one\/p=other
  ·rw [if_pos z]
   rcases z with z | z
   ·rw [z,s1,s0 _ _ (Ne.symm hne),if_pos (List.mem_cons_self ..)] at dg
    rw [z]
    omega
   ·rw [z,s1,s0 _ _ hne,if_pos (by rw [<-lo];exact ZfN one tl)] at dg
    rw [z]
    omega
  ·rw [if_neg z]
   rw [s0 _ _ (λy=>z (.inl y.symm)),s0 _ _ (λy=>z (.inr y.symm))] at dg
   split at dg <;> omega
 ·rw [pm.length_eq,List.length_map,<-ZcG one tl,Za6,List.length_map]
theorem Zd5:∀ (tl:List Int) (a x:Int),(a::(tl++[x])).zip (tl++[x])=(a::tl).zip tl++[((a::tl).getD tl.length 0,x)]
 | [],a,x=>rfl
 | b::tl,a,x=>by
  have ih:=Zd5 tl b x
  show (a,b)::(b::(tl++[x])).zip (tl++[x])=_
  rw [ih]
  rfl
theorem ZbG (s:Int) (tl:List Int):(Zak (s::tl) true).map (λt=>Za8 t.1 t.2)=ZaH (s::(tl++[s])):=by
 unfold ZaH Zak
 rw [if_pos rfl]
 show _=((s::(tl++[s])).zip (tl++[s])).map _
 rw [Zd5]
 rfl
theorem Zda (p s:Int) (tl:List Int):ZiJ p (ZaH (s::(tl++[s])))=2 * (s::tl).count p:=by
 have:=Zbm p (tl++[s]) s
 have e:(s::(tl++[s])).getD (tl++[s]).length 0=s:=by
  rw [List.length_append,List.length_singleton,List.getD_eq_getElem?_getD,List.getElem?_cons_succ,List.getElem?_append_right (Nat.le_refl _),Nat.sub_self]
  rfl
 have c:(s::(tl++[s])).count p=(s::tl).count p+Zbj s p:=by
  rw [show s::(tl++[s])=(s::tl)++[s] from rfl,List.count_append]
  congr 1
  unfold Zbj
  by_cases h:s=p
  ·rw [if_pos h,h,List.count_singleton_self]
  ·rw [if_neg h,List.count_eq_zero_of_not_mem (λz=>h (List.mem_singleton.mp z).symm)]
 rw [e,c] at this
 omega
def Zjq (rs:List (Int×Int)) (ks:List Int) (k:Int):Prop:=∀ p,0<=p->p<k->degK rs ks p=0\/degK rs ks p=2
def Begins (ls:List (Int×Int)) (s:Int):Prop:=(∀ t∈ls,s<=t.1)/\∃ t∈ls,t.1=s
theorem Begins.one {ls:List (Int×Int)} {s t:Int} (a:Begins ls s) (b:Begins ls t):s=t:=by
 obtain ⟨u,hu,e⟩:=a.2
 obtain ⟨v,hv,f⟩:=b.2
 have:=a.1 v hv
 have:=b.1 u hu
 omega
theorem ZiN {k:Int} {rs rest:List (Int×Int)} {ks tl:List Int} {s:Int} (g:Zah k rs) (w:Wk (cho rs ks rs.length) s tl rest) (B:Begins (cho rs ks rs.length) s) (S:Zbg rs ks) (h3:3<=ks.length) (D:Zjq rs ks k) (hl:tl.length=ks.length) :
  ZlT rs (s::tl).dropLast/\∀ ms:List Int,ms.Perm ((Zak (s::tl).dropLast true).map (Zd1 rs))->ms.Pairwise (· <= ·)->ms=ks:=by
 have hlt:=ZfM g ks
 have hsub:∀ r∈cho rs ks rs.length,r∈rs:=λr hr=>Zfj hr
 have e:=ZbF S
 have ll:=w.len hlt
 rw [e,List.length_map] at ll
 have hr0:rest=[]:=List.length_eq_zero_iff.mp (by omega)
 have pm:=w.perm hlt
 rw [hr0,List.append_nil] at pm
 have rS:0<=s/\s<k:=by
  obtain ⟨t,ht,et⟩:=B.2
  have:=g.2.2.2.1 t (hsub t ht)
  omega
 obtain ⟨tl',x,rfl⟩:∃ tl' x,tl=tl'++[x]:=⟨tl.dropLast,tl.getLast (λz=>by rw [z] at hl;simp at hl;omega),(List.dropLast_concat_getLast _).symm⟩
 have ex:x=s:=by
  have:=Zbm s (tl'++[x]) s
  have e2:(s::(tl'++[x])).getD (tl'++[x]).length 0=x:=by
   rw [List.length_append,List.length_singleton,List.getD_eq_getElem?_getD,List.getElem?_cons_succ,List.getElem?_append_right (Nat.le_refl _),Nat.sub_self]
   rfl
  rw [<-ZbE pm,e,<-Zbn g s S.2,e2,show Zbj s s=1 from if_pos rfl] at this
  by_cases z:x=s
  ·exact z
  ·rw [show Zbj x s=0 from if_neg z] at this
   have:=D s rS.1 rS.2
   omega
 subst ex
 have rng:∀ y∈x::tl',(0<=y/\y<k)/\x<=y:=λy hy=>by
  rcases List.mem_cons.mp hy with rfl | hy
  ·exact ⟨rS,Int.le_refl _⟩
  ·obtain ⟨z,hz⟩:=w.met y (List.mem_append_left _ hy)
   refine ⟨ZcJ g (Zd4 hsub hz),?_⟩
   rcases hz with hz | hz
   ·have:=B.1 _ hz
    have:=hlt _ hz
    dsimp only at *
    omega
   ·exact B.1 _ hz
 have nd:(x::tl').Nodup:=List.nodup_iff_count.mpr λp=>by
  by_cases hp:p∈x::tl'
  ·have r:=(rng p hp).1
   have:=Zda p x tl'
   rw [<-ZbE pm,e,<-Zbn g p S.2] at this
   have:=D p r.1 r.2
   omega
  ·rw [List.count_eq_zero.mpr hp]
   exact Nat.zero_le _
 have ed:(x::(tl'++[x])).dropLast=x::tl':=by
  rw [show x::(tl'++[x])=(x::tl')++[x] from rfl,List.dropLast_concat]
 rw [ed]
 rw [List.length_append,List.length_singleton] at hl
 rw [<-ZbG] at pm
 have o:Zdx rs (x::tl') true:=⟨ZeG g hsub pm,nd⟩
 have h3':3<=(x::tl').length:=by rw [List.length_cons];omega
 refine ⟨⟨h3',λy hy=>(rng y hy).2,?_,o⟩,λms p so=>Zfk g S o (λ_=>h3') (e▸pm) p so⟩
 have hcl:Adj (cho rs ks rs.length) x ((x::tl').getD ((x::tl').length-1) 0):=by
  refine Zhy ((Zba hlt _ _).mp (pm.mem_iff.mpr (List.mem_map.mpr ⟨((x::tl').getD ((x::tl').length-1) 0,x),?_,rfl⟩)))
  unfold Zak
  rw [if_pos rfl]
  exact List.mem_append_right _ (List.mem_singleton.mpr rfl)
 cases tl' with
 | nil=>exact absurd h3' (by simp)
 | cons q t2=>
  have w':Wk (cho rs ks rs.length) x (q::(t2++[x])) rest:=w
  cases w' with
  | go a least _=>
   have:=least _ hcl
   have ne:=Zbr nd (i:=1) (j:=(x::q::t2).length-1) (by omega) (by omega) (by omega)
   have e1:(x::q::t2).getD 1 0=q:=rfl
   rw [e1] at ne ⊢
   omega
theorem ZiO {k:Int} {rs:List (Int×Int)} {ks ns ms:List Int} (g:Zah k rs) (R:ZlT rs ns) (pm:ms.Perm ((Zak ns true).map (Zd1 rs))) (so:ms.Pairwise (· <= ·)) (e:ms=ks) :
  Zbg rs ks/\3<=ks.length/\Zjq rs ks k/\ns.length=ks.length:=by
 subst e
 have o:=R.2.2.2
 have S:=ZcQ g o (λ_=>R.1) pm so
 obtain ⟨s,tl,rfl⟩:∃ s tl,ns=s::tl:=by
  cases ns with
  | nil=>exact absurd R.1 (by simp)
  | cons s tl=>exact ⟨s,tl,rfl⟩
 have hp:(ms.map (road rs)).Perm (ZaH (s::(tl++[s]))):=by
  have:=pm.map (road rs)
  rw [Zbo g o.1,ZbG] at this
  exact this
 have hl:(s::tl).length=ms.length:=by
  have:=hp.length_eq
  rw [List.length_map,ZcG,List.length_append,List.length_singleton] at this
  rw [List.length_cons]
  omega
 refine ⟨S,by have:=R.1;omega,λp _ _=>?_,hl⟩
 rw [Zbn g p S.2,ZbE hp,Zda,o.2.count]
 split <;> omega
end M
namespace M
open PySem L2
section
variable {P:Program} {w:World} {K:PySem.W.Frag} {mg:Str->Option Value} {base:Heap}
theorem mem_bes {ls:List (Int×Int)} {p x:Int}:x∈Zdj ls p↔Adj ls p x:=by
 unfold Zdj Adj
 rw [List.mem_map]
 constructor
 ·rintro ⟨r,hr,rfl⟩
  obtain ⟨h1,h2⟩:=List.mem_filter.mp hr
  obtain ⟨a,b⟩:=r
  rcases of_decide_eq_true h2 with e | e
  ·left
   have:a=p:=e
   subst this
   rw [show a+b-a=b by omega]
   exact h1
  ·right
   have:b=p:=e
   subst this
   rw [show a+b-b=a by omega]
   exact h1
 ·rintro (h | h)
  ·exact ⟨_,List.mem_filter.mpr ⟨h,decide_eq_true (.inl rfl)⟩,by dsimp only;omega⟩
  ·exact ⟨_,List.mem_filter.mpr ⟨h,decide_eq_true (.inr rfl)⟩,by dsimp only;omega⟩
end
end M
namespace M
open PySem L2
section
variable {P:Program} {w:World} {K:PySem.W.Frag} {mg:Str->Option Value} {base:Heap}
def Zl0 (rs:List (Int×Int)) (ks:List Int) (k p q:Int) (tl:List Int):Prop:=Zbg rs ks/\Zjp rs ks k p q/\tl.length=ks.length
def Zl1 (rs:List (Int×Int)) (ks:List Int) (k:Int) (tl:List Int):Prop:=Zbg rs ks/\3<=ks.length/\Zjq rs ks k/\tl.length=ks.length
theorem Zl2 (ns:List Int):Zdi (ns.map V.int) none (some (-1))=ns.dropLast.map V.int:=by
 unfold Zdi
 rw [List.length_map,HT.sIx_none,List.drop_zero,Nat.sub_zero,List.dropLast_eq_take,List.map_take]
 congr 1
 unfold HT.sIx
 by_cases h:ns.length=0
 ·rw [h];rfl
 ·simp only [show (-1:Int)<0 by decide,if_true]
  omega
end
end M
namespace M
open PySem L2
theorem nodup_range:∀ {k:Nat} {ns:List Int},ns.Nodup->(∀ x∈ns,0<=x/\x<(k:Int))->ns.length<=k
 | 0,ns,_,h=>by
  cases ns with
  | nil=>exact Nat.le_refl _
  | cons a r=>have:=h a (List.mem_cons_self);omega
 | k+1,ns,nd,h=>by
  by_cases z:((k:Nat):Int)∈ns
  ·have hl:=List.length_erase_of_mem z
   have hp:0<ns.length:=List.length_pos_of_mem z
   have ih:=nodup_range (k:=k) (ns:=ns.erase ((k:Nat):Int)) (nd.erase _) λx hx=>by
    have h1:=(List.Nodup.mem_erase_iff nd).mp hx
    have h2:=h x h1.2
    have h3:=h1.1
    omega
   omega
  ·have ih:=nodup_range (k:=k) nd λx hx=>by
    have h2:=h x hx
    have h3:x≠((k:Nat):Int):=λe=>z (e▸hx)
    omega
   omega
theorem Zky {k:Int} {rs:List (Int×Int)} (g:Zah k rs) {p m:Int}:m∈Zdj rs p↔Adj rs p m:=by
 unfold Zdj Adj
 constructor
 ·intro h
  obtain ⟨r,h1,e⟩:=List.mem_map.mp h
  obtain ⟨h2,h3⟩:=List.mem_filter.mp h1
  have h4:=of_decide_eq_true h3
  obtain ⟨r1,r2⟩:=r
  dsimp only at h4 e
  rcases h4 with h4 | h4
  ·subst h4
   exact .inl (by rw [<-e,show r1+r2-r1=r2 by omega];exact h2)
  ·subst h4
   exact .inr (by rw [<-e,show r1+r2-r2=r1 by omega];exact h2)
 ·rintro (h | h)
  ·exact List.mem_map.mpr ⟨(p,m),List.mem_filter.mpr ⟨h,decide_eq_true (.inl rfl)⟩,by show p+m-p=m;omega⟩
  ·exact List.mem_map.mpr ⟨(m,p),List.mem_filter.mpr ⟨h,decide_eq_true (.inr rfl)⟩,by show m+p-p=m;omega⟩
section
variable {P:Program} {w:World} {K:PySem.W.Frag} {mg:Str->Option Value} {base:Heap}
def LinksAt (H:Hp) (lk:Addr) (k:Int) (rs:List (Int×Int)):Prop:=∃ bl:List Addr,H lk=some (.lst (bl.map V.ref))/\bl.length=k.toNat/\∀ (i:Nat) (a:Addr),bl[i]?=some a->∃ ns:List Int,H a=some (.lst (ns.map V.int))/\ns.Nodup/\∀ m,m∈ns↔Adj rs (i:Int) m
theorem LinksAt.same {H H':Hp} {lk:Addr} {k:Int} {rs:List (Int×Int)} (h:LinksAt H lk k rs) (s:Same H H'):LinksAt H' lk k rs:=by
 obtain ⟨bl,e,l,hb⟩:=h
 exact ⟨bl,s _ _ e,l,λi a ha=>(hb i a ha).elim λns h=>⟨ns,s _ _ h.1,h.2⟩⟩
def kvF (F:List Int):List (Key×V):=F.map λx=>(Sum.inl x,V.bl true)
theorem Zfl (F:List Int) (p:Int):(ZbO (kvF F) (.inl p)).isSome=decide (p∈F):=by
 rw [<-ZbP]
 unfold kvF
 rw [List.any_map]
 by_cases z:p∈F
 ·rw [decide_eq_true z]
  exact List.any_eq_true.mpr ⟨p,z,by simp⟩
 ·rw [decide_eq_false z]
  refine List.any_eq_false.mpr λy hy e=>z ?_
  have e1:(Sum.inl y:Key)=Sum.inl p:=of_decide_eq_true e
  cases e1
  exact hy
theorem Zkz {F:List Int} {p:Int} (h:p ∉ F):ZcN (kvF F) (.inl p) (.bl true)=kvF (F++[p]):=by
 have hn:ZbO (kvF F) (.inl p)=none:=by
  have:=Zfl F p
  rw [decide_eq_false h] at this
  cases z:ZbO (kvF F) (.inl p) with
  | none=>rfl
  | some v=>rw [z] at this;cases this
 rw [Zic _ hn]
 unfold kvF
 rw [List.map_append]
 rfl
def Zl3:Sp:=λvs H Q _=>∃ (lk gl:Addr) (k st:Int) (rs:List (Int×Int)) (gn:List Int),vs=[.ref lk,.int st,.ref gl]/\Zah k rs/\LinksAt H lk k rs/\H gl=some (.lst (gn.map V.int))/\(0<=st/\st<k) /\
 ∀ (d:Addr) (F:List Int) (H':Hp),Same H H'->H d=none->H' d=some (.dK (kvF F))->F.Nodup->F.length<=16->st∈F->(∀ x∈F,x=st\/x ∉ gn)->(∀ x∈F,∀ z,Adj rs x z->z ∉ gn->z∈F)->Q (.ref d) H'
theorem scRea:Zaw ["links", "start", "gone", "found", "pending", "here", "place"] ["links", "start", "gone"] (Zad Zjf):=⟨rfl,rfl,rfl,by decide +kernel,rfl,by decide +kernel,by decide +kernel⟩
structure ReaI (k:Int) (rs:List (Int×Int)) (st:Int) (gn F pd:List Int):Prop where
 nd:F.Nodup
 ir:∀ x∈F,0<=x/\x<k
 ng:∀ x∈F,x=st\/x ∉ gn
 me:st∈F
 sb:∀ x∈pd,x∈F
theorem ReaI.len {k:Int} {rs:List (Int×Int)} {st:Int} {gn F pd:List Int} (h:ReaI k rs st gn F pd):F.length<=k.toNat:=by
 exact nodup_range (k:=k.toNat) h.nd λx hx=>by have:=h.ir x hx;omega
theorem Zl4 {f:Addr} {fd:FuncData} (F:Fun K "reached" "reached" Zjf f fd):ZaN P w K mg base CX0 1 f fd ["links", "start", "gone"] Zl3:=by
 refine F.ok scRea (λvs H Q E h=>?_) (λcdv A outer s H vs Q E hr h=>?_)
 ·obtain ⟨_,_,_,_,_,_,rfl,_⟩:=h
  rfl
 ·obtain ⟨lk,gl,k,st,rs,gn,rfl,g,L,hgl,hst,q⟩:=h
  have hu1:(A.deeper (PyProof.Rows.envOfC "reached" (Zad Zjf) s.heap.objs.size f cdv)).units+1<cLine:=by have:=hr.un;omega
  have h16:(16777216:Nat)=sizeLine:=sizeLine_eq.symm
  have g1:=g.1
  have g2:=g.2.1
  refine ⟨_,Zae (Zau (i:=3) scRea.nd rfl (Or.inl rfl) (Zj3 (Zig (pv 1) Zb7 Zj2) rfl rfl (by decide) (by decide)))
    (Zae (Zau (i:=4) scRea.nd rfl (Or.inl rfl) (ZaF (Zaa (pv 1) Zac)))
    (Zae (ZdD PassesOwn.never (Zfq (pv 4) (λ_=>rfl))
    (Zae (Zau (i:=5) scRea.nd rfl (Or.inl rfl) (Zi4 PySem.F.plainAttrs_list PySem.F.slot_list_pop PySem.F.type_list_pop Zi5 (pv 4)))
    (Zag (Zbi PassesOwn.never rfl (ZbX K (ZaB (Zdf K) (pv 0) (pv 5) (λ_ _=>rfl))) (Zat (i:=6) scRea.nd rfl (Or.inl rfl))
    (Zag (Za1 (PW.pt (Zgw (ZiZ (Zg5 hu1 (pv 6) (pv 3)) rfl) (ZeT (Zax (ZgW K) (pv 6) (pv 2) (by with_unfolding_all rfl))))) (Zae (Ze2 hu1 (pv 3) (pv 6) Zb7 rfl)
    (Zag (ZaX (Zcd PySem.F.plainAttrs_list PySem.F.slot_list_append PySem.F.type_list_append ZaO (pv 4) (Zaa (pv 6) Zac))))) ZaA))))))
    (Zag (Zay (pv 3))))),?_⟩
  refine λd hd=>⟨_,rfl,Zab,[(Sum.inl st,.bl true)],rfl,by show 1<=15;decide,?_⟩
  have s1:Same H (upd (upd H d (.dK [])) d (.dK (ZcI [] [(Sum.inl st,.bl true)]))):=(Same.new hd).put hd
  have e1:upd (upd H d (.dK [])) d (.dK (ZcI [] [(Sum.inl st,.bl true)])) d=some (.dK (kvF [st])):=by rw [Zab];rfl
  generalize upd (upd H d (.dK [])) d (.dK (ZcI [] [(Sum.inl st,.bl true)]))=H1 at s1 e1 ⊢
  refine ⟨_,rfl,(by show 1<=sizeLine;decide),λpn hpn=>?_⟩
  have hdp:d≠pn:=Zai e1 hpn
  have hpn0:=s1.free hpn
  refine ⟨λm σ H2=>∃ (v5 v6:Option V) (F pd:List Int),σ=[some (.ref lk),some (.int st),some (.ref gl),some (.ref d),some (.ref pn),v5,v6]/\Same H H2/\H2 d=some (.dK (kvF F))/\H2 pn=some (.lst (pd.map V.int))/\ReaI k rs st gn F pd/\(∀ y∈F,y ∉ pd->∀ z,Adj rs y z->z ∉ gn->z∈F)/\2 * (k.toNat-F.length)+pd.length<=33/\m=2 * (k.toNat-F.length)+pd.length,⟨_,none,none,[st],[st],rfl,s1.put hpn0,Zal e1 hdp,Zab,⟨List.nodup_cons.mpr ⟨List.not_mem_nil,List.nodup_nil⟩,λx hx=>(by rw [List.mem_singleton] at hx;rw [hx];exact hst),λx hx=>.inl (List.mem_singleton.mp hx),List.mem_singleton.mpr rfl,λx hx=>hx⟩,λy hy hn=>absurd hy hn,(by show 2 * (k.toNat-1)+1<=33;omega),rfl⟩,?_⟩
  rintro m σ H2 ⟨v5,v6,F,pd,rfl,s2,ed,ep,I,cl,m33,rfl⟩
  refine ⟨_,rfl,_,.inl ⟨_,SqL.of ep,rfl⟩,?_⟩
  cases hpd:pd.isEmpty with
  | true=>
   have e:pd=[]:=List.isEmpty_iff.mp hpd
   subst e
   refine Zbw ?_
   exact ⟨_,rfl,q d F H2 s2 hd ed I.nd (by have:=I.len;omega) I.me I.ng λx hx z hz hn=>cl x hx (λz=>by cases z) z hz hn⟩
  | false=>
   have hne:pd≠[]:=λe=>by rw [e] at hpd;cases hpd
   have hpos:0<pd.length:=List.length_pos_iff.mpr hne
   have et:(!(pd.map V.int).isEmpty)=true:=by
    cases pd with
    | nil=>exact absurd rfl hne
    | cons _ _=>rfl
   rw [et]
   refine Zce ?_
   refine ⟨λσ' H'=>∃ m',m'<2 * (k.toNat-F.length)+pd.length/\∃ (v5 v6:Option V) (F pd:List Int),σ'=[some (.ref lk),some (.int st),some (.ref gl),some (.ref d),some (.ref pn),v5,v6]/\Same H H'/\H' d=some (.dK (kvF F))/\H' pn=some (.lst (pd.map V.int))/\ReaI k rs st gn F pd/\(∀ y∈F,y ∉ pd->∀ z,Adj rs y z->z ∉ gn->z∈F)/\2 * (k.toNat-F.length)+pd.length<=33/\m'=2 * (k.toNat-F.length)+pd.length,λσ' H' h=>h,?_⟩
   have hx:(pd.map V.int)[(pd.map V.int).length-1]?=some (.int (pd.getD (pd.length-1) 0)):=by
    rw [List.length_map,List.getElem?_map,List.getElem?_eq_getElem (show pd.length-1<pd.length by omega),ZaC (show pd.length-1<pd.length by omega)]
    rfl
   refine ⟨_,rfl,.inl ⟨rfl,_,SqL.of ep⟩,pn,_,_,rfl,rfl,ep,hx,?_⟩
   have hmem:pd.getD (pd.length-1) 0∈pd:=ZbT (by omega)
   have hin:=I.ir _ (I.sb _ hmem)
   have s3:=s2.put (o:=.lst (pd.map V.int).dropLast) hpn0
   have ed3:upd H2 pn (.lst (pd.map V.int).dropLast) d=some (.dK (kvF F)):=Zal ed hdp
   have ep3:upd H2 pn (.lst (pd.map V.int).dropLast) pn=some (.lst (pd.dropLast.map V.int)):=by rw [Zab,List.map_dropLast]
   generalize upd H2 pn (.lst (pd.map V.int).dropLast)=H3 at s3 ed3 ep3 ⊢
   have split:∀ y∈pd,y∈pd.dropLast\/y=pd.getD (pd.length-1) 0:=λy hy=>by
    have e:=List.dropLast_concat_getLast hne
    rw [<-e] at hy
    rcases List.mem_append.mp hy with h | h
    ·exact .inl h
    ·refine .inr ?_
     rw [List.mem_singleton] at h
     rw [h,List.getLast_eq_getElem,ZaC (show pd.length-1<pd.length by omega)]
   have ldrop:pd.dropLast.length=pd.length-1:=List.length_dropLast ..
   generalize pd.getD (pd.length-1) 0=he at hmem hin split ⊢
   obtain ⟨bl,el,bll,hb⟩:=L
   have hbi:bl[he.toNat]?=some (bl[he.toNat]'(by omega)):=List.getElem?_eq_getElem (by omega)
   generalize bl[he.toNat]'(by omega)=na at hbi
   obtain ⟨nb,enb,ndb,hnb⟩:=hb _ _ hbi
   have hee:((he.toNat:Nat):Int)=he:=by omega
   rw [hee] at hnb
   have hat:atI (bl.map V.ref) he=some (.ref na):=by
    have:=Zam (xs:=bl.map V.ref) (j:=he.toNat) (by rw [List.getElem?_map,hbi];rfl)
    rw [hee] at this
    exact this
   refine ⟨_,rfl,_,rfl,lk,_,_,_,rfl,rfl,SqL.of (s3 _ _ el),hat,na,rfl,⟨_,SqL.of (s3 _ _ enb)⟩,?_⟩
   have heF:=I.sb _ hmem
   refine Zb9 (K:=K) (a:=na) (xs:=nb.map V.int) (λi σ H4=>∃ (v6:Option V) (F' pd':List Int),σ=[some (.ref lk),some (.int st),some (.ref gl),some (.ref d),some (.ref pn),some (.int he),v6]/\Same H H4/\H4 d=some (.dK (kvF F'))/\H4 pn=some (.lst (pd'.map V.int))/\ReaI k rs st gn F' pd'/\he∈F'/\(∀ y∈F',y ∉ pd'->y≠he->∀ z,Adj rs y z->z ∉ gn->z∈F')/\(∀ (j:Nat) (x:Int),j<i->nb[j]?=some x->x ∉ gn->x∈F')/\2 * (k.toNat-F'.length)+pd'.length+1<=2 * (k.toNat-F.length)+pd.length)
    ⟨_,F,pd.dropLast,rfl,s3,ed3,ep3,⟨I.nd,I.ir,I.ng,I.me,λx hx=>I.sb x (List.dropLast_subset _ hx)⟩,heF,λy hy hn hne' z hz hg=>cl y hy (λhp=>(split y hp).elim hn hne') z hz hg,λj x hj=>absurd hj (Nat.not_lt_zero j),by omega⟩ (λi σ H4 _ ⟨_,_,_,_,s4,_⟩=>SqL.of (s4 _ _ enb)) ?_ ?_
   ·rintro i x σ H4 hxi ⟨w6,F',pd',rfl,s4,ed4,ep4,I4,he4,cl4,in4,me4⟩
    rw [List.getElem?_map] at hxi
    cases hz:nb[i]? with
    | none=>rw [hz] at hxi;cases hxi
    | some p=>
     rw [hz] at hxi
     cases hxi
     have hadj:Adj rs he p:=(hnb p).mp (List.mem_of_getElem? hz)
     refine ⟨_,rfl,_,rfl,d,_,rfl,DGet.k (k:=.inl p) ed4,_,rfl,?_⟩
     rw [Zfl]
     have upto:(p ∉ gn->p∈F')->∀ (j:Nat) (x:Int),j<i+1->nb[j]?=some x->x ∉ gn->x∈F':=λhp j x hj hx hg=>by
      rcases Nat.lt_or_ge j i with h | h
      ·exact in4 j x h hx hg
      ·have e:j=i:=by omega
       subst e
       rw [hz] at hx
       cases hx
       exact hp hg
     refine Zde (λzz=>?_) (λzz=>?_)
     ·have hnot:p ∉ F':=λhp=>by rw [decide_eq_true hp] at zz;cases zz
      refine ⟨_,rfl,_,rfl,gl,_,rfl,.inl (SqL.of (s4 _ _ hgl)),rfl,Zht _,_,rfl,?_⟩
      show if (!inV (.int p) (gn.map V.int))=true then _ else _
      rw [ZdZ]
      by_cases hpg:p∈gn
      ·rw [decide_eq_true hpg]
       refine Zbw ?_
       exact ⟨_,F',pd',rfl,s4,ed4,ep4,I4,he4,cl4,upto (λz=>absurd hpg z),me4⟩
      rw [decide_eq_false hpg]
      refine Zce ?_
      have l4:=I4.len
      have I5:ReaI k rs st gn (F'++[p]) (pd'++[p]):=by
       refine ⟨List.nodup_append.mpr ⟨I4.nd,List.nodup_cons.mpr ⟨List.not_mem_nil,List.nodup_nil⟩,λa ha b hb e=>?_⟩,λx hx=>?_,λx hx=>?_,List.mem_append_left _ I4.me,λx hx=>?_⟩
       ·rw [List.mem_singleton] at hb
        exact hnot (hb▸e▸ha)
       ·rcases List.mem_append.mp hx with h | h
        ·exact I4.ir x h
        ·rw [List.mem_singleton] at h
         rw [h]
         exact ZcJ g hadj
       ·rcases List.mem_append.mp hx with h | h
        ·exact I4.ng x h
        ·rw [List.mem_singleton] at h
         rw [h]
         exact .inr hpg
       ·rcases List.mem_append.mp hx with h | h
        ·exact List.mem_append_left _ (I4.sb x h)
        ·exact List.mem_append_right _ h
      have l5:=I5.len
      rw [List.length_append,List.length_singleton] at l5
      have lk4:(kvF F').length=F'.length:=List.length_map ..
      refine ⟨_,rfl,_,rfl,d,_,rfl,DPut.k (k:=.inl p) ed4 (by omega),?_⟩
      rw [Zkz hnot]
      have ep5:upd H4 d (.dK (kvF (F'++[p]))) pn=some (.lst (pd'.map V.int)):=Zal ep4 (Ne.symm hdp)
      have lpd:pd'.length<=1000:=by omega
      refine ⟨_,rfl,.inl ⟨rfl,_,SqL.of ep5⟩,_,rfl,pn,_,_,rfl,rfl,ep5,by rw [List.length_map];omega,?_⟩
      refine ⟨_,F'++[p],pd'++[p],rfl,(s4.put hd).put hpn0,Zal Zab hdp,by rw [Zab,List.map_append];rfl,I5,List.mem_append_left _ he4,λy hy hn hne' z hz' hg=>?_,λj x hj hx hg=>?_,?_⟩
      ·have hyp:y≠p:=λe=>hn (List.mem_append_right _ (List.mem_singleton.mpr e))
       have hyF:y∈F':=(List.mem_append.mp hy).elim id λh=>absurd (List.mem_singleton.mp h) hyp
       exact List.mem_append_left _ (cl4 y hyF (λh=>hn (List.mem_append_left _ h)) hne' z hz' hg)
      ·rcases Nat.lt_or_ge j i with h | h
       ·exact List.mem_append_left _ (in4 j x h hx hg)
       ·have e:j=i:=by omega
        subst e
        rw [hz] at hx
        cases hx
        exact List.mem_append_right _ (List.mem_singleton.mpr rfl)
      ·rw [List.length_append,List.length_append,List.length_singleton]
       omega
     ·have hp:p∈F':=by
       by_cases h:p∈F'
       ·exact h
       ·rw [decide_eq_false h] at zz;exact absurd rfl zz
      refine Zbw ?_
      exact ⟨_,F',pd',rfl,s4,ed4,ep4,I4,he4,cl4,upto (λ_=>hp),me4⟩
   ·rintro σ H4 ⟨w6,F',pd',rfl,s4,ed4,ep4,I4,he4,cl4,in4,me4⟩
    rw [List.length_map] at in4
    refine ⟨_,?_,_,_,F',pd',rfl,s4,ed4,ep4,I4,λy hy hn z hz hg=>?_,by omega,rfl⟩
    ·omega
    ·by_cases e:y=he
     ·subst e
      obtain ⟨j,hj,ej⟩:=List.getElem_of_mem ((hnb z).mpr hz)
      exact in4 j z hj (by rw [List.getElem?_eq_getElem hj,ej]) hg
     ·exact cl4 y hy hn e z hz hg
end
end M
namespace M
open PySem L2
theorem Zgn (p:List Int) (hp:p≠[]) (q:Int):Zak (p++[q]) false=Zak p false++[(p.getD (p.length-1) 0,q)]:=by
 cases p with
 | nil=>exact absurd rfl hp
 | cons a tl=>
  unfold Zak
  rw [if_neg Bool.false_ne_true,if_neg Bool.false_ne_true,List.append_nil,List.append_nil]
  show ((a::(tl++[q])).zip (tl++[q]))=(a::tl).zip tl++[((a::tl).getD (tl.length+1-1) 0,q)]
  rw [Zd5,Nat.add_sub_cancel]
theorem ZeH {rs:List (Int×Int)} {p:List Int} {q:Int} (hp:p≠[]):Zdx rs (p++[q]) false↔Zdx rs p false/\q ∉ p/\Adj rs (p.getD (p.length-1) 0) q:=by
 unfold Zdx
 rw [Zgn p hp,List.nodup_append]
 constructor
 ·rintro ⟨h1,h2,_,h3⟩
  exact ⟨⟨λt ht=>h1 t (List.mem_append_left _ ht),h2⟩,λhq=>h3 q hq q (List.mem_singleton.mpr rfl) rfl,h1 _ (List.mem_append_right _ (List.mem_singleton.mpr rfl))⟩
 ·rintro ⟨⟨h1,h2⟩,h3,h4⟩
  refine ⟨λt ht=>?_,h2,List.nodup_cons.mpr ⟨List.not_mem_nil,List.nodup_nil⟩,λa ha b hb e=>?_⟩
  ·rcases List.mem_append.mp ht with h | h
   ·exact h1 t h
   ·rw [List.mem_singleton.mp h]
    exact h4
  ·rw [List.mem_singleton.mp hb] at e
   exact h3 (e▸ha)
theorem ZeI (p:List Int) (hp:p≠[]):p=p.dropLast++[p.getD (p.length-1) 0]:=by
 have h0:0<p.length:=List.length_pos_iff.mpr hp
 conv=>lhs;rw [<-List.dropLast_concat_getLast hp]
 rw [List.getLast_eq_getElem,ZaC (by omega)]
structure Beg (rs:List (Int×Int)) (k one other:Int) (p:List Int):Prop where
 ne:p≠[]
 hd:p.getD 0 0=one
 on:Zdx rs p false
 ir:∀ x∈p,0<=x/\x<k
 no:other ∉ p.dropLast
theorem Beg.len {rs:List (Int×Int)} {k one other:Int} {p:List Int} (h:Beg rs k one other p):p.length<=k.toNat:=nodup_range (k:=k.toNat) h.on.2 λx hx=>by have:=h.ir x hx;omega
theorem Beg.way {rs:List (Int×Int)} {k one other:Int} {p:List Int} (h:Beg rs k one other p) (e:p.getD (p.length-1) 0=other):Way rs one other p:=⟨h.ne,h.hd,e,h.on⟩
theorem Zhz {p:List Int} (hp:p≠[]) (r:List Int):(p++r).getD 0 0=p.getD 0 0:=by
 cases p with
 | nil=>exact absurd rfl hp
 | cons a p=>rfl
theorem Beg.notin {rs:List (Int×Int)} {k one other:Int} {p:List Int} (h:Beg rs k one other p) (e:p.getD (p.length-1) 0≠other):other ∉ p:=λz=>by
 rw [ZeI p h.ne] at z
 rcases List.mem_append.mp z with z | z
 ·exact h.no z
 ·exact e (List.mem_singleton.mp z).symm
theorem Beg.more {rs:List (Int×Int)} {k one other q:Int} {p:List Int} (h:Beg rs k one other p) (g:Zah k rs) (e:p.getD (p.length-1) 0≠other) (a:Adj rs (p.getD (p.length-1) 0) q) (hq:q=other\/q ∉ p):Beg rs k one other (p++[q]):=by
 have hqp:q ∉ p:=hq.elim (λz=>z▸h.notin e) id
 refine ⟨by simp,by rw [Zhz h.ne];exact h.hd,(ZeH h.ne).mpr ⟨h.on,hqp,a⟩,λx hx=>?_,by rw [List.dropLast_concat];exact h.notin e⟩
 rcases List.mem_append.mp hx with hx | hx
 ·exact h.ir x hx
 ·rw [List.mem_singleton.mp hx]
  exact ZcJ g a
def Inc (a b:List Int):Prop:=¬ a <+: b/\¬ b <+: a
theorem Inc.symm {a b:List Int} (h:Inc a b):Inc b a:=⟨h.2,h.1⟩
theorem ZeJ {p r:List Int} (q:Int) (h:Inc p r):Inc (p++[q]) r:=by
 refine ⟨λz=>h.1 ((List.prefix_append p [q]).trans z),λz=>?_⟩
 rcases List.prefix_concat_iff.mp z with z | z
 ·exact h.1 (z▸List.prefix_append p [q])
 ·exact h.2 z
theorem ZkA (p:List Int) {x y:Int} (h:x≠y):Inc (p++[x]) (p++[y]):=by
 have key:∀ {x y:Int},x≠y->¬ (p++[x]) <+: (p++[y]):=λh z=>by
  have:=z.eq_of_length (by simp)
  have:=List.append_cancel_left this
  simp at this
  exact h this
 exact ⟨key h,key (Ne.symm h)⟩
structure DFS (rs:List (Int×Int)) (k one other:Int) (W P:List (List Int)):Prop where
 pp:∀ p∈P,Beg rs k one other p
 ww:∀ w∈W,Way rs one other w
 cov:∀ w,Way rs one other w->w∈W\/∃ p∈P,p <+: w
 pf:(W++P).Pairwise Inc
theorem ZiP (p:List Int):¬ Inc p p:=λh=>h.1 (List.prefix_refl p)
theorem DFS.nodup {rs:List (Int×Int)} {k one other:Int} {W P:List (List Int)} (h:DFS rs k one other W P):W.Nodup:=List.Pairwise.imp (R:=Inc) (λ{a b} hab (e:a=b)=>ZiP a (by rw [<-e] at hab;exact hab)) (List.pairwise_append.mp h.pf).1
theorem DFS.take {rs:List (Int×Int)} {k one other:Int} {W P:List (List Int)} {p:List Int} (h:DFS rs k one other W (P++[p])) (e:p.getD (p.length-1) 0=other):DFS rs k one other (W++[p]) P:=by
 refine ⟨λq hq=>h.pp q (List.mem_append_left _ hq),λw hw=>?_,λw hw=>?_,?_⟩
 ·rcases List.mem_append.mp hw with hw | hw
  ·exact h.ww w hw
  ·rw [List.mem_singleton.mp hw]
   exact (h.pp p (by simp)).way e
 ·rcases h.cov w hw with z | ⟨q,hq,z⟩
  ·exact .inl (List.mem_append_left _ z)
  ·rcases List.mem_append.mp hq with hq | hq
   ·exact .inr ⟨q,hq,z⟩
   ·rw [List.mem_singleton.mp hq] at z
    refine .inl (List.mem_append_right _ (List.mem_singleton.mpr ?_))
    obtain ⟨r,rfl⟩:=z
    have hp:=h.pp p (by simp)
    cases r with
    | nil=>simp
    | cons x r=>
     exfalso
     have nd:=hw.2.2.2.2
     have hl:=hw.2.2.1
     have m1:other∈p:=by
      rw [ZeI p hp.ne,e]
      simp
     have m2:other∈x::r:=by
      have:(p++x::r).getD ((p++x::r).length-1) 0=(x::r).getD ((x::r).length-1) 0:=by
       rw [List.getD_eq_getElem?_getD,List.getElem?_append_right (by simp),List.getD_eq_getElem?_getD]
       congr 2
       simp
      rw [this] at hl
      rw [<-hl]
      exact ZbT (by simp)
     exact (List.nodup_append.mp nd).2.2 other m1 other m2 rfl
 ·have:(W++[p]++P).Perm (W++(P++[p])):=by
   rw [List.append_assoc]
   exact List.Perm.append_left _ List.perm_append_comm
  exact (this.pairwise_iff λ{a b} h=>h.symm).mpr h.pf
theorem DFS.grow {rs:List (Int×Int)} {k one other:Int} {W P:List (List Int)} {p nb F:List Int} (g:Zah k rs) (h:DFS rs k one other W (P++[p])) (e:p.getD (p.length-1) 0≠other) (nd:nb.Nodup) (hnb:∀ m,m∈nb↔Adj rs (p.getD (p.length-1) 0) m)
  (f1:other∈F) (f2:∀ x∈F,x=other\/x ∉ p) (f3:∀ x∈F,∀ z,Adj rs x z->z ∉ p->z∈F):DFS rs k one other W (P++(nb.filter λx=>decide (x∈F)).map λx=>p++[x]):=by
 have hp:=h.pp p (by simp)
 have pf:=List.pairwise_append.mp h.pf
 have pf2:=List.pairwise_append.mp pf.2.1
 refine ⟨λq hq=>?_,h.ww,λw hw=>?_,?_⟩
 ·rcases List.mem_append.mp hq with hq | hq
  ·exact h.pp q (List.mem_append_left _ hq)
  ·obtain ⟨x,hx,rfl⟩:=List.mem_map.mp hq
   obtain ⟨h1,h2⟩:=List.mem_filter.mp hx
   exact hp.more g e ((hnb x).mp h1) (f2 x (of_decide_eq_true h2))
 ·rcases h.cov w hw with z | ⟨q,hq,z⟩
  ·exact .inl z
  ·rcases List.mem_append.mp hq with hq | hq
   ·exact .inr ⟨q,List.mem_append_left _ hq,z⟩
   ·rw [List.mem_singleton.mp hq] at z
    obtain ⟨r,rfl⟩:=z
    have ow:=hw.2.2.2
    have hl:=hw.2.2.1
    cases r with
    | nil=>
     rw [List.append_nil] at hl
     exact absurd hl e
    | cons x r=>
     have key:∀ (r:List Int) (x:Int) (pre:List Int),Zdx rs (pre++x::r) false->(x::r).getD ((x::r).length-1) 0=other->(∀ y∈x::r,y ∉ p)->x∈F:=by
      intro r
      induction r with
      | nil=>
       intro x pre _ hl _
       have hl:x=other:=hl
       rw [hl]
       exact f1
      | cons y r ih=>
       intro x pre o hl hn
       have iy:=ih y (pre++[x]) (by rw [List.append_assoc];exact o) (by rw [<-hl];rfl) λz hz=>hn z (List.mem_cons_of_mem _ hz)
       refine f3 y iy x ?_ (hn x (List.mem_cons_self ..))
       have:(x,y)∈Zak (pre++x::y::r) false:=by
        unfold Zak
        rw [if_neg Bool.false_ne_true,List.append_nil]
        rw [List.mem_iff_getElem?]
        refine ⟨pre.length,?_⟩
        rw [List.getElem?_zip_eq_some]
        constructor
        ·rw [List.getElem?_append_right (Nat.le_refl _),Nat.sub_self]
         rfl
        ·rw [List.getElem?_drop,List.getElem?_append_right (by omega),show 1+pre.length-pre.length=1 by omega]
         rfl
       exact Zhy (o.1 _ this)
     have hx:x∈F:=key r x p ow (by
      rw [<-hl,List.getD_eq_getElem?_getD,List.getD_eq_getElem?_getD,List.getElem?_append_right (by simp)]
      congr 2
      simp) λy hy hy'=>(List.nodup_append.mp ow.2).2.2 y hy' y hy rfl
     have ha:Adj rs (p.getD (p.length-1) 0) x:=by
      have o2:Zdx rs (p++[x]) false:=by
       have:p++x::r=(p++[x])++r:=by simp
       rw [this] at ow
       refine ⟨λt ht=>ow.1 t ?_,(List.nodup_append.mp ow.2).1⟩
       unfold Zak at ht ⊢
       rw [if_neg Bool.false_ne_true,List.append_nil] at ht ⊢
       obtain ⟨i,hi⟩:=List.mem_iff_getElem?.mp ht
       rw [List.getElem?_zip_eq_some] at hi
       rw [List.mem_iff_getElem?]
       refine ⟨i,List.getElem?_zip_eq_some.mpr ⟨?_,?_⟩⟩
       ·rw [List.getElem?_append_left (List.getElem?_eq_some_iff.mp hi.1).1]
        exact hi.1
       ·have h2:=hi.2
        rw [List.getElem?_drop] at h2 ⊢
        rw [List.getElem?_append_left (List.getElem?_eq_some_iff.mp h2).1]
        exact h2
      exact ((ZeH hp.ne).mp o2).2.2
     refine .inr ⟨p++[x],List.mem_append_right _ (List.mem_map.mpr ⟨x,List.mem_filter.mpr ⟨(hnb x).mpr ha,decide_eq_true hx⟩,rfl⟩),r,by simp⟩
 ·refine List.pairwise_append.mpr ⟨pf.1,List.pairwise_append.mpr ⟨pf2.1,?_,λa ha b hb=>?_⟩,λa ha b hb=>?_⟩
  ·rw [List.pairwise_map]
   exact (nd.sublist List.filter_sublist).imp λh=>ZkA p h
  ·obtain ⟨x,_,rfl⟩:=List.mem_map.mp hb
   exact (ZeJ x (pf2.2.2 a ha p (by simp)).symm).symm
  ·rcases List.mem_append.mp hb with hb | hb
   ·exact pf.2.2 a ha b (List.mem_append_left _ hb)
   ·obtain ⟨x,_,rfl⟩:=List.mem_map.mp hb
    exact (ZeJ x (pf.2.2 a ha p (by simp)).symm).symm
def ZfO (k:Nat) (P:List (List Int)):Nat:=(P.map λp=>(k+2) ^ (k-p.length)).sum
theorem Zd6 (k:Nat) (P R:List (List Int)):ZfO k (P++R)=ZfO k P+ZfO k R:=by unfold ZfO;rw [List.map_append,List.sum_append]
theorem ZfP (k:Nat) (p:List Int):ZfO k [p]=(k+2) ^ (k-p.length):=by simp [ZfO]
theorem ZeK (k:Nat) (p:List Int):∀ (xs:List Int),ZfO k (xs.map λx=>p++[x])=xs.length * (k+2) ^ (k-(p.length+1))
 | []=>by simp [ZfO]
 | x::xs=>by
  have:=ZeK k p xs
  unfold ZfO at this ⊢
  rw [List.map_cons,List.map_cons,List.sum_cons,this,List.length_append,List.length_singleton,List.length_cons,Nat.succ_mul]
  omega
theorem ZhA {k:Int} {rs:List (Int×Int)} {one other:Int} {p nb F:List Int} {P:List (List Int)} (g:Zah k rs) (hp:Beg rs k one other p) (e:p.getD (p.length-1) 0≠other) (nd:nb.Nodup) (hnb:∀ m,m∈nb↔Adj rs (p.getD (p.length-1) 0) m) (f2:∀ x∈F,x=other\/x ∉ p) :
  ZfO k.toNat (P++(nb.filter λx=>decide (x∈F)).map λx=>p++[x])<ZfO k.toNat (P++[p]):=by
 rw [Zd6,Zd6,ZfP,ZeK]
 have hpos:0<(k.toNat+2) ^ (k.toNat-p.length):=Nat.pow_pos (by omega)
 generalize hxs:(nb.filter λx=>decide (x∈F))=xs
 by_cases hx:xs=[]
 ·subst hx
  simp
  exact hpos
 ·obtain ⟨x,hxm⟩:=List.exists_mem_of_ne_nil xs hx
  rw [<-hxs] at hxm
  obtain ⟨h1,h2⟩:=List.mem_filter.mp hxm
  have b:=(hp.more g e ((hnb x).mp h1) (f2 x (of_decide_eq_true h2))).len
  rw [List.length_append,List.length_singleton] at b
  have hl:xs.length<=k.toNat:=by
   rw [<-hxs]
   refine Nat.le_trans (List.length_filter_le _ _) (nodup_range (k:=k.toNat) nd λy hy=>?_)
   have:=ZcJ g ((hnb y).mp hy)
   omega
  have e2:(k.toNat+2) ^ (k.toNat-p.length)=(k.toNat+2) * (k.toNat+2) ^ (k.toNat-(p.length+1)):=by
   rw [show k.toNat-p.length=(k.toNat-(p.length+1))+1 by omega,Nat.pow_succ,Nat.mul_comm]
  rw [e2]
  have q:0<(k.toNat+2) ^ (k.toNat-(p.length+1)):=Nat.pow_pos (by omega)
  have:=Nat.mul_le_mul_right ((k.toNat+2) ^ (k.toNat-(p.length+1))) hl
  have e3:(k.toNat+2) * (k.toNat+2) ^ (k.toNat-(p.length+1))=k.toNat * (k.toNat+2) ^ (k.toNat-(p.length+1))+2 * (k.toNat+2) ^ (k.toNat-(p.length+1)):=Nat.add_mul ..
  omega
end M
namespace M
open PySem L2
theorem Zgo {k:Int} {rs:List (Int×Int)} (g:Zah k rs) (p:Int):(Zdj rs p).Nodup:=by
 unfold Zdj
 have nd:rs.Nodup:=g.2.2.2.2
 refine List.Pairwise.map (R:=λa b:Int×Int=>(a∈rs/\b∈rs)/\(a≠b/\Zbu a p=true/\Zbu b p=true)) _ (λa b h e=>?_) ?_
 ·obtain ⟨⟨ha,hb⟩,hne,h1,h2⟩:=h
  have g1:=g.2.2.2.1 a ha
  have g2:=g.2.2.2.1 b hb
  have h1:=of_decide_eq_true h1
  have h2:=of_decide_eq_true h2
  apply hne
  obtain ⟨a1,a2⟩:=a
  obtain ⟨b1,b2⟩:=b
  dsimp only at *
  have:a1=b1/\a2=b2:=by omega
  rw [this.1,this.2]
 ·refine List.Pairwise.imp_of_mem ?_ (nd.sublist List.filter_sublist)
  intro a b ha hb hab
  obtain ⟨h1,h2⟩:=List.mem_filter.mp ha
  obtain ⟨h3,h4⟩:=List.mem_filter.mp hb
  exact ⟨⟨h1,h3⟩,hab,h2,h4⟩
def Lz (H:Hp) (zs:List (Addr×List Int)):Prop:=∀ z∈zs,H z.1=some (.lst (z.2.map V.int))
theorem Lz.same {H H':Hp} {zs:List (Addr×List Int)} (h:Lz H zs) (s:Same H H'):Lz H' zs:=λz hz=>s _ _ (h z hz)
theorem Lz.put {H:Hp} {zs:List (Addr×List Int)} {a:Addr} {o:HO} (h:Lz H zs) (ha:∀ z∈zs,z.1≠a):Lz (upd H a o) zs:=λz hz=>Zal (h z hz) (ha z hz)
section
variable {P:Program} {w:World} {K:PySem.W.Frag} {mg:Str->Option Value} {base:Heap}
structure Wys (rs:List (Int×Int)) (p q:Int) (W:List (List Int)):Prop where
 ww:∀ w∈W,Way rs p q w
 nd:W.Nodup
 ln:W.length<=301
 al:W.length<=300->∀ w,Way rs p q w->w∈W
def ZkB:Sp:=λvs H Q _=>∃ (wb l:Addr) (k p q:Int) (xs:List V) (rs:List (Int×Int)),vs=[.ref wb,.int p,.int q]/\WebAt H wb l k xs rs/\Zah k rs/\Ends k p q /\
 ∀ (wa:Addr) (zs:List (Addr×List Int)) (H':Hp),Same H H'->H wa=none->H' wa=some (.lst (zs.map λz=>V.ref z.1))->Lz H' zs->(∀ z∈zs,H z.1=none)->Wys rs p q (zs.map (·.2))->Q (.ref wa) H'
theorem scWbt:Zaw ["web", "one", "other", "links", "ways", "pending", "places", "hopeful"] ["web", "one", "other"] (Zad ZiC):=⟨rfl,rfl,rfl,by decide +kernel,rfl,by decide +kernel,by decide +kernel⟩
def WbI (H HL:Hp) (k:Int) (rs:List (Int×Int)) (p q:Int) (wb D wa pn:Addr) (m:Nat) (σ:St) (H2:Hp):Prop:=∃ (v6 v7:Option V) (Wz Pz:List (Addr×List Int)),
 σ=[some (.ref wb),some (.int p),some (.int q),some (.ref D),some (.ref wa),some (.ref pn),v6,v7]/\Same HL H2/\H2 wa=some (.lst (Wz.map λz=>V.ref z.1))/\H2 pn=some (.lst (Pz.map λz=>V.ref z.1))/\Lz H2 Wz/\Lz H2 Pz /\
 (∀ z∈Wz++Pz,z.1≠wa/\z.1≠pn/\HL z.1=none)/\DFS rs k p q (Wz.map (·.2)) (Pz.map (·.2))/\Wz.length<=301/\(∀ (j:Nat) (z:Addr×List Int),Pz[j]?=some z->j<k.toNat * z.2.length)/\m=ZfO k.toNat (Pz.map (·.2))
theorem Zl5 {f fZ fRe C2:Addr} {fd fdZ fdRe:FuncData} {tM:Tok} (F:Fun K "ways_between" "ways_between" ZiC f fd)
  (FZ:Fun K "beside" "beside" Zki fZ fdZ) (bZ:Binds K fdZ ["web", "place"] []) (mZ:mg "beside" = some (.ref fZ)) (GZ:ZaN P w K mg base (CXr P w) 3 fZ fdZ ["web", "place"] (ZlX C2))
  (FRe:Fun K "reached" "reached" Zjf fRe fdRe) (bRe:Binds K fdRe ["links", "start", "gone"] []) (mRe:mg "reached" = some (.ref fRe)) (mMoW:mg "MOST_WAYS" = some (.int 300 tM)) (mRange:mg "range" = none) (mLen:mg "len" = none):ZaN P w K mg base CX0 4 f fd ["web", "one", "other"] ZkB:=by
 have GRe:ZaN P w K mg base CX0 1 fRe fdRe ["links", "start", "gone"] Zl3:=Zl4 FRe
 refine F.ok scWbt (λvs H Q E h=>?_) (λcdv A outer s H vs Q E hr h=>?_)
 ·obtain ⟨_,_,_,_,_,_,_,rfl,_⟩:=h
  rfl
 ·obtain ⟨wb,l,k,p,q',xs,rs,rfl,W,g,en,q⟩:=h
  have h16:(16777216:Nat)=sizeLine:=sizeLine_eq.symm
  have hu1:(A.deeper (PyProof.Rows.envOfC "ways_between" (Zad ZiC) s.heap.objs.size f cdv)).units+1<cLine:=by have:=hr.un;omega
  have hx:xs.length<=30:=by rw [W.p.len];exact g.2.2.1
  have g1:=g.1
  have g2:=g.2.1
  refine ⟨_,Zae (ZgR (i:=3) scWbt.nd rfl (Or.inl rfl) (own:=["place"]) rfl (Zaq (fr:=[("web", 0)]) [(".0", .local),("place", .local),("beside", .globalImplicit),("web", .cell)] rfl rfl (by decide +kernel) rfl (by decide +kernel) ⟨rfl,trivial⟩ ⟨λh=>ZaP h,λh=>ZaP h,λh=>ZaP h,λ_=>⟨_,rfl⟩,trivial⟩ ⟨⟨rfl,.inl rfl,.inl rfl⟩,trivial⟩) (ZaQ rfl mRange (Zaa (ZaB (ZcA K) (pv 0) Zaf (λ_ _=>rfl)) Zac)) (λ_ _ _ _=>Zat (i:=0) (show List.Nodup (["place", "web"]:List Str) by decide +kernel) rfl (Or.inl rfl)) (λ_ _ _ _=>ZbK) (λ_ _ _ _=>Zaj GZ (hr.mono (by decide)) rfl mZ FZ.kp bZ .nil ZjS (Zaa (pv 1) (Zaa (pv 0) Zac))))
    (Zae (Zau (i:=4) scWbt.nd rfl (Or.inl rfl) (ZaF Zac))
    (Zae (Zau (i:=5) scWbt.nd rfl (Or.inl rfl) (ZaF (Zaa (ZaF (Zaa (pv 1) Zac)) Zac)))
    (Zae (ZdD PassesOwn.never (PW.pt (Zgw (Zfq (pv 5) (λ_=>rfl)) (ZeT (Zax Zla (Zar (Zf7 K) rfl mLen PySem.boot_len (Zaa (pv 4) Zac)) (ZeS (v:=.int 300) rfl mMoW ⟨_,rfl⟩) (ZaD _)))))
    (Zae (Zau (i:=6) scWbt.nd rfl (Or.inr rfl) (Zi4 PySem.F.plainAttrs_list PySem.F.slot_list_pop PySem.F.type_list_pop Zi5 (pv 5)))
    (Zag (Za1 (Zax Zdh (ZaB (Zdf K) (pv 6) (Zec ZbA Zaf) (λ_ _=>rfl)) (pv 2) (ZaD _)) (Zag (ZaX (Zcd PySem.F.plainAttrs_list PySem.F.slot_list_append PySem.F.type_list_append ZaO (pv 4) (Zaa (pv 6) Zac)))) (Zae (Zau (i:=7) scWbt.nd rfl (Or.inr rfl) (Zaj GRe (hr.mono (by decide)) rfl mRe FRe.kp bRe .nil ZaG (Zaa (pv 3) (Zaa (pv 2) (Zaa (pv 6) Zac)))))
    (Zag (ZaX (Zcd PySem.F.plainAttrs_list PySem.F.slot_list_extend PySem.F.type_list_extend ZgO (pv 5) (Zaa (Za2 (own:=["place"]) rfl (Zaq (fr:=[("places", 6),("hopeful", 7)]) [(".0", .local),("place", .local),("hopeful", .cell),("places", .cell)] rfl rfl (by decide +kernel) rfl (by decide +kernel) ⟨rfl,rfl,trivial⟩ ⟨λh=>ZaP h,λh=>ZaP h,λ_=>⟨_,rfl⟩,λ_=>⟨_,rfl⟩,trivial⟩ ⟨⟨rfl,.inl rfl,.inl rfl⟩,⟨rfl,.inl rfl,.inl rfl⟩,trivial⟩) (ZbX K (ZaB (Zdf K) (pv 3) (ZaB (Zdf K) (pv 6) (Zec ZbA Zaf) (λ_ _=>rfl)) (λ_ _=>rfl))) (λ_ _ _ _=>Zat (i:=0) (show List.Nodup (["place", "places", "hopeful"]:List Str) by decide +kernel) rfl (Or.inl rfl)) (λ_ _ _ _=>Za9 (ZiZ (Zlv hu1 (pv 0) (pv 2)) rfl)) (λ_ _ _ _=>Zav Zeo (pv 1) (ZaF (Zaa (pv 0) Zac)))) Zac)))))))))
    (Zag (Zay (pv 4)))))),?_⟩
  refine ⟨_,rfl,wb,_,_,_,rfl,rfl,SqT.of W.w,Zam (j:=0) rfl,_,rfl,by omega,by omega,λD hD=>?_⟩
  refine ZbM (lo:=0) (n:=k.toNat) (λi ys H2=>Same H H2/\H2 D=some (.lst ys)/\∃ bl:List Addr,ys=bl.map V.ref/\bl.length=i/\∀ (j:Nat) (a:Addr),bl[j]?=some a->∃ ns:List Int,H2 a=some (.lst (ns.map V.int))/\a≠D/\ns.Nodup/\∀ m,m∈ns↔Adj rs (j:Int) m) ⟨Same.new hD,Zab,[],rfl,rfl,λj a h=>(by cases h)⟩ ?_ ?_
  ·rintro i ys H2 hi ⟨s2,hD2,bl,rfl,hbl,hb⟩
   rw [Int.zero_add]
   refine ⟨⟨rfl,trivial⟩,?_⟩
   unfold ZjN
   refine Zce ?_
   refine ⟨_,rfl,_,rfl,wb,l,k,(i:Int),xs,rs,rfl,W.same s2,by omega,.inl ⟨⟨by omega,by omega⟩,λr ns H3 s3 hr3 er3 pm so=>?_⟩⟩
   have hrD:r≠D:=λz=>by rw [z,hD2] at hr3;cases hr3
   refine ⟨s3 _ _ hD2,by rw [List.length_map];omega,(s2.trans s3).put hD,Zab,bl++[r],by rw [List.map_append];rfl,by rw [List.length_append,List.length_singleton,hbl],λj a ha=>?_⟩
   rcases Nat.lt_or_ge j bl.length with hj | hj
   ·rw [List.getElem?_append_left hj] at ha
    obtain ⟨ms,e1,e2,e3⟩:=hb j a ha
    exact ⟨ms,Zal (s3 _ _ e1) e2,e2,e3⟩
   ·rw [List.getElem?_append_right hj] at ha
    have hj0:j-bl.length=0:=by
     by_cases z:j-bl.length=0
     ·exact z
     ·rw [List.getElem?_eq_none (by rw [List.length_singleton];omega)] at ha;cases ha
    rw [hj0] at ha
    cases ha
    refine ⟨ns,Zal er3 hrD,hrD,pm.nodup_iff.mpr (Zgo g _),λm=>?_⟩
    rw [pm.mem_iff,show (j:Int)=(i:Int) by omega]
    exact Zky g
  rintro ys H2 ⟨s2,hD2,bl,rfl,hbl,hb⟩
  have L:LinksAt H2 D k rs:=⟨bl,hD2,hbl,λi a ha=>(hb i a ha).elim λns h=>⟨ns,h.1,h.2.2⟩⟩
  clear hb hbl
  refine ⟨Nat.zero_le _,λwa hwa=>?_⟩
  have s3:Same H2 (upd H2 wa (.lst [])):=Same.new hwa
  have e3:upd H2 wa (.lst []) wa=some (.lst []):=Zab
  generalize upd H2 wa (.lst [])=H3 at s3 e3 ⊢
  refine ⟨_,rfl,(by show 1<=sizeLine;omega),λp0 hp0=>⟨(by show 1<=sizeLine;omega),λpn hpn=>?_⟩⟩
  have s4:Same H3 (upd H3 p0 (.lst [.int p])):=Same.new hp0
  have e4:upd H3 p0 (.lst [.int p]) p0=some (.lst ([p].map V.int)):=Zab
  generalize upd H3 p0 (.lst [.int p])=H4 at s4 e4 hpn ⊢
  have s5:Same H4 (upd H4 pn (.lst [.ref p0])):=Same.new hpn
  have e5:upd H4 pn (.lst [.ref p0]) pn=some (.lst [.ref p0]):=Zab
  generalize upd H4 pn (.lst [.ref p0])=H5 at s5 e5 ⊢
  have S5:=s3.trans (s4.trans s5)
  have hwa2:H2 wa=none:=hwa
  have hpn2:H2 pn=none:=(s3.trans s4).free hpn
  have hp02:H2 p0=none:=s3.free hp0
  have hwp:wa≠pn:=Zai (s4 _ _ e3) hpn
  have dfs0:DFS rs k p q' [] [[p]]:=by
   refine ⟨λr hr'=>?_,λr hr'=>(by cases hr'),λr hr'=>.inr ⟨[p],by simp,?_⟩,by simp⟩
   ·rw [List.mem_singleton.mp hr']
    exact ⟨by simp,rfl,⟨λt ht=>by simp [Zak] at ht,by simp⟩,λx hx=>by rw [List.mem_singleton.mp hx];exact en.1,by simp⟩
   ·obtain ⟨h1,h2,_⟩:=hr'
    cases r with
    | nil=>exact absurd rfl h1
    | cons a r=>
     have h2:a=p:=h2
     rw [h2]
     exact ⟨r,rfl⟩
  refine ⟨WbI H H2 k rs p q' wb D wa pn,⟨_,none,none,[],[(p0,[p])],rfl,S5,s5 _ _ (s4 _ _ e3),e5,λz hz=>(by cases hz),λz hz=>?_,λz hz=>?_,dfs0,by simp,λj z hj=>?_,rfl⟩,?_⟩
  ·rw [List.mem_singleton.mp hz]
   exact s5 _ _ e4
  ·have hz:z=(p0,[p]):=by simpa using hz
   rw [hz]
   exact ⟨Ne.symm (Zai e3 hp0),Zai e4 hpn,hp02⟩
  ·cases j with
   | zero=>
    simp at hj
    rw [<-hj]
    show 0<k.toNat * 1
    omega
   | succ j=>simp at hj
  rintro m σ H6 ⟨v6,v7,Wz,Pz,rfl,s6,ew,ep,lw,lp,fr,dfs,l301,jn,rfl⟩
  refine ⟨_,rfl,_,.inl ⟨_,SqL.of ep,rfl⟩,?_⟩
  have hwaH:H wa=none:=s2.free hwa2
  have frH:∀ z∈Wz,H z.1=none:=λz hz=>s2.free (fr z (List.mem_append_left _ hz)).2.2
  cases hpd:Pz.isEmpty with
  | true=>
   have e:Pz=[]:=List.isEmpty_iff.mp hpd
   subst e
   refine Zbw ?_
   refine Zbw ?_
   refine ⟨_,rfl,q wa Wz H6 (s2.trans s6) hwaH ew lw frH ⟨dfs.ww,dfs.nodup,by rw [List.length_map];exact l301,λ_ r hr'=>?_⟩⟩
   rcases dfs.cov r hr' with z | ⟨_,z,_⟩
   ·exact z
   ·cases z
  | false=>
   have hne:Pz≠[]:=λe=>by rw [e] at hpd;cases hpd
   have hpos:0<Pz.length:=List.length_pos_iff.mpr hne
   have et:(!(Pz.map λz=>V.ref z.1).isEmpty)=true:=by
    cases Pz with
    | nil=>exact absurd rfl hne
    | cons _ _=>rfl
   rw [et]
   refine Zce ?_
   refine ⟨_,rfl,wa,_,rfl,.inl (SqL.of ew),_,_,rfl,rfl,_,rfl,?_⟩
   rw [List.length_map]
   by_cases h300:(Wz.length:Int)<=300
   rotate_left
   ·rw [decide_eq_false h300]
    refine Zbw ?_
    exact ⟨_,rfl,q wa Wz H6 (s2.trans s6) hwaH ew lw frH ⟨dfs.ww,dfs.nodup,by rw [List.length_map];exact l301,λz=>by rw [List.length_map] at z;omega⟩⟩
   rw [decide_eq_true h300]
   refine Zce ?_
   refine ⟨_,λσ' H' h=>h,?_⟩
   obtain ⟨Pr,z0,rfl⟩:∃ Pr z0,Pz=Pr++[z0]:=⟨Pz.dropLast,Pz.getLast hne,(List.dropLast_concat_getLast hne).symm⟩
   obtain ⟨pa,pl⟩:=z0
   have hxl:((Pr++[(pa,pl)]).map λz=>V.ref z.1)[((Pr++[(pa,pl)]).map λz=>V.ref z.1).length-1]?=some (.ref pa):=by simp
   refine ⟨_,rfl,.inl ⟨rfl,_,SqL.of ep⟩,pn,_,_,rfl,rfl,ep,hxl,?_⟩
   have edl:((Pr++[(pa,pl)]).map λz=>V.ref z.1).dropLast=Pr.map λz=>V.ref z.1:=by rw [List.map_append];exact List.dropLast_concat
   rw [edl]
   dsimp only [Zdg]
   have s7:Same H2 (upd H6 pn (.lst (Pr.map λz=>V.ref z.1))):=s6.put hpn2
   have ew7:upd H6 pn (.lst (Pr.map λz=>V.ref z.1)) wa=some (.lst (Wz.map λz=>V.ref z.1)):=Zal ew hwp
   have ep7:upd H6 pn (.lst (Pr.map λz=>V.ref z.1)) pn=some (.lst (Pr.map λz=>V.ref z.1)):=Zab
   have lw7:Lz (upd H6 pn (.lst (Pr.map λz=>V.ref z.1))) Wz:=lw.put λz hz=>(fr z (List.mem_append_left _ hz)).2.1
   have lp7:Lz (upd H6 pn (.lst (Pr.map λz=>V.ref z.1))) (Pr++[(pa,pl)]):=lp.put λz hz=>(fr z (List.mem_append_right _ hz)).2.1
   generalize upd H6 pn (.lst (Pr.map λz=>V.ref z.1))=H7 at s7 ew7 ep7 lw7 lp7 ⊢
   have epa:H7 pa=some (.lst (pl.map V.int)):=lp7 (pa,pl) (by simp)
   have lpr:Lz H7 Pr:=λz hz=>lp7 z (List.mem_append_left _ hz)
   have fpa:=fr (pa,pl) (by simp)
   have emap:(Pr++[(pa,pl)]).map (·.2)=Pr.map (·.2)++[pl]:=by simp
   rw [emap] at dfs
   have hB:Beg rs k p q' pl:=dfs.pp pl (by simp)
   have hlk:pl.length<=16:=by have:=hB.len;omega
   have jt:Pr.length<k.toNat * pl.length:=jn Pr.length (pa,pl) (by simp)
   have h256:Pr.length<=256:=by
    have h1:k.toNat * pl.length<=16 * 16:=Nat.mul_le_mul (by omega) hlk
    omega
   refine ⟨_,rfl,_,rfl,pa,_,_,_,rfl,rfl,SqL.of epa,Zd0 hB.ne,_,rfl,rfl,_,rfl,?_⟩
   refine Zde (λhe=>?_) (λhe=>?_)
   ·have he:pl.getD (pl.length-1) 0=q':=by
     have:=of_decide_eq_true he
     injection this
    refine ⟨_,rfl,.inl ⟨rfl,_,SqL.of ew7⟩,_,rfl,wa,_,_,rfl,rfl,ew7,by rw [List.length_map];omega,?_⟩
    refine ⟨ZfO k.toNat (Pr.map (·.2)),?_,_,_,Wz++[(pa,pl)],Pr,rfl,s7.put hwa2,?_,Zal ep7 (Ne.symm hwp),?_,lpr.put λz hz=>(fr z (by simp [hz])).1,λz hz=>?_,?_,?_,λj z hj=>?_,rfl⟩
    ·rw [emap,Zd6,ZfP]
     have:0<(k.toNat+2) ^ (k.toNat-pl.length):=Nat.pow_pos (by omega)
     omega
    ·rw [Zab,List.map_append]
     rfl
    ·refine Lz.put (λz hz=>?_) λz hz=>?_
     ·rcases List.mem_append.mp hz with hz | hz
      ·exact lw7 z hz
      ·rw [List.mem_singleton.mp hz]
       exact epa
     ·rcases List.mem_append.mp hz with hz | hz
      ·exact (fr z (List.mem_append_left _ hz)).1
      ·rw [List.mem_singleton.mp hz]
       exact fpa.1
    ·refine fr z ?_
     simp at hz ⊢
     rcases hz with hz | hz | hz
     ·exact .inl hz
     ·exact .inr (.inr hz)
     ·exact .inr (.inl hz)
    ·rw [List.map_append]
     exact dfs.take he
    ·rw [List.length_append,List.length_singleton]
     omega
    ·refine jn j z ?_
     rw [List.getElem?_append_left (List.getElem?_eq_some_iff.mp hj).1]
     exact hj
   ·have he:pl.getD (pl.length-1) 0≠q':=λz=>he (decide_eq_true (by rw [z]))
    refine ⟨_,rfl,_,rfl,_,rfl,D,pa,k,q',rs,pl,rfl,g,L.same s7,epa,en.2.1,λd Fd H8 s8 hd ed nd8 fl8 me8 ng8 cl8=>?_⟩
    dsimp only [Zdg]
    have s27:=s7.trans s8
    have ep8:=s8 _ _ ep7
    have epa8:=s8 _ _ epa
    have ew8:=s8 _ _ ew7
    obtain ⟨bl,el,bll,hb⟩:=L.same s27
    have hin:=hB.ir _ (show pl.getD (pl.length-1) 0∈pl from ZbT (by have:=List.length_pos_iff.mpr hB.ne;omega))
    generalize hla:pl.getD (pl.length-1) 0=la at he hin
    have hbi:bl[la.toNat]?=some (bl[la.toNat]'(by omega)):=List.getElem?_eq_getElem (by omega)
    generalize bl[la.toNat]'(by omega)=na at hbi
    obtain ⟨nb,enb,ndb,hnb⟩:=hb _ _ hbi
    have hee:((la.toNat:Nat):Int)=la:=by omega
    rw [hee] at hnb
    have hat:atI (bl.map V.ref) la=some (.ref na):=by
     have:=Zam (xs:=bl.map V.ref) (j:=la.toNat) (by rw [List.getElem?_map,hbi];rfl)
     rw [hee] at this
     exact this
    have hatl:atI (pl.map V.int) (-1)=some (.int la):=by rw [<-hla];exact Zd0 hB.ne
    refine ⟨_,rfl,.inl ⟨rfl,_,SqL.of ep8⟩,_,rfl,_,rfl,_,rfl,pa,_,_,_,rfl,rfl,SqL.of epa8,hatl,D,_,_,_,rfl,rfl,SqL.of el,hat,na,rfl,⟨_,SqL.of enb⟩,λDc hDc=>?_⟩
    have lnb:nb.length<=16:=by
     have:=nodup_range (k:=k.toNat) ndb λy hy=>by have:=ZcJ g ((hnb y).mp hy);omega
     omega
    refine ZaR (K:=K) (a:=na) (xs:=nb.map V.int) (λj ys H9=>Same H8 H9/\H9 Dc=some (.lst ys)/\∃ cz:List (Addr×List Int),ys=cz.map (λz=>V.ref z.1)/\Lz H9 cz/\(∀ z∈cz,z.1≠Dc/\H8 z.1=none)/\cz.map (·.2)=((nb.take j).filter λx=>decide (x∈Fd)).map λx=>pl++[x]) ⟨Same.new hDc,Zab,[],rfl,λz hz=>(by cases hz),λz hz=>(by cases hz),rfl⟩ (λj ys H9 _ ⟨s9,_⟩=>SqL.of (s9 _ _ enb)) ?_ ?_
    ·rintro j x ys H9 hxj ⟨s9,eD9,cz,rfl,l9,f9,m9⟩
     rw [List.getElem?_map] at hxj
     cases hz:nb[j]? with
     | none=>rw [hz] at hxj;cases hxj
     | some x'=>
      rw [hz] at hxj
      cases hxj
      have hstep:nb.take (j+1)=nb.take j++[x']:=by rw [List.take_add_one,hz];rfl
      have lcz:cz.length<=16:=by
       have h1:cz.length=(cz.map (·.2)).length:=by rw [List.length_map]
       rw [h1,m9,List.length_map]
       have:=List.length_filter_le (λx=>decide (x∈Fd)) (nb.take j)
       rw [List.length_take] at this
       omega
      refine ⟨⟨rfl,rfl,trivial⟩,?_⟩
      refine ⟨_,rfl,_,rfl,d,_,rfl,DGet.k (k:=.inl x') (s9 _ _ ed),_,rfl,?_⟩
      rw [Zfl]
      refine Zde (λhz2=>?_) (λhz2=>?_)
      ·have hxF:x'∈Fd:=of_decide_eq_true hz2
       refine ⟨_,rfl,_,rfl,(by show 1<=sizeLine;omega),λe1 he1=>?_⟩
       have s10:Same H9 (upd H9 e1 (.lst [.int x'])):=Same.new he1
       have e10:upd H9 e1 (.lst [.int x']) e1=some (.lst [.int x']):=Zab
       generalize upd H9 e1 (.lst [.int x'])=H10 at s10 e10 ⊢
       refine ⟨pa,e1,_,_,rfl,rfl,s10 _ _ (s9 _ _ epa8),e10,by rw [List.length_map,List.length_singleton];omega,λnp hnp=>?_⟩
       have s11:Same H10 (upd H10 np (.lst (pl.map V.int++[.int x']))):=Same.new hnp
       have e11:upd H10 np (.lst (pl.map V.int++[.int x'])) np=some (.lst ((pl++[x']).map V.int)):=by rw [Zab,List.map_append];rfl
       have hDn:Dc≠np:=Zai (s10 _ _ eD9) hnp
       have hn8:H8 np=none:=(s9.trans s10).free hnp
       generalize upd H10 np (.lst (pl.map V.int++[.int x']))=H11 at s11 e11 ⊢
       have S11:=s10.trans s11
       refine ⟨S11 _ _ eD9,by rw [List.length_map];omega,(s9.trans S11).put hDc,Zab,cz++[(np,pl++[x'])],by rw [List.map_append];rfl,λz hz=>?_,λz hz=>?_,?_⟩
       ·rcases List.mem_append.mp hz with hz | hz
        ·exact Zal (S11 _ _ (l9 z hz)) (f9 z hz).1
        ·rw [List.mem_singleton.mp hz]
         exact Zal e11 (Ne.symm hDn)
       ·rcases List.mem_append.mp hz with hz | hz
        ·exact f9 z hz
        ·rw [List.mem_singleton.mp hz]
         exact ⟨Ne.symm hDn,hn8⟩
       ·rw [List.map_append,m9,hstep,List.filter_append,List.map_append,List.filter_cons,if_pos hz2]
        rfl
      ·refine ⟨s9,eD9,cz,rfl,l9,f9,?_⟩
       rw [m9,hstep,List.filter_append,List.map_append,List.filter_cons,if_neg hz2]
       simp
    ·rintro ys H9 ⟨s9,eD9,cz,rfl,l9,f9,m9⟩
     rw [List.length_map,List.take_length] at m9
     have ep9:=s9 _ _ ep8
     have ew9:=s9 _ _ ew8
     have lcz:cz.length<=k.toNat:=by
      have h1:cz.length=(cz.map (·.2)).length:=by rw [List.length_map]
      rw [h1,m9,List.length_map]
      refine Nat.le_trans (List.length_filter_le _ _) (nodup_range (k:=k.toNat) ndb λy hy=>?_)
      have:=ZcJ g ((hnb y).mp hy)
      omega
     refine ⟨pn,Dc,_,_,rfl,rfl,ep9,eD9,by rw [List.length_map,List.length_map];omega,?_⟩
     have s29:=s27.trans s9
     have hczpn:∀ z∈cz,z.1≠pn:=λz hz e=>by
      have:=(f9 z hz).2
      rw [e,ep8] at this
      cases this
     have hczwa:∀ z∈cz,z.1≠wa:=λz hz e=>by
      have:=(f9 z hz).2
      rw [e,ew8] at this
      cases this
     rw [<-hla] at he hnb
     refine ⟨ZfO k.toNat ((Pr++cz).map (·.2)),?_,_,_,Wz,Pr++cz,rfl,s29.put hpn2,Zal ew9 hwp,?_,(lw7.same (s8.trans s9)).put λz hz=>(fr z (List.mem_append_left _ hz)).2.1,?_,λz hz=>?_,?_,l301,λj z hj=>?_,rfl⟩
     ·rw [List.map_append,m9,emap]
      exact ZhA g hB he ndb hnb ng8
     ·rw [Zab,List.map_append]
     ·refine Lz.put (λz hz=>?_) λz hz=>?_
      ·rcases List.mem_append.mp hz with hz | hz
       ·exact s9 _ _ (s8 _ _ (lpr z hz))
       ·exact l9 z hz
      ·rcases List.mem_append.mp hz with hz | hz
       ·exact (fr z (by simp [hz])).2.1
       ·exact hczpn z hz
     ·simp only [List.mem_append] at hz
      rcases hz with hz | hz | hz
      ·exact fr z (by simp [hz])
      ·exact fr z (by simp [hz])
      ·exact ⟨hczwa z hz,hczpn z hz,s27.free (f9 z hz).2⟩
     ·rw [List.map_append,m9]
      exact dfs.grow g he ndb hnb me8 ng8 cl8
     ·rcases Nat.lt_or_ge j Pr.length with h | h
      ·rw [List.getElem?_append_left h] at hj
       refine jn j z ?_
       rw [List.getElem?_append_left h]
       exact hj
      ·rw [List.getElem?_append_right h] at hj
       have hjl:=(List.getElem?_eq_some_iff.mp hj).1
       have hz2:z.2∈cz.map (·.2):=List.mem_map.mpr ⟨z,List.mem_of_getElem? hj,rfl⟩
       rw [m9] at hz2
       obtain ⟨x,_,ex⟩:=List.mem_map.mp hz2
       rw [<-ex,List.length_append,List.length_singleton,Nat.mul_add,Nat.mul_one]
       omega
end
end M
namespace M
open PySem L2
def Zbf (rs:List (Int×Int)) (c:Bool) (ns:List Int):List Int:=((Zak ns c).map (Zd1 rs)).mergeSort λa b=>decide (a<=b)
theorem Za7 (rs:List (Int×Int)) (c:Bool) (ns:List Int):(Zbf rs c ns).Perm ((Zak ns c).map (Zd1 rs)):=List.mergeSort_perm _ _
theorem Zbs (rs:List (Int×Int)) (c:Bool) (ns:List Int):(Zbf rs c ns).Pairwise (· <= ·):=by
 refine (List.pairwise_mergeSort (le:=λa b:Int=>decide (a<=b)) (λa b c h1 h2=>?_) (λa b=>?_) _).imp λh=>of_decide_eq_true h
 ·have h1:=of_decide_eq_true h1
  have h2:=of_decide_eq_true h2
  exact decide_eq_true (by omega)
 ·by_cases h:a<=b
  ·simp [h]
  ·have:b<=a:=by omega
   simp [this]
theorem ZhB {rs:List (Int×Int)} {c:Bool} {ns ms:List Int} (pm:ms.Perm ((Zak ns c).map (Zd1 rs))) (so:ms.Pairwise (· <= ·)):ms=Zbf rs c ns:=
 PySem.W.ksm_same (pm.trans (Za7 rs c ns).symm) so (Zbs rs c ns)
theorem Way.ir {k:Int} {rs:List (Int×Int)} {p q:Int} {ns:List Int} (g:Zah k rs) (hp:0<=p/\p<k) (h:Way rs p q ns):∀ x∈ns,0<=x/\x<k:=by
 obtain ⟨h1,h2,h3,h4⟩:=h
 intro x hx
 cases ns with
 | nil=>cases hx
 | cons a tl=>
  have h2:a=p:=h2
  subst h2
  rcases List.mem_cons.mp hx with rfl | hx
  ·exact hp
  ·obtain ⟨j,hj⟩:=List.mem_iff_getElem?.mp hx
   have hlt:=(List.getElem?_eq_some_iff.mp hj).1
   have:((a::tl)[j]'(by rw [List.length_cons];omega),x)∈Zak (a::tl) false:=by
    unfold Zak
    rw [if_neg Bool.false_ne_true,List.append_nil]
    refine List.mem_iff_getElem?.mpr ⟨j,List.getElem?_zip_eq_some.mpr ⟨List.getElem?_eq_getElem _,?_⟩⟩
    show tl[j]?=some x
    exact hj
   exact ZcJ g (h4.1 _ this)
theorem Way.len {k:Int} {rs:List (Int×Int)} {p q:Int} {ns:List Int} (g:Zah k rs) (hp:0<=p/\p<k) (h:Way rs p q ns):ns.length<=16:=by
 have:=nodup_range (k:=k.toNat) h.2.2.2.2 λx hx=>by have:=h.ir g hp x hx;omega
 have:=g.2.1
 omega
section
variable {P:Program} {w:World} {K:PySem.W.Frag} {mg:Str->Option Value} {base:Heap}
def Srt (l:List (List Int)):Prop:=l.Pairwise λa b=>Zcp b a=false
def ZkC (TM:Addr):Sp:=λvs H Q E=>∃ (sl:Addr) (zs:List (Addr×List Int)),vs=[.ref sl]/\H sl=some (.lst (zs.map λz=>V.ref z.1))/\Lz H zs /\
 (300<zs.length->E (.ref TM) none H)/\(zs.length<=300->∀ (l:Addr) (zs':List (Addr×List Int)),H l=none->zs'.Perm zs->Srt (zs'.map (·.2))->Q (.ref l) (upd H l (.lst (zs'.map λz=>V.ref z.1))))
theorem Znr:Zaw ["sets"] ["sets"] (Zad Zjg):=⟨rfl,rfl,rfl,by decide +kernel,rfl,by decide +kernel,by decide +kernel⟩
theorem Zl6 {f TM:Addr} {fd:FuncData} {tM:Tok} (F:Fun K "told_sets" "told_sets" Zjg f fd) (mMoW:mg "MOST_WAYS" = some (.int 300 tM)) (mTM:mg "TooMany" = some (.ref TM)) (xTM:ExcC K TM) (mLen:mg "len" = none) (mSor:mg "sorted" = none) :
  ZaN P w K mg base (CXr P w) 1 f fd ["sets"] (ZkC TM):=by
 refine F.okR Znr (λvs H Q E h=>?_) (λcdv A outer s H vs Q E hr h=>?_)
 ·obtain ⟨_,_,rfl,_⟩:=h
  rfl
 ·obtain ⟨sl,zs,rfl,hs,lz,h1,h2⟩:=h
  have hu:=hr.units
  refine ⟨_,Zae (Za1 (Zax Zlb (Zar (Zf7 K) rfl mLen PySem.boot_len (Zaa (pv 0) Zac)) (ZeS (v:=.int 300) rfl mMoW ⟨_,rfl⟩) (ZaD _)) (Zag (ZdG (E:=E) rfl Zbx rfl mTM xTM (Zaa Zgv Zac))) ZaA)
    (Zag (Zay (Zar (Zfe K hu) rfl mSor PyProof.Rows.boot_sorted (Zaa (pv 0) Zac)))),?_⟩
  refine ⟨_,rfl,sl,_,rfl,.inl (SqL.of hs),_,_,rfl,rfl,_,rfl,?_⟩
  rw [List.length_map]
  by_cases h:300<zs.length
  ·have:decide ((zs.length:Int) > 300)=true:=decide_eq_true (by omega)
   rw [this]
   refine Zce ?_
   exact ⟨by show 1<=sizeLine;rw [sizeLine_eq];omega,h1 h⟩
  ·have:decide ((zs.length:Int) > 300)=false:=decide_eq_false (by omega)
   rw [this]
   refine Zbw ?_
   exact ⟨_,rfl,sl,zs,rfl,SqL.of hs,λz hz=>SqL.of (lz z hz),λl zs' hl p so=>h2 (by omega) l zs' hl p so⟩
end
end M
namespace M
open PySem L2
section
variable {P:Program} {w:World} {K:PySem.W.Frag} {mg:Str->Option Value} {base:Heap}
def ZkD (C TM:Addr):Sp:=λvs H Q E=>∃ (wb l:Addr) (k p q:Int) (xs:List V) (rs:List (Int×Int)),vs=[.ref wb,.int p,.int q]/\WebAt H wb l k xs rs/\Zah k rs /\
 ((¬ Ends k p q/\E (.ref C) none H)\/(Ends k p q/\∀ W,Wys rs p q W->(300<W.length->∀ H':Hp,Same H H'->E (.ref TM) none H') /\
  (W.length<=300->∀ (l:Addr) (zs:List (Addr×List Int)) (H':Hp),Same H H'->H l=none->H' l=some (.lst (zs.map λz=>V.ref z.1))->Lz H' zs->(∀ z∈zs,H z.1=none/\z.1≠l)->(zs.map (·.2)).Perm (W.map (Zbf rs false))->Srt (zs.map (·.2))->Q (.ref l) H')))
theorem Zns:Zaw ["web", "one", "other"] ["web", "one", "other"] (Zad Zjh):=⟨rfl,rfl,rfl,by decide +kernel,rfl,by decide +kernel,by decide +kernel⟩
theorem Zl7 {f fH fWb fTs fR C TM:Addr} {dV:Value} {fd fdH fdWb fdTs fdR:FuncData} (F:Fun K "every_way" "every_way" Zjh f fd) (FH:Fun K "check_ends" "check_ends" Zkj fH fdH) (bH:Binds K fdH ["web", "one", "other"] []) (mH:mg "check_ends" = some (.ref fH)) (GH:ZaN P w K mg base (CXr P w) 2 fH fdH ["web", "one", "other"] (ZlR C))
  (FWb:Fun K "ways_between" "ways_between" ZiC fWb fdWb) (bWb:Binds K fdWb ["web", "one", "other"] []) (mWb:mg "ways_between" = some (.ref fWb)) (GWb:ZaN P w K mg base CX0 4 fWb fdWb ["web", "one", "other"] ZkB)
  (FTs:Fun K "told_sets" "told_sets" Zjg fTs fdTs) (bTs:Binds K fdTs ["sets"] []) (mTs:mg "told_sets" = some (.ref fTs)) (GTs:ZaN P w K mg base (CXr P w) 1 fTs fdTs ["sets"] (ZkC TM))
  (FR:FunD K "roads_of" "roads_of" Zff dV fR fdR) (bR2:Binds K fdR ["web", "places", "closed"] [.bool false]) (mR:mg "roads_of" = some (.ref fR)) (GR:ZaN P w K mg base CX0 2 fR fdR ["web", "places", "closed"] Zkw) :
  ZaN P w K mg base (CXr P w) 5 f fd ["web", "one", "other"] (ZkD C TM):=by
 refine F.okR Zns (λvs H Q E h=>?_) (λcdv A outer s H vs Q E hr h=>?_)
 ·obtain ⟨_,_,_,_,_,_,_,rfl,_⟩:=h
  rfl
 ·obtain ⟨wb,l,k,p,q',xs,rs,rfl,W,g,h⟩:=h
  have h16:(16777216:Nat)=sizeLine:=sizeLine_eq.symm
  refine ⟨_,Zae (ZaX (Zaj GH (hr.mono (by decide)) rfl mH FH.kp bH .nil Zia (Zaa (pv 0) (Zaa (pv 1) (Zaa (pv 2) Zac)))))
    (Zag (Zay (Zaj GTs (hr.mono (by decide)) rfl mTs FTs.kp bTs .nil Zia (Zaa (Za2 (own:=["places"]) rfl (Zaq (fr:=[("web", 0)]) [(".0", .local),("places", .local),("roads_of", .globalImplicit),("web", .cell)] rfl rfl (by decide +kernel) rfl (by decide +kernel) ⟨rfl,trivial⟩ ⟨λh=>ZaP h,λh=>ZaP h,λh=>ZaP h,λ_=>⟨_,rfl⟩,trivial⟩ ⟨⟨rfl,.inl rfl,.inl rfl⟩,trivial⟩) (ZbX K (Zaj GWb (hr.mono (by decide)) rfl mWb FWb.kp bWb .nil ZaG (Zaa (pv 0) (Zaa (pv 1) (Zaa (pv 2) Zac))))) (λ_ _ _ _=>Zat (i:=0) (show List.Nodup (["places", "web"]:List Str) by decide +kernel) rfl (Or.inl rfl)) (λ_ _ _ _=>ZbK) (λ_ _ _ _=>Zaj (dvs:=[V.bl false]) GR (hr.mono (by decide)) rfl mR FR.kp bR2 (.cons rfl .nil) ZaG (Zaa (pv 1) (Zaa (pv 0) Zac)))) Zac)))),?_⟩
  rcases h with ⟨en,e⟩ | ⟨en,h⟩
  ·exact ⟨_,rfl,_,rfl,_,rfl,wb,l,k,p,q',rfl,W.w,.inr ⟨en,e⟩⟩
  refine ⟨_,rfl,_,rfl,_,rfl,wb,l,k,p,q',rfl,W.w,.inl ⟨en,?_⟩⟩
  refine ⟨_,rfl,_,rfl,_,rfl,wb,l,k,p,q',xs,rs,rfl,W,g,en,λwa zs H1 s1 hwa ewa lz fz wy=>?_⟩
  have lzs:zs.length<=301:=by have:=wy.ln;rw [List.length_map] at this;exact this
  refine ⟨wa,rfl,⟨_,SqL.of ewa⟩,λD hD=>?_⟩
  refine ZaR (K:=K) (a:=wa) (xs:=zs.map λz=>V.ref z.1) (λj ys H2=>Same H1 H2/\H2 D=some (.lst ys)/\∃ cz:List (Addr×List Int),ys=cz.map (λz=>V.ref z.1)/\Lz H2 cz/\(∀ z∈cz,z.1≠D/\H1 z.1=none)/\cz.map (·.2)=((zs.take j).map (·.2)).map (Zbf rs false)) ⟨Same.new hD,Zab,[],rfl,λz hz=>(by cases hz),λz hz=>(by cases hz),rfl⟩ (λj ys H2 _ ⟨s2,_⟩=>SqL.of (s2 _ _ ewa)) ?_ ?_
  ·rintro j x ys H2 hxj ⟨s2,eD2,cz,rfl,l2,f2,m2⟩
   rw [List.getElem?_map] at hxj
   cases hz:zs[j]? with
   | none=>rw [hz] at hxj;cases hxj
   | some z=>
    rw [hz] at hxj
    cases hxj
    have hzm:z∈zs:=List.mem_of_getElem? hz
    have hw:Way rs p q' z.2:=wy.ww z.2 (List.mem_map.mpr ⟨z,hzm,rfl⟩)
    have hstep:zs.take (j+1)=zs.take j++[z]:=by rw [List.take_add_one,hz];rfl
    have lcz:cz.length<=301:=by
     have h1:cz.length=(cz.map (·.2)).length:=by rw [List.length_map]
     rw [h1,m2,List.length_map,List.length_map,List.length_take]
     omega
    refine ⟨⟨rfl,trivial⟩,?_⟩
    unfold ZjN
    refine Zce ?_
    refine ⟨_,rfl,_,rfl,wb,l,z.1,k,xs,rs,z.2,false,rfl,W.same (s1.trans s2),g,s2 _ _ (lz z hzm),by have:=hw.len g en.1;omega,λz=>absurd z Bool.false_ne_true,hw.2.2.2.1,λre ms H3 s3 hre ere pm so=>?_⟩
    have hDr:D≠re:=λe=>by rw [<-e,eD2] at hre;cases hre
    refine ⟨s3 _ _ eD2,by rw [List.length_map];omega,(s2.trans s3).put hD,Zab,cz++[(re,ms)],by rw [List.map_append];rfl,λy hy=>?_,λy hy=>?_,?_⟩
    ·rcases List.mem_append.mp hy with hy | hy
     ·exact Zal (s3 _ _ (l2 y hy)) (f2 y hy).1
     ·rw [List.mem_singleton.mp hy]
      exact Zal ere (Ne.symm hDr)
    ·rcases List.mem_append.mp hy with hy | hy
     ·exact f2 y hy
     ·rw [List.mem_singleton.mp hy]
      exact ⟨Ne.symm hDr,s2.free hre⟩
    ·rw [List.map_append,m2,hstep,List.map_append,List.map_append,ZhB pm so]
     rfl
  ·rintro ys H2 ⟨s2,eD2,cz,rfl,l2,f2,m2⟩
   rw [List.length_map,List.take_length] at m2
   obtain ⟨hm,hl⟩:=h (zs.map (·.2)) wy
   have lc:cz.length=zs.length:=by
    have:=congrArg List.length m2
    rw [List.length_map,List.length_map,List.length_map] at this
    exact this
   rw [List.length_map] at hm hl
   have s12:=s1.trans s2
   refine ⟨D,cz,rfl,eD2,l2,λh3=>hm (by omega) H2 s12,λh3 r zs' hr' pm so=>?_⟩
   refine hl (by omega) r zs' _ (s12.put (s12.free hr')) (s12.free hr') Zab (λy hy=>?_) (λy hy=>?_) ?_ so
   ·have hy':=pm.mem_iff.mp hy
    exact Zal (l2 y hy') λe=>by rw [<-e,l2 y hy'] at hr';cases hr'
   ·have hy':=pm.mem_iff.mp hy
    exact ⟨s1.free (f2 y hy').2,λe=>by rw [<-e,l2 y hy'] at hr';cases hr'⟩
   ·rw [<-m2]
    exact pm.map _
theorem ZfQ {H:Hp}:∀ {xs:List V} {rs:List (Int×Int)},Prs H xs rs->∀ i:Nat,Prs H (xs.drop i) (rs.drop i)
 | _,_,.nil,i=>by rw [List.drop_nil,List.drop_nil];exact .nil
 | _,_,.cons e r,0=>.cons e r
 | _,_,.cons _ r,i+1=>by rw [List.drop_succ_cons,List.drop_succ_cons];exact ZfQ r i
def Wyc (rs:List (Int×Int)) (j:Nat) (W:List (List Int)):Prop:=∃ t,rs[j]?=some t/\Wys (rs.drop (j+1)) t.1 t.2 W
inductive Rgs (rs:List (Int×Int)):Nat->List (List Int)->Prop
 | nil:Rgs rs 0 []
 | one {j:Nat} {R W:List (List Int)}:Rgs rs j R->R.length<=300->Wyc rs j W->Rgs rs (j+1) (R++W)
def Zl8 (TM:Addr):Sp:=λvs H Q E=>∃ (wb l:Addr) (k:Int) (xs:List V) (rs:List (Int×Int)),vs=[.ref wb]/\WebAt H wb l k xs rs/\Zah k rs /\
 (∀ j R,Rgs rs j R->j<=rs.length->300<R.length->∀ H':Hp,Same H H'->E (.ref TM) none H') /\
 (∀ R,Rgs rs rs.length R->R.length<=300->∀ (l:Addr) (zs:List (Addr×List Int)) (H':Hp),Same H H'->H l=none->H' l=some (.lst (zs.map λz=>V.ref z.1))->Lz H' zs->(∀ z∈zs,H z.1=none/\z.1≠l)->(zs.map (·.2)).Perm (R.map (Zbf rs true))->Srt (zs.map (·.2))->Q (.ref l) H')
theorem scEvc:Zaw ["web", "sets", "number", "road", "later", "ways"] ["web"] (Zad Zkl):=⟨rfl,rfl,rfl,by decide +kernel,rfl,by decide +kernel,by decide +kernel⟩
theorem Zl9 {f fWb fTs fR TM:Addr} {dV:Value} {fd fdWb fdTs fdR:FuncData} (F:Fun K "every_closed" "every_closed" Zkl f fd)
  (FWb:Fun K "ways_between" "ways_between" ZiC fWb fdWb) (bWb:Binds K fdWb ["web", "one", "other"] []) (mWb:mg "ways_between" = some (.ref fWb)) (GWb:ZaN P w K mg base CX0 4 fWb fdWb ["web", "one", "other"] ZkB)
  (FTs:Fun K "told_sets" "told_sets" Zjg fTs fdTs) (bTs:Binds K fdTs ["sets"] []) (mTs:mg "told_sets" = some (.ref fTs)) (GTs:ZaN P w K mg base (CXr P w) 1 fTs fdTs ["sets"] (ZkC TM))
  (FR:FunD K "roads_of" "roads_of" Zff dV fR fdR) (bR:Binds K fdR ["web", "places", "closed"] []) (mR:mg "roads_of" = some (.ref fR)) (GR:ZaN P w K mg base CX0 2 fR fdR ["web", "places", "closed"] Zkw) (mEnum:mg "enumerate" = none) :
  ZaN P w K mg base (CXr P w) 5 f fd ["web"] (Zl8 TM):=by
 refine F.okR scEvc (λvs H Q E h=>?_) (λcdv A outer s H vs Q E hr h=>?_)
 ·obtain ⟨_,_,_,_,_,rfl,_⟩:=h
  rfl
 ·obtain ⟨wb,l,k,xs,rs,rfl,W,g,hm,hl⟩:=h
  have h16:(16777216:Nat)=sizeLine:=sizeLine_eq.symm
  refine ⟨_,Zae (Zau (i:=1) scEvc.nd rfl (Or.inl rfl) (ZaF Zac))
    (Zae (Zbi PassesOwn.leaving rfl (Zls K rfl mEnum (Zaa (ZaB (ZcA K) (pv 0) Zaf (λ_ _=>rfl)) Zac)) (Zlp K (n:=2) rfl (Za4 (Zat (i:=2) scEvc.nd rfl (Or.inl rfl)) (Za4 (Zat (i:=3) scEvc.nd rfl (Or.inl rfl)) ZcU)))
    (Zae (Zau (i:=4) scEvc.nd rfl (Or.inl rfl) (ZaV (Zaa (ZaB (ZcA K) (pv 0) Zaf (λ_ _=>rfl)) (Zaa (Zcb (kSl K) (ZaB (ZcA K) (pv 0) Zaf (λ_ _=>rfl)) (ZcY (Zav ZaK (pv 2) Zaf)) ZcX) Zac))))
    (Zae (Zau (i:=5) scEvc.nd rfl (Or.inl rfl) (Zaj GWb (hr.mono (by decide)) rfl mWb FWb.kp bWb .nil ZaG (Zaa (pv 4) (Zaa (ZaB (ZcA K) (pv 3) Zaf (λ_ _=>rfl)) (Zaa (ZaB (ZcA K) (pv 3) Zaf (λ_ _=>rfl)) Zac)))))
    (Zag (Zau (i:=1) scEvc.nd rfl (Or.inl rfl) (Zaj GTs (hr.mono (by decide)) rfl mTs FTs.kp bTs .nil Zia (Zaa (Zav Zeo (pv 1) (Za2 (own:=["places"]) rfl (Zaq (fr:=[("web", 0)]) [(".0", .local),("places", .local),("roads_of", .globalImplicit),("web", .cell)] rfl rfl (by decide +kernel) rfl (by decide +kernel) ⟨rfl,trivial⟩ ⟨λh=>ZaP h,λh=>ZaP h,λh=>ZaP h,λ_=>⟨_,rfl⟩,trivial⟩ ⟨⟨rfl,.inl rfl,.inl rfl⟩,trivial⟩) (ZbX K (pv 5)) (λ_ _ _ _=>Zat (i:=0) (show List.Nodup (["places", "web"]:List Str) by decide +kernel) rfl (Or.inl rfl)) (λ_ _ _ _=>ZbK) (λ_ _ _ _=>Zaj GR (hr.mono (by decide)) rfl mR FR.kp bR .nil ZaG (Zaa (pv 1) (Zaa (pv 0) (Zaa Zb7 Zac)))))) Zac)))))))
    (Zag (Zay (pv 1)))),?_⟩
  have hx:xs.length<=30:=by rw [W.p.len];exact g.2.2.1
  refine ⟨Nat.zero_le _,λs0 hs0=>?_⟩
  have s1:Same H (upd H s0 (.lst [])):=Same.new hs0
  refine ⟨_,rfl,wb,_,_,_,rfl,rfl,SqT.of (s1 _ _ W.w),Zam (j:=1) rfl,l,xs,rfl,SqL.of (s1 _ _ W.l),?_⟩
  refine ZfC (K:=K) (a:=l) (xs:=xs) (λi σ H2=>∃ (v2 v3 v4 v5:Option V) (sl:Addr) (zs:List (Addr×List Int)) (R:List (List Int)),σ=[some (.ref wb),some (.ref sl),v2,v3,v4,v5]/\Same H H2/\H sl=none/\H2 sl=some (.lst (zs.map λz=>V.ref z.1))/\Lz H2 zs/\(∀ z∈zs,H z.1=none/\z.1≠sl)/\Rgs rs i R/\R.length<=300/\(zs.map (·.2)).Perm (R.map (Zbf rs true))/\Srt (zs.map (·.2)))
   ⟨none,none,none,none,s0,[],[],rfl,s1,hs0,Zab,λz hz=>(by cases hz),λz hz=>(by cases hz),.nil,by simp,.refl _,.nil⟩ (λi σ H2 _ ⟨_,_,_,_,_,_,_,_,s2,_⟩=>SqL.of (s2 _ _ W.l)) ?_ ?_
  ·rintro i x σ H2 T hxi ⟨v2,v3,v4,v5,sl,zs,R,rfl,s2,hsl,esl,lz,fz,rg,r300,pm,so⟩ hT
   obtain ⟨t,r,rfl,et,er⟩:=(W.same s2).p.get hxi
   have hi:i<xs.length:=(List.getElem?_eq_some_iff.mp hxi).1
   have lzR:zs.length=R.length:=by
    have:=pm.length_eq
    rw [List.length_map,List.length_map] at this
    exact this
   have s23:Same H2 (upd H2 T (.tup [.int (i:Nat),.ref t])):=Same.new hT
   refine ⟨T,_,rfl,SqT.of Zab,rfl,_,_,rfl,_,_,rfl,rfl,?_⟩
   generalize upd H2 T (.tup [.int (i:Nat),.ref t])=H3 at s23 ⊢
   have s3:=s2.trans s23
   have W3:=W.same s3
   refine ⟨_,rfl,wb,_,_,_,rfl,rfl,SqT.of W3.w,Zam (j:=0) rfl,_,rfl,wb,_,_,_,rfl,rfl,SqT.of W3.w,Zam (j:=1) rfl,_,rfl,_,_,rfl,rfl,_,rfl,l,xs,rfl,SqL.of W3.l,λla hla=>⟨ZaT,λlt hlt=>?_⟩⟩
   dsimp only [Zdg]
   have ecut:Zdi xs (some ((i:Int)+1)) none=xs.drop (i+1):=by
    have:=Zfz (xs:=xs) (k:=i+1)
    rw [<-this]
    congr 1
   have hla':=hla
   rw [ecut] at hlt ⊢
   have s4:Same H3 (upd H3 la (.lst (xs.drop (i+1)))):=Same.new hla
   have e4:upd H3 la (.lst (xs.drop (i+1))) la=some (.lst (xs.drop (i+1))):=Zab
   generalize upd H3 la (.lst (xs.drop (i+1)))=H4 at s4 e4 hlt ⊢
   have s5:Same H4 (upd H4 lt (.tup [.int k,.ref la])):=Same.new hlt
   have e5:upd H4 lt (.tup [.int k,.ref la]) lt=some (.tup [.int k,.ref la]):=Zab
   generalize upd H4 lt (.tup [.int k,.ref la])=H5 at s5 e5 ⊢
   have s35:=s4.trans s5
   have S5:=s3.trans s35
   have hr:r∈rs:=List.mem_of_getElem? er
   have gr:=g.2.2.2.1 r hr
   have en:Ends k r.1 r.2:=⟨⟨by omega,by omega⟩,⟨by omega,by omega⟩,by omega⟩
   have g':Zah k (rs.drop (i+1)):=⟨g.1,g.2.1,by have:=g.2.2.1;rw [List.length_drop];omega,λy hy=>g.2.2.2.1 y (List.mem_of_mem_drop hy),g.2.2.2.2.sublist (List.drop_sublist _ _)⟩
   have W5:WebAt H5 lt la k (xs.drop (i+1)) (rs.drop (i+1)):=⟨e5,s5 _ _ e4,ZfQ (W.same S5).p (i+1)⟩
   have et5:=s35 _ _ (s23 _ _ et)
   refine ⟨_,rfl,_,rfl,t,_,_,_,rfl,rfl,SqT.of et5,Zam (j:=0) rfl,_,rfl,t,_,_,_,rfl,rfl,SqT.of et5,Zam (j:=1) rfl,?_⟩
   refine ⟨lt,la,k,r.1,r.2,_,_,rfl,W5,g',en,λwa ws H6 s6 hwa ewa lw fw wy=>?_⟩
   dsimp only [Zdg]
   have lws:ws.length<=301:=by have:=wy.ln;rw [List.length_map] at this;exact this
   have S6:=S5.trans s6
   have s26:=s23.trans (s35.trans s6)
   have sub:∀ y∈rs.drop (i+1),y∈rs:=λy hy=>List.mem_of_mem_drop hy
   refine ⟨_,rfl,_,rfl,wa,rfl,⟨_,SqL.of ewa⟩,λD hD=>?_⟩
   refine ZaR (K:=K) (a:=wa) (xs:=ws.map λz=>V.ref z.1) (λj ys H7=>Same H6 H7/\H7 D=some (.lst ys)/\∃ cz:List (Addr×List Int),ys=cz.map (λz=>V.ref z.1)/\Lz H7 cz/\(∀ z∈cz,z.1≠D/\H6 z.1=none)/\cz.map (·.2)=((ws.take j).map (·.2)).map (Zbf rs true)) ⟨Same.new hD,Zab,[],rfl,λz hz=>(by cases hz),λz hz=>(by cases hz),rfl⟩ (λj ys H7 _ ⟨s7,_⟩=>SqL.of (s7 _ _ ewa)) ?_ ?_
   ·rintro j x ys H7 hxj ⟨s7,eD7,cz,rfl,l7,f7,m7⟩
    rw [List.getElem?_map] at hxj
    cases hz:ws[j]? with
    | none=>rw [hz] at hxj;cases hxj
    | some z=>
     rw [hz] at hxj
     cases hxj
     have hzm:z∈ws:=List.mem_of_getElem? hz
     have hw:Way (rs.drop (i+1)) r.1 r.2 z.2:=wy.ww z.2 (List.mem_map.mpr ⟨z,hzm,rfl⟩)
     have hstep:ws.take (j+1)=ws.take j++[z]:=by rw [List.take_add_one,hz];rfl
     have lcz:cz.length<=301:=by
      have h1:cz.length=(cz.map (·.2)).length:=by rw [List.length_map]
      rw [h1,m7,List.length_map,List.length_map,List.length_take]
      omega
     refine ⟨⟨rfl,trivial⟩,?_⟩
     unfold ZjN
     refine Zce ?_
     refine ⟨_,rfl,_,rfl,wb,l,z.1,k,xs,rs,z.2,true,rfl,W.same (S6.trans s7),g,s7 _ _ (lw z hzm),by have:=hw.len g' en.1;omega,λ_=>hw.1,?_,λre ms H8 s8 hre ere pm' so'=>?_⟩
     ·intro y hy
      unfold Zak at hy
      rw [if_pos rfl] at hy
      rcases List.mem_append.mp hy with hy | hy
      ·refine Zd4 sub (hw.2.2.2.1 y ?_)
       unfold Zak
       rw [if_neg Bool.false_ne_true,List.append_nil]
       exact hy
      ·rw [List.mem_singleton.mp hy]
       show Adj rs (z.2.getD (z.2.length-1) 0) (z.2.getD 0 0)
       rw [hw.2.1,hw.2.2.1]
       exact .inr hr
     have hDr:D≠re:=λe=>by rw [<-e,eD7] at hre;cases hre
     refine ⟨s8 _ _ eD7,by rw [List.length_map];omega,(s7.trans s8).put hD,Zab,cz++[(re,ms)],by rw [List.map_append];rfl,λy hy=>?_,λy hy=>?_,?_⟩
     ·rcases List.mem_append.mp hy with hy | hy
      ·exact Zal (s8 _ _ (l7 y hy)) (f7 y hy).1
      ·rw [List.mem_singleton.mp hy]
       exact Zal ere (Ne.symm hDr)
     ·rcases List.mem_append.mp hy with hy | hy
      ·exact f7 y hy
      ·rw [List.mem_singleton.mp hy]
       exact ⟨Ne.symm hDr,s7.free hre⟩
     ·rw [List.map_append,m7,hstep,List.map_append,List.map_append,ZhB pm' so']
      rfl
   ·rintro ys H7 ⟨s7,eD7,cz,rfl,l7,f7,m7⟩
    rw [List.length_map,List.take_length] at m7
    have S7:=S6.trans s7
    have s27:=s26.trans s7
    have lc:cz.length=ws.length:=by
     have:=congrArg List.length m7
     rw [List.length_map,List.length_map,List.length_map] at this
     exact this
    refine ⟨sl,D,_,_,rfl,rfl,s27 _ _ esl,eD7,by rw [List.length_map,List.length_map];omega,λca hca=>?_⟩
    have s8:Same H7 (upd H7 ca (.lst ((zs.map λz=>V.ref z.1)++(cz.map λz=>V.ref z.1)))):=Same.new hca
    have e8:upd H7 ca (.lst ((zs.map λz=>V.ref z.1)++(cz.map λz=>V.ref z.1))) ca=some (.lst ((zs++cz).map λz=>V.ref z.1)):=by rw [Zab,List.map_append]
    generalize upd H7 ca (.lst ((zs.map λz=>V.ref z.1)++(cz.map λz=>V.ref z.1)))=H8 at s8 e8 ⊢
    have l8:Lz H8 (zs++cz):=λy hy=>by
     rcases List.mem_append.mp hy with hy | hy
     ·exact s8 _ _ (s27 _ _ (lz y hy))
     ·exact s8 _ _ (l7 y hy)
    have f8:∀ y∈zs++cz,H y.1=none:=λy hy=>by
     rcases List.mem_append.mp hy with hy | hy
     ·exact (fz y hy).1
     ·exact S6.free (f7 y hy).2
    have rg':Rgs rs (i+1) (R++ws.map (·.2)):=rg.one r300 ⟨r,er,wy⟩
    have pm8:((zs++cz).map (·.2)).Perm ((R++ws.map (·.2)).map (Zbf rs true)):=by
     rw [List.map_append,List.map_append,m7]
     exact pm.append_right _
    have ln8:(zs++cz).length=(R++ws.map (·.2)).length:=by rw [List.length_append,List.length_append,List.length_map,lzR,lc]
    refine ⟨ca,zs++cz,rfl,e8,l8,λh3=>hm (i+1) _ rg' (by have:=W.p.len;omega) (by omega) H8 (S7.trans s8),λh3 rl zs' hrl pm' so'=>?_⟩
    have S8:=S7.trans s8
    refine ⟨_,_,_,_,rl,zs',R++ws.map (·.2),rfl,S8.put (S8.free hrl),S8.free hrl,Zab,λy hy=>?_,λy hy=>?_,rg',by omega,(pm'.map _).trans pm8,so'⟩
    ·have hy':=pm'.mem_iff.mp hy
     exact Zal (l8 y hy') λe=>by rw [<-e,l8 y hy'] at hrl;cases hrl
    ·have hy':=pm'.mem_iff.mp hy
     exact ⟨f8 y hy',λe=>by rw [<-e,l8 y hy'] at hrl;cases hrl⟩
  ·rintro σ H2 ⟨v2,v3,v4,v5,sl,zs,R,rfl,s2,hsl,esl,lz,fz,rg,r300,pm,so⟩
   rw [W.p.len] at rg
   exact ⟨_,rfl,hl R rg r300 sl zs H2 s2 hsl esl lz fz pm so⟩
end
end M
namespace M
open PySem L2
def edg (ns:List Int) (c:Bool):List (Int×Int):=(Zak ns c).map λt=>Za8 t.1 t.2
theorem Zcu (p q:Int):Za8 p q=Za8 q p:=by
 unfold Za8
 by_cases h1:q<p
 ·rw [if_pos h1,if_neg (show ¬ q > p by omega),if_neg (show ¬ p<q by omega),if_pos (show p > q by omega)]
 ·by_cases h2:q > p
  ·rw [if_neg h1,if_pos h2,if_pos (show p<q by omega),if_neg (show ¬ p > q by omega)]
  ·rw [show p=q by omega]
theorem Zd7 {p q q':Int} (h:Za8 p q=Za8 p q'):q=q':=by
 unfold Za8 at h
 have e:=Prod.mk.inj h
 split at e <;> split at e <;> split at e <;> split at e <;> omega
theorem ZaL {k:Int} {rs:List (Int×Int)} {ns:List Int} {c:Bool} (g:Zah k rs) (o:Zdx rs ns c) (hc:c=true->3<=ns.length):Zbg rs (Zbf rs c ns)/\((Zbf rs c ns).map (road rs)).Perm (edg ns c):=by
 refine ⟨ZcQ g o hc (Za7 rs c ns) (Zbs rs c ns),?_⟩
 have:=(Za7 rs c ns).map (road rs)
 rw [Zbo g o.1] at this
 exact this
theorem ZkE {k:Int} {rs:List (Int×Int)} {ns S:List Int} {c:Bool} (g:Zah k rs) (o:Zdx rs ns c) (hc:c=true->3<=ns.length) (hS:Zbg rs S) (h:(S.map (road rs)).Perm (edg ns c)):Zbf rs c ns=S:=
 Zfk g hS o hc h (Za7 rs c ns) (Zbs rs c ns)
theorem ZeL {k:Int} {rs:List (Int×Int)} {ns ms:List Int} {c d:Bool} (g:Zah k rs) (o:Zdx rs ns c) (hc:c=true->3<=ns.length) (o2:Zdx rs ms d) (hd:d=true->3<=ms.length) (h:(edg ns c).Perm (edg ms d)):Zbf rs c ns=Zbf rs d ms:=
 ZkE g o hc (ZaL g o2 hd).1 ((ZaL g o2 hd).2.trans h.symm)
theorem ZeM (ns:List Int):edg ns false=ZaH ns:=(Za6 ns).symm
theorem Zcv (s:Int) (tl:List Int):edg (s::tl) true=ZaH (s::(tl++[s])):=ZbG s tl
theorem Zcw {k:Int} {rs:List (Int×Int)} {ns:List Int} {c:Bool} (g:Zah k rs):Zdx rs ns c↔(∀ e∈edg ns c,e∈rs)/\ns.Nodup:=by
 have hlt:∀ r∈rs,r.1<r.2:=λr hr=>(g.2.2.2.1 r hr).2.1
 constructor
 ·rintro ⟨h1,h2⟩
  refine ⟨λe he=>?_,h2⟩
  obtain ⟨t,ht,rfl⟩:=List.mem_map.mp he
  exact (Zba hlt _ _).mpr (h1 t ht)
 ·rintro ⟨h1,h2⟩
  exact ⟨λt ht=>(Zba hlt _ _).mp (h1 _ (List.mem_map.mpr ⟨t,ht,rfl⟩)),h2⟩
theorem Zbt (x:Int):∀ (tl:List Int) (a:Int),ZaH ((a::tl)++[x])=ZaH (a::tl)++[Za8 ((a::tl).getD tl.length 0) x]
 | [],a=>rfl
 | b::tl,a=>by
  have ih:=Zbt x tl b
  show ZaH (a::b::(tl++[x]))=_
  rw [ZaI,ZaI]
  show Za8 a b::ZaH ((b::tl)++[x])=_
  rw [ih]
  rfl
theorem Zdy:∀ ns:List Int,(ZaH ns.reverse).Perm (ZaH ns)
 | []=>.refl _
 | [a]=>.refl _
 | a::b::tl=>by
  have ih:=Zdy (b::tl)
  rw [List.reverse_cons,ZaI]
  obtain ⟨c,r,hr⟩:∃ c r,(b::tl).reverse=c::r:=by
   cases h:(b::tl).reverse with
   | nil=>simp at h
   | cons c r=>exact ⟨c,r,rfl⟩
  have hl:(c::r).getD r.length 0=b:=by
   have e:(c::r).getLast?=some b:=by rw [<-hr,List.getLast?_reverse];rfl
   rw [List.getLast?_eq_getElem?] at e
   rw [List.getD_eq_getElem?_getD]
   simp only [List.length_cons,Nat.add_sub_cancel] at e
   rw [e]
   rfl
  rw [hr] at ih ⊢
  rw [Zbt,hl,Zcu b a]
  exact List.perm_append_comm.trans (ih.cons _)
theorem ZbU {x y:Int}:∀ {ns:List Int},Za8 x y∈ZaH ns->x∈ns/\y∈ns
 | [],h=>by cases h
 | [a],h=>by cases h
 | a::b::tl,h=>by
  rw [ZaI] at h
  rcases List.mem_cons.mp h with h | h
  ·have e:x=a/\y=b\/x=b/\y=a:=by
    unfold Za8 at h
    have e:=Prod.mk.inj h
    split at e <;> split at e <;> split at e <;> split at e <;> omega
   rcases e with ⟨rfl,rfl⟩ | ⟨rfl,rfl⟩ <;> simp
  ·have:=ZbU h
   exact ⟨List.mem_cons_of_mem _ this.1,List.mem_cons_of_mem _ this.2⟩
theorem Zdb:∀ (tl:List Int) (p:Int) (ls:List (Int×Int)),(p::tl).Nodup->ls.Perm (ZaH (p::tl))->(∀ r∈ls,r.1<r.2)->Wk ls p tl []
 | [],p,ls,_,pm,_=>by
  have:ls=[]:=pm.eq_nil
  subst this
  exact .stop λq a=>by rcases a with a | a <;> cases a
 | q::t,p,ls,nd,pm,hlt=>by
  rw [ZaI] at pm
  have hm:Za8 p q∈ls:=pm.mem_iff.mpr (List.mem_cons_self ..)
  refine .go ((Zba hlt _ _).mp hm) (λq' a=>?_) (Zdb t q _ (List.nodup_cons.mp nd).2 ?_ (Zd2 hlt))
  ·have:=pm.mem_iff.mp ((Zba hlt _ _).mpr a)
   rcases List.mem_cons.mp this with e | e
   ·exact Int.le_of_eq (Zd7 e).symm
   ·exact absurd (ZbU e).1 (List.nodup_cons.mp nd).1
  ·have:=pm.erase (Za8 p q)
   rw [List.erase_cons_head] at this
   exact this
theorem ZbV {rs:List (Int×Int)} {p q:Int} {w:List Int} (h:Way rs p q w):∃ tl,w=p::tl:=by
 obtain ⟨h1,h2,_⟩:=h
 cases w with
 | nil=>exact absurd rfl h1
 | cons a tl=>
  have h2:a=p:=h2
  exact ⟨tl,by rw [h2]⟩
theorem Zd8 {k:Int} {rs:List (Int×Int)} {p q:Int} {tl:List Int} (g:Zah k rs) (en:Ends k p q) (h:Way rs p q (p::tl)):Wk (cho rs (Zbf rs false (p::tl)) rs.length) p tl []/\Zl0 rs (Zbf rs false (p::tl)) k p q tl:=by
 have o:=h.2.2.2
 have E:=ZaL g o (λz=>absurd z Bool.false_ne_true)
 rw [ZeM] at E
 have b:=ZiM g en h (Za7 rs false (p::tl)) (Zbs rs false (p::tl)) rfl
 refine ⟨Zdb tl p _ o.2 (by rw [ZbF E.1];exact E.2) (ZfM g _),b⟩
theorem ZhC {k:Int} {rs:List (Int×Int)} {p q:Int} {w v:List Int} (g:Zah k rs) (en:Ends k p q) (h1:Way rs p q w) (h2:Way rs p q v) (e:Zbf rs false w=Zbf rs false v):w=v:=by
 obtain ⟨t,rfl⟩:=ZbV h1
 obtain ⟨u,rfl⟩:=ZbV h2
 have a:=(Zd8 g en h1).1
 have c:=(Zd8 g en h2).1
 rw [e] at a
 rw [a.det c]
def Cyc (rs:List (Int×Int)) (c:List Int):Prop:=3<=c.length/\Zdx rs c true
theorem ZkF (a:Int) (tl:List Int):(edg (tl++[a]) true).Perm (edg (a::tl) true):=by
 cases tl with
 | nil=>exact .refl _
 | cons b t=>
  show (edg (b::(t++[a])) true).Perm _
  rw [Zcv,Zcv]
  show (ZaH ((b::(t++[a]))++[b])).Perm (ZaH (a::b::(t++[a])))
  rw [Zbt,ZaI]
  have e:(b::(t++[a])).getD (t++[a]).length 0=a:=by
   rw [List.length_append,List.length_singleton,List.getD_eq_getElem?_getD,List.getElem?_cons_succ,List.getElem?_append_right (Nat.le_refl _),Nat.sub_self]
   rfl
  rw [e]
  exact List.perm_append_comm
theorem Zcx:∀ (u v:List Int),(edg (v++u) true).Perm (edg (u++v) true)
 | [],v=>by rw [List.append_nil,List.nil_append]
 | a::u,v=>by
  have ih:=Zcx u (v++[a])
  rw [List.append_assoc] at ih
  refine ih.trans ?_
  rw [<-List.append_assoc]
  exact ZkF a (u++v)
theorem ZhD (c:List Int):(edg c.reverse true).Perm (edg c true):=by
 cases c with
 | nil=>exact .refl _
 | cons s tl=>
  rw [List.reverse_cons]
  refine (Zcx [s] tl.reverse).trans ?_
  show (edg (s::tl.reverse) true).Perm _
  rw [Zcv,Zcv]
  have:=Zdy (s::(tl++[s]))
  rw [List.reverse_cons,List.reverse_append] at this
  exact this
theorem ZfR {k:Int} {rs:List (Int×Int)} {c d:List Int} (g:Zah k rs) (h:Cyc rs c) (pe:(edg d true).Perm (edg c true)) (pp:d.Perm c):Cyc rs d/\Zbf rs true d=Zbf rs true c:=by
 have l:3<=d.length:=by rw [pp.length_eq];exact h.1
 have o:Zdx rs d true:=(Zcw g).mpr ⟨λe he=>((Zcw g).mp h.2).1 e (pe.mem_iff.mp he),pp.nodup_iff.mpr h.2.2⟩
 exact ⟨⟨l,o⟩,ZeL g o (λ_=>l) h.2 (λ_=>h.1) pe⟩
theorem ZiQ {k:Int} {rs:List (Int×Int)} {c:List Int} (g:Zah k rs) (h:Cyc rs c):∃ ns,ZlT rs ns/\Zbf rs true ns=Zbf rs true c:=by
 obtain ⟨m,hm,hmin⟩:∃ m∈c,∀ x∈c,m<=x:=by
  have:∀ l:List Int,l≠[]->∃ m∈l,∀ x∈l,m<=x:=by
   intro l
   induction l with
   | nil=>intro h;exact absurd rfl h
   | cons a l ih=>
    intro _
    by_cases e:l=[]
    ·subst e
     exact ⟨a,by simp,λx hx=>by rw [List.mem_singleton.mp hx];omega⟩
    ·obtain ⟨m,h1,h2⟩:=ih e
     by_cases ham:a<=m
     ·refine ⟨a,by simp,λx hx=>?_⟩
      rcases List.mem_cons.mp hx with rfl | hx
      ·omega
      ·have:=h2 x hx
       omega
     ·refine ⟨m,List.mem_cons_of_mem _ h1,λx hx=>?_⟩
      rcases List.mem_cons.mp hx with rfl | hx
      ·omega
      ·exact h2 x hx
  exact this c λe=>by have:=h.1;rw [e] at this;simp at this
 obtain ⟨u,v,rfl⟩:=List.append_of_mem hm
 obtain ⟨h2,e2⟩:=ZfR (d:=(m::v)++u) g h (Zcx u (m::v)) List.perm_append_comm
 have min2:∀ x∈(m::v)++u,m<=x:=λx hx=>hmin x ((List.perm_append_comm (l₁:=m::v) (l₂:=u)).mem_iff.mp hx)
 have e0:(m::v)++u=m::(v++u):=rfl
 rw [e0] at h2 e2 min2
 generalize v++u=tl at h2 e2 min2
 have hl:=h2.1
 have nd:=h2.2.2
 rw [List.length_cons] at hl
 have ne:tl.getD 0 0≠tl.getD (tl.length-1) 0:=Zbr (List.nodup_cons.mp nd).2 (i:=0) (j:=tl.length-1) (by omega) (by omega) (by omega)
 by_cases hlt:tl.getD 0 0<tl.getD (tl.length-1) 0
 ·refine ⟨m::tl,⟨by rw [List.length_cons];exact hl,min2,?_,h2.2⟩,e2⟩
  show tl.getD 0 0<(m::tl).getD (tl.length+1-1) 0
  rw [Nat.add_sub_cancel]
  have:(m::tl).getD tl.length 0=tl.getD (tl.length-1) 0:=by
   obtain ⟨n,hn⟩:∃ n,tl.length=n+1:=⟨tl.length-1,by omega⟩
   rw [hn,Nat.add_sub_cancel]
   rfl
  rw [this]
  exact hlt
 ·have pe:(edg (m::tl.reverse) true).Perm (edg (m::tl) true):=by
   refine ((Zcx [m] tl.reverse).symm).trans ?_
   have:=ZhD (m::tl)
   rw [List.reverse_cons] at this
   exact this
  obtain ⟨h3,e3⟩:=ZfR (d:=m::tl.reverse) g h2 pe ((List.reverse_perm tl).cons m)
  refine ⟨m::tl.reverse,⟨h3.1,λx hx=>min2 x (((List.reverse_perm tl).cons m).mem_iff.mp hx),?_,h3.2⟩,e3.trans e2⟩
  show tl.reverse.getD 0 0<(m::tl.reverse).getD (tl.reverse.length+1-1) 0
  have e5:tl.reverse.getD 0 0=tl.getD (tl.length-1) 0:=by
   rw [ZaC (by rw [List.length_reverse];omega),ZaC (by omega),List.getElem_reverse]
   simp
  have e6:(m::tl.reverse).getD (tl.reverse.length+1-1) 0=tl.getD 0 0:=by
   rw [Nat.add_sub_cancel,List.length_reverse]
   obtain ⟨n,hn⟩:∃ n,tl.length=n+1:=⟨tl.length-1,by omega⟩
   rw [hn]
   show tl.reverse.getD n 0=_
   rw [ZaC (by rw [List.length_reverse];omega),ZaC (by omega),List.getElem_reverse]
   congr 1
   omega
  rw [e5,e6]
  omega
theorem ZhE {k:Int} {rs:List (Int×Int)} {ns:List Int} (g:Zah k rs) (R:ZlT rs ns):∃ s tl,ns=s::tl/\Begins (cho rs (Zbf rs true ns) rs.length) s/\Wk (cho rs (Zbf rs true ns) rs.length) s (tl++[s]) []:=by
 have o:=R.2.2.2
 have E:=ZaL g o (λ_=>R.1)
 have hl:=R.1
 obtain ⟨s,q,t,rfl⟩:∃ s q t,ns=s::q::t:=by
  match ns,hl with
  | s::q::t,_=>exact ⟨s,q,t,rfl⟩
 have pm:(cho rs (Zbf rs true (s::q::t)) rs.length).Perm (ZaH (s::q::(t++[s]))):=by
  rw [ZbF E.1]
  exact E.2.trans (.of_eq (Zcv s (q::t)))
 have hlt:=ZfM g (Zbf rs true (s::q::t))
 generalize cho rs (Zbf rs true (s::q::t)) rs.length=ls at pm hlt
 rw [ZaI] at pm
 have min:∀ x∈s::q::t,s<=x:=R.2.1
 have nd:=o.2
 have hsq:s<q:=by
  have:=min q (by simp)
  have:s≠q:=λe=>(List.nodup_cons.mp nd).1 (by rw [e];simp)
  omega
 have inall:∀ x,x∈s::q::(t++[s])->x∈s::q::t:=λx hx=>by
  simp at hx ⊢
  rcases hx with h | h | h | h
  ·exact .inl h
  ·exact .inr (.inl h)
  ·exact .inr (.inr h)
  ·exact .inl h
 have pmem:∀ r∈ls,r.1∈s::q::t/\r.2∈s::q::t:=λr hr=>by
  have h1:=pm.mem_iff.mp hr
  rw [<-ZaI] at h1
  have er:r=Za8 r.1 r.2:=by
   have:=hlt r hr
   unfold Za8
   rw [if_neg (by omega),if_pos (by omega)]
  rw [er] at h1
  have:=ZbU h1
  exact ⟨inall _ this.1,inall _ this.2⟩
 refine ⟨s,q::t,rfl,⟨λr hr=>min _ (pmem r hr).1,?_⟩,?_⟩
 ·refine ⟨Za8 s q,pm.mem_iff.mpr (List.mem_cons_self ..),?_⟩
  unfold Za8
  rw [if_neg (by omega)]
 ·show Wk ls s (q::(t++[s])) []
  have hm:Za8 s q∈ls:=pm.mem_iff.mpr (List.mem_cons_self ..)
  have nd2:(q::(t++[s])).Nodup:=by
   have:(q::(t++[s])).Perm (s::q::t):=by
    show ((q::t)++[s]).Perm _
    exact List.perm_append_comm
   exact this.nodup_iff.mpr nd
  refine .go ((Zba hlt _ _).mp hm) (λq' a=>?_) (Zdb (t++[s]) q _ nd2 ?_ (Zd2 hlt))
  ·have h1:=pm.mem_iff.mp ((Zba hlt _ _).mpr a)
   rcases List.mem_cons.mp h1 with e | e
   ·exact Int.le_of_eq (Zd7 e).symm
   ·-- the last step leads back to s
    have e2:ZaH (q::(t++[s]))=ZaH (q::t)++[Za8 ((q::t).getD t.length 0) s]:=Zbt s t q
    rw [e2] at e
    rcases List.mem_append.mp e with e | e
    ·exact absurd (ZbU e).1 (List.nodup_cons.mp nd).1
    ·have e:=List.mem_singleton.mp e
     rw [Zcu _ s] at e
     have:=Zd7 e
     have h4:=R.2.2.1
     have h5:(s::q::t).getD ((s::q::t).length-1) 0=(q::t).getD t.length 0:=rfl
     have h6:(s::q::t).getD 1 0=q:=rfl
     rw [h5,h6] at h4
     omega
  ·have:=pm.erase (Za8 s q)
   rw [List.erase_cons_head] at this
   exact this
theorem ZhF {k:Int} {rs:List (Int×Int)} {ns:List Int} (g:Zah k rs) (R:ZlT rs ns) {s:Int} {tl:List Int} (e:ns=s::tl):Zl1 rs (Zbf rs true ns) k (tl++[s]):=by
 obtain ⟨h1,h2,h3,h4⟩:=ZiO g R (Za7 rs true ns) (Zbs rs true ns) rfl
 refine ⟨h1,h2,h3,?_⟩
 rw [<-h4,e,List.length_append,List.length_singleton,List.length_cons]
end M
namespace M
open PySem L2
theorem Zjr {α:Type} [DecidableEq α]:∀ {l m:List α},l.Nodup->(∀ x∈l,x∈m)->l.length<=m.length
 | [],m,_,_=>Nat.zero_le _
 | x::l,m,nd,h=>by
  have hx:=h x (List.mem_cons_self ..)
  have ih:=Zjr (l:=l) (m:=m.erase x) (List.nodup_cons.mp nd).2 λy hy=>(List.mem_erase_of_ne (λe=>(List.nodup_cons.mp nd).1 (by rw [<-e];exact hy))).mpr (h y (List.mem_cons_of_mem _ hy))
  rw [List.length_erase_of_mem hx] at ih
  have:=List.length_pos_of_mem hx
  rw [List.length_cons]
  omega
theorem ZhG {α:Type} [DecidableEq α]:∀ {l m:List α},l.Nodup->m.Nodup->(∀ x,x∈l↔x∈m)->l.Perm m
 | [],m,_,_,h=>by
  cases m with
  | nil=>exact .refl _
  | cons y m=>exact absurd ((h y).mpr (List.mem_cons_self ..)) List.not_mem_nil
 | x::l,m,nd,nm,h=>by
  have hx:=(h x).mp (List.mem_cons_self ..)
  refine .trans (.cons x (ZhG (l:=l) (m:=m.erase x) (List.nodup_cons.mp nd).2 (nm.erase x) λy=>?_)) (List.perm_cons_erase hx).symm
  rw [List.Nodup.mem_erase_iff nm]
  constructor
  ·intro hy
   exact ⟨λe=>(List.nodup_cons.mp nd).1 (e▸hy),(h y).mp (List.mem_cons_of_mem _ hy)⟩
  ·rintro ⟨h1,h2⟩
   rcases List.mem_cons.mp ((h y).mpr h2) with e | e
   ·exact absurd e h1
   ·exact e
theorem Zjs:∀ {l m:List (List Int)},Srt l->Srt m->l.Perm m->l=m
 | [],m,_,_,p=>(p.symm.eq_nil).symm
 | x::l,m,h1,h2,p=>by
  cases m with
  | nil=>exact absurd p.eq_nil (by simp)
  | cons y m=>
   have a:=List.pairwise_cons.mp h1
   have c:=List.pairwise_cons.mp h2
   have e:x=y:=by
    rcases List.mem_cons.mp (p.mem_iff.mp (List.mem_cons_self ..)) with e | e
    ·exact e
    ·rcases List.mem_cons.mp (p.mem_iff.mpr (List.mem_cons_self (a:=y))) with f | f
     ·exact f.symm
     ·exact ZdW (c.1 x e) (a.1 y f) |>.symm▸rfl
   subst e
   rw [Zjs a.2 c.2 p.cons_inv]
theorem Zfm {k:Int} {rs:List (Int×Int)} (g:Zah k rs) {x:Int} {j:Nat} {t:Int×Int} (hx:0<=x/\x<(rs.length:Int)) (hj:rs[j]?=some t) (e:road rs x=t):x=j:=by
 have hl:=(List.getElem?_eq_some_iff.mp hj).1
 have:road rs (j:Int)=t:=by
  unfold road
  rw [Int.toNat_natCast,List.getD_eq_getElem?_getD,hj]
  rfl
 exact Zd3 g hx (by omega) (e.trans this.symm)
theorem Zcy {k:Int} {rs:List (Int×Int)} (g:Zah k rs) (n:Nat):Zah k (rs.drop n):=⟨g.1,g.2.1,by have:=g.2.2.1;rw [List.length_drop];omega,λy hy=>g.2.2.2.1 y (List.mem_of_mem_drop hy),g.2.2.2.2.sublist (List.drop_sublist _ _)⟩
theorem ZhH {k:Int} {rs:List (Int×Int)} (g:Zah k rs) (n:Nat):Zah k (rs.take n):=⟨g.1,g.2.1,by have:=g.2.2.1;rw [List.length_take];omega,λy hy=>g.2.2.2.1 y (List.mem_of_mem_take hy),g.2.2.2.2.sublist (List.take_sublist _ _)⟩
theorem ZhI {k:Int} {rs:List (Int×Int)} (g:Zah k rs) {j:Nat} {t:Int×Int} (hj:rs[j]?=some t):Ends k t.1 t.2:=by
 have:=g.2.2.2.1 t (List.mem_of_getElem? hj)
 exact ⟨⟨by omega,by omega⟩,⟨by omega,by omega⟩,by omega⟩
theorem Zdc {rs:List (Int×Int)} {p q:Int} {w:List Int} (h:Way rs p q w):edg w true=edg w false++[Za8 q p]:=by
 unfold edg Zak
 rw [if_pos rfl,if_neg Bool.false_ne_true,List.append_nil,List.map_append]
 show _++[Za8 (w.getD (w.length-1) 0) (w.getD 0 0)]=_
 rw [h.2.2.1,h.2.1]
theorem Zfn {t:Int×Int} (h:t.1<t.2):Za8 t.1 t.2=t:=by
 unfold Za8
 rw [if_neg (by omega),if_pos (by omega)]
theorem ZbH {k:Int} {rs:List (Int×Int)} {j:Nat} {t:Int×Int} {w:List Int} (g:Zah k rs) (hj:rs[j]?=some t) (h:Way (rs.drop (j+1)) t.1 t.2 w) :
  Cyc rs w/\((j:Nat):Int)∈Zbf rs true w/\∀ x∈Zbf rs true w,((j:Nat):Int)<=x:=by
 have tr:t∈rs:=List.mem_of_getElem? hj
 have tlt:=(g.2.2.2.1 t tr).2.1
 have o:=h.2.2.2
 have e1:=Zdc h
 rw [Zcu,Zfn tlt] at e1
 have hd:=(Zcw (Zcy g (j+1))).mp o
 have tnd:t ∉ rs.drop (j+1):=λhm=>by
  obtain ⟨i,hi⟩:=List.mem_iff_getElem?.mp hm
  rw [List.getElem?_drop] at hi
  have l1:=(List.getElem?_eq_some_iff.mp hi).1
  have l2:=(List.getElem?_eq_some_iff.mp hj).1
  have e3:=Zcr g.2.2.2.2 (i:=j+1+i) (j:=j) (by omega) (by omega) (by rw [List.getD_eq_getElem?_getD,List.getD_eq_getElem?_getD,hi,hj])
  omega
 have oc:Zdx rs w true:=(Zcw g).mpr ⟨λe he=>by
  rw [e1] at he
  rcases List.mem_append.mp he with he | he
  ·exact List.mem_of_mem_drop (hd.1 e he)
  ·rw [List.mem_singleton.mp he]
   exact tr,hd.2⟩
 have l3:3<=w.length:=by
  obtain ⟨tl,rfl⟩:=ZbV h
  match tl,h,hd with
  | [],h,_=>
   have:t.1=t.2:=h.2.2.1
   omega
  | [x],h,hd=>
   have hx:x=t.2:=h.2.2.1
   subst hx
   refine absurd (hd.1 t ?_) tnd
   rw [ZeM]
   show t∈[Za8 t.1 t.2]
   rw [Zfn tlt]
   simp
  | _::_::_,_,_=>simp
 have E:=ZaL g oc (λ_=>l3)
 refine ⟨⟨l3,oc⟩,?_,λx hx=>?_⟩
 ·have:t∈(Zbf rs true w).map (road rs):=E.2.mem_iff.mpr (by rw [e1];simp)
  obtain ⟨x,hx,ex⟩:=List.mem_map.mp this
  rw [<-Zfm g (E.1.2 x hx) hj ex]
  exact hx
 ·have:road rs x∈edg w true:=E.2.mem_iff.mp (List.mem_map.mpr ⟨x,hx,rfl⟩)
  rw [e1] at this
  have hx2:=E.1.2 x hx
  rcases List.mem_append.mp this with he | he
  ·obtain ⟨i,hi⟩:=List.mem_iff_getElem?.mp (hd.1 _ he)
   rw [List.getElem?_drop] at hi
   have:=Zfm g hx2 hi rfl
   omega
  ·exact Int.le_of_eq (Zfm g hx2 hj (List.mem_singleton.mp he)).symm
theorem ZhJ {k:Int} {rs:List (Int×Int)} {j:Nat} {t:Int×Int} {w v:List Int} (g:Zah k rs) (hj:rs[j]?=some t) (h:Way (rs.drop (j+1)) t.1 t.2 w) (h2:Way (rs.drop (j+1)) t.1 t.2 v) (e:Zbf rs true w=Zbf rs true v):w=v:=by
 have c1:=(ZbH g hj h).1
 have c2:=(ZbH g hj h2).1
 have E1:=(ZaL g c1.2 (λ_=>c1.1)).2
 have E2:=(ZaL g c2.2 (λ_=>c2.1)).2
 rw [e] at E1
 have p:=E1.symm.trans E2
 rw [Zdc h,Zdc h2] at p
 have p2:(edg w false).Perm (edg v false):=(List.perm_append_right_iff _).mp p
 exact ZhC (Zcy g (j+1)) (ZhI g hj) h h2 (ZeL (Zcy g (j+1)) h.2.2.2 (λz=>absurd z Bool.false_ne_true) h2.2.2.2 (λz=>absurd z Bool.false_ne_true) p2)
theorem Zjt {k:Int} {rs:List (Int×Int)} (g:Zah k rs) {j:Nat} {R:List (List Int)} (h:Rgs rs j R):∀ w∈R,∃ i,i<j/\∃ t,rs[i]?=some t/\Way (rs.drop (i+1)) t.1 t.2 w:=by
 induction h with
 | nil=>intro w hw;cases hw
 | @one j R W hr _ hw ih=>
  intro w hm
  rcases List.mem_append.mp hm with hm | hm
  ·obtain ⟨i,hi,r⟩:=ih w hm
   exact ⟨i,by omega,r⟩
  ·obtain ⟨t,ht,wy⟩:=hw
   exact ⟨j,by omega,t,ht,wy.ww w hm⟩
theorem Zma {k:Int} {rs:List (Int×Int)} (g:Zah k rs) {j:Nat} {R:List (List Int)} (h:Rgs rs j R):(R.map (Zbf rs true)).Nodup:=by
 induction h with
 | nil=>exact .nil
 | @one j R W hr _ hw ih=>
  obtain ⟨t,ht,wy⟩:=hw
  rw [List.map_append]
  refine List.nodup_append.mpr ⟨ih,?_,λa ha b hb e=>?_⟩
  ·unfold List.Nodup
   rw [List.pairwise_map]
   exact wy.nd.imp_of_mem λ{x y} hx hy hxy e=>hxy (ZhJ g ht (wy.ww x hx) (wy.ww y hy) e)
  ·obtain ⟨x,hx,rfl⟩:=List.mem_map.mp ha
   obtain ⟨y,hy,rfl⟩:=List.mem_map.mp hb
   obtain ⟨i,hi,u,hu,hw⟩:=Zjt g hr x hx
   have c1:=ZbH g hu hw
   have c2:=ZbH g ht (wy.ww y hy)
   have:=c2.2.2 (i:Int) (by rw [<-e];exact c1.2.1)
   omega
theorem ZkG {k:Int} {rs:List (Int×Int)} (g:Zah k rs) {j:Nat} {R:List (List Int)} (h:Rgs rs j R) (hl:R.length<=300):∀ i,i<j->∀ t w,rs[i]?=some t->Way (rs.drop (i+1)) t.1 t.2 w->w∈R:=by
 induction h with
 | nil=>intro i hi;omega
 | @one j R W hr _ hw ih=>
  rw [List.length_append] at hl
  intro i hi t w ht hway
  by_cases e:i=j
  ·subst e
   obtain ⟨t',ht',wy⟩:=hw
   rw [ht] at ht'
   cases ht'
   exact List.mem_append_right _ (wy.al (by omega) w hway)
  ·exact List.mem_append_left _ (ih (by omega) i (by omega) t w ht hway)
theorem ZhK {k:Int} {rs:List (Int×Int)} {c:List Int} (g:Zah k rs) (h:Cyc rs c):∃ i t w,rs[i]?=some t/\Way (rs.drop (i+1)) t.1 t.2 w/\Zbf rs true w=Zbf rs true c:=by
 have E:=ZaL g h.2 (λ_=>h.1)
 have ne:Zbf rs true c≠[]:=λe=>by
  have:=E.2.length_eq
  rw [e] at this
  unfold edg Zak at this
  rw [if_pos rfl] at this
  simp at this
 obtain ⟨j,S,hS⟩:∃ j S,Zbf rs true c=j::S:=by
  cases hh:Zbf rs true c with
  | nil=>exact absurd hh ne
  | cons j S=>exact ⟨j,S,rfl⟩
 have asc:=E.1.1
 rw [hS] at asc
 have hjr:=E.1.2 j (by rw [hS];simp)
 have hjn:rs[j.toNat]?=some (road rs j):=by
  unfold road
  rw [List.getElem?_eq_getElem (show j.toNat<rs.length by omega),List.getD_eq_getElem?_getD,List.getElem?_eq_getElem (show j.toNat<rs.length by omega)]
  rfl
 have tlt:=(g.2.2.2.1 _ (List.mem_of_getElem? hjn)).2.1
 have hm:road rs j∈edg c true:=E.2.mem_iff.mp (by rw [hS];simp)
 obtain ⟨⟨x,y⟩,hst,exy⟩:=List.mem_map.mp hm
 have exy:Za8 x y=road rs j:=exy
 obtain ⟨d,hdp,hde,hd0,hdl⟩:∃ d:List Int,d.Perm c/\(edg d true).Perm (edg c true)/\d.getD 0 0=y/\d.getD (d.length-1) 0=x:=by
  unfold Zak at hst
  rw [if_pos rfl] at hst
  rcases List.mem_append.mp hst with hst | hst
  ·obtain ⟨n,hn⟩:=List.mem_iff_getElem?.mp hst
   rw [List.getElem?_zip_eq_some,List.getElem?_drop] at hn
   have l2:=(List.getElem?_eq_some_iff.mp hn.2).1
   refine ⟨c.drop (n+1)++c.take (n+1),?_,?_,?_,?_⟩
   ·have:=List.perm_append_comm (l₁:=c.drop (n+1)) (l₂:=c.take (n+1))
    rw [List.take_append_drop] at this
    exact this
   ·have:=Zcx (c.take (n+1)) (c.drop (n+1))
    rw [List.take_append_drop] at this
    exact this
   ·rw [List.getD_eq_getElem?_getD,List.getElem?_append_left (by rw [List.length_drop];omega),List.getElem?_drop,show n+1+0=1+n by omega,hn.2]
    rfl
   ·rw [List.getD_eq_getElem?_getD,List.length_append,List.length_drop,List.length_take,Nat.min_eq_left (by omega),List.getElem?_append_right (by rw [List.length_drop];omega),List.length_drop,List.getElem?_take,if_pos (by omega),show c.length-(n+1)+(n+1)-1-(c.length-(n+1))=n by omega,hn.1]
    rfl
  ·have e:=List.mem_singleton.mp hst
   have e1:=(Prod.mk.inj e).1
   have e2:=(Prod.mk.inj e).2
   exact ⟨c,.refl _,.refl _,e2.symm,e1.symm⟩
 obtain ⟨hd,ed⟩:=ZfR g h hde hdp
 obtain ⟨w,hwp,hwe,hw0,hwl⟩:∃ w:List Int,w.Perm c/\(edg w true).Perm (edg c true)/\w.getD 0 0=(road rs j).1/\w.getD (w.length-1) 0=(road rs j).2:=by
  have l3:=hd.1
  have hne:x≠y:=λe=>by
   have:(road rs j).1=(road rs j).2:=by
    rw [<-exy,e]
    unfold Za8
    simp
   omega
  by_cases hyx:y<x
  ·have e2:road rs j=(y,x):=by
    rw [<-exy]
    unfold Za8
    rw [if_pos hyx,if_neg (show ¬ y > x by omega)]
   exact ⟨d,hdp,hde,by rw [hd0,e2],by rw [hdl,e2]⟩
  ·have e2:road rs j=(x,y):=by
    rw [<-exy]
    unfold Za8
    rw [if_neg hyx,if_pos (show y > x by omega)]
   refine ⟨d.reverse,(List.reverse_perm d).trans hdp,(ZhD d).trans hde,?_,?_⟩
   ·rw [ZaC (by rw [List.length_reverse];omega),List.getElem_reverse,e2]
    rw [ZaC (by omega)] at hdl
    simp only [Nat.sub_zero]
    exact hdl
   ·rw [ZaC (by rw [List.length_reverse];omega),List.getElem_reverse,e2]
    rw [ZaC (by omega)] at hd0
    refine Eq.trans ?_ hd0
    congr 1
    rw [List.length_reverse]
    omega
 obtain ⟨hw,ew⟩:=ZfR g h hwe hwp
 refine ⟨j.toNat,road rs j,w,hjn,⟨λe=>by have:=hw.1;rw [e] at this;simp at this,hw0,hwl,?_⟩,ew⟩
 refine (Zcw (Zcy g (j.toNat+1))).mpr ⟨λe he=>?_,hw.2.2⟩
 have Ew:=ZaL g hw.2 (λ_=>hw.1)
 rw [ew,hS] at Ew
 have ec:edg w true=edg w false++[road rs j]:=by
  unfold edg Zak
  rw [if_pos rfl,if_neg Bool.false_ne_true,List.append_nil,List.map_append]
  show _++[Za8 (w.getD (w.length-1) 0) (w.getD 0 0)]=_
  rw [hw0,hwl,Zcu,Zfn tlt]
 rw [ec] at Ew
 have p:(S.map (road rs)).Perm (edg w false):=by
  have:=Ew.2.trans List.perm_append_comm
  exact this.cons_inv
 obtain ⟨x',hx',rfl⟩:=List.mem_map.mp (p.mem_iff.mpr he)
 have h1:=(List.pairwise_cons.mp asc).1 x' hx'
 have h2:=E.1.2 x' (by rw [hS];exact List.mem_cons_of_mem _ hx')
 refine List.mem_iff_getElem?.mpr ⟨x'.toNat-(j.toNat+1),?_⟩
 rw [List.getElem?_drop,show j.toNat+1+(x'.toNat-(j.toNat+1))=x'.toNat by omega]
 unfold road
 rw [List.getElem?_eq_getElem (show x'.toNat<rs.length by omega),List.getD_eq_getElem?_getD,List.getElem?_eq_getElem (show x'.toNat<rs.length by omega)]
 rfl
theorem ZkH {k:Int} {rs:List (Int×Int)} (g:Zah k rs) {R:List (List Int)} (h:Rgs rs rs.length R) (hl:R.length<=300) (S:List Int):S∈R.map (Zbf rs true)↔∃ c,Cyc rs c/\Zbf rs true c=S:=by
 constructor
 ·intro hS
  obtain ⟨w,hw,rfl⟩:=List.mem_map.mp hS
  obtain ⟨i,_,t,ht,hway⟩:=Zjt g h w hw
  exact ⟨w,(ZbH g ht hway).1,rfl⟩
 ·rintro ⟨c,hc,rfl⟩
  obtain ⟨i,t,w,ht,hw,e⟩:=ZhK g hc
  exact List.mem_map.mpr ⟨w,ZkG g h hl i (List.getElem?_eq_some_iff.mp ht).1 t w ht hw,e⟩
end M
namespace M
open PySem L2
def IsS (rs:List (Int×Int)):Option (Int×Int)->List Int->Prop
 | none,S=>∃ c,Cyc rs c/\Zbf rs true c=S
 | some e,S=>∃ w,Way rs e.1 e.2 w/\Zbf rs false w=S
structure Zgp (rs:List (Int×Int)) (en:Option (Int×Int)) (L:List (List Int)):Prop where
 so:Srt L
 nd:L.Nodup
 ln:L.length<=300
 iff:∀ S,S∈L↔IsS rs en S
def Zpx (rs:List (Int×Int)) (en:Option (Int×Int)):Prop:=∃ M:List (List Int),M.Nodup/\300<M.length/\∀ S∈M,IsS rs en S
def Zpy (k:Int):Option (Int×Int)->Prop
 | none=>True
 | some e=>Ends k e.1 e.2
theorem Zmb {k:Int} {rs:List (Int×Int)} {p q:Int} {W:List (List Int)} (g:Zah k rs) (en:Ends k p q) (h:Wys rs p q W):(W.map (Zbf rs false)).Nodup:=by
 unfold List.Nodup
 rw [List.pairwise_map]
 exact h.nd.imp_of_mem λ{x y} hx hy hxy e=>hxy (ZhC g en (h.ww x hx) (h.ww y hy) e)
theorem ZiR {k:Int} {rs:List (Int×Int)} {p q:Int} {W L:List (List Int)} (g:Zah k rs) (en:Ends k p q) (h:Wys rs p q W) (hl:W.length<=300) (pm:L.Perm (W.map (Zbf rs false))) (so:Srt L):Zgp rs (some (p,q)) L:=by
 refine ⟨so,pm.nodup_iff.mpr (Zmb g en h),by rw [pm.length_eq,List.length_map];exact hl,λS=>?_⟩
 rw [pm.mem_iff]
 constructor
 ·intro hS
  obtain ⟨w,hw,rfl⟩:=List.mem_map.mp hS
  exact ⟨w,h.ww w hw,rfl⟩
 ·rintro ⟨w,hw,rfl⟩
  exact List.mem_map.mpr ⟨w,h.al hl w hw,rfl⟩
theorem ZiS {k:Int} {rs:List (Int×Int)} {R L:List (List Int)} (g:Zah k rs) (h:Rgs rs rs.length R) (hl:R.length<=300) (pm:L.Perm (R.map (Zbf rs true))) (so:Srt L):Zgp rs none L:=by
 refine ⟨so,pm.nodup_iff.mpr (Zma g h),by rw [pm.length_eq,List.length_map];exact hl,λS=>?_⟩
 rw [pm.mem_iff]
 exact ZkH g h hl S
theorem ZhL {k:Int} {rs:List (Int×Int)} {en:Option (Int×Int)} {S:List Int} (g:Zah k rs) (h:IsS rs en S):Zbg rs S:=by
 cases en with
 | none=>
  obtain ⟨c,hc,rfl⟩:=h
  exact (ZaL g hc.2 (λ_=>hc.1)).1
 | some e=>
  obtain ⟨w,hw,rfl⟩:=h
  exact (ZaL g hw.2.2.2 (λz=>absurd z Bool.false_ne_true)).1
def ZoX (k:Int) (rs:List (Int×Int)) (S:List Int):Option (Int×Int)->Prop
 | none=>∀ tl,¬ Zl1 rs S k tl
 | some e=>∀ tl,¬ Zl0 rs S k e.1 e.2 tl
end M
namespace M
open PySem L2
section
variable {P:Program} {w:World} {K:PySem.W.Frag} {mg:Str->Option Value} {base:Heap}
def ZiT (rs:List (Int×Int)) (ks:List Int) (i:Nat):Prop:=∀ j,j<i->(0<=ks.getD j 0/\ks.getD j 0<(rs.length:Int))/\(0<j->ks.getD (j-1) 0<ks.getD j 0)
theorem setUp_set {rs:List (Int×Int)} {ks:List Int}:ZiT rs ks ks.length↔Zbg rs ks:=by
 constructor
 ·intro h
  have up:∀ d i,i+d+1<ks.length->ks.getD i 0<ks.getD (i+d+1) 0:=λd=>by
   induction d with
   | zero=>
    intro i hi
    exact (h (i+1) (by omega)).2 (by omega)
   | succ d ih=>
    intro i hi
    have h1:=ih i (by omega)
    have h2:=(h (i+d+1+1) (by omega)).2 (by omega)
    have e:i+d+1+1-1=i+d+1:=by omega
    rw [e] at h2
    have e2:i+(d+1)+1=i+d+1+1:=by omega
    rw [e2]
    omega
  refine ⟨List.pairwise_iff_getElem.mpr λi j hi hj hij=>?_,λx hx=>?_⟩
  ·have:=up (j-i-1) i (by omega)
   rw [show i+(j-i-1)+1=j by omega,ZaC hi,ZaC hj] at this
   exact this
  ·obtain ⟨j,hj,rfl⟩:=List.getElem_of_mem hx
   have:=(h j hj).1
   rw [ZaC hj] at this
   exact this
 ·intro h j hj
  refine ⟨h.2 _ (ZbT hj),λh0=>?_⟩
  rw [ZaC hj,ZaC (show j-1<ks.length by omega)]
  exact List.pairwise_iff_getElem.mp h.1 (j-1) j (by omega) hj (by omega)
def ZkI:Sp:=λvs H Q _=>∃ (wb l kl:Addr) (k:Int) (xs:List V) (rs:List (Int×Int)) (ks:List Int),vs=[.ref wb,.ref kl]/\WebAt H wb l k xs rs/\xs.length<=30/\H kl=some (.lst (ks.map V.int))/\ks.length<=200/\∀ b:Bool,(b=true↔Zbg rs ks)->Q (.bl b) H
theorem scIst:Zaw ["web", "roads", "k"] ["web", "roads"] (Zad Zji):=⟨rfl,rfl,rfl,by decide +kernel,rfl,by decide +kernel,by decide +kernel⟩
theorem Zju {f:Addr} {fd:FuncData} (F:Fun K "_law_is_set" "_law_is_set" Zji f fd) (mRange:mg "range" = none) (mLen:mg "len" = none):ZaN P w K mg base CX0 1 f fd ["web", "roads"] ZkI:=by
 refine F.ok scIst (λvs H Q E h=>?_) (λcdv A outer s H vs Q E hr h=>?_)
 ·obtain ⟨_,_,_,_,_,_,_,rfl,_⟩:=h
  rfl
 ·obtain ⟨wb,l,kl,k,xs,rs,ks,rfl,W,hx,hk,hkl,q⟩:=h
  have h16:(16777216:Nat)=sizeLine:=sizeLine_eq.symm
  have hxl:=W.p.len
  have no:∀ i,i<ks.length->¬ ZiT rs ks (i+1)->Q (.bl false) H:=λi hi z=>q false ⟨λy=>(by cases y),λy=>absurd (λj hj=>setUp_set.mpr y j (by omega)) z⟩
  refine ⟨_,Zae (Zbi PassesOwn.never rfl (ZaQ rfl mRange (Zaa (Zar (Zf7 K) rfl mLen PySem.boot_len (Zaa (pv 1) Zac)) Zac)) (Zat (i:=2) scIst.nd rfl (Or.inl rfl))
    (Zag (Za1 (PW.pt (Zea (Zax Zf1 (ZaB (Zdf K) (pv 1) (pv 2) (λ_ _=>rfl)) Zaf (ZaD _)) (Zea (Zax ZjF (ZaB (Zdf K) (pv 1) (pv 2) (λ_ _=>rfl)) (Zar (Zf7 K) rfl mLen PySem.boot_len (Zaa (ZaB (ZcA K) (pv 0) Zaf (λ_ _=>rfl)) Zac)) (ZaD _)) (Zdl (PW.pt (Zgw (Zax Zlb (pv 2) Zaf (ZaD _)) (ZeT (Zax ZjF (ZaB (Zdf K) (pv 1) (Zav ZcV (pv 2) Zaf) (λ_ _=>rfl)) (ZaB (Zdf K) (pv 1) (pv 2) (λ_ _=>rfl)) (ZaD _))))))))) (Zag (Zay Zb7)) ZaA)))
    (Zag (Zay Zb7)),?_⟩
  refine ⟨_,rfl,kl,_,rfl,.inl (SqL.of hk),_,rfl,by rw [List.length_map];omega,by rw [List.length_map];omega,?_⟩
  rw [List.length_map,Int.toNat_natCast]
  refine Zbc (lo:=0) (n:=ks.length) (λi σ' H'=>∃ v2:Option V,σ'=[some (.ref wb),some (.ref kl),v2]/\H=H'/\ZiT rs ks i) ⟨none,rfl,rfl,λj hj=>absurd hj (Nat.not_lt_zero j)⟩ ?_ ?_
  ·rintro i σ' H' hi ⟨v2,rfl,rfl,su⟩
   rw [Int.zero_add]
   have hat:atI (ks.map V.int) (i:Int)=some (.int (ks.getD i 0)):=Zhu (i:=(i:Int)) (by omega) (by omega)
   have nx:(0<=ks.getD i 0/\ks.getD i 0<(rs.length:Int))->(0<i->ks.getD (i-1) 0<ks.getD i 0)->ZiT rs ks (i+1):=λh1 h2 j hj=>by
    by_cases e:j=i
    ·subst e;exact ⟨h1,h2⟩
    ·exact su j (by omega)
   refine ⟨_,rfl,_,rfl,kl,_,_,_,rfl,rfl,SqL.of hk,hat,_,_,rfl,rfl,_,rfl,Zde (λc=>?_) (λc1=>?_)⟩
   ·refine Zce (no i hi λz=>?_)
    have:=(z i (by omega)).1
    have:=of_decide_eq_true c
    omega
   have c1:¬ ks.getD i 0<0:=λz=>c1 (decide_eq_true z)
   refine ⟨_,rfl,_,rfl,kl,_,_,_,rfl,rfl,SqL.of hk,hat,_,rfl,wb,_,_,_,rfl,rfl,SqT.of W.w,Zam (j:=1) rfl,l,xs,rfl,.inl (SqL.of W.l),_,_,rfl,rfl,_,rfl,Zde (λc=>?_) (λc2=>?_)⟩
   ·refine Zce (no i hi λz=>?_)
    have:=(z i (by omega)).1
    have:=of_decide_eq_true c
    omega
   have c2:¬ ks.getD i 0>=(xs.length:Int):=λz=>c2 (decide_eq_true z)
   refine ⟨_,rfl,_,_,rfl,rfl,_,rfl,Zde (λc=>?_) (λc3=>?_)⟩
   ·have c3:(i:Int) > 0:=of_decide_eq_true c
    have hat1:atI (ks.map V.int) ((i:Int)-1)=some (.int (ks.getD (i-1) 0)):=by
     have:=Zhu (ns:=ks) (i:=((i-1:Nat):Int)) (by omega) (by omega)
     rw [Int.toNat_natCast,show (((i-1:Nat):Int))=(i:Int)-1 by omega] at this
     exact this
    refine ⟨_,rfl,_,rfl,_,_,rfl,rfl,kl,_,_,_,rfl,rfl,SqL.of hk,hat1,_,rfl,_,rfl,kl,_,_,_,rfl,rfl,SqL.of hk,hat,_,_,rfl,rfl,_,rfl,Zde (λc=>?_) (λc4=>?_)⟩
    ·refine no i hi λz=>?_
     have:=(z i (by omega)).2 (by omega)
     have:=of_decide_eq_true c
     omega
    ·have c4:¬ ks.getD (i-1) 0>=ks.getD i 0:=λz=>c4 (decide_eq_true z)
     exact ⟨_,rfl,rfl,nx ⟨by omega,by omega⟩ λ_=>by omega⟩
   ·have c3:¬ (i:Int) > 0:=λz=>c3 (decide_eq_true z)
    refine Zbw ?_
    exact ⟨_,rfl,rfl,nx ⟨by omega,by omega⟩ λ_=>by omega⟩
  ·rintro σ' H' ⟨v2,rfl,rfl,su⟩
   exact q true ⟨λ_=>setUp_set.mp su,λ_=>rfl⟩
theorem ZhM {rs:List (Int×Int)} {ks:List Int} {p:Int} {i:Nat} {x:Int} (h:ks[i]?=some x):((ks.take (i+1)).filter λy=>decide ((road rs y).1=p\/(road rs y).2=p))=((ks.take i).filter λy=>decide ((road rs y).1=p\/(road rs y).2=p))++(if Zbu (road rs x) p=true then [x] else []):=by
 rw [List.take_add_one,h]
 show List.filter _ (ks.take i++[x])=_
 rw [List.filter_append,List.filter_cons,List.filter_nil]
 rfl
theorem Zfo {H:Hp} {wb l:Addr} {k:Int} {xs:List V} {rs:List (Int×Int)} (W:WebAt H wb l k xs rs) {x:Int} (h:0<=x/\x<(rs.length:Int)):∃ t,atI xs x=some (.ref t)/\H t=some (.tup [.int (road rs x).1,.int (road rs x).2]):=by
 have hxl:=W.p.len
 have hi:x.toNat<xs.length:=by omega
 obtain ⟨t,r,et,eh,er⟩:=W.p.get (List.getElem?_eq_getElem hi)
 have eg:road rs x=r:=by
  unfold road
  rw [List.getD_eq_getElem?_getD,er]
  rfl
 refine ⟨t,?_,by rw [eg];exact eh⟩
 have:=Zam (xs:=xs) (j:=x.toNat) (by rw [List.getElem?_eq_getElem hi,et])
 rw [Int.toNat_of_nonneg h.1] at this
 exact this
def ZkJ:Sp:=λvs H Q _=>∃ (wb l kl:Addr) (k p:Int) (xs:List V) (rs:List (Int×Int)) (ks:List Int),vs=[.ref wb,.ref kl,.int p]/\WebAt H wb l k xs rs/\H kl=some (.lst (ks.map V.int))/\ks.length<=200/\(∀ x∈ks,0<=x/\x<(rs.length:Int))/\∀ H',Same H H'->Q (.int (degK rs ks p:Nat)) H'
theorem Znt:Zaw ["web", "roads", "place"] ["web", "roads", "place"] (Zad Zjj):=⟨rfl,rfl,rfl,by decide +kernel,rfl,by decide +kernel,by decide +kernel⟩
theorem Zjv {f:Addr} {fd:FuncData} (F:Fun K "_law_at" "_law_at" Zjj f fd) (mLen:mg "len" = none):ZaN P w K mg base CX0 1 f fd ["web", "roads", "place"] ZkJ:=by
 refine F.ok Znt (λvs H Q E h=>?_) (λcdv A outer s H vs Q E hr h=>?_)
 ·obtain ⟨_,_,_,_,_,_,_,_,rfl,_⟩:=h
  rfl
 ·obtain ⟨wb,l,kl,k,p,xs,rs,ks,rfl,W,hk,hkl,hv,q⟩:=h
  have h16:(16777216:Nat)=sizeLine:=sizeLine_eq.symm
  refine ⟨_,Zag (Zay (Zar (Zf7 K) rfl mLen PySem.boot_len (Zaa (Za2 (own:=["k"]) rfl (Zaq (fr:=[("web", 0),("place", 2)]) [(".0", .local),("k", .local),("place", .cell),("web", .cell)] rfl rfl (by decide +kernel) rfl (by decide +kernel) ⟨rfl,rfl,trivial⟩ ⟨λh=>ZaP h,λh=>ZaP h,λ_=>⟨_,rfl⟩,λ_=>⟨_,rfl⟩,trivial⟩ ⟨⟨rfl,.inl rfl,.inl rfl⟩,⟨rfl,.inl rfl,.inl rfl⟩,trivial⟩) (ZbX K (pv 1)) (λ_ _ _ _=>Zat (i:=0) (show List.Nodup (["k", "web", "place"]:List Str) by decide +kernel) rfl (Or.inl rfl)) (λ_ _ _ _=>Za9 (Zax (kIn K) (pv 2) (ZaB (Zdf K) (ZaB (ZcA K) (pv 1) Zaf (λ_ _=>rfl)) (pv 0) (λ_ _=>rfl)) (by with_unfolding_all rfl))) (λ_ _ _ _=>pv 0)) Zac))),?_⟩
  refine ⟨_,rfl,kl,rfl,⟨_,SqL.of hk⟩,λD hD=>?_⟩
  refine ZaR (K:=K) (a:=kl) (xs:=ks.map V.int) (λi ys H2=>Same H H2/\H2 D=some (.lst ys)/\ys=((ks.take i).filter λy=>decide ((road rs y).1=p\/(road rs y).2=p)).map V.int) ⟨Same.new hD,Zab,rfl⟩ (λi ys H2 _ ⟨s2,_⟩=>SqL.of (s2 _ _ hk)) ?_ ?_
  ·rintro i x ys H2 hxi ⟨s2,hD2,rfl⟩
   rw [List.getElem?_map] at hxi
   cases hz:ks[i]? with
   | none=>rw [hz] at hxi;cases hxi
   | some z=>
    rw [hz] at hxi
    cases hxi
    have hi:i<ks.length:=(List.getElem?_eq_some_iff.mp hz).1
    have W2:=W.same s2
    obtain ⟨t,et,eh⟩:=Zfo W2 (hv z (List.mem_of_getElem? hz))
    have sc:=ZhM (rs:=rs) (p:=p) hz
    refine ⟨⟨rfl,rfl,trivial⟩,?_⟩
    refine ⟨_,rfl,_,rfl,wb,_,_,_,rfl,rfl,SqT.of W2.w,Zam (j:=1) rfl,_,rfl,l,_,_,_,rfl,rfl,SqL.of W2.l,et,t,_,rfl,.inr (SqT.of eh),rfl,rfl,_,rfl,?_⟩
    show if (inV (.int p) [.int (road rs z).1,.int (road rs z).2])=true then _ else _
    rw [Znp]
    refine Zde (λy=>?_) (λy=>?_)
    ·refine ⟨_,rfl,hD2,?_,s2.put hD,Zab,?_⟩
     ·rw [List.length_map]
      have:=List.length_filter_le (λy=>decide ((road rs y).1=p\/(road rs y).2=p)) (ks.take i)
      rw [List.length_take] at this
      omega
     ·rw [sc,if_pos y,List.map_append];rfl
    ·exact ⟨s2,hD2,by rw [sc,if_neg y,List.append_nil]⟩
  ·rintro ys H2 ⟨s2,hD2,rfl⟩
   rw [List.length_map,List.take_length] at hD2
   refine ⟨D,_,rfl,.inl (SqL.of hD2),?_⟩
   rw [List.length_map]
   exact q H2 s2
end
end M
namespace M
open PySem L2
section
variable {P:Program} {w:World} {K:PySem.W.Frag} {mg:Str->Option Value} {base:Heap}
def Zdk (rs:List (Int×Int)) (ks:List Int) (c:Int):List (Int×Int):=(ks.filter λx=>Zbu (road rs x) c).map λx=>((road rs x).1+(road rs x).2-c,x)
theorem Zgq {rs:List (Int×Int)} {ks:List Int} {c:Int} {i:Nat} {x:Int} (h:ks[i]?=some x):Zdk rs (ks.take (i+1)) c=Zdk rs (ks.take i) c++(if Zbu (road rs x) c=true then [((road rs x).1+(road rs x).2-c,x)] else []):=by
 unfold Zdk
 rw [List.take_add_one,h]
 show List.map _ (List.filter _ (ks.take i++[x]))=_
 rw [List.filter_append,List.map_append,List.filter_cons,List.filter_nil]
 by_cases z:Zbu (road rs x) c=true
 ·rw [if_pos z,if_pos z];rfl
 ·rw [if_neg z,if_neg z];rfl
theorem ZhN (rs:List (Int×Int)) (ks:List Int) (c:Int):(Zdk rs ks c).length<=ks.length:=by
 unfold Zdk
 rw [List.length_map]
 exact List.length_filter_le _ _
theorem mem_near {rs:List (Int×Int)} {ks:List Int} {c y x:Int}:(y,x)∈Zdk rs ks c↔x∈ks/\(road rs x=(c,y)\/road rs x=(y,c)):=by
 unfold Zdk
 rw [List.mem_map]
 constructor
 ·rintro ⟨z,hz,e⟩
  obtain ⟨h1,h2⟩:=List.mem_filter.mp hz
  obtain ⟨e1,e2⟩:=Prod.mk.inj e
  subst e2
  refine ⟨h1,?_⟩
  rcases of_decide_eq_true h2 with e | e
  ·left
   rw [<-e1,<-e]
   exact Prod.ext rfl (by dsimp only;omega)
  ·right
   rw [<-e1,<-e]
   exact Prod.ext (by dsimp only;omega) rfl
 ·rintro ⟨h1,e | e⟩
  ·exact ⟨x,List.mem_filter.mpr ⟨h1,decide_eq_true (.inl (by rw [e]))⟩,by rw [e];exact Prod.ext (by dsimp only;omega) rfl⟩
  ·exact ⟨x,List.mem_filter.mpr ⟨h1,decide_eq_true (.inr (by rw [e]))⟩,by rw [e];exact Prod.ext (by dsimp only;omega) rfl⟩
theorem near_adj {rs:List (Int×Int)} {ks:List Int} {c y:Int}:Adj (ks.map (road rs)) c y↔∃ x,(y,x)∈Zdk rs ks c:=by
 unfold Adj
 rw [List.mem_map,List.mem_map]
 constructor
 ·rintro (⟨x,hx,e⟩ | ⟨x,hx,e⟩)
  ·exact ⟨x,mem_near.mpr ⟨hx,.inl e⟩⟩
  ·exact ⟨x,mem_near.mpr ⟨hx,.inr e⟩⟩
 ·rintro ⟨x,h⟩
  obtain ⟨hx,e | e⟩:=mem_near.mp h
  ·exact .inl ⟨x,hx,e⟩
  ·exact .inr ⟨x,hx,e⟩
theorem Zdz {k:Int} {rs:List (Int×Int)} (g:Zah k rs) {x:Int}:∀ {ks:List Int},(∀ z∈ks,0<=z/\z<(rs.length:Int))->(0<=x/\x<(rs.length:Int))->(ks.map (road rs)).erase (road rs x)=(ks.erase x).map (road rs)
 | [],_,_=>rfl
 | z::ks,h,hx=>by
  rw [List.map_cons,List.erase_cons,List.erase_cons]
  by_cases e:z=x
  ·rw [if_pos (by rw [e];exact beq_self_eq_true _),if_pos (by rw [e];exact beq_self_eq_true _)]
  ·rw [if_neg (by rw [beq_iff_eq];exact λy=>e (Zd3 g (h z (List.mem_cons_self ..)) hx y)),if_neg (by rw [beq_iff_eq];exact e),List.map_cons,Zdz g (λy hy=>h y (List.mem_cons_of_mem _ hy)) hx]
theorem ZhO {xs:List V} {rs:List (Int×Int)} {t t':Addr} {r r':Int×Int} (a:ZfD xs rs t r) (b:ZfD xs rs t' r'):r=r':=by
 obtain ⟨⟨i,_,hi⟩,a⟩:=a
 obtain ⟨⟨j,_,hj⟩,b⟩:=b
 have h1:=a r' (List.mem_of_getElem? hj)
 have h2:=b r (List.mem_of_getElem? hi)
 rw [<-Bool.not_eq_true,ltP_iff] at h1 h2
 exact Prod.ext (by omega) (by omega)
theorem ZhP {K:PySem.W.Frag} {H:Hp} {a e:Addr} {ys:List V} {pp:List (Int×Int)} {Q:VK} (ha:H a=some (.lst ys)) (pr:Prs H ys pp) (he:H e=some (.lst [])) (q:Q (.bl (!decide (pp=[]))) H):Zln K true (.ref a) (.ref e) H Q:=by
 refine ⟨.list (pp.map prD),.list ((([]:List (Int×Int))).map prD),.lst (SqL.of ha) pr.dats,.lst (SqL.of he) .nil,Zds _,Zds _,?_⟩
 have e2:(true != PyData.eqv (.list (pp.map prD)) (.list (([]:List (Int×Int)).map prD)))=!decide (pp=[]):=by
  simp only [PyData.eqv]
  rw [ZeX]
  cases decide (pp=[]) <;> rfl
 rw [e2]
 exact q
def ZkK:Sp:=λvs H Q _=>∃ (wb l kl:Addr) (k p:Int) (xs:List V) (rs:List (Int×Int)) (ks:List Int),vs=[.ref wb,.ref kl,.int p]/\WebAt H wb l k xs rs/\Zah k rs/\H kl=some (.lst (ks.map V.int))/\ks.length<=200/\(∀ x∈ks,0<=x/\x<(rs.length:Int)) /\
 ∀ (r:Addr) (tl:List Int) (rest:List (Int×Int)) (H':Hp),Same H H'->H r=none->H' r=some (.lst ((p::tl).map V.int))->Wk (ks.map (road rs)) p tl rest->Q (.ref r) H'
theorem scLwa:Zaw ["web", "roads", "place", "left", "row", "near", "k"] ["web", "roads", "place"] (Zad Zhr):=⟨rfl,rfl,rfl,by decide +kernel,rfl,by decide +kernel,by decide +kernel⟩
theorem Zjw {f:Addr} {fd:FuncData} (F:Fun K "_law_walk" "_law_walk" Zhr f fd) (mLst:mg "list" = none) (mMin:mg "min" = none):ZaN P w K mg base CX0 1 f fd ["web", "roads", "place"] ZkK:=by
 refine F.ok scLwa (λvs H Q E h=>?_) (λcdv A outer s H vs Q E hr h=>?_)
 ·obtain ⟨_,_,_,_,_,_,_,_,rfl,_⟩:=h
  rfl
 ·obtain ⟨wb,l,kl,k,p,xs,rs,ks,rfl,W,g,hk,hkl,hv,q⟩:=h
  have h16:(16777216:Nat)=sizeLine:=sizeLine_eq.symm
  have n1:1<=sizeLine:=by omega
  have hu:(A.deeper (PyProof.Rows.envOfC "_law_walk" (Zad Zhr) s.heap.objs.size f cdv)).units+64<cLine:=by have:=hr.un;omega
  have hu1:(A.deeper (PyProof.Rows.envOfC "_law_walk" (Zad Zhr) s.heap.objs.size f cdv)).units+1<cLine:=by have:=hr.un;omega
  have hu5:(A.deeper (PyProof.Rows.envOfC "_law_walk" (Zad Zhr) s.heap.objs.size f cdv)).units+65<cLine:=by have:=hr.un;omega
  refine ⟨_,Zae (Zau (i:=3) scLwa.nd rfl (Or.inl rfl) (Zbv (ZgX K) rfl mLst Zbz (Zaa (pv 1) Zac)))
    (Zae (Zau (i:=4) scLwa.nd rfl (Or.inl rfl) (ZaF (Zaa (pv 2) Zac)))
    (Zae (Zau (i:=5) scLwa.nd rfl (Or.inl rfl) (ZaF (Zaa Zaf Zac)))
    (Zae (ZdD PassesOwn.never (Zax (ZkU K hu) (pv 5) (ZaF Zac) (ZaD _))
    (Zae (Zau (i:=5) scLwa.nd rfl (Or.inl rfl) (ZaF Zac))
    (Zae (Zbi PassesOwn.never rfl (ZbX K (pv 3)) (Zat (i:=6) scLwa.nd rfl (Or.inl rfl))
    (Zag (Za1 (Zax (kIn K) (ZaB (Zdf K) (pv 4) (Zec ZbA Zaf) (λ_ _=>rfl)) (ZaB (Zdf K) (ZaB (ZcA K) (pv 0) Zaf (λ_ _=>rfl)) (pv 6) (λ_ _=>rfl)) (by with_unfolding_all rfl)) (Zag (ZaX (Zcd PySem.F.plainAttrs_list PySem.F.slot_list_append PySem.F.type_list_append ZaO (pv 5) (Zaa (ZaV (Zaa (Zav ZcV (Zav ZaK (ZaB (ZcA K) (ZaB (Zdf K) (ZaB (ZcA K) (pv 0) Zaf (λ_ _=>rfl)) (pv 6) (λ_ _=>rfl)) Zaf (λ_ _=>rfl)) (ZaB (ZcA K) (ZaB (Zdf K) (ZaB (ZcA K) (pv 0) Zaf (λ_ _=>rfl)) (pv 6) (λ_ _=>rfl)) Zaf (λ_ _=>rfl))) (ZaB (Zdf K) (pv 4) (Zec ZbA Zaf) (λ_ _=>rfl))) (Zaa (pv 6) Zac))) Zac)))) ZaA)))
    (Zag (Za1 (Zax (ZkU K hu) (pv 5) (ZaF Zac) (ZaD _)) (Zae (ZaX (Zcd PySem.F.plainAttrs_list PySem.F.slot_list_remove PySem.F.type_list_remove (Zng K hu5) (pv 3) (Zaa (ZaB (ZcA K) (Zar (ZlD K rfl hu1) rfl mMin Zci (Zaa (pv 5) Zac)) Zaf (λ_ _=>rfl)) Zac)))
    (Zag (ZaX (Zcd PySem.F.plainAttrs_list PySem.F.slot_list_append PySem.F.type_list_append ZaO (pv 4) (Zaa (ZaB (ZcA K) (Zar (ZlD K rfl hu1) rfl mMin Zci (Zaa (pv 5) Zac)) Zaf (λ_ _=>rfl)) Zac))))) ZaA)))))
    (Zag (Zay (pv 4)))))),?_⟩
  refine ⟨_,rfl,kl,_,rfl,.inl (SqL.of hk),λla hla=>?_⟩
  have s1:Same H (upd H la (.lst (ks.map V.int))):=Same.new hla
  have ela:upd H la (.lst (ks.map V.int)) la=some (.lst (ks.map V.int)):=Zab
  generalize upd H la (.lst (ks.map V.int))=H1 at s1 ela ⊢
  refine ⟨_,rfl,n1,λro hro=>?_⟩
  have s2:Same H1 (upd H1 ro (.lst [.int p])):=Same.new hro
  have ero:upd H1 ro (.lst [.int p]) ro=some (.lst ([p].map V.int)):=Zab
  have hne:la≠ro:=Zai ela hro
  have hHro:H ro=none:=s1.free hro
  generalize upd H1 ro (.lst [.int p])=H2 at s2 ero ⊢
  have ela2:=s2 _ _ ela
  refine ⟨n1,λna hna=>?_⟩
  have s3:Same H2 (upd H2 na (.lst [.int 0])):=Same.new hna
  have ena:upd H2 na (.lst [.int 0]) na=some (.lst ([(0:Int)].map V.int)):=Zab
  generalize upd H2 na (.lst [.int 0])=H3 at s3 ena ⊢
  refine ⟨λm σ' H'=>∃ (na:Addr) (lk front:List Int) (c:Int) (pre:List Int) (v6:Option V),σ'=[some (.ref wb),some (.ref kl),some (.int p),some (.ref la),some (.ref ro),some (.ref na),v6]/\Same H H'/\H' la=some (.lst (lk.map V.int))/\H' ro=some (.lst ((front++[c]).map V.int))/\front++[c]=p::pre/\(∀ x∈lk,0<=x/\x<(rs.length:Int))/\pre.length+lk.length<=200 /\
   (∀ tl rest,Wk (lk.map (road rs)) c tl rest->Wk (ks.map (road rs)) p (pre++tl) rest) /\
   ((H' na=some (.lst [.int 0])/\m=lk.length+1)\/(∃ ys pp,H' na=some (.lst ys)/\Prs H' ys pp/\pp≠[]/\m=lk.length+1)\/(H' na=some (.lst [])/\(∀ y,¬ Adj (lk.map (road rs)) c y)/\m=0)),
   ⟨_,na,ks,[],p,[],none,rfl,(s1.trans s2).trans s3,s3 _ _ ela2,s3 _ _ ero,rfl,hv,by rw [List.length_nil];omega,λtl rest h=>h,.inl ⟨ena,rfl⟩⟩,?_⟩
  clear s3 ena hna ela2 s2 ero ela s1
  rintro m σ' H' ⟨na,lk,front,c,pre,v6,rfl,s4,ela,ero,efp,hlk,hlen,cont,hn⟩
  have hlast:atI ((front++[c]).map V.int) (-1)=some (.int c):=by
   rw [Zd0 (by simp)]
   congr 2
   rw [List.length_append,List.length_singleton,Nat.add_sub_cancel,List.getD_eq_getElem?_getD,List.getElem?_append_right (Nat.le_refl _),Nat.sub_self]
   rfl
  have hfl:(front++[c]).length<=201:=by rw [efp,List.length_cons];omega
  refine ⟨_,rfl,Nat.zero_le _,λe0 he0=>?_⟩
  have s5:Same H' (upd H' e0 (.lst [])):=Same.new he0
  have ee0:upd H' e0 (.lst []) e0=some (.lst []):=Zab
  generalize upd H' e0 (.lst [])=H5 at s5 ee0 ⊢
  have key:∀ Q':VK,(m=lk.length+1->Q' (.bl true) H5)->((∀ y,¬ Adj (lk.map (road rs)) c y)->Q' (.bl false) H5)->Zln K true (.ref na) (.ref e0) H5 Q':=λQ' q1 q2=>by
   rcases hn with ⟨hz,hm⟩ | ⟨ys,pp,hz,pr,hpp,hm⟩ | ⟨hz,no,hm⟩
   ·refine ⟨.list ([(0:Int)].map PyData.int),.list (([]:List Int).map PyData.int),.lst (SqL.of (s5 _ _ hz)) (ZbB [0]),.lst (SqL.of ee0) .nil,Zbq _,Zbq _,?_⟩
    rw [ZdM]
    exact q1 hm
   ·refine ZhP (s5 _ _ hz) (pr.same s5) ee0 ?_
    rw [decide_eq_false hpp]
    exact q1 hm
   ·refine ZhP (pp:=[]) (s5 _ _ hz) .nil ee0 ?_
    exact q2 no
  refine key _ (λhm=>?_) (λno=>?_)
  ·refine ⟨_,rfl,Zce ?_⟩
   refine ⟨_,λ_ _ h=>h,?_⟩
   clear key hn
   have S5:=s4.trans s5
   refine ⟨Nat.zero_le _,λnb hnb=>?_⟩
   have s6:Same H5 (upd H5 nb (.lst [])):=Same.new hnb
   have enb:upd H5 nb (.lst []) nb=some (.lst []):=Zab
   have nbl:la≠nb:=Zai (s5 _ _ ela) hnb
   have nbr:ro≠nb:=Zai (s5 _ _ ero) hnb
   have hHnb:H nb=none:=S5.free hnb
   generalize upd H5 nb (.lst [])=H6 at s6 enb ⊢
   have S6:=S5.trans s6
   have s46:=s5.trans s6
   refine ⟨_,rfl,la,rfl,⟨_,SqL.of (s46 _ _ ela)⟩,?_⟩
   refine Zb9 (K:=K) (a:=la) (xs:=lk.map V.int) (λi σ' H7=>∃ (v6:Option V) (ys:List V),σ'=[some (.ref wb),some (.ref kl),some (.int p),some (.ref la),some (.ref ro),some (.ref nb),v6]/\Same H H7/\H7 la=some (.lst (lk.map V.int))/\H7 ro=some (.lst ((front++[c]).map V.int))/\H7 nb=some (.lst ys)/\Prs H7 ys (Zdk rs (lk.take i) c)) ⟨v6,[],rfl,S6,s46 _ _ ela,s46 _ _ ero,enb,.nil⟩ (λi σ' H7 _ ⟨_,_,_,_,e7,_⟩=>SqL.of e7) ?_ ?_
   ·rintro i x σ' H7 hxi ⟨v6,ys,rfl,s7,ela7,ero7,enb7,pr⟩
    rw [List.getElem?_map] at hxi
    cases hz:lk[i]? with
    | none=>rw [hz] at hxi;cases hxi
    | some z=>
     rw [hz] at hxi
     cases hxi
     have hi:i<lk.length:=(List.getElem?_eq_some_iff.mp hz).1
     have W7:=W.same s7
     obtain ⟨t,et,eh⟩:=Zfo W7 (hlk z (List.mem_of_getElem? hz))
     have sc:=Zgq (rs:=rs) (c:=c) hz
     have ln:=ZhN rs (lk.take i) c
     rw [List.length_take] at ln
     have lp:=pr.len
     refine ⟨_,rfl,_,rfl,ro,_,_,_,rfl,rfl,SqL.of ero7,hlast,_,rfl,wb,_,_,_,rfl,rfl,SqT.of W7.w,Zam (j:=1) rfl,_,rfl,l,_,_,_,rfl,rfl,SqL.of W7.l,et,t,_,rfl,.inr (SqT.of eh),rfl,rfl,_,rfl,?_⟩
     show if (inV (.int c) [.int (road rs z).1,.int (road rs z).2])=true then _ else _
     rw [Znp]
     refine Zde (λy=>?_) (λy=>?_)
     ·refine ⟨_,rfl,.inl ⟨rfl,_,SqL.of enb7⟩,_,rfl,wb,_,_,_,rfl,rfl,SqT.of W7.w,Zam (j:=1) rfl,_,rfl,l,_,_,_,rfl,rfl,SqL.of W7.l,et,t,_,_,_,rfl,rfl,SqT.of eh,Zam (j:=0) rfl,?_⟩
      refine ⟨_,rfl,wb,_,_,_,rfl,rfl,SqT.of W7.w,Zam (j:=1) rfl,_,rfl,l,_,_,_,rfl,rfl,SqL.of W7.l,et,t,_,_,_,rfl,rfl,SqT.of eh,Zam (j:=1) rfl,_,_,rfl,rfl,?_⟩
      refine ⟨_,rfl,_,rfl,ro,_,_,_,rfl,rfl,SqL.of ero7,hlast,_,_,rfl,rfl,_,rfl,ZaT,λu hu0=>?_⟩
      have s8:Same H7 (upd H7 u (.tup [.int ((road rs z).1+(road rs z).2-c),.int z])):=Same.new hu0
      have eu:upd H7 u (.tup [.int ((road rs z).1+(road rs z).2-c),.int z]) u=some (.tup [.int ((road rs z).1+(road rs z).2-c),.int z]):=Zab
      have enb8:=s8 _ _ enb7
      refine ⟨nb,_,_,rfl,rfl,enb8,by omega,?_⟩
      have k9:=ZaW (o:=.lst (ys++[.ref u])) enb8
      refine ⟨_,_,rfl,(s7.trans s8).put hHnb,Zal (s8 _ _ ela7) nbl,Zal (s8 _ _ ero7) nbr,Zab,?_⟩
      rw [sc,if_pos y]
      exact Prs.keep (Prs.snoc (a:=(road rs z).1+(road rs z).2-c) (b:=z) (pr.same s8) eu) k9
     ·refine ⟨_,_,rfl,s7,ela7,ero7,enb7,?_⟩
      rw [sc,if_neg y,List.append_nil]
      exact pr
   ·rintro σ' H7 ⟨v6,ys,rfl,s7,ela7,ero7,enb7,pr⟩
    rw [List.length_map,List.take_length] at pr
    refine ⟨_,rfl,Nat.zero_le _,λe1 he1=>?_⟩
    have s8:Same H7 (upd H7 e1 (.lst [])):=Same.new he1
    have ee1:upd H7 e1 (.lst []) e1=some (.lst []):=Zab
    generalize upd H7 e1 (.lst [])=H8 at s8 ee1 ⊢
    have S8:=s7.trans s8
    have pr8:=pr.same s8
    refine ZhP (s8 _ _ enb7) pr8 ee1 ⟨_,rfl,?_⟩
    by_cases hpp:Zdk rs lk c=[]
    ·rw [decide_eq_true hpp]
     refine Zbw ?_
     rw [hpp] at pr8
     have hys:ys=[]:=by
      have:=pr8.len
      exact List.length_eq_zero_iff.mp (by simpa using this)
     refine ⟨0,by omega,nb,lk,front,c,pre,_,rfl,S8,s8 _ _ ela7,s8 _ _ ero7,efp,hlk,hlen,cont,.inr (.inr ⟨by rw [s8 _ _ enb7,hys],λy a=>?_,rfl⟩)⟩
     obtain ⟨x,hx⟩:=near_adj.mp a
     rw [hpp] at hx
     cases hx
    ·rw [decide_eq_false hpp]
     refine Zce ?_
     have enb8:=s8 _ _ enb7
     refine ⟨_,rfl,.inl ⟨rfl,_,SqL.of (s8 _ _ ela7)⟩,_,rfl,nb,ys,_,rfl,SqL.of enb8,pr8,hpp,λt r lp=>?_⟩
     have lp0:=lp
     obtain ⟨⟨i,ex,er⟩,lst⟩:=lp
     obtain ⟨t',r',et',eh,er'⟩:=pr8.get ex
     cases et'
     rw [er] at er'
     cases er'
     obtain ⟨y,x⟩:=r
     have hm0:=List.mem_of_getElem? er
     obtain ⟨hxl,hrd⟩:=mem_near.mp hm0
     have vx:=hlk x hxl
     refine ⟨t,_,_,_,rfl,rfl,SqT.of eh,Zam (j:=1) rfl,?_⟩
     dsimp only [ZnH]
     refine ZoV (s8 _ _ ela7) hxl ?_
     have ela8:=s8 _ _ ela7
     have k9:=ZaW (o:=.lst ((lk.erase x).map V.int)) ela8
     have s9:Same H (upd H8 la (.lst ((lk.erase x).map V.int))):=S8.put hla
     have ela9:upd H8 la (.lst ((lk.erase x).map V.int)) la=some (.lst ((lk.erase x).map V.int)):=Zab
     have ero9:upd H8 la (.lst ((lk.erase x).map V.int)) ro=some (.lst ((front++[c]).map V.int)):=Zal (s8 _ _ ero7) (Ne.symm hne)
     have enb9:upd H8 la (.lst ((lk.erase x).map V.int)) nb=some (.lst ys):=Zal enb8 (Ne.symm nbl)
     have pr9:=pr8.keep k9
     generalize upd H8 la (.lst ((lk.erase x).map V.int))=H9 at k9 s9 ela9 ero9 enb9 pr9 ⊢
     refine ⟨_,rfl,.inl ⟨rfl,_,SqL.of ero9⟩,_,rfl,nb,ys,_,rfl,SqL.of enb9,pr9,hpp,λt2 r2 lp2=>?_⟩
     have e2:=ZhO lp0 lp2
     subst e2
     obtain ⟨⟨i2,ex2,er2⟩,_⟩:=lp2
     obtain ⟨t3,r3,et3,eh3,er3⟩:=pr9.get ex2
     cases et3
     rw [er2] at er3
     cases er3
     refine ⟨t2,_,_,_,rfl,rfl,SqT.of eh3,Zam (j:=0) rfl,ro,_,_,rfl,rfl,ero9,by rw [List.length_map];omega,?_⟩
     have k10:=ZaW (o:=.lst ((front++[c]).map V.int++[.int y])) ero9
     have adj:Adj (lk.map (road rs)) c y:=near_adj.mpr ⟨x,hm0⟩
     have hlt:∀ r∈lk.map (road rs),r.1<r.2:=λr hr=>by
      obtain ⟨z,hz,rfl⟩:=List.mem_map.mp hr
      exact (g.2.2.2.1 _ (Zcs (hlk z hz))).2.1
     have least:∀ y',Adj (lk.map (road rs)) c y'->y<=y':=λy' a=>by
      obtain ⟨x',hx'⟩:=near_adj.mp a
      have:=lst _ hx'
      rw [<-Bool.not_eq_true,ltP_iff] at this
      dsimp only at this
      omega
     have erd:road rs x=Za8 c y:=by
      have:=(g.2.2.2.1 _ (Zcs vx)).2.1
      unfold Za8
      rcases hrd with e | e
      ·rw [e] at this ⊢
       dsimp only at this
       rw [if_neg (by omega),if_pos (by omega)]
      ·rw [e] at this ⊢
       dsimp only at this
       rw [if_pos (by omega),if_neg (by omega)]
     have eer:(lk.map (road rs)).erase (Za8 c y)=(lk.erase x).map (road rs):=by
      rw [<-erd]
      exact Zdz g hlk vx
     have hll:(lk.erase x).length+1=lk.length:=by
      rw [List.length_erase_of_mem hxl]
      have:=List.length_pos_of_mem hxl
      omega
     refine ⟨(lk.erase x).length+1,by omega,nb,lk.erase x,front++[c],y,pre++[y],_,rfl,s9.put hHro,Zal ela9 hne,by rw [Zab,List.map_append (l₁:=front++[c])];rfl,by rw [efp];rfl,λz hz=>hlk z (List.mem_of_mem_erase hz),by rw [List.length_append,List.length_singleton];omega,λtl rest h=>?_,.inr (.inl ⟨ys,_,Zal enb9 (Ne.symm nbr),pr9.keep k10,hpp,rfl⟩)⟩
     have:=cont (y::tl) rest (.go adj least (by rw [eer];exact h))
     rw [List.append_assoc]
     exact this
  ·refine ⟨_,rfl,Zbw ?_⟩
   have wk:=cont [] _ (.stop no)
   rw [List.append_nil] at wk
   rw [efp] at ero
   exact ⟨_,rfl,q ro pre _ H5 (s4.trans s5) hHro (s5 _ _ ero) wk⟩
end
end M
namespace M
open PySem L2
section
variable {P:Program} {w:World} {K:PySem.W.Frag} {mg:Str->Option Value} {base:Heap}
def Zmc:Sp:=λvs H Q _=>∃ (wb l kl:Addr) (k p q:Int) (xs:List V) (rs:List (Int×Int)) (ks:List Int),vs=[.ref wb,.int p,.int q,.ref kl]/\WebAt H wb l k xs rs/\Zah k rs/\H kl=some (.lst (ks.map V.int))/\ks.length<=200 /\
 (¬ (Zbg rs ks/\Zjp rs ks k p q)->∀ H',Same H H'->Q .non H')/\(Zbg rs ks->Zjp rs ks k p q->∀ (tl:List Int) (rest:List (Int×Int)),Wk (ks.map (road rs)) p tl rest->(tl.length=ks.length->∀ (r:Addr) (H':Hp),Same H H'->H r=none->H' r=some (.lst ((p::tl).map V.int))->Q (.ref r) H')/\(tl.length≠ks.length->∀ H',Same H H'->Q .non H'))
theorem scOpe:Zaw ["web", "one", "other", "roads", "place", "many", "row"] ["web", "one", "other", "roads"] (Zad Zkq):=⟨rfl,rfl,rfl,by decide +kernel,rfl,by decide +kernel,by decide +kernel⟩
theorem Znu (x:Int):inV (.int x) [.int 1]=decide (x∈[(1:Int)]):=ZdZ x [1]
theorem Zjx (x:Int):inV (.int x) [.int 0,.int 2]=decide (x∈[(0:Int),2]):=ZdZ x [0,2]
theorem ZhQ (p:Int) (tl ks:List Int):decide (V.int (((p::tl).map V.int).length:Int)=V.int (((ks.map V.int).length:Int)+1))=decide (tl.length=ks.length):=by
 rw [List.length_map,List.length_map,List.length_cons]
 by_cases h:tl.length=ks.length
 ·rw [decide_eq_true h,decide_eq_true (congrArg V.int (by omega))]
 ·rw [decide_eq_false h,decide_eq_false (λz=>h (by have:=V.int.inj z;omega))]
theorem Zmd {f fI fA fK:Addr} {fd fdI fdA fdK:FuncData} (F:Fun K "_law_open" "_law_open" Zkq f fd) (FI:Fun K "_law_is_set" "_law_is_set" Zji fI fdI) (bI:Binds K fdI ["web", "roads"] []) (mI:mg "_law_is_set" = some (.ref fI)) (FA:Fun K "_law_at" "_law_at" Zjj fA fdA) (bA:Binds K fdA ["web", "roads", "place"] []) (mA:mg "_law_at" = some (.ref fA))
  (FK:Fun K "_law_walk" "_law_walk" Zhr fK fdK) (bK:Binds K fdK ["web", "roads", "place"] []) (mK:mg "_law_walk" = some (.ref fK)) (mRange:mg "range" = none) (mLen:mg "len" = none) (mInt:mg "int" = none) (mLst:mg "list" = none) (mMin:mg "min" = none):ZaN P w K mg base CX0 2 f fd ["web", "one", "other", "roads"] Zmc:=by
 have GI:ZaN P w K mg base CX0 1 fI fdI ["web", "roads"] ZkI:=Zju FI mRange mLen
 have GA:ZaN P w K mg base CX0 1 fA fdA ["web", "roads", "place"] ZkJ:=Zjv FA mLen
 have GK:ZaN P w K mg base CX0 1 fK fdK ["web", "roads", "place"] ZkK:=Zjw FK mLst mMin
 refine F.ok scOpe (λvs H Q E h=>?_) (λcdv A outer s H vs Q E hr h=>?_)
 ·obtain ⟨_,_,_,_,_,_,_,_,_,rfl,_⟩:=h
  rfl
 ·obtain ⟨wb,l,kl,k,p,q',xs,rs,ks,rfl,W,g,hk,hkl,hno,hyes⟩:=h
  have h16:(16777216:Nat)=sizeLine:=sizeLine_eq.symm
  have n1:1<=sizeLine:=by omega
  have hx:xs.length<=30:=by rw [W.p.len];exact g.2.2.1
  refine ⟨_,Zae (Za1 (ZbY (Zbh (Zaj GI (hr.mono (by decide)) rfl mI FI.kp bI .nil ZaG (Zaa (pv 0) (Zaa (pv 3) Zac))))) (Zag (Zay Zb8)) ZaA)
    (Zae (Zbi PassesOwn.never rfl (ZaQ rfl mRange (Zaa (ZaB (ZcA K) (pv 0) Zaf (λ_ _=>rfl)) Zac)) (Zat (i:=4) scOpe.nd rfl (Or.inl rfl))
    (Zae (Zau (i:=5) scOpe.nd rfl (Or.inl rfl) (Zaj GA (hr.mono (by decide)) rfl mA FA.kp bA .nil ZaG (Zaa (pv 0) (Zaa (pv 3) (Zaa (pv 4) Zac)))))
    (Zag (Za1 (Zax (ZgW K) (pv 5) (ZaB (Zdf K) (ZaF (Zaa (ZaF (Zaa Zaf (Zaa Zaf Zac))) (Zaa (ZaF (Zaa Zaf Zac)) Zac))) (Zbv ZcW rfl mInt ZdI (Zaa (ZmI (Zcz Zdh (pv 4) (pv 1) (ZaD _)) (Zi0 (Zcz Zdh (pv 4) (pv 2) (ZaD _)))) Zac)) (λ_ _=>rfl)) (by with_unfolding_all rfl)) (Zag (Zay Zb8)) ZaA))))
    (Zae (Zau (i:=6) scOpe.nd rfl (Or.inl rfl) (Zaj GK (hr.mono (by decide)) rfl mK FK.kp bK .nil ZaG (Zaa (pv 0) (Zaa (pv 3) (Zaa (pv 1) Zac)))))
    (Zag (Zay (ZaB (Zdf K) (ZaF (Zaa Zb8 (Zaa (pv 6) Zac))) (Zbv ZcW rfl mInt ZdI (Zaa (Zcz Zdh (Zar (Zf7 K) rfl mLen PySem.boot_len (Zaa (pv 6) Zac)) (Zav ZaK (Zar (Zf7 K) rfl mLen PySem.boot_len (Zaa (pv 3) Zac)) Zaf) (ZaD _)) Zac)) (λ_ _=>rfl)))))),?_⟩
  refine ⟨_,rfl,_,rfl,wb,l,kl,k,xs,rs,ks,rfl,W,hx,hk,hkl,λb hb=>⟨_,rfl,?_⟩⟩
  cases b with
  | false=>exact Zce (hno (λz=>absurd (hb.mpr z.1) Bool.false_ne_true) H (Same.refl _))
  | true=>
  refine Zbw ?_
  have S:=hb.mp rfl
  dsimp only [ZhZ]
  obtain ⟨kn,hkn⟩:=Int.eq_ofNat_of_zero_le (show 0<=k by have:=g.1;omega)
  have hk16:=g.2.1
  refine ⟨_,rfl,wb,_,_,_,rfl,rfl,SqT.of W.w,Zam (j:=0) rfl,_,rfl,by omega,by omega,?_⟩
  rw [hkn,Int.toNat_natCast]
  refine Zbc (lo:=0) (n:=kn) (λi σ' H'=>∃ v4 v5:Option V,σ'=[some (.ref wb),some (.int p),some (.int q'),some (.ref kl),v4,v5,none]/\Same H H'/\∀ j:Nat,j<i->if (j:Int)=p\/(j:Int)=q' then degK rs ks (j:Int)=1 else degK rs ks (j:Int)=0\/degK rs ks (j:Int)=2) ⟨none,none,rfl,Same.refl _,λj hj=>absurd hj (Nat.not_lt_zero j)⟩ ?_ ?_
  ·rintro i σ' H1 hi ⟨v4,v5,rfl,s1,up⟩
   rw [Int.zero_add]
   have bad:¬ (if (i:Int)=p\/(i:Int)=q' then degK rs ks (i:Int)=1 else degK rs ks (i:Int)=0\/degK rs ks (i:Int)=2)->∀ H',Same H H'->Q .non H':=λz H' s'=>hno (λy=>z (y.2 (i:Int) (by omega) (by omega))) H' s'
   have good:(if (i:Int)=p\/(i:Int)=q' then degK rs ks (i:Int)=1 else degK rs ks (i:Int)=0\/degK rs ks (i:Int)=2)->∀ j:Nat,j<i+1->if (j:Int)=p\/(j:Int)=q' then degK rs ks (j:Int)=1 else degK rs ks (j:Int)=0\/degK rs ks (j:Int)=2:=λz j hj=>by
    by_cases e:j=i
    ·subst e;exact z
    ·exact up j (by omega)
   refine ⟨_,rfl,_,rfl,_,rfl,wb,l,kl,k,(i:Int),xs,rs,ks,rfl,W.same s1,s1 _ _ hk,hkl,S.2,λH2 s2=>?_⟩
   have S2:=s1.trans s2
   refine ⟨_,rfl,ZaT,λa1 h1=>?_⟩
   have s3:Same H2 (upd H2 a1 (.lst [.int 0,.int 2])):=Same.new h1
   have e1:upd H2 a1 (.lst [.int 0,.int 2]) a1=some (.lst [.int 0,.int 2]):=Zab
   generalize upd H2 a1 (.lst [.int 0,.int 2])=H3 at s3 e1 ⊢
   refine ⟨n1,λa2 h2=>?_⟩
   have s4:Same H3 (upd H3 a2 (.lst [.int 1])):=Same.new h2
   have e2:upd H3 a2 (.lst [.int 1]) a2=some (.lst [.int 1]):=Zab
   generalize upd H3 a2 (.lst [.int 1])=H4 at s4 e2 ⊢
   refine ⟨ZaT,λa3 h3=>?_⟩
   have s5:Same H4 (upd H4 a3 (.lst [.ref a1,.ref a2])):=Same.new h3
   have e3:upd H4 a3 (.lst [.ref a1,.ref a2]) a3=some (.lst [.ref a1,.ref a2]):=Zab
   generalize upd H4 a3 (.lst [.ref a1,.ref a2])=H5 at s5 e3 ⊢
   have S5:=S2.trans ((s3.trans s4).trans s5)
   have e15:=s5 _ _ (s4 _ _ e1)
   have e25:=s5 _ _ e2
   have two:(((i:Int)=p\/(i:Int)=q'))->(if (!inV (.int (degK rs ks (i:Int):Nat)) [.int 1])=true then Q .non H5 else ∃ v4 v5:Option V,([some (.ref wb),some (.int p),some (.int q'),some (.ref kl),some (.int (i:Int)),some (.int (degK rs ks (i:Int):Nat)),none]:St)=[some (.ref wb),some (.int p),some (.int q'),some (.ref kl),v4,v5,none]/\Same H H5/\∀ j:Nat,j<i+1->if (j:Int)=p\/(j:Int)=q' then degK rs ks (j:Int)=1 else degK rs ks (j:Int)=0\/degK rs ks (j:Int)=2):=λz=>by
    rw [Znu]
    refine Zde (λy=>bad (λu=>?_) H5 S5) (λy=>⟨_,_,rfl,S5,good ?_⟩)
    ·rw [if_pos z] at u
     rw [u] at y
     exact absurd y (by decide)
    ·rw [if_pos z]
     have:((degK rs ks (i:Int):Nat):Int)∈[(1:Int)]:=by
      by_cases d:((degK rs ks (i:Int):Nat):Int)∈[(1:Int)]
      ·exact d
      ·rw [decide_eq_false d] at y
       exact absurd rfl y
     rw [List.mem_singleton] at this
     omega
   refine ⟨_,rfl,_,rfl,rfl,_,rfl,Zde (λc1=>?_) (λc1=>?_)⟩
   ·have c1:(i:Int)=p:=V.int.inj (of_decide_eq_true c1)
    exact .inr ⟨true,rfl,a3,_,_,_,rfl,rfl,SqL.of e3,Zam (j:=1) rfl,a2,_,rfl,.inl (SqL.of e25),rfl,rfl,_,rfl,two (.inl c1)⟩
   have c1:¬ (i:Int)=p:=λz=>c1 (decide_eq_true (congrArg V.int z))
   refine ⟨_,rfl,_,rfl,rfl,?_⟩
   by_cases c2:(i:Int)=q'
   ·rw [decide_eq_true (congrArg V.int c2)]
    exact .inr ⟨true,rfl,a3,_,_,_,rfl,rfl,SqL.of e3,Zam (j:=1) rfl,a2,_,rfl,.inl (SqL.of e25),rfl,rfl,_,rfl,two (.inr c2)⟩
   ·rw [decide_eq_false (λz=>c2 (V.int.inj z))]
    refine .inr ⟨false,rfl,a3,_,_,_,rfl,rfl,SqL.of e3,Zam (j:=0) rfl,a1,_,rfl,.inl (SqL.of e15),rfl,rfl,_,rfl,?_⟩
    show if (!inV (.int (degK rs ks (i:Int):Nat)) [.int 0,.int 2])=true then _ else _
    rw [Zjx]
    have z:¬ ((i:Int)=p\/(i:Int)=q'):=λy=>y.elim c1 c2
    refine Zde (λy=>bad (λu=>?_) H5 S5) (λy=>⟨_,_,rfl,S5,good ?_⟩)
    ·rw [if_neg z] at u
     rcases u with u | u
     ·rw [u] at y;exact absurd y (by decide)
     ·rw [u] at y;exact absurd y (by decide)
    ·rw [if_neg z]
     have:((degK rs ks (i:Int):Nat):Int)∈[(0:Int),2]:=by
      by_cases d:((degK rs ks (i:Int):Nat):Int)∈[(0:Int),2]
      ·exact d
      ·rw [decide_eq_false d] at y
       exact absurd rfl y
     rcases List.mem_cons.mp this with u | u
     ·left;omega
     ·rw [List.mem_singleton] at u
      right;omega
  ·rintro σ' H1 ⟨v4,v5,rfl,s1,up⟩
   have D:Zjp rs ks k p q':=λx x0 x1=>by
    have:=up x.toNat (by omega)
    rw [Int.toNat_of_nonneg x0] at this
    exact this
   refine ⟨_,rfl,_,rfl,_,rfl,wb,l,kl,k,p,xs,rs,ks,rfl,W.same s1,g,s1 _ _ hk,hkl,S.2,λr tl rest H2 s2 hr0 er wk=>?_⟩
   obtain ⟨y1,y2⟩:=hyes S D tl rest wk
   refine ⟨_,rfl,ZaT,λa1 h1=>?_⟩
   have s3:Same H2 (upd H2 a1 (.lst [.non,.ref r])):=Same.new h1
   have e1:upd H2 a1 (.lst [.non,.ref r]) a1=some (.lst [.non,.ref r]):=Zab
   generalize upd H2 a1 (.lst [.non,.ref r])=H3 at s3 e1 ⊢
   have S3:=(s1.trans s2).trans s3
   refine ⟨_,rfl,r,_,rfl,.inl (SqL.of (s3 _ _ er)),_,rfl,kl,_,rfl,.inl (SqL.of (S3 _ _ hk)),_,_,rfl,rfl,rfl,?_⟩
   show (∃ i,[V.bl (decide (V.int (((p::tl).map V.int).length:Int)=V.int (((ks.map V.int).length:Int)+1)))]=[V.int i]/\_)\/∃ c,[V.bl (decide (V.int (((p::tl).map V.int).length:Int)=V.int (((ks.map V.int).length:Int)+1)))]=[V.bl c]/\_
   rw [ZhQ]
   by_cases e:tl.length=ks.length
   ·rw [decide_eq_true e]
    exact .inr ⟨true,rfl,a1,_,_,_,rfl,rfl,SqL.of e1,Zam (j:=1) rfl,y1 e r H3 S3 (s1.free hr0) (s3 _ _ er)⟩
   ·rw [decide_eq_false e]
    exact .inr ⟨false,rfl,a1,_,_,_,rfl,rfl,SqL.of e1,Zam (j:=0) rfl,y2 e H3 S3⟩
end
end M
namespace M
open PySem L2
section
variable {P:Program} {w:World} {K:PySem.W.Frag} {mg:Str->Option Value} {base:Heap}
def Zme:Sp:=λvs H Q _=>∃ (wb l kl:Addr) (k:Int) (xs:List V) (rs:List (Int×Int)) (ks:List Int),vs=[.ref wb,.ref kl]/\WebAt H wb l k xs rs/\Zah k rs/\H kl=some (.lst (ks.map V.int))/\ks.length<=200 /\
 (¬ (Zbg rs ks/\3<=ks.length/\Zjq rs ks k)->∀ H',Same H H'->Q .non H')/\(Zbg rs ks->3<=ks.length->Zjq rs ks k->∀ (s:Int) (tl:List Int) (rest:List (Int×Int)),Begins (ks.map (road rs)) s->Wk (ks.map (road rs)) s tl rest->(tl.length=ks.length->∀ (r:Addr) (H':Hp),Same H H'->H r=none->H' r=some (.lst ((s::tl).dropLast.map V.int))->Q (.ref r) H')/\(tl.length≠ks.length->∀ H',Same H H'->Q .non H'))
theorem scRin:Zaw ["web", "roads", "row"] ["web", "roads"] (Zad Zjk):=⟨rfl,rfl,rfl,by decide +kernel,rfl,by decide +kernel,by decide +kernel⟩
theorem ZkL {K:PySem.W.Frag} {H:Hp} {a e:Addr} {ns:List Int} {Q:VK} (ha:H a=some (.lst (ns.map V.int))) (he:H e=some (.lst [])) (q:Q (.bl (!decide (ns=[]))) H):Zln K true (.ref a) (.ref e) H Q:=by
 refine ⟨.list (ns.map PyData.int),.list (([]:List Int).map PyData.int),.lst (SqL.of ha) (ZbB _),.lst (SqL.of he) .nil,Zbq _,Zbq _,?_⟩
 rw [ZdM]
 have:(true != decide (ns=[]))=!decide (ns=[]):=by cases decide (ns=[]) <;> rfl
 rw [this]
 exact q
theorem Zmf {f fI fA fK:Addr} {fd fdI fdA fdK:FuncData} (F:Fun K "_law_ring" "_law_ring" Zjk f fd) (FI:Fun K "_law_is_set" "_law_is_set" Zji fI fdI) (bI:Binds K fdI ["web", "roads"] []) (mI:mg "_law_is_set" = some (.ref fI)) (FA:Fun K "_law_at" "_law_at" Zjj fA fdA) (bA:Binds K fdA ["web", "roads", "place"] []) (mA:mg "_law_at" = some (.ref fA))
  (FK:Fun K "_law_walk" "_law_walk" Zhr fK fdK) (bK:Binds K fdK ["web", "roads", "place"] []) (mK:mg "_law_walk" = some (.ref fK)) (mRange:mg "range" = none) (mLen:mg "len" = none) (mInt:mg "int" = none) (mLst:mg "list" = none) (mMin:mg "min" = none):ZaN P w K mg base CX0 2 f fd ["web", "roads"] Zme:=by
 have GI:ZaN P w K mg base CX0 1 fI fdI ["web", "roads"] ZkI:=Zju FI mRange mLen
 have GA:ZaN P w K mg base CX0 1 fA fdA ["web", "roads", "place"] ZkJ:=Zjv FA mLen
 have GK:ZaN P w K mg base CX0 1 fK fdK ["web", "roads", "place"] ZkK:=Zjw FK mLst mMin
 refine F.ok scRin (λvs H Q E h=>?_) (λcdv A outer s H vs Q E hr h=>?_)
 ·obtain ⟨_,_,_,_,_,_,_,rfl,_⟩:=h
  rfl
 ·obtain ⟨wb,l,kl,k,xs,rs,ks,rfl,W,g,hk,hkl,hno,hyes⟩:=h
  have h16:(16777216:Nat)=sizeLine:=sizeLine_eq.symm
  have hu:(A.deeper (PyProof.Rows.envOfC "_law_ring" (Zad Zjk) s.heap.objs.size f cdv)).units+64<cLine:=by have:=hr.un;omega
  have hx:xs.length<=30:=by rw [W.p.len];exact g.2.2.1
  refine ⟨_,Zae (Za1 (PW.pt (Zea (ZbY (Zbh (Zaj GI (hr.mono (by decide)) rfl mI FI.kp bI .nil ZaG (Zaa (pv 0) (Zaa (pv 1) Zac))))) (Zdl (Zax Zf1 (Zar (Zf7 K) rfl mLen PySem.boot_len (Zaa (pv 1) Zac)) Zaf (ZaD _))))) (Zag (Zay Zb8)) ZaA)
    (Zae (Za1 (Zax (ZkU K hu) (Za2 (own:=["place"]) rfl (Zaq (fr:=[("web", 0),("roads", 1)]) [(".0", .local),("place", .local),("_law_at", .globalImplicit),("roads", .cell),("web", .cell)] rfl rfl (by decide +kernel) rfl (by decide +kernel) ⟨rfl,rfl,trivial⟩ ⟨λh=>ZaP h,λh=>ZaP h,λh=>ZaP h,λ_=>⟨_,rfl⟩,λ_=>⟨_,rfl⟩,trivial⟩ ⟨⟨rfl,.inl rfl,.inl rfl⟩,⟨rfl,.inl rfl,.inl rfl⟩,trivial⟩) (ZaQ rfl mRange (Zaa (ZaB (ZcA K) (pv 0) Zaf (λ_ _=>rfl)) Zac)) (λ_ _ _ _=>Zat (i:=0) (show List.Nodup (["place", "web", "roads"]:List Str) by decide +kernel) rfl (Or.inl rfl)) (λ_ _ _ _=>Za9 (Zax (ZgW K) (Zaj GA (hr.mono (by decide)) rfl mA FA.kp bA .nil ZaG (Zaa (pv 1) (Zaa (pv 2) (Zaa (pv 0) Zac)))) (ZaF (Zaa Zaf (Zaa Zaf Zac))) (by with_unfolding_all rfl))) (λ_ _ _ _=>pv 0)) (ZaF Zac) (ZaD _)) (Zag (Zay Zb8)) ZaA)
    (Zae (Zau (i:=2) scRin.nd rfl (Or.inl rfl) (Zaj GK (hr.mono (by decide)) rfl mK FK.kp bK .nil ZaG (Zaa (pv 0) (Zaa (pv 1) (Zaa (Zar (ZoF K rfl) rfl mMin Zci (Zaa (Za2 (own:=["k"]) rfl (Zaq (fr:=[("web", 0)]) [(".0", .local),("k", .local),("min", .globalImplicit),("web", .cell)] rfl rfl (by decide +kernel) rfl (by decide +kernel) ⟨rfl,trivial⟩ ⟨λh=>ZaP h,λh=>ZaP h,λh=>ZaP h,λ_=>⟨_,rfl⟩,trivial⟩ ⟨⟨rfl,.inl rfl,.inl rfl⟩,trivial⟩) (ZbX K (pv 1)) (λ_ _ _ _=>Zat (i:=0) (show List.Nodup (["k", "web"]:List Str) by decide +kernel) rfl (Or.inl rfl)) (λ_ _ _ _=>ZbK) (λ_ _ _ _=>Zar (Zni K rfl) rfl mMin Zci (Zaa (ZaB (Zdf K) (ZaB (ZcA K) (pv 1) Zaf (λ_ _=>rfl)) (pv 0) (λ_ _=>rfl)) Zac))) Zac)) Zac)))))
    (Zag (Zay (ZaB (Zdf K) (ZaF (Zaa Zb8 (Zaa (Zcb (kSl K) (pv 2) ZcX (ZcY (Zec ZbA Zaf))) Zac))) (Zbv ZcW rfl mInt ZdI (Zaa (Zcz Zdh (Zar (Zf7 K) rfl mLen PySem.boot_len (Zaa (pv 2) Zac)) (Zav ZaK (Zar (Zf7 K) rfl mLen PySem.boot_len (Zaa (pv 1) Zac)) Zaf) (ZaD _)) Zac)) (λ_ _=>rfl)))))),?_⟩
  refine ⟨_,rfl,_,rfl,wb,l,kl,k,xs,rs,ks,rfl,W,hx,hk,by omega,λb hb=>⟨_,rfl,?_⟩⟩
  cases b with
  | false=>exact Zce (Zce (hno (λz=>absurd (hb.mpr z.1) Bool.false_ne_true) H (Same.refl _)))
  | true=>
  refine Zbw ?_
  have S:=hb.mp rfl
  refine ⟨_,rfl,kl,_,rfl,.inl (SqL.of hk),_,_,rfl,rfl,_,rfl,?_⟩
  rw [List.length_map]
  refine Zde (λc=>?_) (λc=>?_)
  ·have c:=of_decide_eq_true c
   exact hno (λz=>by have:=z.2.1;omega) H (Same.refl _)
  have h3:3<=ks.length:=by
   have:¬ ((ks.length:Nat):Int)<3:=λz=>c (decide_eq_true z)
   omega
  dsimp only [ZhZ]
  obtain ⟨kn,hkn⟩:=Int.eq_ofNat_of_zero_le (show 0<=k by have:=g.1;omega)
  have hk16:=g.2.1
  refine ⟨_,rfl,wb,_,_,_,rfl,rfl,SqT.of W.w,Zam (j:=0) rfl,_,rfl,by omega,by omega,λD hD=>?_⟩
  rw [hkn,Int.toNat_natCast]
  refine ZbM (lo:=0) (n:=kn) (λi ys H'=>Same H H'/\H' D=some (.lst ys)/\∃ bs:List Int,ys=bs.map V.int/\bs.length<=i/\(bs=[]↔∀ j:Nat,j<i->degK rs ks (j:Int)=0\/degK rs ks (j:Int)=2)) ⟨Same.new hD,Zab,[],rfl,Nat.le_refl _,λ_ j hj=>absurd hj (Nat.not_lt_zero j),λ_=>rfl⟩ ?_ ?_
  ·rintro i ys H1 hi ⟨s1,hD1,bs,rfl,hbl,hbs⟩
   rw [Int.zero_add]
   refine ⟨⟨rfl,rfl,trivial⟩,?_⟩
   refine ⟨_,rfl,_,rfl,_,rfl,wb,l,kl,k,(i:Int),xs,rs,ks,rfl,W.same s1,s1 _ _ hk,by omega,S.2,λH2 s2=>?_⟩
   refine ⟨ZaT,λa1 h1=>?_⟩
   have s3:Same H2 (upd H2 a1 (.lst [.int 0,.int 2])):=Same.new h1
   have e1:upd H2 a1 (.lst [.int 0,.int 2]) a1=some (.lst [.int 0,.int 2]):=Zab
   generalize upd H2 a1 (.lst [.int 0,.int 2])=H3 at s3 e1 ⊢
   have S3:=s1.trans (s2.trans s3)
   have hD3:=s3 _ _ (s2 _ _ hD1)
   refine ⟨a1,_,rfl,.inl (SqL.of e1),rfl,rfl,_,rfl,?_⟩
   show if (!inV (.int (degK rs ks (i:Int):Nat)) [.int 0,.int 2])=true then _ else _
   rw [Zjx]
   refine Zde (λy=>?_) (λy=>?_)
   ·refine ⟨_,rfl,hD3,by rw [List.length_map];omega,S3.put hD,Zab,bs++[(i:Int)],by rw [List.map_append];rfl,by rw [List.length_append,List.length_singleton];omega,λz=>absurd z (by simp),λz=>?_⟩
    have:=z i (by omega)
    rcases this with u | u
    ·rw [u] at y;exact absurd y (by decide)
    ·rw [u] at y;exact absurd y (by decide)
   ·refine ⟨S3,hD3,bs,rfl,by omega,λz j hj=>?_,λz=>hbs.mpr λj hj=>z j (by omega)⟩
    by_cases e:j=i
    ·subst e
     have:((degK rs ks (j:Int):Nat):Int)∈[(0:Int),2]:=by
      by_cases d:((degK rs ks (j:Int):Nat):Int)∈[(0:Int),2]
      ·exact d
      ·rw [decide_eq_false d] at y
       exact absurd rfl y
     rcases List.mem_cons.mp this with u | u
     ·left;omega
     ·rw [List.mem_singleton] at u
      right;omega
    ·exact hbs.mp z j (by omega)
  ·rintro ys H1 ⟨s1,hD1,bs,rfl,hbl,hbs⟩
   refine ⟨Nat.zero_le _,λe0 he0=>?_⟩
   have s2:Same H1 (upd H1 e0 (.lst [])):=Same.new he0
   have ee0:upd H1 e0 (.lst []) e0=some (.lst []):=Zab
   generalize upd H1 e0 (.lst [])=H2 at s2 ee0 ⊢
   have S2:=s1.trans s2
   refine ZkL (s2 _ _ hD1) ee0 ⟨_,rfl,?_⟩
   by_cases hb0:bs=[]
   ·rw [decide_eq_true hb0]
    refine Zbw ?_
    have DC:Zjq rs ks k:=λx x0 x1=>by
     have:=hbs.mp hb0 x.toNat (by omega)
     rw [Int.toNat_of_nonneg x0] at this
     exact this
    dsimp only [ZhZ]
    have W2:=W.same S2
    have hk2:=S2 _ _ hk
    refine ⟨_,rfl,_,rfl,_,rfl,kl,rfl,⟨_,SqL.of hk2⟩,λD2 hD2=>?_⟩
    refine ZaR (K:=K) (a:=kl) (xs:=ks.map V.int) (λi ys H'=>Same H2 H'/\H' D2=some (.lst ys)/\ys=((ks.take i).map λx=>(road rs x).1).map V.int) ⟨Same.new hD2,Zab,rfl⟩ (λi ys H' _ ⟨s3,_⟩=>SqL.of (s3 _ _ hk2)) ?_ ?_
    ·rintro i x ys H3 hxi ⟨s3,hD3,rfl⟩
     rw [List.getElem?_map] at hxi
     cases hz:ks[i]? with
     | none=>rw [hz] at hxi;cases hxi
     | some z=>
      rw [hz] at hxi
      cases hxi
      have hi:i<ks.length:=(List.getElem?_eq_some_iff.mp hz).1
      have W3:=W2.same s3
      have vz:=S.2 z (List.mem_of_getElem? hz)
      obtain ⟨t,et,eh⟩:=Zfo W3 vz
      have hg:=(g.2.2.2.1 _ (Zcs vz)).2.1
      refine ⟨⟨rfl,trivial⟩,?_⟩
      unfold ZjN
      refine Zce ?_
      refine ⟨_,rfl,wb,_,_,_,rfl,rfl,SqT.of W3.w,Zam (j:=1) rfl,_,rfl,l,_,_,_,rfl,rfl,SqL.of W3.l,et,t,[(road rs z).1,(road rs z).2],rfl,SqT.of eh,by simp,λm hm hle=>?_⟩
      have em:m=(road rs z).1:=by
       have h1:=hle (road rs z).1 (List.mem_cons_self ..)
       rcases List.mem_cons.mp hm with e | e
       ·exact e
       ·rw [List.mem_singleton] at e
        omega
      subst em
      refine ⟨hD3,by rw [List.length_map,List.length_map,List.length_take];omega,s3.put hD2,Zab,?_⟩
      rw [List.take_add_one,hz,List.map_append,List.map_append]
      rfl
    ·rintro ys H3 ⟨s3,hD3,rfl⟩
     rw [List.length_map,List.take_length] at hD3
     refine ⟨D2,ks.map λx=>(road rs x).1,rfl,SqL.of hD3,λz=>?_,λm hm hle=>?_⟩
     ·rw [List.map_eq_nil_iff] at z
      rw [z] at h3
      exact absurd h3 (by decide)
     have B:Begins (ks.map (road rs)) m:=by
      obtain ⟨x,hx',e⟩:=List.mem_map.mp hm
      refine ⟨λt ht=>?_,road rs x,List.mem_map.mpr ⟨x,hx',rfl⟩,e⟩
      obtain ⟨y,hy,rfl⟩:=List.mem_map.mp ht
      exact hle _ (List.mem_map.mpr ⟨y,hy,rfl⟩)
     refine ⟨wb,l,kl,k,m,xs,rs,ks,rfl,W2.same s3,g,s3 _ _ hk2,by omega,S.2,λr tl rest H4 s4 hr0 er wk=>?_⟩
     obtain ⟨y1,y2⟩:=hyes S h3 DC m tl rest B wk
     refine ⟨_,rfl,_,rfl,_,rfl,r,_,rfl,SqL.of er,λpl hpl=>?_⟩
     rw [Zl2]
     have s5:Same H4 (upd H4 pl (.lst ((m::tl).dropLast.map V.int))):=Same.new hpl
     have epl:upd H4 pl (.lst ((m::tl).dropLast.map V.int)) pl=some (.lst ((m::tl).dropLast.map V.int)):=Zab
     generalize upd H4 pl (.lst ((m::tl).dropLast.map V.int))=H5 at s5 epl ⊢
     have S4:=S2.trans (s3.trans s4)
     refine ⟨ZaT,λa1 h1=>?_⟩
     have s6:Same H5 (upd H5 a1 (.lst [.non,.ref pl])):=Same.new h1
     have e1:upd H5 a1 (.lst [.non,.ref pl]) a1=some (.lst [.non,.ref pl]):=Zab
     generalize upd H5 a1 (.lst [.non,.ref pl])=H6 at s6 e1 ⊢
     have S6:=S4.trans (s5.trans s6)
     refine ⟨_,rfl,r,_,rfl,.inl (SqL.of (s6 _ _ (s5 _ _ er))),_,rfl,kl,_,rfl,.inl (SqL.of (S6 _ _ hk)),_,_,rfl,rfl,rfl,?_⟩
     show (∃ i,[V.bl (decide (V.int (((m::tl).map V.int).length:Int)=V.int (((ks.map V.int).length:Int)+1)))]=[V.int i]/\_)\/∃ c,[V.bl (decide (V.int (((m::tl).map V.int).length:Int)=V.int (((ks.map V.int).length:Int)+1)))]=[V.bl c]/\_
     rw [ZhQ]
     by_cases e:tl.length=ks.length
     ·rw [decide_eq_true e]
      exact .inr ⟨true,rfl,a1,_,_,_,rfl,rfl,SqL.of e1,Zam (j:=1) rfl,y1 e pl H6 S6 (S4.free hpl) (s6 _ _ epl)⟩
     ·rw [decide_eq_false e]
      exact .inr ⟨false,rfl,a1,_,_,_,rfl,rfl,SqL.of e1,Zam (j:=0) rfl,y2 e H6 S6⟩
   ·rw [decide_eq_false hb0]
    refine Zce (hno (λz=>hb0 (hbs.mpr λj hj=>z.2.2 (j:Int) (by omega) (by omega))) H2 S2)
end
end M
namespace M
open PySem L2
section
variable {P:Program} {w:World} {K:PySem.W.Frag} {mg:Str->Option Value} {base:Heap}
structure ClsR (K:PySem.W.Frag) (mg:Str->Option Value) (no way a1 a2 a3 a4 a5 a6 a7 a8 a9 a10 a11 a12:Addr):Prop where
 k:ZmD K no
 mno:mg "NoEnds" = some (.ref no)
 mway:mg "WayError" = some (.ref way)
 m1:mg "NoName" = some (.ref a1)
 m2:mg "NoNumber" = some (.ref a2)
 m3:mg "NoOrder" = some (.ref a3)
 m4:mg "NoPlace" = some (.ref a4)
 m5:mg "NoRow" = some (.ref a5)
 m6:mg "NoStep" = some (.ref a6)
 m7:mg "NoTable" = some (.ref a7)
 m8:mg "NoText" = some (.ref a8)
 m9:mg "NoWall" = some (.ref a9)
 m10:mg "NoWay" = some (.ref a10)
 m11:mg "NoWeb" = some (.ref a11)
 m12:mg "TooMany" = some (.ref a12)
 wbe:PySem.W.subIn K (.ref way) (.type "BaseException")=some true
 cw:PySem.W.kitOne K (.ref no) (.ref way)=some true
 ne:no≠way
 t10:PySem.W.kitAny K (.ref no) [.ref a1,.ref a2,.ref a3,.ref a4,.ref a5,.ref a6,.ref a7,.ref a8,.ref a9,.ref a10]=some false
 t2:PySem.W.kitAny K (.ref no) [.ref a11,.ref a12]=some false
 ve:PySem.W.kitOne K (.ref no) (.type "ValueError")=some true
 isi:mg "isinstance" = none
 vee:mg "ValueError" = none
theorem ClsR.cls {K:PySem.W.Frag} {mg:Str->Option Value} {no way a1 a2 a3 a4 a5 a6 a7 a8 a9 a10 a11 a12:Addr} (T:ClsR K mg no way a1 a2 a3 a4 a5 a6 a7 a8 a9 a10 a11 a12):PySem.W.kitCls K (.ref no) (.ref way)=some true:=by
 have h:=T.cw
 unfold PySem.W.kitOne at h
 rw [if_neg (by simpa using T.ne)] at h
 exact h
theorem ZkM {k:Int} (h0:0<=k) (h1:k<=1000):Lt2 9000 k:=Nat.lt_of_lt_of_le (show k.natAbs<2 ^ 10 by omega) (Nat.pow_le_pow_right (by decide) (by decide))
def Zmg:Sp:=λvs H Q _=>∃ (d:Addr) (n k:Int),vs=[.ref d,.int k]/\H d=some (.lst [.int n])/\1<=k/\k<=16/\∀ (t:Addr) (p q:Int) (H':Hp),Dk H H' d->H t=none->H' t=some (.tup [.int p,.int q])->(0<=p/\p<k)->(0<=q/\q<k)->Q (.ref t) H'
theorem scEnd:Zaw ["deck", "places", "one"] ["deck", "places"] (Zad Zkn):=⟨rfl,rfl,rfl,by decide +kernel,rfl,by decide +kernel,by decide +kernel⟩
theorem Zmh {f fT:Addr} {fd fdT:FuncData} (F:Fun K "_law_ends" "_law_ends" Zkn f fd) (FT:Fun K "_law_take" "_law_take" ZdY fT fdT) (bT:Binds K fdT ["deck", "many"] []) (mT:mg "_law_take" = some (.ref fT)) (mMax:mg "max" = none):ZaN P w K mg base CX0 2 f fd ["deck", "places"] Zmg:=by
 have GT:ZaN P w K mg base CX0 1 fT fdT ["deck", "many"] ZfL:=Zfi FT
 refine F.ok scEnd (λvs H Q E h=>?_) (λcdv A outer s H vs Q E hr h=>?_)
 ·obtain ⟨_,_,_,rfl,_⟩:=h
  rfl
 ·obtain ⟨d,n,k,rfl,hd,k0,k1,q⟩:=h
  refine ⟨_,Zae (Zau (i:=2) scEnd.nd rfl (Or.inl rfl) (Zaj GT (hr.mono (by decide)) rfl mT FT.kp bT .nil ZaG (Zaa (pv 0) (Zaa (pv 1) Zac))))
    (Zag (Zay (ZaV (Zaa (pv 2) (Zaa (Zav Zed (Zav ZaK (Zav ZaK (pv 2) Zaf) (Zaj GT (hr.mono (by decide)) rfl mT FT.kp bT .nil ZaG (Zaa (pv 0) (Zaa (Zar (ZgF rfl) rfl mMax ZiG (Zaa Zaf (Zaa (Zav ZcV (pv 1) Zaf) Zac))) Zac)))) (pv 1)) Zac))))),?_⟩
  refine ⟨_,rfl,_,rfl,d,n,k,rfl,hd,by omega,ZkM (by omega) (by omega),λn1 p p0 p1=>?_⟩
  have D1:=(Dk.start hd).take n1
  refine ⟨_,rfl,_,rfl,_,_,rfl,rfl,_,rfl,_,rfl,_,_,rfl,rfl,_,_,rfl,?_⟩
  have hm:0<(if k-1 > 1 then k-1 else 1)/\(if k-1 > 1 then k-1 else 1)<=1000:=by
   by_cases z:k-1 > 1
   ·rw [if_pos z];omega
   ·rw [if_neg z];omega
  refine ⟨d,n1,_,rfl,Zab,hm.1,ZkM (by omega) hm.2,λn2 r r0 r1=>?_⟩
  have D2:=D1.take n2
  refine ⟨_,_,rfl,rfl,_,rfl,_,_,rfl,rfl,by omega,ZaT,λt ht=>?_⟩
  refine q t p ((p+1+r) % k) _ (D2.new ht) (D2.free ht) Zab ⟨p0,p1⟩ ⟨Int.emod_nonneg _ (by omega),Int.emod_lt_of_pos _ (by omega)⟩
theorem ZkN (j:Int) (h0:0<=j) (h1:j<3):∃ m:Int,atI [V.int 1,V.int 3,V.int (10 ^ (20:Int).toNat)] j=some (.int m)/\0<m/\Lt2 9000 m:=by
 have h:j=0\/j=1\/j=2:=by omega
 have big:∀ m:Int,m.natAbs<2 ^ 70->Lt2 9000 m:=λm h=>Nat.lt_of_lt_of_le h (Nat.pow_le_pow_right (by decide) (by decide))
 rcases h with rfl | rfl | rfl
 ·exact ⟨1,rfl,by decide,big _ (by decide)⟩
 ·exact ⟨3,rfl,by decide,big _ (by decide)⟩
 ·exact ⟨10 ^ (20:Int).toNat,rfl,by decide,big _ (by decide)⟩
def Zmi:Sp:=λvs H Q _=>∃ (d:Addr) (n k:Int),vs=[.ref d,.int k]/\H d=some (.lst [.int n])/\1<=k/\k<=16/\∀ (t:Addr) (p q:Int) (H':Hp),Dk H H' d->H t=none->H' t=some (.tup [.int p,.int q])->¬ Ends k p q->Q (.ref t) H'
theorem scBad:Zaw ["deck", "places", "one", "far", "some"] ["deck", "places"] (Zad Zko):=⟨rfl,rfl,rfl,by decide +kernel,rfl,by decide +kernel,by decide +kernel⟩
theorem Zmj {n:Nat} (h:n<1024):Lt2 9000 (n:Int):=Nat.lt_of_lt_of_le (show ((n:Int)).natAbs<2 ^ 10 by omega) (Nat.pow_le_pow_right (by decide) (by decide))
theorem Zmk {f fT:Addr} {fd fdT:FuncData} (F:Fun K "_law_bad_ends" "_law_bad_ends" Zko f fd) (FT:Fun K "_law_take" "_law_take" ZdY fT fdT) (bT:Binds K fdT ["deck", "many"] []) (mT:mg "_law_take" = some (.ref fT)):ZaN P w K mg base CX0 2 f fd ["deck", "places"] Zmi:=by
 have GT:ZaN P w K mg base CX0 1 fT fdT ["deck", "many"] ZfL:=Zfi FT
 refine F.ok scBad (λvs H Q E h=>?_) (λcdv A outer s H vs Q E hr h=>?_)
 ·obtain ⟨_,_,_,rfl,_⟩:=h
  rfl
 ·obtain ⟨d,n,k,rfl,hd,k0,k1,q⟩:=h
  have h16:(16777216:Nat)=sizeLine:=sizeLine_eq.symm
  refine ⟨_,Zae (Zau (i:=2) scBad.nd rfl (Or.inl rfl) (Zaj GT (hr.mono (by decide)) rfl mT FT.kp bT .nil ZaG (Zaa (pv 0) (Zaa (pv 1) Zac))))
    (Zae (Zau (i:=3) scBad.nd rfl (Or.inl rfl) (Zaj GT (hr.mono (by decide)) rfl mT FT.kp bT .nil ZaG (Zaa (pv 0) (Zaa (ZaB (Zdf K) (ZaF (Zaa Zaf (Zaa Zaf (Zaa (Zav Zca Zaf Zaf) Zac)))) (Zaj GT (hr.mono (by decide)) rfl mT FT.kp bT .nil ZaG (Zaa (pv 0) (Zaa Zaf Zac))) (λ_ _=>rfl)) Zac))))
    (Zae (Zau (i:=4) scBad.nd rfl (Or.inl rfl) (ZaF (Zaa (ZaV (Zaa (pv 2) (Zaa (pv 2) Zac))) (Zaa (ZaV (Zaa (Zav ZcV (Zec ZbA Zaf) (pv 3)) (Zaa (pv 2) Zac))) (Zaa (ZaV (Zaa (pv 2) (Zaa (Zav ZcV (Zec ZbA Zaf) (pv 3)) Zac))) (Zaa (ZaV (Zaa (Zav ZaK (pv 1) (pv 3)) (Zaa (pv 2) Zac))) (Zaa (ZaV (Zaa (pv 2) (Zaa (Zav ZaK (pv 1) (pv 3)) Zac))) Zac)))))))
    (Zag (Zay (ZaB (Zdf K) (Zav Zeo (pv 4) (ZaF (Zaa (ZaV (Zaa (Zav ZaK (pv 1) (pv 3)) (Zaa (Zav ZaK (pv 1) (pv 3)) Zac))) Zac))) (Zaj GT (hr.mono (by decide)) rfl mT FT.kp bT .nil ZaG (Zaa (pv 0) (Zaa Zaf Zac))) (λ_ _=>rfl)))))),?_⟩
  refine ⟨_,rfl,_,rfl,d,n,k,rfl,hd,by omega,ZkM (by omega) (by omega),λn1 p p0 p1=>?_⟩
  have D1:=(Dk.start hd).take n1
  have e1:upd H d (.lst [.int n1]) d=some (.lst [.int n1]):=Zab
  generalize upd H d (.lst [.int n1])=H1 at D1 e1 ⊢
  refine ⟨_,rfl,_,_,rfl,rfl,⟨by decide,by decide,by decide⟩,(by show 3<=sizeLine;decide),λfl hfl=>?_⟩
  have D4:=D1.new (o:=.lst [.int 1,.int 3,.int (10 ^ (20:Int).toNat)]) hfl
  have hdf:d≠fl:=D1.ne hfl
  refine ⟨_,rfl,d,n1,3,rfl,Zal e1 hdf,by decide,Zmj (n:=3) (by decide),λn4 jI j0 j1=>?_⟩
  obtain ⟨fm,ef,f0,f1⟩:=ZkN jI j0 j1
  refine ⟨fl,_,_,_,rfl,rfl,SqL.of (Zal Zab (Ne.symm hdf)),ef,?_⟩
  have D5:=D4.take n4
  refine ⟨d,n4,fm,rfl,Zab,f0,f1,λn5 far f00 f01=>?_⟩
  have D6:=D5.take n5
  have e6:upd (upd (upd H1 fl (.lst [.int 1,.int 3,.int (10 ^ (20:Int).toNat)])) d (.lst [.int n4])) d (.lst [.int n5]) d=some (.lst [.int n5]):=Zab
  generalize upd (upd (upd H1 fl (.lst [.int 1,.int 3,.int (10 ^ (20:Int).toNat)])) d (.lst [.int n4])) d (.lst [.int n5])=H6 at D6 e6 ⊢
  clear D1 D4 D5 e1 ef
  refine ⟨_,rfl,_,rfl,ZaT,λt1 ht1=>?_⟩
  have s1:Same H6 (upd H6 t1 (.tup [.int p,.int p])):=Same.new ht1
  have q1:upd H6 t1 (.tup [.int p,.int p]) t1=some (.tup [.int p,.int p]):=Zab
  generalize upd H6 t1 (.tup [.int p,.int p])=H7 at s1 q1 ⊢
  refine ⟨_,rfl,_,rfl,_,_,rfl,rfl,_,rfl,ZaT,λt2 ht2=>?_⟩
  have s2:Same H7 (upd H7 t2 (.tup [.int (-1-far),.int p])):=Same.new ht2
  have q2:upd H7 t2 (.tup [.int (-1-far),.int p]) t2=some (.tup [.int (-1-far),.int p]):=Zab
  generalize upd H7 t2 (.tup [.int (-1-far),.int p])=H8 at s2 q2 ⊢
  refine ⟨_,rfl,_,rfl,_,rfl,_,_,rfl,rfl,ZaT,λt3 ht3=>?_⟩
  have s3:Same H8 (upd H8 t3 (.tup [.int p,.int (-1-far)])):=Same.new ht3
  have q3:upd H8 t3 (.tup [.int p,.int (-1-far)]) t3=some (.tup [.int p,.int (-1-far)]):=Zab
  generalize upd H8 t3 (.tup [.int p,.int (-1-far)])=H9 at s3 q3 ⊢
  refine ⟨_,rfl,_,rfl,_,_,rfl,rfl,_,rfl,ZaT,λt4 ht4=>?_⟩
  have s4:Same H9 (upd H9 t4 (.tup [.int (k+far),.int p])):=Same.new ht4
  have q4:upd H9 t4 (.tup [.int (k+far),.int p]) t4=some (.tup [.int (k+far),.int p]):=Zab
  generalize upd H9 t4 (.tup [.int (k+far),.int p])=H10 at s4 q4 ⊢
  refine ⟨_,rfl,_,rfl,_,rfl,_,_,rfl,rfl,ZaT,λt5 ht5=>?_⟩
  have s5:Same H10 (upd H10 t5 (.tup [.int p,.int (k+far)])):=Same.new ht5
  have q5:upd H10 t5 (.tup [.int p,.int (k+far)]) t5=some (.tup [.int p,.int (k+far)]):=Zab
  generalize upd H10 t5 (.tup [.int p,.int (k+far)])=H11 at s5 q5 ⊢
  refine ⟨(by show 5<=sizeLine;decide),λsl hsl=>?_⟩
  have s6:Same H11 (upd H11 sl (.lst [.ref t1,.ref t2,.ref t3,.ref t4,.ref t5])):=Same.new hsl
  have q6:upd H11 sl (.lst [.ref t1,.ref t2,.ref t3,.ref t4,.ref t5]) sl=some (.lst [.ref t1,.ref t2,.ref t3,.ref t4,.ref t5]):=Zab
  generalize upd H11 sl (.lst [.ref t1,.ref t2,.ref t3,.ref t4,.ref t5])=H12 at s6 q6 ⊢
  refine ⟨_,rfl,_,rfl,_,rfl,_,_,rfl,rfl,_,rfl,_,rfl,_,_,rfl,rfl,ZaT,λt6 ht6=>?_⟩
  have s7:Same H12 (upd H12 t6 (.tup [.int (k+far),.int (k+far)])):=Same.new ht6
  have q7:upd H12 t6 (.tup [.int (k+far),.int (k+far)]) t6=some (.tup [.int (k+far),.int (k+far)]):=Zab
  generalize upd H12 t6 (.tup [.int (k+far),.int (k+far)])=H13 at s7 q7 ⊢
  refine ⟨(by show 1<=sizeLine;decide),λl6 hl6=>?_⟩
  have s8:Same H13 (upd H13 l6 (.lst [.ref t6])):=Same.new hl6
  refine ⟨sl,l6,_,_,rfl,rfl,s8 _ _ (s7 _ _ q6),Zab,(by show 6<=sizeLine;decide),λal hal=>?_⟩
  have s9:=s8.put (o:=.lst ([.ref t1,.ref t2,.ref t3,.ref t4,.ref t5]++[.ref t6])) (s8.free hal)
  have q9:upd (upd H13 l6 (.lst [.ref t6])) al (.lst ([.ref t1,.ref t2,.ref t3,.ref t4,.ref t5]++[.ref t6])) al=some (.lst [.ref t1,.ref t2,.ref t3,.ref t4,.ref t5,.ref t6]):=Zab
  generalize upd (upd H13 l6 (.lst [.ref t6])) al (.lst ([.ref t1,.ref t2,.ref t3,.ref t4,.ref t5]++[.ref t6]))=H14 at s9 q9 ⊢
  have S14:=(((((s1.trans s2).trans s3).trans s4).trans s5).trans s6).trans (s7.trans s9)
  have D14:=D6.grow S14
  have hald:al≠d:=λz=>by rw [z,S14 _ _ e6] at q9;cases q9
  refine ⟨_,rfl,d,n5,6,rfl,S14 _ _ e6,by decide,Zmj (n:=6) (by decide),λn6 j h0 h1=>?_⟩
  have D15:=D14.take n6
  have pick:∀ (t:Addr) (x y:Int),H6 t=none->H14 t=some (.tup [.int x,.int y])->¬ Ends k x y->Q (.ref t) (upd H14 d (.lst [.int n6])):=λt x y hn e hb=>by
   refine q t x y _ D15 (D6.free hn) (Zal e λz=>?_) hb
   rw [z,S14 _ _ e6] at e;cases e
  have f1':H6 t1=none:=ht1
  have f2':H6 t2=none:=s1.free ht2
  have f3':H6 t3=none:=(s1.trans s2).free ht3
  have f4':H6 t4=none:=((s1.trans s2).trans s3).free ht4
  have f5':H6 t5=none:=(((s1.trans s2).trans s3).trans s4).free ht5
  have f6':H6 t6=none:=(((((s1.trans s2).trans s3).trans s4).trans s5).trans s6).free ht6
  have up:=s7.trans s9
  have hj:j=0\/j=1\/j=2\/j=3\/j=4\/j=5:=by omega
  have eal:upd H14 d (.lst [.int n6]) al=some (.lst [.ref t1,.ref t2,.ref t3,.ref t4,.ref t5,.ref t6]):=Zal q9 hald
  rcases hj with rfl | rfl | rfl | rfl | rfl | rfl
  ·exact ⟨al,_,_,_,rfl,rfl,SqL.of eal,Zam (j:=0) rfl,pick t1 p p f1' (up _ _ (s6 _ _ (s5 _ _ (s4 _ _ (s3 _ _ (s2 _ _ q1)))))) λz=>z.2.2 rfl⟩
  ·exact ⟨al,_,_,_,rfl,rfl,SqL.of eal,Zam (j:=1) rfl,pick t2 _ p f2' (up _ _ (s6 _ _ (s5 _ _ (s4 _ _ (s3 _ _ q2))))) λz=>by have:=z.1;omega⟩
  ·exact ⟨al,_,_,_,rfl,rfl,SqL.of eal,Zam (j:=2) rfl,pick t3 p _ f3' (up _ _ (s6 _ _ (s5 _ _ (s4 _ _ q3)))) λz=>by have:=z.2.1;omega⟩
  ·exact ⟨al,_,_,_,rfl,rfl,SqL.of eal,Zam (j:=3) rfl,pick t4 _ p f4' (up _ _ (s6 _ _ (s5 _ _ q4))) λz=>by have:=z.1;omega⟩
  ·exact ⟨al,_,_,_,rfl,rfl,SqL.of eal,Zam (j:=4) rfl,pick t5 p _ f5' (up _ _ (s6 _ _ q5)) λz=>by have:=z.2.1;omega⟩
  ·exact ⟨al,_,_,_,rfl,rfl,SqL.of eal,Zam (j:=5) rfl,pick t6 _ _ f6' (s9 _ _ q7) λz=>by have:=z.1;omega⟩
def Zml (no:Addr):Sp:=λvs H Q _=>∃ (a:Addr),vs=[.ref a]/\H a=some (Zi6 a no)/\∀ H':Hp,Same H H'->Q (.bl true) H'
theorem Znv:Zaw ["caught"] ["caught"] (Zad Zkp):=⟨rfl,rfl,rfl,by decide +kernel,rfl,by decide +kernel,by decide +kernel⟩
theorem Zmm {f no way a1 a2 a3 a4 a5 a6 a7 a8 a9 a10 a11 a12:Addr} {fd:FuncData} (F:Fun K "_law_is_refused" "_law_is_refused" Zkp f fd) (T:ClsR K mg no way a1 a2 a3 a4 a5 a6 a7 a8 a9 a10 a11 a12):ZaN P w K mg base CX0 1 f fd ["caught"] (Zml no):=by
 refine F.ok Znv (λvs H Q E h=>?_) (λcdv A outer s H vs Q E hr h=>?_)
 ·obtain ⟨_,rfl,_⟩:=h
  rfl
 ·obtain ⟨a,rfl,ea,q⟩:=h
  refine ⟨_,Zae (Za1 (Zbh (Zar (ZjU K) rfl T.isi Zbp (Zaa (pv 0) (Zaa (ZaV (Zaa (Zbl T.m1) (Zaa (Zbl T.m2) (Zaa (Zbl T.m3) (Zaa (Zbl T.m4) (Zaa (Zbl T.m5) (Zaa (Zbl T.m6) (Zaa (Zbl T.m7) (Zaa (Zbl T.m8) (Zaa (Zbl T.m9) (Zaa (Zbl T.m10) Zac))))))))))) Zac)))) (Zag (Zay Zb7)) ZaA)
    (Zae (Za1 (Zbh (Zar (ZjU K) rfl T.isi Zbp (Zaa (pv 0) (Zaa (ZaV (Zaa (Zbl T.m11) (Zaa (Zbl T.m12) Zac))) Zac)))) (Zag (Zay Zb7)) ZaA)
    (Zag (Zay (Zk0 (Zar (ZjU K) rfl T.isi Zbp (Zaa (pv 0) (Zaa (Zbl T.mno) Zac))) (Zi0 (Zar (ZjU K) rfl T.isi Zbp (Zaa (pv 0) (Zaa (Zfx T.vee ZjT) Zac)))))))),?_⟩
  refine ⟨_,rfl,(by show 10<=sizeLine;decide),λt ht=>?_⟩
  have hta:a≠t:=Zai ea ht
  have s2:Same H (upd H t (.tup [.ref a1,.ref a2,.ref a3,.ref a4,.ref a5,.ref a6,.ref a7,.ref a8,.ref a9,.ref a10])):=Same.new ht
  have e1:=s2 _ _ ea
  refine ⟨_,_,false,rfl,⟨_,rfl,Zbw ?_⟩,.inr (.inr ⟨a,no,t,_,rfl,e1,T.k,rfl,Zab,rfl,T.t10⟩)⟩
  refine ⟨_,rfl,(by show 2<=sizeLine;decide),λt2 ht2=>?_⟩
  have s3:=s2.put (o:=.tup [.ref a11,.ref a12]) (s2.free ht2)
  have e2:=s3 _ _ ea
  refine ⟨_,_,false,rfl,⟨_,rfl,Zbw ?_⟩,.inr (.inr ⟨a,no,t2,_,rfl,e2,T.k,rfl,Zab,rfl,T.t2⟩)⟩
  refine ⟨_,rfl,_,_,true,rfl,⟨_,rfl,Zce ?_⟩,.inr (.inl ⟨a,no,rfl,e2,T.k,rfl,ZdJ⟩)⟩
  exact ⟨_,rfl,_,_,true,rfl,q _ s3,.inr (.inl ⟨a,no,rfl,e2,T.k,rfl,T.ve⟩)⟩
end
end M
namespace M
open PySem L2
def gB:Nat->Nat
 | 0=>1
 | 1=>1
 | 2=>2
 | 3=>3
 | 4=>4
 | 5=>6
 | 6=>9
 | 7=>12
 | 8=>18
 | 9=>27
 | _=>36
theorem ZkO:∀ m,m<11->∀ d,d<11->1<=d->d<=m->d * gB (m-d)<=gB m:=by decide
theorem Zmn:∀ m,m<11->1<=gB m:=by decide
theorem Znw:∀ m,m<11->gB m<=36:=by decide
theorem Znx:∀ m,m<10->gB m<=27:=by decide
theorem ZcH {α:Type} (f:α->Bool):∀ l:List α,l.length=(l.filter f).length+(l.filter λx=>!f x).length
 | []=>rfl
 | x::l=>by
  have:=ZcH f l
  cases h:f x with
  | true=>rw [List.filter_cons_of_pos (by exact h),List.filter_cons_of_neg (by rw [h];decide),List.length_cons,List.length_cons];omega
  | false=>rw [List.filter_cons_of_neg (by rw [h];decide),List.filter_cons_of_pos (by rw [h];rfl),List.length_cons,List.length_cons];omega
theorem ZeN (key:List Int->Int) (B:Nat):∀ (ns:List Int) (M:List (List Int)),(∀ w∈M,key w∈ns)->(∀ n∈ns,(M.filter λw=>decide (key w=n)).length<=B)->M.length<=ns.length * B
 | [],M,h,_=>by
  cases M with
  | nil=>exact Nat.zero_le _
  | cons w M=>cases h w (by simp)
 | n::ns,M,h,hB=>by
  have e:=ZcH (λw=>decide (key w=n)) M
  have h1:=hB n (by simp)
  have h2:=ZeN key B ns (M.filter λw=>!decide (key w=n)) (λw hw=>by
   obtain ⟨a,b⟩:=List.mem_filter.mp hw
   rcases List.mem_cons.mp (h w a) with z | z
   ·rw [decide_eq_true z] at b;cases b
   ·exact z) (λn' hn'=>Nat.le_trans (by
    refine List.Sublist.length_le ?_
    exact List.filter_sublist.filter _) (hB n' (by simp [hn'])))
  rw [List.length_cons,Nat.add_mul,Nat.one_mul]
  omega
theorem ZhR (p n:Int) (t:List Int):Zak (p::n::t) false=(p,n)::Zak (n::t) false:=by
 unfold Zak
 simp only [Bool.false_eq_true,if_false,List.append_nil]
 rfl
theorem ZdA (p n:Int) (t:List Int):(p::n::t).getD ((p::n::t).length-1) 0=(n::t).getD ((n::t).length-1) 0:=by
 rw [List.length_cons,Nat.add_sub_cancel]
 show (p::n::t).getD (t.length+1) 0=(n::t).getD (t.length+1-1) 0
 rw [List.getD_cons_succ,Nat.add_sub_cancel]
theorem ZcR {rs:List (Int×Int)} {p q:Int} {w:List Int} (h:Way rs p q w) (ne:p≠q):Adj rs p (w.getD 1 0)/\Way (rs.filter λr=>!Zbu r p) (w.getD 1 0) q (w.drop 1)/\w=p::w.drop 1:=by
 obtain ⟨tl,rfl⟩:=ZbV h
 cases tl with
 | nil=>exact absurd (show p=q from h.2.2.1) ne
 | cons n t=>
  obtain ⟨h1,h2,h3,h4,h5⟩:=h
  rw [ZhR] at h4
  rw [ZdA] at h3
  have hp:=(List.nodup_cons.mp h5).1
  refine ⟨h4 (p,n) (by simp),⟨λz=>(by cases z),rfl,h3,λy hy=>?_,(List.nodup_cons.mp h5).2⟩,rfl⟩
  have hy:y∈Zak (n::t) false:=hy
  have a:=h4 y (List.mem_cons_of_mem _ hy)
  have hm:y.1∈n::t/\y.2∈n::t:=by
   unfold Zak at hy
   rw [if_neg Bool.false_ne_true,List.append_nil] at hy
   have:=List.of_mem_zip (a:=y.1) (b:=y.2) hy
   exact ⟨this.1,List.mem_of_mem_drop this.2⟩
  have n1:y.1≠p:=λz=>hp (z▸hm.1)
  have n2:y.2≠p:=λz=>hp (z▸hm.2)
  rcases a with a | a
  ·exact .inl (List.mem_filter.mpr ⟨a,by unfold Zbu;rw [decide_eq_false (λz=>z.elim n1 n2)];rfl⟩)
  ·exact .inr (List.mem_filter.mpr ⟨a,by unfold Zbu;rw [decide_eq_false (λz=>z.elim n2 n1)];rfl⟩)
theorem ZiU {rs:List (Int×Int)} {p:Int} {w:List Int} (h:Way rs p p w):w=[p]:=by
 obtain ⟨tl,rfl⟩:=ZbV h
 cases tl with
 | nil=>rfl
 | cons n t=>
  obtain ⟨h1,h2,h3,h4,h5⟩:=h
  rw [ZdA] at h3
  have hp:=(List.nodup_cons.mp h5).1
  exact absurd (h3▸ZbT (by rw [List.length_cons];omega)) hp
theorem ZfS:∀ (m:Nat),m<11->∀ (rs:List (Int×Int)) (p q:Int) (M:List (List Int)),rs.length=m->M.Nodup->(∀ w∈M,Way rs p q w)->M.length<=gB m:=by
 intro m
 induction m using Nat.strongRecOn with
 | _ m ih=>
  intro hm rs p q M hl nd hw
  by_cases e:p=q
  ·subst e
   have:=Zjr (m:=[[p]]) nd λw h=>by rw [ZiU (hw w h)];simp
   have h1:=Zmn m hm
   rw [List.length_singleton] at this
   omega
  ·by_cases hM:M=[]
   ·rw [hM];exact Nat.zero_le _
   ·have hd:(Zdj rs p).length=(rs.filter λr=>Zbu r p).length:=by unfold Zdj;rw [List.length_map]
    have f2:=ZcH (λr=>Zbu r p) rs
    have hb:∀ w∈M,w.getD 1 0∈Zdj rs p:=λw h=>mem_bes.mpr (ZcR (hw w h) e).1
    have d1:1<=(Zdj rs p).length:=by
     obtain ⟨w,h⟩:=List.exists_mem_of_ne_nil M hM
     exact List.length_pos_of_mem (hb w h)
    have key:=ZeN (λw=>w.getD 1 0) (gB (m-(Zdj rs p).length)) (Zdj rs p) M hb λn hn=>by
     have h1:=ih (m-(Zdj rs p).length) (by omega) (by omega) (rs.filter λr=>!Zbu r p) n q ((M.filter λw=>decide (w.getD 1 0=n)).map (·.drop 1)) (by omega) ?_ ?_
     ·rw [List.length_map] at h1;exact h1
     ·unfold List.Nodup
      rw [List.pairwise_map]
      refine List.Pairwise.imp_of_mem ?_ (nd.sublist List.filter_sublist)
      intro x y hx hy hxy z
      have hx:=(List.mem_filter.mp hx).1
      have hy:=(List.mem_filter.mp hy).1
      exact hxy (by rw [(ZcR (hw x hx) e).2.2,(ZcR (hw y hy) e).2.2,z])
     ·intro w h
      obtain ⟨v,hv,rfl⟩:=List.mem_map.mp h
      obtain ⟨a,b⟩:=List.mem_filter.mp hv
      rw [<-of_decide_eq_true b]
      exact (ZcR (hw v a) e).2.1
    exact Nat.le_trans key (ZkO m hm _ (by omega) d1 (by omega))
theorem ZkP {rs:List (Int×Int)} {p q:Int} {W:List (List Int)} (hl:rs.length<=10) (h:Wys rs p q W):W.length<=300:=by
 have h1:=ZfS rs.length (by omega) rs p q W rfl h.nd h.ww
 have h2:=Znw rs.length (by omega)
 omega
theorem ZkQ {rs:List (Int×Int)} (hl:rs.length<=10) {j:Nat} {R:List (List Int)} (h:Rgs rs j R):R.length<=27 * j/\j<=rs.length:=by
 induction h with
 | nil=>exact ⟨Nat.zero_le _,Nat.zero_le _⟩
 | @one j R W hR h3 hW ih=>
  obtain ⟨t,ht,wy⟩:=hW
  have hj:=(List.getElem?_eq_some_iff.mp ht).1
  have h1:=ZfS (rs.drop (j+1)).length (by rw [List.length_drop];omega) _ t.1 t.2 W rfl wy.nd wy.ww
  have h2:=Znx (rs.drop (j+1)).length (by rw [List.length_drop];omega)
  rw [List.length_append]
  omega
theorem ZiV {k:Int} {rs rest:List (Int×Int)} {S tl:List Int} {s:Int} (g:Zah k rs) (hS:Zbg rs S) (h3:3<=S.length) (D:Zjq rs S k) (bg:Begins (S.map (road rs)) s) (wk:Wk (S.map (road rs)) s tl rest) (hl:tl.length=S.length):IsS rs none S:=by
 rw [<-ZbF hS] at bg wk
 obtain ⟨R,h⟩:=ZiN g wk bg hS h3 D hl
 exact ⟨_,⟨R.1,R.2.2.2⟩,h _ (Za7 _ _ _) (Zbs _ _ _)⟩
theorem ZiW {k:Int} {rs rest:List (Int×Int)} {S tl:List Int} {p q:Int} (g:Zah k rs) (en:Ends k p q) (hS:Zbg rs S) (D:Zjp rs S k p q) (wk:Wk (S.map (road rs)) p tl rest) (hl:tl.length=S.length):IsS rs (some (p,q)) S:=by
 rw [<-ZbF hS] at wk
 obtain ⟨R,h⟩:=ZiL g en wk hS D hl
 exact ⟨_,R,h _ (Za7 _ _ _) (Zbs _ _ _)⟩
theorem ZfT {k:Int} {rs:List (Int×Int)} {S:List Int} (g:Zah k rs) (h:IsS rs none S):Zbg rs S/\3<=S.length/\Zjq rs S k/\∀ (s:Int) (tl:List Int) (rest:List (Int×Int)),Begins (S.map (road rs)) s->Wk (S.map (road rs)) s tl rest->tl.length=S.length:=by
 obtain ⟨c,hc,e⟩:=id h
 obtain ⟨ns,R,e2⟩:=ZiQ g hc
 rw [e] at e2
 obtain ⟨s0,tl0,ens,bg0,wk0⟩:=ZhE g R
 have gd:=ZhF g R ens
 rw [e2] at bg0 wk0 gd
 have hS:=gd.1
 rw [ZbF hS] at bg0 wk0
 refine ⟨hS,gd.2.1,gd.2.2.1,λs tl rest bg wk=>?_⟩
 have e1:=bg.one bg0
 subst e1
 rw [wk.det wk0]
 exact gd.2.2.2
theorem ZfU {k:Int} {rs:List (Int×Int)} {S:List Int} {p q:Int} (g:Zah k rs) (en:Ends k p q) (h:IsS rs (some (p,q)) S):Zbg rs S/\Zjp rs S k p q/\∀ (tl:List Int) (rest:List (Int×Int)),Wk (S.map (road rs)) p tl rest->tl.length=S.length:=by
 obtain ⟨w,hw,e⟩:=id h
 obtain ⟨tl0,ew⟩:=ZbV hw
 obtain ⟨wk0,gd⟩:=Zd8 g en (ew▸hw)
 rw [<-ew,e] at wk0 gd
 have hS:=gd.1
 rw [ZbF hS] at wk0
 refine ⟨hS,gd.2.1,λtl rest wk=>?_⟩
 rw [wk.det wk0]
 exact gd.2.2
end M
namespace M
open PySem L2
def ZeP (ls:List (List Int)):List PyData:=ls.map λl=>PyData.list (l.map PyData.int)
theorem Zjy:∀ ls:List (List Int),PyData.canLayAll0 (ZeP ls)=true
 | []=>by simp [ZeP,PyData.canLayAll0]
 | l::ls=>by
  have ih:=Zjy ls
  unfold ZeP at ih ⊢
  rw [List.map_cons]
  simp [PyData.canLayAll0,PyData.canLay0,ZdL l,ih]
theorem ZfV:∀ ls:List (List Int),PyData.depthAll (ZeP ls)<=2
 | []=>by simp [ZeP,PyData.depthAll]
 | l::ls=>by
  have ih:=ZfV ls
  have:=ZcB l
  unfold ZeP at ih ⊢
  rw [List.map_cons]
  simp only [PyData.depthAll,PyData.depth]
  omega
theorem ZeO (ls:List (List Int)):SeqAt.shaped (.list (ZeP ls))=true:=by
 unfold SeqAt.shaped
 rw [Bool.and_eq_true]
 refine ⟨by simp only [PyData.canLay0];exact Zjy ls,decide_eq_true ?_⟩
 have:=ZfV ls
 simp only [PyData.depth]
 omega
theorem Zjz:∀ ls:List (List Int),PyData.eqvAll (ZeP ls) (ZeP ls)=true
 | []=>by simp [ZeP,PyData.eqvAll]
 | l::ls=>by
  have ih:=Zjz ls
  have h:=ZdM l l
  rw [decide_eq_true rfl] at h
  unfold ZeP at ih ⊢
  rw [List.map_cons]
  simp only [PyData.eqvAll,h,ih,Bool.and_self]
theorem Zmo (ls:List (List Int)):PyData.eqv (.list (ZeP ls)) (.list (ZeP ls))=true:=by
 simp only [PyData.eqv]
 exact Zjz ls
theorem Zfp {K:PySem.W.Frag} {H:Hp}:∀ {zs:List (Addr×List Int)},Lz H zs->DatVs K H (zs.map λz=>V.ref z.1) (ZeP (zs.map (·.2)))
 | [],_=>.nil
 | z::zs,h=>.cons (.lst (SqL.of (h z (by simp))) (ZbB z.2)) (Zfp (zs:=zs) λy hy=>h y (by simp [hy]))
def ZbI (b m:Nat):List Int:=((List.range m).filter λk=>b.testBit k).map λ(k:Nat)=>(k:Int)
def ZhW (m:Nat):List (List Int):=(List.range (2 ^ m)).map λb=>ZbI b m
theorem Zdd {b m:Nat} {x:Int}:x∈ZbI b m↔∃ k:Nat,k<m/\b.testBit k=true/\x=(k:Int):=by
 unfold ZbI
 rw [List.mem_map]
 constructor
 ·rintro ⟨k,hk,rfl⟩
  obtain ⟨h1,h2⟩:=List.mem_filter.mp hk
  exact ⟨k,List.mem_range.mp h1,h2,rfl⟩
 ·rintro ⟨k,h1,h2,rfl⟩
  exact ⟨k,List.mem_filter.mpr ⟨List.mem_range.mpr h1,h2⟩,rfl⟩
theorem ZhS (b m:Nat):(ZbI b m).Pairwise (· < ·):=by
 unfold ZbI
 rw [List.pairwise_map]
 refine List.Pairwise.filter _ (List.Pairwise.imp (λ{a b} h=>?_) List.pairwise_lt_range)
 omega
theorem ZkR (m:Nat):(ZhW m).Nodup:=by
 unfold ZhW List.Nodup
 rw [List.pairwise_map]
 refine List.Pairwise.imp_of_mem ?_ (List.nodup_range (n:=2 ^ m))
 intro a b ha hb hab e
 have ha:=List.mem_range.mp ha
 have hb:=List.mem_range.mp hb
 refine hab (Nat.eq_of_testBit_eq λi=>?_)
 by_cases hi:i<m
 ·have h:((i:Int)∈ZbI a m)=((i:Int)∈ZbI b m):=by rw [e]
  rw [Zdd,Zdd] at h
  have z:a.testBit i=true↔b.testBit i=true:=by
   constructor
   ·intro z
    obtain ⟨k,_,k2,k3⟩:=h▸(⟨i,hi,z,rfl⟩:∃ k:Nat,k<m/\a.testBit k=true/\(i:Int)=(k:Int))
    have:k=i:=by omega
    rw [<-this];exact k2
   ·intro z
    obtain ⟨k,_,k2,k3⟩:=h.symm▸(⟨i,hi,z,rfl⟩:∃ k:Nat,k<m/\b.testBit k=true/\(i:Int)=(k:Int))
    have:k=i:=by omega
    rw [<-this];exact k2
  cases h1:a.testBit i <;> cases h2:b.testBit i <;> simp_all
 ·have p:2 ^ m<=2 ^ i:=Nat.pow_le_pow_right (by decide) (by omega)
  rw [Nat.testBit_lt_two_pow (by omega),Nat.testBit_lt_two_pow (by omega)]
theorem ZfW:∀ (m:Nat) (S:List Int),S.Pairwise (· < ·)->(∀ x∈S,0<=x/\x<(m:Int))->S∈ZhW m:=by
 intro m S so hr
 suffices h:∃ b,b<2 ^ m/\∀ k:Nat,k<m->(b.testBit k=true↔(k:Int)∈S) by
  obtain ⟨b,hb,h⟩:=h
  refine List.mem_map.mpr ⟨b,List.mem_range.mpr hb,?_⟩
  refine Zhx (ZhS b m) so λx=>?_
  rw [Zdd]
  constructor
  ·rintro ⟨k,h1,h2,rfl⟩
   exact (h k h1).mp h2
  ·intro hx
   have:=hr x hx
   exact ⟨x.toNat,by omega,(h x.toNat (by omega)).mpr (by rw [Int.toNat_of_nonneg this.1];exact hx),by omega⟩
 clear so hr
 induction m with
 | zero=>exact ⟨0,by decide,λk hk=>absurd hk (Nat.not_lt_zero _)⟩
 | succ m ih=>
  obtain ⟨b,hb,h⟩:=ih
  by_cases hm:(m:Int)∈S
  ·refine ⟨2 ^ m+b,by rw [Nat.pow_succ];omega,λk hk=>?_⟩
   by_cases e:k=m
   ·subst e
    rw [Nat.testBit_two_pow_add_eq,Nat.testBit_lt_two_pow hb]
    exact ⟨λ_=>hm,λ_=>rfl⟩
   ·rw [Nat.testBit_two_pow_add_gt (by omega)]
    exact h k (by omega)
  ·refine ⟨b,by rw [Nat.pow_succ];omega,λk hk=>?_⟩
   by_cases e:k=m
   ·subst e
    rw [Nat.testBit_lt_two_pow hb]
    exact ⟨λz=>(by cases z),λz=>absurd z hm⟩
   ·exact h k (by omega)
section
variable {P:Program} {w:World} {K:PySem.W.Frag} {mg:Str->Option Value} {base:Heap}
def Zmp:Sp:=λvs H Q _=>∃ m:Nat,vs=[.int (m:Int)]/\m<=10/\∀ (l:Addr) (zs:List (Addr×List Int)) (H':Hp),Same H H'->H l=none->H' l=some (.lst (zs.map λz=>V.ref z.1))->Lz H' zs->(∀ z∈zs,H z.1=none/\z.1≠l)->zs.map (·.2)=ZhW m->Q (.ref l) H'
theorem scSts:Zaw ["many", "found", "bits"] ["many"] (Zad Zkr):=⟨rfl,rfl,rfl,by decide +kernel,rfl,by decide +kernel,by decide +kernel⟩
theorem Zmq (b k:Nat):decide (V.int (Builtin.bitAnd ((b:Int) / 2 ^ ((k:Int)).toNat) 1)=V.int 1)=b.testBit k:=by
 have e:((b:Int) / 2 ^ ((k:Int)).toNat)=((b / 2 ^ k:Nat):Int):=by
  rw [Int.toNat_natCast]
  push_cast
  rfl
 have e2:Builtin.bitAnd ((b / 2 ^ k:Nat):Int) 1=((b / 2 ^ k % 2:Nat):Int):=by
  unfold Builtin.bitAnd
  rw [decide_eq_true (Int.natCast_nonneg _),decide_eq_true (show (0:Int)<=1 by decide)]
  show (((((b / 2 ^ k:Nat):Int)).toNat &&& (1:Int).toNat:Nat):Int)=_
  rw [Int.toNat_natCast,show (1:Int).toNat=1 from rfl,Nat.and_one_is_mod]
 rw [e,e2,Nat.testBit_eq_decide_div_mod_eq]
 by_cases h:b / 2 ^ k % 2=1
 ·rw [decide_eq_true h,h];rfl
 ·rw [decide_eq_false h,decide_eq_false]
  intro z
  have:=V.int.inj z
  omega
theorem Zmr {f:Addr} {fd:FuncData} (F:Fun K "_law_sets" "_law_sets" Zkr f fd) (mRange:mg "range" = none):ZaN P w K mg base CX0 1 f fd ["many"] Zmp:=by
 refine F.ok scSts (λvs H Q E h=>?_) (λcdv A outer s H vs Q E hr h=>?_)
 ·obtain ⟨_,rfl,_⟩:=h
  rfl
 ·obtain ⟨m,rfl,hm,q⟩:=h
  have h16:(16777216:Nat)=sizeLine:=sizeLine_eq.symm
  have hp:2 ^ m<=1024:=Nat.le_trans (Nat.pow_le_pow_right (by decide) hm) (by decide)
  refine ⟨_,Zae (Zau (i:=1) scSts.nd rfl (Or.inl rfl) (ZaF Zac))
    (Zae (Zbi PassesOwn.never rfl (ZaQ rfl mRange (Zaa (Zav Zk7 Zaf (pv 0)) Zac)) (Zat (i:=2) scSts.nd rfl (Or.inr rfl))
    (Zag (ZaX (Zcd PySem.F.plainAttrs_list PySem.F.slot_list_append PySem.F.type_list_append ZaO (pv 1) (Zaa (Za2 (own:=["k"]) rfl (Zaq (fr:=[("bits", 2)]) [(".0", .local),("k", .local),("bits", .cell)] rfl rfl (by decide +kernel) rfl (by decide +kernel) ⟨rfl,trivial⟩ ⟨λh=>ZaP h,λh=>ZaP h,λ_=>⟨_,rfl⟩,trivial⟩ ⟨⟨rfl,.inl rfl,.inl rfl⟩,trivial⟩) (ZaQ rfl mRange (Zaa (pv 0) Zac)) (λ_ _ _ _=>Zat (i:=0) (show List.Nodup (["k", "bits"]:List Str) by decide +kernel) rfl (Or.inl rfl)) (λ_ _ _ _=>Za9 (Zax Zdh (Zav Zk9 (Zav Zk8 (pv 1) (pv 0)) Zaf) Zaf (ZaD _))) (λ_ _ _ _=>pv 0)) Zac)))))
    (Zag (Zay (pv 1)))),?_⟩
  refine ⟨Nat.zero_le _,λl hl=>?_⟩
  have ec:((1:Int) * 2 ^ ((m:Int)).toNat)=((2 ^ m:Nat):Int):=by rw [Int.toNat_natCast,Int.one_mul];push_cast;rfl
  obtain ⟨N,hN⟩:∃ N:Nat,2 ^ m=N:=⟨_,rfl⟩
  rw [hN] at ec hp
  refine ⟨_,rfl,_,_,rfl,rfl,⟨by omega,by omega,by decide⟩,_,rfl,(by rw [ec];omega),(by rw [ec];omega),?_⟩
  rw [ec,Int.toNat_natCast]
  refine Zbc (lo:=0) (λi σ H2=>∃ (v2:Option V) (zs:List (Addr×List Int)),σ=[some (.int (m:Int)),some (.ref l),v2]/\Same H H2/\H2 l=some (.lst (zs.map λz=>V.ref z.1))/\Lz H2 zs/\(∀ z∈zs,H z.1=none/\z.1≠l)/\zs.map (·.2)=(List.range i).map λb=>ZbI b m) ⟨none,[],rfl,Same.new hl,Zab,λz hz=>(by cases hz),λz hz=>(by cases hz),rfl⟩ ?_ ?_
  ·rintro i σ H2 hi ⟨v2,zs,rfl,s2,el,lz,fz,ez⟩
   rw [Int.zero_add]
   have lzs:zs.length=i:=by
    have:=congrArg List.length ez
    rw [List.length_map,List.length_map,List.length_range] at this
    exact this
   refine ⟨_,rfl,.inl ⟨rfl,_,SqL.of el⟩,_,rfl,_,rfl,by omega,by omega,λD hD=>?_⟩
   rw [Int.toNat_natCast]
   have hDl:D≠l:=λe=>by rw [e,el] at hD;cases hD
   refine ZbM (lo:=0) (n:=m) (λj ys H3=>Same H2 H3/\H3 D=some (.lst ys)/\ys=(ZbI i j).map V.int) ⟨Same.new hD,Zab,rfl⟩ ?_ ?_
   ·rintro j ys H3 hj ⟨s3,eD,rfl⟩
    rw [Int.zero_add]
    refine ⟨⟨rfl,trivial⟩,?_⟩
    refine ⟨_,rfl,_,rfl,_,_,rfl,rfl,by omega,_,_,rfl,rfl,rfl,_,rfl,?_⟩
    rw [Zmq]
    have est:ZbI i (j+1)=ZbI i j++(if i.testBit j=true then [(j:Int)] else []):=by
     unfold ZbI
     rw [List.range_succ,List.filter_append,List.map_append]
     congr 1
     cases h:i.testBit j with
     | true=>rw [List.filter_cons_of_pos h];rfl
     | false=>rw [List.filter_cons_of_neg (by rw [h];decide)];rfl
    have lb:(ZbI i j).length<=j:=by
     unfold ZbI
     rw [List.length_map]
     refine Nat.le_trans (List.length_filter_le _ _) (by rw [List.length_range];exact Nat.le_refl _)
    cases h:i.testBit j with
    | true=>
     rw [h,if_pos rfl] at est
     refine Zce ⟨_,rfl,eD,by rw [List.length_map];omega,s3.put hD,Zab,?_⟩
     rw [est,List.map_append]
     rfl
    | false=>
     rw [h,if_neg Bool.false_ne_true,List.append_nil] at est
     refine Zbw ⟨s3,eD,?_⟩
     rw [est]
   ·rintro ys H3 ⟨s3,eD,rfl⟩
    refine ⟨l,_,_,rfl,rfl,s3 _ _ el,by rw [List.length_map];omega,?_⟩
    refine ⟨_,zs++[(D,ZbI i m)],rfl,(s2.trans s3).put hl,by rw [Zab,List.map_append];rfl,λz hz=>?_,λz hz=>?_,?_⟩
    ·rcases List.mem_append.mp hz with hz | hz
     ·exact Zal (s3 _ _ (lz z hz)) (fz z hz).2
     ·rw [List.mem_singleton.mp hz]
      exact Zal eD hDl
    ·rcases List.mem_append.mp hz with hz | hz
     ·exact fz z hz
     ·rw [List.mem_singleton.mp hz]
      exact ⟨s2.free hD,hDl⟩
    ·rw [List.map_append,ez,List.range_succ,List.map_append]
     rfl
  ·rintro σ H2 ⟨v2,zs,rfl,s2,el,lz,fz,ez⟩
   exact ⟨_,rfl,q l zs H2 s2 hl el lz fz (by unfold ZhW;rw [hN];exact ez)⟩
def Zms:Sp:=λvs H Q _=>∃ (fl dl:Addr) (zs ds:List (Addr×List Int)),vs=[.ref fl,.ref dl]/\H fl=some (.lst (zs.map λz=>V.ref z.1))/\Lz H zs/\H dl=some (.lst (ds.map λz=>V.ref z.1))/\Lz H ds/\zs.map (·.2)=ds.map (·.2)/\∀ H':Hp,Same H H'->Q (.bl true) H'
theorem scSam:Zaw ["found", "due", "numbers"] ["found", "due"] (Zad Zks):=⟨rfl,rfl,rfl,by decide +kernel,rfl,by decide +kernel,by decide +kernel⟩
theorem Zmt {f:Addr} {fd:FuncData} (F:Fun K "_law_same" "_law_same" Zks f fd) (kib:PySem.W.kitOne K (.type "int") (.type "bool")=some false) (mIsi:mg "isinstance" = none) (mLst:mg "list" = none) (mBool:mg "bool" = none):ZaN P w K mg base CX0 1 f fd ["found", "due"] Zms:=by
 refine F.ok scSam (λvs H Q E h=>?_) (λcdv A outer s H vs Q E hr h=>?_)
 ·obtain ⟨_,_,_,_,rfl,_⟩:=h
  rfl
 ·obtain ⟨fl,dl,zs,ds,rfl,ef,lz,ed,ld,e,q⟩:=h
  have hu:=hr.units
  refine ⟨_,Zae (Za1 (PW.pt (Zea (ZbY (Zbh (Zar (ZjU K) rfl mIsi Zbp (Zaa (pv 0) (Zaa (Zfx mLst Zbz) Zac))))) (Zdl (Zax (ZkU K hu) (pv 0) (pv 1) (ZaD _))))) (Zag (Zay Zb7)) ZaA)
    (Zae (Zbi PassesOwn.never rfl (ZbX K (pv 0)) (Zat (i:=2) scSam.nd rfl (Or.inl rfl))
    (Zag (Za1 (PW.pt (Zea (ZbY (Zbh (Zar (ZjU K) rfl mIsi Zbp (Zaa (pv 2) (Zaa (Zfx mLst Zbz) Zac))))) (Zdl (Zax (ZkU K hu) (Za2 (own:=["one"]) rfl (Zc4 (by decide +kernel) (by decide +kernel) rfl (by decide +kernel)) (ZbX K (pv 2)) (λ_ _ _ _=>Zat (i:=0) (show List.Nodup (["one"]:List Str) by decide +kernel) rfl (Or.inl rfl)) (λ_ _ _ _=>Za9 (Zbh (Zar (ZjU K) rfl mIsi Zbp (Zaa (pv 0) (Zaa (Zfx mBool ZgV) Zac))))) (λ_ _ _ _=>pv 0)) (ZaF Zac) (ZaD _))))) (Zag (Zay Zb7)) ZaA)))
    (Zag (Zay Zb7))),?_⟩
  refine ⟨_,rfl,_,_,true,rfl,⟨_,rfl,Zbw ?_⟩,.inl ⟨_,.lst ef,rfl,ZdJ⟩⟩
  refine ⟨_,rfl,_,rfl,.list (ZeP (ds.map (·.2))),.list (ZeP (ds.map (·.2))),.lst (SqL.of ef) (by rw [<-e];exact Zfp lz),.lst (SqL.of ed) (Zfp ld),ZeO _,ZeO _,_,rfl,?_⟩
  rw [Zmo]
  refine Zbw ?_
  refine ⟨_,rfl,fl,rfl,⟨_,SqL.of ef⟩,?_⟩
  refine Zb9 (K:=K) (a:=fl) (xs:=zs.map λz=>V.ref z.1) (λi σ H2=>∃ v2:Option V,σ=[some (.ref fl),some (.ref dl),v2]/\Same H H2) ⟨none,rfl,Same.refl _⟩ (λi σ H2 _ ⟨_,_,s2⟩=>SqL.of (s2 _ _ ef)) ?_ ?_
  ·rintro i x σ H2 hxi ⟨v2,rfl,s2⟩
   rw [List.getElem?_map] at hxi
   cases hz:zs[i]? with
   | none=>rw [hz] at hxi;cases hxi
   | some z=>
    rw [hz] at hxi
    cases hxi
    have hzm:z∈zs:=List.mem_of_getElem? hz
    have ez:=s2 _ _ (lz z hzm)
    refine ⟨_,rfl,_,_,true,rfl,⟨_,rfl,Zbw ?_⟩,.inl ⟨_,.lst ez,rfl,ZdJ⟩⟩
    refine ⟨_,rfl,z.1,rfl,⟨_,SqL.of ez⟩,λD hD=>?_⟩
    refine ZaR (K:=K) (a:=z.1) (xs:=z.2.map V.int) (λj ys H3=>Same H2 H3/\H3 D=some (.lst [])/\ys=[]) ⟨Same.new hD,Zab,rfl⟩ (λj ys H3 _ ⟨s3,_⟩=>SqL.of (s3 _ _ ez)) ?_ ?_
    ·rintro j x ys H3 hxj ⟨s3,eD,rfl⟩
     rw [List.getElem?_map] at hxj
     cases hy:z.2[j]? with
     | none=>rw [hy] at hxj;cases hxj
     | some n=>
      rw [hy] at hxj
      cases hxj
      refine ⟨trivial,?_⟩
      refine ⟨_,rfl,_,_,false,rfl,⟨_,rfl,Zbw ?_⟩,.inl ⟨_,.int _,rfl,kib⟩⟩
      exact ⟨s3,eD,rfl⟩
    ·rintro ys H3 ⟨s3,eD,rfl⟩
     refine ⟨Nat.zero_le _,λem hem=>⟨.list [],.list [],.lst (SqL.of (Zal eD (Zai eD hem))) .nil,.lst (SqL.of Zab) .nil,by decide,by decide,_,rfl,?_⟩⟩
     refine Zbw ?_
     exact ⟨_,rfl,(s2.trans s3).put (s2.free (s3.free hem))⟩
  ·rintro σ H2 ⟨v2,rfl,s2⟩
   exact q H2 s2
end
end M
namespace M
open PySem L2
section
variable {P:Program} {w:World} {K:PySem.W.Frag} {mg:Str->Option Value} {base:Heap}
def Zmu:Sp:=λvs H Q _=>∃ (wb l t:Addr) (k p q:Int) (xs:List V) (rs:List (Int×Int)),vs=[.ref wb,.ref t]/\WebAt H wb l k xs rs/\Zah k rs/\H t=some (.tup [.int p,.int q])/\¬ Ends k p q/\∀ H':Hp,Same H H'->Q (.bl true) H'
theorem scRef:Zaw ["web", "ends", "caught", "e"] ["web", "ends"] (Zad Zkt):=⟨rfl,rfl,rfl,by decide +kernel,rfl,by decide +kernel,by decide +kernel⟩
theorem Zmv {f fEw fJ TM no way a1 a2 a3 a4 a5 a6 a7 a8 a9 a10 a11 a12:Addr} {fd fdEw fdJ:FuncData} (F:Fun K "_law_refused" "_law_refused" Zkt f fd) (T:ClsR K mg no way a1 a2 a3 a4 a5 a6 a7 a8 a9 a10 a11 a12)
  (FEw:Fun K "every_way" "every_way" Zjh fEw fdEw) (bEw:Binds K fdEw ["web", "one", "other"] []) (mEw:mg "every_way" = some (.ref fEw)) (GEw:ZaN P w K mg base (CXr P w) 5 fEw fdEw ["web", "one", "other"] (ZkD no TM))
  (FJ:Fun K "_law_is_refused" "_law_is_refused" Zkp fJ fdJ) (bJ:Binds K fdJ ["caught"] []) (mJ:mg "_law_is_refused" = some (.ref fJ)):ZaN P w K mg base CX0 6 f fd ["web", "ends"] Zmu:=by
 have GJ:ZaN P w K mg base CX0 1 fJ fdJ ["caught"] (Zml no):=Zmm FJ T
 refine F.ok scRef (λvs H Q E h=>?_) (λcdv A outer s H vs Q E hr h=>?_)
 ·obtain ⟨_,_,_,_,_,_,_,_,rfl,_⟩:=h
  rfl
 ·obtain ⟨wb,l,t,k,p,q',xs,rs,rfl,W,g,ht,hb,q⟩:=h
  refine ⟨_,Zae (Zau (i:=2) scRef.nd rfl (Or.inl rfl) Zb8)
    (Zae (Zlm (i:=3) GEw (hr.mono (by decide)) rfl mEw FEw.kp bEw .nil (Zaa (pv 0) (Zaa (ZaB (ZcA K) (pv 1) Zaf (λ_ _=>rfl)) (Zaa (ZaB (ZcA K) (pv 1) Zaf (λ_ _=>rfl)) Zac))) rfl rfl rfl rfl scRef.nd rfl rfl rfl T.mway T.wbe (λa=>Zag (Zau (i:=2) scRef.nd rfl (Or.inl rfl) (pv 3))))
    (Zag (Zay (Zaj GJ (hr.mono (by decide)) rfl mJ FJ.kp bJ .nil ZaG (Zaa (pv 2) Zac))))),?_⟩
  refine ⟨_,rfl,_,rfl,t,_,_,_,rfl,rfl,SqT.of ht,Zam (j:=0) rfl,_,rfl,t,_,_,_,rfl,rfl,SqT.of ht,Zam (j:=1) rfl,?_⟩
  refine ⟨wb,l,k,p,q',xs,rs,rfl,W,g,.inl ⟨hb,no,rfl,T.cls,λa ha=>?_⟩⟩
  have s1:Same H (upd H a (Zi6 a no)):=Same.new ha
  refine ⟨_,rfl,?_⟩
  exact ⟨_,rfl,a,rfl,Zab,λH' s2=>q _ (s1.trans s2)⟩
structure DeckAt (Hs H:Hp) (d:Addr):Prop where
 s:Same Hs H
 n:Hs d=none
 at_:∃ n:Int,H d=some (.lst [.int n])
theorem DeckAt.grow {Hs H H':Hp} {d:Addr} (h:DeckAt Hs H d) (s:Same H H'):DeckAt Hs H' d:=⟨h.s.trans s,h.n,h.at_.elim λn e=>⟨n,s _ _ e⟩⟩
theorem DeckAt.dk {Hs H H':Hp} {d:Addr} (h:DeckAt Hs H d) (s:Dk H H' d):DeckAt Hs H' d:=⟨λb o e=>s.keep b o (Zai e h.n) (h.s b o e),h.n,s.at_⟩
theorem ZkS {ns:List Int} {lo hi:Option Int} {i:Nat} {x:V} (h:(Zdi (ns.map V.int) lo hi)[i]?=some x):∃ z,x=.int z:=by
 have hm:=List.mem_of_getElem? h
 unfold Zdi at hm
 have hm2:=List.mem_of_mem_drop (List.mem_of_mem_take hm)
 obtain ⟨z,_,rfl⟩:=List.mem_map.mp hm2
 exact ⟨z,rfl⟩
theorem Zmw (xs:List V):Zdi xs none (some 10)=xs.take 10:=Zlq (k:=10)
theorem ZiX {k:Int} {rs:List (Int×Int)} {en:Option (Int×Int)} {zs cz zs':List (Addr×List Int)} {L:List (List Int)} (g:Zah k rs) (hz:zs.map (·.2)=ZhW rs.length) (sub:cz.Sublist zs) (h1:∀ z∈cz,IsS rs en z.2) (h2:∀ z∈zs,IsS rs en z.2->z∈cz)
  (pm:zs'.Perm cz) (so:Srt (zs'.map (·.2))) (te:Zgp rs en L):L=zs'.map (·.2):=by
 have ndc:(cz.map (·.2)).Nodup:=(hz▸ZkR rs.length:(zs.map (·.2)).Nodup).sublist (sub.map _)
 refine Zjs te.so so (ZhG te.nd ((pm.map _).nodup_iff.mpr ndc) λS=>?_)
 rw [te.iff,(pm.map (·.2)).mem_iff,List.mem_map]
 constructor
 ·intro h
  have hS:=ZhL g h
  have:S∈zs.map (·.2):=hz▸ZfW rs.length S hS.1 hS.2
  obtain ⟨z,hzm,rfl⟩:=List.mem_map.mp this
  exact ⟨z,h2 z hzm h,rfl⟩
 ·rintro ⟨z,hzm,rfl⟩
  exact h1 z hzm
theorem ZhT (b m:Nat):(ZbI b m).length<=m:=by
 unfold ZbI
 rw [List.length_map]
 exact Nat.le_trans (List.length_filter_le _ _) (by rw [List.length_range];exact Nat.le_refl _)
theorem ZfX {m:Nat} {S:List Int} (h:S∈ZhW m):S.length<=m:=by
 obtain ⟨b,_,rfl⟩:=List.mem_map.mp h
 exact ZhT b m
def Trial (rs:List (Int×Int)) (en:Option (Int×Int)) (zs rz:List (Addr×List Int)):Prop:=∃ cz:List (Addr×List Int),rz.Perm cz/\Srt (rz.map (·.2))/\cz.Sublist zs/\(∀ z∈cz,IsS rs en z.2)/\(∀ z∈zs,IsS rs en z.2->z∈cz)
theorem Trial.eq {k:Int} {rs:List (Int×Int)} {en:Option (Int×Int)} {zs rz:List (Addr×List Int)} {L:List (List Int)} (h:Trial rs en zs rz) (g:Zah k rs) (hz:zs.map (·.2)=ZhW rs.length) (te:Zgp rs en L):L=rz.map (·.2):=by
 obtain ⟨cz,pm,so,sub,h1,h2⟩:=h
 exact ZiX g hz sub h1 h2 pm so te
def Chose (rs:List (Int×Int)) (en:Option (Int×Int)) (zs:List (Addr×List Int)) (j:Nat) (cz:List (Addr×List Int)):Prop:=cz.Sublist (zs.take j)/\(∀ z∈cz,IsS rs en z.2)/\(∀ z∈zs.take j,IsS rs en z.2->z∈cz)
theorem Chose.yes {rs:List (Int×Int)} {en:Option (Int×Int)} {zs cz:List (Addr×List Int)} {j:Nat} {z:Addr×List Int} (h:Chose rs en zs j cz) (hz:zs[j]?=some z) (hS:IsS rs en z.2):Chose rs en zs (j+1) (cz++[z]):=by
 obtain ⟨a,b,c⟩:=h
 have e:zs.take (j+1)=zs.take j++[z]:=by rw [List.take_add_one,hz];rfl
 refine ⟨by rw [e];exact a.append (List.Sublist.refl _),λy hy=>?_,λy hy hyS=>?_⟩
 ·rcases List.mem_append.mp hy with hy | hy
  ·exact b y hy
  ·rw [List.mem_singleton.mp hy];exact hS
 ·rw [e] at hy
  rcases List.mem_append.mp hy with hy | hy
  ·exact List.mem_append_left _ (c y hy hyS)
  ·exact List.mem_append_right _ hy
theorem Chose.no {rs:List (Int×Int)} {en:Option (Int×Int)} {zs cz:List (Addr×List Int)} {j:Nat} {z:Addr×List Int} (h:Chose rs en zs j cz) (hz:zs[j]?=some z) (hS:¬ IsS rs en z.2):Chose rs en zs (j+1) cz:=by
 obtain ⟨a,b,c⟩:=h
 have e:zs.take (j+1)=zs.take j++[z]:=by rw [List.take_add_one,hz];rfl
 refine ⟨by rw [e];exact a.trans (List.sublist_append_left _ _),b,λy hy hyS=>?_⟩
 rw [e] at hy
 rcases List.mem_append.mp hy with hy | hy
 ·exact c y hy hyS
 ·rw [List.mem_singleton.mp hy] at hyS;exact absurd hyS hS
theorem Chose.trial {rs:List (Int×Int)} {en:Option (Int×Int)} {zs cz rz:List (Addr×List Int)} (h:Chose rs en zs zs.length cz) (pm:rz.Perm cz) (so:Srt (rz.map (·.2))):Trial rs en zs rz:=by
 obtain ⟨a,b,c⟩:=h
 rw [List.take_length] at a c
 exact ⟨cz,pm,so,a,b,c⟩
def ZiY (K:PySem.W.Frag):Sp:=λvs H Q _=>∃ (a:Addr) (ns:List Int),vs=[.ref a]/\SqL K H a (ns.map V.int)/\ns.length<=63/\∀ H',Q (.bl true) H'
theorem scLaw:Zaw ["script", "cell", "deck", "places", "roads", "web", "one", "other", "sets", "numbers", "rings", "due", "turn", "found"] ["script"] (Zad ZiD):=⟨rfl,rfl,rfl,by decide +kernel,rfl,by decide +kernel,by decide +kernel⟩
theorem Zmx {f fD fW fEn fBd fSs fF fE fEc fEw fSa fRf C TM:Addr} {fd fdD fdW fdEn fdBd fdSs fdF fdE fdEc fdEw fdSa fdRf:FuncData} (F:Fun K "law" "law" ZiD f fd)
  (FD:Fun K "_law_deck" "_law_deck" Zfh fD fdD) (bD:Binds K fdD ["cell"] []) (mD:mg "_law_deck" = some (.ref fD)) (GD:ZaN P w K mg base CX0 2 fD fdD ["cell"] Zjm)
  (FW:Fun K "_law_web" "_law_web" Zkm fW fdW) (bW:Binds K fdW ["deck"] []) (mW:mg "_law_web" = some (.ref fW)) (GW:ZaN P w K mg base CX0 2 fW fdW ["deck"] ZlI)
  (FEn:Fun K "_law_ends" "_law_ends" Zkn fEn fdEn) (bEn:Binds K fdEn ["deck", "places"] []) (mEn:mg "_law_ends" = some (.ref fEn)) (GEn:ZaN P w K mg base CX0 2 fEn fdEn ["deck", "places"] Zmg)
  (FBd:Fun K "_law_bad_ends" "_law_bad_ends" Zko fBd fdBd) (bBd:Binds K fdBd ["deck", "places"] []) (mBd:mg "_law_bad_ends" = some (.ref fBd)) (GBd:ZaN P w K mg base CX0 2 fBd fdBd ["deck", "places"] Zmi)
  (FSs:Fun K "_law_sets" "_law_sets" Zkr fSs fdSs) (bSs:Binds K fdSs ["many"] []) (mSs:mg "_law_sets" = some (.ref fSs)) (GSs:ZaN P w K mg base CX0 1 fSs fdSs ["many"] Zmp)
  (FF:Fun K "_law_ring" "_law_ring" Zjk fF fdF) (bF:Binds K fdF ["web", "roads"] []) (mF:mg "_law_ring" = some (.ref fF)) (GF:ZaN P w K mg base CX0 2 fF fdF ["web", "roads"] Zme)
  (FE:Fun K "_law_open" "_law_open" Zkq fE fdE) (bE:Binds K fdE ["web", "one", "other", "roads"] []) (mE:mg "_law_open" = some (.ref fE)) (GE:ZaN P w K mg base CX0 2 fE fdE ["web", "one", "other", "roads"] Zmc)
  (FEc:Fun K "every_closed" "every_closed" Zkl fEc fdEc) (bEc:Binds K fdEc ["web"] []) (mEc:mg "every_closed" = some (.ref fEc)) (GEc:ZaN P w K mg base (CXr P w) 5 fEc fdEc ["web"] (Zl8 TM))
  (FEw:Fun K "every_way" "every_way" Zjh fEw fdEw) (bEw:Binds K fdEw ["web", "one", "other"] []) (mEw:mg "every_way" = some (.ref fEw)) (GEw:ZaN P w K mg base (CXr P w) 5 fEw fdEw ["web", "one", "other"] (ZkD C TM))
  (FSa:Fun K "_law_same" "_law_same" Zks fSa fdSa) (bSa:Binds K fdSa ["found", "due"] []) (mSa:mg "_law_same" = some (.ref fSa)) (GSa:ZaN P w K mg base CX0 1 fSa fdSa ["found", "due"] Zms)
  (FRf:Fun K "_law_refused" "_law_refused" Zkt fRf fdRf) (bRf:Binds K fdRf ["web", "ends"] []) (mRf:mg "_law_refused" = some (.ref fRf)) (GRf:ZaN P w K mg base CX0 6 fRf fdRf ["web", "ends"] Zmu)
  (mRange:mg "range" = none) (mLst:mg "list" = none) (mLen:mg "len" = none) (mSor:mg "sorted" = none) :
  ZaN P w K mg base CX0 8 f fd ["script"] (ZiY K):=by
 refine F.ok scLaw (λvs H Q E h=>?_) (λcdv A outer s H vs Q E hr h=>?_)
 ·obtain ⟨a,ns,rfl,_⟩:=h
  rfl
 ·obtain ⟨a,ns,rfl,hS,hlen,q⟩:=h
  have hu:=hr.units
  have h16:(16777216:Nat)=sizeLine:=sizeLine_eq.symm
  refine ⟨_,Zae (Zbi PassesOwn.never rfl (ZbX K (Zav Zeo (ZaF (Zaa (Zav Zca Zaf Zaf) Zac)) (Zcb (kSl K) (pv 0) ZcX (ZcY Zaf)))) (Zat (i:=1) scLaw.nd rfl (Or.inl rfl))
    (Zae (Zau (i:=2) scLaw.nd rfl (Or.inl rfl) (Zaj GD (hr.mono (by decide)) rfl mD FD.kp bD .nil ZaG (Zaa (pv 1) Zac)))
    (Zae (Zgx (Zaj GW (hr.mono (by decide)) rfl mW FW.kp bW .nil ZaG (Zaa (pv 2) Zac)) (Zlp K (n:=2) rfl (Za4 (Zat (i:=3) scLaw.nd rfl (Or.inl rfl)) (Za4 (Zat (i:=4) scLaw.nd rfl (Or.inl rfl)) ZcU))))
    (Zae (Zau (i:=4) scLaw.nd rfl (Or.inl rfl) (Zcb (kSl K) (pv 4) ZcX (ZcY Zaf)))
    (Zae (Zau (i:=5) scLaw.nd rfl (Or.inr rfl) (ZaV (Zaa (pv 3) (Zaa (Zbv (ZgX K) rfl mLst Zbz (Zaa (pv 4) Zac)) Zac))))
    (Zae (Zgx (Zaj GEn (hr.mono (by decide)) rfl mEn FEn.kp bEn .nil ZaG (Zaa (pv 2) (Zaa (pv 3) Zac))) (Zlp K (n:=2) rfl (Za4 (Zat (i:=6) scLaw.nd rfl (Or.inr rfl)) (Za4 (Zat (i:=7) scLaw.nd rfl (Or.inr rfl)) ZcU))))
    (Zae (Zau (i:=8) scLaw.nd rfl (Or.inl rfl) (Zaj GSs (hr.mono (by decide)) rfl mSs FSs.kp bSs .nil ZaG (Zaa (Zar (Zf7 K) rfl mLen PySem.boot_len (Zaa (pv 4) Zac)) Zac)))
    (Zae (Zau (i:=10) scLaw.nd rfl (Or.inl rfl) (Zar (Zfe K hu) rfl mSor PyProof.Rows.boot_sorted (Zaa (Za2 (own:=["numbers"]) rfl (Zaq (fr:=[("web", 5)]) [(".0", .local),("numbers", .local),("_law_ring", .globalImplicit),("web", .cell)] rfl rfl (by decide +kernel) rfl (by decide +kernel) ⟨rfl,trivial⟩ ⟨λh=>ZaP h,λh=>ZaP h,λh=>ZaP h,λ_=>⟨_,rfl⟩,trivial⟩ ⟨⟨rfl,.inl rfl,.inl rfl⟩,trivial⟩) (ZbX K (pv 8)) (λ_ _ _ _=>Zat (i:=0) (show List.Nodup (["numbers", "web"]:List Str) by decide +kernel) rfl (Or.inl rfl)) (λ_ _ _ _=>Za9 (Zax ZgE (Zaj GF (hr.mono (by decide)) rfl mF FF.kp bF .nil ZaG (Zaa (pv 1) (Zaa (pv 0) Zac))) Zb8 (ZaD _))) (λ_ _ _ _=>pv 0)) Zac)))
    (Zae (Zau (i:=11) scLaw.nd rfl (Or.inl rfl) (ZaF Zac))
    (Zae (Za1 (Zax ZjE (pv 6) (pv 7) (ZaD _)) (Zag (Zau (i:=11) scLaw.nd rfl (Or.inl rfl) (Zar (Zfe K hu) rfl mSor PyProof.Rows.boot_sorted (Zaa (Za2 (own:=["numbers"]) rfl (Zaq (fr:=[("web", 5),("one", 6),("other", 7)]) [(".0", .local),("numbers", .local),("_law_open", .globalImplicit),("one", .cell),("other", .cell),("web", .cell)] rfl rfl (by decide +kernel) rfl (by decide +kernel) ⟨rfl,rfl,rfl,trivial⟩ ⟨λh=>ZaP h,λh=>ZaP h,λh=>ZaP h,λ_=>⟨_,rfl⟩,λ_=>⟨_,rfl⟩,λ_=>⟨_,rfl⟩,trivial⟩ ⟨⟨rfl,.inl rfl,.inl rfl⟩,⟨rfl,.inl rfl,.inl rfl⟩,⟨rfl,.inl rfl,.inl rfl⟩,trivial⟩) (ZbX K (pv 8)) (λ_ _ _ _=>Zat (i:=0) (show List.Nodup (["numbers", "web", "one", "other"]:List Str) by decide +kernel) rfl (Or.inl rfl)) (λ_ _ _ _=>Za9 (Zax ZgE (Zaj GE (hr.mono (by decide)) rfl mE FE.kp bE .nil ZaG (Zaa (pv 1) (Zaa (pv 2) (Zaa (pv 3) (Zaa (pv 0) Zac))))) Zb8 (ZaD _))) (λ_ _ _ _=>pv 0)) Zac)))) ZaA)
    (Zae (Zbi PassesOwn.never rfl (ZaQ rfl mRange (Zaa Zaf Zac)) (Zat (i:=12) scLaw.nd rfl (Or.inl rfl))
    (Zae (Zau (i:=13) scLaw.nd rfl (Or.inl rfl) (Zaj GEc (hr.mono (by decide)) rfl mEc FEc.kp bEc .nil ZjS (Zaa (pv 5) Zac)))
    (Zae (Za1 (ZbY (Zbh (Zaj GSa (hr.mono (by decide)) rfl mSa FSa.kp bSa .nil ZaG (Zaa (pv 13) (Zaa (pv 10) Zac))))) (Zag (Zay Zb7)) ZaA)
    (Zae (ZaX (Zcd PySem.F.plainAttrs_list PySem.F.slot_list_append PySem.F.type_list_append ZaO (pv 13) (Zaa (ZaF (Zaa Zaf Zac)) Zac)))
    (Zag (Za1 (Zax ZjE (pv 6) (pv 7) (ZaD _)) (Zae (Zau (i:=13) scLaw.nd rfl (Or.inl rfl) (Zaj GEw (hr.mono (by decide)) rfl mEw FEw.kp bEw .nil ZjS (Zaa (pv 5) (Zaa (pv 6) (Zaa (pv 7) Zac)))))
    (Zae (Za1 (ZbY (Zbh (Zaj GSa (hr.mono (by decide)) rfl mSa FSa.kp bSa .nil ZaG (Zaa (pv 13) (Zaa (pv 11) Zac))))) (Zag (Zay Zb7)) ZaA)
    (Zag (Zbi PassesOwn.never rfl (ZbX K (pv 13)) (Zat (i:=9) scLaw.nd rfl (Or.inl rfl))
    (Zag (ZaX (Zcd PySem.F.plainAttrs_list PySem.F.slot_list_append PySem.F.type_list_append ZaO (pv 9) (Zaa Zaf Zac)))))))) ZaA))))))
    (Zag (Za1 (PW.pt (Zea (ZbY (Zbh (Zaj GRf (hr.mono (by decide)) rfl mRf FRf.kp bRf .nil ZaG (Zaa (pv 5) (Zaa (Zaj GBd (hr.mono (by decide)) rfl mBd FBd.kp bBd .nil ZaG (Zaa (pv 2) (Zaa (pv 3) Zac))) Zac))))) (Zdl (Zax (ZkU K hu) (pv 5) (ZaV (Zaa (pv 3) (Zaa (pv 4) Zac))) (ZaD _))))) (Zag (Zay Zb7)) ZaA)))))))))))))
    (Zag (Zay Zb7)),?_⟩
  refine ⟨_,_,rfl,rfl,⟨by decide,by decide,by decide⟩,(by show 1<=sizeLine;decide),λp1 hp1=>?_⟩
  have s1:Same H (upd H p1 (.lst [.int (10 ^ (18:Int).toNat)])):=Same.new hp1
  refine ⟨_,rfl,_,rfl,a,_,rfl,s1.seq hS,λp2 hp2=>?_⟩
  have hcut:=ZcZ (ns.map V.int) none (some 4)
  rw [List.length_map] at hcut
  refine ⟨p1,p2,_,_,rfl,rfl,Zal Zab (λz=>by rw [<-z,Zab] at hp2;cases hp2),Zab,(by rw [List.length_singleton];omega),λp3 hp3=>?_⟩
  refine ⟨p3,rfl,⟨_,SqL.of Zab⟩,?_⟩
  generalize hHs:upd (upd (upd H p1 (.lst [.int (10 ^ (18:Int).toNat)])) p2 (.lst (Zdi (ns.map V.int) none (some 4)))) p3 (.lst ([.int (10 ^ (18:Int).toNat)]++Zdi (ns.map V.int) none (some 4)))=Hs
  have hL:Hs p3=some (.lst ([.int (10 ^ (18:Int).toNat)]++Zdi (ns.map V.int) none (some 4))):=by rw [<-hHs];exact Zab
  refine Zb9 (K:=K) (a:=p3) (xs:=[.int (10 ^ (18:Int).toNat)]++Zdi (ns.map V.int) none (some 4)) (λi σ H2=>∃ v1 v2 v3 v4 v5 v6 v7 v8 v9 v10 v11 v12 v13:Option V,σ=[some (.ref a),v1,v2,v3,v4,v5,v6,v7,v8,v9,v10,v11,v12,v13]/\Same Hs H2)
   ⟨none,none,none,none,none,none,none,none,none,none,none,none,none,rfl,Same.refl _⟩ (λi σ H2 _ ⟨_,_,_,_,_,_,_,_,_,_,_,_,_,_,s2⟩=>SqL.of (s2 _ _ hL)) ?_ ?_
  ·rintro i x σ H2 hi ⟨v1,v2,v3,v4,v5,v6,v7,v8,v9,v10,v11,v12,v13,rfl,s2⟩
   obtain ⟨z,rfl⟩:∃ z,x=.int z:=by
    cases i with
    | zero=>simp at hi;exact ⟨_,hi.symm⟩
    | succ j=>exact ZkS (i:=j) (by simpa using hi)
   clear hi hcut hHs hp3 hp2 hp1
   refine ⟨_,rfl,z,rfl,λd n0 hd=>?_⟩
   have hds:Hs d=none:=s2.free hd
   have D0:DeckAt Hs (upd H2 d (.lst [.int n0])) d:=⟨s2.put hds,hds,_,Zab⟩
   refine ⟨_,rfl,d,n0,rfl,Zab,λwp l xs0 k rs0 H3 K3 hwp hl hwl ew el0 pr0 good0=>?_⟩
   have D3:=D0.dk K3
   have hld:l≠d:=λzz=>by rw [zz,Zab] at hl;cases hl
   refine ⟨wp,_,rfl,SqT.of ew,rfl,_,_,rfl,_,_,rfl,rfl,?_⟩
   clear K3 ew hwp hwl
   refine ⟨_,rfl,_,rfl,l,xs0,rfl,SqL.of el0,λl2 hl2=>?_⟩
   rw [Zmw]
   have s34:Same H3 (upd H3 l2 (.lst (xs0.take 10))):=Same.new hl2
   have el:upd H3 l2 (.lst (xs0.take 10)) l2=some (.lst (xs0.take 10)):=Zab
   have hl2d:l2≠d:=λzz=>by
    obtain ⟨n3,e3⟩:=D3.at_
    rw [zz,e3] at hl2;cases hl2
   have D4:=D3.grow s34
   have pr:=(pr0.same s34).take 10
   have good:=ZhH good0 10
   have hr10:(rs0.take 10).length<=10:=by rw [List.length_take];omega
   generalize upd H3 l2 (.lst (xs0.take 10))=H4 at s34 el D4 pr ⊢
   generalize xs0.take 10=xs at el pr ⊢
   generalize rs0.take 10=rs at pr good hr10
   clear D3 el0 pr0 good0 hl2 s34
   have hxl:=pr.len
   refine ⟨_,rfl,_,rfl,l2,xs,rfl,.inl (SqL.of el),λl3 hl3=>⟨ZaT,λwb hwb=>?_⟩⟩
   have s5:Same H4 (upd (upd H4 l3 (.lst xs)) wb (.tup [.int k,.ref l3])):=(Same.new hl3).trans (Same.new hwb)
   have hl3d:l3≠d:=λzz=>by
    obtain ⟨n3,e3⟩:=D4.at_
    rw [zz,e3] at hl3;cases hl3
   have W5:WebAt (upd (upd H4 l3 (.lst xs)) wb (.tup [.int k,.ref l3])) wb l3 k xs rs:=⟨Zab,(Same.new hwb) _ _ Zab,pr.same s5⟩
   have D5:=D4.grow s5
   have el5:=s5 _ _ el
   generalize upd (upd H4 l3 (.lst xs)) wb (.tup [.int k,.ref l3])=H5 at s5 W5 D5 el5 ⊢
   clear D4 el pr
   obtain ⟨n5,e5⟩:=D5.at_
   refine ⟨_,rfl,_,rfl,d,n5,k,rfl,e5,good.1,good.2.1,λet p q' H6 K6 het eet hp hq=>?_⟩
   have D6:=D5.dk K6
   have W6:=W5.dk K6 e5 hl3d
   have el6:=K6.keep _ _ hl2d el5
   refine ⟨et,_,rfl,SqT.of eet,rfl,_,_,rfl,_,_,rfl,rfl,?_⟩
   clear K6 eet het D5 W5 el5 e5
   refine ⟨_,rfl,l2,xs,rfl,.inl (SqL.of el6),xs.length,rfl,by omega,λsl zs H7 s7 hsl esl lz fz ez=>?_⟩
   rw [hxl] at ez
   have W7:=W6.same s7
   have lzs:zs.length<=1024:=by
    have e:=congrArg List.length ez
    rw [List.length_map] at e
    unfold ZhW at e
    rw [List.length_map,List.length_range] at e
    have:2 ^ rs.length<=2 ^ 10:=Nat.pow_le_pow_right (by decide) hr10
    omega
   dsimp only [Zdg]
   have hz10:∀ y∈zs,y.2.length<=10:=λy hy=>Nat.le_trans (ZfX (ez▸List.mem_map.mpr ⟨y,hy,rfl⟩:y.2∈ZhW rs.length)) hr10
   refine Zb4 (λσ' H'=>∃ (rl:Addr) (rz:List (Addr×List Int)),σ'=[some (.ref a),some (.int z),some (.ref d),some (.int k),some (.ref l2),some (.ref wb),some (.int p),some (.int q'),some (.ref sl),v9,some (.ref rl),v11,v12,v13]/\Same H7 H'/\H' rl=some (.lst (rz.map λz=>V.ref z.1))/\Lz H' rz/\Trial rs none zs rz) ?sr ?fr
   case fr=>
    intro hk'
    refine ⟨_,rfl,sl,rfl,⟨_,SqL.of esl⟩,λD hD=>?_⟩
    refine ZaR (K:=K) (a:=sl) (xs:=zs.map λz=>V.ref z.1) (λj ys H8=>Same H7 H8/\H8 D=some (.lst ys)/\∃ cz:List (Addr×List Int),ys=cz.map (λz=>V.ref z.1)/\Chose rs none zs j cz) ⟨Same.new hD,Zab,[],rfl,List.nil_sublist _,λz hz=>(by cases hz),λz hz=>(by cases hz)⟩ (λj ys H8 _ ⟨s8,_⟩=>SqL.of (s8 _ _ esl)) ?_ ?_
    ·rintro j x ys H8 hxj ⟨s8,eD,cz,rfl,ch⟩
     rw [List.getElem?_map] at hxj
     cases hz:zs[j]? with
     | none=>rw [hz] at hxj;cases hxj
     | some y=>
      rw [hz] at hxj
      cases hxj
      have hym:y∈zs:=List.mem_of_getElem? hz
      have lcz:cz.length<=1024:=by
       have:=ch.1.length_le
       rw [List.length_take] at this
       omega
      refine ⟨⟨rfl,trivial⟩,?_⟩
      refine ⟨_,rfl,_,rfl,wb,l3,y.1,k,xs,rs,y.2,rfl,W7.same s8,good,s8 _ _ (lz y hym),by have:=hz10 y hym;omega,λno H9 s9=>?_,λhS h3 Dg s0 tl rest bg wk=>⟨λhlen' r H9 s9 hr9 er9=>?_,λhlen' H9 s9=>?_⟩⟩
      ·exact ⟨rfl,_,rfl,Zbw ⟨s8.trans s9,s9 _ _ eD,cz,rfl,ch.no hz λh=>no (by have:=ZfT good h;exact ⟨this.1,this.2.1,this.2.2.1⟩)⟩⟩
      ·refine ⟨rfl,_,rfl,Zce ⟨_,rfl,s9 _ _ eD,by rw [List.length_map];omega,(s8.trans s9).put hD,Zab,cz++[y],by rw [List.map_append];rfl,ch.yes hz (ZiV good hS h3 Dg bg wk hlen')⟩⟩
      ·exact ⟨rfl,_,rfl,Zbw ⟨s8.trans s9,s9 _ _ eD,cz,rfl,ch.no hz λh=>hlen' ((ZfT good h).2.2.2 s0 tl rest bg wk)⟩⟩
    ·rintro ys H8 ⟨s8,eD,cz,rfl,ch⟩
     rw [List.length_map] at ch
     have hcz:∀ y∈cz,y∈zs:=λy hy=>List.mem_of_mem_take (ch.1.subset hy)
     refine ⟨D,cz,rfl,SqL.of eD,λy hy=>SqL.of (s8 _ _ (lz y (hcz y hy))),λrl rz hrl pm so=>?_⟩
     refine hk' _ _ ⟨rl,rz,rfl,s8.put (s8.free hrl),Zab,λy hy=>?_,ch.trial pm so⟩
     have:=s8 _ _ (lz y (hcz y (pm.mem_iff.mp hy)))
     exact Zal this λe=>by rw [<-e,this] at hrl;cases hrl
   rintro σ' H8 ⟨rl,rz,rfl,s8,erl,lrz,tr⟩
   refine Zb4 (λσ' H'=>∃ (dl:Addr) (dz:List (Addr×List Int)),σ'=[some (.ref a),some (.int z),some (.ref d),some (.int k),some (.ref l2),some (.ref wb),some (.int p),some (.int q'),some (.ref sl),v9,some (.ref rl),some (.ref dl),v12,v13]/\Same H8 H'/\H' dl=some (.lst (dz.map λz=>V.ref z.1))/\Lz H' dz) ?sd ?fd
   case fd=>
    intro hk'
    refine ⟨Nat.zero_le _,λdl hdl=>?_⟩
    exact hk' _ _ ⟨dl,[],rfl,Same.new hdl,Zab,λy hy=>(by cases hy)⟩
   rintro σ' H9 ⟨dl0,dz0,rfl,s9,edl0,ldz0⟩
   refine Zb4 (λσ' H'=>∃ (dl:Addr) (dz:List (Addr×List Int)),σ'=[some (.ref a),some (.int z),some (.ref d),some (.int k),some (.ref l2),some (.ref wb),some (.int p),some (.int q'),some (.ref sl),v9,some (.ref rl),some (.ref dl),v12,v13]/\Same H9 H'/\H' dl=some (.lst (dz.map λz=>V.ref z.1))/\Lz H' dz/\(p≠q'->Trial rs (some (p,q')) zs dz)) ?se ?fe
   case fe=>
    intro hk'
    have s79:=s8.trans s9
    refine ⟨_,rfl,_,rfl,rfl,_,rfl,?_⟩
    by_cases hpq:p=q'
    ·subst hpq
     rw [show (!decide (V.int p=V.int p))=false by rw [decide_eq_true rfl];rfl]
     exact Zbw (hk' _ _ ⟨dl0,dz0,rfl,Same.refl _,edl0,ldz0,λh=>absurd rfl h⟩)
    ·rw [show (!decide (V.int p=V.int q'))=true by rw [decide_eq_false λe=>hpq (V.int.inj e)];rfl]
     refine Zce ?_
     have en:Ends k p q':=⟨hp,hq,hpq⟩
     have esl9:=s79 _ _ esl
     refine ⟨_,rfl,sl,rfl,⟨_,SqL.of esl9⟩,λD hD=>?_⟩
     refine ZaR (K:=K) (a:=sl) (xs:=zs.map λz=>V.ref z.1) (λj ys H10=>Same H9 H10/\H10 D=some (.lst ys)/\∃ cz:List (Addr×List Int),ys=cz.map (λz=>V.ref z.1)/\Chose rs (some (p,q')) zs j cz) ⟨Same.new hD,Zab,[],rfl,List.nil_sublist _,λz hz=>(by cases hz),λz hz=>(by cases hz)⟩ (λj ys H10 _ ⟨s10,_⟩=>SqL.of (s10 _ _ esl9)) ?_ ?_
     ·rintro j x ys H10 hxj ⟨s10,eD,cz,rfl,ch⟩
      rw [List.getElem?_map] at hxj
      cases hz:zs[j]? with
      | none=>rw [hz] at hxj;cases hxj
      | some y=>
       rw [hz] at hxj
       cases hxj
       have hym:y∈zs:=List.mem_of_getElem? hz
       have lcz:cz.length<=1024:=by
        have:=ch.1.length_le
        rw [List.length_take] at this
        omega
       refine ⟨⟨rfl,rfl,rfl,trivial⟩,?_⟩
       refine ⟨_,rfl,_,rfl,_,rfl,_,rfl,wb,l3,y.1,k,p,q',xs,rs,y.2,rfl,W7.same (s79.trans s10),good,(s79.trans s10) _ _ (lz y hym),by have:=hz10 y hym;omega,λno H11 s11=>?_,λhS Dg tl rest wk=>⟨λhlen' r H11 s11 hr9 er9=>?_,λhlen' H11 s11=>?_⟩⟩
       ·exact ⟨rfl,_,rfl,Zbw ⟨s10.trans s11,s11 _ _ eD,cz,rfl,ch.no hz λh=>no (by have:=ZfU good en h;exact ⟨this.1,this.2.1⟩)⟩⟩
       ·refine ⟨rfl,_,rfl,Zce ⟨_,rfl,s11 _ _ eD,by rw [List.length_map];omega,(s10.trans s11).put hD,Zab,cz++[y],by rw [List.map_append];rfl,ch.yes hz (ZiW good en hS Dg wk hlen')⟩⟩
       ·exact ⟨rfl,_,rfl,Zbw ⟨s10.trans s11,s11 _ _ eD,cz,rfl,ch.no hz λh=>hlen' ((ZfU good en h).2.2 tl rest wk)⟩⟩
     ·rintro ys H10 ⟨s10,eD,cz,rfl,ch⟩
      rw [List.length_map] at ch
      have hcz:∀ y∈cz,y∈zs:=λy hy=>List.mem_of_mem_take (ch.1.subset hy)
      refine ⟨D,cz,rfl,SqL.of eD,λy hy=>SqL.of ((s79.trans s10) _ _ (lz y (hcz y hy))),λdl dz hdl pm so=>?_⟩
      refine hk' _ _ ⟨dl,dz,rfl,s10.put (s10.free hdl),Zab,λy hy=>?_,λ_=>ch.trial pm so⟩
      have:=(s79.trans s10) _ _ (lz y (hcz y (pm.mem_iff.mp hy)))
      exact Zal this λe=>by rw [<-e,this] at hdl;cases hdl
   rintro σ' HB ⟨dl,dz,rfl,s10,edl,ldz,trd⟩
   have s7B:=(s8.trans s9).trans s10
   have WB:=W7.same s7B
   have DB:=(D6.grow s7).grow s7B
   have elB:=s7B _ _ (s7 _ _ el6)
   have erlB:=(s9.trans s10) _ _ erl
   have lrzB:=lrz.same (s9.trans s10)
   clear edl0 ldz0 s9 s10 s8 erl lrz W7 W6 D6 el6 esl lz
   refine Zb4 (λσ' H'=>∃ v9 v12 v13:Option V,σ'=[some (.ref a),some (.int z),some (.ref d),some (.int k),some (.ref l2),some (.ref wb),some (.int p),some (.int q'),some (.ref sl),v9,some (.ref rl),some (.ref dl),v12,v13]/\Same HB H') ?st ?ft
   case ft=>
    intro hk'
    refine ⟨_,rfl,by decide,by decide,?_⟩
    refine Zbc (lo:=0) (λi σ' H'=>∃ v9 v12 v13:Option V,σ'=[some (.ref a),some (.int z),some (.ref d),some (.int k),some (.ref l2),some (.ref wb),some (.int p),some (.int q'),some (.ref sl),v9,some (.ref rl),some (.ref dl),v12,v13]/\Same HB H') ⟨_,_,_,rfl,Same.refl _⟩ ?_ ?_
    ·rintro i σ' H10 hi ⟨w9,w12,w13,rfl,s10⟩
     refine ⟨_,rfl,wb,l3,k,xs,rs,rfl,WB.same s10,good,λj R rg hj h3=>absurd (ZkQ hr10 rg).1 (by omega),λR rg hR fl fzs H11 s11 hfl efl lfz ffz pm so=>?_⟩
     have te:Zgp rs none (fzs.map (·.2)):=ZiS good rg hR pm so
     have S11:=s10.trans s11
     refine ⟨_,rfl,_,rfl,fl,rl,fzs,rz,rfl,efl,lfz,S11 _ _ erlB,lrzB.same S11,tr.eq good ez te,λH12 s12=>⟨_,rfl,Zbw ?_⟩⟩
     have S12:=S11.trans s12
     have lfz3:fzs.length<=300:=by have:=te.ln;rw [List.length_map] at this;exact this
     have efl12:=s12 _ _ efl
     refine ⟨_,rfl,.inl ⟨rfl,_,SqL.of efl12⟩,(by show 1<=sizeLine;decide),λe0 he0=>⟨fl,_,_,rfl,rfl,Zal efl12 (Zai efl12 he0),by rw [List.length_map];omega,?_⟩⟩
     have S13:Same HB (upd (upd H12 e0 (.lst [.int 0])) fl (.lst ((fzs.map λz=>V.ref z.1)++[.ref e0]))):=(S12.put (S12.free he0)).put (s10.free hfl)
     generalize upd (upd H12 e0 (.lst [.int 0])) fl (.lst ((fzs.map λz=>V.ref z.1)++[.ref e0]))=H13 at S13 ⊢
     clear S12 s12 S11 s11 efl efl12 hfl lfz ffz pm so te he0
     refine ⟨_,rfl,_,rfl,rfl,_,rfl,?_⟩
     by_cases hpq:p=q'
     ·subst hpq
      rw [show (!decide (V.int p=V.int p))=false by rw [decide_eq_true rfl];rfl]
      exact Zbw ⟨_,_,_,rfl,S13⟩
     ·rw [show (!decide (V.int p=V.int q'))=true by rw [decide_eq_false λe=>hpq (V.int.inj e)];rfl]
      refine Zce ?_
      have en:Ends k p q':=⟨hp,hq,hpq⟩
      refine ⟨_,rfl,_,rfl,_,rfl,wb,l3,k,p,q',xs,rs,rfl,WB.same S13,good,.inr ⟨en,λWl wy=>⟨λh3=>absurd (ZkP hr10 wy) (by omega),λhW fl fzs H14 s14 hfl efl lfz ffz pm so=>?_⟩⟩⟩
      have te:Zgp rs (some (p,q')) (fzs.map (·.2)):=ZiR good en wy hW pm so
      have S14:=S13.trans s14
      refine ⟨_,rfl,_,rfl,fl,dl,fzs,dz,rfl,efl,lfz,S14 _ _ edl,ldz.same S14,(trd hpq).eq good ez te,λH15 s15=>⟨_,rfl,Zbw ?_⟩⟩
      have S15:=S14.trans s15
      have lfz3:fzs.length<=300:=by have:=te.ln;rw [List.length_map] at this;exact this
      have l10:∀ y∈fzs,y.2.length<=10:=λy hy=>by
       have hS:=ZhL good ((te.iff y.2).mp (List.mem_map.mpr ⟨y,hy,rfl⟩))
       exact Nat.le_trans (ZfX (ZfW rs.length y.2 hS.1 hS.2)) hr10
      have hflB:HB fl=none:=S13.free hfl
      refine ⟨_,rfl,fl,rfl,⟨_,SqL.of (s15 _ _ efl)⟩,?_⟩
      refine Zb9 (K:=K) (a:=fl) (xs:=fzs.map λz=>V.ref z.1) (λj σ' H'=>∃ v9 v12:Option V,σ'=[some (.ref a),some (.int z),some (.ref d),some (.int k),some (.ref l2),some (.ref wb),some (.int p),some (.int q'),some (.ref sl),v9,some (.ref rl),some (.ref dl),v12,some (.ref fl)]/\Same HB H'/\H' fl=some (.lst (fzs.map λz=>V.ref z.1))/\∀ y∈fzs,∃ ys:List V,H' y.1=some (.lst ys)/\ys.length<=10+j)
       ⟨_,_,rfl,S15,s15 _ _ efl,λy hy=>⟨_,s15 _ _ (lfz y hy),by rw [List.length_map];have:=l10 y hy;omega⟩⟩ (λj σ' H' _ ⟨_,_,_,_,e,_⟩=>SqL.of e) ?_ ?_
      ·rintro j x σ' H16 hxj ⟨u9,u12,rfl,S16,e16,all⟩
       rw [List.getElem?_map] at hxj
       cases hz:fzs[j]? with
       | none=>rw [hz] at hxj;cases hxj
       | some y=>
        rw [hz] at hxj
        cases hxj
        have hym:y∈fzs:=List.mem_of_getElem? hz
        have hj:j<fzs.length:=(List.getElem?_eq_some_iff.mp hz).1
        obtain ⟨ys,ey,ly⟩:=all y hym
        have hyB:HB y.1=none:=S13.free (ffz y hym).1
        refine ⟨_,rfl,.inl ⟨rfl,_,SqL.of ey⟩,y.1,_,_,rfl,rfl,ey,by omega,?_⟩
        refine ⟨_,_,rfl,S16.put hyB,Zal e16 (Ne.symm (ffz y hym).2),λy' hy'=>?_⟩
        by_cases e:y'.1=y.1
        ·rw [e]
         exact ⟨_,Zab,by rw [List.length_append,List.length_singleton];omega⟩
        ·obtain ⟨ys',ey',ly'⟩:=all y' hy'
         exact ⟨ys',Zal ey' e,by omega⟩
      ·rintro σ' H16 ⟨u9,u12,rfl,S16,_,_⟩
       exact ⟨_,_,_,rfl,S16⟩
    ·rintro σ' H10 ⟨w9,w12,w13,rfl,s10⟩
     exact hk' _ _ ⟨_,_,_,rfl,s10⟩
   rintro σ' H10 ⟨w9,w12,w13,rfl,s10⟩
   have D10:=DB.grow s10
   have W10:=WB.same s10
   have el10:=s10 _ _ elB
   obtain ⟨n10,e10⟩:=D10.at_
   refine ⟨_,rfl,_,rfl,_,rfl,d,n10,k,rfl,e10,good.1,good.2.1,λbt bp bq H11 K11 hbt ebt hb=>?_⟩
   have D11:=D10.dk K11
   have W11:=W10.dk K11 e10 hl3d
   have el11:=K11.keep _ _ hl2d el10
   refine ⟨wb,l3,bt,k,bp,bq,xs,rs,rfl,W11,good,ebt,hb,λH12 s12=>⟨_,rfl,Zbw ?_⟩⟩
   refine ⟨_,rfl,_,rfl,_,rfl,ZaT,λt2' ht2=>?_⟩
   have sC:Same H12 (upd H12 t2' (.tup [.int k,.ref l2])):=Same.new ht2
   have WC:=(W11.same s12).same sC
   refine ⟨.tuple [.int k,.list (rs.map prD)],.tuple [.int k,.list (rs.map prD)],.tup (SqT.of WC.w) (.cons (.int _) (.cons (.lst (SqL.of WC.l) WC.p.dats) .nil)),.tup (SqT.of Zab) (.cons (.int _) (.cons (.lst (SqL.of (sC _ _ (s12 _ _ el11))) WC.p.dats) .nil)),Zdt _ _,Zdt _ _,_,rfl,?_⟩
   rw [ZjR,decide_eq_true rfl,decide_eq_true rfl]
   refine Zbw ?_
   exact ⟨_,_,_,_,_,_,_,_,_,_,_,_,_,rfl,(D11.s.trans s12).trans sC⟩
  ·rintro σ H2 _
   exact q H2
end
end M
section
open PySem PySem.W PyProof.Rows
def M.rowP:Program:=PySem.Challenge.rw_onceways_k10_every_way_by_trial.prog
def M.seenP:Program:={ M.rowP with main:={ M.rowP.main with body:=[1,2,3,4,5,6,7,8,9,10,11,12,13,14,16,17,18,20,21,22,23,25,26,27,28,29,31,32,33,34,35,36,37,38,39,40,41,42,43,44,45,46,47].filterMap (λi=>M.rowP.main.body[i]?) } }
def M.loosely:List Str:=[Str.ofString "roads_of"]
def M.hookX (s:Shared):Bool:=xlAt M.seenP [] s && recOk (RowW.records (OpenRow.toRowW PySem.Challenge.rw_onceways_k10_every_way_by_trial.row)) s
noncomputable def M.atBoot (w:World) (os:OsState):Shared:=⟨boot_heap w.params,Array.mk [],boot_drawn,boot_toks,os⟩
noncomputable def M.topOf (p:Program) (N:Nat) (w:World) (os:OsState):Option Shared:=topRun treeTable p w (M.atBoot w os).heap.objs.size ((M.atBoot w os).heap.nsMap mainGlobals "__annotations__") N (M.atBoot w os) (topStub p)
theorem M.top_run {p:Program} {N:Nat} {w:World} {os:OsState} {s:Shared} (h:topFrom treeTable p w N (M.atBoot w os)=some s):M.topOf p N w os=some s:=by
 unfold topFrom at h
 split at h
 ·obtain ⟨s1,h1,h2⟩:=Option.bind_eq_some_iff.mp h
  split at h2
  ·cases h2;exact h1
  ·cases h2
 ·cases h
theorem M.left_boot {p q:Program} {loose:List Str} {Xt:Shared->Bool} {α:Type} {Yf:Shared->α} {Ya:World->α} {N:Nat} (e:opening p=plainProg p.main.scope.names) (hN:Nat.ble 600 N=true) (f:∀ s,fenceModules? p s=some s)
  (hc:∀ (w:World) (os:OsState),(topFrom treeTable p w N (M.atBoot w os)).isSome=true)
  (ha:∀ (w:World) (os:OsState),(M.topOf p N w os).map (openSeen q loose (importedModules p.main.body) Xt true)=some (openGood q loose))
  (hb:∀ (w:World) (os:OsState),(M.topOf p N w os).map Yf=some (Ya w)) :
  LeftO p q loose Xt Yf Ya N:=λw=>by
 obtain ⟨⟨a,b,c,d,os⟩,e1,e2⟩:=Option.map_eq_some_iff.mp (boot_open e hN f w)
 obtain ⟨rfl,rfl,rfl,rfl⟩:a=boot_heap w.params/\b=Array.mk []/\c=boot_drawn/\d=boot_toks:=by simpa using e2
 obtain ⟨s,hs⟩:=Option.isSome_iff_exists.mp (hc w os)
 have h1:=ha w os
 have h2:=hb w os
 rw [M.top_run hs] at h1 h2
 unfold openEnds
 rw [e1]
 show (topFrom treeTable p w N (M.atBoot w os)).map _=_
 rw [hs]
 simp only [Option.map_some,Option.some.injEq] at h1 h2 ⊢
 rw [h1,h2]
set_option maxHeartbeats 0 in
theorem M.topA (w:World) (os:OsState):(M.topOf M.rowP 7834 w os).map (openSeen M.seenP M.loosely (importedModules M.rowP.main.body) M.hookX true)=some (openGood M.seenP M.loosely):=by
 unfold M.topOf;rw [PySem.W.Fast.te14082659384304107361,PySem.W.Fast.te14364793385576792824,PySem.W.Fast.te4187177175401517315];kernel_rfl
set_option maxHeartbeats 0 in
theorem M.topC (w:World) (os:OsState):(topFrom treeTable M.rowP w 7834 (M.atBoot w os)).isSome=true:=by
 unfold topFrom;rw [PySem.W.Fast.te14082659384304107361,PySem.W.Fast.te14364793385576792824];kernel_rfl
end
namespace M
open PySem L2
theorem all_mk {l:PySem.W.OpenLaw} {w:World} {K:PySem.W.Frag} {h:Heap} {mg:Str->Option Value} {fa f1 f2 f3 f4 f5 f6 f7 f8 f9 f10 f11 f12 f13 f14 f15 f16 f17 f18 f19 f20 f21 f22 f23 f24 f25 f26 f27 f28 f29 no way a1 a2 a3 a4 a5 a6 a7 a8 a9 a10 a11 a12 dT:Addr} {tM:Tok} {dtc:Value} {dtd:Option Addr} {dtn:Nat} {dts:Array (Option Value)} (X:K.In h) (G:h.Ns mainGlobals mg) (hfa:mg "law" = some (.ref fa))
  {od1 an1 od2 an2 od3 an3 od4 an4 od5 an5 od6 an6 od7 an7 od8 an8 od9 an9 od10 an10 od11 an11 od12 an12 od13 an13 od14 an14 od15 an15 od16 an16 od17 an17 od18 an18 od19 an19 od20 an20 od21 an21 od22 an22 od23 an23 od24 an24 od25 an25 od26 an26 od27 an27 od28 an28 od29 an29:Option Addr} {sl1 sl2 sl3 sl4 sl5 sl6 sl7 sl8 sl9 sl10 sl11 sl12 sl13 sl14 sl15 sl16 sl17 sl18 sl19 sl20 sl21 sl22 sl23 sl24 sl25 sl26 sl27 sl28 sl29:Array (Option Value)} {oc1 kV1 dc1 pm1 cd1 ct1 oc2 kV2 dc2 pm2 cd2 ct2 oc3 kV3 dc3 pm3 cd3 ct3 oc4 kV4 dc4 pm4 cd4 ct4 oc5 kV5 dc5 pm5 cd5 ct5 oc6 kV6 dc6 pm6 cd6 ct6 oc7 kV7 dc7 pm7 cd7 ct7 oc8 kV8 dc8 pm8 cd8 ct8 oc9 kV9 dc9 pm9 cd9 ct9 oc10 kV10 dc10 pm10 cd10 ct10 oc11 kV11 dc11 pm11 cd11 ct11 oc12 kV12 dc12 pm12 cd12 ct12 oc13 kV13 dc13 pm13 cd13 ct13 oc14 kV14 dc14 pm14 cd14 ct14 oc15 kV15 dc15 pm15 cd15 ct15 oc16 kV16 dc16 pm16 cd16 ct16 oc17 kV17 dc17 pm17 cd17 ct17 oc18 kV18 dc18 pm18 cd18 ct18 oc19 kV19 dc19 pm19 cd19 ct19 oc20 kV20 dc20 pm20 cd20 ct20 oc21 kV21 dc21 pm21 cd21 ct21 oc22 kV22 dc22 pm22 cd22 ct22 oc23 kV23 dc23 pm23 cd23 ct23 oc24 kV24 dc24 pm24 cd24 ct24 oc25 kV25 dc25 pm25 cd25 ct25 oc26 kV26 dc26 pm26 cd26 ct26 oc27 kV27 dc27 pm27 cd27 ct27 oc28 kV28 dc28 pm28 cd28 ct28 oc29 kV29 dc29 pm29 cd29 ct29:Value}
  (aF1:PySem.W.nsIn K mainGlobals "is_place" = some (some (.ref f1))) (lF1:K.lookup f1=some ⟨oc1,od1,.func (PySem.W.fnOf "is_place" "is_place" (Zas sIs) (Zan sIs) (Zad sIs) .none kV1 dc1 pm1 an1 cd1 ct1),sl1⟩) (cF1:PySem.W.codeIn K cd1 "is_place" = true) (kF1:PySem.W.keepIn K (.ref f1)=true)
  (aF2:PySem.W.nsIn K mainGlobals "check_place" = some (some (.ref f2))) (lF2:K.lookup f2=some ⟨oc2,od2,.func (PySem.W.fnOf "check_place" "check_place" (Zas Zkh) (Zan Zkh) (Zad Zkh) .none kV2 dc2 pm2 an2 cd2 ct2),sl2⟩) (cF2:PySem.W.codeIn K cd2 "check_place" = true) (kF2:PySem.W.keepIn K (.ref f2)=true)
  (aF3:PySem.W.nsIn K mainGlobals "beside" = some (some (.ref f3))) (lF3:K.lookup f3=some ⟨oc3,od3,.func (PySem.W.fnOf "beside" "beside" (Zas Zki) (Zan Zki) (Zad Zki) .none kV3 dc3 pm3 an3 cd3 ct3),sl3⟩) (cF3:PySem.W.codeIn K cd3 "beside" = true) (kF3:PySem.W.keepIn K (.ref f3)=true)
  (aF4:PySem.W.nsIn K mainGlobals "check_ends" = some (some (.ref f4))) (lF4:K.lookup f4=some ⟨oc4,od4,.func (PySem.W.fnOf "check_ends" "check_ends" (Zas Zkj) (Zan Zkj) (Zad Zkj) .none kV4 dc4 pm4 an4 cd4 ct4),sl4⟩) (cF4:PySem.W.codeIn K cd4 "check_ends" = true) (kF4:PySem.W.keepIn K (.ref f4)=true)
  (aF5:PySem.W.nsIn K mainGlobals "numbers_by_step" = some (some (.ref f5))) (lF5:K.lookup f5=some ⟨oc5,od5,.func (PySem.W.fnOf "numbers_by_step" "numbers_by_step" (Zas Zje) (Zan Zje) (Zad Zje) .none kV5 dc5 pm5 an5 cd5 ct5),sl5⟩) (cF5:PySem.W.codeIn K cd5 "numbers_by_step" = true) (kF5:PySem.W.keepIn K (.ref f5)=true)
  (aF6:PySem.W.nsIn K mainGlobals "steps_of" = some (some (.ref f6))) (lF6:K.lookup f6=some ⟨oc6,od6,.func (PySem.W.fnOf "steps_of" "steps_of" (Zas Zkk) (Zan Zkk) (Zad Zkk) .none kV6 dc6 pm6 an6 cd6 ct6),sl6⟩) (cF6:PySem.W.codeIn K cd6 "steps_of" = true) (kF6:PySem.W.keepIn K (.ref f6)=true)
  (aF7:PySem.W.nsIn K mainGlobals "roads_of" = some (some (.ref f7))) (lF7:K.lookup f7=some ⟨oc7,od7,.func (PySem.W.fnOf "roads_of" "roads_of" (Zas Zff) (Zan Zff) (Zad Zff) (.ref dT) kV7 dc7 pm7 an7 cd7 ct7),sl7⟩) (cF7:PySem.W.codeIn K cd7 "roads_of" = true) (kF7:PySem.W.keepIn K (.ref f7)=true)
  (aF8:PySem.W.nsIn K mainGlobals "reached" = some (some (.ref f8))) (lF8:K.lookup f8=some ⟨oc8,od8,.func (PySem.W.fnOf "reached" "reached" (Zas Zjf) (Zan Zjf) (Zad Zjf) .none kV8 dc8 pm8 an8 cd8 ct8),sl8⟩) (cF8:PySem.W.codeIn K cd8 "reached" = true) (kF8:PySem.W.keepIn K (.ref f8)=true)
  (aF9:PySem.W.nsIn K mainGlobals "ways_between" = some (some (.ref f9))) (lF9:K.lookup f9=some ⟨oc9,od9,.func (PySem.W.fnOf "ways_between" "ways_between" (Zas ZiC) (Zan ZiC) (Zad ZiC) .none kV9 dc9 pm9 an9 cd9 ct9),sl9⟩) (cF9:PySem.W.codeIn K cd9 "ways_between" = true) (kF9:PySem.W.keepIn K (.ref f9)=true)
  (aF10:PySem.W.nsIn K mainGlobals "told_sets" = some (some (.ref f10))) (lF10:K.lookup f10=some ⟨oc10,od10,.func (PySem.W.fnOf "told_sets" "told_sets" (Zas Zjg) (Zan Zjg) (Zad Zjg) .none kV10 dc10 pm10 an10 cd10 ct10),sl10⟩) (cF10:PySem.W.codeIn K cd10 "told_sets" = true) (kF10:PySem.W.keepIn K (.ref f10)=true)
  (aF11:PySem.W.nsIn K mainGlobals "every_way" = some (some (.ref f11))) (lF11:K.lookup f11=some ⟨oc11,od11,.func (PySem.W.fnOf "every_way" "every_way" (Zas Zjh) (Zan Zjh) (Zad Zjh) .none kV11 dc11 pm11 an11 cd11 ct11),sl11⟩) (cF11:PySem.W.codeIn K cd11 "every_way" = true) (kF11:PySem.W.keepIn K (.ref f11)=true)
  (aF12:PySem.W.nsIn K mainGlobals "every_closed" = some (some (.ref f12))) (lF12:K.lookup f12=some ⟨oc12,od12,.func (PySem.W.fnOf "every_closed" "every_closed" (Zas Zkl) (Zan Zkl) (Zad Zkl) .none kV12 dc12 pm12 an12 cd12 ct12),sl12⟩) (cF12:PySem.W.codeIn K cd12 "every_closed" = true) (kF12:PySem.W.keepIn K (.ref f12)=true)
  (aF13:PySem.W.nsIn K mainGlobals "_law_stir" = some (some (.ref f13))) (lF13:K.lookup f13=some ⟨oc13,od13,.func (PySem.W.fnOf "_law_stir" "_law_stir" (Zas Zfg) (Zan Zfg) (Zad Zfg) .none kV13 dc13 pm13 an13 cd13 ct13),sl13⟩) (cF13:PySem.W.codeIn K cd13 "_law_stir" = true) (kF13:PySem.W.keepIn K (.ref f13)=true)
  (aF14:PySem.W.nsIn K mainGlobals "_law_deck" = some (some (.ref f14))) (lF14:K.lookup f14=some ⟨oc14,od14,.func (PySem.W.fnOf "_law_deck" "_law_deck" (Zas Zfh) (Zan Zfh) (Zad Zfh) .none kV14 dc14 pm14 an14 cd14 ct14),sl14⟩) (cF14:PySem.W.codeIn K cd14 "_law_deck" = true) (kF14:PySem.W.keepIn K (.ref f14)=true)
  (aF15:PySem.W.nsIn K mainGlobals "_law_take" = some (some (.ref f15))) (lF15:K.lookup f15=some ⟨oc15,od15,.func (PySem.W.fnOf "_law_take" "_law_take" (Zas ZdY) (Zan ZdY) (Zad ZdY) .none kV15 dc15 pm15 an15 cd15 ct15),sl15⟩) (cF15:PySem.W.codeIn K cd15 "_law_take" = true) (kF15:PySem.W.keepIn K (.ref f15)=true)
  (aF16:PySem.W.nsIn K mainGlobals "_law_grid" = some (some (.ref f16))) (lF16:K.lookup f16=some ⟨oc16,od16,.func (PySem.W.fnOf "_law_grid" "_law_grid" (Zas Zc8) (Zan Zc8) (Zad Zc8) .none kV16 dc16 pm16 an16 cd16 ct16),sl16⟩) (cF16:PySem.W.codeIn K cd16 "_law_grid" = true) (kF16:PySem.W.keepIn K (.ref f16)=true)
  (aF17:PySem.W.nsIn K mainGlobals "_law_web" = some (some (.ref f17))) (lF17:K.lookup f17=some ⟨oc17,od17,.func (PySem.W.fnOf "_law_web" "_law_web" (Zas Zkm) (Zan Zkm) (Zad Zkm) .none kV17 dc17 pm17 an17 cd17 ct17),sl17⟩) (cF17:PySem.W.codeIn K cd17 "_law_web" = true) (kF17:PySem.W.keepIn K (.ref f17)=true)
  (aF18:PySem.W.nsIn K mainGlobals "_law_ends" = some (some (.ref f18))) (lF18:K.lookup f18=some ⟨oc18,od18,.func (PySem.W.fnOf "_law_ends" "_law_ends" (Zas Zkn) (Zan Zkn) (Zad Zkn) .none kV18 dc18 pm18 an18 cd18 ct18),sl18⟩) (cF18:PySem.W.codeIn K cd18 "_law_ends" = true) (kF18:PySem.W.keepIn K (.ref f18)=true)
  (aF19:PySem.W.nsIn K mainGlobals "_law_bad_ends" = some (some (.ref f19))) (lF19:K.lookup f19=some ⟨oc19,od19,.func (PySem.W.fnOf "_law_bad_ends" "_law_bad_ends" (Zas Zko) (Zan Zko) (Zad Zko) .none kV19 dc19 pm19 an19 cd19 ct19),sl19⟩) (cF19:PySem.W.codeIn K cd19 "_law_bad_ends" = true) (kF19:PySem.W.keepIn K (.ref f19)=true)
  (aF20:PySem.W.nsIn K mainGlobals "_law_is_refused" = some (some (.ref f20))) (lF20:K.lookup f20=some ⟨oc20,od20,.func (PySem.W.fnOf "_law_is_refused" "_law_is_refused" (Zas Zkp) (Zan Zkp) (Zad Zkp) .none kV20 dc20 pm20 an20 cd20 ct20),sl20⟩) (cF20:PySem.W.codeIn K cd20 "_law_is_refused" = true) (kF20:PySem.W.keepIn K (.ref f20)=true)
  (aF21:PySem.W.nsIn K mainGlobals "_law_is_set" = some (some (.ref f21))) (lF21:K.lookup f21=some ⟨oc21,od21,.func (PySem.W.fnOf "_law_is_set" "_law_is_set" (Zas Zji) (Zan Zji) (Zad Zji) .none kV21 dc21 pm21 an21 cd21 ct21),sl21⟩) (cF21:PySem.W.codeIn K cd21 "_law_is_set" = true) (kF21:PySem.W.keepIn K (.ref f21)=true)
  (aF22:PySem.W.nsIn K mainGlobals "_law_walk" = some (some (.ref f22))) (lF22:K.lookup f22=some ⟨oc22,od22,.func (PySem.W.fnOf "_law_walk" "_law_walk" (Zas Zhr) (Zan Zhr) (Zad Zhr) .none kV22 dc22 pm22 an22 cd22 ct22),sl22⟩) (cF22:PySem.W.codeIn K cd22 "_law_walk" = true) (kF22:PySem.W.keepIn K (.ref f22)=true)
  (aF23:PySem.W.nsIn K mainGlobals "_law_at" = some (some (.ref f23))) (lF23:K.lookup f23=some ⟨oc23,od23,.func (PySem.W.fnOf "_law_at" "_law_at" (Zas Zjj) (Zan Zjj) (Zad Zjj) .none kV23 dc23 pm23 an23 cd23 ct23),sl23⟩) (cF23:PySem.W.codeIn K cd23 "_law_at" = true) (kF23:PySem.W.keepIn K (.ref f23)=true)
  (aF24:PySem.W.nsIn K mainGlobals "_law_open" = some (some (.ref f24))) (lF24:K.lookup f24=some ⟨oc24,od24,.func (PySem.W.fnOf "_law_open" "_law_open" (Zas Zkq) (Zan Zkq) (Zad Zkq) .none kV24 dc24 pm24 an24 cd24 ct24),sl24⟩) (cF24:PySem.W.codeIn K cd24 "_law_open" = true) (kF24:PySem.W.keepIn K (.ref f24)=true)
  (aF25:PySem.W.nsIn K mainGlobals "_law_ring" = some (some (.ref f25))) (lF25:K.lookup f25=some ⟨oc25,od25,.func (PySem.W.fnOf "_law_ring" "_law_ring" (Zas Zjk) (Zan Zjk) (Zad Zjk) .none kV25 dc25 pm25 an25 cd25 ct25),sl25⟩) (cF25:PySem.W.codeIn K cd25 "_law_ring" = true) (kF25:PySem.W.keepIn K (.ref f25)=true)
  (aF26:PySem.W.nsIn K mainGlobals "_law_sets" = some (some (.ref f26))) (lF26:K.lookup f26=some ⟨oc26,od26,.func (PySem.W.fnOf "_law_sets" "_law_sets" (Zas Zkr) (Zan Zkr) (Zad Zkr) .none kV26 dc26 pm26 an26 cd26 ct26),sl26⟩) (cF26:PySem.W.codeIn K cd26 "_law_sets" = true) (kF26:PySem.W.keepIn K (.ref f26)=true)
  (aF27:PySem.W.nsIn K mainGlobals "_law_same" = some (some (.ref f27))) (lF27:K.lookup f27=some ⟨oc27,od27,.func (PySem.W.fnOf "_law_same" "_law_same" (Zas Zks) (Zan Zks) (Zad Zks) .none kV27 dc27 pm27 an27 cd27 ct27),sl27⟩) (cF27:PySem.W.codeIn K cd27 "_law_same" = true) (kF27:PySem.W.keepIn K (.ref f27)=true)
  (aF28:PySem.W.nsIn K mainGlobals "_law_refused" = some (some (.ref f28))) (lF28:K.lookup f28=some ⟨oc28,od28,.func (PySem.W.fnOf "_law_refused" "_law_refused" (Zas Zkt) (Zan Zkt) (Zad Zkt) .none kV28 dc28 pm28 an28 cd28 ct28),sl28⟩) (cF28:PySem.W.codeIn K cd28 "_law_refused" = true) (kF28:PySem.W.keepIn K (.ref f28)=true)
  (aF29:PySem.W.nsIn K mainGlobals "law" = some (some (.ref f29))) (lF29:K.lookup f29=some ⟨oc29,od29,.func (PySem.W.fnOf "law" "law" (Zas ZiD) (Zan ZiD) (Zad ZiD) .none kV29 dc29 pm29 an29 cd29 ct29),sl29⟩) (cF29:PySem.W.codeIn K cd29 "law" = true) (kF29:PySem.W.keepIn K (.ref f29)=true)
  (gno:PySem.W.nsIn K mainGlobals "NoEnds" = some (some (.ref no)))
  (gway:PySem.W.nsIn K mainGlobals "WayError" = some (some (.ref way)))
  (ga1:PySem.W.nsIn K mainGlobals "NoName" = some (some (.ref a1)))
  (ga2:PySem.W.nsIn K mainGlobals "NoNumber" = some (some (.ref a2)))
  (ga3:PySem.W.nsIn K mainGlobals "NoOrder" = some (some (.ref a3)))
  (ga4:PySem.W.nsIn K mainGlobals "NoPlace" = some (some (.ref a4)))
  (ga5:PySem.W.nsIn K mainGlobals "NoRow" = some (some (.ref a5)))
  (ga6:PySem.W.nsIn K mainGlobals "NoStep" = some (some (.ref a6)))
  (ga7:PySem.W.nsIn K mainGlobals "NoTable" = some (some (.ref a7)))
  (ga8:PySem.W.nsIn K mainGlobals "NoText" = some (some (.ref a8)))
  (ga9:PySem.W.nsIn K mainGlobals "NoWall" = some (some (.ref a9)))
  (ga10:PySem.W.nsIn K mainGlobals "NoWay" = some (some (.ref a10)))
  (ga11:PySem.W.nsIn K mainGlobals "NoWeb" = some (some (.ref a11)))
  (ga12:PySem.W.nsIn K mainGlobals "TooMany" = some (some (.ref a12)))
  (xex:ExcC K no)
  (xga:PySem.W.findIn K (.ref no) "__getattribute__" = some (some (.builtin "BaseException.__getattribute__")))
  (xnga:PySem.W.findIn K (.ref no) "__getattr__" = some none)
  (xcl:PySem.W.findIn K (.ref no) "__class__" = some (some (.builtin "object.__class__")))
  (xob:PySem.W.mroIn K no (.type "object")=some true)
  (xbe:PySem.W.subIn K (.ref no) (.type "BaseException")=some true)
  (wbe:PySem.W.subIn K (.ref way) (.type "BaseException")=some true)
  (cw:PySem.W.kitOne K (.ref no) (.ref way)=some true)
  (nne:no≠way)
  (t10:PySem.W.kitAny K (.ref no) [.ref a1,.ref a2,.ref a3,.ref a4,.ref a5,.ref a6,.ref a7,.ref a8,.ref a9,.ref a10]=some false)
  (t2:PySem.W.kitAny K (.ref no) [.ref a11,.ref a12]=some false)
  (ve:PySem.W.kitOne K (.ref no) (.type "ValueError")=some true)
  (xP:ExcC K a4)
  (xT:ExcC K a12)
  (kib:PySem.W.kitOne K (.type "int") (.type "bool")=some false)
  (gMW:PySem.W.nsIn K mainGlobals "MOST_WAYS" = some (some (.int 300 tM)))
  (dTl:K.lookup dT=some ⟨dtc,dtd,.seq #[.bool false] dtn,dts⟩)
  (nrange:PySem.W.nsIn K mainGlobals "range" = some none)
  (nlist:PySem.W.nsIn K mainGlobals "list" = some none)
  (nlen:PySem.W.nsIn K mainGlobals "len" = some none)
  (nint:PySem.W.nsIn K mainGlobals "int" = some none)
  (nmin:PySem.W.nsIn K mainGlobals "min" = some none)
  (nmax:PySem.W.nsIn K mainGlobals "max" = some none)
  (nsorted:PySem.W.nsIn K mainGlobals "sorted" = some none)
  (nzip:PySem.W.nsIn K mainGlobals "zip" = some none)
  (nenumerate:PySem.W.nsIn K mainGlobals "enumerate" = some none)
  (nbool:PySem.W.nsIn K mainGlobals "bool" = some none)
  (nisi:PySem.W.nsIn K mainGlobals "isinstance" = some none)
  (nvee:PySem.W.nsIn K mainGlobals "ValueError" = some none)
  : ∃ fd:FuncData,(∀ (s:Shared) (v:Value),BindsTo s fd ⟨[v],[]⟩ [("script", v)])/\∀ base:Heap,K.In base->base.Ns mainGlobals mg->ZaN l.prog w K mg base CX0 8 fa fd ["script"] (ZiY K):=by
 have e:=hfa.symm.trans (PySem.W.mg_of X G aF29)
 cases e
 have FIp:=ZaJ (st:=sIs) lF1 cF1 kF1
 have bIp:=FIp.binds (ps:=["web", "place"]) λ_ _ _ _ _ _ us hl=>match us,hl with | [_,_],_=>rfl
 have mIp:mg "is_place" = some (.ref f1):=PySem.W.mg_of X G aF1
 have FCp:=ZaJ (st:=Zkh) lF2 cF2 kF2
 have bCp:=FCp.binds (ps:=["web", "place"]) λ_ _ _ _ _ _ us hl=>match us,hl with | [_,_],_=>rfl
 have mCp:mg "check_place" = some (.ref f2):=PySem.W.mg_of X G aF2
 have FBe:=ZaJ (st:=Zki) lF3 cF3 kF3
 have bBe:=FBe.binds (ps:=["web", "place"]) λ_ _ _ _ _ _ us hl=>match us,hl with | [_,_],_=>rfl
 have mBe:mg "beside" = some (.ref f3):=PySem.W.mg_of X G aF3
 have FCe:=ZaJ (st:=Zkj) lF4 cF4 kF4
 have bCe:=FCe.binds (ps:=["web", "one", "other"]) λ_ _ _ _ _ _ us hl=>match us,hl with | [_,_,_],_=>rfl
 have mCe:mg "check_ends" = some (.ref f4):=PySem.W.mg_of X G aF4
 have FNb:=ZaJ (st:=Zje) lF5 cF5 kF5
 have bNb:=FNb.binds (ps:=["web"]) λ_ _ _ _ _ _ us hl=>match us,hl with | [_],_=>rfl
 have mNb:mg "numbers_by_step" = some (.ref f5):=PySem.W.mg_of X G aF5
 have FSo:=ZaJ (st:=Zkk) lF6 cF6 kF6
 have bSo:=FSo.binds (ps:=["places", "closed"]) λ_ _ _ _ _ _ us hl=>match us,hl with | [_,_],_=>rfl
 have mSo:mg "steps_of" = some (.ref f6):=PySem.W.mg_of X G aF6
 have FRo:=Zj5 (st:=Zff) lF7 cF7 kF7
 have bRo:Binds K _ ["web", "places", "closed"] []:=λs us X' hl=>match us,hl with | [_,_,_],_=>PySem.W.binds_K (fd:=PySem.W.fnOf "roads_of" "roads_of" (Zas Zff) (Zan Zff) (Zad Zff) (.ref dT) kV7 dc7 pm7 an7 cd7 ct7) X' rfl dTl rfl rfl rfl
 have bRo2:Binds K _ ["web", "places", "closed"] [.bool false]:=λs us X' hl=>match us,(show us.length=2 by rw [List.length_append] at hl;simpa using hl) with | [_,_],_=>PySem.W.binds_K (fd:=PySem.W.fnOf "roads_of" "roads_of" (Zas Zff) (Zan Zff) (Zad Zff) (.ref dT) kV7 dc7 pm7 an7 cd7 ct7) X' rfl dTl rfl rfl rfl
 have mRo:mg "roads_of" = some (.ref f7):=PySem.W.mg_of X G aF7
 have FRe:=ZaJ (st:=Zjf) lF8 cF8 kF8
 have bRe:=FRe.binds (ps:=["links", "start", "gone"]) λ_ _ _ _ _ _ us hl=>match us,hl with | [_,_,_],_=>rfl
 have mRe:mg "reached" = some (.ref f8):=PySem.W.mg_of X G aF8
 have FWb:=ZaJ (st:=ZiC) lF9 cF9 kF9
 have bWb:=FWb.binds (ps:=["web", "one", "other"]) λ_ _ _ _ _ _ us hl=>match us,hl with | [_,_,_],_=>rfl
 have mWb:mg "ways_between" = some (.ref f9):=PySem.W.mg_of X G aF9
 have FTs:=ZaJ (st:=Zjg) lF10 cF10 kF10
 have bTs:=FTs.binds (ps:=["sets"]) λ_ _ _ _ _ _ us hl=>match us,hl with | [_],_=>rfl
 have mTs:mg "told_sets" = some (.ref f10):=PySem.W.mg_of X G aF10
 have FEw:=ZaJ (st:=Zjh) lF11 cF11 kF11
 have bEw:=FEw.binds (ps:=["web", "one", "other"]) λ_ _ _ _ _ _ us hl=>match us,hl with | [_,_,_],_=>rfl
 have mEw:mg "every_way" = some (.ref f11):=PySem.W.mg_of X G aF11
 have FEc:=ZaJ (st:=Zkl) lF12 cF12 kF12
 have bEc:=FEc.binds (ps:=["web"]) λ_ _ _ _ _ _ us hl=>match us,hl with | [_],_=>rfl
 have mEc:mg "every_closed" = some (.ref f12):=PySem.W.mg_of X G aF12
 have FSt:=ZaJ (st:=Zfg) lF13 cF13 kF13
 have bSt:=FSt.binds (ps:=["cell", "k"]) λ_ _ _ _ _ _ us hl=>match us,hl with | [_,_],_=>rfl
 have mSt:mg "_law_stir" = some (.ref f13):=PySem.W.mg_of X G aF13
 have FDe:=ZaJ (st:=Zfh) lF14 cF14 kF14
 have bDe:=FDe.binds (ps:=["cell"]) λ_ _ _ _ _ _ us hl=>match us,hl with | [_],_=>rfl
 have mDe:mg "_law_deck" = some (.ref f14):=PySem.W.mg_of X G aF14
 have FTa:=ZaJ (st:=ZdY) lF15 cF15 kF15
 have bTa:=FTa.binds (ps:=["deck", "many"]) λ_ _ _ _ _ _ us hl=>match us,hl with | [_,_],_=>rfl
 have mTa:mg "_law_take" = some (.ref f15):=PySem.W.mg_of X G aF15
 have FGr:=ZaJ (st:=Zc8) lF16 cF16 kF16
 have bGr:=FGr.binds (ps:=["rows", "columns"]) λ_ _ _ _ _ _ us hl=>match us,hl with | [_,_],_=>rfl
 have mGr:mg "_law_grid" = some (.ref f16):=PySem.W.mg_of X G aF16
 have FWe:=ZaJ (st:=Zkm) lF17 cF17 kF17
 have bWe:=FWe.binds (ps:=["deck"]) λ_ _ _ _ _ _ us hl=>match us,hl with | [_],_=>rfl
 have mWe:mg "_law_web" = some (.ref f17):=PySem.W.mg_of X G aF17
 have FEn:=ZaJ (st:=Zkn) lF18 cF18 kF18
 have bEn:=FEn.binds (ps:=["deck", "places"]) λ_ _ _ _ _ _ us hl=>match us,hl with | [_,_],_=>rfl
 have mEn:mg "_law_ends" = some (.ref f18):=PySem.W.mg_of X G aF18
 have FBd:=ZaJ (st:=Zko) lF19 cF19 kF19
 have bBd:=FBd.binds (ps:=["deck", "places"]) λ_ _ _ _ _ _ us hl=>match us,hl with | [_,_],_=>rfl
 have mBd:mg "_law_bad_ends" = some (.ref f19):=PySem.W.mg_of X G aF19
 have FIr:=ZaJ (st:=Zkp) lF20 cF20 kF20
 have bIr:=FIr.binds (ps:=["caught"]) λ_ _ _ _ _ _ us hl=>match us,hl with | [_],_=>rfl
 have mIr:mg "_law_is_refused" = some (.ref f20):=PySem.W.mg_of X G aF20
 have FIs:=ZaJ (st:=Zji) lF21 cF21 kF21
 have bIs:=FIs.binds (ps:=["web", "roads"]) λ_ _ _ _ _ _ us hl=>match us,hl with | [_,_],_=>rfl
 have mIs:mg "_law_is_set" = some (.ref f21):=PySem.W.mg_of X G aF21
 have FLw:=ZaJ (st:=Zhr) lF22 cF22 kF22
 have bLw:=FLw.binds (ps:=["web", "roads", "place"]) λ_ _ _ _ _ _ us hl=>match us,hl with | [_,_,_],_=>rfl
 have mLw:mg "_law_walk" = some (.ref f22):=PySem.W.mg_of X G aF22
 have FAt:=ZaJ (st:=Zjj) lF23 cF23 kF23
 have bAt:=FAt.binds (ps:=["web", "roads", "place"]) λ_ _ _ _ _ _ us hl=>match us,hl with | [_,_,_],_=>rfl
 have mAt:mg "_law_at" = some (.ref f23):=PySem.W.mg_of X G aF23
 have FOp:=ZaJ (st:=Zkq) lF24 cF24 kF24
 have bOp:=FOp.binds (ps:=["web", "one", "other", "roads"]) λ_ _ _ _ _ _ us hl=>match us,hl with | [_,_,_,_],_=>rfl
 have mOp:mg "_law_open" = some (.ref f24):=PySem.W.mg_of X G aF24
 have FRi:=ZaJ (st:=Zjk) lF25 cF25 kF25
 have bRi:=FRi.binds (ps:=["web", "roads"]) λ_ _ _ _ _ _ us hl=>match us,hl with | [_,_],_=>rfl
 have mRi:mg "_law_ring" = some (.ref f25):=PySem.W.mg_of X G aF25
 have FSs:=ZaJ (st:=Zkr) lF26 cF26 kF26
 have bSs:=FSs.binds (ps:=["many"]) λ_ _ _ _ _ _ us hl=>match us,hl with | [_],_=>rfl
 have mSs:mg "_law_sets" = some (.ref f26):=PySem.W.mg_of X G aF26
 have FSa:=ZaJ (st:=Zks) lF27 cF27 kF27
 have bSa:=FSa.binds (ps:=["found", "due"]) λ_ _ _ _ _ _ us hl=>match us,hl with | [_,_],_=>rfl
 have mSa:mg "_law_same" = some (.ref f27):=PySem.W.mg_of X G aF27
 have FRf:=ZaJ (st:=Zkt) lF28 cF28 kF28
 have bRf:=FRf.binds (ps:=["web", "ends"]) λ_ _ _ _ _ _ us hl=>match us,hl with | [_,_],_=>rfl
 have mRf:mg "_law_refused" = some (.ref f28):=PySem.W.mg_of X G aF28
 have FL:=ZaJ (st:=ZiD) lF29 cF29 kF29
 refine ⟨PySem.W.fnOf "law" "law" (Zas ZiD) (Zan ZiD) (Zad ZiD) .none kV29 dc29 pm29 an29 cd29 ct29,λs v=>.of_eq rfl,λbase _ _=>?_⟩
 have T:ClsR K mg no way a1 a2 a3 a4 a5 a6 a7 a8 a9 a10 a11 a12:=⟨⟨xex,xga,xnga,xcl,xob,xbe⟩,(PySem.W.mg_of X G gno),(PySem.W.mg_of X G gway),(PySem.W.mg_of X G ga1),(PySem.W.mg_of X G ga2),(PySem.W.mg_of X G ga3),(PySem.W.mg_of X G ga4),(PySem.W.mg_of X G ga5),(PySem.W.mg_of X G ga6),(PySem.W.mg_of X G ga7),(PySem.W.mg_of X G ga8),(PySem.W.mg_of X G ga9),(PySem.W.mg_of X G ga10),(PySem.W.mg_of X G ga11),(PySem.W.mg_of X G ga12),wbe,cw,nne,t10,t2,ve,(PySem.W.mg_none_of X G nisi),(PySem.W.mg_none_of X G nvee)⟩
 have GDe:=Zkv (P:=l.prog) (w:=w) (base:=base) FDe FSt bSt mSt
 have GWe:=ZlJ (P:=l.prog) (w:=w) (base:=base) FWe FTa bTa mTa FGr bGr mGr (PySem.W.mg_none_of X G nrange) (PySem.W.mg_none_of X G nint) (PySem.W.mg_none_of X G nmin) (PySem.W.mg_none_of X G nlen)
 have GEn:=Zmh (P:=l.prog) (w:=w) (base:=base) FEn FTa bTa mTa (PySem.W.mg_none_of X G nmax)
 have GBd:=Zmk (P:=l.prog) (w:=w) (base:=base) FBd FTa bTa mTa
 have GSs:=Zmr (P:=l.prog) (w:=w) (base:=base) FSs (PySem.W.mg_none_of X G nrange)
 have GSa:=Zmt (P:=l.prog) (w:=w) (base:=base) FSa kib (PySem.W.mg_none_of X G nisi) (PySem.W.mg_none_of X G nlist) (PySem.W.mg_none_of X G nbool)
 have GOp:=Zmd (P:=l.prog) (w:=w) (base:=base) FOp FIs bIs mIs FAt bAt mAt FLw bLw mLw (PySem.W.mg_none_of X G nrange) (PySem.W.mg_none_of X G nlen) (PySem.W.mg_none_of X G nint) (PySem.W.mg_none_of X G nlist) (PySem.W.mg_none_of X G nmin)
 have GRi:=Zmf (P:=l.prog) (w:=w) (base:=base) FRi FIs bIs mIs FAt bAt mAt FLw bLw mLw (PySem.W.mg_none_of X G nrange) (PySem.W.mg_none_of X G nlen) (PySem.W.mg_none_of X G nint) (PySem.W.mg_none_of X G nlist) (PySem.W.mg_none_of X G nmin)
 have GCe:=ZlS (P:=l.prog) (w:=w) (base:=base) FCe FIp bIp mIp T.mno T.k.ex
 have GCp:=ZlW (P:=l.prog) (w:=w) (base:=base) FCp FIp bIp mIp T.m4 xP
 have GBe:=ZlY (P:=l.prog) (w:=w) (base:=base) FBe FCp bCp mCp GCp (PySem.W.mg_none_of X G nsorted)
 have GRo:=ZlU (P:=l.prog) (w:=w) (base:=base) FRo FNb bNb mNb FSo bSo mSo (PySem.W.mg_none_of X G nenumerate) (PySem.W.mg_none_of X G nlist) (PySem.W.mg_none_of X G nzip) (PySem.W.mg_none_of X G nsorted)
 have GWb:=Zl5 (P:=l.prog) (w:=w) (base:=base) FWb FBe bBe mBe GBe FRe bRe mRe (PySem.W.mg_of X G gMW) (PySem.W.mg_none_of X G nrange) (PySem.W.mg_none_of X G nlen)
 have GTs:=Zl6 (P:=l.prog) (w:=w) (base:=base) FTs (PySem.W.mg_of X G gMW) T.m12 xT (PySem.W.mg_none_of X G nlen) (PySem.W.mg_none_of X G nsorted)
 have GEw:=Zl7 (P:=l.prog) (w:=w) (base:=base) FEw FCe bCe mCe GCe FWb bWb mWb GWb FTs bTs mTs GTs FRo bRo2 mRo GRo
 have GEc:=Zl9 (P:=l.prog) (w:=w) (base:=base) FEc FWb bWb mWb GWb FTs bTs mTs GTs FRo bRo mRo GRo (PySem.W.mg_none_of X G nenumerate)
 have GRf:=Zmv (P:=l.prog) (w:=w) (base:=base) FRf T FEw bEw mEw GEw FIr bIr mIr
 exact Zmx FL FDe bDe mDe GDe FWe bWe mWe GWe FEn bEn mEn GEn FBd bBd mBd GBd FSs bSs mSs GSs FRi bRi mRi GRi FOp bOp mOp GOp FEc bEc mEc GEc FEw bEw mEw GEw FSa bSa mSa GSa FRf bRf mRf GRf (PySem.W.mg_none_of X G nrange) (PySem.W.mg_none_of X G nlist) (PySem.W.mg_none_of X G nlen) (PySem.W.mg_none_of X G nsorted)
theorem walk {l:PySem.W.OpenLaw} {q:Program} {loose:List Str} {XP:(Str->Option Value)->Heap->Prop} {YP:World->Heap->Prop} {d:DefRec} {K:Params->PySem.W.Frag} (hn:l.most=some 63) (hdf:d.params.defaults=[])
  (hY:∀ (w:World) (h:Heap),YP w h->(K w.params).In h)
  (F:∀ (w:World) (mg:Str->Option Value) (fa:Addr) (h:Heap),(K w.params).In h->h.Ns mainGlobals mg->mg d.name=some (.ref fa) ->
   ∃ fd:FuncData,(∀ (s:Shared) (u:Value),BindsTo s fd ⟨[u],[]⟩ [("script", u)])/\∀ base:Heap,(K w.params).In base->base.Ns mainGlobals mg->ZaN l.prog w (K w.params) mg base CX0 8 fa fd ["script"] (ZiY (K w.params))) :
  PySem.W.WalkO q loose XP YP l.row.toRowW d [] (λf vs=>PySem.call f vs):=
 L2.walk_of (n:=63) (k:=8) (x := "script") (CX:=λ_=>CX0) (sp:=λw=>ZiY (K w.params)) hn (by decide) hdf ⟨rfl,by decide,by decide⟩ hY F (λ_ _ a ns hl _ hS=>⟨a,ns,rfl,hS,hl,λ_=>rfl⟩) λ_ _ _ _ _ z=>z
end M
open PySem PySem.W PyProof.Rows
local macro_rules
 | `(tactic| o_head $H)=>`(tactic| (
  refine @holds_open _ M.seenP M.loosely M.hookX (XL M.seenP []) _ (Hook.obs $H) (Hook.val $H) (Hook.says $H) _ _ 7834
   (@M.left_boot M.rowP M.seenP M.loosely M.hookX _ (Hook.obs $H) (Hook.val $H) 7834 ?b1 ?b2 ?b3 M.topC M.topA ?hl)
   (Hook.of $H) (Hook.keeps $H) ?h1 XL.keeps (by rfl) (by rfl) (by rfl) ?h5 ?h6 ?h7 ?h8 ?h9 ?hw ?hc
  (case h1=>exact λs e=>xl_of s (Bool.and_eq_true_iff.mp e).1)
  (case h5=>exact λs e=>recFacts_of (Bool.and_eq_true_iff.mp e).2)
  (case h6=>rfl)
  (case h7=>first | assumption | decide +kernel)
  (case h8=>decide +kernel)
  (case h9=>exact ⟨rfl,rfl,rfl,rfl,rfl,by decide +kernel⟩)
  (case b1=>kernel_rfl)
  (case b2=>decide)
  (case b3=>(intro s;kernel_rfl))
  (case hl=>(intro w os;unfold M.topOf;rw [PySem.W.Fast.te14082659384304107361,PySem.W.Fast.te14364793385576792824];kernel_rfl))))
set_option maxRecDepth 100000 in
set_option maxHeartbeats 0 in
theorem PySem.Challenge.cw_onceways_k10_every_way_by_trial_holds : PySem.Challenge.rw_onceways_k10_every_way_by_trial.Holds := by
 w_on;o_law;k_head;(case hw=>w_witness2)
 k_fill
 refine M.walk (l:=PySem.Challenge.rw_onceways_k10_every_way_by_trial) rfl rfl (λw h Y=>PySem.W.kIn_of Y) ?F
 case F=>
  intro w mg fa h KX G hmg
  refine' M.all_mk KX G hmg ?aF1 ?lF1 ?cF1 ?kF1 ?aF2 ?lF2 ?cF2 ?kF2 ?aF3 ?lF3 ?cF3 ?kF3 ?aF4 ?lF4 ?cF4 ?kF4 ?aF5 ?lF5 ?cF5 ?kF5 ?aF6 ?lF6 ?cF6 ?kF6 ?aF7 ?lF7 ?cF7 ?kF7 ?aF8 ?lF8 ?cF8 ?kF8 ?aF9 ?lF9 ?cF9 ?kF9 ?aF10 ?lF10 ?cF10 ?kF10 ?aF11 ?lF11 ?cF11 ?kF11 ?aF12 ?lF12 ?cF12 ?kF12 ?aF13 ?lF13 ?cF13 ?kF13 ?aF14 ?lF14 ?cF14 ?kF14 ?aF15 ?lF15 ?cF15 ?kF15 ?aF16 ?lF16 ?cF16 ?kF16 ?aF17 ?lF17 ?cF17 ?kF17 ?aF18 ?lF18 ?cF18 ?kF18 ?aF19 ?lF19 ?cF19 ?kF19 ?aF20 ?lF20 ?cF20 ?kF20 ?aF21 ?lF21 ?cF21 ?kF21 ?aF22 ?lF22 ?cF22 ?kF22 ?aF23 ?lF23 ?cF23 ?kF23 ?aF24 ?lF24 ?cF24 ?kF24 ?aF25 ?lF25 ?cF25 ?kF25 ?aF26 ?lF26 ?cF26 ?kF26 ?aF27 ?lF27 ?cF27 ?kF27 ?aF28 ?lF28 ?cF28 ?kF28 ?aF29 ?lF29 ?cF29 ?kF29 ?gno ?gway ?ga1 ?ga2 ?ga3 ?ga4 ?ga5 ?ga6 ?ga7 ?ga8 ?ga9 ?ga10 ?ga11 ?ga12 ?xex ?xga ?xnga ?xcl ?xob ?xbe ?wbe ?cw ?nne ?t10 ?t2 ?ve ?xP ?xT ?kib ?gMW ?dTl ?nrange ?nlist ?nlen ?nint ?nmin ?nmax ?nsorted ?nzip ?nenumerate ?nbool ?nisi ?nvee
  (case aF1=>k_is)
  (case lF1=>k_is)
  (case cF1=>k_is)
  (case kF1=>k_is)
  (case aF2=>k_is)
  (case lF2=>k_is)
  (case cF2=>k_is)
  (case kF2=>k_is)
  (case aF3=>k_is)
  (case lF3=>k_is)
  (case cF3=>k_is)
  (case kF3=>k_is)
  (case aF4=>k_is)
  (case lF4=>k_is)
  (case cF4=>k_is)
  (case kF4=>k_is)
  (case aF5=>k_is)
  (case lF5=>k_is)
  (case cF5=>k_is)
  (case kF5=>k_is)
  (case aF6=>k_is)
  (case lF6=>k_is)
  (case cF6=>k_is)
  (case kF6=>k_is)
  (case aF7=>k_is)
  (case lF7=>k_is)
  (case cF7=>k_is)
  (case kF7=>k_is)
  (case aF8=>k_is)
  (case lF8=>k_is)
  (case cF8=>k_is)
  (case kF8=>k_is)
  (case aF9=>k_is)
  (case lF9=>k_is)
  (case cF9=>k_is)
  (case kF9=>k_is)
  (case aF10=>k_is)
  (case lF10=>k_is)
  (case cF10=>k_is)
  (case kF10=>k_is)
  (case aF11=>k_is)
  (case lF11=>k_is)
  (case cF11=>k_is)
  (case kF11=>k_is)
  (case aF12=>k_is)
  (case lF12=>k_is)
  (case cF12=>k_is)
  (case kF12=>k_is)
  (case aF13=>k_is)
  (case lF13=>k_is)
  (case cF13=>k_is)
  (case kF13=>k_is)
  (case aF14=>k_is)
  (case lF14=>k_is)
  (case cF14=>k_is)
  (case kF14=>k_is)
  (case aF15=>k_is)
  (case lF15=>k_is)
  (case cF15=>k_is)
  (case kF15=>k_is)
  (case aF16=>k_is)
  (case lF16=>k_is)
  (case cF16=>k_is)
  (case kF16=>k_is)
  (case aF17=>k_is)
  (case lF17=>k_is)
  (case cF17=>k_is)
  (case kF17=>k_is)
  (case aF18=>k_is)
  (case lF18=>k_is)
  (case cF18=>k_is)
  (case kF18=>k_is)
  (case aF19=>k_is)
  (case lF19=>k_is)
  (case cF19=>k_is)
  (case kF19=>k_is)
  (case aF20=>k_is)
  (case lF20=>k_is)
  (case cF20=>k_is)
  (case kF20=>k_is)
  (case aF21=>k_is)
  (case lF21=>k_is)
  (case cF21=>k_is)
  (case kF21=>k_is)
  (case aF22=>k_is)
  (case lF22=>k_is)
  (case cF22=>k_is)
  (case kF22=>k_is)
  (case aF23=>k_is)
  (case lF23=>k_is)
  (case cF23=>k_is)
  (case kF23=>k_is)
  (case aF24=>k_is)
  (case lF24=>k_is)
  (case cF24=>k_is)
  (case kF24=>k_is)
  (case aF25=>k_is)
  (case lF25=>k_is)
  (case cF25=>k_is)
  (case kF25=>k_is)
  (case aF26=>k_is)
  (case lF26=>k_is)
  (case cF26=>k_is)
  (case kF26=>k_is)
  (case aF27=>k_is)
  (case lF27=>k_is)
  (case cF27=>k_is)
  (case kF27=>k_is)
  (case aF28=>k_is)
  (case lF28=>k_is)
  (case cF28=>k_is)
  (case kF28=>k_is)
  (case aF29=>k_is)
  (case lF29=>k_is)
  (case cF29=>k_is)
  (case kF29=>k_is)
  (case gno=>k_is)
  (case gway=>k_is)
  (case ga1=>k_is)
  (case ga2=>k_is)
  (case ga3=>k_is)
  (case ga4=>k_is)
  (case ga5=>k_is)
  (case ga6=>k_is)
  (case ga7=>k_is)
  (case ga8=>k_is)
  (case ga9=>k_is)
  (case ga10=>k_is)
  (case ga11=>k_is)
  (case ga12=>k_is)
  (case xex=>(unfold L2.ExcC;k_exc))
  (case xga=>k_is)
  (case xnga=>k_is)
  (case xcl=>k_is)
  (case xob=>k_is)
  (case xbe=>k_is)
  (case wbe=>k_is)
  (case cw=>kit_is)
  (case nne=>decide)
  (case t10=>kit_is)
  (case t2=>kit_is)
  (case ve=>kit_is)
  (case xP=>(unfold L2.ExcC;k_exc))
  (case xT=>(unfold L2.ExcC;k_exc))
  (case kib=>kit_is)
  (case gMW=>k_is)
  (case dTl=>k_is)
  (case nrange=>k_is)
  (case nlist=>k_is)
  (case nlen=>k_is)
  (case nint=>k_is)
  (case nmin=>k_is)
  (case nmax=>k_is)
  (case nsorted=>k_is)
  (case nzip=>k_is)
  (case nenumerate=>k_is)
  (case nbool=>k_is)
  (case nisi=>k_is)
  (case nvee=>k_is)
#print axioms PySem.Challenge.cw_onceways_k10_every_way_by_trial_holds
