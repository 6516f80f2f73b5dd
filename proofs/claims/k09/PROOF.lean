import PyProof.Rows.All
import Wide.All
import OpenK.AllK
import Wide.FinOn
import Lean
import PyProof.EqAt
import PyProof.EqKinds
import PyProof.TupleCall
import PySem.Challenge.RW_onceways_k09_ways_of_sets
set_option Elab.async false
set_option linter.all false
set_option maxRecDepth 100000
set_option maxHeartbeats 4000000
namespace L2
open PySem PySem.Spec PyProof.Rows
abbrev Key:=Sum Int Str
def Zfm:Key->Value->Bool
 | .inl k,v=>Value.isInt k v
 | .inr x,v=>Value.isStrOf x v
def ZmG (w:World):Key->Int
 | .inl k=>hashInt k
 | .inr x=>hashStr w x
theorem ZaN:∀ {k:Key} {v:Value},Zfm k v=true->(∃ i t,k=Sum.inl i/\v=Value.int i t)\/(∃ x t,k=Sum.inr x/\v=Value.str x t)
 | .inl i,v,h=>by
  obtain ⟨t,e⟩:=Value.isInt_shape (k:=i) (v:=v) h
  exact .inl ⟨i,t,rfl,e⟩
 | .inr x,v,h=>by
  obtain ⟨t,e⟩:=Value.isStrOf_shape (x:=x) (v:=v) h
  exact .inr ⟨x,t,rfl,e⟩
theorem ZfN (i:Int) (t:Tok):Zfm (.inl i) (.int i t)=true:=by simp [Zfm,Value.isInt]
theorem ZfO (x:Str) (t:Tok):Zfm (.inr x) (.str x t)=true:=by simp [Zfm,Value.isStrOf]
theorem ZjL (a b:Int):decide ((Sum.inl a:Key)=Sum.inl b)=(a == b):=by
 by_cases e:a=b
 ·subst e;simp
 ·have h:¬ (Sum.inl a:Key)=Sum.inl b:=λq=>e (Sum.inl.inj q)
  rw [decide_eq_false h]
  exact (beq_eq_false_iff_ne.mpr e).symm
theorem ZjM (a b:Str):decide ((Sum.inr a:Key)=Sum.inr b)=decide (a=b):=by
 by_cases e:a=b
 ·subst e;simp
 ·have h:¬ (Sum.inr a:Key)=Sum.inr b:=λq=>e (Sum.inr.inj q)
  rw [decide_eq_false h,decide_eq_false e]
theorem ZjN (a:Int) (b:Str):decide ((Sum.inl a:Key)=Sum.inr b)=false:=decide_eq_false (λq=>nomatch q)
theorem ZjO (a:Str) (b:Int):decide ((Sum.inr a:Key)=Sum.inl b)=false:=decide_eq_false (λq=>nomatch q)
def ZaY (prog:Program) (w:World):PySem.KeyKind prog w Key where
 is:=Zfm
 hash:=ZmG w
 inj:=λv a b ha hb=>by
  rcases ZaN ha with ⟨i,t,rfl,rfl⟩ | ⟨x,t,rfl,rfl⟩
  ·rcases ZaN hb with ⟨j,u,rfl,e⟩ | ⟨y,u,rfl,e⟩
   ·injection e with e1 _;rw [e1]
   ·exact nomatch e
  ·rcases ZaN hb with ⟨j,u,rfl,e⟩ | ⟨y,u,rfl,e⟩
   ·exact nomatch e
   ·injection e with e1 _;rw [e1]
 byValue:=λk v h=>by
  rcases ZaN h with ⟨i,t,rfl,rfl⟩ | ⟨x,t,rfl,rfl⟩ <;> rfl
 pyHash:=λhv h=>by
  rcases ZaN hv with ⟨i,t,rfl,rfl⟩ | ⟨x,t,rfl,rfl⟩
  ·exact wpAny_pyHash_int h
  ·exact wpAny_pyHash_str h
 eqBool:=λhu hv h=>by
  rcases ZaN hu with ⟨i,t,rfl,rfl⟩ | ⟨x,t,rfl,rfl⟩
  ·rcases ZaN hv with ⟨j,u,rfl,rfl⟩ | ⟨y,u,rfl,rfl⟩
   ·rw [ZjL] at h;exact wpAny_eqBool_int h
   ·rw [ZjN] at h;exact SeqAt.EqAt.int_str i t y u _ _ _ _ h
  ·rcases ZaN hv with ⟨j,u,rfl,rfl⟩ | ⟨y,u,rfl,rfl⟩
   ·rw [ZjO] at h;exact SeqAt.EqAt.str_int x t j u _ _ _ _ h
   ·rw [ZjM] at h;exact wpAny_eqBool_str h
 «strs»:=λk x t v h=>by
  rcases ZaN h with ⟨i,u,rfl,e⟩ | ⟨y,u,rfl,e⟩
  ·exact nomatch e
  ·injection e with e1 _
   subst e1
   cases v <;> rfl
theorem Zeo (prog:Program) (w:World) (i:Int) (t:Tok):(ZaY prog w).is (.inl i) (.int i t)=true:=ZfN i t
theorem Zep (prog:Program) (w:World) (x:Str) (t:Tok):(ZaY prog w).is (.inr x) (.str x t)=true:=ZfO x t
end L2
namespace L2
open PySem PySem.Spec PyProof.Rows
inductive V where
 | non | bl (b:Bool) | int (i:Int) | str (x:Str) | byt (b:Array UInt8) | flt (b:UInt64) | ref (a:Addr) | ty (n:String)
 deriving DecidableEq
def RelV:V->Value->Prop
 | .non,u=>u=Value.none
 | .bl b,u=>u=Value.bool b
 | .int i,u=>∃ t,u=Value.int i t
 | .str x,u=>∃ t,u=Value.str x t
 | .byt b,u=>∃ t,u=Value.bytes b t
 | .flt b,u=>∃ t,u=Value.float b t
 | .ref a,u=>u=Value.ref a
 | .ty n,u=>u=Value.type n
abbrev Vals:List V->List Value->Prop:=Paired RelV
theorem Vals.length {xs:List V} {us:List Value} (r:Vals xs us):xs.length=us.length:=Paired.length r
theorem Vals.get:∀ {xs:List V} {us:List Value} {i:Nat} {x:V},Vals xs us->xs[i]?=some x->∃ u,us[i]?=some u/\RelV x u
 | _,_,_,_,.nil,e=>by simp at e
 | _,_,0,_,.cons r _,e=>by simp at e;subst e;exact ⟨_,rfl,r⟩
 | _,_,i+1,x,.cons _ t,e=>by
  obtain ⟨u,h1,h2⟩:=Vals.get (i:=i) (x:=x) t (by simpa using e)
  exact ⟨u,by simpa using h1,h2⟩
theorem Vals.set {x:V} {u:Value} (r:RelV x u):∀ {xs:List V} {us:List Value} (i:Nat),Vals xs us->Vals (xs.set i x) (us.set i u)
 | _,_,_,.nil=>.nil
 | _,_,0,.cons _ t=>.cons r t
 | _,_,i+1,.cons q t=>.cons q (Vals.set r i t)
theorem Vals.append:∀ {xs ys:List V} {us ws:List Value},Vals xs us->Vals ys ws->Vals (xs++ys) (us++ws)
 | _,_,_,_,.nil,s=>s
 | _,_,_,_,.cons r t,s=>.cons r (Vals.append t s)
theorem Vals.take:∀ {xs:List V} {us:List Value} (n:Nat),Vals xs us->Vals (xs.take n) (us.take n)
 | _,_,0,_=>.nil
 | _,_,_+1,.nil=>.nil
 | _,_,n+1,.cons r t=>.cons r (Vals.take n t)
theorem Vals.drop:∀ {xs:List V} {us:List Value} (n:Nat),Vals xs us->Vals (xs.drop n) (us.drop n)
 | _,_,0,r=>r
 | _,_,_+1,.nil=>.nil
 | _,_,n+1,.cons _ t=>Vals.drop n t
def RelO:Option V->Option Value->Prop
 | some v,some u=>RelV v u
 | none,none=>True
 | _,_=>False
def KV {κ:Type}:List (κ×V)->List (κ×Value)->Prop:=Paired λ(p:κ×V) (q:κ×Value)=>p.1=q.1/\RelV p.2 q.2
def kV:Key->V
 | .inl i=>.int i
 | .inr x=>.str x
inductive HO where
  | lst (xs:List V)
  | tup (xs:List V)
  | dK (kvs:List (Key×V)) | dT (kvs:List (List Key×V))
  | set (S:Int->Bool) (n:Nat)
  | ins (C dx:Addr) (fs:List (Str×V))
  | own (x:Addr)
  | xd (fs:List (Str×V))
  | met (f x:Addr)
  | rng (lo hi:Int)
  | frz (o:Obj) (u:HO)
  | tbl (ps:Array Value)
  | ext (φ:Heap->Prop)
abbrev Hp:=Addr->Option HO
def upd (H:Hp) (a:Addr) (o:HO):Hp:=λb=>if b=a then some o else H b
theorem Zab {H:Hp} {a:Addr} {o:HO}:upd H a o a=some o:=by unfold upd;rw [if_pos rfl]
theorem Zar {H:Hp} {a b:Addr} {o:HO} (h:b≠a):upd H a o b=H b:=by unfold upd;rw [if_neg h]
theorem ZfP {H:Hp} {a b:Addr} {o u:HO} (h:H a=some o) (h':H b=some u) (d:o≠u):a≠b:=by
 intro e;subst e;rw [h] at h';exact d (Option.some.inj h')
theorem Zah {H:Hp} {a b:Addr} {o:HO} (h:H a=some o) (h':H b=none):a≠b:=by
 intro e;subst e;rw [h] at h';cases h'
section
variable (P:Program) (w:World)
def ObjOk (H:Hp) (h:Heap) (a:Addr):HO->Prop
 | .lst xs=>xs.length<=sizeLine/\∃ (its:List Value) (n:Nat),Vals xs its/\h.get? a=some { cls:=.type "list", data:=.seq its.toArray n }
 | .tup xs=>xs.length<=sizeLine/\∃ its:List Value,Vals xs its/\IsTup h a its.toArray
 | .dK kvs=>kvs.length<=sizeLine/\(a == sysModules)=false/\∃ vs,KV kvs vs/\h.DictOf (ZaY P w) a vs
 | .dT kvs=>kvs.length<=sizeLine/\(a == sysModules)=false/\∃ xs:List (List Key×Addr×Value),
   Paired (λ(p:List Key×V) (q:List Key×Addr×Value)=>p.1=q.1/\H q.2.1=some (.tup (p.1.map kV))/\RelV p.2 q.2.2) kvs xs /\
   ∃ o es ep,h.get? a=some o/\o.ExactDict/\o.data=.dict es ep/\es.toList=xs.map (entryOfKey (tupleKind (ZaY P w)))/\(xs.map (·.1)).Nodup
 | .set S n=>h.SetOf (intKind P w) a S n
 | .ins C dx fs=>H dx=some (.own a)/\fs.length<=1000/\dx≠a/\h.get? a=some (PySem.W.instObj C dx) /\
   ∃ mA,h.Ns1 dx mA/\(∀ f,RelO (fs.lookup f) (mA f))/\PySem.Within mA (fs.map (·.1))
 | .own _=>∃ o,h.get? a=some o
 | .xd fs=>∃ mA,h.Ns1 a mA/\∀ f,RelO (fs.lookup f) (mA f)
 | .rng lo hi=>∃ t u v,h.get? a=some { cls:=.type "range", data:=.fields #[.int lo t,.int hi u,.int 1 v] }
 | .frz o u=>h.get? a=some o/\ObjOk H h a u
 | .tbl ps=>h.get? a=some { cls:=.none,data:=.fields ps }
 | .met f x=>h.get? a=some (PySem.W.methodObj (.ref f) (.ref x))
 | .ext φ=>φ h/\(∃ o,h.get? a=some o)/\∀ h1 h2:Heap,φ h1->(∀ o,h1.get? a=some o->h2.get? a=some o)->φ h2
def HOk (H:Hp) (h:Heap):Prop:=∀ a o,H a=some o->ObjOk P w H h a o
end
section
variable {P:Program} {w:World} {H H':Hp} {h h':Heap} {a:Addr} {o:HO}
theorem ObjOk.lt (x:ObjOk P w H h a o):a<h.objs.size:=by
 cases o with
 | lst xs=>obtain ⟨_,_,_,_,e⟩:=x;exact Heap.lt_size e
 | tup xs=>obtain ⟨_,_,_,p⟩:=x;exact p.lt
 | dK kvs=>obtain ⟨_,_,_,_,o,_,_,e,_⟩:=x;exact Heap.lt_size e
 | dT kvs=>obtain ⟨_,_,_,_,o,_,_,e,_⟩:=x;exact Heap.lt_size e
 | set S n=>obtain ⟨o,_,_,_,e,_⟩:=x;exact Heap.lt_size e
 | ins C dx fs=>obtain ⟨_,_,_,e,_⟩:=x;exact Heap.lt_size e
 | own y=>obtain ⟨_,e⟩:=x;exact Heap.lt_size e
 | xd fs=>obtain ⟨_,⟨_,_,_,e,_⟩,_⟩:=x;exact Heap.lt_size e
 | rng lo hi=>obtain ⟨_,_,_,e⟩:=x;exact Heap.lt_size e
 | frz ob u=>obtain ⟨e,_⟩:=x;exact Heap.lt_size e
 | tbl ps=>exact Heap.lt_size (show h.get? a=some _ from x)
 | met f y=>exact Heap.lt_size (show h.get? a=some _ from x)
 | ext φ=>obtain ⟨_,⟨_,e⟩,_⟩:=x;exact Heap.lt_size e
theorem Paired.mapP {α β:Type} {F G:α->β->Prop}:∀ {l₁:List α} {l₂:List β},Paired F l₁ l₂->(∀ a b,F a b->G a b)->Paired G l₁ l₂
 | _,_,.nil,_=>.nil
 | _,_,.cons r t,f=>.cons (f _ _ r) (Paired.mapP t f)
theorem ObjOk.stay (x:ObjOk P w H h a o) (k:∀ b u,(b=a\/H b=some (.own a))->h.get? b=some u->h'.get? b=some u)
  (ho:∀ b,H b=some (.own a)->H' b=some (.own a)) (ht:∀ b xs,H b=some (.tup xs)->H' b=some (.tup xs)):ObjOk P w H' h' a o:=by
 induction o with
 | lst xs=>obtain ⟨z,its,n,r,e⟩:=x;exact ⟨z,its,n,r,k _ _ (.inl rfl) e⟩
 | tup xs=>obtain ⟨z,its,r,ob,e,c⟩:=x;exact ⟨z,its,r,ob,k _ _ (.inl rfl) e,c⟩
 | dK kvs=>obtain ⟨z,y,vs,r,ob,es,ep,e,c⟩:=x;exact ⟨z,y,vs,r,ob,es,ep,k _ _ (.inl rfl) e,c⟩
 | dT kvs=>
  obtain ⟨z,y,xs,r,ob,es,ep,e,c⟩:=x
  exact ⟨z,y,xs,Paired.mapP r λp q z=>⟨z.1,ht _ _ z.2.1,z.2.2⟩,ob,es,ep,k _ _ (.inl rfl) e,c⟩
 | set S n=>obtain ⟨ob,es,ep,t,e,c⟩:=x;exact ⟨ob,es,ep,t,k _ _ (.inl rfl) e,c⟩
 | ins C dx fs=>
  obtain ⟨d,z,ne,e,mA,⟨od,es,ep,e2,c⟩,r⟩:=x
  exact ⟨ho _ d,z,ne,k _ _ (.inl rfl) e,mA,⟨od,es,ep,k _ _ (.inr d) e2,c⟩,r⟩
 | own y=>obtain ⟨ob,e⟩:=x;exact ⟨ob,k _ _ (.inl rfl) e⟩
 | xd fs=>obtain ⟨mA,⟨od,es,ep,e,c⟩,r⟩:=x;exact ⟨mA,⟨od,es,ep,k _ _ (.inl rfl) e,c⟩,r⟩
 | rng lo hi=>obtain ⟨t,u,v,e⟩:=x;exact ⟨t,u,v,k _ _ (.inl rfl) e⟩
 | frz ob u ih=>obtain ⟨e,q⟩:=x;exact ⟨k _ _ (.inl rfl) e,ih q⟩
 | tbl ps=>
  have e:h.get? a=some { cls:=.none,data:=.fields ps }:=x
  show h'.get? a=some { cls:=.none,data:=.fields ps }
  exact k a _ (.inl rfl) e
 | met f y=>
  have e:h.get? a=some (PySem.W.methodObj (.ref f) (.ref y)):=x
  show h'.get? a=some (PySem.W.methodObj (.ref f) (.ref y))
  exact k a _ (.inl rfl) e
 | ext φ=>obtain ⟨p,⟨o,e⟩,st⟩:=x;exact ⟨st _ _ p λo q=>k _ _ (.inl rfl) q,⟨o,k _ _ (.inl rfl) e⟩,st⟩
theorem HOk.lt (x:HOk P w H h) (e:H a=some o):a<h.objs.size:=(x a o e).lt
theorem HOk.fresh (x:HOk P w H h) (e:h.objs.size<=a):H a=none:=by
 cases q:H a with
 | none=>rfl
 | some u=>exact absurd (Nat.lt_of_lt_of_le (x.lt q) e) (Nat.lt_irrefl _)
theorem HOk.kept (x:HOk P w H h) (k:∀ b u,h.get? b=some u->h'.get? b=some u):HOk P w H h':=λa o e=>
 (x a o e).stay (λb u _ q=>k b u q) (λ_ q=>q) λ_ _ q=>q
theorem HOk.laid (x:HOk P w H h) (k:∀ b u,h.get? b=some u->h'.get? b=some u) (hp:h.objs.size<=a) (new:ObjOk P w (upd H a o) h' a o):HOk P w (upd H a o) h':=λb u e=>by
 have hn:=x.fresh hp
 by_cases hb:b=a
 ·subst hb;rw [Zab] at e;cases e;exact new
 ·rw [Zar hb] at e
  exact (x b u e).stay (λc v _ q=>k c v q) (λc q=>by rw [Zar (Zah q hn)];exact q) λc xs q=>by rw [Zar (Zah q hn)];exact q
end
def Rd (H:Hp) (a:Addr) (u:HO):Prop:=H a=some u\/∃ o,H a=some (.frz o u)
theorem Rd.ok {P:Program} {w:World} {H:Hp} {h:Heap} {a:Addr} {u:HO} (r:Rd H a u) (x:HOk P w H h):ObjOk P w H h a u:=by
 rcases r with r | ⟨o,r⟩
 ·exact x a u r
 ·obtain ⟨_,q⟩:=x a _ r
  exact q
def Mut:Option HO->Prop
 | some (.lst _)=>True
 | some (.dK _)=>True
 | some (.dT _)=>True
 | some (.set _ _)=>True
 | some (.ins _ _ _)=>True
 | some (.ext _)=>True
 | _=>False
section
variable {P:Program} {w:World} {H:Hp} {h h':Heap} {x e:Addr} {o':HO}
theorem HOk.write (ok:HOk P w H h) (mu:Mut (H x)) (he:e=x\/H e=some (.own x)) (k:∀ b u,b≠e->h.get? b=some u->h'.get? b=some u) (heo:∃ u,h'.get? e=some u)
  (new:ObjOk P w (upd H x o') h' x o'):HOk P w (upd H x o') h':=λb u q=>by
 have nown:∀ c y,H c=some (.own y)->c≠x:=λc y r z=>by subst z;rw [r] at mu;exact mu
 have ntup:∀ c xs,H c=some (.tup xs)->c≠x:=λc xs r z=>by subst z;rw [r] at mu;exact mu
 by_cases hb:b=x
 ·subst hb;rw [Zab] at q;cases q;exact new
 ·rw [Zar hb] at q
  by_cases hbe:b=e
  ·have q':H b=some (.own x):=by
    rcases he with z | z
    ·exact absurd (hbe.trans z) hb
    ·rw [hbe];exact z
   rw [q] at q';cases q'
   obtain ⟨v,hv⟩:=heo
   exact ⟨v,by rw [hbe];exact hv⟩
  ·refine (ok b u q).stay (λc v hc r=>k c v ?_ r) (λc r=>by rw [Zar (nown c b r)];exact r) λc xs r=>by rw [Zar (ntup c xs r)];exact r
   rcases hc with rfl | hc
   ·exact hbe
   ·rintro rfl
    rcases he with z | z
    ·exact nown c b hc z
    ·rw [hc] at z;cases z;exact hb rfl
end
structure Un (fs ex:List Addr) (H H':Hp) (h h':Heap):Prop where
 keep:∀ b o,h.get? b=some o->H b=none->b ∉ fs->b ∉ ex->h'.get? b=some o
 slot:∀ b o,h.get? b=some o->H b=none->b∈fs->b ∉ ex->∃ sl,h'.get? b=some { o with slots:=sl }
 free:∀ b o,h.get? b=some o->H b=none->b ∉ ex->H' b=none
 there:∀ b o,h.get? b=some o->b ∉ ex->∃ o',h'.get? b=some o'
 tups:∀ b xs,H b=some (.tup xs)->H' b=some (.tup xs)
 frzs:∀ b o u,H b=some (.frz o u)->H' b=some (.frz o u)
 tbls:∀ b ps,H b=some (.tbl ps)->∃ more,H' b=some (.tbl (ps++more))
section
variable {fs fs' ex ex':List Addr} {H H1 H2:Hp} {h h1 h2 h':Heap} {a x e:Addr} {o:HO}
theorem Un.any (u:Un fs ex H H1 h h1) {b:Addr} {ob:Obj} (q:h.get? b=some ob) (n:H b=none) (hx:b ∉ ex):∃ sl,h1.get? b=some { ob with slots:=sl }:=by
 by_cases hb:b∈fs
 ·exact u.slot b ob q n hb hx
 ·exact ⟨ob.slots,u.keep b ob q n hb hx⟩
theorem Un.trans (a:Un fs ex H H1 h h1) (b:Un fs ex H1 H2 h1 h2):Un fs ex H H2 h h2 where
 keep:=λc ob q n hc hx=>b.keep c ob (a.keep c ob q n hc hx) (a.free c ob q n hx) hc hx
 slot:=λc ob q n hc hx=>by
  obtain ⟨sl,e1⟩:=a.slot c ob q n hc hx
  obtain ⟨sl',e2⟩:=b.slot c _ e1 (a.free c ob q n hx) hc hx
  exact ⟨sl',e2⟩
 free:=λc ob q n hx=>by
  obtain ⟨o',e1⟩:=a.there c ob q hx
  exact b.free c o' e1 (a.free c ob q n hx) hx
 there:=λc ob q hx=>by
  obtain ⟨o',e1⟩:=a.there c ob q hx
  exact b.there c o' e1 hx
 tups:=λc xs q=>b.tups c xs (a.tups c xs q)
 frzs:=λc ob xs q=>b.frzs c ob xs (a.frzs c ob xs q)
 tbls:=λc ps q=>by
  obtain ⟨m1,e1⟩:=a.tbls c ps q
  obtain ⟨m2,e2⟩:=b.tbls c _ e1
  exact ⟨m1++m2,by rw [e2,Array.append_assoc]⟩
theorem Un.kept (k:∀ b u,h.get? b=some u->h'.get? b=some u):Un fs ex H H h h':=
 ⟨λb ob q _ _ _=>k b ob q,λb ob q _ _ _=>⟨ob.slots,k b ob q⟩,λ_ _ _ n _=>n,λb ob q _=>⟨ob,k b ob q⟩,λ_ _ q=>q,λ_ _ _ q=>q,λ_ ps q=>⟨#[],by rw [q];simp⟩⟩
theorem Un.refl:Un fs ex H H h h:=Un.kept λ_ _ q=>q
theorem Un.laid (k:∀ b u,h.get? b=some u->h'.get? b=some u) (hp:h.objs.size<=a) (hn:H a=none):Un fs ex H (upd H a o) h h' where
 keep:=λb u q _ _ _=>k b u q
 slot:=λb u q _ _ _=>⟨u.slots,k b u q⟩
 free:=λb u q n _=>by rw [Zar (Nat.ne_of_lt (Nat.lt_of_lt_of_le (Heap.lt_size q) hp))];exact n
 there:=λb u q _=>⟨u,k b u q⟩
 tups:=λb xs q=>by rw [Zar (Zah q hn)];exact q
 frzs:=λb u xs q=>by rw [Zar (Zah q hn)];exact q
 tbls:=λb ps q=>⟨#[],by rw [Zar (Zah q hn),q];simp⟩
theorem Un.write (mu:Mut (H x)) (he:e=x\/H e=some (.own x)) (k:∀ b u,b≠e->h.get? b=some u->h'.get? b=some u) (heo:∃ u,h'.get? e=some u):Un fs ex H (upd H x o) h h':=by
 have hx:∀ b,H b=none->b≠x:=λb n z=>by subst z;rw [n] at mu;exact mu
 have hb:∀ b,H b=none->b≠e:=λb n z=>by
  subst z
  rcases he with r | r
  ·exact hx b n r
  ·rw [n] at r;cases r
 have hm:∀ b u,H b=some u->¬ Mut (some u)->b≠x:=λb u q nm z=>by subst z;rw [q] at mu;exact nm mu
 refine ⟨λb u q n _ _=>k b u (hb b n) q,λb u q n _ _=>⟨u.slots,k b u (hb b n) q⟩,λb u q n _=>by rw [Zar (hx b n)];exact n,λb u q _=>?_,
  λb xs q=>by rw [Zar (hm b _ q λz=>z)];exact q,λb u xs q=>by rw [Zar (hm b _ q λz=>z)];exact q,λb ps q=>⟨#[],by rw [Zar (hm b _ q λz=>z),q];simp⟩⟩
 by_cases hbe:b=e
 ·subst hbe;exact heo
 ·exact ⟨u,k b u hbe q⟩
theorem Un.mono (u:Un fs ex H H1 h h1) (hs:∀ b∈fs,b∈fs') (hx:∀ b∈ex,b∈ex'):Un fs' ex' H H1 h h1:=
 ⟨λb ob q n hb he=>u.keep b ob q n (λz=>hb (hs b z)) λz=>he (hx b z),λ_ _ q n _ he=>u.any q n λz=>he (hx _ z),λb ob q n he=>u.free b ob q n λz=>he (hx b z),λb ob q he=>u.there b ob q λz=>he (hx b z),u.tups,u.frzs,u.tbls⟩
end
def trk (h:Heap) (H:Hp):List Addr:=(List.range h.objs.size).filter λa=>(H a).isSome
def Zg8 (h:Heap) (H:Hp):Heap:=PySem.W.hideAll h (trk h H)
theorem ZfQ (h:Heap) (H:Hp):(Zg8 h H).objs.size=h.objs.size:=PySem.W.hideAll_size _ _
theorem Zg9 {h:Heap} {H:Hp} {b:Addr} {o:Obj} (e:h.get? b=some o) (n:H b=none):(Zg8 h H).get? b=some o:=
 PySem.W.hideAll_get _ e λhm=>by
  have q:(H b).isSome=true:=(List.mem_filter.mp hm).2
  rw [n] at q;simp at q
theorem Zix {h:Heap} {H:Hp} {b:Addr} {o:Obj} (e:(Zg8 h H).get? b=some o):h.get? b=some o/\H b=none:=by
 have e':h.get? b=some o:=PySem.W.of_hideAll (trk h H) e
 refine ⟨e',?_⟩
 cases q:H b with
 | none=>rfl
 | some x=>
  have hm:b∈trk h H:=List.mem_filter.mpr ⟨List.mem_range.mpr (Heap.lt_size e'),by simp [q]⟩
  have z:(Zg8 h H).get? b=none:=PySem.W.hideAll_none (trk h H) hm
  rw [z] at e;cases e
def Ziy (g h:Heap) (L:Addr):List (Addr×Obj):=(List.range h.objs.size).filterMap λa=>if a=L\/(g.get? a).isSome=true then none else (h.get? a).map λo=>(a,o)
def rest (g h:Heap) (L d:Addr):List (Addr×Obj):=(Ziy g h L).filter λp=>decide (p.1≠d)
end L2
namespace L2
open PySem PySem.Spec PyProof.Rows
structure Mod (K:PySem.W.Frag) (mg:Str->Option Value) (base:Heap):Prop where
 kin:K.In base
 glob:base.Ns mainGlobals mg
 blt:∃ mb,base.Ns builtinsNs mb/\∀ x:Str,x ≠ "__name__" -> mb x=bootBuiltins x
 nolimit:base.NoLimit
structure Cx where
 prog:Program
 w:World
 K:PySem.W.Frag
 mg:Str->Option Value
 base:Heap
 A:Around
 N:List Str
 s₀:Shared
 H₀:Hp
 env:Env
 outer:List Env
 stack:List Env
 ex:List Addr
 fn:Str->Bool
 calm:Bool
 pn:List (Addr×Obj)
 xe:Value->Shared->Prop
def frs (l:List Env):List Addr:=l.filterMap (·.frame)
abbrev Cx.fs (X:Cx):List Addr:=frs X.outer
def Vis (sc:Scope) (x:Str):Prop:=sc.names.lookup x=some .local\/sc.names.lookup x=some .cell\/sc.names.lookup x=some .free
def Loc (sc:Scope) (x:Str):Prop:=sc.names.lookup x=some .local\/sc.names.lookup x=some .cell
def ZmH (env:Env) (h:Heap) (m:Str->Option Value) (x:Str) (u:Value):Prop:=
 (env.kindOf x=some .local/\m x=some u)\/((env.kindOf x=some .cell\/env.kindOf x=some .free)/\∃ c,env.cells.lookup x=some c/\h.IsCell c (some u))
structure Cx.Ok (X:Cx):Prop where
 mod:Mod X.K X.mg X.base
 kind:X.env.scope.kind=.function
 glob:X.env.globals=mainGlobals
 blt:X.env.builtins=builtinsNs
 above:X.s₀.heap.objs.size<=X.env.locals
 inj:∀ x y c,X.env.cells.lookup x=some c->X.env.cells.lookup y=some c->x=y
 has:∀ x,(X.env.kindOf x=some .cell\/X.env.kindOf x=some .free)->∃ c,X.env.cells.lookup x=some c
 cab:∀ x c,X.fn x=true->X.env.cells.lookup x=some c->X.s₀.heap.objs.size<=c
 hd:X.calm=true->X.A.handled=none
 frames:X.A.frames=some X.stack
 stk:X.stack=X.outer\/(X.stack=X.env::X.outer/\X.env.frame=some X.env.locals)
 exf:∀ b∈X.ex,b≠X.env.locals/\∀ x c,X.env.cells.lookup x=some c->c≠b
 bs:∀ b o,X.base.get? b=some o->X.s₀.heap.get? b=some o/\X.H₀ b=none
 bsz:X.base.objs.size<=X.s₀.heap.objs.size
 noex:∀ b o,X.base.get? b=some o->b ∉ X.ex
 exfs:∀ b∈X.ex,b ∉ X.fs
 funs:X.s₀.heap.FunFrames X.base X.outer
 frf:∀ b∈X.fs,X.H₀ b=none
structure Inv (X:Cx) (pins:List (Addr×Obj)) (σ:List (Option V)) (H:Hp) (s:Shared):Prop where
 ok:X.Ok
 os:s.os=X.s₀.os
 bare:AllBare s.gens
 base:Un X.fs X.ex X.H₀ H X.s₀.heap s.heap
 loc:∃ m,s.heap.Ns X.env.locals m/\∀ (i:Nat) (x:Str) (v:V),X.N[i]?=some x->σ[i]?=some (some v)->Vis X.env.scope x->∃ u,RelV v u/\ZmH X.env s.heap m x u
 cell:∀ x c,X.env.cells.lookup x=some c->∃ v,s.heap.IsCell c v
 free:H X.env.locals=none
 freeC:∀ x c,X.env.cells.lookup x=some c->H c=none
 pin:∀ p∈X.pn++pins,s.heap.get? p.1=some p.2/\H p.1=none/\p.1≠X.env.locals/\p.1 ∉ X.fs/\∀ v,p.2.data≠.cell v
 hok:HOk X.prog X.w H s.heap
 len:σ.length=X.N.length
section
variable {X:Cx} {pins:List (Addr×Obj)} {σ:List (Option V)} {H H':Hp} {s:Shared} {h':Heap}
theorem Cx.Ok.nofr (ok:X.Ok) {b:Addr} {o:Obj} (e:X.base.get? b=some o):b ∉ X.fs:=λhb=>by
 have:=(ok.funs.mem hb).1
 rw [e] at this;cases this
theorem Inv.bs (I:Inv X pins σ H s):∀ b o,X.base.get? b=some o->s.heap.get? b=some o/\H b=none:=λb o e=>
 ⟨I.base.keep b o (I.ok.bs b o e).1 (I.ok.bs b o e).2 (I.ok.nofr e) (I.ok.noex b o e),I.base.free b o (I.ok.bs b o e).1 (I.ok.bs b o e).2 (I.ok.noex b o e)⟩
theorem Inv.bk (I:Inv X pins σ H s):∀ b o,X.base.get? b=some o->s.heap.get? b=some o:=λb o e=>(I.bs b o e).1
theorem Inv.mod (I:Inv X pins σ H s):Mod X.K X.mg X.base:=I.ok.mod
theorem Inv.kIn (I:Inv X pins σ H s):X.K.In s.heap:=I.ok.mod.kin.keeps I.bk
theorem Inv.lt (I:Inv X pins σ H s):X.env.locals<s.heap.objs.size:=let ⟨_,hn,_⟩:=I.loc;hn.lt
theorem Inv.sz (I:Inv X pins σ H s):X.s₀.heap.objs.size<=s.heap.objs.size:=Nat.le_trans I.ok.above (Nat.le_of_lt I.lt)
theorem Inv.nofs (I:Inv X pins σ H s) {a:Addr} (h:s.heap.objs.size<=a):a ∉ X.fs:=λhb=>by
 obtain ⟨_,o,ho,_⟩:=I.ok.funs.mem hb
 exact absurd (Nat.lt_of_lt_of_le (Heap.lt_size ho) (Nat.le_trans I.sz h)) (Nat.lt_irrefl _)
theorem Inv.cne (I:Inv X pins σ H s):∀ x c,X.env.cells.lookup x=some c->c≠X.env.locals:=λx c e z=>by
 obtain ⟨v,o,ho,hd⟩:=I.cell x c e
 obtain ⟨m,⟨o',es,ep,ho',hd',_⟩,_⟩:=I.loc
 rw [z,ho'] at ho;cases ho;rw [hd'] at hd;cases hd
theorem Inv.funs (I:Inv X pins σ H s):s.heap.FunFrames X.base X.outer:=by
 have all:∀ (l:List Env),(∀ b∈frs l,b∈X.fs)->X.s₀.heap.FunFrames X.base l->s.heap.FunFrames X.base l:=by
  intro l
  induction l with
  | nil=>intro _ _;trivial
  | cons env r ih=>
   intro hs hl
   obtain ⟨hk,⟨L,o,hf,hn,ho,hd⟩,hr⟩:=hl
   have hL:L∈X.fs:=hs L (by unfold frs;rw [List.filterMap_cons,hf];exact List.mem_cons_self)
   obtain ⟨sl,e⟩:=I.base.slot L o ho (I.ok.frf L hL) hL λz=>I.ok.exfs L z hL
   exact ⟨hk,⟨L,_,hf,hn,e,hd⟩,ih (λb hb=>hs b (by unfold frs;rw [List.filterMap_cons,hf];exact List.mem_cons_of_mem _ hb)) hr⟩
 exact all X.outer (λ_ hb=>hb) I.ok.funs
theorem Inv.stack (I:Inv X pins σ H s):s.heap.FunFrames X.base X.stack:=by
 rcases I.ok.stk with e | ⟨e,hf⟩
 ·rw [e];exact I.funs
 ·rw [e]
  obtain ⟨m,hn,_⟩:=I.loc
  refine .cons (by rw [I.ok.kind];decide) hf hn ?_ I.funs
  exact Heap.get?_none_of_le (Nat.le_trans I.ok.bsz I.ok.above)
theorem Inv.stkSub (I:Inv X pins σ H s):∀ b∈frs X.stack,b∈X.env.locals::X.fs:=λb hb=>by
 rcases I.ok.stk with e | ⟨e,hf⟩
 ·rw [e] at hb;exact List.mem_cons_of_mem _ hb
 ·rw [e] at hb
  unfold frs at hb
  rw [List.filterMap_cons,hf] at hb
  exact hb
theorem Inv.stkFree (I:Inv X pins σ H s):∀ b∈frs X.stack,H b=none:=λb hb=>by
 rcases List.mem_cons.mp (I.stkSub b hb) with e | hb
 ·rw [e];exact I.free
 ·obtain ⟨_,o,ho,_⟩:=I.ok.funs.mem hb
  exact I.base.free b o ho (I.ok.frf b hb) λz=>I.ok.exfs b z hb
theorem Inv.step {g':Array GenState} {t':Nat} {d':Drawn} {ch:List Addr} (I:Inv X pins σ H s)
  (hch:∀ b∈ch,(b∈X.ex\/X.s₀.heap.objs.size<=b)/\b≠X.env.locals/\(∀ x c,X.env.cells.lookup x=some c->c≠b)/\∀ p∈X.pn++pins,p.1≠b)
  (keep:∀ b o,b≠X.env.locals->b ∉ X.fs->b ∉ ch->s.heap.get? b=some o->H b=none->h'.get? b=some o)
  (slot:∀ b o,b≠X.env.locals->b∈X.fs->b ∉ ch->s.heap.get? b=some o->H b=none->∃ sl,h'.get? b=some { o with slots:=sl }) (free:∀ b o,b ∉ ch->s.heap.get? b=some o->H b=none->H' b=none)
  (there:∀ b o,b ∉ ch->s.heap.get? b=some o->∃ o',h'.get? b=some o')
  (tups:∀ b xs,H b=some (.tup xs)->H' b=some (.tup xs)) (frzs:∀ b o u,H b=some (.frz o u)->H' b=some (.frz o u)) (tbls:∀ b ps,H b=some (.tbl ps)->∃ more,H' b=some (.tbl (ps++more)))
  (ns:∀ m,s.heap.Ns X.env.locals m->h'.Ns X.env.locals m) (hok:HOk X.prog X.w H' h') (hg:AllBare g') :
  Inv X pins σ H' { s with heap:=h',gens:=g',drawn:=d',toks:=t' }:=by
 have neL:∀ b o,X.s₀.heap.get? b=some o->b≠X.env.locals:=λb o e=>Nat.ne_of_lt (Nat.lt_of_lt_of_le (Heap.lt_size e) I.ok.above)
 have neC:∀ b o,X.s₀.heap.get? b=some o->b ∉ X.ex->b ∉ ch:=λb o e hx hb=>by
  rcases (hch b hb).1 with z | z
  ·exact hx z
  ·exact absurd (Nat.lt_of_lt_of_le (Heap.lt_size e) z) (Nat.lt_irrefl _)
 have cellK:∀ x c,X.env.cells.lookup x=some c->∀ v,s.heap.IsCell c v->h'.IsCell c v:=λx c e v ⟨o,ho,hd⟩=>by
  have nch:c ∉ ch:=λz=>(hch c z).2.2.1 x c e rfl
  by_cases hc:c∈X.fs
  ·obtain ⟨sl,q⟩:=slot c o (I.cne x c e) hc nch ho (I.freeC x c e)
   exact ⟨_,q,hd⟩
  ·exact ⟨o,keep c o (I.cne x c e) hc nch ho (I.freeC x c e),hd⟩
 refine ⟨I.ok,I.os,hg,⟨λb o e n hb hx=>?_,λb o e n hb hx=>?_,λb o e n hx=>?_,λb o e hx=>?_,λb xs e=>tups b xs (I.base.tups b xs e),λb o xs e=>frzs b o xs (I.base.frzs b o xs e),λb ps e=>?_⟩,?_,λx c e=>?_,?_,λx c e=>?_,λp hp=>?_,hok,I.len⟩
 ·exact keep b o (neL b o e) hb (neC b o e hx) (I.base.keep b o e n hb hx) (I.base.free b o e n hx)
 ·obtain ⟨sl,e1⟩:=I.base.slot b o e n hb hx
  obtain ⟨sl',e2⟩:=slot b _ (neL b o e) hb (neC b o e hx) e1 (I.base.free b o e n hx)
  exact ⟨sl',e2⟩
 ·obtain ⟨o',e1⟩:=I.base.there b o e hx
  exact free b o' (neC b o e hx) e1 (I.base.free b o e n hx)
 ·obtain ⟨o',e1⟩:=I.base.there b o e hx
  exact there b o' (neC b o e hx) e1
 ·obtain ⟨m1,e1⟩:=I.base.tbls b ps e
  obtain ⟨m2,e2⟩:=tbls b _ e1
  exact ⟨m1++m2,by rw [e2,Array.append_assoc]⟩
 ·obtain ⟨m,hn,hl⟩:=I.loc
  refine ⟨m,ns m hn,λi x v e1 e2 e3=>?_⟩
  obtain ⟨u,r,l⟩:=hl i x v e1 e2 e3
  refine ⟨u,r,?_⟩
  rcases l with l | ⟨k,c,e,z⟩
  ·exact .inl l
  ·exact .inr ⟨k,c,e,cellK x c e _ z⟩
 ·obtain ⟨v,z⟩:=I.cell x c e
  exact ⟨v,cellK x c e v z⟩
 ·obtain ⟨m,⟨o,_,_,ho,_⟩,_⟩:=I.loc
  exact free _ o (λz=>(hch _ z).2.1 rfl) ho I.free
 ·obtain ⟨v,o,ho,hd⟩:=I.cell x c e
  exact free c o (λz=>(hch c z).2.2.1 x c e rfl) ho (I.freeC x c e)
 ·obtain ⟨e,n,ne,nf,d⟩:=I.pin p hp
  have nch:p.1 ∉ ch:=λz=>(hch p.1 z).2.2.2 p hp rfl
  exact ⟨keep p.1 p.2 ne nf nch e n,free p.1 p.2 nch e n,ne,nf,d⟩
theorem Inv.un {t':Nat} (I:Inv X pins σ H s) (u:Un X.fs [] H H' s.heap h') (hok:HOk X.prog X.w H' h'):Inv X pins σ H' { s with heap:=h',toks:=t' }:=by
 obtain ⟨m,⟨o,es,ep,ho,r⟩,_⟩:=id I.loc
 obtain ⟨sl,hL⟩:=u.any ho I.free (by simp)
 exact I.step (g':=s.gens) (d':=s.drawn) (ch:=[]) (λ_ z=>nomatch z) (λb o _ hb _ e n=>u.keep b o e n hb (by simp)) (λb o _ hb _ e n=>u.slot b o e n hb (by simp)) (λb o _ e n=>u.free b o e n (by simp)) (λb o _ e=>u.there b o e (by simp)) u.tups u.frzs u.tbls (λm' hm=>by
  obtain ⟨o',es',ep',ho',r'⟩:=hm
  rw [ho] at ho';cases ho'
  exact ⟨_,es',ep',hL,r'⟩) hok I.bare
theorem Inv.call {g':Array GenState} {t':Nat} {d':Drawn} {ch:List Addr} (I:Inv X pins σ H s) (u:Un (frs X.stack) ch H H' s.heap h') (hok:HOk X.prog X.w H' h') (hg:AllBare g')
  (hch:∀ b∈ch,(b∈X.ex\/X.s₀.heap.objs.size<=b)/\b≠X.env.locals/\(∀ x c,X.env.cells.lookup x=some c->c≠b)/\∀ p∈X.pn++pins,p.1≠b) :
  Inv X pins σ H' { s with heap:=h',gens:=g',drawn:=d',toks:=t' }:=by
 obtain ⟨m,⟨o,es,ep,ho,r⟩,_⟩:=id I.loc
 obtain ⟨sl,hL⟩:=u.any ho I.free λz=>(hch _ z).2.1 rfl
 exact I.step (ch:=ch) hch (λb o hL hb hc e n=>u.keep b o e n (λz=>(List.mem_cons.mp (I.stkSub b z)).elim hL hb) hc) (λb o _ _ hc e n=>u.any e n hc) (λb o hc e n=>u.free b o e n hc) (λb o hc e=>u.there b o e hc) u.tups u.frzs u.tbls (λm' hm=>by
  obtain ⟨o',es',ep',ho',r'⟩:=hm
  rw [ho] at ho';cases ho'
  exact ⟨_,es',ep',hL,r'⟩) hok hg
theorem Inv.turned {t':Nat} {it:Addr} (I:Inv X pins σ H s) (k:∀ b o,b≠it->s.heap.get? b=some o->h'.get? b=some o) (hn:H it=none) (hL:it≠X.env.locals)
  (h1:it∈X.ex\/X.s₀.heap.objs.size<=it) (h2:∀ x c,X.env.cells.lookup x=some c->c≠it) (h3:∀ p∈X.pn++pins,p.1≠it):Inv X pins σ H { s with heap:=h',toks:=t' }:=by
 have nit:∀ b u,H b=some u->b≠it:=λb u e z=>by rw [z,hn] at e;cases e
 refine I.step (g':=s.gens) (d':=s.drawn) (ch:=[it]) (λb hb=>?_) (λb o _ _ hc e _=>k b o (λz=>hc (by simp [z])) e) (λb o _ _ hc e _=>⟨o.slots,k b o (λz=>hc (by simp [z])) e⟩) (λ_ _ _ _ n=>n)
  (λb o hc e=>⟨o,k b o (λz=>hc (by simp [z])) e⟩) (λ_ _ e=>e) (λ_ _ _ e=>e) (λb ps e=>⟨#[],by rw [e];simp⟩) (λm hm=>?_) (λb u e=>?_) I.bare
 ·have e:b=it:=by simpa using hb
  subst e
  exact ⟨h1,hL,h2,h3⟩
 ·obtain ⟨o,es,ep,ho,r⟩:=hm
  exact ⟨o,es,ep,k _ o (Ne.symm hL) ho,r⟩
 ·refine (I.hok b u e).stay (λc v hc q=>k c v ?_ q) (λ_ q=>q) λ_ _ q=>q
  rcases hc with z | z
  ·rw [z];exact nit b u e
  ·exact nit c _ z
theorem Inv.tok (I:Inv X pins σ H s) (t:Nat):Inv X pins σ H { s with toks:=t }:=I.un (h':=s.heap) (t':=t) Un.refl I.hok
theorem Inv.kept {t':Nat} (I:Inv X pins σ H s) (k:∀ b u,s.heap.get? b=some u->h'.get? b=some u):Inv X pins σ H { s with heap:=h',toks:=t' }:=I.un (Un.kept k) (I.hok.kept k)
theorem Inv.laid {a:Addr} {o:HO} {t':Nat} (I:Inv X pins σ H s) (k:∀ b u,s.heap.get? b=some u->h'.get? b=some u) (hp:s.heap.objs.size<=a) (new:ObjOk X.prog X.w (upd H a o) h' a o) :
  Inv X pins σ (upd H a o) { s with heap:=h',toks:=t' }:=I.un (Un.laid k hp (I.hok.fresh hp)) (I.hok.laid k hp new)
theorem Inv.write {x e:Addr} {o:HO} {t':Nat} (I:Inv X pins σ H s) (mu:Mut (H x)) (he:e=x\/H e=some (.own x)) (k:∀ b u,b≠e->s.heap.get? b=some u->h'.get? b=some u) (heo:∃ u,h'.get? e=some u)
  (new:ObjOk X.prog X.w (upd H x o) h' x o):Inv X pins σ (upd H x o) { s with heap:=h',toks:=t' }:=I.un (Un.write mu he k heo) (I.hok.write mu he k heo new)
theorem Inv.weak {σ':List (Option V)} (I:Inv X pins σ H s) (hl:σ'.length=σ.length) (w:∀ (i:Nat) v,σ'[i]?=some (some v)->σ[i]?=some (some v)):Inv X pins σ' H s:=
 ⟨I.ok,I.os,I.bare,I.base,let ⟨m,hn,hl'⟩:=I.loc;⟨m,hn,λi x v e1 e2 e3=>hl' i x v e1 (w i v e2) e3⟩,I.cell,I.free,I.freeC,I.pin,I.hok,hl.trans I.len⟩
theorem Inv.pins_of {pins':List (Addr×Obj)} (I:Inv X pins σ H s) (h:∀ p∈pins',s.heap.get? p.1=some p.2/\H p.1=none/\p.1≠X.env.locals/\p.1 ∉ X.fs/\∀ v,p.2.data≠.cell v):Inv X pins' σ H s:=
 ⟨I.ok,I.os,I.bare,I.base,I.loc,I.cell,I.free,I.freeC,λp hp=>(List.mem_append.mp hp).elim (λz=>I.pin p (List.mem_append_left _ z)) (h p),I.hok,I.len⟩
theorem Zdt {N:List Str} (hN:N.Nodup) {i j:Nat} {x:Str} (a:N[i]?=some x) (b:N[j]?=some x):i=j:=by
 obtain ⟨h1,e1⟩:=List.getElem?_eq_some_iff.mp a
 obtain ⟨h2,e2⟩:=List.getElem?_eq_some_iff.mp b
 exact (List.getElem_inj hN).mp (e1.trans e2.symm)
theorem ZdP {M:Model} {A:Around} {E:Value->Shared->Prop} {i:Nat} {x:Str} {v:V} {u:Value} {Q:Unit->Shared->Prop} (I:Inv X pins σ H s) (hN:X.N.Nodup) (hi:X.N[i]?=some x) (hx:Loc X.env.scope x) (r:RelV v u)
  (h:∀ s',Inv X pins (σ.set i (some v)) H s'->(∃ a,Heap.SameBut a s.heap s'.heap/\(a=X.env.locals\/X.env.cells.lookup x=some a))->Q () s') (hf:X.fn x=true\/X.env.scope.names.lookup x=some .local:=by first | exact .inl rfl | exact .inr rfl | assumption):wpAny M A (storeName X.env x u) Q E s:=by
 obtain ⟨m,hn,hl⟩:=id I.loc
 have hcls:(X.env.scope.kind == .class || (X.env.scope.kind == .module && X.env.locals != X.env.globals))=false:=by rw [I.ok.kind];rfl
 have hiσ:i<σ.length:=by rw [I.len];exact (List.getElem?_eq_some_iff.mp hi).1
 have cne:=I.cne
 have tracked:∀ {a:Addr} {h':Heap},(∃ o,s.heap.get? a=some o/\H a=none)->Heap.SameBut a s.heap h'->HOk X.prog X.w H h':=λ{a h'} ha hs b ob e=>by
  obtain ⟨_,_,hfree⟩:=ha
  refine (I.hok b ob e).stay (λc w' hc q=>(hs.2 c ?_).trans q) (λ_ q=>q) λ_ _ q=>q
  rintro rfl
  rcases hc with rfl | hc
  ·rw [hfree] at e;cases e
  ·rw [hfree] at hc;cases hc
 rcases hx with hk | hk
 ·refine wpAny_storeName_local hk hn (λh' hn' hs=>?_) hcls
  obtain ⟨oL,_,_,hoL,_⟩:=id hn
  refine h _ ⟨I.ok,I.os,I.bare,⟨λb o e n hb hx=>?_,λb o e n hb hx=>?_,I.base.free,λb o e hx=>?_,I.base.tups,I.base.frzs,I.base.tbls⟩,⟨_,hn',λj y v' e1 e2 e3=>?_⟩,λy c e=>?_,I.free,I.freeC,λp hp=>?_,tracked ⟨oL,hoL,I.free⟩ hs,by simpa using I.len⟩ ⟨_,hs,.inl rfl⟩
  ·exact (hs.2 b (Nat.ne_of_lt (Nat.lt_of_lt_of_le (Heap.lt_size e) I.ok.above))).trans (I.base.keep b o e n hb hx)
  ·obtain ⟨sl,e1⟩:=I.base.slot b o e n hb hx
   exact ⟨sl,(hs.2 b (Nat.ne_of_lt (Nat.lt_of_lt_of_le (Heap.lt_size e) I.ok.above))).trans e1⟩
  ·obtain ⟨o',e1⟩:=I.base.there b o e hx
   exact ⟨o',(hs.2 b (Nat.ne_of_lt (Nat.lt_of_lt_of_le (Heap.lt_size e) I.ok.above))).trans e1⟩
  ·by_cases hj:j=i
   ·subst hj
    rw [hi] at e1;cases e1
    rw [List.getElem?_set_self hiσ] at e2
    cases e2
    exact ⟨u,r,.inl ⟨hk,by simp⟩⟩
   ·rw [List.getElem?_set_ne (Ne.symm hj)] at e2
    obtain ⟨u',r',q⟩:=hl j y v' e1 e2 e3
    refine ⟨u',r',?_⟩
    rcases q with ⟨k,e⟩ | ⟨k,c,e,z⟩
    ·refine .inl ⟨k,?_⟩
     have:y≠x:=λe=>hj (Zdt hN e1 (e▸hi))
     simp [this,e]
    ·exact .inr ⟨k,c,e,z.sameBut hs (cne y c e)⟩
  ·obtain ⟨w',z⟩:=I.cell y c e
   exact ⟨w',z.sameBut hs (cne y c e)⟩
  ·obtain ⟨e,n,ne,nf,d⟩:=I.pin p hp
   exact ⟨(hs.2 p.1 ne).trans e,n,ne,nf,d⟩
 ·have hfn:X.fn x=true:=by
   rcases hf with z | z
   ·exact z
   ·rw [z] at hk;cases hk
  obtain ⟨c,hc⟩:=I.ok.has x (.inl hk)
  obtain ⟨w',z⟩:=I.cell x c hc
  refine wpAny_storeName_cell I.ok.kind hk hc z (λh' hc' hs=>?_)
  obtain ⟨oc,hoc,hocd⟩:=id z
  refine h { s with heap:=h' } ⟨I.ok,I.os,I.bare,⟨λb o e n hb hx=>?_,λb o e n hb hx=>?_,I.base.free,λb o e hx=>?_,I.base.tups,I.base.frzs,I.base.tbls⟩,⟨m,hn.sameBut hs (Ne.symm (cne x c hc)),λj y v' e1 e2 e3=>?_⟩,λy c' e=>?_,I.free,I.freeC,λp hp=>?_,tracked ⟨oc,hoc,I.freeC x c hc⟩ hs,by simpa using I.len⟩ ⟨c,hs,.inr hc⟩
  ·exact (hs.2 b (Nat.ne_of_lt (Nat.lt_of_lt_of_le (Heap.lt_size e) (I.ok.cab x c hfn hc)))).trans (I.base.keep b o e n hb hx)
  ·obtain ⟨sl,e1⟩:=I.base.slot b o e n hb hx
   exact ⟨sl,(hs.2 b (Nat.ne_of_lt (Nat.lt_of_lt_of_le (Heap.lt_size e) (I.ok.cab x c hfn hc)))).trans e1⟩
  ·obtain ⟨o',e1⟩:=I.base.there b o e hx
   exact ⟨o',(hs.2 b (Nat.ne_of_lt (Nat.lt_of_lt_of_le (Heap.lt_size e) (I.ok.cab x c hfn hc)))).trans e1⟩
  ·by_cases hj:j=i
   ·subst hj
    rw [hi] at e1;cases e1
    rw [List.getElem?_set_self hiσ] at e2
    cases e2
    exact ⟨u,r,.inr ⟨.inl hk,c,hc,hc'⟩⟩
   ·rw [List.getElem?_set_ne (Ne.symm hj)] at e2
    obtain ⟨u',r',q⟩:=hl j y v' e1 e2 e3
    refine ⟨u',r',?_⟩
    rcases q with q | ⟨k,c',e,z'⟩
    ·exact .inl q
    ·refine .inr ⟨k,c',e,z'.sameBut hs ?_⟩
     rintro rfl
     exact hj (Zdt hN e1 (I.ok.inj _ _ _ e hc▸hi))
  ·by_cases hcc:c'=c
   ·subst hcc;exact ⟨_,hc'⟩
   ·obtain ⟨w2,z2⟩:=I.cell y c' e
    exact ⟨w2,z2.sameBut hs hcc⟩
  ·obtain ⟨e,n,ne,nf,d⟩:=I.pin p hp
   refine ⟨(hs.2 p.1 ?_).trans e,n,ne,nf,d⟩
   intro q
   rw [q,hoc] at e
   have q':oc=p.2:=Option.some.inj e
   exact d w' (by rw [<-q'];exact hocd)
theorem ZcG {M:Model} {A:Around} {E:Value->Shared->Prop} {i:Nat} {x:Str} {v:V} {u:Value} {Q:Unit->Shared->Prop} (I:Inv X pins σ H s) (hN:X.N.Nodup) (hi:X.N[i]?=some x) (hx:Loc X.env.scope x) (r:RelV v u)
  (h:∀ s',Inv X pins (σ.set i (some v)) H s'->Q () s') (hf:X.fn x=true\/X.env.scope.names.lookup x=some .local:=by first | exact .inl rfl | exact .inr rfl | assumption):wpAny M A (storeName X.env x u) Q E s:=
 ZdP I hN hi hx r (λs' I' _=>h s' I') hf
theorem Inv.call' {s':Shared} {ch:List Addr} (I:Inv X pins σ H s) (ho:s'.os=s.os) (u:Un (frs X.stack) ch H H' s.heap s'.heap) (hok:HOk X.prog X.w H' s'.heap) (hg:AllBare s'.gens)
  (hch:∀ b∈ch,(b∈X.ex\/X.s₀.heap.objs.size<=b)/\b≠X.env.locals/\(∀ x c,X.env.cells.lookup x=some c->c≠b)/\∀ p∈X.pn++pins,p.1≠b):Inv X pins σ H' s':=by
 obtain ⟨h',g',d',t',o'⟩:=s'
 have e:o'=s.os:=ho
 subst e
 exact I.call (g':=g') (t':=t') (d':=d') u hok hg hch
end
abbrev XK:=Value->Option Addr->Hp->Prop
abbrev St:=List (Option V)
abbrev VK:=V->Hp->Prop
abbrev TE:=St->Hp->VK->Prop
abbrev TT:=St->Hp->(Bool->Hp->Prop)->Prop
abbrev TA:=St->Hp->(List V->Hp->Prop)->Prop
structure Ends where
 nx:St->Hp->Prop
 rt:VK
 bk:St->Hp->Prop:=λ_ _=>False
 ct:St->Hp->Prop:=λ_ _=>False
abbrev TS:=Ends->St->Hp->Prop
def EP (X:Cx) (pins:List (Addr×Obj)) (σ:St) (Q:VK) (u:Value) (s':Shared):Prop:=∃ v H',Inv X pins σ H' s'/\RelV v u/\Q v H'
def TP (X:Cx) (pins:List (Addr×Obj)) (σ:St) (Q:Bool->Hp->Prop) (b:Bool) (s':Shared):Prop:=∃ H',Inv X pins σ H' s'/\Q b H'
def AP (X:Cx) (pins:List (Addr×Obj)) (σ:St) (Q:List V->Hp->Prop) (us:List Value) (s':Shared):Prop:=∃ vs H',Inv X pins σ H' s'/\Vals vs us/\Q vs H'
def SP (X:Cx) (pins:List (Addr×Obj)) (D:Ends) (f:Flow) (s':Shared):Prop:=
 match f with
 | .next=>∃ σ' H',Inv X pins σ' H' s'/\D.nx σ' H'
 | .brk=>∃ σ' H',Inv X pins σ' H' s'/\D.bk σ' H'
 | .cont=>∃ σ' H',Inv X pins σ' H' s'/\D.ct σ' H'
 | .ret u=>∃ v σ' H',Inv X pins σ' H' s'/\RelV v u/\D.rt v H'
def PE (X:Cx) (e:Expr) (t:TE):Prop:=
 ∀ (pins:List (Addr×Obj)) (s:Shared) (σ:St) (H:Hp) (Q:VK),Inv X pins σ H s->t σ H Q->wpAny (model X.prog X.w) X.A (eval e X.env) (EP X pins σ Q) X.xe s
def PT (X:Cx) (e:Expr) (t:TT):Prop:=
 ∀ (pins:List (Addr×Obj)) (s:Shared) (σ:St) (H:Hp) (Q:Bool->Hp->Prop),Inv X pins σ H s->t σ H Q->wpAny (model X.prog X.w) X.A (isTrue e X.env (eval e X.env)) (TP X pins σ Q) X.xe s
def PW (X:Cx) (e:Expr) (t:TT):Prop:=
 ∀ (whole:Sem Value) (pins:List (Addr×Obj)) (s:Shared) (σ:St) (H:Hp) (Q:Bool->Hp->Prop),Inv X pins σ H s->t σ H Q->wpAny (model X.prog X.w) X.A (isTrue e X.env whole) (TP X pins σ Q) X.xe s
theorem PW.pt {X:Cx} {e:Expr} {t:TT} (h:PW X e t):PT X e t:=h _
def PA (X:Cx) (es:List Expr) (t:TA):Prop:=
 ∀ (pos:Pos) (pins:List (Addr×Obj)) (s:Shared) (σ:St) (H:Hp) (Q:List V->Hp->Prop),Inv X pins σ H s->t σ H Q->wpAny (model X.prog X.w) X.A (spliced (backTo pos (starEach es X.env))) (AP X pins σ Q) X.xe s
def PS (X:Cx) (st:Stmt) (t:TS):Prop:=
 ∀ (pins:List (Addr×Obj)) (s:Shared) (σ:St) (H:Hp) (D:Ends),Inv X pins σ H s->t D σ H->wpAny (model X.prog X.w) X.A (exec st X.env) (SP X pins D) X.xe s
def PSs (X:Cx) (st:List Stmt) (t:TS):Prop:=
 ∀ (pins:List (Addr×Obj)) (s:Shared) (σ:St) (H:Hp) (D:Ends),Inv X pins σ H s->t D σ H->wpAny (model X.prog X.w) X.A (execs st X.env) (SP X pins D) X.xe s
theorem thn {α:Type} {t:Sem α} {Q Q':α->Shared->Prop} {M:Model} {A:Around} {E:Value->Shared->Prop} {s:Shared} (h:wpAny M A t Q E s) (hQ:∀ a s,Q a s->Q' a s):wpAny M A t Q' E s:=wpAny_mono h hQ λ_ _ x=>x
end L2
namespace L2
open PySem PySem.Spec PyProof.Rows
section
variable {X:Cx}
def Zg4 (i:Nat):TE:=λσ H Q=>∃ v,σ[i]?=some (some v)/\Q v H
def tC (v:V):TE:=λ_ H Q=>Q v H
theorem ZjP {i:Nat} {x:Str} {pos:Pos} (hN:X.N[i]?=some x) (hv:Vis X.env.scope x) (hd:(x == ("__debug__" : Str))=false:=by decide) (hcd:(x == ("__classdict__" : Str))=false:=by decide):PE X (.Name x pos) (Zg4 i):=by
 intro pins s σ H Q I h
 obtain ⟨v,e,h⟩:=h
 obtain ⟨m,hn,hl⟩:=I.loc
 obtain ⟨u,r,l⟩:=hl i x v hN e hv
 have fin:EP X pins σ Q u s:=⟨v,H,I,r,h⟩
 rcases l with ⟨hk,hm⟩ | ⟨hk,c,hc,hcell⟩
 ·exact wpAny_Name (wpAny_loadName_local I.ok.kind hk hn hm fin) hd
 ·rcases hk with hk | hk
  ·exact wpAny_Name (wpAny_loadName_cell I.ok.kind hk hc hcell fin) hd
  ·exact wpAny_Name (wpAny_loadName_free I.ok.kind hk hc hcell fin hcd) hd
theorem Zaf {i j pos}:PE X (.Constant (.int i) j pos) (tC (.int i)):=λ_ _ _ H _ I h=>wpAny_Constant_int ⟨.int i,H,I.tok _,⟨_,rfl⟩,h⟩
theorem Zb1 {b j pos}:PE X (.Constant (.bool b) j pos) (tC (.bl b)):=λ_ _ _ H _ I h=>Constant_bool ⟨.bl b,H,I,rfl,h⟩
theorem Zbs {j pos}:PE X (.Constant .none j pos) (tC .non):=λ_ _ _ H _ I h=>Constant_none ⟨.non,H,I,rfl,h⟩
theorem Zbt {x j pos}:PE X (.Constant (.str x) j pos) (tC (.str x)):=λ_ _ _ H _ I h=>Calls.Constant_str ⟨.str x,H,I.tok _,⟨_,rfl⟩,h⟩
def Gl (X:Cx) (x:Str):Prop:=X.env.kindOf x=some .globalImplicit
theorem ZcP {E:Value->Shared->Prop} {pins:List (Addr×Obj)} {s:Shared} {σ:St} {H:Hp} {x:Str} {u:Value} {pos:Pos} {Q:Value->Shared->Prop} (I:Inv X pins σ H s) (hg:Gl X x) (hm:X.mg x=some u) (h:Q u s)
  (hd:(x == ("__debug__" : Str))=false:=by decide):wpAny (model X.prog X.w) X.A (eval (.Name x pos) X.env) Q E s:=
 Calls.Name_function_global I.ok.kind hg (Calls.loadGlobal_global (by rw [I.ok.glob];exact I.mod.glob.keeps I.bk) hm h) hd
theorem ZcA {E:Value->Shared->Prop} {pins:List (Addr×Obj)} {s:Shared} {σ:St} {H:Hp} {x:Str} {u:Value} {pos:Pos} {Q:Value->Shared->Prop} (I:Inv X pins σ H s) (hg:Gl X x) (hm:X.mg x=none) (hv:bootBuiltins x=some u) (h:Q u s)
  (hn:x ≠ "__name__" := by decide) (hd:(x == ("__debug__" : Str))=false:=by decide):wpAny (model X.prog X.w) X.A (eval (.Name x pos) X.env) Q E s:=by
 obtain ⟨mb,h1,h2⟩:=I.mod.blt
 exact Calls.Name_function_global I.ok.kind hg (Calls.loadGlobal_builtin (by rw [I.ok.glob];exact I.mod.glob.keeps I.bk) hm (by rw [I.ok.blt];exact h1.keeps I.bk) ((h2 x hn).trans hv) h) hd
theorem Ziz {x:Str} {v:V} {u:Value} {pos:Pos} (hg:Gl X x) (hm:X.mg x=some u) (r:RelV v u) (hd:(x == ("__debug__" : Str))=false:=by decide):PE X (.Name x pos) (tC v):=
 λ_ _ _ H _ I h=>ZcP I hg hm ⟨v,H,I,r,h⟩ hd
theorem ZiA {x:Str} {v:V} {u:Value} {pos:Pos} (hg:Gl X x) (hm:X.mg x=none) (hv:bootBuiltins x=some u) (r:RelV v u) (hn:x ≠ "__name__" := by decide) (hd:(x == ("__debug__" : Str))=false:=by decide):PE X (.Name x pos) (tC v):=
 λ_ _ _ H _ I h=>ZcA I hg hm hv ⟨v,H,I,r,h⟩ hn hd
def t2I (ta tb:TE) (k:Int->Int->Hp->Prop):St->Hp->Prop:=λσ H=>ta σ H λx H1=>tb σ H1 λy H2=>∃ i j,x=.int i/\y=.int j/\k i j H2
def ZnA (ta tb:TE):TE:=λσ H Q=>t2I ta tb (λi j H2=>Q (.int (i+j)) H2) σ H
def ZnB (ta tb:TE):TE:=λσ H Q=>t2I ta tb (λi j H2=>Q (.int (i-j)) H2) σ H
def ZnC (ta tb:TE):TE:=λσ H Q=>t2I ta tb (λi j H2=>(-(2 ^ 64)<i/\i<2 ^ 64)/\Q (.int (i * j)) H2) σ H
variable {a b:Expr} {ta tb:TE} {pos:Pos}
def PC (X:Cx) (op:CmpOp) (a b:Expr) (t:TE):Prop:=
 ∀ (pins:List (Addr×Obj)) (s:Shared) (σ:St) (H:Hp) (Q:VK),Inv X pins σ H s->t σ H Q ->
  wpAny (model X.prog X.w) X.A (eval a X.env) (λv s₁=>wpAny (model X.prog X.w) X.A (eval b X.env) (λu s₂=>wpAny (model X.prog X.w) X.A (compareOp op v u) (EP X pins σ Q) X.xe s₂) X.xe s₁) X.xe s
def ZjJ (p:Int->Int->Bool) (ta tb:TE):TE:=λσ H Q=>t2I ta tb (λi j H2=>Q (.bl (p i j)) H2) σ H
abbrev tLt:TE->TE->TE:=ZjJ λi j=>decide (i<j)
abbrev tLe:TE->TE->TE:=ZjJ λi j=>decide (i<=j)
abbrev tGt:TE->TE->TE:=ZjJ λi j=>decide (j<i)
abbrev tGe:TE->TE->TE:=ZjJ λi j=>decide (j<=i)
abbrev ZnD:TE->TE->TE:=ZjJ λi j=>decide (i=j)
abbrev ZnE:TE->TE->TE:=ZjJ λi j=>!decide (i=j)
def ZnF (ta:TE):TE:=λσ H Q=>ta σ H λx H1=>Q (.bl (decide (x=.non))) H1
def ZmI (ta:TE):TE:=λσ H Q=>ta σ H λx H1=>Q (.bl (!decide (x=.non))) H1
def tB (t:TE):TT:=λσ H Q=>t σ H λx H1=>∃ c,x=.bl c/\Q c H1
theorem ZjQ {op:CmpOp} {t:TE} (h:PC X op a b t) (h1:behindInMarks op b=false:=by first | exact nobehind _ (by decide) (by decide) | rfl):PE X (.Compare a [op] [b] pos) t:=λpins s σ H Q I hw=>wpAny_Compare1 (h pins s σ H Q I hw) h1
theorem ZaZ {e:Expr} {t:TE} (h:PE X e t) (he:∀ whole,isTrue e X.env whole=(do let v <- whole;standAt e.pos;holding [v] (truthy v)):=by intro _;rfl):PT X e (tB t):=by
 intro pins s σ H Q I hw
 refine isTrue_plain (thn (h pins s σ H _ I hw) λv s1 ⟨x,H1,I1,r1,q1⟩=>?_) (he _)
 obtain ⟨d,rfl,q⟩:=q1
 cases r1
 exact wpAny_truthy_bool ⟨H1,I1,q⟩
variable {tA tB':TT} {rest:List Expr}
def ZmJ (t u:TT):TT:=λσ H Q=>t σ H λc H1=>if c=true then u σ H1 Q else Q false H1
def tOr (t u:TT):TT:=λσ H Q=>t σ H λc H1=>if c=true then Q true H1 else u σ H1 Q
def ZmK (t:TT):TT:=λσ H Q=>t σ H λc H1=>Q (!c) H1
theorem ZfR (ha:PT X a tA):PW X (.BoolOp .And [a] pos) tA:=by
 intro wh pins s σ H Q I h
 refine isTrue_and (thn (ha pins s σ H Q I h) λc s1 e=>?_)
 cases c with
 | true=>exact isTrue_and_nil e
 | false=>exact e
theorem ZbJ (ha:PT X a tA):PW X (.BoolOp .Or [a] pos) tA:=by
 intro wh pins s σ H Q I h
 refine isTrue_or (thn (ha pins s σ H Q I h) λc s1 e=>?_)
 cases c with
 | false=>exact isTrue_or_nil e
 | true=>exact e
theorem Zh0 (ha:PT X a tA) (hb:PW X (.BoolOp .And (b::rest) pos) tB'):PW X (.BoolOp .And (a::b::rest) pos) (ZmJ tA tB'):=by
 intro wh pins s σ H Q I h
 refine isTrue_and (thn (ha pins s σ H _ I h) λc s1 ⟨H1,I1,q1⟩=>?_)
 cases c with
 | true=>exact hb wh pins s1 σ H1 Q I1 q1
 | false=>exact ⟨H1,I1,q1⟩
theorem Zb2 (ha:PT X a tA) (hb:PW X (.BoolOp .Or (b::rest) pos) tB'):PW X (.BoolOp .Or (a::b::rest) pos) (tOr tA tB'):=by
 intro wh pins s σ H Q I h
 refine isTrue_or (thn (ha pins s σ H _ I h) λc s1 ⟨H1,I1,q1⟩=>?_)
 cases c with
 | true=>exact ⟨H1,I1,q1⟩
 | false=>exact hb wh pins s1 σ H1 Q I1 q1
theorem Zbu (ha:PT X a tA):PT X (.UnaryOp .Not a pos) (ZmK tA):=by
 intro pins s σ H Q I h
 exact isTrue_not (ha pins s σ H (λc H1=>Q (!c) H1) I h)
def ZiB (ta tb:TE):TE:=λσ H Q=>ta σ H λx H1=>∃ c,x=.bl c/\if c=true then tb σ H1 Q else Q (.bl false) H1
def ZmL (ta tb:TE):TE:=λσ H Q=>ta σ H λx H1=>∃ c,x=.bl c/\if c=true then Q (.bl true) H1 else tb σ H1 Q
def ZmM (ta:TE):TE:=λσ H Q=>ta σ H λx H1=>∃ c,x=.bl c/\Q (.bl (!c)) H1
theorem ZeM {op} {t:TE} (h:PE X a t):PE X (.BoolOp op [a] pos) t:=λpins s σ H Q I hw=>BoolOp_one (h pins s σ H Q I hw)
theorem ZeN (ha:PE X a ta) (hb:PE X (.BoolOp .And (b::rest) pos) tb):PE X (.BoolOp .And (a::b::rest) pos) (ZiB ta tb):=by
 intro pins s σ H Q I h
 refine BoolOp_and (thn (ha pins s σ H _ I h) λv s1 ⟨x,H1,I1,r1,q1⟩=>?_)
 obtain ⟨c,rfl,q1⟩:=q1
 cases r1
 refine wpAny_truthy_bool ?_
 cases c with
 | true=>exact hb pins s1 σ H1 Q I1 q1
 | false=>exact ⟨.bl false,H1,I1,rfl,q1⟩
theorem Zlo (ha:PE X a ta) (hb:PE X (.BoolOp .Or (b::rest) pos) tb):PE X (.BoolOp .Or (a::b::rest) pos) (ZmL ta tb):=by
 intro pins s σ H Q I h
 refine BoolOp_or (thn (ha pins s σ H _ I h) λv s1 ⟨x,H1,I1,r1,q1⟩=>?_)
 obtain ⟨c,rfl,q1⟩:=q1
 cases r1
 refine wpAny_truthy_bool ?_
 cases c with
 | false=>exact hb pins s1 σ H1 Q I1 q1
 | true=>exact ⟨.bl true,H1,I1,rfl,q1⟩
def tIf (t:TT) (ta tb:TE):TE:=λσ H Q=>t σ H λc H1=>if c=true then ta σ H1 Q else tb σ H1 Q
end
end L2
namespace L2
open PySem PySem.Spec PyProof.Rows
def SqL (K:PySem.W.Frag) (H:Hp) (a:Addr) (xs:List V):Prop:=
 Rd H a (.lst xs) \/
  ∃ (o:Obj) (its:Array Value) (n:Nat),K.lookup a=some o/\o.cls=.type "list" /\ o.dict=none/\o.data=.seq its n/\its.size<=sizeLine/\Vals xs its.toList
def SqT (K:PySem.W.Frag) (H:Hp) (a:Addr) (xs:List V):Prop:=
 Rd H a (.tup xs) \/
  ∃ (o:Obj) (its:Array Value) (n:Nat),K.lookup a=some o/\o.cls=.type "tuple" /\ o.data=.seq its n/\its.size<=sizeLine/\Vals xs its.toList
def ZmN:Value->Option V
 | .none=>some .non
 | .bool b=>some (.bl b)
 | .int i _=>some (.int i)
 | .str x _=>some (.str x)
 | .bytes b _=>some (.byt b)
 | .float b _=>some (.flt b)
 | .ref a=>some (.ref a)
 | .type n=>some (.ty n)
 | _=>none
theorem RelV.abs {x:V} {u:Value} (r:RelV x u):ZmN u=some x:=by
 cases x with
 | non=>cases r;rfl
 | bl _=>cases r;rfl
 | int _=>obtain ⟨t,rfl⟩:=r;rfl
 | str _=>obtain ⟨t,rfl⟩:=r;rfl
 | byt _=>obtain ⟨t,rfl⟩:=r;rfl
 | flt _=>obtain ⟨t,rfl⟩:=r;rfl
 | ref _=>cases r;rfl
 | ty _=>cases r;rfl
theorem RelV.inj {x y:V} {u:Value} (r:RelV x u) (q:RelV y u):x=y:=Option.some.inj (r.abs.symm.trans q.abs)
theorem Vals.inj:∀ {xs ys:List V} {us:List Value},Vals xs us->Vals ys us->xs=ys
 | _,_,_,.nil,.nil=>rfl
 | _,_,_,.cons r t,.cons r' t'=>by rw [r.inj r',Vals.inj t t']
section
variable {X:Cx} {pins:List (Addr×Obj)} {σ:St} {H:Hp} {s:Shared} {a:Addr} {xs ys:List V}
theorem SqL.of {K:PySem.W.Frag} (h:H a=some (.lst xs)):SqL K H a xs:=.inl (.inl h)
theorem SqT.of {K:PySem.W.Frag} (h:H a=some (.tup xs)):SqT K H a xs:=.inl (.inl h)
theorem Inv.list (I:Inv X pins σ H s) (h:SqL X.K H a xs):∃ its:List Value,Vals xs its/\PlainL s.heap a its.toArray/\xs.length<=sizeLine:=by
 rcases h with h | ⟨o,its,n,hk,hc,hd,hs,hz,r⟩
 ·obtain ⟨z,its,n,r,e⟩:=h.ok I.hok
  exact ⟨its,r,⟨_,n,e,rfl,rfl,rfl⟩,z⟩
 ·refine ⟨its.toList,r,⟨o,n,I.kIn a o hk,hc,hd,by simpa using hs⟩,?_⟩
  have e:=r.length
  simp only [Array.length_toList] at e
  omega
theorem Inv.tuple (I:Inv X pins σ H s) (h:SqT X.K H a xs):∃ its:List Value,Vals xs its/\IsTup s.heap a its.toArray/\xs.length<=sizeLine:=by
 rcases h with h | ⟨o,its,n,hk,hc,hs,hz,r⟩
 ·obtain ⟨z,its,r,p⟩:=h.ok I.hok
  exact ⟨its,r,p,z⟩
 ·refine ⟨its.toList,r,⟨o,I.kIn a o hk,hc,n,by simpa using hs⟩,?_⟩
  have e:=r.length
  simp only [Array.length_toList] at e
  omega
theorem Inv.list_inj (I:Inv X pins σ H s) (h:SqL X.K H a xs) (h':SqL X.K H a ys):xs=ys:=by
 obtain ⟨its,r,⟨o,n,e,_,_,d⟩,_⟩:=I.list h
 obtain ⟨its',r',⟨o',n',e',_,_,d'⟩,_⟩:=I.list h'
 rw [e] at e';cases e'
 rw [d] at d'
 injection d' with d1 _
 have:its=its':=by simpa using congrArg Array.toList d1
 subst this
 exact r.inj r'
end
abbrev Cx.wish (X:Cx) (E:Value->Shared->Prop):Cx:={ X with xe:=E }
abbrev Cx.nox (X:Cx):Cx:=X.wish λ_ _=>False
theorem Cx.Ok.wish {X:Cx} (ok:X.Ok) (E:Value->Shared->Prop):(X.wish E).Ok:=
 ⟨ok.mod,ok.kind,ok.glob,ok.blt,ok.above,ok.inj,ok.has,ok.cab,ok.hd,ok.frames,ok.stk,ok.exf,ok.bs,ok.bsz,ok.noex,ok.exfs,ok.funs,ok.frf⟩
theorem Cx.Ok.unwish {X:Cx} {E:Value->Shared->Prop} (ok:(X.wish E).Ok):X.Ok:=
 ⟨ok.mod,ok.kind,ok.glob,ok.blt,ok.above,ok.inj,ok.has,ok.cab,ok.hd,ok.frames,ok.stk,ok.exf,ok.bs,ok.bsz,ok.noex,ok.exfs,ok.funs,ok.frf⟩
section
variable {X:Cx} {pins:List (Addr×Obj)} {σ:St} {H:Hp} {s:Shared} {E:Value->Shared->Prop}
theorem Inv.wish (I:Inv X pins σ H s) (E:Value->Shared->Prop):Inv (X.wish E) pins σ H s:=⟨I.ok.wish E,I.os,I.bare,I.base,I.loc,I.cell,I.free,I.freeC,I.pin,I.hok,I.len⟩
theorem Inv.unwish (I:Inv (X.wish E) pins σ H s):Inv X pins σ H s:=⟨I.ok.unwish,I.os,I.bare,I.base,I.loc,I.cell,I.free,I.freeC,I.pin,I.hok,I.len⟩
theorem SP.unwish {D:Ends} {f:Flow} {s':Shared} (h:SP (X.wish E) pins D f s'):SP X pins D f s':=by
 cases f with
 | next=>obtain ⟨σ',H',I,q⟩:=h;exact ⟨σ',H',I.unwish,q⟩
 | brk=>obtain ⟨σ',H',I,q⟩:=h;exact ⟨σ',H',I.unwish,q⟩
 | cont=>obtain ⟨σ',H',I,q⟩:=h;exact ⟨σ',H',I.unwish,q⟩
 | ret u=>obtain ⟨v,σ',H',I,r,q⟩:=h;exact ⟨v,σ',H',I.unwish,r,q⟩
theorem PSs.nox {st:List Stmt} {t:TS} (h:PSs X.nox st t):PSs X st t:=λpins s σ H D I hw=>
 wpAny_mono (h pins s σ H D (I.wish _) hw) (λ_ _ q=>q.unwish) λ_ _ z=>False.elim z
end
section
variable {X:Cx} {st:Stmt} {rest:List Stmt} {t u:TS} {e:Expr} {te:TE} {pos:Pos}
def ZcD:TS:=λD σ H=>D.nx σ H
def Zme (t u:TS):TS:=λD σ H=>t { D with nx:=u D } σ H
theorem Zax:PSs X [] ZcD:=λ_ _ σ H _ I h=>wpAny_execs_nil ⟨σ,H,I,h⟩
theorem Zad (h1:PS X st t) (h2:PSs X rest u):PSs X (st::rest) (Zme t u):=by
 intro pins s σ H D I h
 refine wpAny_execs_cons (thn (h1 pins s σ H { D with nx:=u D } I h) λf s1 q=>?_)
 cases f with
 | next=>
  obtain ⟨σ',H',I',q⟩:=q
  exact h2 pins s1 σ' H' D I' q
 | ret v=>exact q
 | brk=>exact q
 | cont=>exact q
theorem Zag (h1:PS X st t):PSs X [st] t:=by
 intro pins s σ H D I h
 refine wpAny_execs_cons (thn (h1 pins s σ H D I h) λf s1 q=>?_)
 cases f with
 | next=>exact wpAny_execs_nil q
 | ret v=>exact q
 | brk=>exact q
 | cont=>exact q
def Zmf:TS:=λD σ H=>D.bk σ H
def ZmO:TS:=λD σ H=>D.ct σ H
theorem Inv.quiet {pins:List (Addr×Obj)} {σ:St} {H:Hp} {s:Shared} (I:Inv X pins σ H s):interactive X.env=false:=by simp [interactive,I.ok.kind]
def Zlp (te:TE):TS:=λD σ H=>te σ H λ_ H1=>D.nx σ H1
theorem ZaS (he:PE X e te) (hs:swapsWith e none pos.line X.env=pure false:=by rfl):PS X (.Expr e pos) (Zlp te):=by
 intro pins s σ H D I h
 exact wpAny_Expr_any (thn (he pins s σ H _ I h) λv s1 ⟨x,H1,I1,r1,q1⟩=>⟨σ,H1,I1,q1⟩) I.quiet hs
def ZmP (te:TE):TS:=λD σ H=>te σ H D.rt
theorem Zas (he:PE X e te):PS X (.Return (some e) pos) (ZmP te):=by
 intro pins s σ H D I h
 exact wpAny_Return_some (thn (he pins s σ H _ I h) λv s1 ⟨x,H1,I1,r1,q1⟩=>⟨x,σ,H1,I1,r1,q1⟩)
def ZmQ:TS:=λD _ H=>D.rt .non H
def ZmR (c:TT) (t u:TS):TS:=λD σ H=>c σ H λb H1=>if b=true then t D σ H1 else u D σ H1
theorem ZaP {c:Expr} {a b:List Stmt} {tc:TT} (hc:PT X c tc) (ha:PSs X a t) (hb:PSs X b u):PS X (.If c a b pos) (ZmR tc t u):=by
 intro pins s σ H D I h
 refine wpAny_If (thn (hc pins s σ H _ I h) λd s1 ⟨H1,I1,q1⟩=>?_)
 cases d with
 | true=>exact ha pins s1 σ H1 D I1 q1
 | false=>exact hb pins s1 σ H1 D I1 q1
def Zmg:TS:=λ_ _ _=>False
end
abbrev TG:=V->St->Hp->(St->Hp->Prop)->Prop
abbrev TGs:=List V->St->Hp->(St->Hp->Prop)->Prop
def PG (X:Cx) (target:Expr) (t:TG):Prop:=
 ∀ (pins:List (Addr×Obj)) (s:Shared) (σ:St) (H:Hp) (v:V) (u:Value) (Q:St->Hp->Prop),Inv X pins σ H s->RelV v u->t v σ H Q ->
  wpAny (model X.prog X.w) X.A (assign target X.env u) (λ_ s'=>∃ σ' H',Inv X pins σ' H' s'/\Q σ' H') X.xe s
def PGs (X:Cx) (ts:List Expr) (t:TGs):Prop:=
 ∀ (pins:List (Addr×Obj)) (s:Shared) (σ:St) (H:Hp) (vs:List V) (us:List Value) (Q:St->Hp->Prop),Inv X pins σ H s->Vals vs us->t vs σ H Q ->
  wpAny (model X.prog X.w) X.A (assignInOrder ((assignEach ts X.env).map (·.2)) us) (λ_ s'=>∃ σ' H',Inv X pins σ' H' s'/\Q σ' H') X.xe s
abbrev Zlf:=V->V->V->Hp->(Hp->Prop)->Prop
def Zmh (X:Cx) (t:Zlf):Prop:=
 ∀ (pins:List (Addr×Obj)) (s:Shared) (σ:St) (H:Hp) (o i v:V) (ov iv u:Value) (Q:Hp->Prop),Inv X pins σ H s->RelV o ov->RelV i iv->RelV v u->t o i v H Q ->
  wpAny (model X.prog X.w) X.A (setItem ov iv u) (λ_ s'=>∃ H',Inv X pins σ H' s'/\Q H') X.xe s
abbrev TIp:=V->V->Hp->VK->Prop
def PIp (X:Cx) (op:Operator) (t:TIp):Prop:=
 ∀ (pins:List (Addr×Obj)) (s:Shared) (σ:St) (H:Hp) (x y:V) (v u:Value) (Q:VK),Inv X pins σ H s->RelV x v->RelV y u->t x y H Q ->
  wpAny (model X.prog X.w) X.A (inplaceOp op v u) (EP X pins σ Q) X.xe s
section
variable {X:Cx} {pos:Pos}
def Zfn (i:Nat):TG:=λv σ H Q=>Q (σ.set i (some v)) H
theorem Zay {i:Nat} {x:Str} (hN:X.N.Nodup) (hi:X.N[i]?=some x) (hx:Loc X.env.scope x) (hf:X.fn x=true\/X.env.scope.names.lookup x=some .local:=by first | exact .inl rfl | exact .inr rfl | assumption):PG X (.Name x pos) (Zfn i):=by
 intro pins s σ H v u Q I r h
 exact wpAny_assign_Name (ZcG I hN hi hx r (λs' I'=>⟨_,H,I',h⟩) hf)
def ZmS:TGs:=λvs σ H Q=>vs=[]/\Q σ H
def Zlq (t:TG) (u:TGs):TGs:=λvs σ H Q=>∃ v r,vs=v::r/\t v σ H λσ' H'=>u r σ' H' Q
theorem Zb9:PGs X [] ZmS:=by
 intro pins s σ H vs us Q I r h
 obtain ⟨e,h⟩:=h
 subst e
 cases r
 exact assignInOrder_nil ⟨σ,H,I,h⟩
theorem ZaQ {e:Expr} {es:List Expr} {t:TG} {u:TGs} (h1:PG X e t) (h2:PGs X es u)
  (hs:(assignEach (e::es) X.env).map (·.2)=assign e X.env::(assignEach es X.env).map (·.2):=by rfl):PGs X (e::es) (Zlq t u):=by
 intro pins s σ H vs us Q I r h
 obtain ⟨v,vr,e1,h⟩:=h
 subst e1
 cases r with
 | cons r rr=>
  rw [hs]
  refine assignInOrder_cons (thn (h1 pins s σ H _ _ _ I r h) λ_ s1 ⟨σ1,H1,I1,q1⟩=>?_)
  exact h2 pins s1 σ1 H1 _ _ Q I1 rr q1
def Zmi (K:PySem.W.Frag) (n:Nat) (t:TGs):TG:=λv σ H Q=>∃ a xs,v=.ref a/\SqT K H a xs/\xs.length=n/\t xs σ H Q
theorem ZjR {es:List Expr} {k:Nat} {t:TGs} {n:Nat} (hc:X.calm=true) (h:PGs X es t)
  (hn:(assignEach es X.env).length=n:=by rfl) (hst:(assignEach es X.env).findIdx? (·.1)=none:=by rfl):PG X (.Tuple es k pos) (Zmi X.K n t):=by
 intro pins s σ H v u Q I r hw
 obtain ⟨a,xs,e1,hq,hl,hw⟩:=hw
 subst e1
 cases r
 obtain ⟨its,rv,ht,hz⟩:=I.tuple hq
 refine assign_Tuple_tuple (I.ok.hd hc) ht (by simp [hn,<-hl,rv.length]) hst λh' hx=>?_
 have I1:Inv X pins σ H { s with heap:=h' }:=I.kept (t':=s.toks) λb o e=>hx b o (Nat.ne_of_lt (Heap.lt_size e)) e
 exact h pins _ σ H xs _ Q I1 (by simpa using rv) hw
def ZmT (to ti:TE) (t:Zlf):TG:=λv σ H Q=>to σ H λo H1=>ti σ H1 λi H2=>t o i v H2 λH3=>Q σ H3
theorem ZjS {o i:Expr} {to ti:TE} {t:Zlf} (ho:PE X o to) (hi:PE X i ti) (hs:Zmh X t)
  (ha:∀ v,assign (.Subscript o i pos) X.env v=(do
   let ov <- holding [v] (eval o X.env)
   let iv <- holding [v,ov] (eval i X.env)
   standAt pos
   holding [v,ov,iv] (setItem ov iv v)
   release [v,ov,iv] []):=by intro _;rfl):PG X (.Subscript o i pos) (ZmT to ti t):=by
 intro pins s σ H v u Q I r h
 rw [ha]
 refine wpAny_bind (wpAny_holding (thn (ho pins s σ H _ I h) λov s1 ⟨x,H1,I1,r1,q1⟩=>?_))
 refine wpAny_bind (wpAny_holding (thn (hi pins s1 σ H1 _ I1 q1) λiv s2 ⟨y,H2,I2,r2,q2⟩=>?_))
 refine wpAny_bind (wpAny_standAt (wpAny_bind (wpAny_holding (thn (hs pins s2 σ H2 x y v ov iv u _ I2 r1 r2 r q2) λ_ s3 ⟨H3,I3,q3⟩=>?_))))
 exact wpAny_release ⟨σ,H3,I3,q3⟩
def Zlr (te:TE) (g:TG):TS:=λD σ H=>te σ H λx H1=>g x σ H1 D.nx
theorem ZeO {tg e:Expr} {te:TE} {g:TG} (he:PE X e te) (hg:PG X tg g) (hs:swapsWithSole [tg] e pos.line X.env=pure false:=by rfl) (hw:swappedStores [tg] e X.env=pure none:=by rfl)
  (h1:(assignEach [tg] X.env).map (·.2)=[assign tg X.env]:=by rfl):PS X (.Assign [tg] e pos) (Zlr te g):=by
 intro pins s σ H D I h
 refine wpAny_Assign_stores (thn (he pins s σ H _ I h) λv s1 ⟨x,H1,I1,r1,q1⟩=>?_) hs hw
 rw [h1]
 exact thn (hg pins s1 σ H1 x v _ I1 r1 q1) λ_ s2 q=>q
theorem Zat {i:Nat} {x:Str} {e:Expr} {te:TE} {pos':Pos} (hN:X.N.Nodup) (hi:X.N[i]?=some x) (hx:Loc X.env.scope x) (he:PE X e te) (hs:swapsWith e (some (.Name x pos')) pos.line X.env=pure false:=by rfl) (hf:X.fn x=true\/X.env.scope.names.lookup x=some .local:=by first | exact .inl rfl | exact .inr rfl | assumption) :
  PS X (.Assign [.Name x pos'] e pos) (Zlr te (Zfn i)):=by
 intro pins s σ H D I h
 refine wpAny_Assign_Name (thn (he pins s σ H _ I h) λv s1 ⟨y,H1,I1,r1,q1⟩=>?_) hs
 exact ZcG I1 hN hi hx r1 (λs2 I2=>⟨_,H1,I2,q1⟩) hf
def ZnG (i j:Nat) (ta:TA):TS:=λD σ H=>ta σ H λvs H1=>∃ v w,vs=[v,w]/\D.nx ((σ.set i (some v)).set j (some w)) H1
def ZnH (i:Nat) (te:TE) (ti:TIp):TS:=λD σ H=>∃ x,σ[i]?=some (some x)/\te σ H λy H1=>ti x y H1 λz H2=>D.nx (σ.set i (some z)) H2
def ZmU (to ti te:TE) (tget:V->V->Hp->VK->Prop) (tip:TIp) (tset:Zlf):TS:=λD σ H=>to σ H λo H1=>ti σ H1 λi H2=>tget o i H2 λx H3=>te σ H3 λy H4=>tip x y H4 λz H5=>tset o i z H5 λH6=>D.nx σ H6
def ZnI (X:Cx) (t:V->V->Hp->VK->Prop):Prop:=
 ∀ (pins:List (Addr×Obj)) (s:Shared) (σ:St) (H:Hp) (o i:V) (ov iv:Value) (Q:VK),Inv X pins σ H s->RelV o ov->RelV i iv->t o i H Q ->
  wpAny (model X.prog X.w) X.A (getItem ov iv) (EP X pins σ Q) X.xe s
def ipI (f:Int->Int->Int):TIp:=λx y H Q=>∃ i j,x=.int i/\y=.int j/\Q (.int (f i j)) H
end
section
variable {X:Cx} {pos:Pos}
def ZjT (c:TT) (tb:TS):TS:=λD σ H=>∃ W:Nat->St->Hp->Prop,(∃ m,W m σ H)/\∀ m σ H,W m σ H ->
 c σ H λb H1=>if b=true then ∃ N:St->Hp->Prop,(∀ σ' H',N σ' H'->∃ m',m'<m/\W m' σ' H')/\tb { D with nx:=N,ct:=N,bk:=D.nx } σ H1 else D.nx σ H1
theorem ZeP {c:Expr} {body:List Stmt} {tc:TT} {tb:TS} (hp:PassesOwn (model X.prog X.w) X.A X.env X.xe) (hc:PT X c tc) (hb:PSs X body tb):PS X (.While c body [] pos) (ZjT tc tb):=by
 intro pins s σ H D I h
 obtain ⟨W,⟨m0,w0⟩,turn⟩:=h
 refine wpAny_While (codeAny_whileLoop (λn s'=>∃ σ' H',Inv X pins σ' H' s'/\W n σ' H') ?_ m0 ⟨σ,H,I,w0⟩)
 rintro n s1 ⟨σ1,H1,I1,w1⟩
 refine wpAny_passesOwn hp (thn (hc pins s1 σ1 H1 _ I1 (turn n σ1 H1 w1)) λb s2 ⟨H2,I2,q2⟩=>?_)
 cases b with
 | true=>
  obtain ⟨N,hN,q2⟩:=q2
  rw [if_pos rfl]
  refine wpAny_passesOwn hp (thn (hb pins s2 σ1 H2 _ I2 q2) λf s3 q3=>?_)
  cases f with
  | next=>
   obtain ⟨σ3,H3,I3,n3⟩:=q3
   obtain ⟨m',hm,w3⟩:=hN σ3 H3 n3
   exact ⟨m',hm,σ3,H3,I3,w3⟩
  | cont=>
   obtain ⟨σ3,H3,I3,n3⟩:=q3
   obtain ⟨m',hm,w3⟩:=hN σ3 H3 n3
   exact ⟨m',hm,σ3,H3,I3,w3⟩
  | brk=>exact q3
  | ret v=>exact q3
 | false=>
  rw [if_neg Bool.false_ne_true]
  exact wpAny_execs_nil ⟨σ1,H2,I2,q2⟩
end
structure It where
 go:Nat->Hp->Prop
 yld:Nat->Hp->V->Hp->Prop
 stop:Nat->Hp->Prop
def Zg5 (X:Cx) (pins:List (Addr×Obj)) (H:Hp) (b:Addr):Prop:=
 H b=none/\b≠X.env.locals/\b ∉ X.fs/\(b∈X.ex\/X.s₀.heap.objs.size<=b)/\(∀ x c,X.env.cells.lookup x=some c->c≠b)/\∀ p∈X.pn++pins,p.1≠b
theorem Inv.fpOk {X:Cx} {pins:List (Addr×Obj)} {σ:St} {H H':Hp} {s:Shared} {b:Addr} (I:Inv X pins σ H s) (hb:s.heap.objs.size<=b) (hn:H' b=none):Zg5 X pins H' b:=by
 refine ⟨hn,Nat.ne_of_gt (Nat.lt_of_lt_of_le I.lt hb),I.nofs hb,.inr (Nat.le_trans I.sz hb),λx c e z=>?_,λp hp z=>?_⟩
 ·obtain ⟨v,q⟩:=I.cell x c e
  exact absurd (Nat.lt_of_lt_of_le q.lt (by rw [z];exact hb)) (Nat.lt_irrefl _)
 ·exact absurd (Nat.lt_of_lt_of_le (Heap.lt_size (I.pin p hp).1) (by rw [z];exact hb)) (Nat.lt_irrefl _)
structure ZjU (P:Program) (w:World) (K:PySem.W.Frag) (tg:Expr) (J:It) (fp:List Addr) (it:Addr) (tn:Nat->Heap->Prop):Prop where
 mem:it∈fp
 obj:∀ i h,tn i h->∀ b∈fp,∃ o,h.get? b=some o/\∀ v,o.data≠.cell v
 keep:∀ i h h',tn i h->(∀ b∈fp,∀ o,h.get? b=some o->h'.get? b=some o)->tn i h'
 item:∀ (X:Cx),X.prog=P->X.w=w->X.K=K->X.calm=true->∀ (i:Nat) (pins:List (Addr×Obj)) (s:Shared) (σ:St) (H:Hp) (E:Value->Shared->Prop),Inv X pins σ H s->(∀ b∈fp,Zg5 X pins H b)->tn i s.heap->J.go i H ->
  wpAny (model P w) X.A (pyNext (.ref it)) (λr s1=>∃ u,r=some u /\
   wpAny (model P w) X.A (letOwnedTupleGo tg (.ref it) u) (λ_ s2=>∃ x H',Inv X pins σ H' s2/\RelV x u/\J.yld i H x H'/\tn (i+1) s2.heap/\∀ b∈fp,H' b=none) E s1) E s
 done:∀ (X:Cx),X.prog=P->X.w=w->X.K=K->X.calm=true->∀ (i:Nat) (pins:List (Addr×Obj)) (s:Shared) (σ:St) (H:Hp) (E:Value->Shared->Prop),Inv X pins σ H s->(∀ b∈fp,Zg5 X pins H b)->tn i s.heap->J.stop i H ->
  wpAny (model P w) X.A (pyNext (.ref it)) (λr s1=>r=none/\Inv X pins σ H s1) E s
 self:∀ (A:Around) (i:Nat) (s:Shared) (Q:Value->Shared->Prop) (E:Value->Shared->Prop),tn i s.heap->Q (.ref it) s->wpAny (model P w) A (pyIter (.ref it)) Q E s
abbrev TI:=St->Hp->(It->Hp->Prop)->Prop
def PIE (X:Cx) (pins:List (Addr×Obj)) (σ:St) (tg:Expr) (R:It->Hp->Prop) (itv:Value) (s2:Shared):Prop:=
 ∃ (it:Addr) (fp:List Addr) (tn:Nat->Heap->Prop) (J:It) (H':Hp),itv=.ref it/\Inv X pins σ H' s2/\ZjU X.prog X.w X.K tg J fp it tn/\tn 0 s2.heap/\(∀ b∈fp,Zg5 X pins H' b)/\R J H'
def PI (X:Cx) (tg iter:Expr) (wi:TI):Prop:=
 ∀ (pins:List (Addr×Obj)) (s:Shared) (σ:St) (H:Hp) (R:It->Hp->Prop),Inv X pins σ H s->wi σ H R ->
  wpAny (model X.prog X.w) X.A (eval iter X.env) (λv s1=>wpAny (model X.prog X.w) X.A (pyIter v) (PIE X pins σ tg R) X.xe s1) X.xe s
theorem ZjV {M:Model} {A:Around} {E:Value->Shared->Prop} {s:Shared} {tg:Expr} {it:Addr} {u:Value} {o:Obj} {n:String} {vs:Array Value} {Q:Unit->Shared->Prop} (ho:s.heap.get? it=some o) (hc:o.cls=.type n) (hd:o.data=.fields vs)
  (hn:["enumerate", "zip", "dict_itemiterator", "dict_reverseitemiterator", "odict_iterator", "itertools.zip_longest", "itertools.pairwise"].contains n=false) (hQ:Q () s):wpAny M A (letOwnedTupleGo tg (.ref it) u) Q E s:=by
 unfold letOwnedTupleGo
 cases tg <;> first
  | exact wpAny_pure hQ
  | (cases u <;> first
    | exact wpAny_pure hQ
    | (refine wpAny_bind (wpAny_load ho ?_)
       rw [hc,hd]
       show wpAny M A (if (["enumerate", "zip", "dict_itemiterator", "dict_reverseitemiterator", "odict_iterator", "itertools.zip_longest", "itertools.pairwise"].contains n && vs[0]? == some (rawInt _))=true then _ else _) Q E s
       rw [if_neg (by intro h;rw [hn,Bool.false_and] at h;cases h)]
       exact wpAny_pure hQ))
def Itl (K:PySem.W.Frag) (a:Addr):It:=
 ⟨λi H=>∃ xs x,SqL K H a xs/\xs[i]?=some x,λi H x H'=>H'=H/\∀ xs,SqL K H a xs->xs[i]?=some x,λi H=>∃ xs,SqL K H a xs/\xs.length<=i⟩
def Itt (K:PySem.W.Frag) (a:Addr):It:=
 ⟨λi H=>∃ xs x,SqT K H a xs/\xs[i]?=some x,λi H x H'=>H'=H/\∀ xs,SqT K H a xs->xs[i]?=some x,λi H=>∃ xs,SqT K H a xs/\xs.length<=i⟩
def Itr (lo:Int) (n:Nat):It:=⟨λi _=>i<n,λi H x H'=>H'=H/\x=.int (lo+i),λi _=>n<=i⟩
theorem ZfS {P:Program} {w:World} {K:PySem.W.Frag} {tg:Expr} (a it:Addr):ZjU P w K tg (Itl K a) [it] it (λi h=>h.IsListIter it a i) where
 mem:=by simp
 obj:=λi h st b hb=>by
  have e:b=it:=by simpa using hb
  subst e
  obtain ⟨o,e,c,d⟩:=st
  exact ⟨o,e,λv z=>by rw [d] at z;cases z⟩
 keep:=λi h h' st k=>st.at λo e=>k it (by simp) o e
 item:=by
  intro X hP hw hK hc i pins s σ H E I hf st hg
  subst hP hw hK
  obtain ⟨xs,x,hq,hx⟩:=hg
  obtain ⟨its,rv,p,hz⟩:=I.list hq
  obtain ⟨u,hu,ru⟩:=rv.get hx
  obtain ⟨f0,f1,f2,f3,f4,f5⟩:=hf it (by simp)
  refine wpAny_pyNext_list_item st p.isList (x:=u) (by simpa using hu) λh' st' sb=>?_
  have I1:Inv X pins σ H { s with heap:=h' }:=I.turned (t':=s.toks) (λb o hb e=>(sb.2 b hb).trans e) f0 f1 f3 f4 f5
  obtain ⟨o,e,c,d⟩:=id st'
  exact ⟨u,rfl,ZjV (s:={ s with heap:=h' }) e c d (by decide) ⟨x,H,I1,ru,⟨rfl,λys hy=>by rw [I.list_inj hy hq];exact hx⟩,st',λb hb=>(hf b hb).1⟩⟩
 done:=by
  intro X hP hw hK hc i pins s σ H E I hf st hg
  subst hP hw hK
  obtain ⟨xs,hq,hx⟩:=hg
  obtain ⟨its,rv,p,hz⟩:=I.list hq
  obtain ⟨f0,f1,f2,f3,f4,f5⟩:=hf it (by simp)
  have hl:=rv.length
  exact wpAny_pyNext_list_end (I.ok.hd hc) st p.isList (by simp;omega) λh' eb=>⟨rfl,I.turned (t':=s.toks) (λb o hb e=>eb b o hb e) f0 f1 f3 f4 f5⟩
 self:=λ_ _ _ _ _ st h=>wpAny_pyIter_listiter st h
theorem Zfo {P:Program} {w:World} {K:PySem.W.Frag} {tg:Expr} (it:Addr) (lo:Int) (n:Nat):ZjU P w K tg (Itr lo n) [it] it (λi h=>IsRangeIter h it (lo+(i:Nat) * 1) ((n:Int)-(i:Nat)) 1) where
 mem:=by simp
 obj:=λi h st b hb=>by
  have e:b=it:=by simpa using hb
  subst e
  exact ⟨_,st,λv z=>by
   have z':Data.fields _=Data.cell v:=z
   cases z'⟩
 keep:=λi h h' st k=>k it (by simp) _ st
 item:=by
  intro X hP hw hK hc i pins s σ H E I hf st hg
  subst hP hw hK
  obtain ⟨f0,f1,f2,f3,f4,f5⟩:=hf it (by simp)
  have W:=Walks.range (prog:=X.prog) (w:=X.w) (I.ok.hd hc) it lo 1 n
  refine W.item i s _ _ hg st λv h' tk hv st' kk=>?_
  obtain ⟨t,rfl⟩:=hv
  have I1:Inv X pins σ H { s with heap:=h',toks:=tk }:=I.turned (λb o hb e=>kk b o (by simpa using hb) e) f0 f1 f3 f4 f5
  refine ⟨_,rfl,ZjV (s:={ s with heap:=h',toks:=tk }) (n := "range_iterator") st' rfl rfl (by decide) ⟨.int (lo+i),H,I1,⟨t,?_⟩,⟨rfl,rfl⟩,st',λb hb=>(hf b hb).1⟩⟩
  rw [Int.mul_one]
 done:=by
  intro X hP hw hK hc i pins s σ H E I hf st hg
  subst hP hw hK
  obtain ⟨f0,f1,f2,f3,f4,f5⟩:=hf it (by simp)
  exact wpAny_pyNext_range_end (I.ok.hd hc) st (by have:n<=i:=hg;omega) λh' eb=>⟨rfl,I.turned (t':=s.toks) (λb o hb e=>eb b o hb e) f0 f1 f3 f4 f5⟩
 self:=λ_ _ _ _ _ st h=>wpAny_pyIter_rangeiter st h
end L2
namespace L2
open PySem PySem.Spec PyProof.Rows
section
variable {X:Cx} {tg:Expr}
def ZjW (K:PySem.W.Frag) (tl:TE):TI:=λσ H R=>tl σ H λx H1=>∃ a,x=.ref a/\(∃ xs,SqL K H1 a xs)/\R (Itl K a) H1
def ZnJ (K:PySem.W.Frag) (tl:TE):TI:=λσ H R=>tl σ H λx H1=>∃ a,x=.ref a/\(∃ xs,SqT K H1 a xs)/\R (Itt K a) H1
theorem ZiC {l:Expr} {tl:TE} (hl:PE X l tl):PI X tg l (ZjW X.K tl):=by
 intro pins s σ H R I h
 refine thn (hl pins s σ H _ I h) λv s1 ⟨x,H1,I1,r1,q1⟩=>?_
 obtain ⟨a,e,⟨xs,hq⟩,q⟩:=q1
 subst e
 cases r1
 obtain ⟨its,rv,p,hz⟩:=I1.list hq
 refine wpAny_pyIter_list p.isList ?_
 refine ⟨s1.heap.objs.size,[s1.heap.objs.size],_,_,H1,rfl,I1.kept (t':=s1.toks) λb o e=>Heap.get?_push_of_some _ e,ZfS a _,⟨_,Heap.get?_push_size _ rfl,rfl,rfl⟩,λb hb=>?_,q⟩
 have e:b=s1.heap.objs.size:=by simpa using hb
 subst e
 exact I1.fpOk (Nat.le_refl _) (I1.hok.fresh (Nat.le_refl _))
theorem Zha {pins:List (Addr×Obj)} {σ:St} {H:Hp} {s:Shared} {R:It->Hp->Prop} {E:Value->Shared->Prop} {lo hi:Int} {t u v:Tok} {tk:Nat} (I:Inv X pins σ H s) (h1:-(2 ^ 62)<=lo) (h2:lo<2 ^ 62) (h3:-(2 ^ 62)<=hi) (h4:hi<2 ^ 62)
  (q:R (Itr lo (hi-lo).toNat) H):wpAny (model X.prog X.w) X.A (pyIter (.ref s.heap.objs.size)) (PIE X pins σ tg R) E { s with heap:=s.heap.push { cls:=.type "range", data:=.fields #[.int lo t,.int hi u,.int 1 v] },toks:=tk }:=by
 refine wpAny_pyIter_range (IsRange.new ..) (small_one h1 h2 h3 h4) ?_
 have I1:Inv X pins σ H { s with heap:=s.heap.push { cls:=.type "range", data:=.fields #[.int lo t,.int hi u,.int 1 v] },toks:=tk }:=I.kept λb o e=>Heap.get?_push_of_some _ e
 refine ⟨(s.heap.push { cls:=.type "range", data:=.fields #[.int lo t,.int hi u,.int 1 v] }).objs.size,[(s.heap.push { cls:=.type "range", data:=.fields #[.int lo t,.int hi u,.int 1 v] }).objs.size],_,_,H,rfl,
  I1.kept (t':=tk) λb o e=>Heap.get?_push_of_some _ e,Zfo _ lo (hi-lo).toNat,?_,λb hb=>?_,q⟩
 ·have e1:lo+((0:Nat):Int) * 1=lo:=by simp
  have e2:(((hi-lo).toNat:Nat):Int)-((0:Nat):Int)=Builtin.Range.rangeSize lo hi 1:=by rw [rangeSize_one];split <;> omega
  show IsRangeIter _ _ (lo+((0:Nat):Int) * 1) ((((hi-lo).toNat:Nat):Int)-((0:Nat):Int)) 1
  rw [e1,e2]
  exact Heap.get?_push_size _ rfl
 ·have e:b=(s.heap.push { cls:=.type "range", data:=.fields #[.int lo t,.int hi u,.int 1 v] }).objs.size:=by simpa using hb
  subst e
  exact I1.fpOk (Nat.le_refl _) (I1.hok.fresh (Nat.le_refl _))
def Zls (ta:TA):TI:=λσ H R=>ta σ H λvs H1=>∃ j:Int,vs=[.int j]/\-(2 ^ 62)<=j/\j<2 ^ 62/\R (Itr 0 j.toNat) H1
def ZmV (ta:TA):TI:=λσ H R=>ta σ H λvs H1=>∃ i j:Int,vs=[.int i,.int j]/\(-(2 ^ 62)<=i/\i<2 ^ 62/\-(2 ^ 62)<=j/\j<2 ^ 62)/\R (Itr i (j-i).toNat) H1
theorem ZaT {a:Expr} {ta:TA} {p pos:Pos} (hg:Gl X "range") (hm:X.mg "range" = none) (ha:PA X [a] ta) (hs:starEach [a] X.env=[(false,eval a X.env)]:=by rfl):PI X tg (.Call (.Name "range" p) [a] [] pos) (Zls ta):=by
 intro pins s σ H R I h
 refine Call_ (ZcA I hg hm boot_range (PyProof.Rows.callWith_type1 (thn (ha pos pins s σ H _ I h) λus s1 ⟨vs,H1,I1,r1,q1⟩=>?_) hs rfl))
 obtain ⟨j,e,q1,q2,q⟩:=q1
 subst e
 cases r1 with
 | cons r rr=>
  cases rr
  obtain ⟨t,rfl⟩:=r
  exact call_range_1 (Zha I1 (by omega) (by omega) q1 q2 (by simpa using q))
def ZmW (wi:TI) (g:TG) (tb:TS):TS:=λD σ H=>wi σ H λJ H1=>∃ W:Nat->Nat->St->Hp->Prop,(∃ m,W 0 m σ H1)/\∀ i m σ H,W i m σ H ->
 (J.stop i H/\D.nx σ H)\/(J.go i H/\∃ N:St->Hp->Prop,(∀ σ' H',N σ' H'->∃ m',m'<m/\W (i+1) m' σ' H')/\∀ x H',J.yld i H x H'->g x σ H' λσ2 H2=>tb { D with nx:=N,ct:=N,bk:=D.nx } σ2 H2)
def ZdQ (fp:List Addr) (h:Heap):List (Addr×Obj):=fp.filterMap λb=>(h.get? b).map λo=>(b,o)
theorem ZbU {fp:List Addr} {h:Heap} {b:Addr} {o:Obj} (hb:b∈fp) (e:h.get? b=some o):(b,o)∈ZdQ fp h:=List.mem_filterMap.mpr ⟨b,hb,by rw [e];rfl⟩
theorem ZfT {fp:List Addr} {h:Heap} {p:Addr×Obj} (hp:p∈ZdQ fp h):p.1∈fp/\h.get? p.1=some p.2:=by
 obtain ⟨b,hb,e⟩:=List.mem_filterMap.mp hp
 cases q:h.get? b with
 | none=>rw [q] at e;cases e
 | some o=>
  rw [q] at e
  have e':(b,o)=p:=Option.some.inj e
  subst e'
  exact ⟨hb,q⟩
theorem Inv.pinned {pins:List (Addr×Obj)} {σ:St} {H:Hp} {s:Shared} {fp:List Addr} (I:Inv X pins σ H s) (hf:∀ b∈fp,Zg5 X pins H b) (ho:∀ b∈fp,∃ o,s.heap.get? b=some o/\∀ v,o.data≠.cell v):Inv X (pins++ZdQ fp s.heap) σ H s:=
 I.pins_of λp hp=>(List.mem_append.mp hp).elim (λz=>I.pin p (List.mem_append_right _ z)) λz=>by
  obtain ⟨hb,e⟩:=ZfT z
  obtain ⟨f0,f1,f2,_⟩:=hf p.1 hb
  obtain ⟨o,e',d⟩:=ho p.1 hb
  rw [e] at e';cases e'
  exact ⟨e,f0,f1,f2,d⟩
theorem Inv.unpinned {pins pl:List (Addr×Obj)} {σ:St} {H:Hp} {s:Shared} (I:Inv X (pins++pl) σ H s):Inv X pins σ H s:=I.pins_of λp hp=>I.pin p (List.mem_append_right _ (List.mem_append_left _ hp))
theorem Zbg {iter:Expr} {body:List Stmt} {wi:TI} {g:TG} {tb:TS} {pos:Pos} (hp:PassesOwn (model X.prog X.w) X.A X.env X.xe) (hc:X.calm=true) (hi:PI X tg iter wi) (hg:PG X tg g) (hb:PSs X body tb)
  (hs:∀ x,foldedSetIterable iter X.env x=pure x:=by intro _;rfl):PS X (.For tg iter body [] pos) (ZmW wi g tb):=by
 intro pins s σ H D I h
 refine wpAny_For (thn (hi pins s σ H _ I h) λv s1 h1=>thn h1 λitv s2 h2=>?_) hs
 obtain ⟨it,fp,tn,J,H2,e,I2,T,st2,f2,W,⟨m0,w0⟩,turn⟩:=h2
 subst e
 have stat:∀ {H':Hp},(∀ b∈fp,H' b=none)->∀ b∈fp,Zg5 X pins H' b:=λhn b hb=>⟨hn b hb,(f2 b hb).2⟩
 refine codeAny_forLoop_any (λn s'=>∃ i σ' H',Inv X pins σ' H' s'/\tn i s'.heap/\(∀ b∈fp,H' b=none)/\W i n σ' H') ?_ m0 ⟨0,σ,H2,I2,st2,λb hb=>(f2 b hb).1,w0⟩
 rintro n s3 ⟨i,σ3,H3,I3,st3,fr3,w3⟩
 rcases turn i n σ3 H3 w3 with ⟨stop,qn⟩ | ⟨go,N,hN,step⟩
 ·refine wpAny_passesOwn hp (thn (T.done X rfl rfl rfl hc i pins s3 σ3 H3 X.xe I3 (stat fr3) st3 stop) λr s4 ⟨hr,I4⟩=>?_)
  subst hr
  exact wpAny_execs_nil ⟨σ3,H3,I4,qn⟩
 ·refine wpAny_passesOwn hp (thn (T.item X rfl rfl rfl hc i pins s3 σ3 H3 X.xe I3 (stat fr3) st3 go) λr s4 ⟨u,hr,h4⟩=>?_)
  subst hr
  refine wpAny_passesOwn hp (thn h4 λ_ s5 ⟨x,H5,I5,r5,y5,st5,fr5⟩=>?_)
  have I5':=I5.pinned (stat fr5) (T.obj _ _ st5)
  refine wpAny_passesOwn hp (thn (hg _ s5 σ3 H5 x u _ I5' r5 (step x H5 y5)) λ_ s6 ⟨σ6,H6,I6,q6⟩=>?_)
  refine wpAny_passesOwn hp (thn (hb _ s6 σ6 H6 _ I6 q6) λf s7 q7=>?_)
  have again:∀ {σ7:St} {H7:Hp},Inv X (pins++ZdQ fp s5.heap) σ7 H7 s7->N σ7 H7->∃ m,m<n/\∃ i σ' H',Inv X pins σ' H' s7/\tn i s7.heap/\(∀ b∈fp,H' b=none)/\W i m σ' H':=λ{σ7 H7} I7 n7=>by
   obtain ⟨m',hm,w7⟩:=hN σ7 H7 n7
   refine ⟨m',hm,i+1,σ7,H7,I7.unpinned,T.keep _ _ _ st5 λb hb o e=>(I7.pin (b,o) (List.mem_append_right _ (List.mem_append_right _ (ZbU hb e)))).1,λb hb=>?_,w7⟩
   obtain ⟨o,e,d⟩:=T.obj _ _ st5 b hb
   exact (I7.pin (b,o) (List.mem_append_right _ (List.mem_append_right _ (ZbU hb e)))).2.1
  cases f with
  | next=>obtain ⟨σ7,H7,I7,n7⟩:=q7;exact again I7 n7
  | cont=>obtain ⟨σ7,H7,I7,n7⟩:=q7;exact again I7 n7
  | brk=>obtain ⟨σ7,H7,I7,q7⟩:=q7;exact ⟨σ7,H7,I7.unpinned,q7⟩
  | ret v=>obtain ⟨x7,σ7,H7,I7,r7,q7⟩:=q7;exact ⟨x7,σ7,H7,I7.unpinned,r7,q7⟩
end
theorem Zce {K:PySem.W.Frag} {a:Addr} {xs:List V} {g:TG} {tb:TS} {D:Ends} {σ:St} {H:Hp} (Pv:Nat->St->Hp->Prop) (h0:Pv 0 σ H) (hl:∀ i σ H,i<=xs.length->Pv i σ H->SqL K H a xs)
  (hs:∀ i x σ H,xs[i]?=some x->Pv i σ H->g x σ H λσ2 H2=>tb { D with nx:=Pv (i+1),ct:=Pv (i+1),bk:=D.nx } σ2 H2) (hd:∀ σ H,Pv xs.length σ H->D.nx σ H) :
  ∃ W:Nat->Nat->St->Hp->Prop,(∃ m,W 0 m σ H)/\∀ i m σ H,W i m σ H ->
   ((Itl K a).stop i H/\D.nx σ H)\/((Itl K a).go i H/\∃ N:St->Hp->Prop,(∀ σ' H',N σ' H'->∃ m',m'<m/\W (i+1) m' σ' H')/\∀ x H',(Itl K a).yld i H x H'->g x σ H' λσ2 H2=>tb { D with nx:=N,ct:=N,bk:=D.nx } σ2 H2):=by
 refine ⟨λi m σ H=>m=xs.length-i/\i<=xs.length/\Pv i σ H,⟨xs.length,by simp,Nat.zero_le _,h0⟩,?_⟩
 rintro i m σ H ⟨rfl,hi,p⟩
 have q:=hl i σ H hi p
 by_cases hlt:i<xs.length
 ·refine .inr ⟨⟨xs,xs[i],q,by simp [hlt]⟩,Pv (i+1),λσ' H' p'=>⟨xs.length-(i+1),by omega,rfl,hlt,p'⟩,λx H' y=>?_⟩
  obtain ⟨e,y⟩:=y
  subst e
  exact hs i x σ _ (y xs q) p
 ·have e:i=xs.length:=by omega
  subst e
  exact .inl ⟨⟨xs,q,Nat.le_refl _⟩,hd σ H p⟩
theorem Za6 {lo:Int} {n:Nat} {g:TG} {tb:TS} {D:Ends} {σ:St} {H:Hp} (Pv:Nat->St->Hp->Prop) (h0:Pv 0 σ H)
  (hs:∀ i σ H,i<n->Pv i σ H->g (.int (lo+i)) σ H λσ2 H2=>tb { D with nx:=Pv (i+1),ct:=Pv (i+1),bk:=D.nx } σ2 H2) (hd:∀ σ H,Pv n σ H->D.nx σ H) :
  ∃ W:Nat->Nat->St->Hp->Prop,(∃ m,W 0 m σ H)/\∀ i m σ H,W i m σ H ->
   ((Itr lo n).stop i H/\D.nx σ H)\/((Itr lo n).go i H/\∃ N:St->Hp->Prop,(∀ σ' H',N σ' H'->∃ m',m'<m/\W (i+1) m' σ' H')/\∀ x H',(Itr lo n).yld i H x H'->g x σ H' λσ2 H2=>tb { D with nx:=N,ct:=N,bk:=D.nx } σ2 H2):=by
 refine ⟨λi m σ H=>m=n-i/\i<=n/\Pv i σ H,⟨n,by simp,Nat.zero_le _,h0⟩,?_⟩
 rintro i m σ H ⟨rfl,hi,p⟩
 by_cases hlt:i<n
 ·refine .inr ⟨hlt,Pv (i+1),λσ' H' p'=>⟨n-(i+1),by omega,rfl,hlt,p'⟩,λx H' y=>?_⟩
  obtain ⟨e,y⟩:=y
  subst e y
  exact hs i σ _ hlt p
 ·have e:i=n:=by omega
  subst e
  exact .inl ⟨Nat.le_refl _,hd σ H p⟩
end L2
namespace L2
open PySem PySem.Spec PyProof.Rows
abbrev R2:=V->V->Hp->VK->Prop
def OpR (X:Cx) (f:Value->Value->Sem Value) (r:R2):Prop:=
 ∀ (pins:List (Addr×Obj)) (s:Shared) (σ:St) (H:Hp) (x y:V) (v u:Value) (Q:VK),Inv X pins σ H s->RelV x v->RelV y u->r x y H Q ->
  wpAny (model X.prog X.w) X.A (f v u) (EP X pins σ Q) X.xe s
def UnR (X:Cx) (f:Value->Sem Value) (r:V->Hp->VK->Prop):Prop:=
 ∀ (pins:List (Addr×Obj)) (s:Shared) (σ:St) (H:Hp) (x:V) (v:Value) (Q:VK),Inv X pins σ H s->RelV x v->r x H Q ->
  wpAny (model X.prog X.w) X.A (f v) (EP X pins σ Q) X.xe s
def Zbc (X:Cx) (f:Value) (r:List V->Hp->VK->Prop):Prop:=
 ∀ (pins:List (Addr×Obj)) (s:Shared) (σ:St) (H:Hp) (xs:List V) (us:List Value) (Q:VK),Inv X pins σ H s->Vals xs us->r xs H Q ->
  wpAny (model X.prog X.w) X.A (call f us) (EP X pins σ Q) X.xe s
def ZmX (X:Cx) (r:V->Hp->(Bool->Hp->Prop)->Prop):Prop:=
 ∀ (pins:List (Addr×Obj)) (s:Shared) (σ:St) (H:Hp) (x:V) (v:Value) (Q:Bool->Hp->Prop),Inv X pins σ H s->RelV x v->r x H Q ->
  wpAny (model X.prog X.w) X.A (truthy v) (TP X pins σ Q) X.xe s
def tOp (r:R2) (ta tb:TE):TE:=λσ H Q=>ta σ H λx H1=>tb σ H1 λy H2=>r x y H2 Q
def tUn (r:V->Hp->VK->Prop) (ta:TE):TE:=λσ H Q=>ta σ H λx H1=>r x H1 Q
def rI (C:Int->Int->Prop) (g:Int->Int->V):R2:=λx y H Q=>∃ i j,x=.int i/\y=.int j/\C i j/\Q (g i j) H
def rI0 (g:Int->Int->V):R2:=λx y H Q=>∃ i j,x=.int i/\y=.int j/\Q (g i j) H
def rU (g:Int->V):V->Hp->VK->Prop:=λx H Q=>∃ i,x=.int i/\Q (g i) H
section
variable {X:Cx} {a b c:Expr} {ta tb tc:TE} {pos:Pos}
theorem Zlt (ha:PE X a ta) (hb:PE X b tb) {pins:List (Addr×Obj)} {s:Shared} {σ:St} {H:Hp} {R:V->V->Hp->Prop} (I:Inv X pins σ H s)
  (h:ta σ H λx H1=>tb σ H1 λy H2=>R x y H2) {Q:Value->Shared->Prop} {f:Value->Value->Sem Value}
  (hf:∀ v u s2 x y H2,Inv X pins σ H2 s2->RelV x v->RelV y u->R x y H2->wpAny (model X.prog X.w) X.A (f v u) Q X.xe s2) :
  wpAny (model X.prog X.w) X.A (eval a X.env) (λv s₁=>wpAny (model X.prog X.w) X.A (eval b X.env) (λu s₂=>wpAny (model X.prog X.w) X.A (f v u) Q X.xe s₂) X.xe s₁) X.xe s:=by
 refine thn (ha pins s σ H _ I h) λv s1 ⟨x,H1,I1,r1,q1⟩=>?_
 refine thn (hb pins s1 σ H1 _ I1 q1) λu s2 ⟨y,H2,I2,r2,q2⟩=>?_
 exact hf v u s2 x y H2 I2 r1 r2 q2
theorem Zaq {op:Operator} {r:R2} (ho:OpR X (binaryOp op) r) (ha:PE X a ta) (hb:PE X b tb):PE X (.BinOp a op b pos) (tOp r ta tb):=by
 intro pins s σ H Q I h
 exact wpAny_BinOp (Zlt ha hb I h λv u s2 x y H2 I2 rx ry q=>ho pins s2 σ H2 x y v u Q I2 rx ry q)
theorem ZbL {op:UnaryOp} {r:V->Hp->VK->Prop} (ho:UnR X (unaryOp op) r) (ha:PE X a ta):PE X (.UnaryOp op a pos) (tUn r ta):=by
 intro pins s σ H Q I h
 exact UnaryOp_ (thn (ha pins s σ H _ I h) λv s1 ⟨x,H1,I1,r1,q1⟩=>ho pins s1 σ H1 x v Q I1 r1 q1)
theorem opI {f:Value->Value->Sem Value} {C:Int->Int->Prop} {g:Int->Int->Int}
  (rule:∀ (i j:Int) (t u:Tok) (s:Shared) (Q:Value->Shared->Prop) (E:Value->Shared->Prop),C i j->Q (.int (g i j) s.toks) { s with toks:=s.toks+1 }->wpAny (model X.prog X.w) X.A (f (.int i t) (.int j u)) Q E s) :
  OpR X f (rI C λi j=>.int (g i j)):=by
 intro pins s σ H x y v u Q I rx ry h
 obtain ⟨i,j,rfl,rfl,hc,q⟩:=h
 obtain ⟨t,rfl⟩:=rx
 obtain ⟨t',rfl⟩:=ry
 exact rule i j t t' s _ _ hc ⟨.int (g i j),H,I.tok _,⟨_,rfl⟩,q⟩
theorem Zlu {f:Value->Value->Sem Value} {g:Int->Int->Int}
  (rule:∀ (i j:Int) (t u:Tok) (s:Shared) (Q:Value->Shared->Prop) (E:Value->Shared->Prop),Q (.int (g i j) s.toks) { s with toks:=s.toks+1 }->wpAny (model X.prog X.w) X.A (f (.int i t) (.int j u)) Q E s) :
  OpR X f (rI0 λi j=>.int (g i j)):=by
 intro pins s σ H x y v u Q I rx ry h
 obtain ⟨i,j,rfl,rfl,q⟩:=h
 obtain ⟨t,rfl⟩:=rx
 obtain ⟨t',rfl⟩:=ry
 exact rule i j t t' s _ _ ⟨.int (g i j),H,I.tok _,⟨_,rfl⟩,q⟩
theorem Zlg {f:Value->Value->Sem Value} {g:Int->Int->Bool}
  (rule:∀ (i j:Int) (t u:Tok) (s:Shared) (Q:Value->Shared->Prop) (E:Value->Shared->Prop),Q (.bool (g i j)) s->wpAny (model X.prog X.w) X.A (f (.int i t) (.int j u)) Q E s) :
  OpR X f (rI0 λi j=>.bl (g i j)):=by
 intro pins s σ H x y v u Q I rx ry h
 obtain ⟨i,j,rfl,rfl,q⟩:=h
 obtain ⟨t,rfl⟩:=rx
 obtain ⟨t',rfl⟩:=ry
 exact rule i j t t' s _ _ ⟨.bl (g i j),H,I,rfl,q⟩
def ZnK (i j:Int):Prop:=0<j/\j<1073741824
def ZmY (i j:Int):Prop:=j≠0/\j.natAbs<1073741824
def Zmj (i j:Int):Prop:=0<=j/\j<=1000000/\i.natAbs<2 ^ 64
def CMul (i j:Int):Prop:=(-(2 ^ 64)<i/\i<2 ^ 64)\/(-(2 ^ 64)<j/\j<2 ^ 64)
theorem CMul.ok {i j:Int} (h:CMul i j):IntMulOk i j:=by
 rcases h with ⟨h1,h2⟩ | ⟨h1,h2⟩
 ·exact .of_left (intBits_le_64 h1 h2)
 ·exact .of_right (intBits_le_64 h1 h2)
theorem Zfp (k:Nat):(0:Int)<=2 ^ k:=by
 rw [two_pow_cast]
 exact Int.natCast_nonneg _
theorem ZaH:OpR X (binaryOp .Add) (rI0 λi j=>.int (i+j)):=Zlu λ_ _ _ _ _ _ _ q=>add_int q
theorem Zb4:OpR X (binaryOp .Sub) (rI0 λi j=>.int (i-j)):=Zlu λ_ _ _ _ _ _ _ q=>sub_int q
theorem ZdR:OpR X (binaryOp .Mult) (rI CMul λi j=>.int (i * j)):=opI λ_ _ _ _ _ _ _ hc q=>mul_int q hc.ok
theorem ZdS:OpR X (binaryOp .Mod) (rI (λ_ j=>0<j) λi j=>.int (i % j)):=opI λi j _ _ _ _ _ hc q=>by
 have h1:(0:Int)<j:=hc
 exact mod_int' (by omega) (by rw [Int.fmod_eq_emod_of_nonneg i (by omega)];exact q)
theorem Zb5:OpR X (binaryOp .Pow) (rI Zmj λi j=>.int (i ^ j.toNat)):=opI λ_ _ _ _ _ _ _ hc q=>pow_int_small hc.1 hc.2.1 hc.2.2 q
theorem ZjX:OpR X (binaryOp .LShift) (rI Zmj λi j=>.int (i * 2 ^ j.toNat)):=opI λ_ _ _ _ _ _ _ hc q=>lshift_int_small hc.1 hc.2.1 hc.2.2 q
theorem ZjY:OpR X (binaryOp .RShift) (rI (λ_ j=>0<=j) λi j=>.int (i / 2 ^ j.toNat)):=opI λi j _ _ _ _ _ hc q=>
 rshift_int hc (by rw [Int.fdiv_eq_ediv_of_nonneg i (Zfp _)];exact q)
theorem ZjZ:OpR X (binaryOp .BitAnd) (rI0 λi j=>.int (Builtin.bitAnd i j)):=Zlu λ_ _ _ _ _ _ _ q=>and_int q
end
def Zmk:V->V->Bool
 | .non,.non=>true | .non,.int _=>true | .int _,.non=>true | .non,.bl _=>true | .bl _,.non=>true | .non,.str _=>true | .str _,.non=>true
 | .int _,.int _=>true | .bl _,.bl _=>true | .str _,.str _=>true | .byt _,.byt _=>true
 | .int _,.str _=>true | .str _,.int _=>true | .bl _,.str _=>true | .str _,.bl _=>true
 | _,_=>false
def rEq:R2:=λx y H Q=>Zmk x y=true/\Q (.bl (decide (x=y))) H
def rNe:R2:=λx y H Q=>Zmk x y=true/\Q (.bl (!decide (x=y))) H
theorem ZfU {i j:Int}:decide (V.int i=V.int j)=(i == j):=by
 rw [Bool.eq_iff_iff]
 simp
theorem Zh1 {i j:Bool}:decide (V.bl i=V.bl j)=(i == j):=by
 rw [Bool.eq_iff_iff]
 simp
theorem ZfV {i j:Str}:decide (V.str i=V.str j)=(i == j):=by
 rw [Bool.eq_iff_iff]
 simp
theorem ZfW {i j:Array UInt8}:decide (V.byt i=V.byt j)=(i.toList == j.toList):=by
 rw [Bool.eq_iff_iff]
 cases i
 cases j
 simp
section
variable {X:Cx} {a b c:Expr} {ta tb tc:TE} {pos:Pos}
theorem ZaJ {pins:List (Addr×Obj)} {σ:St} {H:Hp} {s:Shared} {Q:VK} {k k':Bool} (I:Inv X pins σ H s) (q:Q (.bl k) H) (e:k=k'):EP X pins σ Q (.bool k') s:=by
 subst e
 exact ⟨.bl k,H,I,rfl,q⟩
theorem Zbv:OpR X (compareOp .Eq) rEq:=by
 intro pins s σ H x y v u Q I rx ry h
 obtain ⟨hs,q⟩:=h
 cases x with
 | non=>
  cases rx
  cases y with
  | non=>cases ry;exact PySem.EqNone.eq_none_none (ZaJ I q (by simp))
  | bl j=>cases ry;exact PySem.EqNone.eq_none_bool (ZaJ I q (by simp))
  | int j=>obtain ⟨t',rfl⟩:=ry;exact PySem.EqNone.eq_none_int (ZaJ I q (by simp))
  | str j=>obtain ⟨t',rfl⟩:=ry;exact PySem.EqNone.eq_none_str (ZaJ I q (by simp))
  | _=>exact absurd (show false=true from hs) Bool.false_ne_true
 | bl i=>
  cases rx
  cases y with
  | non=>cases ry;exact PySem.EqNone.eq_bool_none (ZaJ I q (by simp))
  | bl j=>cases ry;exact eq_bool (ZaJ I q Zh1)
  | str j=>obtain ⟨t',rfl⟩:=ry;exact PySem.EqMixed.eq_bool_str (ZaJ I q (by simp))
  | _=>exact absurd (show false=true from hs) Bool.false_ne_true
 | int i=>
  obtain ⟨t,rfl⟩:=rx
  cases y with
  | non=>cases ry;exact PySem.EqNone.eq_int_none (ZaJ I q (by simp))
  | int j=>obtain ⟨t',rfl⟩:=ry;exact eq_int (ZaJ I q ZfU)
  | str j=>obtain ⟨t',rfl⟩:=ry;exact PySem.EqMixed.eq_int_str (ZaJ I q (by simp))
  | _=>exact absurd (show false=true from hs) Bool.false_ne_true
 | str i=>
  obtain ⟨t,rfl⟩:=rx
  cases y with
  | non=>cases ry;exact PySem.EqNone.eq_str_none (ZaJ I q (by simp))
  | bl j=>cases ry;exact PySem.EqMixed.eq_str_bool (ZaJ I q (by simp))
  | int j=>obtain ⟨t',rfl⟩:=ry;exact PySem.EqMixed.eq_str_int (ZaJ I q (by simp))
  | str j=>obtain ⟨t',rfl⟩:=ry;exact eq_str (ZaJ I q ZfV)
  | _=>exact absurd (show false=true from hs) Bool.false_ne_true
 | byt i=>
  obtain ⟨t,rfl⟩:=rx
  cases y with
  | byt j=>obtain ⟨t',rfl⟩:=ry;exact PySem.W.eq_bytes (ZaJ I q ZfW)
  | _=>exact absurd (show false=true from hs) Bool.false_ne_true
 | _=>cases y <;> exact absurd (show false=true from hs) Bool.false_ne_true
theorem ZfX:OpR X (compareOp .NotEq) rNe:=by
 intro pins s σ H x y v u Q I rx ry h
 obtain ⟨hs,q⟩:=h
 cases x with
 | non=>
  cases rx
  cases y with
  | non=>cases ry;exact PySem.EqNone.ne_none_none (ZaJ I q (by simp))
  | bl j=>cases ry;exact PySem.EqNone.ne_none_bool (ZaJ I q (by simp))
  | int j=>obtain ⟨t',rfl⟩:=ry;exact PySem.EqNone.ne_none_int (ZaJ I q (by simp))
  | str j=>obtain ⟨t',rfl⟩:=ry;exact PySem.EqNone.ne_none_str (ZaJ I q (by simp))
  | _=>exact absurd (show false=true from hs) Bool.false_ne_true
 | bl i=>
  cases rx
  cases y with
  | non=>cases ry;exact PySem.EqNone.ne_bool_none (ZaJ I q (by simp))
  | bl j=>cases ry;exact ne_bool (ZaJ I q (congrArg not Zh1))
  | str j=>obtain ⟨t',rfl⟩:=ry;exact PySem.EqMixed.ne_bool_str (ZaJ I q (by simp))
  | _=>exact absurd (show false=true from hs) Bool.false_ne_true
 | int i=>
  obtain ⟨t,rfl⟩:=rx
  cases y with
  | non=>cases ry;exact PySem.EqNone.ne_int_none (ZaJ I q (by simp))
  | int j=>obtain ⟨t',rfl⟩:=ry;exact ne_int (ZaJ I q (congrArg not ZfU))
  | str j=>obtain ⟨t',rfl⟩:=ry;exact PySem.EqMixed.ne_int_str (ZaJ I q (by simp))
  | _=>exact absurd (show false=true from hs) Bool.false_ne_true
 | str i=>
  obtain ⟨t,rfl⟩:=rx
  cases y with
  | non=>cases ry;exact PySem.EqNone.ne_str_none (ZaJ I q (by simp))
  | bl j=>cases ry;exact PySem.EqMixed.ne_str_bool (ZaJ I q (by simp))
  | int j=>obtain ⟨t',rfl⟩:=ry;exact PySem.EqMixed.ne_str_int (ZaJ I q (by simp))
  | str j=>obtain ⟨t',rfl⟩:=ry;exact ne_str (ZaJ I q (congrArg not ZfV))
  | _=>exact absurd (show false=true from hs) Bool.false_ne_true
 | byt i=>
  obtain ⟨t,rfl⟩:=rx
  cases y with
  | byt j=>obtain ⟨t',rfl⟩:=ry;exact PySem.W.ne_bytes (ZaJ I q (congrArg not ZfW))
  | _=>exact absurd (show false=true from hs) Bool.false_ne_true
 | _=>cases y <;> exact absurd (show false=true from hs) Bool.false_ne_true
theorem Zeq:OpR X (compareOp .Lt) (rI0 λi j=>.bl (decide (i<j))):=Zlg λ_ _ _ _ _ _ _ q=>lt_int q
theorem Zlv:OpR X (compareOp .LtE) (rI0 λi j=>.bl (decide (i<=j))):=Zlg λ_ _ _ _ _ _ _ q=>le_int q
theorem ZiD:OpR X (compareOp .Gt) (rI0 λi j=>.bl (decide (j<i))):=Zlg λ_ _ _ _ _ _ _ q=>gt_int q
theorem ZiE:OpR X (compareOp .GtE) (rI0 λi j=>.bl (decide (j<=i))):=Zlg λ_ _ _ _ _ _ _ q=>ge_int q
theorem ZeQ:OpR X (compareOp .Is) (λx y H Q=>y=.non/\Q (.bl (decide (x=.non))) H):=by
 intro pins s σ H x y v u Q I rx ry h
 obtain ⟨rfl,q⟩:=h
 cases ry
 refine is_none_gen (ZaJ I q ?_)
 cases x <;> first
  | (cases rx;rfl)
  | (obtain ⟨t,rfl⟩:=rx;rfl)
def ZmZ:HO->Bool
 | .lst _=>true
 | .ins _ _ _=>true
 | _=>false
theorem Zau (b:Expr) {op:CmpOp} (h:op≠.In:=by decide) (h2:op≠.NotIn:=by decide):behindInMarks op b=false:=by
 have e1:(op == CmpOp.In)=false:=by cases op <;> first | rfl | exact absurd rfl h
 have e2:(op == CmpOp.NotIn)=false:=by cases op <;> first | rfl | exact absurd rfl h2
 cases b <;> simp [behindInMarks,e1,e2]
theorem ZaV {op:CmpOp} {r:R2} (ho:OpR X (compareOp op) r) (ha:PE X a ta) (hb:PE X b tb) (hm:behindInMarks op b=false):PE X (.Compare a [op] [b] pos) (tOp r ta tb):=by
 intro pins s σ H Q I h
 exact wpAny_Compare1 (Zlt ha hb I h λv u s2 x y H2 I2 rx ry q=>ho pins s2 σ H2 x y v u Q I2 rx ry q) hm
def Zlw (t:TE):TT:=λσ H Q=>t σ H λx H'=>∃ k,x=.bl k/\Q k H'
theorem Zam {op:CmpOp} {r:R2} (ho:OpR X (compareOp op) r) (ha:PE X a ta) (hb:PE X b tb) (hm:behindInMarks op b=false):PT X (.Compare a [op] [b] pos) (Zlw (tOp r ta tb)):=by
 intro pins s σ H Q I h
 refine wpAny_isTrue_Compare1 (thn (ha pins s σ H _ I h) λv s1 ⟨x,H1,I1,r1,q1⟩=>thn (hb pins s1 σ H1 _ I1 q1) λu s2 ⟨y,H2,I2,r2,q2⟩=>
  thn (ho pins s2 σ H2 x y v u _ I2 r1 r2 q2) λc s3 ⟨z,H3,I3,r3,k,e,q3⟩=>?_) hm
 subst e
 cases r3
 exact wpAny_truthy_bool ⟨H3,I3,q3⟩
def Zj0 (r r':R2) (ta tb tc:TE):TE:=λσ H Q=>ta σ H λx H1=>tb σ H1 λy H2=>r x y H2 λz H3=>∃ k,z=.bl k /\
 (if k=true then tc σ H3 λw' H4=>r' y w' H4 Q else Q (.bl false) H3)
theorem Zhb {op op':CmpOp} {r r':R2} (ho:OpR X (compareOp op) r) (ho':OpR X (compareOp op') r') (ha:PE X a ta) (hb:PE X b tb) (hc:PE X c tc)
  (hm:lastMarks [op,op'] [b,c]=false:=by with_unfolding_all rfl):PE X (.Compare a [op,op'] [b,c] pos) (Zj0 r r' ta tb tc):=by
 intro pins s σ H Q I h
 refine Compare_chain (thn (ha pins s σ H _ I h) λv s1 ⟨x,H1,I1,r1,q1⟩=>chain_link (thn (hb pins s1 σ H1 _ I1 q1) λu s2 ⟨y,H2,I2,r2,q2⟩=>
  thn (ho pins s2 σ H2 x y v u _ I2 r1 r2 q2) λd s3 ⟨z,H3,I3,r3,k,e,q3⟩=>?_)) hm
 subst e
 cases r3
 refine wpAny_truthy_bool ?_
 cases k with
 | false=>exact ite_ff ⟨.bl false,H3,I3,rfl,q3⟩
 | true=>exact ite_tt (chain_last (thn (hc pins s3 σ H3 _ I3 q3) λw' s4 ⟨z',H4,I4,r4,q4⟩=>ho' pins s4 σ H4 y z' u w' Q I4 r2 r4 q4))
def Zml (K:PySem.W.Frag) (x:V) (H:Hp) (k:Bool):Prop:=
 match x with
 | .non=>k=false
 | .bl b=>k=b
 | .int i=>k=(i != 0)
 | .str y=>y.length<=sizeLine/\k=((y.length:Int) != 0)
 | .byt y=>y.size<=sizeLine/\k=((y.size:Int) != 0)
 | .ref p=>(∃ xs,SqL K H p xs/\k=!xs.isEmpty)\/(∃ xs,SqT K H p xs/\k=!xs.isEmpty)\/∃ kvs,H p=some (.dK kvs)/\k=!kvs.isEmpty
 | _=>False
theorem Zfq {κ:Type} {kvs:List (κ×V)} {vs:List (κ×Value)} (r:KV kvs vs):(!vs.isEmpty)=!kvs.isEmpty:=by
 cases r <;> rfl
theorem Zde {xs:List V} {its:List Value} (r:Vals xs its):(!its.toArray.isEmpty)=!xs.isEmpty:=by
 cases r <;> simp
theorem ZdT:(sizeLine:Nat)<2 ^ 63:=by rw [sizeLine_eq];decide
theorem Zj1:ZmX X (λx H Q=>∃ k,Zml X.K x H k/\Q k H):=by
 intro pins s σ H x v Q I rx h
 obtain ⟨k,e,q⟩:=h
 have hl:=ZdT
 have hs:sizeLine=16777216:=sizeLine_eq
 cases x with
 | non=>
  cases rx
  have e':k=false:=e
  subst e'
  exact truthy_none ⟨H,I,q⟩
 | bl b=>
  cases rx
  have e':k=b:=e
  subst e'
  exact wpAny_truthy_bool ⟨H,I,q⟩
 | int i=>
  obtain ⟨t,rfl⟩:=rx
  have e':k=(i != 0):=e
  subst e'
  exact PySem.P.truthy_int ⟨H,I,q⟩
 | str y=>
  obtain ⟨t,rfl⟩:=rx
  obtain ⟨hy,e'⟩:y.length<=sizeLine/\k=((y.length:Int) != 0):=e
  subst e'
  exact PySem.P.truthy_str (by omega) ⟨H,I.tok _,q⟩
 | byt y=>
  obtain ⟨t,rfl⟩:=rx
  obtain ⟨hy,e'⟩:y.size<=sizeLine/\k=((y.size:Int) != 0):=e
  subst e'
  exact PySem.W.truthy_bytes (by omega) ⟨H,I.tok _,q⟩
 | ref p=>
  cases rx
  have e':(∃ xs,SqL X.K H p xs/\k=!xs.isEmpty)\/(∃ xs,SqT X.K H p xs/\k=!xs.isEmpty)\/∃ kvs,H p=some (.dK kvs)/\k=!kvs.isEmpty:=e
  rcases e' with ⟨xs,hx,e'⟩ | ⟨xs,hx,e'⟩ | ⟨kvs,hx,e'⟩
  ·subst e'
   obtain ⟨its,r,pl,hz⟩:=I.list hx
   have hlen:=r.length
   exact wpAny_truthy_list pl.isList (by simp only [List.size_toArray];omega) ⟨H,I.tok _,by rw [Zde r];exact q⟩
  ·subst e'
   obtain ⟨its,r,pl,hz⟩:=I.tuple hx
   have hlen:=r.length
   exact truthy_tuple pl (by simp only [List.size_toArray];omega) ⟨H,I.tok _,by rw [Zde r];exact q⟩
  ·subst e'
   obtain ⟨hz,hS,vs,r,m⟩:kvs.length<=sizeLine/\(p == sysModules)=false/\∃ vs,KV kvs vs/\s.heap.DictOf (ZaY X.prog X.w) p vs:=I.hok p _ hx
   have hlen:kvs.length=vs.length:=Paired.length r
   exact wpAny_truthy_dict hS m (by omega) ⟨H,I.tok _,by rw [Zfq r];exact q⟩
 | _=>exact (show False from e).elim
theorem ZeR (ha:PE X a ta) (he:∀ whole,isTrue a X.env whole=(do let v <- whole;standAt a.pos;holding [v] (truthy v))) :
  PT X a (λσ H Q=>ta σ H λx H'=>∃ k,Zml X.K x H' k/\Q k H'):=by
 intro pins s σ H Q I h
 exact isTrue_plain (thn (ha pins s σ H _ I h) λv s1 ⟨x,H1,I1,r1,q1⟩=>Zj1 pins s1 σ H1 x v Q I1 r1 q1) (he _)
def Zlh (b:Expr):Prop:=∀ o i,subscripted b false o i=operate [o,i] (getItem o i)
theorem Zhc {x:V} {us:List Value} (r:Vals [x] us):∃ u,us=[u]/\RelV x u:=by
 cases r with
 | cons r1 r2=>cases r2;exact ⟨_,rfl,r1⟩
theorem Zj2 {x y:V} {us:List Value} (r:Vals [x,y] us):∃ u w',us=[u,w']/\RelV x u/\RelV y w':=by
 cases r with
 | cons r1 r2=>
  cases r2 with
  | cons r3 r4=>cases r4;exact ⟨_,_,rfl,r1,r3⟩
theorem ZcQ (hc:X.calm=true):Zbc X (.builtin "max") (λxs H Q=>∃ i j,xs=[.int i,.int j]/\Q (.int (if j > i then j else i)) H):=by
 intro pins s σ H xs us Q I r h
 obtain ⟨i,j,rfl,q⟩:=h
 obtain ⟨u,w',rfl,⟨t,rfl⟩,⟨t',rfl⟩⟩:=Zj2 r
 refine max_two_ints (I.ok.hd hc) λh' tk k=>⟨_,H,I.kept k,?_,q⟩
 by_cases hj:j > i
 ·rw [if_pos hj,if_pos hj];exact ⟨_,rfl⟩
 ·rw [if_neg hj,if_neg hj];exact ⟨_,rfl⟩
theorem ZdU (hc:X.calm=true):Zbc X (.builtin "min") (λxs H Q=>∃ i j,xs=[.int i,.int j]/\Q (.int (if j<i then j else i)) H):=by
 intro pins s σ H xs us Q I r h
 obtain ⟨i,j,rfl,q⟩:=h
 obtain ⟨u,w',rfl,⟨t,rfl⟩,⟨t',rfl⟩⟩:=Zj2 r
 refine min_two_ints (I.ok.hd hc) λh' tk k=>⟨_,H,I.kept k,?_,q⟩
 by_cases hj:j<i
 ·rw [if_pos hj,if_pos hj];exact ⟨_,rfl⟩
 ·rw [if_neg hj,if_neg hj];exact ⟨_,rfl⟩
theorem Za0:Zbc X (.type "int") (λxs H Q=>(∃ i,xs=[.int i]/\Q (.int i) H)\/∃ k,xs=[.bl k]/\Q (.int (if k then 1 else 0)) H):=by
 intro pins s σ H xs us Q I r h
 rcases h with ⟨i,rfl,q⟩ | ⟨k,rfl,q⟩
 ·obtain ⟨u,rfl,t,rfl⟩:=Zhc r
  exact call_int_int ⟨.int i,H,I,⟨_,rfl⟩,q⟩
 ·obtain ⟨u,rfl,r1⟩:=Zhc r
  cases r1
  exact call_int_bool ⟨.int (if k then 1 else 0),H,I.tok _,⟨_,rfl⟩,q⟩
def ZnL (K:PySem.W.Frag) (x:V) (H:Hp) (n:Nat):Prop:=
 match x with
 | .str y=>y.length<=sizeLine/\n=y.length
 | .byt y=>y.size<=sizeLine/\n=y.size
 | .ref p=>(∃ xs,SqL K H p xs/\n=xs.length)\/∃ xs,SqT K H p xs/\n=xs.length
 | _=>False
end
end L2
namespace L2
open PySem PySem.Spec PyProof.Rows
structure ObjM (h:Heap) (x dx C:Addr) (mA:Str->Option Value):Prop where
 obj:h.get? x=some (PySem.W.instObj C dx)
 ns:h.Ns1 dx mA
 ne:dx≠x
theorem ZfY {h:Heap} {dx:Addr} {mA:Str->Option Value} (n:h.Ns1 dx mA):∃ od,h.get? dx=some od/\∀ name,PySem.W.lookIn name od=some (mA name):=by
 obtain ⟨o,es,ep,ho,hd,hk,_,hm⟩:=n
 refine ⟨o,ho,λname=>?_⟩
 have e:=hm name
 unfold nsFind findBy at e
 rw [<-Array.find?_toList] at e
 unfold PySem.W.lookIn
 rw [hd]
 dsimp only
 split
 ·rename_i y q
  rw [q] at e
  exact congrArg some e
 ·rename_i q
  rw [q] at e
  have a:es.toList.any (·.refKey)=false:=by
   rw [List.any_eq_false]
   intro y hy
   obtain ⟨z,t,hkey⟩:=hk y (Array.mem_toList_iff.mp hy)
   simp [DictEntry.refKey,hkey]
  have a':¬ es.toList.any (·.refKey)=true:=by rw [a];exact Bool.false_ne_true
  rw [if_neg a']
  exact congrArg some e
theorem ObjM.look {h:Heap} {x dx C:Addr} {mA:Str->Option Value} (I:ObjM h x dx C mA):∃ od,PySem.W.InstAt h x (PySem.W.instObj C dx) C (some od)/\∀ name,PySem.W.lookIn name od=some (mA name):=
 let ⟨od,ho,hl⟩:=ZfY I.ns
 ⟨od,⟨I.obj,rfl,rfl,ho⟩,hl⟩
section
variable {prog:Program} {w:World} {A:Around} {E:Value->Shared->Prop} {s:Shared} {K:PySem.W.Frag} {x dx C f:Addr} {mA:Str->Option Value} {name:Str} {v:Value}
end
def Zlx (f:Str) (v:V):List (Str×V)->List (Str×V)
 | []=>[(f,v)]
 | (g,x)::r=>if g=f then (g,v)::r else (g,x)::Zlx f v r
theorem RelO.some_of {v:V} {o:Option Value} (r:RelO (some v) o):∃ u,o=some u/\RelV v u:=by
 cases o with
 | none=>exact (show False from r).elim
 | some u=>exact ⟨u,rfl,r⟩
section
variable {P:Program} {w:World} {H H':Hp} {h h':Heap} {a C dx:Addr} {fs fs':List (Str×V)}
theorem ZiF (hok:HOk P w H h) (e:H a=some (.ins C dx fs)):∃ mA,ObjM h a dx C mA/\(∀ f,RelO (fs.lookup f) (mA f))/\PySem.Within mA (fs.map (·.1))/\fs.length<=1000/\H dx=some (.own a):=by
 obtain ⟨d,z,ne,ob,mA,n,r,q⟩:=(show ObjOk P w H h a (.ins C dx fs) from hok a _ e)
 exact ⟨mA,⟨ob,n,ne⟩,r,q,z,d⟩
end
structure Cls (K:PySem.W.Frag) (C:Addr):Prop where
 pg:PySem.W.plainGet K C Str.empty=true
 hd:PySem.W.hasDictIn K C=true
 po:PySem.W.plainOver K C=true
 sa:PySem.W.findIn K (.ref C) "__setattr__" = some (some (.builtin "object.__setattr__"))
theorem Cls.get {K:PySem.W.Frag} {C:Addr} (c:Cls K C) (f:Str):PySem.W.plainGet K C f=true:=c.pg
def ZfZ (K:PySem.W.Frag) (C:Addr) (f:Str):Prop:=PySem.W.findIn K (.ref C) f=some none
structure Con (K:PySem.W.Frag) (C:Addr) (f:Str) (v:V) (u:Value):Prop where
 at_:PySem.W.findIn K (.ref C) f=some (some u)
 rel:RelV v u
 get:PySem.W.specialIn K u "__get__" = some none
 cp:PySem.W.copiedNames.contains f=false
structure ZnM (K:PySem.W.Frag) (C:Addr) (m:Str) (f:Addr):Prop where
 at_:PySem.W.findIn K (.ref C) m=some (some (.ref f))
 fn:PySem.W.isFn K (.ref f)=true
 kp:PySem.W.keepIn K (.ref f)=true
section
variable {X:Cx} {pins:List (Addr×Obj)} {σ:St} {H:Hp} {s:Shared} {a C dx:Addr} {fs:List (Str×V)} {f:Str} {v:V} {A:Around} {E:Value->Shared->Prop}
end
def ZnN (K:PySem.W.Frag) (ta:TE) (f:Str):TE:=λσ H Q=>ta σ H λx H1=>∃ a C dx fs v,x=.ref a/\H1 a=some (.ins C dx fs)/\Cls K C/\ZfZ K C f/\fs.lookup f=some v/\Q v H1
def ZnO (K:PySem.W.Frag) (ta:TE) (f:Str):TE:=λσ H Q=>ta σ H λx H1=>∃ a C dx fs v u,x=.ref a/\H1 a=some (.ins C dx fs)/\Cls K C/\Con K C f v u/\fs.lookup f=none/\Q v H1
def ZnP (K:PySem.W.Frag) (ta tv:TE) (f:Str):TS:=λD σ H=>tv σ H λy H1=>ta σ H1 λx H2=>∃ a C dx fs,x=.ref a/\H2 a=some (.ins C dx fs)/\Cls K C/\ZfZ K C f/\fs.length<1000 /\
 D.nx σ (upd H2 a (.ins C dx (Zlx f y fs)))
def ZnQ (X:Cx) (op:Operator) (rd:V->V->Hp->VK->Prop):Prop:=
 ∀ (pins:List (Addr×Obj)) (s:Shared) (σ:St) (H:Hp) (x y:V) (u v:Value) (Q:VK),Inv X pins σ H s->RelV x u->RelV y v->rd x y H Q->wpAny (model X.prog X.w) X.A (inplaceOp op u v) (EP X pins σ Q) X.xe s
def Zly (K:PySem.W.Frag) (ta tv:TE) (rd:V->V->Hp->VK->Prop) (f:Str):TS:=λD σ H=>ta σ H λx H1=>∃ a C dx fs v,x=.ref a/\H1 a=some (.ins C dx fs)/\Cls K C/\ZfZ K C f/\fs.lookup f=some v /\
 tv σ H1 λy H2=>rd v y H2 λz H3=>∃ dx' fs',H3 a=some (.ins C dx' fs')/\fs'.length<1000/\D.nx σ (upd H3 a (.ins C dx' (Zlx f z fs')))
section
variable {X:Cx} {o e value:Expr} {f:Str} {pos pos' tpos:Pos} {ta tv:TE}
def ZnR:V->V->Hp->VK->Prop:=λx y H Q=>∃ i j,x=.int i/\y=.int j/\Q (.int (i+j)) H
def ZnS:V->V->Hp->VK->Prop:=λx y H Q=>∃ i j,x=.int i/\y=.int j/\Q (.int (i-j)) H
end
section
variable {X:Cx} {pins:List (Addr×Obj)} {σ:St} {H:Hp} {s:Shared} {A:Around} {E:Value->Shared->Prop} {Q:Value->Shared->Prop} {c:Value} {b:Bool}
inductive Zfr (K:PySem.W.Frag) (H:Hp):V->Value->Prop where
 | non:Zfr K H .non (.type "NoneType")
 | bl (x:Bool):Zfr K H (.bl x) (.type "bool")
 | int (i:Int):Zfr K H (.int i) (.type "int")
 | str (x:Str):Zfr K H (.str x) (.type "str")
 | flt (x:UInt64):Zfr K H (.flt x) (.type "float")
 | lst {a:Addr} {xs:List V} (e:H a=some (.lst xs)):Zfr K H (.ref a) (.type "list")
 | frz {a:Addr} {o:Obj} {xs:List V} (e:H a=some (.frz o (.lst xs))):Zfr K H (.ref a) (.type "list")
 | tup {a:Addr} {xs:List V} (e:H a=some (.tup xs)):Zfr K H (.ref a) (.type "tuple")
 | dK {a:Addr} {kvs:List (Key×V)} (e:H a=some (.dK kvs)):Zfr K H (.ref a) (.type "dict")
 | dT {a:Addr} {kvs:List (List Key×V)} (e:H a=some (.dT kvs)):Zfr K H (.ref a) (.type "dict")
 | ins {a C dx:Addr} {fs:List (Str×V)} (e:H a=some (.ins C dx fs)) (cl:Cls K C) (ha:PySem.W.findIn K (.ref C) "__class__" = some (some (.builtin "object.__class__")))
   (hn:PySem.W.specialIn K (.builtin "object.__class__") "__get__" = some (some (.builtin "getset_descriptor.__get__"))) (htk:PySem.W.takesIn K (.builtin "object.__class__")=some true)
   (hm:PySem.W.mroIn K C (.type "object")=some true):Zfr K H (.ref a) (.ref C)
theorem Zf0 {x:V} {u t:Value} (I:Inv X pins σ H s) (rx:RelV x u) (ty:Zfr X.K H x t) (e:PySem.W.kitOne X.K t c=some b) (h:∀ tk,Q (.bool b) { s with toks:=tk }) :
  wpAny (model X.prog X.w) A (call (.builtin "isinstance") [u,c]) Q E s:=by
 cases ty with
 | non=>cases (show u=Value.none from rx);exact PySem.W.kia_one PySem.W.kitx_none I.kIn True.intro e (λz=>nomatch z) h
 | bl y=>cases (show u=Value.bool y from rx);exact PySem.W.kia_one PySem.W.kitx_bool I.kIn True.intro e (λz=>nomatch z) h
 | int i=>obtain ⟨t,q⟩:=(show ∃ t,u=Value.int i t from rx);cases q;exact PySem.W.kia_one PySem.W.kitx_int I.kIn True.intro e (λz=>nomatch z) h
 | str y=>obtain ⟨t,q⟩:=(show ∃ t,u=Value.str y t from rx);cases q;exact PySem.W.kia_one PySem.W.kitx_str I.kIn True.intro e (λz=>nomatch z) h
 | flt y=>obtain ⟨t,q⟩:=(show ∃ t,u=Value.float y t from rx);cases q;exact PySem.W.kia_one PySem.W.kitx_float I.kIn True.intro e (λz=>nomatch z) h
 | @lst a xs ea=>
  cases (show u=Value.ref a from rx)
  obtain ⟨_,_,n,_,h1⟩:=(show ObjOk X.prog X.w H s.heap a (.lst xs) from I.hok a _ ea)
  exact PySem.W.kia_one PySem.W.kitx_list I.kIn ⟨_,h1,rfl⟩ e (λz=>nomatch z) h
 | @frz a ob xs ea=>
  cases (show u=Value.ref a from rx)
  obtain ⟨_,_,_,n,_,h1⟩:=(show ObjOk X.prog X.w H s.heap a (.frz ob (.lst xs)) from I.hok a _ ea)
  exact PySem.W.kia_one PySem.W.kitx_list I.kIn ⟨_,h1,rfl⟩ e (λz=>nomatch z) h
 | @tup a xs ea=>
  cases (show u=Value.ref a from rx)
  obtain ⟨_,_,_,p⟩:=(show ObjOk X.prog X.w H s.heap a (.tup xs) from I.hok a _ ea)
  obtain ⟨o,h1,h2,_⟩:=p
  exact PySem.W.kia_one PySem.W.kitx_tuple I.kIn ⟨o,h1,h2⟩ e (λz=>nomatch z) h
 | @dK a kvs ea=>
  cases (show u=Value.ref a from rx)
  obtain ⟨_,_,vs,_,p⟩:=(show ObjOk X.prog X.w H s.heap a (.dK kvs) from I.hok a _ ea)
  obtain ⟨o,es,ep,h1,h2,_⟩:=p
  exact PySem.W.kia_one PySem.W.kitx_dict I.kIn ⟨o,h1,h2.1⟩ e (λz=>nomatch z) h
 | @dT a kvs ea=>
  cases (show u=Value.ref a from rx)
  obtain ⟨_,_,xs,_,o,es,ep,h1,h2,_⟩:=(show ObjOk X.prog X.w H s.heap a (.dT kvs) from I.hok a _ ea)
  exact PySem.W.kia_one PySem.W.kitx_dict I.kIn ⟨o,h1,h2.1⟩ e (λz=>nomatch z) h
 | @ins a C dx fs ea cl ha hn htk hm=>
  cases (show u=Value.ref a from rx)
  obtain ⟨mA,O,_⟩:=ZiF I.hok ea
  obtain ⟨od,J,_⟩:=O.look
  exact PySem.W.kia_one (PySem.W.kitx_own (cl.get _) cl.hd ha hn htk hm) I.kIn J e (λz=>nomatch z) h
end
end L2
namespace L2
open PySem PySem.Spec PyProof.Rows
structure Room (k:Nat) (A:Around):Prop where
 hd:A.handled=none
 dp:A.depth+3 * k+5<recursionLimit
 un:A.units+16 * k+200<cLine
theorem Room.mono {j k:Nat} {A:Around} (r:Room k A) (h:j<=k):Room j A:=⟨r.hd,by have:=r.dp;omega,by have:=r.un;omega⟩
theorem Room.deeper {k:Nat} {A:Around} (r:Room (k+1) A) (env:Env):Room k (A.deeper env):=
 ⟨r.hd,by have:=r.dp;show A.depth+1+3 * k+5<_;omega,by have:=r.un;show A.units+3+16 * k+200<_;omega⟩
theorem Room.depth {k:Nat} {A:Around} (r:Room k A):A.depth<recursionLimit:=by have:=r.dp;omega
theorem Room.units {k:Nat} {A:Around} (r:Room k A):A.units+64<cLine:=by have:=r.un;omega
def ZiG:TA:=λ_ H Q=>Q [] H
def Zf1 (ta:TE) (tr:TA):TA:=λσ H Q=>ta σ H λx H1=>tr σ H1 λxs H2=>Q (x::xs) H2
section
variable {X:Cx} {e:Expr} {es:List Expr} {te:TE} {t:TA} {pos:Pos}
theorem Zac:PA X [] ZiG:=λ_ _ _ _ H Q I h=>Calls.spliced_nil ⟨[],H,I,.nil,h⟩
theorem Zaa (ha:PE X e te) (hr:PA X es t) (hs:starEach (e::es) X.env=(false,eval e X.env)::starEach es X.env:=by rfl):PA X (e::es) (Zf1 te t):=by
 intro pos pins s σ H Q I h
 rw [hs]
 show wpAny _ _ (spliced ((false,eval e X.env)::backTo pos (starEach es X.env))) _ _ s
 refine Calls.spliced_cons (thn (ha pins s σ H _ I h) λu s1 ⟨x,H1,I1,r1,q1⟩=>?_)
 exact thn (hr pos pins s1 σ H1 _ I1 q1) λus s2 ⟨xs,H2,I2,r2,q2⟩=>⟨x::xs,H2,I2,.cons r1 r2,q2⟩
def Zm0 (t:TA):TE:=λσ H Q=>t σ H λxs H1=>xs.length<=sizeLine/\∀ p,H1 p=none->Q (.ref p) (upd H1 p (.tup xs))
def Zm1 (t:TA):TE:=λσ H Q=>t σ H λxs H1=>xs.length<=sizeLine/\∀ p,H1 p=none->Q (.ref p) (upd H1 p (.lst xs))
theorem ZaR {x1} (h:PA X es t):PE X (.Tuple es x1 pos) (Zm0 t):=by
 intro pins s σ H Q I hq
 refine wpAny_Tuple_spliced (thn (h pos pins s σ H _ I hq) λus s1 ⟨xs,H1,I1,r,z,q⟩=>⟨by rw [<-r.length];exact z,?_⟩)
 have hf:H1 s1.heap.objs.size=none:=I1.hok.fresh (Nat.le_refl _)
 refine ⟨.ref s1.heap.objs.size,upd H1 s1.heap.objs.size (.tup xs),I1.laid (t':=s1.toks) (λb u e=>Heap.get?_push_of_some _ e) (Nat.le_refl _) ?_,rfl,q _ hf⟩
 exact ⟨z,us,r,⟨_,Heap.get?_push_size _ rfl,rfl,_,rfl⟩⟩
theorem ZaE (h:PA X es t):PE X (.List es pos) (Zm1 t):=by
 intro pins s σ H Q I hq
 refine wpAny_List_spliced (thn (h pos pins s σ H _ I hq) λus s1 ⟨xs,H1,I1,r,z,q⟩=>⟨by rw [<-r.length];exact z,?_⟩)
 have hf:H1 s1.heap.objs.size=none:=I1.hok.fresh (Nat.le_refl _)
 refine ⟨.ref s1.heap.objs.size,upd H1 s1.heap.objs.size (.lst xs),I1.laid (t':=s1.toks) (λb u e=>Heap.get?_push_of_some _ e) (Nat.le_refl _) ?_,rfl,q _ hf⟩
 exact ⟨z,us,0,r,Heap.get?_push_size _ rfl⟩
end
abbrev Sp:=List V->Hp->VK->XK->Prop
abbrev CXT:=List Env->Hp->Shared->XK->Value->Shared->Prop
structure Zli (P:Program) (w:World) (K:PySem.W.Frag) (mg:Str->Option Value) (base:Heap) (A:Around) (outer:List Env) (s:Shared) (H:Hp):Prop where
 frames:A.frames=some outer
 mod:Mod K mg base
 bs:∀ b o,base.get? b=some o->s.heap.get? b=some o/\H b=none
 bsz:base.objs.size<=s.heap.objs.size
 funs:s.heap.FunFrames base outer
 frf:∀ b∈frs outer,H b=none
 hok:HOk P w H s.heap
 bare:AllBare s.gens
def CE (outer:List Env) (P:Program) (w:World) (H:Hp) (s:Shared) (Q:VK) (u:Value) (s':Shared):Prop:=
 ∃ v H',s'.os=s.os/\AllBare s'.gens/\Un (frs outer) [] H H' s.heap s'.heap/\HOk P w H' s'.heap/\RelV v u/\Q v H'
def CR (CX:CXT) (outer:List Env) (P:Program) (w:World) (H:Hp) (s:Shared) (Q:VK) (E:XK) (r:Result) (s':Shared):Prop:=
 match r with
 | .ok (.ret u)=>CE outer P w H s Q u s'
 | .ok _=>False
 | .error e=>CX outer H s E e s'
structure ZaK (P:Program) (w:World) (K:PySem.W.Frag) (mg:Str->Option Value) (base:Heap) (CX:CXT) (k:Nat) (f:Addr) (fd:FuncData) (ps:List Str) (sp:Sp):Prop where
 len:∀ vs H Q E,sp vs H Q E->vs.length=ps.length
 run:∀ (A:Around) (outer:List Env) (s:Shared) (H:Hp) (args:Args) (us:List Value) (vs:List V) (Q:VK) (E:XK),Room k A->Zli P w K mg base A outer s H->BindsTo s fd args (ps.zip us)->Vals vs us->sp vs H Q E ->
  codeAny (model P w) A (.call (.ref f) args) (CR CX outer P w H s Q E) s
section
variable {X:Cx} {pins:List (Addr×Obj)} {σ:St} {H:Hp} {s s':Shared}
theorem Inv.env0 (I:Inv X pins σ H s):Zli X.prog X.w X.K X.mg X.base X.A X.stack s H:=
 ⟨I.ok.frames,I.ok.mod,I.bs,Nat.le_trans I.ok.bsz I.sz,I.stack,I.stkFree,I.hok,I.bare⟩
theorem Inv.after {Q:VK} {u:Value} (I:Inv X pins σ H s) (h:CE X.stack X.prog X.w H s Q u s'):EP X pins σ Q u s':=by
 obtain ⟨v,H',os,bare,un,hok,r,q⟩:=h
 obtain ⟨hh,g,d,t,os'⟩:=s'
 obtain rfl:os'=s.os:=os
 exact ⟨v,H',I.call (h':=hh) (g':=g) (d':=d) (t':=t) (ch:=[]) un hok bare (λb z=>absurd z (by simp)),r,q⟩
end
def Zlz (sp:Sp) (dvs:List V) (E:XK) (t:TA):TE:=λσ H Q=>t σ H λvs H1=>sp (vs++dvs) H1 Q E
def Zm2 (C:Addr) (m:Str) (sp:Sp) (dvs:List V) (E:XK) (ta:TE) (t:TA):TE:=λσ H Q=>ta σ H λx H1=>∃ a dx fs,x=.ref a/\H1 a=some (.ins C dx fs)/\fs.lookup m=none /\
 t σ H1 λvs H2=>sp (x::(vs++dvs)) H2 Q E
def Zm3 (C:Addr) (sp:Sp) (dvs:List V) (E:XK) (t:TA):TE:=λσ H Q=>t σ H λvs H1=>∀ x dx,H1 x=none->H1 dx=none->dx≠x ->
 sp (.ref x::(vs++dvs)) (upd (upd H1 dx (.own x)) x (.ins C dx [])) (λv H2=>v=.non/\Q (.ref x) H2) E
def Binds (K:PySem.W.Frag) (fd:FuncData) (ps:List Str) (ds:List Value):Prop:=
 ∀ (s:Shared) (us:List Value),K.In s.heap->(us++ds).length=ps.length->BindsTo s fd ⟨us,[]⟩ (ps.zip (us++ds))
theorem Binds.all {K:PySem.W.Frag} {fd:FuncData} {ps:List Str} (h:∀ us:List Value,us.length=ps.length->bindArgs fd ⟨us,[]⟩=pure (ps.zip us)):Binds K fd ps []:=λs us _ hl=>by
 rw [List.append_nil] at hl ⊢
 exact .of_eq (h us hl)
def ZdV (CX:CXT) (X:Cx) (E:XK):Prop:=∀ (pins:List (Addr×Obj)) (σ:St) (H:Hp) (s:Shared) (e:Value) (s':Shared),Inv X pins σ H s->CX X.stack H s E e s'->X.xe e s'
section
variable {X:Cx} {CX:CXT} {k:Nat} {f C:Addr} {fd:FuncData} {ps:List Str} {sp:Sp} {dvs:List V} {ds:List Value} {E:XK} {x m:Str} {p pos apos:Pos} {e o:Expr} {es:List Expr} {ta:TE} {t:TA}
theorem Zj3 {pins:List (Addr×Obj)} {σ:St} {H:Hp} {s:Shared} {Q:VK} {us:List Value} {vs:List V} (F:ZaK X.prog X.w X.K X.mg X.base CX k f fd ps sp) (hr:Room k X.A) (hb:Binds X.K fd ps ds) (hd:Vals dvs ds) (hx:ZdV CX X E)
  (I:Inv X pins σ H s) (r:Vals vs us) (h:sp (vs++dvs) H Q E):wpAny (model X.prog X.w) X.A (call (.ref f) us) (EP X pins σ Q) X.xe s:=by
 have r2:Vals (vs++dvs) (us++ds):=r.append hd
 have hl:(us++ds).length=ps.length:=by rw [<-r2.length];exact F.len _ _ _ _ h
 refine wpAny_call (codeAny_mono (F.run X.A X.stack s H ⟨us,[]⟩ (us++ds) (vs++dvs) Q E hr I.env0 (hb s us I.kIn hl) r2 h) λr s' hq=>?_)
 cases r with
 | error e=>exact hx pins σ H s e s' I hq
 | ok fl=>
  cases fl with
  | ret u=>exact I.after hq
  | next=>exact False.elim hq
  | brk=>exact False.elim hq
  | cont=>exact False.elim hq
theorem Zai (F:ZaK X.prog X.w X.K X.mg X.base CX k f fd ps sp) (hr:Room k X.A) (hg:Gl X x) (hm:X.mg x=some (.ref f)) (hk:PySem.W.keepIn X.K (.ref f)=true) (hb:Binds X.K fd ps ds) (hd:Vals dvs ds) (hx:ZdV CX X E)
  (ha:PA X (e::es) t) (hdb:(x == ("__debug__" : Str))=false:=by decide) (he:starEach (e::es) X.env=(false,eval e X.env)::starEach es X.env:=by rfl) (hpl:(backTo pos (starEach es X.env)).any (·.1)=false:=by rfl) :
  PE X (.Call (.Name x p) (e::es) [] pos) (Zlz sp dvs E t):=by
 intro pins s σ H Q I h
 refine wpAny_Call_Name_kw (ZcP I hg hm ?_ hdb)
 refine PySem.W.callWith_K (h₀:=X.base) I.ok.mod.kin hk (thn (ha pos pins s σ H _ I h) λus s1 ⟨vs,H1,I1,r,q⟩=>⟨I1.kIn,?_⟩) he hpl
 exact Zj3 F hr hb hd hx I1 r q
structure Mk (K:PySem.W.Frag) (C f:Addr):Prop where
 makes:PySem.W.makesIn K C=true
 init:PySem.W.findIn K (.ref C) "__init__" = some (some (.ref f))
 fn:PySem.W.isFn K (.ref f)=true
 kp:PySem.W.keepIn K (.ref C)=true
end
def PK (X:Cx) (kws:List Keyword) (t:TA):Prop:=
 ∀ (pos:Pos) (pins:List (Addr×Obj)) (s:Shared) (σ:St) (H:Hp) (Q:List V->Hp->Prop),Inv X pins σ H s->t σ H Q->wpAny (model X.prog X.w) X.A (evalAll ((backToKw pos (keywordEach kws X.env)).map (·.2))) (AP X pins σ Q) X.xe s
section
variable {X:Cx} {CX:CXT} {k:Nat} {f C:Addr} {fd:FuncData} {ps ks:List Str} {sp:Sp} {E:XK} {x m:Str} {p pos apos kpos:Pos} {e o:Expr} {es:List Expr} {kws:List Keyword} {te ta:TE} {t tk:TA} {nm:Option Str}
theorem Zj4:PK X [] ZiG:=λ_ _ _ _ H Q I h=>wpAny_evalAll_nil ⟨[],H,I,.nil,h⟩
theorem ZiH (ha:PE X e te) (hr:PK X kws t):PK X (⟨nm,e,kpos⟩::kws) (Zf1 te t):=by
 intro pos pins s σ H Q I h
 show wpAny _ _ (evalAll ((do let v <- eval e X.env;standAt pos;pure v)::(backToKw pos (keywordEach kws X.env)).map (·.2))) _ _ s
 refine wpAny_evalAll_cons (wpAny_bind (thn (ha pins s σ H _ I h) λu s1 ⟨x,H1,I1,r1,q1⟩=>wpAny_bind (wpAny_standAt (wpAny_pure ?_))))
 exact thn (hr pos pins s1 σ H1 _ I1 q1) λus s2 ⟨xs,H2,I2,r2,q2⟩=>⟨x::xs,H2,I2,.cons r1 r2,q2⟩
structure Zmm (K:PySem.W.Frag) (fd:FuncData) (ps ks:List Str) (g:List Value->List Value->List Value) (gV:List V->List V->List V):Prop where
 to:∀ (s:Shared) (us ws:List Value),K.In s.heap->(g us ws).length=ps.length->BindsTo s fd ⟨us,ks.zip ws⟩ (ps.zip (g us ws))
 rel:∀ {vs:List V} {us:List Value} {zs:List V} {ws:List Value},Vals vs us->Vals zs ws->Vals (gV vs zs) (g us ws)
def Zmn (sp:Sp) (gV:List V->List V->List V) (E:XK) (t tk:TA):TE:=λσ H Q=>t σ H λvs H1=>tk σ H1 λzs H2=>sp (gV vs zs) H2 Q E
variable {g:List Value->List Value->List Value} {gV:List V->List V->List V}
end
structure Zav (N P:List Str) (sc:Scope):Prop where
 kind:sc.kind=.function
 co:sc.isCoroutine=false
 gen:sc.isGenerator=false
 nd:N.Nodup
 pre:N.take P.length=P
 par:∀ x∈P,sc.names.lookup x=some .local\/sc.names.lookup x=some .cell
 nofree:∀ y∈sc.names,y.2≠.free
theorem ZdW {kindOf:Str->Option NameKind} {x:Str}:∀ {binds:List (Str×Value)} {m:Str->Option Value},(∀ v,(x,v) ∉ binds)->bindL kindOf binds m x=m x
 | [],_,_=>rfl
 | (n,v)::r,m,h=>by
  unfold bindL
  rw [ZdW λw hw=>h w (List.mem_cons_of_mem _ hw)]
  split
  ·have:x≠n:=by rintro rfl;exact h v List.mem_cons_self
   simp [this]
  ·rfl
theorem ZdX {kindOf:Str->Option NameKind} {x:Str}:∀ {binds:List (Str×Value)} {m:Str->Option Value},(∀ v,(x,v) ∉ binds)->bindC kindOf binds m x=m x
 | [],_,_=>rfl
 | (n,v)::r,m,h=>by
  unfold bindC
  rw [ZdX λw hw=>h w (List.mem_cons_of_mem _ hw)]
  split
  ·rfl
  ·have:x≠n:=by rintro rfl;exact h v List.mem_cons_self
   simp [this]
theorem ZdY {kindOf:Str->Option NameKind} {x:Str} {v:Value}:∀ {P:List Str} {vs:List Value} {i:Nat} {m:Str->Option Value},P.Nodup->P[i]?=some x->vs[i]?=some v->kindOf x=some .local ->
  bindL kindOf (P.zip vs) m x=some v
 | [],_,_,_,_,h,_,_=>by simp at h
 | _::_,[],_,_,_,_,h,_=>by simp at h
 | p::P,w::vs,0,m,nd,h1,h2,hk=>by
  simp at h1 h2;subst h1;subst h2
  show bindL kindOf ((p,w)::P.zip vs) m p=_
  unfold bindL
  rw [ZdW λv hv=>(List.nodup_cons.mp nd).1 (List.of_mem_zip hv).1,if_pos hk]
  simp
 | p::P,w::vs,i+1,m,nd,h1,h2,hk=>by
  show bindL kindOf ((p,w)::P.zip vs) m x=_
  unfold bindL
  exact ZdY (i:=i) (List.nodup_cons.mp nd).2 (by simpa using h1) (by simpa using h2) hk
theorem ZdZ {kindOf:Str->Option NameKind} {x:Str} {v:Value}:∀ {P:List Str} {vs:List Value} {i:Nat} {m:Str->Option Value},P.Nodup->P[i]?=some x->vs[i]?=some v->kindOf x≠some .local ->
  bindC kindOf (P.zip vs) m x=some v
 | [],_,_,_,_,h,_,_=>by simp at h
 | _::_,[],_,_,_,_,h,_=>by simp at h
 | p::P,w::vs,0,m,nd,h1,h2,hk=>by
  simp at h1 h2;subst h1;subst h2
  show bindC kindOf ((p,w)::P.zip vs) m p=_
  unfold bindC
  rw [ZdX λv hv=>(List.nodup_cons.mp nd).1 (List.of_mem_zip hv).1,if_neg hk]
  simp
 | p::P,w::vs,i+1,m,nd,h1,h2,hk=>by
  show bindC kindOf ((p,w)::P.zip vs) m x=_
  unfold bindC
  exact ZdZ (i:=i) (List.nodup_cons.mp nd).2 (by simpa using h1) (by simpa using h2) hk
def start (N:List Str) (vs:List V):St:=vs.map some++List.replicate (N.length-vs.length) none
def Zf2 (CX:CXT) (P:Program) (w:World) (K:PySem.W.Frag) (mg:Str->Option Value) (base:Heap) (N:List Str) (qual:Str) (scope:Scope) (f:Addr) (cd:Value) (A:Around) (outer:List Env) (s:Shared) (H:Hp) (E:XK):Cx where
 prog:=P
 w:=w
 K:=K
 mg:=mg
 base:=base
 A:=A.deeper (envOfC qual scope s.heap.objs.size f cd)
 N:=N
 s₀:=s
 H₀:=H
 env:=envOfC qual scope s.heap.objs.size f cd
 outer:=outer
 stack:=envOfC qual scope s.heap.objs.size f cd::outer
 ex:=[]
 calm:=true
 fn:=λ_=>true
 pn:=[]
 xe:=λe s'=>wpAny (model P w) (A.deeper (envOfC qual scope s.heap.objs.size f cd)) (leaving (envOfC qual scope s.heap.objs.size f cd) e) (λ_ s''=>CX outer H s E e s'') (λe' s''=>CX outer H s E e' s'') s'
theorem ZeS {sc:Scope} {n:Nat} {x:Str} (h:sc.names.lookup x=some .cell):∃ c,(cellsFrom n sc.names []).lookup x=some c:=by
 have q:=PySem.W.cellsFrom_some sc.names n [] (.inl h)
 exact Option.isSome_iff_exists.mp q
theorem Zf3 {CX:CXT} {P:Program} {w:World} {K:PySem.W.Frag} {mg:Str->Option Value} {base:Heap} {N ps:List Str} {qual:Str} {scope:Scope} {f:Addr} {cd:Value} {A:Around} {outer:List Env} {s s1:Shared} {H:Hp} {E:XK} {us:List Value} {vs:List V}
  (S:Zav N ps scope) (hd:A.handled=none) (e0:Zli P w K mg base A outer s H) (hl:vs.length=ps.length) (r:Vals vs us)
  (x:InCallC s s.heap.objs.size (bindL (envOfC qual scope s.heap.objs.size f cd).kindOf (ps.zip us) λ_=>none) (cellsFrom (s.heap.objs.size+1) scope.names []) (bindC (envOfC qual scope s.heap.objs.size f cd).kindOf (ps.zip us) λ_=>none) s1) :
  Inv (Zf2 CX P w K mg base N qual scope f cd A outer s H E) [] (start N vs) H s1:=by
 have hpl:ps.length<=N.length:=by have:=congrArg List.length S.pre;rw [List.length_take] at this;omega
 obtain ⟨h1,tk,rfl,hk⟩:=x.done
 have noA:∀ b:Addr,b ∉ (Zf2 CX P w K mg base N qual scope f cd A outer s H E).ex:=λb z=>absurd (show b∈([]:List Addr) from z) (by simp)
 refine ⟨⟨e0.mod,S.kind,rfl,rfl,Nat.le_refl _,λy z c h1 h2=>?_,λy hy=>?_,λy c _ h=>?_,λ_=>hd,Around.frames_deeper e0.frames,.inr ⟨rfl,rfl⟩,λb z=>absurd z (noA b),e0.bs,e0.bsz,λb _ _=>noA b,λb z=>absurd z (noA b),e0.funs,e0.frf⟩,
  rfl,e0.bare,Un.kept hk,⟨_,x.toInCall.ns,λi y v h1 h2 h3=>?_⟩,λy c h=>⟨_,x.cell y c h⟩,e0.hok.fresh (Nat.le_refl _),λy c h=>?_,λp hp=>absurd (show p∈([]:List (Addr×Obj)) from hp) (by simp),e0.hok.kept hk,?_⟩
 ·exact name_of_addr x.apart (PySem.mem_of_lookup h1) (PySem.mem_of_lookup h2)
 ·have hy:scope.names.lookup y=some .cell\/scope.names.lookup y=some .free:=hy
  rcases hy with hy | hy
  ·exact ZeS hy
  ·exact absurd rfl (S.nofree _ (PySem.mem_of_lookup hy))
 ·exact Nat.le_of_lt (x.above y c (PySem.mem_of_lookup h))
 ·have hi:i<vs.length:=by
   unfold start at h2
   by_cases hi:i<vs.length
   ·exact hi
   ·rw [List.getElem?_append_right (by simpa using hi)] at h2
    rw [List.getElem?_replicate] at h2
    split at h2 <;> cases h2
  have ha:vs[i]?=some v:=by
   unfold start at h2
   rw [List.getElem?_append_left (by simpa using hi),List.getElem?_map] at h2
   cases e:vs[i]? with
   | none=>rw [e] at h2;cases h2
   | some a=>rw [e] at h2;cases h2;rfl
  obtain ⟨u,hu,rv⟩:=r.get ha
  have hp:ps[i]?=some y:=by
   rw [<-S.pre,List.getElem?_take_of_lt (by omega)];exact h1
  have ndP:ps.Nodup:=by rw [<-S.pre];exact S.nd.sublist (List.take_sublist _ _)
  refine ⟨u,rv,?_⟩
  rcases S.par y (List.mem_of_getElem? hp) with k | k
  ·exact .inl ⟨k,ZdY ndP hp hu k⟩
  ·obtain ⟨c,e⟩:=ZeS (n:=s.heap.objs.size+1) k
   refine .inr ⟨.inl k,c,e,?_⟩
   have q:=x.cell y c e
   rw [ZdZ ndP hp hu (by show scope.names.lookup y≠_;rw [k];decide)] at q
   exact q
 ·exact e0.hok.fresh (Nat.le_of_lt (x.above y c (PySem.mem_of_lookup h)))
 ·unfold start
  show _=N.length
  rw [List.length_append,List.length_map,List.length_replicate]
  omega
theorem ZiI {CX:CXT} {P:Program} {w:World} {K:PySem.W.Frag} {mg:Str->Option Value} {base:Heap} {k:Nat} {f:Addr} {name qual:Str} {params:Arguments} {body:List Stmt} {scope:Scope} {dV kV doc pm cdv ct oc:Value} {an od:Option Addr}
  {osl:Array (Option Value)} {N ps:List Str} {sp:Sp} (lk:K.lookup f=some ⟨oc,od,.func (PySem.W.fnOf name qual params body scope dV kV doc pm an cdv ct),osl⟩) (hcd:PySem.W.codeIn K cdv qual=true) (S:Zav N ps scope)
  (len:∀ vs H Q E,sp vs H Q E->vs.length=ps.length)
  (hbody:∀ (A:Around) (outer:List Env) (s:Shared) (H:Hp) (vs:List V) (Q:VK) (E:XK),Room k (A.deeper (envOfC qual scope s.heap.objs.size f cdv))->sp vs H Q E ->
   ∃ t,PSs (Zf2 CX P w K mg base N qual scope f cdv A outer s H E) body t/\t { nx:=λ_ H'=>Q .non H',rt:=Q } (start N vs) H) :
  ZaK P w K mg base CX (k+1) f (PySem.W.fnOf name qual params body scope dV kV doc pm an cdv ct) ps sp:=by
 refine ⟨len,λA outer s H args us vs Q E hr e0 hb r hsp=>?_⟩
 have hl:=len _ _ _ _ hsp
 have KX:K.In s.heap:=e0.mod.kin.keeps λb o e=>(e0.bs b o e).1
 have lim:s.heap.NoLimit:=e0.mod.nolimit.keeps λb o e=>(e0.bs b o e).1
 have hkind:∀ y∈ps.zip us,scope.names.lookup y.1=some .local\/(scope.names.lookup y.1=some .cell/\((cellsFrom (s.heap.objs.size+1) scope.names []).lookup y.1).isSome=true):=λ⟨n,v⟩ hy=>by
  rcases S.par n (List.of_mem_zip hy).1 with q | q
  ·exact .inl q
  ·exact .inr ⟨q,PySem.W.cellsFrom_some _ _ _ (.inl q)⟩
 refine codeAny_call_function hr.depth (KX _ _ lk) rfl S.co S.gen rfl (PySem.W.codeRec_of KX hcd) (hb _ _ _ _ ?_)
 refine wpAny_newFunctionEnv_cells S.kind hkind λenv he s1 x=>?_
 subst he
 refine ⟨lim.keeps x.toInCall.keep,codeAny_func ?_⟩
 obtain ⟨t,ht,hq⟩:=hbody A outer s H vs Q E (hr.deeper _) hsp
 have I:Inv (Zf2 CX P w K mg base N qual scope f cdv A outer s H E) [] (start N vs) H s1:=Zf3 S hr.hd e0 hl r x
 refine wpAny_mono (ht [] s1 (start N vs) H _ I hq) (λfl s' hs=>?_) λe s' hs=>hs
 have fin:∀ {σ':St} {H':Hp} {v:V} {u:Value},Inv (Zf2 CX P w K mg base N qual scope f cdv A outer s H E) [] σ' H' s'->RelV v u->Q v H'->CE outer P w H s Q u s':=
  λ{σ' H' v u} J rv q=>⟨v,H',J.os,J.bare,J.base,J.hok,rv,q⟩
 cases fl with
 | ret u=>
  obtain ⟨v,σ',H',J,rv,q⟩:=hs
  exact fin J rv q
 | next=>
  obtain ⟨σ',H',J,q⟩:=hs
  exact fin (v:=V.non) (u:=Value.none) J rfl q
 | brk=>
  obtain ⟨_,_,_,q⟩:=hs
  exact False.elim q
 | cont=>
  obtain ⟨_,_,_,q⟩:=hs
  exact False.elim q
end L2
namespace L2
open PySem PySem.Spec PyProof.Rows
section
variable {X:Cx} {x:Str} {p pos:Pos} {e:Expr} {es:List Expr} {t:TA} {id T:String} {r:List V->Hp->VK->Prop}
def tCB (r:List V->Hp->VK->Prop) (t:TA):TE:=λσ H Q=>t σ H λvs H1=>r vs H1 Q
theorem Zak (hc:Zbc X (.builtin id) r) (hg:Gl X x) (hm:X.mg x=none) (hv:bootBuiltins x=some (.builtin id)) (ha:PA X (e::es) t) (hn:x ≠ "__name__" := by decide) (hdb:(x == ("__debug__" : Str))=false:=by decide)
  (he:starEach (e::es) X.env=(false,eval e X.env)::starEach es X.env:=by rfl) (hpl:(backTo pos (starEach es X.env)).any (·.1)=false:=by rfl):PE X (.Call (.Name x p) (e::es) [] pos) (tCB r t):=by
 intro pins s σ H Q I h
 refine wpAny_Call_Name_kw (ZcA I hg hm hv ?_ hn hdb)
 exact PyProof.Rows.callWith_builtin1 (thn (ha pos pins s σ H _ I h) λus s1 ⟨vs,H1,I1,r1,q1⟩=>hc pins s1 σ H1 vs us Q I1 r1 q1) he hpl
theorem ZaL (hc:Zbc X (.type T) r) (hg:Gl X x) (hm:X.mg x=none) (hv:bootBuiltins x=some (.type T)) (ha:PA X (e::es) t) (hn:x ≠ "__name__" := by decide) (hdb:(x == ("__debug__" : Str))=false:=by decide)
  (he:starEach (e::es) X.env=(false,eval e X.env)::starEach es X.env:=by rfl) (hpl:(backTo pos (starEach es X.env)).any (·.1)=false:=by rfl):PE X (.Call (.Name x p) (e::es) [] pos) (tCB r t):=by
 intro pins s σ H Q I h
 refine wpAny_Call_Name_kw (ZcA I hg hm hv ?_ hn hdb)
 exact PyProof.Rows.callWith_type1 (thn (ha pos pins s σ H _ I h) λus s1 ⟨vs,H1,I1,r1,q1⟩=>hc pins s1 σ H1 vs us Q I1 r1 q1) he hpl
end
end L2
namespace HT
open PySem PyProof.Rows
def lexLt:List Int->List Int->Bool
 | [],[]=>false
 | [],_::_=>true
 | _::_,[]=>false
 | x::xs,y::ys=>if x=y then lexLt xs ys else decide (x<y)
section
open PySem.SeqAt
open PySem.AutoSeq1 (wpAny_loadPart')
open PySem.MeetsSeq PySem.MeetsSeq2 PySem.MeetsSeq3
end
section
variable {prog:Program} {w:World} {A:Around} {E:Value->Shared->Prop} {s:Shared}
def sIx (n d:Nat):Option Int->Nat
 | none=>d
 | some v=>if v<0 then (v+(n:Int)).toNat else min v.toNat n
theorem sIx_none (n d:Nat):sIx n d none=d:=rfl
theorem sIx_nat (n d k:Nat):sIx n d (some (k:Int))=min k n:=by
 show (if (k:Int)<0 then ((k:Int)+(n:Int)).toNat else min (k:Int).toNat n)=min k n
 rw [if_neg (by omega),Int.toNat_natCast]
end
end HT
namespace L2
open PySem PySem.Spec PyProof.Rows
abbrev TO:=St->Hp->(Option Int->Hp->Prop)->Prop
def PO (X:Cx) (e:Option Expr) (t:TO):Prop:=
 ∀ (pins:List (Addr×Obj)) (s:Shared) (σ:St) (H:Hp) (Q:Option Int->Hp->Prop),Inv X pins σ H s->t σ H Q ->
  wpAny (model X.prog X.w) X.A (evalPart e X.env) (λu s'=>∃ o H',Inv X pins σ H' s'/\IsPart u o/\Q o H') X.xe s
def ZiJ:TO:=λ_ H Q=>Q none H
def ZlA (t:TE):TO:=λσ H Q=>t σ H λx H1=>∃ i,x=.int i/\Q (some i) H1
theorem ZbV {ns:List Int}:∀ {us:List Value},Vals (ns.map V.int) us->IntsAre us ns:=by
 induction ns with
 | nil=>intro us r;rw [List.map_nil] at r;cases r;exact .nil
 | cons n ns ih=>
  intro us r
  rw [List.map_cons] at r
  cases r with
  | cons r1 r2=>
   obtain ⟨t,e⟩:=r1
   subst e
   exact .cons n t (ih r2)
section
variable {X:Cx} {e:Expr} {te:TE} {lo hi:Option Expr} {tl th:TO} {pos p2:Pos}
theorem ZbB:PO X none ZiJ:=by
 intro pins s σ H Q I h
 rw [evalPart_none]
 exact wpAny_pure ⟨none,H,I,.none,h⟩
theorem Zbm (h:PE X e te):PO X (some e) (ZlA te):=by
 intro pins s σ H Q I hw
 rw [evalPart_some]
 refine thn (h pins s σ H _ I hw) λu s1 ⟨x,H1,I1,r1,q1⟩=>?_
 obtain ⟨i,rfl,q⟩:=q1
 obtain ⟨t,rfl⟩:=r1
 exact ⟨some i,H1,I1,.int i t,q⟩
def SlR (X:Cx) (r:V->Option Int->Option Int->Hp->VK->Prop):Prop:=
 ∀ (pins:List (Addr×Obj)) (s:Shared) (σ:St) (H:Hp) (x:V) (v vl vu:Value) (lo hi:Option Int) (sl:Addr) (Q:VK),Inv X pins σ H s->RelV x v->s.heap.IsSliceOf sl vl vu .none->IsPart vl lo->IsPart vu hi->r x lo hi H Q ->
  ∃ T id,typeLookup (.type T) "__getitem__" = pure (some (.builtin id))/\s.TypeIs v T/\wpAny (model X.prog X.w) X.A (getItem v (.ref sl)) (EP X pins σ Q) X.xe s
def tSl (r:V->Option Int->Option Int->Hp->VK->Prop) (te:TE) (tl th:TO):TE:=λσ H Q=>te σ H λx H1=>tl σ H1 λl H2=>th σ H2 λu H3=>r x l u H3 Q
theorem Za9 {r:V->Option Int->Option Int->Hp->VK->Prop} (hr:SlR X r) (he:PE X e te) (hl:PO X lo tl) (hu:PO X hi th):PE X (.Subscript e (.Slice lo hi none p2) pos) (tSl r te tl th):=by
 intro pins s σ H Q I h
 refine Subscript_ (thn (he pins s σ H _ I h) λv s1 ⟨x,H1,I1,r1,q1⟩=>?_)
 refine wpAny_Slice (thn (hl pins s1 σ H1 _ I1 q1) λvl s2 ⟨l,H2,I2,pl,q2⟩=>thn (hu pins s2 σ H2 _ I2 q2) λvu s3 ⟨u,H3,I3,pu,q3⟩=>?_)
 rw [evalPart_none]
 refine wpAny_pure ?_
 have I4:Inv X pins σ H3 { s3 with heap:=s3.heap.push { cls:=.type "slice", data:=.fields #[vl,vu,.none] } }:=I3.kept (t':=s3.toks) λb ob q=>Heap.get?_push_of_some _ q
 obtain ⟨T,id,hT,ht,hg⟩:=hr pins { s3 with heap:=s3.heap.push { cls:=.type "slice", data:=.fields #[vl,vu,.none] } } σ H3 x v vl vu l u s3.heap.objs.size Q I4 r1 (Heap.IsSliceOf.new ..) pl pu q3
 show wpAny (model X.prog X.w) X.A (subscriptTail e (.Slice lo hi none p2) v (.ref s3.heap.objs.size)) (EP X pins σ Q) X.xe { s3 with heap:=s3.heap.push { cls:=.type "slice", data:=.fields #[vl,vu,.none] } }
 exact tail_any (ops:=[.ref s3.heap.objs.size,v]) ht hT hg (by with_unfolding_all rfl)
def Zca (xs:List V) (lo hi:Option Int):List V:=(xs.drop (HT.sIx xs.length 0 lo)).take (HT.sIx xs.length xs.length hi-HT.sIx xs.length 0 lo)
theorem ZcR (xs:List V) (lo hi:Option Int):(Zca xs lo hi).length<=xs.length:=by
 unfold Zca
 rw [List.length_take,List.length_drop]
 omega
def ZnT (K:PySem.W.Frag):V->Option Int->Option Int->Hp->VK->Prop:=λx lo hi H Q=>∃ a xs,x=.ref a/\SqT K H a xs /\
 ¬ (HT.sIx xs.length 0 lo=0/\HT.sIx xs.length xs.length hi=xs.length)/\∀ p,H p=none->Q (.ref p) (upd H p (.tup (Zca xs lo hi)))
def ZnU (K:PySem.W.Frag):R2:=λx y H Q=>∃ a b ns ms,x=.ref a/\y=.ref b/\SqT K H a (ns.map V.int)/\SqT K H b (ms.map V.int)/\Q (.bl (HT.lexLt ns ms)) H
def Zm4 (K:PySem.W.Frag):R2:=λx y H Q=>∃ a b xs ys,x=.ref a/\y=.ref b/\SqT K H a xs/\SqT K H b ys/\xs≠[]/\xs.length+ys.length<=sizeLine /\
 (ys=[]->Q (.ref a) H)/\(ys≠[]->∀ p,H p=none->Q (.ref p) (upd H p (.tup (xs++ys))))
end
end L2
namespace L2
open PySem PySem.Spec PyProof.Rows
def ixN (n:Nat) (i:Int):Option Nat:=if 0<=i then (if i<n then some i.toNat else none) else if -(n:Int)<=i then some (i+n).toNat else none
def atI {α:Type} (xs:List α) (i:Int):Option α:=(ixN xs.length i).bind λj=>xs[j]?
theorem Zer {n:Nat} {i:Int} {j:Nat} (h:ixN n i=some j):seqIndex? i n=some j/\j<n/\-(n:Int)<=i/\i<n:=by
 unfold ixN at h
 by_cases h0:0<=i
 ·rw [if_pos h0] at h
  by_cases h1:i<n
  ·rw [if_pos h1] at h
   have e:i.toNat=j:=Option.some.inj h
   exact ⟨by rw [seqIndex_of h0 h1,e],by omega,by omega,h1⟩
  ·rw [if_neg h1] at h;cases h
 ·rw [if_neg h0] at h
  by_cases h1:-(n:Int)<=i
  ·rw [if_pos h1] at h
   have e:(i+n).toNat=j:=Option.some.inj h
   exact ⟨by rw [seqIndex_neg (by omega) h1,e],by omega,h1,by omega⟩
  ·rw [if_neg h1] at h;cases h
theorem Zf4 {α:Type} {xs:List α} {i:Int} {v:α} (h:atI xs i=some v):∃ j,seqIndex? i xs.length=some j/\xs[j]?=some v/\j<xs.length/\-(xs.length:Int)<=i/\i<xs.length:=by
 unfold atI at h
 cases e:ixN xs.length i with
 | none=>rw [e] at h;cases h
 | some j=>
  rw [e] at h
  obtain ⟨h1,h2,h3,h4⟩:=Zer e
  exact ⟨j,h1,h,h2,h3,h4⟩
theorem Zaj {α:Type} {xs:List α} {j:Nat} {v:α} (h:xs[j]?=some v):atI xs (j:Int)=some v:=by
 have hj:j<xs.length:=(List.getElem?_eq_some_iff.mp h).1
 have e:ixN xs.length (j:Int)=some j:=by
  unfold ixN
  rw [if_pos (by omega),if_pos (by omega)];simp
 unfold atI;rw [e];exact h
def ZiK (b:Expr):Prop:=∀ o i,subscripted b false o i=operate [o,i] (getItem o i)
def IxR (X:Cx) (r:R2):Prop:=
 ∀ (value slice:Expr) (pins:List (Addr×Obj)) (s:Shared) (σ:St) (H:Hp) (x y:V) (v u:Value) (Q:VK),Inv X pins σ H s->RelV x v->RelV y u->r x y H Q ->
  subscripted slice false v u=operate [v,u] (getItem v u)->wpAny (model X.prog X.w) X.A (subscriptTail value slice v u) (EP X pins σ Q) X.xe s
def MtR (X:Cx) (id:String) (r:V->List V->Hp->VK->Prop):Prop:=
 ∀ (pins:List (Addr×Obj)) (s:Shared) (σ:St) (H:Hp) (x:V) (xs:List V) (v:Value) (us:List Value) (Q:VK),Inv X pins σ H s->RelV x v->Vals xs us->r x xs H Q ->
  wpAny (model X.prog X.w) X.A (call (.builtin id) (v::us)) (EP X pins σ Q) X.xe s
section
variable {X:Cx} {a b:Expr} {ta tb:TE} {pos:Pos}
theorem Zaw {r:R2} (hr:IxR X r) (ha:PE X a ta) (hb:PE X b tb) (hs:ZiK b):PE X (.Subscript a b pos) (tOp r ta tb):=by
 intro pins s σ H Q I h
 exact Subscript_ (Zlt ha hb I h λv u s2 x y H2 I2 rx ry q=>hr a b pins s2 σ H2 x y v u Q I2 rx ry q (hs _ _))
def ZlB (K:PySem.W.Frag):R2:=λx y H Q=>∃ p xs i v,x=.ref p/\y=.int i/\SqL K H p xs/\atI xs i=some v/\Q v H
def ZlC (K:PySem.W.Frag):R2:=λx y H Q=>∃ p xs i v,x=.ref p/\y=.int i/\SqT K H p xs/\atI xs i=some v/\Q v H
def Zm5:R2:=λx y H Q=>∃ z i c,x=.str z/\y=.int i/\z.length<=sizeLine/\atI z.cps.toList i=some c/\Q (.str ⟨#[c]⟩) H
theorem Zes:IxR X (ZlB X.K):=by
 intro value slice pins s σ H x y v u Q I rx ry h hs
 obtain ⟨p,xs,i,z,rfl,rfl,hq,he,q⟩:=h
 cases rx
 obtain ⟨t,rfl⟩:=ry
 obtain ⟨its,r,pl,hz⟩:=I.list hq
 obtain ⟨j,h1,h2,h3,h4,h5⟩:=Zf4 he
 obtain ⟨w,ew,rw'⟩:=r.get h2
 have hl:=r.length
 have hn:=ZdT
 have fin:EP X pins σ Q w s:=⟨z,H,I,rw',q⟩
 by_cases h0:0<=i
 ·have hj:i.toNat=j:=by
   rw [seqIndex_of h0 h5] at h1
   exact Option.some.inj h1
  exact item_listR pl.isList h0 (by omega) (by rw [hj];simpa using ew) fin hs
 ·have hj:(i+(its.toArray.size:Int)).toNat=j:=by
   rw [seqIndex_neg (by omega) h4] at h1
   rw [List.size_toArray,<-hl]
   exact Option.some.inj h1
  exact subscriptTail_builtinR (x:=w) pl.isList.typeIs slot_list_getitem.lookup
   (wpAny_getItem_list_neg (Q:=λr s'=>r=w/\EP X pins σ Q r s') pl.isList (by omega) (by rw [List.size_toArray] <;> omega) (by omega) (by rw [hj];simpa using ew) ⟨rfl,fin⟩) hs
theorem Zj5:IxR X (ZlC X.K):=by
 intro value slice pins s σ H x y v u Q I rx ry h hs
 obtain ⟨p,xs,i,z,rfl,rfl,hq,he,q⟩:=h
 cases rx
 obtain ⟨t,rfl⟩:=ry
 obtain ⟨its,r,pl,hz⟩:=I.tuple hq
 obtain ⟨j,h1,h2,h3,h4,h5⟩:=Zf4 he
 obtain ⟨w,ew,rw'⟩:=r.get h2
 have hl:=r.length
 have hn:=ZdT
 have fin:EP X pins σ Q w s:=⟨z,H,I,rw',q⟩
 exact subscriptTail_builtinR (x:=w) pl.typeIs slot_tuple_getitem.lookup
  (getItem_tuple (j:=j) (Q:=λr s'=>r=w/\EP X pins σ Q r s') pl (by omega) (by omega) (by rw [List.size_toArray,<-hl];exact h1) (by simpa using ew) ⟨rfl,fin⟩) hs
def rIx (K:PySem.W.Frag):R2:=λx y H Q=>ZlB K x y H Q\/ZlC K x y H Q\/Zm5 x y H Q
theorem Zfs (its:List Value) (n j:Nat) (u:Value):Obj.mapSeq (·.setIfInBounds j u) { cls:=.type "list", data:=.seq its.toArray n }={ cls:=.type "list", data:=.seq (its.set j u).toArray n }:=by
 simp [Obj.mapSeq]
theorem Inv.lst {pins:List (Addr×Obj)} {σ:St} {H:Hp} {s:Shared} {p:Addr} {xs:List V} (I:Inv X pins σ H s) (h:H p=some (.lst xs)) :
  ∃ (its:List Value) (n:Nat),Vals xs its/\s.heap.get? p=some { cls:=.type "list", data:=.seq its.toArray n }/\xs.length<=sizeLine:=by
 obtain ⟨z,its,n,r,e⟩:=I.hok p _ h
 exact ⟨its,n,r,e,z⟩
theorem Inv.lstUpd {pins:List (Addr×Obj)} {σ:St} {H:Hp} {s:Shared} {p:Addr} {xs ys:List V} {its its':List Value} {n n':Nat} {f:Obj->Obj} (I:Inv X pins σ H s) (h:H p=some (.lst xs))
  (ho:s.heap.get? p=some { cls:=.type "list", data:=.seq its.toArray n }) (hf:f { cls:=.type "list", data:=.seq its.toArray n }={ cls:=.type "list", data:=.seq its'.toArray n' }) (r:Vals ys its') (hz:ys.length<=sizeLine) (t:Nat) :
  Inv X pins σ (upd H p (.lst ys)) { s with heap:=s.heap.update p f,toks:=t }:=by
 have e:(s.heap.update p f).get? p=some { cls:=.type "list", data:=.seq its'.toArray n' }:=by
  rw [Heap.get?_update_self f ho (by rw [hf] <;> rfl),hf]
 refine I.write (x:=p) (e:=p) (by rw [h];trivial) (.inl rfl) (λb u hb q=>(Heap.get?_update_other _ _ (Ne.symm hb)).trans q) ⟨_,e⟩ ?_
 exact ⟨hz,its',n',r,e⟩
def ZlD:V->V->V->Hp->(Hp->Prop)->Prop:=λo i v H Q=>∃ p xs k j,o=.ref p/\i=.int k/\H p=some (.lst xs)/\ixN xs.length k=some j/\Q (upd H p (.lst (xs.set j v)))
theorem Zhd:Zmh X ZlD:=by
 intro pins s σ H o i v ov iv u Q I ro ri rv h
 obtain ⟨p,xs,k,j,rfl,rfl,hp,hj,q⟩:=h
 cases ro
 obtain ⟨t,rfl⟩:=ri
 obtain ⟨its,n,r,ho,hz⟩:=I.lst hp
 obtain ⟨h1,h2,h3,h4⟩:=Zer hj
 have hl:=r.length
 have hn:=ZdT
 have I':Inv X pins σ (upd H p (.lst (xs.set j v))) { s with heap:=s.heap.update p (Obj.mapSeq (·.setIfInBounds j u)) }:=
  I.lstUpd hp ho (Zfs its n j u) (r.set rv j) (by rw [List.length_set];exact hz) s.toks
 by_cases h0:0<=k
 ·have hk:k.toNat=j:=by
   rw [seqIndex_of h0 h4] at h1
   exact Option.some.inj h1
  exact PySem.W.ki_setAt ho h0 (by omega) (by rw [List.size_toArray,<-hl];exact h4) (by rw [hk];exact ⟨_,I',q⟩)
 ·have hk:(k+(its.toArray.size:Int)).toNat=j:=by
   rw [seqIndex_neg (by omega) h3] at h1
   rw [List.size_toArray,<-hl]
   exact Option.some.inj h1
  exact PySem.W.ki_setBack ho (by omega) (by rw [List.size_toArray,<-hl];exact h3) (by omega) (by rw [hk];exact ⟨_,I',q⟩)
theorem Zd0 (lo hi:Option Int) (n:Nat):(sliceBounds lo hi none n).1=((HT.sIx n 0 lo:Nat):Int)/\(sliceBounds lo hi none n).2.1=((HT.sIx n n hi:Nat):Int)/\(sliceBounds lo hi none n).2.2=1:=by
 refine ⟨?_,?_,rfl⟩
 ·cases lo with
  | none=>simp [sliceBounds,HT.sIx]
  | some i=>
   simp only [sliceBounds,HT.sIx,Option.getD_none,show (1:Int) > 0 by decide,if_true]
   by_cases h:i<0
   ·simp only [h,if_true] <;> omega
   ·simp only [h,if_false] <;> omega
 ·cases hi with
  | none=>simp [sliceBounds,HT.sIx]
  | some i=>
   simp only [sliceBounds,HT.sIx,Option.getD_none,show (1:Int) > 0 by decide,if_true]
   by_cases h:i<0
   ·simp only [h,if_true] <;> omega
   ·simp only [h,if_false] <;> omega
theorem Zdu (its:List Value) (lo hi:Option Int):slicePick its.toArray lo hi none=((its.drop (HT.sIx its.length 0 lo)).take (HT.sIx its.length its.length hi-HT.sIx its.length 0 lo)).toArray:=by
 obtain ⟨h1,h2,h3⟩:=Zd0 lo hi its.toArray.size
 unfold slicePick
 rw [h1,h2,h3]
 simp only [sliceRange_one,pick_run,List.size_toArray] <;> rfl
def Zmo (K:PySem.W.Frag):V->Option Int->Option Int->Hp->VK->Prop:=λx lo hi H Q=>∃ a xs,x=.ref a/\SqL K H a xs/\∀ p,H p=none->Q (.ref p) (upd H p (.lst (Zca xs lo hi)))
theorem ZiL:SlR X (Zmo X.K):=by
 intro pins s σ H x v vl vu lo hi sl Q I rx hs pl pu h
 obtain ⟨a,xs,rfl,hx,q⟩:=h
 cases rx
 obtain ⟨its,r,ht,hz⟩:=I.list hx
 have hlen:=r.length
 refine ⟨"list", _,slot_list_getitem.lookup,ht.isList.typeIs,?_⟩
 refine wpAny_getItem_list_slice ht.isList hs pl pu .none (by simp) ?_ (by rw [List.size_toArray] <;> omega)
 rw [Zdu,<-hlen]
 refine ⟨.ref s.heap.objs.size,_,I.laid (t':=s.toks) (o:=.lst (Zca xs lo hi)) (λb ob q=>Heap.get?_push_of_some _ q) (Nat.le_refl _) ?_,rfl,q _ (I.hok.fresh (Nat.le_refl _))⟩
 exact ⟨Nat.le_trans (ZcR xs lo hi) hz,_,0,(r.drop (HT.sIx xs.length 0 lo)).take (HT.sIx xs.length xs.length hi-HT.sIx xs.length 0 lo),Heap.get?_push_size _ rfl⟩
def Zdv:V->Bool
 | .non=>true
 | .bl _=>true
 | .int _=>true
 | .str _=>true
 | _=>false
def eqV:V->V->Bool
 | .non,.non=>true
 | .bl a,.bl b=>a == b
 | .bl a,.int b=>(if a then 1 else 0) == b
 | .int a,.bl b=>a == (if b then 1 else 0)
 | .int a,.int b=>a == b
 | .str a,.str b=>a == b
 | _,_=>false
theorem Zj6 {A:Around} {s:Shared} {y x:V} {u v:Value} (ry:RelV y u) (rx:RelV x v) (fy:Zdv y=true) (fx:Zdv x=true):SeqAt.EqAt A s u v (eqV y x):=by
 cases y with
 | non=>
  cases ry
  cases x with
  | non=>cases rx;exact SeqAt.EqAt.same _
  | bl b=>cases rx;exact SeqAt.EqAt.none_bool b
  | int b=>obtain ⟨t,rfl⟩:=rx;exact SeqAt.EqAt.none_int b t
  | str b=>obtain ⟨t,rfl⟩:=rx;exact SeqAt.EqAt.none_str b t
  | _=>exact absurd (show false=true from fx) Bool.false_ne_true
 | bl a=>
  cases ry
  cases x with
  | non=>cases rx;exact SeqAt.EqAt.bool_none a
  | bl b=>cases rx;exact SeqAt.EqAt.bool_bool a b
  | int b=>obtain ⟨t,rfl⟩:=rx;exact SeqAt.EqAt.bool_int a b t
  | str b=>obtain ⟨t,rfl⟩:=rx;exact SeqAt.EqAt.bool_str a b t
  | _=>exact absurd (show false=true from fx) Bool.false_ne_true
 | int a=>
  obtain ⟨t',rfl⟩:=ry
  cases x with
  | non=>cases rx;exact SeqAt.EqAt.int_none a t'
  | bl b=>cases rx;exact SeqAt.EqAt.int_bool a t' b
  | int b=>obtain ⟨t,rfl⟩:=rx;exact SeqAt.EqAt.int_int a t' b t
  | str b=>obtain ⟨t,rfl⟩:=rx;exact SeqAt.EqAt.int_str a t' b t
  | _=>exact absurd (show false=true from fx) Bool.false_ne_true
 | str a=>
  obtain ⟨t',rfl⟩:=ry
  cases x with
  | non=>cases rx;exact SeqAt.EqAt.str_none a t'
  | bl b=>cases rx;exact SeqAt.EqAt.str_bool a t' b
  | int b=>obtain ⟨t,rfl⟩:=rx;exact SeqAt.EqAt.str_int a t' b t
  | str b=>obtain ⟨t,rfl⟩:=rx;exact SeqAt.EqAt.str_str a t' b t
  | _=>exact absurd (show false=true from fx) Bool.false_ne_true
 | _=>exact absurd (show false=true from fy) Bool.false_ne_true
def eqU (x:V) (u:Value):Bool:=match u with
 | .none=>eqV .non x
 | .bool b=>eqV (.bl b) x
 | .int i _=>eqV (.int i) x
 | .str z _=>eqV (.str z) x
 | _=>false
theorem Zh2 {x y:V} {u:Value} (r:RelV y u) (f:Zdv y=true):eqU x u=eqV y x:=by
 cases y with
 | non=>cases r;rfl
 | bl b=>cases r;rfl
 | int i=>obtain ⟨t,rfl⟩:=r;rfl
 | str z=>obtain ⟨t,rfl⟩:=r;rfl
 | _=>exact absurd (show false=true from f) Bool.false_ne_true
theorem ZcS {x:V}:∀ {xs:List V} {us:List Value},Vals xs us->xs.all Zdv=true->us.any (eqU x)=xs.any λy=>eqV y x
 | _,_,.nil,_=>rfl
 | y::xs,u::us,.cons r t,f=>by
  rw [List.all_cons,Bool.and_eq_true] at f
  rw [List.any_cons,List.any_cons,Zh2 r f.1,ZcS t f.2]
theorem Zcf {A:Around} {s:Shared} {x:V} {v:Value} (rx:RelV x v) (fx:Zdv x=true):∀ {xs:List V} {us:List Value},Vals xs us->xs.all Zdv=true->∀ u∈us,SeqAt.EqAt A s u v (eqU x u)
 | _,_,.nil,_=>λu hu=>by cases hu
 | y::xs,u::us,.cons r t,f=>λu' hu=>by
  rw [List.all_cons,Bool.and_eq_true] at f
  rcases List.mem_cons.mp hu with rfl | hu
  ·rw [Zh2 r f.1];exact Zj6 r rx f.1 fx
  ·exact Zcf rx fx t f.2 u' hu
def inV (x:V) (xs:List V):Bool:=xs.any λy=>eqV y x
def rIn (K:PySem.W.Frag) (neg:Bool):R2:=λx y H Q=>∃ p xs,y=.ref p/\(SqL K H p xs\/SqT K H p xs)/\Zdv x=true/\xs.all Zdv=true/\Q (.bl (if neg then !inV x xs else inV x xs)) H
theorem Zf5:OpR X (compareOp .In) (rIn X.K false):=by
 intro pins s σ H x y v u Q I rx ry h
 obtain ⟨p,xs,rfl,hq,fx,fs,q⟩:=h
 cases ry
 rcases hq with hq | hq
 ·obtain ⟨its,r,pl,hz⟩:=I.list hq
  refine SeqAt.in_listAt (eqU x) pl.isList (λw hw=>Zcf rx fx r fs w (by simpa using hw)) ⟨.bl _,H,I,rfl,?_⟩
  rw [show its.toArray.any (eqU x)=its.any (eqU x) by simp,ZcS r fs]
  exact q
 ·obtain ⟨its,r,pl,hz⟩:=I.tuple hq
  refine SeqAt.in_tupleAt (eqU x) pl (λw hw=>Zcf rx fx r fs w (by simpa using hw)) ⟨.bl _,H,I,rfl,?_⟩
  rw [show its.toArray.any (eqU x)=its.any (eqU x) by simp,ZcS r fs]
  exact q
theorem Zd1:OpR X (compareOp .NotIn) (rIn X.K true):=by
 intro pins s σ H x y v u Q I rx ry h
 obtain ⟨p,xs,rfl,hq,fx,fs,q⟩:=h
 cases ry
 rcases hq with hq | hq
 ·obtain ⟨its,r,pl,hz⟩:=I.list hq
  refine SeqAt.notIn_listAt (eqU x) pl.isList (λw hw=>Zcf rx fx r fs w (by simpa using hw)) ⟨.bl _,H,I,rfl,?_⟩
  rw [show its.toArray.any (eqU x)=its.any (eqU x) by simp,ZcS r fs]
  exact q
 ·obtain ⟨its,r,pl,hz⟩:=I.tuple hq
  refine SeqAt.notIn_tupleAt (eqU x) pl (λw hw=>Zcf rx fx r fs w (by simpa using hw)) ⟨.bl _,H,I,rfl,?_⟩
  rw [show its.toArray.any (eqU x)=its.any (eqU x) by simp,ZcS r fs]
  exact q
theorem Zd2:Zbc X (.builtin "len") (λxs H Q=>∃ p ys,xs=[.ref p]/\(SqL X.K H p ys\/SqT X.K H p ys)/\Q (.int ys.length) H):=by
 intro pins s σ H xs us Q I r h
 obtain ⟨p,ys,rfl,hq,q⟩:=h
 obtain ⟨u,rfl,rx⟩:=Zhc r
 cases rx
 have hn:=ZdT
 rcases hq with hq | hq
 ·obtain ⟨its,r',pl,hz⟩:=I.list hq
  have hlen:=r'.length
  exact Calls.call_len_list pl.isList (by simp only [List.size_toArray] <;> omega) ⟨.int ys.length,H,I.tok _,⟨s.toks+1,by rw [List.size_toArray,hlen]⟩,q⟩
 ·obtain ⟨its,r',pl,hz⟩:=I.tuple hq
  have hlen:=r'.length
  exact len_tuple pl (by simp only [List.size_toArray] <;> omega) ⟨.int ys.length,H,I.tok _,⟨s.toks+1,by rw [List.size_toArray,hlen]⟩,q⟩
theorem Zd3:Zbc X (.type "list") (λxs H Q=>∃ p ys,xs=[.ref p]/\(SqL X.K H p ys\/SqT X.K H p ys)/\∀ l,H l=none->Q (.ref l) (upd H l (.lst ys))):=by
 intro pins s σ H xs us Q I r h
 obtain ⟨p,ys,rfl,hq,q⟩:=h
 obtain ⟨u,rfl,rx⟩:=Zhc r
 cases rx
 have fin:∀ (its:List Value),Vals ys its->ys.length<=sizeLine->∀ (h':Heap) (c':Nat),(∀ b o',s.heap.get? b=some o'->h'.get? b=some o') ->
   h'.get? s.heap.objs.size=some { cls:=.type "list", dict:=none,data:=.seq its.toArray c',slots:=#[] }->EP X pins σ Q (.ref s.heap.objs.size) { s with heap:=h' }:=λits r' hz h' c' kp e=>
  ⟨.ref s.heap.objs.size,_,I.laid (t':=s.toks) kp (Nat.le_refl _) (show ObjOk X.prog X.w _ h' _ (.lst ys) from ⟨hz,its,c',r',e⟩),rfl,q _ (I.hok.fresh (Nat.le_refl _))⟩
 rcases hq with hq | hq
 ·obtain ⟨its,r',pl,hz⟩:=I.list hq
  have hlen:=r'.length
  obtain ⟨o,ho,hc,n,hd⟩:=pl.isList
  exact call_list_seq p (.inl rfl) ho hc hd (λh' c' kp e=>fin its r' hz h' c' kp e) (by simp only [List.size_toArray] <;> omega)
 ·obtain ⟨its,r',pl,hz⟩:=I.tuple hq
  have hlen:=r'.length
  obtain ⟨o,ho,hc,n,hd⟩:=pl
  exact call_list_seq p (.inr rfl) ho hc hd (λh' c' kp e=>fin its r' hz h' c' kp e) (by simp only [List.size_toArray] <;> omega)
def tyV (K:PySem.W.Frag) (T:String) (x:V) (H:Hp):Prop:=match x with
 | .str _=>T = "str"
 | .int _=>T = "int"
 | .ref p=>(T = "list" /\ ∃ xs,SqL K H p xs)\/(T = "tuple" /\ ∃ o,K.lookup p=some o/\o.cls=.type "tuple" /\ o.dict=none) \/
   (T = "dict" /\ ((∃ kvs,H p=some (.dK kvs))\/∃ kvs,H p=some (.dT kvs)))\/(T = "set" /\ ∃ S n,H p=some (.set S n))
 | _=>False
theorem Zj7 {pins:List (Addr×Obj)} {σ:St} {H:Hp} {s:Shared} {T:String} {x:V} {v:Value} (I:Inv X pins σ H s) (r:RelV x v) (ty:tyV X.K T x H) :
  s.TypeIs v T/\∀ a,v=.ref a->∃ ob,s.heap.get? a=some ob/\ob.dict=none:=by
 cases x with
 | str z=>
  obtain ⟨t,rfl⟩:=r
  cases (show T = "str" from ty)
  exact ⟨typeIs_str s z t,λ_ e=>nomatch e⟩
 | int i=>
  obtain ⟨t,rfl⟩:=r
  cases (show T = "int" from ty)
  exact ⟨typeIs_int s i t,λ_ e=>nomatch e⟩
 | ref p=>
  cases r
  rcases ty with ⟨rfl,xs,hq⟩ | ⟨rfl,o,hk,hc,hd⟩ | ⟨rfl,hk⟩ | ⟨rfl,S,n,hk⟩
  ·obtain ⟨its,_,pl,_⟩:=I.list hq
   refine ⟨pl.isList.typeIs,λa e=>?_⟩
   cases e
   obtain ⟨o,n,e,c,hd,_⟩:=pl
   exact ⟨o,e,hd⟩
  ·refine ⟨⟨o,I.kIn p o hk,hc⟩,λa e=>?_⟩
   cases e
   exact ⟨o,I.kIn _ o hk,hd⟩
  ·have z:∃ o,s.heap.get? p=some o/\o.ExactDict:=by
    rcases hk with ⟨kvs,hk⟩ | ⟨kvs,hk⟩
    ·obtain ⟨_,_,_,_,o,_,_,e,ex,_⟩:=I.hok p _ hk
     exact ⟨o,e,ex⟩
    ·obtain ⟨_,_,_,_,o,_,_,e,ex,_⟩:=I.hok p _ hk
     exact ⟨o,e,ex⟩
   obtain ⟨o,e,ex⟩:=z
   refine ⟨⟨o,e,ex.1⟩,λa e2=>?_⟩
   cases e2
   exact ⟨o,e,ex.2.1⟩
  ·obtain ⟨o,_,_,_,e,ex,_⟩:=I.hok p _ hk
   refine ⟨⟨o,e,ex.1⟩,λa e2=>?_⟩
   cases e2
   exact ⟨o,e,ex.2.1⟩
 | _=>exact False.elim ty
def ZnV (K:PySem.W.Frag) (T:String) (r:V->List V->Hp->VK->Prop) (to:TE):TE:=λσ H Q=>to σ H λx H1=>tyV K T x H1/\r x [] H1 Q
def tBM (K:PySem.W.Frag) (T:String) (r:V->List V->Hp->VK->Prop) (to:TE) (t:TA):TE:=λσ H Q=>to σ H λx H1=>tyV K T x H1/\t σ H1 λxs H2=>r x xs H2 Q
variable {o e:Expr} {es:List Expr} {to:TE} {t:TA} {name:Str} {apos cpos:Pos} {T id:String} {r:V->List V->Hp->VK->Prop}
theorem ZbM (pa:PlainAttrs T) (slot:Slot T name id) (hty:typeOf (.builtin id)=pure (.type "method_descriptor")) (hm:MtR X id r) (ho:PE X o to) (ha:PA X (e::es) t)
  (hbase:attributeBase o name X.env (eval o X.env)=eval o X.env:=by rfl)
  (hfew:((backTo cpos (starEach (e::es) X.env)).all (λx=>!x.1) && (backToKw cpos (keywordEach [] X.env)).all (λx=>x.1.isSome)
   && decide ((e::es).length+([]:List Keyword).length+(if ([]:List Keyword).isEmpty then 0 else 1)<30))=true:=by rfl)
  (hline:(apos.endLine == cpos.line)=true:=by rfl) (hs:starEach (e::es) X.env=(false,eval e X.env)::starEach es X.env:=by rfl) (hplain:(backTo cpos (starEach es X.env)).any (·.1)=false:=by rfl) :
  PE X (.Call (.Attribute o name apos) (e::es) [] cpos) (tBM X.K T r to t):=by
 intro pins s σ H Q I h
 refine wpAny_Call_method_late hbase hfew hline rfl (thn (ho pins s σ H _ I h) λv s1 ⟨x,H1,I1,r1,ty,q1⟩=>?_)
 obtain ⟨h1,h2⟩:=Zj7 I1 r1 ty
 refine ⟨T,id,pa,slot,hty,h1,h2,?_⟩
 have hA:=ha cpos pins s1 σ H1 _ I1 q1
 rw [hs] at hA ⊢
 refine Calls.callWith_builtin (by show (false || (backTo cpos (starEach es X.env)).any (·.1))=false;rw [hplain] <;> rfl) (Calls.evalArgs_plain ?_)
 exact thn hA λus s2 ⟨vs,H2,I2,r2,q2⟩=>hm pins s2 σ H2 x vs v us Q I2 r1 r2 q2
/- xs.append(e),list.index on a module's tuple .. are MtR facts of 06m -/
end
end L2
namespace L2
open PySem PySem.Spec PyProof.Rows
def MtM (X:Cx) (id:String) (r:V->List V->Hp->VK->Prop):Prop:=
 ∀ (pins:List (Addr×Obj)) (s:Shared) (σ:St) (H:Hp) (x:V) (xs:List V) (v:Value) (us:List Value) (Q:VK),Inv X pins σ H s->RelV x v->Vals xs us->r x xs H Q ->
  wpAny (model X.prog X.w) X.A (call (.builtin id) (v::us)) (EP X pins σ Q) X.xe s
theorem Vals.one:∀ {x:V} {us:List Value},Vals [x] us->∃ u,us=[u]/\RelV x u
 | _,_,.cons r .nil=>⟨_,rfl,r⟩
theorem Vals.two:∀ {x y:V} {us:List Value},Vals [x,y] us->∃ u v,us=[u,v]/\RelV x u/\RelV y v
 | _,_,_,.cons r (.cons q .nil)=>⟨_,_,rfl,r,q⟩
theorem Vals.eraseIdx:∀ {xs:List V} {us:List Value} (i:Nat),Vals xs us->Vals (xs.eraseIdx i) (us.eraseIdx i)
 | _,_,_,.nil=>.nil
 | _,_,0,.cons _ t=>t
 | _,_,i+1,.cons r t=>.cons r (Vals.eraseIdx i t)
theorem Vals.reverse {xs:List V} {us:List Value} (h:Vals xs us):Vals xs.reverse us.reverse:=by
 induction h with
 | nil=>exact .nil
 | cons r t ih=>rw [List.reverse_cons,List.reverse_cons];exact Vals.append ih (.cons r .nil)
theorem Zcg {α:Type}:∀ (l:List α) (i:Nat),(l.eraseIdx i).length<=l.length
 | [],_=>Nat.le_refl _
 | _::_,0=>Nat.le_succ _
 | _::r,i+1=>Nat.succ_le_succ (Zcg r i)
section
variable {X:Cx} {pins:List (Addr×Obj)} {σ:St} {H:Hp} {s:Shared} {l b:Addr} {xs ys zs:List V}
theorem Inv.lset {its its':List Value} {n:Nat} {f:Array Value->Array Value} {t':Nat} (I:Inv X pins σ H s) (hH:H l=some (.lst xs))
  (e:s.heap.get? l=some { cls:=.type "list", data:=.seq its.toArray n }) (hf:f its.toArray=its'.toArray) (hv:Vals ys its') (hz:ys.length<=sizeLine) :
  Inv X pins σ (upd H l (.lst ys)) { s with heap:=s.heap.update l (Obj.mapSeq f),toks:=t' }:=by
 have q:=PySem.IsL.update e f
 rw [hf] at q
 refine I.write (x:=l) (e:=l) (by rw [hH];exact trivial) (.inl rfl) (λb' u hb hu=>(Heap.get?_update_other s.heap (Obj.mapSeq f) (Ne.symm hb)).trans hu) ⟨_,q⟩ ?_
 exact ⟨hz,its',_,hv,q⟩
theorem Inv.lnew {its:List Value} {t':Nat} (I:Inv X pins σ H s) (hv:Vals ys its) (hz:ys.length<=sizeLine) :
  Inv X pins σ (upd H s.heap.objs.size (.lst ys)) { s with heap:=s.heap.push { cls:=.type "list", data:=.seq its.toArray },toks:=t' }:=
 I.laid (λ_ _ q=>Heap.get?_push_of_some _ q) (Nat.le_refl _) ⟨hz,its,0,hv,Heap.get?_push_size _ rfl⟩
theorem Inv.fresh (I:Inv X pins σ H s):H s.heap.objs.size=none:=I.hok.fresh (Nat.le_refl _)
theorem Inv.lstM (I:Inv X pins σ H s) (hH:H l=some (.lst xs)):xs.length<=sizeLine/\∃ (its:List Value) (n:Nat),Vals xs its/\xs.length=its.length/\s.heap.get? l=some { cls:=.type "list", data:=.seq its.toArray n }:=by
 obtain ⟨z,its,n,r,e⟩:=I.hok l _ hH
 exact ⟨z,its,n,r,r.length,e⟩
end
section
variable {X:Cx}
def ZiM:V->List V->Hp->VK->Prop:=λx vs H Q=>∃ l xs y,x=.ref l/\vs=[y]/\H l=some (.lst xs)/\xs.length<sizeLine/\Q .non (upd H l (.lst (xs++[y])))
theorem ZaO:MtM X "list.append" ZiM:=by
 intro pins s σ H x vs v us Q I rx rv h
 obtain ⟨l,xs,y,rfl,rfl,hH,hz,q⟩:=h
 cases rx
 obtain ⟨u,rfl,ru⟩:=rv.one
 obtain ⟨z,its,n,r,hl,e⟩:=I.lstM hH
 refine call_meets F.slot_list_append ⟨_,e,rfl⟩ F.entry_list_append (F.args_list_append_2 _ _) (PySem.list_append l its.toArray n u (by rw [List.size_toArray];omega)) ⟨e,?_⟩
 refine ⟨.non,_,I.lset (its':=its++[u]) hH e (by simp) (r.append (.cons ru .nil)) ?_,rfl,q⟩
 rw [List.length_append,List.length_singleton]
 omega
def ZlE:V->List V->Hp->VK->Prop:=λx vs H Q=>∃ l b xs zs,x=.ref l/\vs=[.ref b]/\H l=some (.lst xs)/\H b=some (.lst zs)/\xs.length+zs.length<=sizeLine/\Q .non (upd H l (.lst (xs++zs)))
def ZnW:V->List V->Hp->VK->Prop:=λx vs H Q=>∃ l xs y,x=.ref l/\vs=[]/\H l=some (.lst xs)/\xs[xs.length-1]?=some y/\Q y (upd H l (.lst xs.dropLast))
def Zj8:V->List V->Hp->VK->Prop:=λx vs H Q=>∃ l xs i k y,x=.ref l/\vs=[.int i]/\H l=some (.lst xs)/\-(2 ^ 63)<=i/\i<2 ^ 63/\seqIndex? i xs.length=some k/\xs[k]?=some y/\Q y (upd H l (.lst (xs.eraseIdx k)))
theorem Zhe:MtM X "list.pop" Zj8:=by
 intro pins s σ H x vs v us Q I rx rv h
 obtain ⟨l,xs,i,k,y,rfl,rfl,hH,h1,h2,hk,hy,q⟩:=h
 cases rx
 obtain ⟨u,rfl,ru⟩:=rv.one
 obtain ⟨t,rfl⟩:=ru
 obtain ⟨z,its,n,r,hl,e⟩:=I.lstM hH
 obtain ⟨w,hw,rw'⟩:=r.get hy
 refine call_meets F.slot_list_pop ⟨_,e,rfl⟩ F.entry_list_pop (F.args_list_pop_2 _ _)
  (MeetsSeq.list_pop_at l its.toArray n i t k w (fitsIndex_both h1 h2) (by rw [List.size_toArray,<-hl];exact hk) (by rw [<-Array.getElem?_toList];exact hw) (by rw [List.size_toArray];omega)) ⟨e,?_⟩
 refine ⟨y,_,I.lset (its':=its.eraseIdx k) hH e ?_ (r.eraseIdx k) ?_,rw',q⟩
 ·show its.toArray.eraseIdxIfInBounds k=(its.eraseIdx k).toArray
  rw [List.eraseIdxIfInBounds_toArray]
 ·have:=Zcg xs k
  omega
def Zlj:V->List V->Hp->VK->Prop:=λx vs H Q=>∃ l xs,x=.ref l/\vs=[]/\H l=some (.lst xs)/\Q .non (upd H l (.lst xs.reverse))
def Zmp:V->List V->Hp->VK->Prop:=λx vs H Q=>∃ l xs,x=.ref l/\vs=[]/\H l=some (.lst xs)/\Q .non (upd H l (.lst []))
def Zm6:R2:=λx y H Q=>∃ l b xs zs,x=.ref l/\y=.ref b/\H l=some (.lst xs)/\H b=some (.lst zs)/\xs.length+zs.length<=sizeLine/\∀ p,H p=none->Q (.ref p) (upd H p (.lst (xs++zs)))
theorem Zb6:OpR X (binaryOp .Add) Zm6:=by
 intro pins s σ H x y v u Q I rx ry h
 obtain ⟨l,b,xs,zs,rfl,rfl,hH,hB,hz,q⟩:=h
 cases rx
 cases ry
 obtain ⟨z,its,n,r,hl,e⟩:=I.lstM hH
 obtain ⟨z2,its2,n2,r2,hl2,e2⟩:=I.lstM hB
 refine PySem.P.add_list e e2 ?_ (by rw [List.size_toArray,List.size_toArray];omega)
 have ea:its.toArray++its2.toArray=(its++its2).toArray:=by simp
 rw [ea]
 exact ⟨.ref _,_,I.lnew (t':=s.toks) (r.append r2) (by rw [List.length_append];omega),rfl,q _ I.fresh⟩
def ZnX:R2:=λx y H Q=>∃ l k xs,x=.ref l/\y=.int k/\H l=some (.lst xs)/\-(2 ^ 63)<=k/\k<2 ^ 63/\xs.length * k.toNat<=sizeLine /\
 ∀ p,H p=none->Q (.ref p) (upd H p (.lst (List.replicate k.toNat xs).flatten))
end
section
variable {prog:Program} {w:World} {A:Around} {E:Value->Shared->Prop} {s:Shared}
end
section
variable {X:Cx}
end
end L2
namespace Att
open PySem PySem.W PySem.Calls PyProof.Rows
theorem ZcT {P:Params} {h:Heap}:∀ (ns:List Int) (vs:List Value),WellAll P h vs (ns.map WData.int)->IntsAre vs ns:=by
 intro ns
 induction ns with
 | nil=>
  intro vs w
  rw [List.map_nil] at w
  cases w
  exact .nil
 | cons n ns ih=>
  intro vs w
  rw [List.map_cons] at w
  cases w with
  | cons a b=>
   cases a
   exact .cons _ _ (ih _ b)
theorem Zf6 {l:OpenLaw} {n:Nat} (hn:l.most=some n) {P:Params} {h:Heap} {args:List WData} {vals:List Value}
  (hpre:l.row.toRowW.claim.pre args=true) (hwl:WellAll P h vals args) :
  ∃ a vs ns,vals=[Value.ref a]/\args=[WData.list (ns.map WData.int)]/\h.get? a=some { cls:=.type "list", data:=.seq vs.toArray }/\IntsAre vs ns/\ns.length<=n:=by
 have hsh:WShape.hasAll [] args [.list .int]=true:=(pre_splitW hpre).1
 have hc:l.pre.holds [] { args:=args }=true:=(pre_splitW hpre).2
 obtain ⟨d,r,rfl,h1,h2⟩:=hasAllW_cons hsh
 obtain rfl:=hasAllW_nil h2
 obtain ⟨xs,rfl,h3⟩:=hasW_list h1
 obtain ⟨ns,rfl⟩:=items_int h3
 have hlen:ns.length<=n:=by
  unfold OpenLaw.pre at hc
  have h4:(WTm.not (.lt (.lit (.int (n:Int))) (.len (.arg 0)))).holds [] { args:=[.list (ns.map .int)] }=true:=by
   have h4:=(holds_andW hc).1
   rw [hn] at h4
   exact h4
  have h5:=condW_of h4 (w_not (w_lt w_lit (w_len_list (w_arg rfl))))
  rw [List.length_map] at h5
  refine Nat.le_of_not_lt λq=>?_
  have q':(n:Int)<((ns.length:Nat):Int):=by omega
  first
   | (rw [decide_eq_true q'] at h5;exact absurd h5 (by decide))
   | (simp at h5;omega)
 cases hwl with
 | cons w1 w2=>
  cases w2
  cases w1 with
  | list ho hall=>exact ⟨_,_,ns,rfl,rfl,ho,ZcT ns _ hall,hlen⟩
theorem Zf7 (l:OpenLaw) (args:List WData):l.row.toRowW.claim.post args (.bool true) args=true:=
 postW_of (r:=l.row.toRowW) (X:=(true == true))
  (show WShape.has [] (.bool true) .bool=true by first | rfl | decide | simp [WShape.has,WShape.arms,WShape.armsAll])
  (show (WTm.eq .res (.lit (.bool true))).value [] { args:=args,res:=some (.bool true),after:=args }=some (.bool (true == true)) from w_eq_bool (w_res rfl) w_lit) rfl
theorem attach_call {l:OpenLaw} {n:Nat} {q:Program} {loose:List Str} {XP:(Str->Option Value)->Heap->Prop} {YP:World->Heap->Prop} {d:DefRec}
  (hn:l.most=some n) (hdf:d.params.defaults=[])
  (call:∀ (w:World) (s₀ s₁:Shared) (mg mb:Str->Option Value) (fa:Addr) (o:Obj) (pm cd doc:Value) (a:Addr) (vs:List Value) (ns:List Int),
   Ground q loose [] XP w s₀ mg mb s₁.heap->YP w s₁.heap ->
   s₁.heap.get? fa=some o->o.data=.func (docDef d.name d.params d.body d.scope pm cd doc)->s₁.heap.CodeRec cd d.name->mg d.name=some (.ref fa) ->
   s₁.heap.get? a=some { cls:=.type "list", data:=.seq vs.toArray }->IntsAre vs ns->ns.length<=n->s₁.gens=#[] ->
   codeAny (model l.prog w) callerA (.call (.ref fa) ⟨[.ref a],[]⟩) (λr s'=>r=.ok (.ret (.bool true))/\OldK s₁.heap s'.heap/\s'.os=s₁.os/\AllBare s'.gens) s₁) :
  WalkO q loose XP YP l.row.toRowW d [] (λf vs=>PySem.call f vs):=by
 intro w s₀ s₁ mg mb G Y fa o pm cd doc dV kV ho hd hcd hD hmg hg args vals as hpre hlay hrd hwl hlo
 obtain rfl:dV=.none:=Dflts.none hD hdf
 obtain rfl:kV=.none:=Dflts.noKw hD
 obtain ⟨a,vs,ns,rfl,rfl,hobj,hints,hlen⟩:=Zf6 hn hpre hwl
 refine enter_call (codeAny_mono (call w s₀ s₁ mg mb fa o pm cd doc a vs ns G Y ho (fd_plain hd) hcd hmg hobj hints hlen hg) λr s' hq=>?_)
 obtain ⟨rfl,h2,h3,h4⟩:=hq
 exact ⟨.inl ⟨.bool true,.bool true,[],rfl,λ_=>rfl,.bool true,Zf7 l _,λ_=>⟨List.Pairwise.nil,λ_ hm=>(nomatch hm)⟩⟩,h2,h3,h4⟩
section
variable {prog:Program} {w:World} {A:Around} {E:Value->Shared->Prop} {s:Shared} {K:Frag}
def Zmq (h:Heap):Heap:={ h with objs:=#[] }
def Zmr (h:Heap) (L d:Addr):List (Addr×Obj):=(List.range h.objs.size).filterMap λa=>if a=L\/a=d then none else (h.get? a).map λo=>(a,o)
end
end Att
namespace L2
open PySem PySem.Spec PyProof.Rows
theorem Zch:∀ {vs:List Value} {ns:List Int},IntsAre vs ns->Vals (ns.map V.int) vs
 | _,_,.nil=>.nil
 | _,_,.cons n t h=>.cons ⟨t,rfl⟩ (Zch h)
def ZlF (H:Hp):Prop:=∀ b,H b=none\/∃ o xs,H b=some (.frz o (.lst xs))
theorem Zhf {P:Program} {w:World} {K:PySem.W.Frag} {mg mb:Str->Option Value} {CX:CXT} {k:Nat} {fa a:Addr} {fd:FuncData} {x:Str} {sp:Sp} {s₁:Shared} {vs:List Value} {ns:List Int}
  (KX:K.In s₁.heap) (hns:s₁.heap.Ns mainGlobals mg) (hb:s₁.heap.Ns builtinsNs mb) (hbb:∀ x:Str,x ≠ "__name__" -> mb x=bootBuiltins x) (hlim:s₁.heap.NoLimit) (hg:s₁.gens=#[])
  (ha:s₁.heap.get? a=some { cls:=.type "list", data:=.seq vs.toArray }) (hi:IntsAre vs ns) (hl:ns.length<=sizeLine) (hr:Room k callerA)
  (F:∀ base:Heap,K.In base->base.Ns mainGlobals mg->ZaK P w K mg base CX k fa fd [x] sp) (hbind:∀ (s:Shared) (u:Value),BindsTo s fd ⟨[u],[]⟩ [(x,u)])
  (hsp:∀ H:Hp,ZlF H->SqL K H a (ns.map V.int)->sp [.ref a] H (λv _=>v=.bl true) λ_ _ _=>False)
  (hCX:∀ H e s',CX [] H s₁ (λ_ _ _=>False) e s'->False) :
  codeAny (model P w) callerA (.call (.ref fa) ⟨[.ref a],[]⟩) (λr s'=>r=.ok (.ret (.bool true))/\OldK s₁.heap s'.heap/\s'.os=s₁.os/\AllBare s'.gens) s₁:=by
 have rv:=Zch hi
 have lenV:=hi.length
 have core:∀ H:Hp,ZlF H->SqL K H a (ns.map V.int)->HOk P w H s₁.heap->(∀ b,H b≠none->b=a)->(H a≠none->K.lookup a=none) ->
   codeAny (model P w) callerA (.call (.ref fa) ⟨[.ref a],[]⟩) (λr s'=>r=.ok (.ret (.bool true))/\OldK s₁.heap s'.heap/\s'.os=s₁.os/\AllBare s'.gens) s₁:=by
  intro H hO hS hok hA hK
  have base_of:∀ {b:Addr} {o:Obj},s₁.heap.get? b=some o->H b=none->(Zg8 s₁.heap H).get? b=some o:=λe n=>Zg9 e n
  have noA:∀ {b:Addr} {o:Obj} {es:Array DictEntry} {ep:Nat},s₁.heap.get? b=some o->o.data=.dict es ep->H b=none:=λ{b o es ep} e d=>by
   cases q:H b with
   | none=>rfl
   | some u=>
    have e':b=a:=hA b (by rw [q];simp)
    subst e'
    rw [ha] at e;cases e
    have d':Data.seq vs.toArray _=Data.dict es ep:=d
    cases d'
  have nsK:∀ {b:Addr} {m:Str->Option Value},s₁.heap.Ns b m->(Zg8 s₁.heap H).Ns b m:=λ{b m} ⟨o,es,ep,e,d,r⟩=>⟨o,es,ep,base_of e (noA e d),d,r⟩
  have hKb:K.In (Zg8 s₁.heap H):=λb o e=>base_of (KX b o e) (by
   cases q:H b with
   | none=>rfl
   | some u=>
    have e':b=a:=hA b (by rw [q];simp)
    subst e'
    rw [hK (by rw [q];simp)] at e;cases e)
  have hM:Mod K mg (Zg8 s₁.heap H):=⟨hKb,nsK hns,⟨mb,nsK hb,hbb⟩,let ⟨mc,h1,h2⟩:=hlim;⟨mc,nsK h1,h2⟩⟩
  have e0:Zli P w K mg (Zg8 s₁.heap H) callerA [] s₁ H:=⟨rfl,hM,λb o e=>Zix e,Nat.le_of_eq (ZfQ _ _),trivial,λb hb=>absurd (show b∈([]:List Addr) from hb) (by simp),hok,.of_eq hg⟩
  refine codeAny_mono ((F _ hKb (nsK hns)).run callerA [] s₁ H ⟨[.ref a],[]⟩ [.ref a] [.ref a] _ _ hr e0 (hbind s₁ (.ref a)) (.cons rfl .nil) (hsp H hO hS)) λr s' h=>?_
  cases r with
  | error e=>exact (hCX H e s' h).elim
  | ok fl=>
   cases fl with
   | next=>exact False.elim h
   | brk=>exact False.elim h
   | cont=>exact False.elim h
   | ret u=>
    obtain ⟨v,H',os,bare,un,hok',r',q⟩:=h
    have q':v=.bl true:=q
    subst q'
    obtain rfl:u=Value.bool true:=r'
    refine ⟨rfl,OldK.of_keep λb o e=>?_,os,bare⟩
    cases q:H b with
    | none=>exact un.keep b o e q (by intro z;exact absurd (show b∈([]:List Addr) from z) (by simp)) (by simp)
    | some u=>
     rcases hO b with z | ⟨ob,xs,z⟩
     ·rw [q] at z;cases z
     ·have z2:=un.frzs b ob _ z
      obtain ⟨e1,_⟩:=hok b _ z
      obtain ⟨e2,_⟩:=hok' b _ z2
      rw [e] at e1;cases e1
      exact e2
 cases hk:K.lookup a with
 | some o=>
  have e:=KX a o hk
  rw [ha] at e
  cases e
  refine core (λ_=>none) (λ_=>.inl rfl) (.inr ⟨_,vs.toArray,_,hk,rfl,rfl,rfl,by rw [List.size_toArray,lenV];exact hl,by simpa using rv⟩) (λb u z=>by have z':(none:Option HO)=some u:=z;cases z') (λb z=>absurd rfl z) λz=>absurd rfl z
 | none=>
  refine core (λb=>if b=a then some (.frz { cls:=.type "list", data:=.seq vs.toArray } (.lst (ns.map V.int))) else none) (λb=>?_) (.inl (.inr ⟨{ cls:=.type "list", data:=.seq vs.toArray },if_pos rfl⟩)) (λb u z=>?_) (λb z=>?_) λ_=>hk
  ·by_cases hb:b=a
   ·exact .inr ⟨_,_,if_pos hb⟩
   ·exact .inl (if_neg hb)
  ·by_cases hb:b=a
   ·have z':=(if_pos hb).symm.trans z
    cases z'
    subst hb
    exact ⟨ha,by rw [List.length_map];exact hl,vs,_,rv,ha⟩
   ·have z':=(if_neg hb).symm.trans z
    cases z'
  ·by_cases hb:b=a
   ·exact hb
   ·exact absurd (if_neg hb) z
end L2
namespace L2
open PySem PySem.Spec PyProof.Rows
abbrev KOf {K:PySem.W.Frag} {h:Heap} (_:K.In h):PySem.W.Frag:=K
theorem walk_of {l:PySem.W.OpenLaw} {n k:Nat} {q:Program} {loose:List Str} {XP:(Str->Option Value)->Heap->Prop} {YP:World->Heap->Prop} {d:DefRec} {K:Params->PySem.W.Frag} {CX:World->CXT} {sp:World->Sp} {x:Str}
  (hn:l.most=some n) (hn2:n<=sizeLine) (hdf:d.params.defaults=[]) (hr:Room k callerA)
  (hY:∀ (w:World) (h:Heap),YP w h->(K w.params).In h)
  (F:∀ (w:World) (mg:Str->Option Value) (fa:Addr) (h:Heap),(K w.params).In h->h.Ns mainGlobals mg->mg d.name=some (.ref fa) ->
   ∃ fd:FuncData,(∀ (s:Shared) (u:Value),BindsTo s fd ⟨[u],[]⟩ [(x,u)]) /\
    ∀ base:Heap,(K w.params).In base->base.Ns mainGlobals mg->ZaK l.prog w (K w.params) mg base (CX w) k fa fd [x] (sp w))
  (hsp:∀ (w:World) (H:Hp) (a:Addr) (ns:List Int),ns.length<=n->ZlF H->SqL (K w.params) H a (ns.map V.int)->sp w [.ref a] H (λv _=>v=.bl true) λ_ _ _=>False)
  (hCX:∀ (w:World) (H:Hp) (s:Shared) (e:Value) (s':Shared),CX w [] H s (λ_ _ _=>False) e s'->False) :
  PySem.W.WalkO q loose XP YP l.row.toRowW d [] (λf vs=>PySem.call f vs):=by
 refine Att.attach_call hn hdf λw s₀ s₁ mg mb fa o pm cd doc a vs ns G Y ho hd hcd hmg hobj hints hlen hg=>?_
 have KX:=hY w _ Y
 obtain ⟨fd,hb,hF⟩:=F w mg fa _ KX G.T.g hmg
 exact Zhf KX G.T.g G.T.b G.T.builtins G.T.nolimit hg hobj hints (Nat.le_trans hlen hn2) hr hF hb (λH hO hS=>hsp w H a ns hlen hO hS) λH e s'=>hCX w H s₁ e s'
end L2
/- THE LAST THEOREM (shape;LID,My.* are yours):
  My.Adr: a structure of the addresses that your layer names (classes,functions);My.Txt K t: a structure (Prop) of the equations over K;
  My.txt_mk:{K} {implicit addresses ..} (e1:nsIn K mainGlobals "law" = some (some (.ref f))) (e2:K.lookup f=some ⟨oc,od,.func (fnOf "law" "law" params body scope dV kV doc pm an cdv ct),sl⟩) (e3:codeIn K cdv "law" = true) ..:∃ t,My.Txt K t
set_option maxRecDepth 100000 in
set_option maxHeartbeats 0 in
theorem PySem.Challenge.cw_LID_holds:PySem.Challenge.rw_LID.Holds:=by
 w_on;o_law;k_head;(case hw=>w_witness2)
 k_fill
 refine L2.walk_of (l:=PySem.Challenge.rw_LID) (n:=63) (k:=40) (x := "script") (CX:=λw=>..) (sp:=λ_=>My.sp_law) rfl (by decide) rfl ⟨rfl,by decide,by decide⟩ (λw h Y=>PySem.W.kIn_of Y) ?F ?S ?C
 case F=>
  intro w mg fa h KX G hmg
  have T:∃ t,My.Txt (L2.KOf KX) t:=by
   dsimp only [L2.KOf]                          -- K must stand as «<heap const> w.params» for k_is
   refine' My.txt_mk ?e1 ?e2 ?e3 ..
   (case e1=>PySem.W.k_is)                    -- in the order: a name->its address->its object->its parts
   (case e2=>PySem.W.k_is)
   ..
  obtain ⟨t,T⟩:=T
  have e0:=hmg.symm.trans (PySem.W.mg_of KX G T.law)
  cases e0                                       -- fa is the law's own address
  exact ⟨_,λs u=>.of_eq rfl,λbase kb nb=>My.law_fn T kb nb⟩     -- if «.of_eq rfl» comes too early: refine' ⟨_,?b,λbase kb nb=>My.law_fn T kb nb⟩;exact λs u=>.of_eq rfl
 case S=>exact λw H a ns hl hO hS=>..
 case C=>exact ..
(the tactic k_is has no namespace: write k_is) -/
namespace L2
open PySem PySem.Spec PyProof.Rows
def ZlG (s:Stmt) (j:Nat):Stmt:=match s with
 | .ClassDef _ _ _ body _ _ _ _ _ _ _=>body.getD j (.Pass ⟨0,0,0,0⟩)
 | _=>.Pass ⟨0,0,0,0⟩
def Zao (s:Stmt):Arguments:=match s with
 | .FunctionDef _ a _ _ _ _ _ _ _ _=>a
 | _=>{ posonlyargs:=[],args:=[],vararg:=none,kwonlyargs:=[],kw_defaults:=[],kwarg:=none,defaults:=[] }
def Zan (s:Stmt):List Stmt:=match s with
 | .FunctionDef _ _ b _ _ _ _ _ _ _=>b
 | _=>[]
def Zae (s:Stmt):Scope:=match s with
 | .FunctionDef _ _ _ _ _ _ sc _ _ _=>sc
 | _=>{ kind:=.function,names:=[],isGenerator:=false,isCoroutine:=false }
abbrev CX0:CXT:=λ_ _ _ _ _ _=>False
abbrev E0:XK:=λ_ _ _=>False
theorem ZaD {X:Cx}:ZdV CX0 X E0:=λ_ _ _ _ _ _ _ h=>h.elim
structure Fun (K:PySem.W.Frag) (x qual:Str) (st:Stmt) (f:Addr) (fd:FuncData):Prop where
 ex:∃ (oc:Value) (od:Option Addr) (kV doc pm:Value) (an:Option Addr) (cdv ct:Value) (osl:Array (Option Value)),
  fd=PySem.W.fnOf x qual (Zao st) (Zan st) (Zae st) .none kV doc pm an cdv ct/\K.lookup f=some ⟨oc,od,.func fd,osl⟩/\PySem.W.codeIn K cdv qual=true
 kp:PySem.W.keepIn K (.ref f)=true
section
variable {P:Program} {w:World} {K:PySem.W.Frag} {mg:Str->Option Value} {base:Heap}
theorem Fun.ok {x qual:Str} {st:Stmt} {f:Addr} {fd:FuncData} {N ps:List Str} {k:Nat} {sp:Sp} (F:Fun K x qual st f fd) (S:Zav N ps (Zae st)) (len:∀ vs H Q E,sp vs H Q E->vs.length=ps.length)
  (hbody:∀ (cdv:Value) (A:Around) (outer:List Env) (s:Shared) (H:Hp) (vs:List V) (Q:VK) (E:XK),Room k (A.deeper (envOfC qual (Zae st) s.heap.objs.size f cdv))->sp vs H Q E ->
   ∃ t,PSs (Zf2 CX0 P w K mg base N qual (Zae st) f cdv A outer s H E).nox (Zan st) t/\t { nx:=λ_ H'=>Q .non H',rt:=Q } (start N vs) H):ZaK P w K mg base CX0 (k+1) f fd ps sp:=by
 obtain ⟨oc,od,kV,doc,pm,an,cdv,ct,osl,rfl,lk,hcd⟩:=F.ex
 refine ZiI lk hcd S len λA outer s H vs Q E hr hsp=>?_
 obtain ⟨t,h,q⟩:=hbody cdv A outer s H vs Q E hr hsp
 exact ⟨t,h.nox,q⟩
theorem Fun.binds {x qual:Str} {st:Stmt} {f:Addr} {fd:FuncData} {ps:List Str} (F:Fun K x qual st f fd)
  (h:∀ (kV doc pm:Value) (an:Option Addr) (cdv ct:Value) (us:List Value),us.length=ps.length->bindArgs (PySem.W.fnOf x qual (Zao st) (Zan st) (Zae st) .none kV doc pm an cdv ct) ⟨us,[]⟩=pure (ps.zip us)):Binds K fd ps []:=by
 obtain ⟨oc,od,kV,doc,pm,an,cdv,ct,osl,rfl,lk,hcd⟩:=F.ex
 exact .all (h kV doc pm an cdv ct)
theorem ZaI {x qual:Str} {st:Stmt} {f:Addr} {oc:Value} {od an:Option Addr} {osl:Array (Option Value)} {kV doc pm cdv ct:Value} (l:K.lookup f=some ⟨oc,od,.func (PySem.W.fnOf x qual (Zao st) (Zan st) (Zae st) .none kV doc pm an cdv ct),osl⟩)
  (c:PySem.W.codeIn K cdv qual=true) (k:PySem.W.keepIn K (.ref f)=true):Fun K x qual st f (PySem.W.fnOf x qual (Zao st) (Zan st) (Zae st) .none kV doc pm an cdv ct):=⟨⟨oc,od,kV,doc,pm,an,cdv,ct,osl,rfl,l,c⟩,k⟩
end
section
variable {X:Cx}
theorem pv (i:Nat) {x:Str} {pos:Pos} (hN:X.N[i]?=some x:=by rfl) (hv:Vis X.env.scope x:=by first | exact Or.inl rfl | exact Or.inr (Or.inl rfl) | exact Or.inr (Or.inr rfl)) (hd:(x == ("__debug__" : Str))=false:=by decide)
  (hcd:(x == ("__classdict__" : Str))=false:=by decide):PE X (.Name x pos) (Zg4 i):=ZjP hN hv hd hcd
end
theorem ZbC {A B:Prop} (h:B):if false=true then A else B:=by
 rw [if_neg Bool.false_ne_true]
 exact h
theorem Zcu {A B:Prop} (h:A):if true=true then A else B:=by
 rw [if_pos rfl]
 exact h
theorem Zbn {c A B:Prop} [Decidable c] (h1:c->A) (h2:¬ c->B):if c then A else B:=by
 by_cases h:c
 ·rw [if_pos h]
  exact h1 h
 ·rw [if_neg h]
  exact h2 h
def Same (H H':Hp):Prop:=∀ b o,H b=some o->H' b=some o
theorem Same.refl (H:Hp):Same H H:=λ_ _ h=>h
theorem Same.trans {H H1 H2:Hp} (a:Same H H1) (b:Same H1 H2):Same H H2:=λc o h=>b c o (a c o h)
theorem Same.free {H H':Hp} (e:Same H H') {l:Addr} (h:H' l=Option.none):H l=Option.none:=by
 cases q:H l with
 | none=>rfl
 | some o=>
  rw [e l o q] at h
  cases h
theorem Same.seq {K:PySem.W.Frag} {H H':Hp} {a:Addr} {xs:List V} (e:Same H H') (h:SqL K H a xs):SqL K H' a xs:=by
 rcases h with (h | ⟨o,h⟩) | h
 ·exact .inl (.inl (e _ _ h))
 ·exact .inl (.inr ⟨o,e _ _ h⟩)
 ·exact .inr h
end L2
namespace L2
open PySem PySem.Spec PyProof.Rows
section
variable {prog:Program} {w:World} {A:Around} {R:Result->Shared->Prop} {s:Shared}
theorem Zd4 {elt target iter:Expr} {ifs:List Expr} {scope:Scope} {pos:Pos} {it acc:Value} {env:Env} (I:Nat->Shared->Prop)
  (turn:∀ n s,I n s->wpAny (model prog w) A (pyNext it) (λr s1=>match r with
   | none=>R (.ok .next) s1
   | some v=>wpAny (model prog w) A (letOwnedTupleGo target it v) (λ_ s1'=>wpAny (model prog w) A (assign target env v) (λ_ s2=>
     wpAny (model prog w) A (forIn ifs true λc r=>if r=true then do let ok <- isTrue c env (eval c env);pure (ForInStep.yield ok) else pure (ForInStep.yield r)) (λok s3=>
      if ok=true then wpAny (model prog w) A (eval elt env) (λx s4=>
       wpAny (model prog w) A (call (.builtin "list.append") [acc,x]) (λ_ s5=>∃ m,m<n/\I m s5) (λ_ _=>False) s4) (λ_ _=>False) s3
      else ∃ m,m<n/\I m s3) (λ_ _=>False) s2) (λ_ _=>False) s1') (λ_ _=>False) s1) (λ_ _=>False) s)
  (n:Nat) (h:I n s) :
  codeAny (model prog w) A (.compLoop (.ListComp elt [⟨target,iter,ifs,0⟩] scope pos) 0 it acc env) R s:=by
 have ff:∀ {E:Value->Shared->Prop},∀ (x:Value) (s:Shared),(λ(_:Value) (_:Shared)=>False) x s->E x s:=λ_ _ z=>False.elim z
 refine codeAny_loop rfl I (λn s hI=>?_) n h
 show wpAny _ A ((compTurn (.ListComp elt [⟨target,iter,ifs,0⟩] scope pos) 0 it acc env).onRaise (λx=>do noteFrame x env;theTreesLotGoes x)) _ _ s
 refine wpAny_noted ?_
 rw [compTurn_list]
 refine wpAny_bind (wpAny_standAt (wpAny_bind (wpAny_mono (turn n s hI) (λr s1 h1=>?_) ff)))
 cases r with
 | none=>exact wpAny_pure h1
 | some v=>
  refine wpAny_bind (wpAny_mono h1 (λ_ s1' h1'=>?_) ff)
  refine wpAny_bind (wpAny_mono h1' (λ_ s2 h2=>wpAny_bind (wpAny_mono h2 (λok s3 h3=>?_) ff)) ff)
  cases ok with
  | false=>exact wpAny_pure ⟨rfl,h3⟩
  | true=>
   exact wpAny_bind (wpAny_bind (wpAny_mono h3 (λx s4 h4=>wpAny_bind (wpAny_mono h4 (λ_ s5 h5=>wpAny_pure (wpAny_pure ⟨rfl,h5⟩)) ff)) ff))
end
def Cx.comp (X:Cx) (scope:Scope) (cl:List (Str×Addr)) (N:List Str) (C:Addr) (s:Shared) (H:Hp) (fp:List Addr):Cx:=
 { X with N:=N,s₀:=s,H₀:=H,env:=compEnvC scope cl C X.env,outer:=X.stack,ex:=fp,fn:=λ_=>false,pn:=[],xe:=λ_ _=>False }
def Zj9 (X:Cx) (ifs:List Expr) (t:TT):Prop:=
 ∀ (pins:List (Addr×Obj)) (s:Shared) (σ:St) (H:Hp) (Q:Bool->Hp->Prop),Inv X pins σ H s->t σ H Q ->
  wpAny (model X.prog X.w) X.A (forIn ifs true λc r=>if r=true then do let ok <- isTrue c X.env (eval c X.env);pure (ForInStep.yield ok) else pure (ForInStep.yield r)) (TP X pins σ Q) X.xe s
def Zka:TT:=λ_ H Q=>Q true H
theorem ZcH {X:Cx}:Zj9 X [] Zka:=λ_ _ _ H _ I h=>wpAny_tests_nil ⟨H,I,h⟩
theorem Zba {X:Cx} {c:Expr} {t:TT} (h:PT X c t):Zj9 X [c] t:=λpins s σ H Q I hw=>wpAny_tests_one (h pins s σ H Q I hw)
structure Zbw (X:Cx) (scope:Scope) (cl:List (Str×Addr)) (own:List Str) (fr:List (Str×Nat)):Prop where
 clos:closureFor scope X.env=pure cl
 nocell:∀ y∈scope.names,y.2≠.cell
 kind:scope.kind=.function
 names:∀ y∈scope.names,y.2=.local->scope.names.lookup y.1=some .local
 cls:∀ y c,cl.lookup y=some c->X.env.cells.lookup y=some c
 has:∀ y,((relabel scope X.env).names.lookup y=some .cell\/(relabel scope X.env).names.lookup y=some .free)->∃ c,cl.lookup y=some c
 free:∀ p∈fr,X.N[p.2]?=some p.1/\(X.env.kindOf p.1=some .cell\/X.env.kindOf p.1=some .free)/\((relabel scope X.env).names.lookup p.1=some .cell\/(relabel scope X.env).names.lookup p.1=some .free)
def Zb7 (own:List Str) (fr:List (Str×Nat)) (σ:St):St:=own.map (λ_=>none)++fr.map λp=>(σ[p.2]?).join
def ZcU:St->St->Prop
 | [],[]=>True
 | none::r,_::r'=>ZcU r r'
 | some v::r,some v'::r'=>v=v'/\ZcU r r'
 | _,_=>False
theorem ZbW:∀ {a b:St},ZcU a b->∀ (i:Nat) (v:V),a[i]?=some (some v)->b[i]?=some (some v)
 | [],[],_,i,v,h=>by simp at h
 | [],_::_,z,_,_,_=>z.elim
 | none::r,[],z,_,_,_=>z.elim
 | some _::r,[],z,_,_,_=>z.elim
 | some _::r,none::_,z,_,_,_=>z.elim
 | none::r,_::r',z,0,v,h=>by simp at h
 | none::r,_::r',z,i+1,v,h=>by
  have:=ZbW (a:=r) (b:=r') z i v (by simpa using h)
  simpa using this
 | some x::r,some x'::r',z,0,v,h=>by
  obtain ⟨e,_⟩:=z
  subst e
  simpa using h
 | some x::r,some x'::r',z,i+1,v,h=>by
  have:=ZbW (a:=r) (b:=r') z.2 i v (by simpa using h)
  simpa using this
def ZbN (J:It) (D:Addr) (g:TG) (tc:TT) (te:TE) (σ0:St) (W:Nat->Nat->List V->Hp->Prop) (R:Hp->Prop):Prop:=
 ∀ i m ys H2,W i m ys H2->(J.stop i H2/\R H2)\/(J.go i H2/\∃ N:List V->Hp->Prop,(∀ ys' H',N ys' H'->∃ m',m'<m/\W (i+1) m' ys' H')/\∀ x H3,J.yld i H2 x H3->g x σ0 H3 λσ4 H4=>ZcU σ0 σ4/\tc σ4 H4 λb H5=>
  if b=true then te σ4 H5 λy H6=>H6 D=some (.lst ys)/\ys.length<sizeLine/\N (ys++[y]) (upd H6 D (.lst (ys++[y])))
  else N ys H5)
def Zkb (wi:TI) (g:TG) (tc:TT) (te:TE) (own:List Str) (fr:List (Str×Nat)):TE:=λσ H Q=>wi σ H λJ H1=>∀ D,H1 D=none ->
 ∃ W:Nat->Nat->List V->Hp->Prop,(∃ m,W 0 m [] (upd H1 D (.lst [])))/\ZbN J D g tc te (Zb7 own fr σ) W λH2=>Q (.ref D) H2
section
variable {X:Cx} {target iter elt:Expr} {ifs:List Expr} {scope:Scope} {cl:List (Str×Addr)} {own:List Str} {fr:List (Str×Nat)} {pos:Pos} {wi:TI} {g:TG} {tc:TT} {te:TE}
theorem Inv.sub_pins {pins pins':List (Addr×Obj)} {σ:St} {H:Hp} {s:Shared} (I:Inv X pins σ H s) (h:∀ p∈pins',p∈pins):Inv X pins' σ H s:=I.pins_of λp hp=>I.pin p (List.mem_append_right _ (h p hp))
theorem ZiN {pins:List (Addr×Obj)} {σ:St} {H:Hp} {s:Shared} {C:Addr} {fp:List Addr} (S:Zbw X scope cl own fr) (I:Inv X pins σ H s) (hf:∀ b∈fp,Zg5 X pins H b) (hC:s.heap.objs.size<=C) (hfl:∀ b∈fp,b<s.heap.objs.size) :
  (X.comp scope cl (own++fr.map (·.1)) C s H fp).Ok:=by
 refine ⟨I.ok.mod,?_,I.ok.glob,I.ok.blt,hC,λx y c h1 h2=>I.ok.inj x y c (S.cls x c h1) (S.cls y c h2),S.has,λx c z=>absurd z (by simp [Cx.comp]),I.ok.hd,I.ok.frames,.inl rfl,
  λb hb=>⟨Nat.ne_of_lt (Nat.lt_of_lt_of_le (hfl b hb) hC),λx c h=>(hf b hb).2.2.2.2.1 x c (S.cls x c h)⟩,I.bs,Nat.le_trans I.ok.bsz I.sz,λb o e hb=>?_,λb hb z=>?_,I.stack,I.stkFree⟩
 ·show (relabel scope X.env).kind=.function
  exact S.kind
 ·rcases (hf b hb).2.2.2.1 with z | z
  ·exact I.ok.noex b o e z
  ·exact absurd (Nat.lt_of_lt_of_le (Heap.lt_size e) (Nat.le_trans I.ok.bsz z)) (Nat.lt_irrefl _)
 ·rcases List.mem_cons.mp (I.stkSub b z) with q | q
  ·exact (hf b hb).2.1 q
  ·exact (hf b hb).2.2.1 q
theorem Zdf (own:List Str) (fr:List (Str×Nat)) (σ:St):(Zb7 own fr σ).length=(own++fr.map (·.1)).length:=by
 unfold Zb7
 simp
theorem Zdg {pins:List (Addr×Obj)} {σ:St} {H:Hp} {s:Shared} {it:Addr} {fp:List Addr} {tn:Nat->Heap->Prop} {J:It} {E:Value->Shared->Prop} {RR:Value->Addr->Result->Shared->Prop} {Rf:Addr->Hp->Prop}
  (hc:X.calm=true) (S:Zbw X scope cl own fr) (I:Inv X pins σ H s) (T:ZjU X.prog X.w X.K target J fp it tn) (st:tn 0 s.heap) (hf:∀ b∈fp,Zg5 X pins H b)
  (hg:∀ C s H fp,PG (X.comp scope cl (own++fr.map (·.1)) C s H fp) target g) (ht:∀ C s H fp,Zj9 (X.comp scope cl (own++fr.map (·.1)) C s H fp) ifs tc) (he:∀ C s H fp,PE (X.comp scope cl (own++fr.map (·.1)) C s H fp) elt te)
  (hw:∀ D,H D=none->∃ W:Nat->Nat->List V->Hp->Prop,(∃ m,W 0 m [] (upd H D (.lst [])))/\ZbN J D g tc te (Zb7 own fr σ) W (Rf D))
  (hRR:∀ D C s' H',s.heap.objs.size<=C->C≠D->(∃ m,s'.heap.Ns C m)->H' C=none->Un (frs X.stack) fp H H' s.heap s'.heap->HOk X.prog X.w H' s'.heap->AllBare s'.gens->s'.os=s.os->Rf D H'->RR (.ref D) C (.ok .next) s') :
  wpAny (model X.prog X.w) X.A (newList []) (λacc s3=>wpAny (model X.prog X.w) X.A (newFunctionEnv scope X.env.globals cl [] X.env.qual none .none (some X.env)) (λcenv s4=>
   codeAny (model X.prog X.w) X.A (.compStart (.ListComp elt [⟨target,iter,ifs,0⟩] scope pos) 0 (.ref it) acc { cenv with scope:=relabel scope X.env }) (RR acc cenv.locals) s4) E s3) E s:=by
 have hfl:∀ b∈fp,b<s.heap.objs.size:=λb hb=>by
  obtain ⟨o,e,_⟩:=T.obj 0 s.heap st b hb
  exact Heap.lt_size e
 have hD:H s.heap.objs.size=none:=I.fresh
 obtain ⟨W,⟨m0,w0⟩,turns⟩:=hw s.heap.objs.size hD
 have I1:Inv X pins σ (upd H s.heap.objs.size (.lst [])) { s with heap:=s.heap.push { cls:=.type "list", data:=.seq ([]:List Value).toArray },toks:=s.toks }:=I.lnew .nil (Nat.zero_le _)
 refine wpAny_newObj_type (wpAny_newFunctionEnv S.nocell (by intro y hy;simp at hy) (λh1 hns1 hsb1=>?_) S.kind)
 dsimp only at hns1 hsb1 ⊢
 generalize hH2:s.heap.push { cls:=.type "list", dict:=none,data:=.seq ([]:List Value).toArray }=H2 at hns1 hsb1 ⊢ I1
 have hCs:H2.objs.size=s.heap.objs.size+1:=by rw [<-hH2,Heap.size_push]
 have hCle:s.heap.objs.size<=H2.objs.size:=by omega
 have hDC:s.heap.objs.size≠H2.objs.size:=by omega
 have up1:∀ b o,H2.get? b=some o->h1.get? b=some o:=λb o e=>hsb1.extBut b o (Nat.ne_of_lt (Heap.lt_size e)) (Heap.get?_push_of_some _ e)
 have up:∀ b o,s.heap.get? b=some o->h1.get? b=some o:=λb o e=>up1 b o (hH2▸Heap.get?_push_of_some _ e)
 have okY:=ZiN (C:=H2.objs.size) S I hf hCle hfl
 have I0:∀ tk,Inv (X.comp scope cl (own++fr.map (·.1)) H2.objs.size s H fp) [] (Zb7 own fr σ) (upd H s.heap.objs.size (.lst [])) { s with heap:=h1,toks:=tk }:=by
  intro tk
  have hok1:HOk X.prog X.w (upd H s.heap.objs.size (.lst [])) h1:=I1.hok.kept up1
  refine ⟨okY,rfl,I.bare,⟨λb o e n _ _=>up b o e,λb o e n _ _=>⟨o.slots,up b o e⟩,λb o e n _=>?_,λb o e _=>⟨o,up b o e⟩,λb xs q=>?_,λb o u q=>?_,λb ps q=>⟨#[],?_⟩⟩,
   ⟨_,hns1,λi x v e1 e2 e3=>?_⟩,λx c e=>?_,?_,λx c e=>?_,λp hp=>?_,hok1,Zdf own fr σ⟩
  ·have e':s.heap.get? b=some o:=e
   show upd H s.heap.objs.size (.lst []) b=none
   rw [Zar (Nat.ne_of_lt (Heap.lt_size e'))];exact n
  ·rw [Zar (Zah q hD)];exact q
  ·rw [Zar (Zah q hD)];exact q
  ·have q':H b=some (.tbl ps):=q
   rw [Zar (Zah q' hD),q'];simp
  ·-- the free names
   have e2':(Zb7 own fr σ)[i]?=some (some v):=e2
   have e1':(own++fr.map (·.1))[i]?=some x:=e1
   unfold Zb7 at e2'
   by_cases hi:i<own.length
   ·rw [List.getElem?_append_left (by simpa using hi),List.getElem?_map] at e2'
    cases q:own[i]? with
    | none=>rw [q] at e2';cases e2'
    | some y=>rw [q] at e2';cases e2'
   ·rw [List.getElem?_append_right (by simpa using hi),List.length_map,List.getElem?_map] at e2'
    rw [List.getElem?_append_right (by omega),List.getElem?_map] at e1'
    cases q:fr[i-own.length]? with
    | none=>rw [q] at e2';cases e2'
    | some p=>
     rw [q] at e1' e2'
     have ex:p.1=x:=Option.some.inj e1'
     have ev:(σ[p.2]?).join=some v:=Option.some.inj e2'
     have ev':σ[p.2]?=some (some v):=by
      cases z:σ[p.2]? with
      | none=>rw [z] at ev;cases ev
      | some o=>rw [z] at ev;cases o with
       | none=>cases ev
       | some v'=>have:v'=v:=Option.some.inj ev;rw [this]
     obtain ⟨f1,f2,f3⟩:=S.free p (List.mem_of_getElem? q)
     subst ex
     obtain ⟨m,hn,hl⟩:=I.loc
     have vis:Vis X.env.scope p.1:=by
      rcases f2 with f2 | f2
      ·exact .inr (.inl f2)
      ·exact .inr (.inr f2)
     obtain ⟨u,ru,lk⟩:=hl p.2 p.1 v f1 ev' vis
     refine ⟨u,ru,?_⟩
     rcases lk with ⟨k,_⟩ | ⟨k,c,e,z⟩
     ·rcases f2 with f2 | f2 <;> (rw [f2] at k;cases k)
     ·obtain ⟨c',hc'⟩:=S.has p.1 f3
      have e':=S.cls _ _ hc'
      rw [e] at e';cases e'
      obtain ⟨oc,ho,hd⟩:=z
      exact .inr ⟨f3,c,hc',⟨oc,up _ _ ho,hd⟩⟩
  ·obtain ⟨v,oc,ho,hd⟩:=I.cell x c (S.cls x c e)
   exact ⟨v,oc,up _ _ ho,hd⟩
  ·show upd H s.heap.objs.size (.lst []) H2.objs.size=none
   rw [Zar (Ne.symm hDC)]
   exact I.hok.fresh hCle
  ·obtain ⟨v,z⟩:=I.cell x c (S.cls x c e)
   show upd H s.heap.objs.size (.lst []) c=none
   rw [Zar (Nat.ne_of_lt z.lt)]
   exact I.freeC x c (S.cls x c e)
  ·exact absurd (show p∈([]:List (Addr×Obj)) from hp) (by simp)
 have fpf:∀ b∈fp,upd H s.heap.objs.size (.lst []) b=none:=λb hb=>by rw [Zar (Nat.ne_of_lt (hfl b hb))];exact (hf b hb).1
 have st1:tn 0 h1:=T.keep 0 _ _ st λb hb o e=>up b o e
 have stat:∀ {H':Hp},(∀ b∈fp,H' b=none)->∀ b∈fp,Zg5 (X.comp scope cl (own++fr.map (·.1)) H2.objs.size s H fp) [] H' b:=λhn b hb=>
  ⟨hn b hb,(okY.exf b hb).1,okY.exfs b hb,.inl hb,(okY.exf b hb).2,λp hp=>absurd (show p∈([]:List (Addr×Obj)) from hp) (by simp)⟩
 have loop:∀ s3:Shared,(∃ tk,s3={ s with heap:=h1,toks:=tk }) ->
   codeAny (model X.prog X.w) X.A (.compLoop (.ListComp elt [⟨target,iter,ifs,0⟩] scope pos) 0 (.ref it) (.ref s.heap.objs.size) (compEnvC scope cl H2.objs.size X.env)) (RR (.ref s.heap.objs.size) H2.objs.size) s3:=by
  rintro s3 ⟨tk,rfl⟩
  refine Zd4 (λn s'=>∃ i ys H',Inv (X.comp scope cl (own++fr.map (·.1)) H2.objs.size s H fp) [] (Zb7 own fr σ) H' s'/\tn i s'.heap/\(∀ b∈fp,H' b=none)/\W i n ys H') ?_ m0 ⟨0,[],_,I0 tk,st1,fpf,w0⟩
  rintro n s4 ⟨i,ys,H4,I4,st4,fr4,w4⟩
  rcases turns i n ys H4 w4 with ⟨stop,q⟩ | ⟨go,N,hN,step⟩
  ·refine thn (T.done (X.comp scope cl (own++fr.map (·.1)) H2.objs.size s H fp) rfl rfl rfl hc i [] s4 _ H4 _ I4 (stat fr4) st4 stop) λr s5 ⟨hr,I5⟩=>?_
   subst hr
   exact hRR _ _ s5 H4 hCle (Ne.symm hDC) ⟨_,I5.loc.choose_spec.1⟩ I5.free I5.base I5.hok I5.bare I5.os q
  ·refine thn (T.item (X.comp scope cl (own++fr.map (·.1)) H2.objs.size s H fp) rfl rfl rfl hc i [] s4 _ H4 _ I4 (stat fr4) st4 go) λr s5 ⟨u,hr,h5⟩=>?_
   subst hr
   refine thn h5 λ_ s6 ⟨x,H6,I6,r6,y6,st6,fr6⟩=>?_
   have I6':=I6.pinned (stat fr6) (T.obj _ _ st6)
   refine thn (hg H2.objs.size s H fp _ s6 _ H6 x u _ I6' r6 (step x H6 y6)) λ_ s7 ⟨σ7,H7,I7,k7,q7⟩=>?_
   refine thn (ht H2.objs.size s H fp _ s7 σ7 H7 _ I7 q7) λok s8 ⟨H8,I8,q8⟩=>?_
   have again:∀ {s9:Shared} {σ9:St} {H9:Hp} {zs:List V},Inv (X.comp scope cl (own++fr.map (·.1)) H2.objs.size s H fp) ([]++ZdQ fp s6.heap) σ9 H9 s9->(∀ (i:Nat) v,(Zb7 own fr σ)[i]?=some (some v)->σ9[i]?=some (some v))->(∃ m',m'<n/\W (i+1) m' zs H9) ->
     ∃ m,m<n/\∃ i ys H',Inv (X.comp scope cl (own++fr.map (·.1)) H2.objs.size s H fp) [] (Zb7 own fr σ) H' s9/\tn i s9.heap/\(∀ b∈fp,H' b=none)/\W i m ys H':=by
    intro s9 σ9 H9 zs I9 hσ ⟨m',hm,w9⟩
    refine ⟨m',hm,i+1,zs,H9,(I9.sub_pins (λp hp=>absurd (show p∈([]:List (Addr×Obj)) from hp) (by simp))).weak ?_ hσ,T.keep _ _ _ st6 λb hb o e=>(I9.pin (b,o) (List.mem_append_right _ (List.mem_append_right _ (ZbU hb e)))).1,λb hb=>?_,w9⟩
    ·rw [I9.len];exact Zdf own fr σ
    ·obtain ⟨o,e,d⟩:=T.obj _ _ st6 b hb
     exact (I9.pin (b,o) (List.mem_append_right _ (List.mem_append_right _ (ZbU hb e)))).2.1
   cases ok with
   | false=>exact (if_neg Bool.false_ne_true).mpr (again I8 (ZbW k7) (hN _ _ ((if_neg Bool.false_ne_true).mp q8)))
   | true=>
    refine (if_pos rfl).mpr ?_
    have q8':=(if_pos rfl).mp q8
    refine thn (he H2.objs.size s H fp _ s8 σ7 H8 _ I8 q8') λy s9 ⟨yv,H9,I9,r9,hD9,hz,q9⟩=>?_
    refine thn (ZaO _ s9 σ7 H9 (.ref s.heap.objs.size) [yv] (.ref s.heap.objs.size) [y] (λ_ H'=>H'=upd H9 s.heap.objs.size (.lst (ys++[yv]))) I9 rfl (.cons r9 .nil) ⟨_,ys,yv,rfl,rfl,hD9,hz,rfl⟩) λ_ s10 ⟨_,H10,I10,_,e10⟩=>?_
    subst e10
    exact again I10 (ZbW k7) (hN _ _ q9)
 exact codeAny_compStart_list (loop _ ⟨_,rfl⟩) (T.self _ 0 _ _ _ st1 (loop _ ⟨_,rfl⟩))
theorem Zdh {pins:List (Addr×Obj)} {σ:St} {H H':Hp} {s s':Shared} {fp:List Addr} (I:Inv X pins σ H s) (hf:∀ b∈fp,Zg5 X pins H b) (un:Un (frs X.stack) fp H H' s.heap s'.heap)
  (hok:HOk X.prog X.w H' s'.heap) (bare:AllBare s'.gens) (os:s'.os=s.os):Inv X pins σ H' s':=
 I.call' os un hok bare λb hb=>⟨(hf b hb).2.2.2.1,(hf b hb).2.1,(hf b hb).2.2.2.2.1,(hf b hb).2.2.2.2.2⟩
theorem ZeT {pins:List (Addr×Obj)} {σ σ':St} {H H':Hp} {s s':Shared} {C:Addr} {h':Heap} (I:Inv X pins σ H s) (hC:s.heap.objs.size<=C) (hn:H' C=none) (I':Inv X pins σ' H' s') (sb:Heap.SameBut C s'.heap h') :
  Inv X pins σ' H' { s' with heap:=h' }:=by
 obtain ⟨f0,f1,f2,f3,f4,f5⟩:=I.fpOk hC hn
 exact I'.turned (t':=s'.toks) (λb o hb e=>(sb.2 b hb).trans e) f0 f1 f3 f4 f5
theorem Zbd (hc:X.calm=true) (S:Zbw X scope cl own fr) (hi:PI X target iter wi)
  (hg:∀ C s H fp,PG (X.comp scope cl (own++fr.map (·.1)) C s H fp) target g) (ht:∀ C s H fp,Zj9 (X.comp scope cl (own++fr.map (·.1)) C s H fp) ifs tc) (he:∀ C s H fp,PE (X.comp scope cl (own++fr.map (·.1)) C s H fp) elt te)
  (hs:∀ x,foldedSetIterable iter X.env x=pure x:=by intro _;rfl):PE X (.ListComp elt [⟨target,iter,ifs,0⟩] scope pos) (Zkb wi g tc te own fr):=by
 intro pins s σ H Q I h
 rw [eval_ListComp]
 refine wpAny_comprehension_free (use:=none) rfl hs S.clos S.kind S.names (thn (hi pins s σ H _ I h) λv s1 h1=>thn h1 λitv s2 h2=>?_)
 obtain ⟨it,fp,tn,J,H2,e,I2,T,st2,f2,hw⟩:=h2
 subst e
 refine Zdg (RR:=λacc C=>compPost (model X.prog X.w) X.A X.xe none (EP X pins σ Q) acc C) hc S I2 T st2 f2 hg ht he hw ?_
 rintro D C s' H' hC hDC ⟨m,hn⟩ hCf un hok bare os q
 refine ⟨m,hn,λh' hs'=>⟨.ref D,H',?_,rfl,q⟩⟩
 exact ZeT (C:=C) (σ:=σ) I2 hC hCf (Zdh I2 f2 un hok bare os) hs'
theorem Zf8 {i:Nat} {y:Str} {py spos:Pos} (hN:X.N.Nodup) (hi':X.N[i]?=some y) (hx:Loc X.env.scope y) (hc:X.calm=true) (S:Zbw X scope cl own fr) (hi:PI X target iter wi)
  (hg:∀ C s H fp,PG (X.comp scope cl (own++fr.map (·.1)) C s H fp) target g) (ht:∀ C s H fp,Zj9 (X.comp scope cl (own++fr.map (·.1)) C s H fp) ifs tc) (he:∀ C s H fp,PE (X.comp scope cl (own++fr.map (·.1)) C s H fp) elt te)
  (hf:X.fn y=true\/X.env.scope.names.lookup y=some .local:=by first | exact .inl rfl | exact .inr rfl | assumption)
  (hsw:swapsWith (.ListComp elt [⟨target,iter,ifs,0⟩] scope pos) (some (.Name y py)) spos.line X.env=pure true:=by rfl)
  (hs:∀ x,foldedSetIterable iter X.env x=pure x:=by intro _;rfl):PS X (.Assign [.Name y py] (.ListComp elt [⟨target,iter,ifs,0⟩] scope pos) spos) (Zlr (Zkb wi g tc te own fr) (Zfn i)):=by
 intro pins s σ H Dn I h
 rw [exec_Assign_Name_used _ _ _ _ hsw]
 refine wpAny_bind (wpAny_standAt (wpAny_bind ?_))
 show wpAny _ X.A (do let _ <- comprehension (.ListComp elt [⟨target,iter,ifs,0⟩] scope pos) scope X.env _ (newList []) false (eval iter X.env) (some (assign (.Name y py) X.env))) _ _ s
 refine wpAny_bind (wpAny_mono (wpAny_comprehension_free (use:=some (assign (.Name y py) X.env)) (Q:=λ_ s'=>SP X pins Dn .next s') rfl hs S.clos S.kind S.names (thn (hi pins s σ H _ I h) λv s1 h1=>thn h1 λitv s2 h2=>?_))
  (λ_ s' hq=>wpAny_pure (wpAny_pure hq)) λ_ _ e=>e)
 obtain ⟨it,fp,tn,J,H2,e,I2,T,st2,f2,hw⟩:=h2
 subst e
 refine Zdg (RR:=λacc C=>compPost (model X.prog X.w) X.A X.xe (some (assign (.Name y py) X.env)) (λ_ s'=>SP X pins Dn .next s') acc C) hc S I2 T st2 f2 hg ht he hw ?_
 rintro D C s' H' hC hDC ⟨m,hn⟩ hCf un hok bare os q
 have I3:Inv X pins σ H' s':=Zdh I2 f2 un hok bare os
 show wpAny _ X.A (assign (.Name y py) X.env (.ref D)) _ _ s'
 refine wpAny_assign_Name (ZdP I3 hN hi' hx (v:=.ref D) rfl (λs4 I4 ⟨a,hsa,ha⟩=>?_) hf)
 have hCa:C≠a:=by
  rcases ha with z | z
  ·rw [z];exact Nat.ne_of_gt (Nat.lt_of_lt_of_le I2.lt hC)
  ·obtain ⟨v,q⟩:=I2.cell y a z
   exact Nat.ne_of_gt (Nat.lt_of_lt_of_le q.lt hC)
 refine ⟨m,hn.sameBut hsa hCa,λh' hs'=>⟨_,H',ZeT (C:=C) (σ:=σ) I2 hC hCf I4 hs',q⟩⟩
end
theorem Za1 {K:PySem.W.Frag} {a D:Addr} {xs:List V} {g:TG} {tc:TT} {te:TE} {σ0:St} {R:Hp->Prop} {H1:Hp} (Pv:Nat->List V->Hp->Prop) (h0:Pv 0 [] (upd H1 D (.lst []))) (hl:∀ i ys H,i<=xs.length->Pv i ys H->SqL K H a xs)
  (hs:∀ i x ys H,xs[i]?=some x->Pv i ys H->g x σ0 H λσ4 H4=>ZcU σ0 σ4/\tc σ4 H4 λb H5=>if b=true then te σ4 H5 λy H6=>H6 D=some (.lst ys)/\ys.length<sizeLine/\Pv (i+1) (ys++[y]) (upd H6 D (.lst (ys++[y]))) else Pv (i+1) ys H5)
  (hd:∀ ys H,Pv xs.length ys H->R H):∃ W:Nat->Nat->List V->Hp->Prop,(∃ m,W 0 m [] (upd H1 D (.lst [])))/\ZbN (Itl K a) D g tc te σ0 W R:=by
 refine ⟨λi m ys H=>m=xs.length-i/\i<=xs.length/\Pv i ys H,⟨_,rfl,Nat.zero_le _,h0⟩,?_⟩
 rintro i m ys H ⟨rfl,hi,p⟩
 have q:=hl i ys H hi p
 by_cases hlt:i<xs.length
 ·refine .inr ⟨⟨xs,xs[i],q,by simp [hlt]⟩,Pv (i+1),λys' H' p'=>⟨xs.length-(i+1),by omega,rfl,hlt,p'⟩,λx H' y=>?_⟩
  obtain ⟨e,y⟩:=y
  subst e
  exact hs i x ys _ (y xs q) p
 ·have e:i=xs.length:=by omega
  subst e
  exact .inl ⟨⟨xs,q,Nat.le_refl _⟩,hd ys H p⟩
theorem Zcv {lo:Int} {n:Nat} {D:Addr} {g:TG} {tc:TT} {te:TE} {σ0:St} {R:Hp->Prop} {H1:Hp} (Pv:Nat->List V->Hp->Prop) (h0:Pv 0 [] (upd H1 D (.lst [])))
  (hs:∀ i ys H,i<n->Pv i ys H->g (.int (lo+i)) σ0 H λσ4 H4=>ZcU σ0 σ4/\tc σ4 H4 λb H5=>if b=true then te σ4 H5 λy H6=>H6 D=some (.lst ys)/\ys.length<sizeLine/\Pv (i+1) (ys++[y]) (upd H6 D (.lst (ys++[y]))) else Pv (i+1) ys H5)
  (hd:∀ ys H,Pv n ys H->R H):∃ W:Nat->Nat->List V->Hp->Prop,(∃ m,W 0 m [] (upd H1 D (.lst [])))/\ZbN (Itr lo n) D g tc te σ0 W R:=by
 refine ⟨λi m ys H=>m=n-i/\i<=n/\Pv i ys H,⟨_,rfl,Nat.zero_le _,h0⟩,?_⟩
 rintro i m ys H ⟨rfl,hi,p⟩
 by_cases hlt:i<n
 ·refine .inr ⟨hlt,Pv (i+1),λys' H' p'=>⟨n-(i+1),by omega,rfl,hlt,p'⟩,λx H' y=>?_⟩
  obtain ⟨e,y⟩:=y
  subst e y
  exact hs i ys _ hlt p
 ·have e:i=n:=by omega
  subst e
  exact .inl ⟨Nat.le_refl _,hd ys H p⟩
theorem ZcV {X:Cx} {scope:Scope} {own:List Str} (hf:∀ y∈scope.names,y.2≠.free) (hc:∀ y∈scope.names,y.2≠.cell) (hk:scope.kind=.function) (hn:∀ y∈scope.names,y.2=.local->scope.names.lookup y.1=some .local):Zbw X scope [] own []:=by
 have rel:(relabel scope X.env).names=scope.names:=by
  unfold relabel
  dsimp only
  refine (List.map_congr_left λp hp=>?_).trans (List.map_id _)
  obtain ⟨n,k⟩:=p
  have:(k == NameKind.free)=false:=by
   have:=hf _ hp
   cases k <;> first | rfl | exact absurd rfl this
  simp [this]
 refine ⟨closureFor_none hf,hc,hk,hn,λy c h=>by simp at h,λy h=>?_,λp hp=>by simp at hp⟩
 rw [rel] at h
 rcases h with h | h
 ·exact absurd rfl (hc _ (PySem.mem_of_lookup h))
 ·exact absurd rfl (hf _ (PySem.mem_of_lookup h))
end L2
namespace L2
open PySem PySem.Spec PyProof.Rows
def Zft (a C:Addr) (h:Heap):Prop:=∃ ob vs,h.get? a=some ob/\ob.cls=.ref C/\ob.data=.fields vs
def ZjK (a C:Addr):HO:=.ext (Zft a C)
theorem ZiO {P:Program} {w:World} {H:Hp} {h:Heap} {a C:Addr} (x:Zft a C h):ObjOk P w H h a (ZjK a C):=by
 refine ⟨x,?_,λh1 h2 p k=>?_⟩
 ·obtain ⟨ob,_,e,_⟩:=x
  exact ⟨ob,e⟩
 ·obtain ⟨ob,vs,e,c,d⟩:=p
  exact ⟨ob,vs,k ob e,c,d⟩
theorem ObjOk.there {P:Program} {w:World} {H:Hp} {h:Heap} {a:Addr} {u:HO} (ok:ObjOk P w H h a u):∃ v,h.get? a=some v:=by
 cases u with
 | lst xs=>obtain ⟨_,_,_,_,e⟩:=ok;exact ⟨_,e⟩
 | tup xs=>obtain ⟨_,_,_,o,e,_⟩:=ok;exact ⟨_,e⟩
 | dK kvs=>obtain ⟨_,_,_,_,o,_,_,e,_⟩:=ok;exact ⟨_,e⟩
 | dT kvs=>obtain ⟨_,_,_,_,o,_,_,e,_⟩:=ok;exact ⟨_,e⟩
 | set S n=>obtain ⟨o,_,_,_,e,_⟩:=ok;exact ⟨_,e⟩
 | ins C dx fs=>obtain ⟨_,_,_,e,_⟩:=ok;exact ⟨_,e⟩
 | own y=>obtain ⟨_,e⟩:=ok;exact ⟨_,e⟩
 | xd fs=>obtain ⟨_,⟨_,_,_,e,_⟩,_⟩:=ok;exact ⟨_,e⟩
 | rng lo hi=>obtain ⟨_,_,_,e⟩:=ok;exact ⟨_,e⟩
 | frz ob u=>obtain ⟨e,_⟩:=ok;exact ⟨_,e⟩
 | tbl ps=>exact ⟨_,show h.get? a=some _ from ok⟩
 | met f y=>exact ⟨_,show h.get? a=some _ from ok⟩
 | ext φ=>obtain ⟨_,⟨_,e⟩,_⟩:=ok;exact ⟨_,e⟩
def ZlH (P:Program) (w:World) (outer:List Env) (H H':Hp) (s:Shared) (a C:Addr) (s':Shared):Prop:=
 ∃ (t:Addr) (B:Heap),s'.os=s.os/\AllBare s'.gens/\Un (frs outer) [] H H' s.heap s'.heap/\HOk P w H' s'.heap/\Heap.FlyingW B outer a (.ref C) (.ref t) s'.heap /\
  (∀ b o,s'.heap.get? b=some o->H' b≠none->B.get? b=some o)/\(∀ b o0 o,s.heap.get? b=some o0->s'.heap.get? b=some o->b ∉ frs outer->B.get? b=some o)
def CXr (P:Program) (w:World):CXT:=λouter H s E e s'=>∃ (a C:Addr) (H':Hp),e=.ref a/\ZlH P w outer H H' s a C s'/\E (.ref C) none H'
section
variable {X:Cx} {pins:List (Addr×Obj)} {σ:St} {H:Hp} {s:Shared}
def ZeU (X:Cx) (E:XK):Prop:=∀ (pins:List (Addr×Obj)) (σ:St) (H:Hp) (s:Shared) (h':Heap) (a C:Addr) (vs:List Value),Inv X pins σ H s->Heap.MadeExcOf s.heap h' a (.ref C) vs->E (.ref C) none H->X.xe (.ref a) { s with heap:=h' }
theorem Zbh {P:Program} {w:World} {K:PySem.W.Frag} {mg:Str->Option Value} {base:Heap} {N:List Str} {qual:Str} {scope:Scope} {f:Addr} {cd:Value} {A:Around} {outer:List Env} {s:Shared} {H:Hp} {E:XK} :
  ZeU (Zf2 (CXr P w) P w K mg base N qual scope f cd A outer s H E) E:=by
 intro pins σ H1 s1 h' a C vs I hx hE
 have hfr:=I.ok.frames
 have hst:s1.heap.FunFrames base (envOfC qual scope s.heap.objs.size f cd::outer):=I.stack
 have hin:∀ env∈(envOfC qual scope s.heap.objs.size f cd::outer),∀ b,env.frame=some b->b∈frs (envOfC qual scope s.heap.objs.size f cd::outer):=λenv he b hb=>List.mem_filterMap.mpr ⟨env,he,hb⟩
 have inB:∀ b o,s1.heap.get? b=some o->b ∉ frs (envOfC qual scope s.heap.objs.size f cd::outer)->(PySem.W.hideAll s1.heap (frs (envOfC qual scope s.heap.objs.size f cd::outer))).get? b=some o:=λb o e n=>PySem.W.hideAll_get _ e n
 refine wpAny_leaves_madeW (base:=PySem.W.hideAll s1.heap (frs (envOfC qual scope s.heap.objs.size f cd::outer))) hfr rfl (λb o q=>PySem.W.of_hideAll _ q) (PySem.W.funFrames_hide hst hin) hx λh2 t fl tu tn sm=>?_
 refine ⟨a,C,H1,rfl,⟨t,_,I.os,I.bare,⟨λb o e n hb _=>?_,λb o e n hb _=>?_,λb o e n _=>?_,λb o e _=>?_,I.base.tups,I.base.frzs,I.base.tbls⟩,λb u e=>?_,fl,λb o e n=>?_,λb o0 o e0 e nb=>?_⟩,hE⟩
 ·have e1:s1.heap.get? b=some o:=I.base.keep b o e n hb (by intro z;exact absurd (show b∈([]:List Addr) from z) (by simp))
  refine fl.1 b o (inB b o e1 λz=>?_)
  rcases List.mem_cons.mp (I.stkSub b z) with q | q
  ·exact absurd (Nat.lt_of_lt_of_le (Heap.lt_size e) I.ok.above) (by rw [q];exact Nat.lt_irrefl _)
  ·exact hb q
 ·obtain ⟨sl,e1⟩:=I.base.slot b o e n hb (by intro z;exact absurd (show b∈([]:List Addr) from z) (by simp))
  have nf:∀ vs,o.data≠.fields vs:=by
   obtain ⟨_,o',ho',hnf⟩:=I.funs.mem (show b∈(outer.filterMap (·.frame)) from hb)
   rw [e1] at ho';cases ho'
   exact hnf
  obtain ⟨sl',e2⟩:=sm b { o with slots:=sl } (hx.keeps b _ e1) nf
  exact ⟨sl',e2⟩
 ·exact I.base.free b o e n (by intro z;exact absurd (show b∈([]:List Addr) from z) (by simp))
 ·obtain ⟨o1,e1⟩:=I.base.there b o e (by intro z;exact absurd (show b∈([]:List Addr) from z) (by simp))
  by_cases hb:b∈frs (envOfC qual scope s.heap.objs.size f cd::outer)
  ·obtain ⟨_,o',ho',hnf⟩:=hst.mem hb
   rw [e1] at ho';cases ho'
   obtain ⟨sl',e2⟩:=sm b o1 (hx.keeps b _ e1) hnf
   exact ⟨_,e2⟩
  ·exact ⟨o1,fl.1 b o1 (inB b o1 e1 hb)⟩
 ·have trk:∀ c v,s1.heap.get? c=some v->H1 c≠none->h2.get? c=some v:=λc v q hc=>fl.1 c v (inB c v q λz=>hc (I.stkFree c z))
  refine (I.hok b u e).stay (λc v hc q=>trk c v q ?_) (λ_ q=>q) λ_ _ q=>q
  rcases hc with z | z
  ·rw [z,e];simp
  ·rw [z];simp
 ·cases q':H1 b with
  | none=>exact absurd q' n
  | some u=>
   obtain ⟨v,q⟩:=(I.hok b u q').there
   have nb:b ∉ frs (envOfC qual scope s.heap.objs.size f cd::outer):=λz=>n (I.stkFree b z)
   have e2:=fl.1 b v (inB b v q nb)
   rw [e] at e2;cases e2
   exact inB b _ q nb
 ·obtain ⟨o1,e1⟩:=I.base.there b o0 e0 (by intro z;exact absurd (show b∈([]:List Addr) from z) (by simp))
  have nb':b ∉ frs (envOfC qual scope s.heap.objs.size f cd::outer):=λz=>by
   rcases List.mem_cons.mp (I.stkSub b z) with q | q
   ·exact absurd (Nat.lt_of_lt_of_le (Heap.lt_size e0) I.ok.above) (by rw [q];exact Nat.lt_irrefl _)
   ·exact nb q
  have e2:=fl.1 b o1 (inB b o1 e1 nb')
  have e':h2.get? b=some o:=e
  rw [e'] at e2;cases e2
  exact inB b _ e1 nb'
theorem ZeV {P:Program} {w:World} {outer:List Env} {H H':Hp} {s s':Shared} {a C t:Addr} {B h2:Heap} (un:Un (frs outer) [] H H' s.heap s'.heap) (hok:HOk P w H' s'.heap) (fr:s'.heap.FunFrames B outer)
  (trk:∀ b o,s'.heap.get? b=some o->H' b≠none->B.get? b=some o) (old:∀ b o0 o,s.heap.get? b=some o0->s'.heap.get? b=some o->b ∉ frs outer->B.get? b=some o) (st:B.StaysIn h2) (sm:s'.heap.UpToSlots h2) :
  Un (frs outer) [] H H' s.heap h2/\HOk P w H' h2:=by
 refine ⟨⟨λb o e n hb hx=>st b o (old b o o e (un.keep b o e n hb hx) hb),λb o e n hb hx=>?_,un.free,λb o e hx=>?_,un.tups,un.frzs,un.tbls⟩,λb u e=>?_⟩
 ·obtain ⟨sl,e1⟩:=un.slot b o e n hb hx
  obtain ⟨_,o',ho',hnf⟩:=fr.mem hb
  rw [e1] at ho';cases ho'
  obtain ⟨sl',e2⟩:=sm b _ e1 hnf
  exact ⟨sl',e2⟩
 ·obtain ⟨o1,e1⟩:=un.there b o e hx
  by_cases hb:b∈frs outer
  ·obtain ⟨_,o',ho',hnf⟩:=fr.mem hb
   rw [e1] at ho';cases ho'
   obtain ⟨sl',e2⟩:=sm b _ e1 hnf
   exact ⟨_,e2⟩
  ·exact ⟨o1,st b o1 (old b o o1 e e1 hb)⟩
 ·refine (hok b u e).stay (λc v hc q=>st c v (trk c v q ?_)) (λ_ q=>q) λ_ _ q=>q
  rcases hc with z | z
  ·rw [z,e];simp
  ·rw [z];simp
theorem Inv.track {a:Addr} {u:HO} (I:Inv X pins σ H s) (hn:H a=none) (f1:a≠X.env.locals) (f4:∀ x c,X.env.cells.lookup x=some c->c≠a) (f5:∀ p∈X.pn++pins,p.1≠a) (hs:X.s₀.heap.get? a=none)
  (ok:∀ H',ObjOk X.prog X.w H' s.heap a u):Inv X pins σ (upd H a u) s:=by
 refine ⟨I.ok,I.os,I.bare,⟨I.base.keep,I.base.slot,λb o e n z=>?_,I.base.there,λb xs e=>?_,λb o x e=>?_,λb ps e=>?_⟩,I.loc,I.cell,?_,λx c e=>?_,λp hp=>?_,λb v e=>?_,I.len⟩
 ·rw [Zar (show b≠a from λq=>by rw [q,hs] at e;cases e)]
  exact I.base.free b o e n z
 ·have:=I.base.tups b xs e
  rw [Zar (Zah this hn)];exact this
 ·have:=I.base.frzs b o x e
  rw [Zar (Zah this hn)];exact this
 ·obtain ⟨more,this⟩:=I.base.tbls b ps e
  exact ⟨more,by rw [Zar (Zah this hn)];exact this⟩
 ·rw [Zar (Ne.symm f1)];exact I.free
 ·rw [Zar (f4 x c e)];exact I.freeC x c e
 ·obtain ⟨e,n,r⟩:=I.pin p hp
  exact ⟨e,by rw [Zar (f5 p hp)];exact n,r⟩
 ·by_cases hb:b=a
  ·subst hb
   rw [Zab] at e;cases e
   exact ok _
  ·rw [Zar hb] at e
   exact (I.hok b v e).stay (λ_ _ _ q=>q) (λc q=>by rw [Zar (Zah q hn)];exact q) λc xs q=>by rw [Zar (Zah q hn)];exact q
end
end L2
namespace L2
open PySem PySem.Spec PyProof.Rows
abbrev Zms:List Value:=[.type "ValueError", .type "Exception", .type "BaseException", .type "object"]
abbrev ExcC (K:PySem.W.Frag) (C:Addr):Prop:=PySem.W.excIn K C Zms "ValueError.__new__" = true
theorem Zet {K:PySem.W.Frag} {h:Heap} {C:Addr} (KX:K.In h) (ex:ExcC K C):∃ mro' ns' mN',(∃ nm' qn' bs' hd' sn' sub' ab' col' dd' j0 j1 j2 j3 j5,
  h.get? C=some (excClassObj nm' qn' C ns' bs' mro' hd' sn' sub' ab' col' dd' j0 j1 j2 j3 j5 "ValueError.__new__"))/\h.Ns ns' mN'/\mN' "__init__" = none/\OwnTail h Zms mro':=by
 have ex':=ex
 unfold ExcC PySem.W.excIn at ex'
 split at ex'
 ·rename_i dd' cd' sl' lk
  have lk':=KX _ _ lk
  split at ex'
  ·rename_i C' rest' j0 j1 j2 j3 n' j5 hm hs
   rw [Bool.and_eq_true,Bool.and_eq_true,Bool.and_eq_true,Bool.and_eq_true,Bool.and_eq_true,beq_iff_eq,beq_iff_eq,beq_iff_eq] at ex'
   obtain ⟨⟨⟨⟨⟨z1,z2⟩,z3⟩,z4⟩,z5⟩,z6⟩:=ex'
   have z3':cd'.hasDel=false:=by simpa using z3
   subst z1 z2
   cases cd' with
   | mk a1 a2 a3 a4 a5 a6 a7 a8 a9 a10 a11=>
    have hm':a3=.ref C'::rest':=hm
    have h11:a11=false:=z3'
    subst hm' h11
    have es:sl'=#[j0,j1,j2,j3,some (.builtin "ValueError.__new__"),j5]:=by
     cases sl' with
     | mk l=>exact congrArg Array.mk hs
    subst es
    exact ⟨rest',a4,_,⟨_,_,_,_,_,_,_,_,_,_,_,_,_,_,lk'⟩,.of_isNs (PySem.W.isNs_of_in KX z5),PySem.W.nsMap_none_of_in KX z5 z6,PySem.W.tail_of_in KX z4⟩
  ·cases ex'
 ·cases ex'
section
variable {X:Cx}
def Zkc (C:Addr) (E:XK) (t:TA):TS:=λ_ σ H=>t σ H λvs H1=>vs.length<=sizeLine/\E (.ref C) none H1
theorem ZcI {C:Addr} {E:XK} {x:Str} {np cpos pos:Pos} {e:Expr} {es:List Expr} {t:TA} (hc:X.calm=true) (hR:ZeU X E) (hg:Gl X x) (hm:X.mg x=some (.ref C)) (ex:ExcC X.K C) (ha:PA X (e::es) t)
  (hdb:(x == ("__debug__" : Str))=false:=by decide) (he:starEach (e::es) X.env=(false,eval e X.env)::starEach es X.env:=by rfl) (hpl:(backTo cpos (starEach es X.env)).any (·.1)=false:=by rfl) :
  PS X (.Raise (some (.Call (.Name x np) (e::es) [] cpos)) none pos) (Zkc C E t):=by
 intro pins s σ H D I h
 obtain ⟨mro',ns',mN',⟨nm',qn',bs',hd',sn',sub',ab',col',dd',j0,j1,j2,j3,j5,hC⟩,hN,hni,T⟩:=Zet I.mod.kin ex
 refine wpAny_Raise_call_subT (C:=C) (nm:=nm') (q:=qn') (N:=ns') (bs:=bs') (bm:=mro') (hdct:=hd') (sn:=sn') (sub:=sub') (ab:=ab') (col:=col') (dd:=dd') (k0:=j0) (k1:=j1) (k2:=j2) (k3:=j3) (k5:=j5)
  PySem.F.excBase_ValueError (mN:=mN') (T.hasType PySem.F.excBase_ValueError.hasBase) (I.ok.hd hc) (by rw [he];show (false || (backTo cpos (starEach es X.env)).any (·.1))=false;rw [hpl];rfl) hni (ZcP I hg hm ⟨rfl,?_⟩ hdb)
 have hA:=ha cpos pins s σ H _ I h
 rw [he] at hA ⊢
 refine Calls.evalArgs_plain (thn hA λus s2 ⟨vs,H2,I2,r2,hl,q2⟩=>?_)
 exact ⟨rfl,by rw [<-r2.length];exact hl,I2.bk _ _ hC,hN.keeps I2.bk,T.keeps I2.bk,λh' a hm=>hR pins σ H2 s2 h' a C us I2 hm q2⟩
def Cx.inExc (X:Cx) (a:Addr):Cx:={ X with A:=X.A.mark (some (.ref a)),calm:=false,xe:=λ_ _=>False }
theorem Cx.Ok.inExc {X:Cx} (ok:X.Ok) (a:Addr):(X.inExc a).Ok:=
 ⟨ok.mod,ok.kind,ok.glob,ok.blt,ok.above,ok.inj,ok.has,ok.cab,(λz=>nomatch z),ok.frames,ok.stk,ok.exf,ok.bs,ok.bsz,ok.noex,ok.exfs,ok.funs,ok.frf⟩
variable {pins:List (Addr×Obj)} {σ:St} {H:Hp} {s:Shared}
theorem Inv.inExc (I:Inv X pins σ H s) (a:Addr):Inv (X.inExc a) pins σ H s:=⟨I.ok.inExc a,I.os,I.bare,I.base,I.loc,I.cell,I.free,I.freeC,I.pin,I.hok,I.len⟩
theorem Inv.outExc {a:Addr} (ok:X.Ok) (I:Inv (X.inExc a) pins σ H s):Inv X pins σ H s:=⟨ok,I.os,I.bare,I.base,I.loc,I.cell,I.free,I.freeC,I.pin,I.hok,I.len⟩
theorem ZcJ {M:Model} {A:Around} {E:Value->Shared->Prop} {i:Nat} {n:Str} {pos:Pos} {Q:Unit->Shared->Prop} (I:Inv X pins σ H s) (hN:X.N.Nodup) (hi:X.N[i]?=some n) (hl:X.env.scope.names.lookup n=some .local)
  (h:∀ s',Inv X pins (σ.set i none) H s'->Q () s'):wpAny M A (do bindName X.env n .none;unbindBehindTheSuite X.env n pos) Q E s:=by
 obtain ⟨m,hn,hlk⟩:=id I.loc
 refine wpAny_nameGoes_keeps hl hn (by rw [I.ok.kind];rfl) λh' v hn' sb=>h _ ?_
 have old:∀ b o,X.s₀.heap.get? b=some o->b≠X.env.locals:=λb o e=>Nat.ne_of_lt (Nat.lt_of_lt_of_le (Heap.lt_size e) I.ok.above)
 have hLn:∀ b u,H b=some u->b≠X.env.locals:=λb u e z=>by rw [z,I.free] at e;cases e
 refine ⟨I.ok,I.os,I.bare,⟨λb o e z hb hx=>(sb.2 b (old b o e)).trans (I.base.keep b o e z hb hx),λb o e z hb hx=>?_,I.base.free,λb o e hx=>?_,I.base.tups,I.base.frzs,I.base.tbls⟩,
  ⟨_,hn',λj y v' e1 e2 e3=>?_⟩,λy c e=>?_,I.free,I.freeC,λp hp=>?_,λb u e=>?_,by simpa using I.len⟩
 ·obtain ⟨sl,q⟩:=I.base.slot b o e z hb hx
  exact ⟨sl,(sb.2 b (old b o e)).trans q⟩
 ·obtain ⟨o',q⟩:=I.base.there b o e hx
  exact ⟨o',(sb.2 b (old b o e)).trans q⟩
 ·by_cases hj:j=i
  ·subst hj
   have hiσ:j<σ.length:=by rw [I.len];exact (List.getElem?_eq_some_iff.mp hi).1
   rw [List.getElem?_set_self hiσ] at e2
   cases e2
  ·rw [List.getElem?_set_ne (Ne.symm hj)] at e2
   obtain ⟨u,ru,lk⟩:=hlk j y v' e1 e2 e3
   refine ⟨u,ru,?_⟩
   have hyn:y≠n:=λz=>hj (Zdt hN e1 (z▸hi))
   rcases lk with ⟨k,e⟩ | ⟨k,c,e,z⟩
   ·exact .inl ⟨k,by simp [hyn,e]⟩
   ·exact .inr ⟨k,c,e,z.sameBut sb (I.cne y c e)⟩
 ·obtain ⟨v',z⟩:=I.cell y c e
  exact ⟨v',z.sameBut sb (I.cne y c e)⟩
 ·obtain ⟨e,z,ne,nf,d⟩:=I.pin p hp
  exact ⟨(sb.2 p.1 ne).trans e,z,ne,nf,d⟩
 ·refine (I.hok b u e).stay (λc v' hc q=>(sb.2 c ?_).trans q) (λ_ q=>q) λ_ _ q=>q
  rcases hc with z | z
  ·rw [z];exact hLn b u e
  ·exact hLn c _ z
end
end L2
namespace L2
open PySem PySem.Spec PyProof.Rows
theorem Zdw {M:Model} {h:Heap} {a C:Addr} (hx:Zft a C h):PySem.W.Looks M h (typeOf (.ref a)) (.ref C):=by
 obtain ⟨ob,vs,e,c,d⟩:=hx
 exact c▸(PySem.W.Looks.ld e).andThen .now
theorem Zf9 {K:PySem.W.Frag} {M:Model} {A:Around} {E:Value->Shared->Prop} {Q:Bool->Shared->Prop} {s:Shared} {a C W:Addr} {b:Bool} (KX:K.In s.heap) (hx:Zft a C s.heap)
  (hk:PySem.W.kitCls K (.ref C) (.ref W)=some b) (hb:PySem.W.subIn K (.ref W) (.type "BaseException")=some true) (h:Q b s):wpAny M A (excMatches (.ref a) (.ref W)) Q E s:=by
 obtain ⟨hty,his,hsub⟩:=PySem.W.kit_cls (M:=M) KX hk
 have hB:=PySem.W.looks_subIn (M:=M) KX hb
 have LT:=Zdw (M:=M) hx
 obtain ⟨h0,g,dd,tk,os⟩:=s
 have f:=tc_notTuple
 unfold excMatches isInstance isExcClass
 refine wpAny_bind (wpAny_bind (hty.at (wpAny_of_eq f ?_)))
 simp only [Bool.false_eq_true,if_false]
 refine wpAny_bind (wpAny_pure ?_)
 simp only [List.forIn_cons,List.forIn_nil]
 refine wpAny_bind (wpAny_bind (wpAny_bind (wpAny_bind (his.at ?_))))
 simp only [if_true]
 refine hB.at ?_
 simp only [Bool.not_true,Bool.false_eq_true,if_false]
 refine wpAny_pure (wpAny_pure ?_)
 refine wpAny_bind (LT.at ?_)
 refine wpAny_bind (wpAny_bind (wpAny_bind (hsub.at ?_)))
 cases b with
 | true=>simp only [if_true];first | exact wpAny_pure (wpAny_pure (wpAny_pure h)) | exact wpAny_pure (wpAny_pure h) | exact wpAny_pure h
 | false=>simp only [Bool.false_eq_true,if_false];first | exact wpAny_pure (wpAny_pure (wpAny_pure h)) | exact wpAny_pure (wpAny_pure h) | exact wpAny_pure h
section
variable {X:Cx} {k:Nat} {f:Addr} {fd:FuncData} {ps:List Str} {sp:Sp} {dvs:List V} {ds:List Value} {fx:Str} {fp cpos bpos np hpos pos:Pos} {e:Expr} {es:List Expr} {t:TA}
def Zga (K:PySem.W.Frag) (W:Addr) (i:Nat) (ts:TS) (D:Ends) (σ:St):XK:=λcls _ H2=>∃ C,cls=.ref C/\PySem.W.kitCls K (.ref C) (.ref W)=some true /\
 ∀ a,H2 a=none->ts { nx:=λσ' H'=>D.nx (σ'.set i none) H',rt:=D.rt,bk:=λσ' H'=>D.bk (σ'.set i none) H',ct:=λσ' H'=>D.ct (σ'.set i none) H' } (σ.set i (some (.ref a))) (upd H2 a (ZjK a C))
theorem handled {pins:List (Addr×Obj)} {σ:St} {H:Hp} {s s':Shared} {D:Ends} {W:Addr} {wx n:Str} {i:Nat} {b0:Stmt} {suite:List Stmt} {rest:List ExceptHandler} {ts:TS} {ev:Value}
  (hc:X.calm=true) (hst:X.stack=X.env::X.outer) (hfr:X.env.frame=some X.env.locals) (hex:X.ex=[]) (hN:X.N.Nodup) (hi:X.N[i]?=some n) (hl:X.env.scope.names.lookup n=some .local)
  (hgW:Gl X wx) (hmW:X.mg wx=some (.ref W)) (hbE:PySem.W.subIn X.K (.ref W) (.type "BaseException")=some true) (hsu:∀ a,PSs (X.inExc a) (b0::suite) ts) (I:Inv X pins σ H s)
  (h:CXr X.prog X.w X.stack H s (Zga X.K W i ts D σ) ev s') (hdb:(wx == ("__debug__" : Str))=false:=by decide) :
  wpAny (model X.prog X.w) X.A (noteFrame ev X.env) (λ_ s2=>wpAny (model X.prog X.w) X.A (setFlight ev none) (λ_ s3=>
   wpAny (model X.prog X.w) X.A (handleBy ev X.env (.ExceptHandler (some (.Name wx np)) (some n) (b0::suite) hpos::rest)) (SP X pins D) X.xe s3) X.xe s2) X.xe s':=by
 obtain ⟨a,C,H',rfl,⟨t,B,os,bare,un,hok,fl,trk,old⟩,C',eC,hk,q⟩:=h
 cases eC
 have ff:∀ {E:Value->Shared->Prop},∀ (x:Value) (s:Shared),(λ(_:Value) (_:Shared)=>False) x s->E x s:=λ_ _ z=>False.elim z
 have flX:=fl
 rw [hst] at flX
 have afr:=I.ok.frames
 rw [hst] at afr
 have new:s.heap.get? a=none:=by
  cases z:s.heap.get? a with
  | none=>rfl
  | some o0=>
   exfalso
   obtain ⟨ob,vs,e1,c1,d1,_⟩:=fl.first
   by_cases hb:a∈frs X.stack
   ·obtain ⟨_,o',ho',hnf⟩:=fl.2.2.1.mem hb
    rw [e1] at ho';cases ho'
    exact hnf vs d1
   ·have:=old a o0 ob z e1 hb
    rw [fl.2.1] at this;cases this
 have hna:H' a=none:=by
  cases z:H' a with
  | none=>rfl
  | some u=>
   exfalso
   obtain ⟨ob,vs,e1,_⟩:=fl.first
   have:=trk a ob e1 (by rw [z];simp)
   rw [fl.2.1] at this;cases this
 have na1:a≠X.env.locals:=λz=>by
  obtain ⟨m,⟨o,_,_,ho,_⟩,_⟩:=I.loc
  rw [<-z,new] at ho;cases ho
 have na2:∀ x c,X.env.cells.lookup x=some c->c≠a:=λx c e z=>by
  obtain ⟨v,o,ho,_⟩:=I.cell x c e
  rw [z,new] at ho;cases ho
 have na3:∀ p∈X.pn++pins,p.1≠a:=λp hp z=>by
  have:=(I.pin p hp).1
  rw [z,new] at this;cases this
 have na4:X.s₀.heap.get? a=none:=by
  cases z:X.s₀.heap.get? a with
  | none=>rfl
  | some o=>
   obtain ⟨o',e'⟩:=I.base.there a o z (by rw [hex];simp)
   rw [new] at e';cases e'
 have at_:∀ {h2:Heap} {tk:Nat},B.StaysIn h2->s'.heap.UpToSlots h2->Inv X pins σ H' { s' with heap:=h2,toks:=tk }:=λ{h2 tk} st sm=>by
  obtain ⟨u2,k2⟩:=ZeV (t:=t) (a:=a) (C:=C) un hok fl.2.2.1 trk old st sm
  exact I.call' (ch:=[]) os u2 k2 bare (λb z=>absurd z (by simp))
 refine wpAny_looks_onW afr hfr flX λh4 held4 sm4=>?_
 refine wpAny_landsW held4 λh5 fl5 sm5=>?_
 have I5:Inv X pins σ H' { s' with heap:=h5 }:=at_ (tk:=s'.toks) fl5.1 (sm4.trans sm5)
 refine wpAny_handleBy_cons (codeAny_handlers_test ?_) (by intro q;cases q)
 refine ZcP (X:=X.inExc a) (I5.inExc a) hgW hmW ?_ hdb
 obtain ⟨ob,vs,e1,c1,d1,_⟩:=fl5.first
 refine Zf9 (b:=true) I5.kIn ⟨ob,vs,e1,c1,d1⟩ hk hbE ?_
 refine codeAny_handlers_suite_as ?_
 refine lands_againW fl5 λh6 fl6 sm6=>?_
 have I6:Inv X pins σ H' { s' with heap:=h6 }:=at_ (tk:=s'.toks) fl6.1 ((sm4.trans sm5).trans sm6)
 obtain ⟨ob6,vs6,e6,c6,d6,_⟩:=fl6.first
 have I7:=I6.track (u:=ZjK a C) hna na1 na2 na3 na4 λH2=>ZiO ⟨ob6,vs6,e6,c6,d6⟩
 refine ZcG (X:=X.inExc a) (I7.inExc a) hN hi (.inl hl) (v:=.ref a) rfl (λs8 I8=>?_) (.inr hl)
 refine wpAny_mono (hsu a pins s8 _ _ _ I8 (q a hna)) (λfl s9 q9=>?_) ff
 show wpAny _ _ (do bindName X.env n .none;unbindBehindTheSuite X.env n hpos) _ _ s9
 cases fl with
 | next=>
  obtain ⟨σ9,H9,I9,q9⟩:=q9
  exact ZcJ (I9.outExc I.ok) hN hi hl λs10 I10=>⟨_,_,I10,q9⟩
 | brk=>
  obtain ⟨σ9,H9,I9,q9⟩:=q9
  exact ZcJ (I9.outExc I.ok) hN hi hl λs10 I10=>⟨_,_,I10,q9⟩
 | cont=>
  obtain ⟨σ9,H9,I9,q9⟩:=q9
  exact ZcJ (I9.outExc I.ok) hN hi hl λs10 I10=>⟨_,_,I10,q9⟩
 | ret u=>
  obtain ⟨v,σ9,H9,I9,r9,q9⟩:=q9
  exact ZcJ (I9.outExc I.ok) hN hi hl λs10 I10=>⟨v,_,_,I10,r9,q9⟩
theorem Zhg {pins:List (Addr×Obj)} {σ:St} {H:Hp} {s:Shared} {Q:VK} {E:XK} {QQ:Value->Shared->Prop} {EE:Value->Shared->Prop} (F:ZaK X.prog X.w X.K X.mg X.base (CXr X.prog X.w) k f fd ps sp) (hr:Room k X.A) (hg:Gl X fx) (hm:X.mg fx=some (.ref f)) (hk:PySem.W.keepIn X.K (.ref f)=true)
  (hb:Binds X.K fd ps ds) (hd:Vals dvs ds) (ha:PA X.nox (e::es) t) (I:Inv X pins σ H s) (h:t σ H λvs H1=>sp (vs++dvs) H1 Q E)
  (hQ:∀ u s',EP X pins σ Q u s'->QQ u s') (hE:∀ ev H1 s1 s',Inv X pins σ H1 s1->CXr X.prog X.w X.stack H1 s1 E ev s'->EE ev s')
  (hdb:(fx == ("__debug__" : Str))=false:=by decide) (he:starEach (e::es) X.env=(false,eval e X.env)::starEach es X.env:=by rfl) (hpl:(backTo cpos (starEach es X.env)).any (·.1)=false:=by rfl) :
  wpAny (model X.prog X.w) X.A (eval (.Call (.Name fx fp) (e::es) [] cpos) X.env) QQ EE s:=by
 refine wpAny_Call_Name_kw (ZcP I hg hm ?_ hdb)
 refine PySem.W.callWith_K (h₀:=X.base) I.ok.mod.kin hk (wpAny_mono (ha cpos pins s σ H _ (I.wish _) h) (λus s1 ⟨vs,H1,I1,r,q⟩=>⟨I1.unwish.kIn,?_⟩) (λ_ _ z=>False.elim z)) he hpl
 have I1:=I1.unwish
 have r2:Vals (vs++dvs) (us++ds):=r.append hd
 have hl:(us++ds).length=ps.length:=by rw [<-r2.length];exact F.len _ _ _ _ q
 refine wpAny_call (codeAny_mono (F.run X.A X.stack s1 H1 ⟨us,[]⟩ (us++ds) (vs++dvs) Q E hr I1.env0 (hb s1 us I1.kIn hl) r2 q) λr s' hq=>?_)
 cases r with
 | error ev=>exact hE ev H1 s1 s' I1 hq
 | ok fl=>
  cases fl with
  | ret u=>exact hQ u s' (I1.after hq)
  | next=>exact False.elim hq
  | brk=>exact False.elim hq
  | cont=>exact False.elim hq
def ZnY (K:PySem.W.Frag) (W:Addr) (i:Nat) (sp:Sp) (dvs:List V) (t:TA) (ts:TS):TS:=λD σ H=>t σ H λvs H1=>sp (vs++dvs) H1 (λ_ H2=>D.nx σ H2) (Zga K W i ts D σ)
end
end L2
namespace L2
open PySem PySem.Spec PyProof.Rows
theorem Zgb {K:PySem.W.Frag} {prog:Program} {w:World} {A:Around} {E:Value->Shared->Prop} {Q:Option Value->Shared->Prop} {s:Shared} {a C:Addr} (KX:K.In s.heap) (hx:Zft a C s.heap)
  (hga:PySem.W.findIn K (.ref C) "__getattribute__" = some (some (.builtin "BaseException.__getattribute__"))) (hnga:PySem.W.findIn K (.ref C) "__getattr__" = some none)
  (hcl:PySem.W.findIn K (.ref C) "__class__" = some (some (.builtin "object.__class__"))) (hm:PySem.W.mroIn K C (.type "object")=some true) (hB:PySem.W.subIn K (.ref C) (.type "BaseException")=some true)
  (h:Q (some (.ref C)) { s with toks:=s.toks+1 }):wpAny (model prog w) A (getAttr? (.ref a) "__class__") Q E s:=by
 have L0:=Zdw (M:=model prog w) hx
 have L1:=PySem.W.looks_findIn (M:=model prog w) KX hga
 have L2:=PySem.W.looks_findIn (M:=model prog w) KX hnga
 have L3:=PySem.W.looks_findIn (M:=model prog w) KX hcl
 have L4:=PySem.W.looks_subIn (M:=model prog w) KX hB
 obtain ⟨h0,g,d,t,os⟩:=s
 have f3:=PySem.F.attr_ValueError.ga.bind (.ref a)
 unfold getAttr? getAttrBy? getAttrBy
 refine wpAny_bind (wpAny_mkText (wpAny_bind (wpAny_attempt (wpAny_holding (wpAny_bind (L0.at (wpAny_bind (L1.at ?_))))))))
 dsimp only
 have hx2:(onTheHeap (Value.ref C) && Value.builtin "BaseException.__getattribute__" == Value.builtin "object.__getattribute__")=false:=by
  have z:(Value.builtin "BaseException.__getattribute__" == Value.builtin "object.__getattribute__")=false:=by decide +kernel
  rw [z,Bool.and_false]
 rw [hx2]
 simp only [Bool.false_eq_true,if_false]
 unfold getAttrByItsOwn
 repeat (any_goals (first | assumption | with_reducible refine L0.at ?_ | with_reducible refine L2.at ?_ | wp_step))
 have hsp:splitId "BaseException.__getattribute__" = some ("BaseException", "__getattribute__"):=by decide +kernel
 have hkd:builtinKind "BaseException.__getattribute__" = some .slot:=by decide +kernel
 have har:=PySem.F.args_bexc_ga (.ref a) (.str (Str.ofString "__class__") t)
 refine codeAny_call_builtin PySem.F.attr_ValueError.ga.plain PySem.F.entry_bexc_ga ?_
 show wpAny _ _ (checkBuiltinCall "BaseException.__getattribute__" ⟨[.ref a,.str (Str.ofString "__class__") t],[]⟩) _ _ _
 simp only [checkBuiltinCall,hkd,hsp]
 refine wpAny_bind ?_
 unfold isInstance
 have f5:=PySem.F.typeOf_object_class
 have f6:=PySem.F.slot_gs_get.lookup
 have f7:=PySem.F.slot_gs_set.lookup
 have hT5:(⟨h0,g,d,t+1,os⟩:Shared).TypeIs (.builtin "object.__class__") "getset_descriptor" := PySem.F.typeOf_object_class
 refine wpAny_bind (L0.at (L4.at ?_))
 repeat (any_goals (first | assumption | with_reducible refine L0.at ?_ | with_reducible refine L3.at ?_ | wp_step))
 have Lo:PySem.W.Looks (model prog w) h0 (isSubtype (.ref C) (.type (".".intercalate ("object.__class__".cutAt '.').dropLast))) true:=by
  rw [PySem.F.owner_object_class]
  exact PySem.W.looks_mroIn KX hm
 have hT6:(⟨h0,g,d,t+1,os⟩:Shared).TypeIs (.builtin "object.__class__") "getset_descriptor" := PySem.F.typeOf_object_class
 refine codeAny_call_builtin PySem.F.slot_gs_get.plain PySem.F.entry_gs_get (PySem.F.slot_gs_get.check _ _ _ _ _ _ _ _ hT6 (PySem.F.args_gs_get _ _ _) ?_)
 repeat (any_goals (first | assumption | with_reducible refine L0.at ?_ | with_reducible refine Lo.at ?_ | wp_step))
 refine ⟨Code.quiet_builtin _ (by decide +kernel),codeAny_builtin PySem.F.entry_object_class ?_⟩
 repeat (any_goals (first | assumption | with_reducible refine L0.at ?_ | wp_step))
end L2
namespace L2
open PySem PySem.Spec PyProof.Rows
structure Zkd (K:PySem.W.Frag) (C:Addr):Prop where
 ex:ExcC K C
 ga:PySem.W.findIn K (.ref C) "__getattribute__" = some (some (.builtin "BaseException.__getattribute__"))
 nga:PySem.W.findIn K (.ref C) "__getattr__" = some none
 cl:PySem.W.findIn K (.ref C) "__class__" = some (some (.builtin "object.__class__"))
 ob:PySem.W.mroIn K C (.type "object")=some true
 be:PySem.W.subIn K (.ref C) (.type "BaseException")=some true
theorem ZeW {K:PySem.W.Frag} {a C:Addr} (k:Zkd K C):PySem.W.KitX K (.ref a) (.ref C) (Zft a C) where
 ty:=λ_ _ _ p=>Zdw p
 it:=λM h KX _=>by
  obtain ⟨_,_,_,⟨_,_,_,_,_,_,_,_,_,_,_,_,_,_,hC⟩,_⟩:=Zet KX k.ex
  intro A Q E s kk q
  unfold isType loadHead
  exact wpAny_bind (wpAny_loadPart (kk _ _ hC) (wpAny_pure q))
 ne:=λh tp dd its n sl KX htp=>by
  obtain ⟨_,_,_,⟨_,_,_,_,_,_,_,_,_,_,_,_,_,_,hC⟩,_⟩:=Zet KX k.ex
  refine Bool.eq_false_iff.mpr λq=>?_
  have e:C=tp:=Value.ref.inj (beq_iff_eq.mp q)
  rw [<-e,hC] at htp
  have z:=congrArg Obj.data (Option.some.inj htp)
  unfold excClassObj at z
  cases z
 ca:=λKX p q=>Zgb KX p k.ga k.nga k.cl k.ob k.be q
def Zd5:V->Value
 | .ty n=>.type n
 | .ref a=>.ref a
 | _=>.none
def Zgc:V->Bool
 | .ty _=>true
 | .ref _=>true
 | _=>false
theorem RelV.cls {c:V} {u:Value} (r:RelV c u) (h:Zgc c=true):u=Zd5 c:=by
 cases c with
 | ty n=>exact r
 | ref a=>exact r
 | _=>cases h
theorem Vals.cls:∀ {cs:List V} {us:List Value},Vals cs us->cs.all Zgc=true->us=cs.map Zd5
 | _,_,.nil,_=>rfl
 | _,_,.cons r t,h=>by
  rw [List.all_cons,Bool.and_eq_true] at h
  rw [List.map_cons,r.cls h.1,Vals.cls t h.2]
def Zmt (K:PySem.W.Frag):List V->Hp->VK->Prop:=λxs H Q=>∃ x c b,xs=[x,c]/\Q (.bl b) H /\
 ((∃ t,Zfr K H x t/\Zgc c=true/\PySem.W.kitOne K t (Zd5 c)=some b) \/
  (∃ a C,x=.ref a/\H a=some (ZjK a C)/\Zkd K C/\Zgc c=true/\PySem.W.kitOne K (.ref C) (Zd5 c)=some b) \/
  (∃ a C tp cs,x=.ref a/\H a=some (ZjK a C)/\Zkd K C/\c=.ref tp/\H tp=some (.tup cs)/\cs.all Zgc=true/\PySem.W.kitAny K (.ref C) (cs.map Zd5)=some b))
theorem Zhh {X:Cx}:Zbc X (.builtin "isinstance") (Zmt X.K):=by
 intro pins s σ H xs us Q I rv h
 obtain ⟨x,c,b,rfl,q,h⟩:=h
 obtain ⟨u,cv,rfl,ru,rc⟩:=rv.two
 have fin:∀ tk,EP X pins σ Q (.bool b) { s with toks:=tk }:=λtk=>⟨.bl b,H,I.tok tk,rfl,q⟩
 rcases h with ⟨t,ty,hc,e⟩ | ⟨a,C,rfl,ha,k,hc,e⟩ | ⟨a,C,tp,cs,rfl,ha,k,rfl,ht,hc,e⟩
 ·rw [rc.cls hc]
  exact Zf0 I ru ty e fin
 ·rw [rc.cls hc]
  cases (show u=Value.ref a from ru)
  obtain ⟨p,_⟩:=I.hok a _ ha
  exact PySem.W.kia_one (ZeW k) I.kIn p e (λz=>nomatch z) fin
 ·cases (show u=Value.ref a from ru)
  cases (show cv=Value.ref tp from rc)
  obtain ⟨p,_⟩:=I.hok a _ ha
  obtain ⟨_,its,r,o,eo,co,n,dn⟩:=I.hok tp _ ht
  obtain ⟨ocl,odi,oda,osl⟩:=o
  cases (show ocl=.type "tuple" from co)
  cases (show oda=.seq its.toArray n from dn)
  exact PySem.W.kia_tup (its:=its) (ZeW k) I.kIn p eo (by rw [r.cls hc];exact e) (λz=>nomatch z) fin
mutual
inductive DatV (K:PySem.W.Frag) (H:Hp):V->PyData->Prop
 | non:DatV K H .non .none
 | bl (b:Bool):DatV K H (.bl b) (.bool b)
 | int (i:Int):DatV K H (.int i) (.int i)
 | str (x:Str):DatV K H (.str x) (.str x)
 | lst {a:Addr} {xs:List V} {ds:List PyData}:SqL K H a xs->DatVs K H xs ds->DatV K H (.ref a) (.list ds)
 | tup {a:Addr} {xs:List V} {ds:List PyData}:SqT K H a xs->DatVs K H xs ds->DatV K H (.ref a) (.tuple ds)
inductive DatVs (K:PySem.W.Frag) (H:Hp):List V->List PyData->Prop
 | nil:DatVs K H [] []
 | cons {x:V} {d:PyData} {xs:List V} {ds:List PyData}:DatV K H x d->DatVs K H xs ds->DatVs K H (x::xs) (d::ds)
end
section
variable {X:Cx} {pins:List (Addr×Obj)} {σ:St} {H:Hp} {s:Shared}
mutual
theorem DatV.reads (I:Inv X pins σ H s):∀ {x:V} {d:PyData} {u:Value},DatV X.K H x d->RelV x u->∃ as,Reads s.heap u d as
 | _,_,_,.non,r=>by cases r;exact ⟨_,.none⟩
 | _,_,_,.bl b,r=>by cases r;exact ⟨_,.bool b⟩
 | _,_,_,.int i,r=>by obtain ⟨t,rfl⟩:=r;exact ⟨_,.int i t⟩
 | _,_,_,.str x,r=>by obtain ⟨t,rfl⟩:=r;exact ⟨_,.str x t⟩
 | _,_,_,.lst hq hs,r=>by
  cases r
  obtain ⟨its,rv,⟨o,n,e,c,dd,dt⟩,_⟩:=I.list hq
  obtain ⟨as,ra⟩:=DatVs.reads I hs rv
  exact ⟨_,.list e c dt (by simpa using ra)⟩
 | _,_,_,.tup hq hs,r=>by
  cases r
  obtain ⟨its,rv,⟨o,e,c,n,dt⟩,_⟩:=I.tuple hq
  obtain ⟨as,ra⟩:=DatVs.reads I hs rv
  exact ⟨_,.tuple e c dt (by simpa using ra)⟩
theorem DatVs.reads (I:Inv X pins σ H s):∀ {xs:List V} {ds:List PyData} {us:List Value},DatVs X.K H xs ds->Vals xs us->∃ as,ReadsAll s.heap us ds as
 | _,_,_,.nil,.nil=>⟨_,.nil⟩
 | _,_,_,.cons h hs,.cons r rs=>by
  obtain ⟨as,ra⟩:=DatV.reads I h r
  obtain ⟨bs,rb⟩:=DatVs.reads I hs rs
  exact ⟨_,.cons ra rb⟩
end
end
def ZiP (K:PySem.W.Frag) (neg:Bool):R2:=λx y H Q=>∃ d1 d2,DatV K H x d1/\DatV K H y d2/\SeqAt.shaped d1=true/\SeqAt.shaped d2=true/\Q (.bl (neg != PyData.eqv d1 d2)) H
theorem Zke {X:Cx} (hu:X.A.units+64<cLine):OpR X (compareOp .Eq) (ZiP X.K false):=by
 intro pins s σ H x y v u Q I rx ry h
 obtain ⟨d1,d2,h1,h2,s1,s2,q⟩:=h
 obtain ⟨as,r1⟩:=h1.reads I rx
 obtain ⟨bs,r2⟩:=h2.reads I ry
 exact eq_dataH r1 r2 s1 s2 hu ⟨.bl _,H,I,by cases PyData.eqv d1 d2 <;> rfl,q⟩
theorem Zkf {X:Cx} (hu:X.A.units+64<cLine):OpR X (compareOp .NotEq) (ZiP X.K true):=by
 intro pins s σ H x y v u Q I rx ry h
 obtain ⟨d1,d2,h1,h2,s1,s2,q⟩:=h
 obtain ⟨as,r1⟩:=h1.reads I rx
 obtain ⟨bs,r2⟩:=h2.reads I ry
 exact ne_dataH r1 r2 s1 s2 hu ⟨.bl _,H,I,by cases PyData.eqv d1 d2 <;> rfl,q⟩
def Lt2 (p:Nat) (a:Int):Prop:=a.natAbs<2 ^ p
theorem Lt2.bits {a:Int} {n:Nat} (h:Lt2 n a):Builtin.Int.intBits a<=n:=by
 unfold Builtin.Int.intBits
 by_cases z:a=0
 ·subst z
  exact Nat.zero_le _
 ·have hp:a.natAbs≠0:=by omega
  have hz:¬ ((a == 0)=true):=by simpa using z
  rw [if_neg hz]
  exact Nat.succ_le_of_lt ((Nat.log2_lt hp).mpr h)
theorem Lt2.mul {a b:Int} {p q:Nat} (h1:Lt2 p a) (h2:Lt2 q b):Lt2 (p+q) (a * b):=by
 show (a * b).natAbs<2 ^ (p+q)
 rw [Int.natAbs_mul,Nat.pow_add]
 exact Nat.mul_lt_mul_of_lt_of_lt h1 h2
theorem Lt2.add {a b:Int} {p:Nat} (h1:Lt2 p a) (h2:Lt2 p b):Lt2 (p+1) (a+b):=by
 have h1':a.natAbs<2 ^ p:=h1
 have h2':b.natAbs<2 ^ p:=h2
 show (a+b).natAbs<2 ^ (p+1)
 rw [Nat.pow_succ]
 omega
theorem Lt2.mono {a:Int} {p q:Nat} (h:Lt2 p a) (hp:p<=q):Lt2 q a:=Nat.lt_of_lt_of_le h (Nat.pow_le_pow_right (by decide) hp)
theorem Lt2.mod {a b:Int} {p:Nat} (hb:0<b) (h:Lt2 p b):Lt2 p (a % b):=by
 have h1:=Int.emod_nonneg a (Int.ne_of_gt hb)
 have h2:=Int.emod_lt_of_pos a hb
 have h':b.natAbs<2 ^ p:=h
 show (a % b).natAbs<2 ^ p
 omega
theorem Lt2.div {a b:Int} {p:Nat} (ha:0<=a) (hb:0<=b) (h:Lt2 p a):Lt2 p (a / b):=by
 have h':a.natAbs<2 ^ p:=h
 have h1:=Int.ediv_nonneg ha hb
 have h2:=Int.ediv_le_self b ha
 show (a / b).natAbs<2 ^ p
 omega
def ZlI (i j:Int):Prop:=∃ p q,Lt2 p i/\Lt2 q j/\p<=100000/\q<=100000
theorem ZbO {X:Cx}:OpR X (binaryOp .Mult) (rI ZlI λi j=>.int (i * j)):=opI λi j _ _ _ _ _ hc q=>by
 obtain ⟨p,r,h1,h2,hp,hr⟩:=hc
 have e:(2:Nat) ^ 20=1048576:=by decide
 exact mul_int q (.of_bits (by have:=h1.bits;omega) (by have:=h2.bits;omega))
def ZlJ (i j:Int):Prop:=0<j/\Lt2 9000 j
theorem ZeX {X:Cx}:OpR X (binaryOp .FloorDiv) (rI ZlJ λi j=>.int (i / j)):=opI λi j _ _ _ _ _ hc q=>by
 have h1:(0:Int)<j:=hc.1
 have h2:j.natAbs<2 ^ 9000:=hc.2
 refine floordiv_int (by omega) (by rw [Int.fdiv_eq_ediv_of_nonneg i (by omega)];exact q) (.inl (PyProof.noPylong_of_log2 ?_))
 exact (Nat.log2_lt (by omega)).mpr h2
theorem Same.new {H:Hp} {p:Addr} {o:HO} (h:H p=none):Same H (upd H p o):=λb u e=>by rw [Zar (Zah e h)];exact e
theorem Same.put {H H1:Hp} {p:Addr} {o:HO} (s:Same H H1) (h:H p=none):Same H (upd H1 p o):=λb u e=>by rw [Zar (Zah e h)];exact s b u e
theorem Zal {H:Hp} {p b:Addr} {o u:HO} (h:H b=some u) (n:b≠p):upd H p o b=some u:=by rw [Zar n];exact h
inductive Prs (H:Hp):List V->List (Int×Int)->Prop
 | nil:Prs H [] []
 | cons {p:Addr} {a b:Int} {xs:List V} {rs:List (Int×Int)}:H p=some (.tup [.int a,.int b])->Prs H xs rs->Prs H (.ref p::xs) ((a,b)::rs)
theorem Prs.len {H:Hp} {xs:List V} {rs:List (Int×Int)} (h:Prs H xs rs):xs.length=rs.length:=by
 induction h with
 | nil=>rfl
 | cons _ _ ih=>rw [List.length_cons,List.length_cons,ih]
theorem Prs.snoc {H:Hp} {xs:List V} {rs:List (Int×Int)} (h:Prs H xs rs) {p:Addr} {a b:Int} (e:H p=some (.tup [.int a,.int b])):Prs H (xs++[.ref p]) (rs++[(a,b)]):=by
 induction h with
 | nil=>exact .cons e .nil
 | cons e1 _ ih=>exact .cons e1 ih
theorem Prs.keep {H H':Hp} {xs:List V} {rs:List (Int×Int)} (h:Prs H xs rs) (k:∀ p ys,H p=some (.tup ys)->H' p=some (.tup ys)):Prs H' xs rs:=by
 induction h with
 | nil=>exact .nil
 | cons e1 _ ih=>exact .cons (k _ _ e1) ih
theorem Prs.same {H H':Hp} {xs:List V} {rs:List (Int×Int)} (h:Prs H xs rs) (k:Same H H'):Prs H' xs rs:=h.keep λp ys e=>k p _ e
theorem ZaM {H:Hp} {l:Addr} {zs:List V} {o:HO} (h:H l=some (.lst zs)):∀ p ys,H p=some (.tup ys)->upd H l o p=some (.tup ys):=λp ys e=>Zal e (ZfP e h (λz=>by cases z))
theorem ZbD {H:Hp} {l:Addr} {o:HO} (h:H l=none):∀ p ys,H p=some (.tup ys)->upd H l o p=some (.tup ys):=λp ys e=>Zal e (Zah e h)
def prD (r:Int×Int):PyData:=.tuple [.int r.1,.int r.2]
theorem Prs.dats {K:PySem.W.Frag} {H:Hp} {xs:List V} {rs:List (Int×Int)} (h:Prs H xs rs):DatVs K H xs (rs.map prD):=by
 induction h with
 | nil=>exact .nil
 | cons e _ ih=>exact .cons (.tup (SqT.of e) (.cons (.int _) (.cons (.int _) .nil))) ih
theorem Zeu (r q:Int×Int):PyData.eqv (prD r) (prD q)=decide (r=q):=by
 obtain ⟨a,b⟩:=r
 obtain ⟨c,d⟩:=q
 simp only [prD,PyData.eqv,PyData.eqvAll,Prod.mk.injEq]
 by_cases h1:a=c <;> by_cases h2:b=d <;> simp [h1,h2]
theorem Zev:∀ rs qs:List (Int×Int),PyData.eqvAll (rs.map prD) (qs.map prD)=decide (rs=qs)
 | [],[]=>by simp [PyData.eqvAll]
 | [],_::_=>by simp [PyData.eqvAll]
 | _::_,[]=>by simp [PyData.eqvAll]
 | r::rs,q::qs=>by
  rw [List.map_cons,List.map_cons]
  simp only [PyData.eqvAll,Zeu,Zev rs qs]
  by_cases h1:r=q <;> by_cases h2:rs=qs <;> simp [h1,h2]
theorem Zew:∀ rs:List (Int×Int),PyData.canLayAll0 (rs.map prD)=true
 | []=>by simp [PyData.canLayAll0]
 | r::rs=>by
  rw [List.map_cons]
  simp [PyData.canLayAll0,prD,PyData.canLay0,Zew rs]
theorem ZcW:∀ rs:List (Int×Int),PyData.depthAll (rs.map prD)<=2
 | []=>by simp [PyData.depthAll]
 | r::rs=>by
  have ih:=ZcW rs
  rw [List.map_cons]
  simp only [PyData.depthAll,prD,PyData.depth]
  omega
theorem Zdi (rs:List (Int×Int)):SeqAt.shaped (.list (rs.map prD))=true:=by
 unfold SeqAt.shaped
 rw [Bool.and_eq_true]
 refine ⟨by simp only [PyData.canLay0];exact Zew rs,decide_eq_true ?_⟩
 have:=ZcW rs
 simp only [PyData.depth]
 omega
theorem Zdj (n:Int) (rs:List (Int×Int)):SeqAt.shaped (.tuple [.int n,.list (rs.map prD)])=true:=by
 unfold SeqAt.shaped
 rw [Bool.and_eq_true]
 have:=ZcW rs
 refine ⟨by simp only [PyData.canLay0,PyData.canLayAll0,Zew rs,Bool.and_self],decide_eq_true ?_⟩
 simp only [PyData.depth,PyData.depthAll]
 omega
theorem ZiQ (n m:Int) (rs qs:List (Int×Int)):PyData.eqv (.tuple [.int n,.list (rs.map prD)]) (.tuple [.int m,.list (qs.map prD)])=(decide (n=m) && decide (rs=qs)):=by
 simp only [PyData.eqv,PyData.eqvAll,Zev,Bool.and_true]
 by_cases h:n=m <;> simp [h]
end L2
namespace L2
open PySem PySem.Spec PyProof.Rows
section
variable {P:Program} {w:World} {K:PySem.W.Frag} {mg:Str->Option Value} {base:Heap}
theorem Fun.okR {x qual:Str} {st:Stmt} {f:Addr} {fd:FuncData} {N ps:List Str} {k:Nat} {sp:Sp} (F:Fun K x qual st f fd) (S:Zav N ps (Zae st)) (len:∀ vs H Q E,sp vs H Q E->vs.length=ps.length)
  (hbody:∀ (cdv:Value) (A:Around) (outer:List Env) (s:Shared) (H:Hp) (vs:List V) (Q:VK) (E:XK),Room k (A.deeper (envOfC qual (Zae st) s.heap.objs.size f cdv))->sp vs H Q E ->
   ∃ t,PSs (Zf2 (CXr P w) P w K mg base N qual (Zae st) f cdv A outer s H E) (Zan st) t/\t { nx:=λ_ H'=>Q .non H',rt:=Q } (start N vs) H):ZaK P w K mg base (CXr P w) (k+1) f fd ps sp:=by
 obtain ⟨oc,od,kV,doc,pm,an,cdv,ct,osl,rfl,lk,hcd⟩:=F.ex
 refine ZiI lk hcd S len λA outer s H vs Q E hr hsp=>?_
 obtain ⟨t,h,q⟩:=hbody cdv A outer s H vs Q E hr hsp
 exact ⟨t,h,q⟩
theorem Zkg {X:Cx}:ZdV (CXr X.prog X.w) X E0:=λ_ _ _ _ _ _ _ ⟨_,_,_,_,_,h⟩=>h.elim
end
section
variable {X:Cx}
theorem Zbx {x:Str} {a:Addr} {pos:Pos} (hm:X.mg x=some (.ref a)) (hg:Gl X x:=by rfl) (hd:(x == ("__debug__" : Str))=false:=by decide):PE X (.Name x pos) (tC (.ref a)):=Ziz hg hm rfl hd
theorem ZeY {x:Str} {T:String} {pos:Pos} (hm:X.mg x=none) (hv:bootBuiltins x=some (.type T)) (hg:Gl X x:=by rfl) (hn:x ≠ "__name__" := by decide) (hd:(x == ("__debug__" : Str))=false:=by decide):PE X (.Name x pos) (tC (.ty T)):=ZiA hg hm hv rfl hn hd
end
theorem Zbi:bootBuiltins "isinstance" = some (.builtin "isinstance"):=by first | rfl | decide +kernel
theorem ZiR:bootBuiltins "ValueError" = some (.type "ValueError"):=by first | rfl | decide +kernel
theorem ZbP:bootBuiltins "list" = some (.type "list"):=by first | rfl | decide +kernel
theorem Zgd:bootBuiltins "bool" = some (.type "bool"):=by first | rfl | decide +kernel
theorem Za5:bootBuiltins "int" = some (.type "int"):=by first | rfl | decide +kernel
theorem ZcK {K:PySem.W.Frag} {t:Value}:PySem.W.kitOne K t t=some true:=by
 unfold PySem.W.kitOne
 rw [if_pos (beq_self_eq_true t)]
section
variable {X:Cx} (K:PySem.W.Frag)
theorem Zh3 (h:X.K=K:=by rfl):Zbc X (.builtin "isinstance") (Zmt K):=h▸Zhh
theorem Zbf (h:X.K=K:=by rfl):IxR X (ZlB K):=h▸Zes
theorem Zcd (h:X.K=K:=by rfl):IxR X (ZlC K):=h▸Zj5
theorem kIn (h:X.K=K:=by rfl):OpR X (compareOp .In) (rIn K false):=h▸Zf5
theorem Zge (h:X.K=K:=by rfl):OpR X (compareOp .NotIn) (rIn K true):=h▸Zd1
theorem Zdk (h:X.K=K:=by rfl):Zbc X (.builtin "len") (λxs H Q=>∃ p ys,xs=[.ref p]/\(SqL K H p ys\/SqT K H p ys)/\Q (.int ys.length) H):=h▸Zd2
theorem Zex (h:X.K=K:=by rfl):Zbc X (.type "list") (λxs H Q=>∃ p ys,xs=[.ref p]/\(SqL K H p ys\/SqT K H p ys)/\∀ l,H l=none->Q (.ref l) (upd H l (.lst ys))):=h▸Zd3
theorem Zm7 (hu:X.A.units+64<cLine) (h:X.K=K:=by rfl):OpR X (compareOp .Eq) (ZiP K false):=h▸Zke hu
theorem Zg6 (hu:X.A.units+64<cLine) (h:X.K=K:=by rfl):OpR X (compareOp .NotEq) (ZiP K true):=h▸Zkf hu
theorem kSl (h:X.K=K:=by rfl):SlR X (Zmo K):=h▸ZiL
theorem ZiS {es:List Expr} {k:Nat} {t:TGs} {n:Nat} {pos:Pos} (hc:X.calm=true) (h:PGs X es t) (hK:X.K=K:=by rfl)
  (hn:(assignEach es X.env).length=n:=by rfl) (hst:(assignEach es X.env).findIdx? (·.1)=none:=by rfl):PG X (.Tuple es k pos) (Zmi K n t):=hK▸ZjR hc h hn hst
theorem Zci {tg l:Expr} {tl:TE} (hl:PE X l tl) (h:X.K=K:=by rfl):PI X tg l (ZjW K tl):=h▸ZiC hl
end
end L2
namespace L2
open PySem
def Zfu (r c:Nat) (p:Nat):List (Int×Int):=
 (if ((p:Int)+1) % (c:Int)=0 then [] else [((p:Int),(p:Int)+1)])++(if (p:Int)+(c:Int)<(r:Int) * (c:Int) then [((p:Int),(p:Int)+(c:Int))] else [])
def Zcj (r c i:Nat):List (Int×Int):=(List.range i).flatMap (Zfu r c)
def ZlK (r c i j:Nat):List (Int×Int):=
 (if (j:Int)<(c:Int)-1 then [((i:Int) * (c:Int)+(j:Int),(i:Int) * (c:Int)+(j:Int)+1)] else []) ++
 (if (i:Int)<(r:Int)-1 then [((i:Int) * (c:Int)+(j:Int),((i:Int)+1) * (c:Int)+(j:Int))] else [])
def Zm8 (r c i j:Nat):List (Int×Int):=(List.range j).flatMap (ZlK r c i)
def Zmu (r c i:Nat):List (Int×Int):=(List.range i).flatMap λk=>Zm8 r c k c
theorem Zcb (r c i:Nat):Zcj r c (i+1)=Zcj r c i++Zfu r c i:=by
 unfold Zcj
 rw [List.range_succ,List.flatMap_append,List.flatMap_singleton]
theorem Zdx {H H2:Hp} {l t:Addr} {xs:List V} {rs:List (Int×Int)} {a b:Int} (s:Same H H2) (hl:H l=none) (h2:H2 l=some (.lst xs)) (hp:Prs H2 xs rs) (ht:H2 t=none) :
  Same H (upd (upd H2 t (.tup [.int a,.int b])) l (.lst (xs++[.ref t])))/\upd (upd H2 t (.tup [.int a,.int b])) l (.lst (xs++[.ref t])) l=some (.lst (xs++[.ref t])) /\
   Prs (upd (upd H2 t (.tup [.int a,.int b])) l (.lst (xs++[.ref t]))) (xs++[.ref t]) (rs++[(a,b)]):=by
 have hne:t≠l:=λz=>by rw [z,h2] at ht;cases ht
 have s1:Same H (upd H2 t (.tup [.int a,.int b])):=s.put (s.free ht)
 refine ⟨s1.put hl,Zab,?_⟩
 have k1:=hp.keep (ZbD (o:=.tup [.int a,.int b]) ht)
 have k2:=k1.keep (ZaM (H:=upd H2 t (.tup [.int a,.int b])) (l:=l) (zs:=xs) (o:=.lst (xs++[.ref t])) (Zal h2 (Ne.symm hne)))
 exact k2.snoc (by rw [Zar hne,Zab])
end L2
namespace L2
open PySem PySem.Spec PyProof.Rows
def AllP {α:Type} (P:α->Prop):List α->Prop
 | []=>True
 | x::r=>P x/\AllP P r
theorem AllP.mem {α:Type} {P:α->Prop}:∀ {l:List α},AllP P l->∀ x∈l,P x
 | _::_,h,_,.head _=>h.1
 | _::_,h,x,.tail _ m=>AllP.mem h.2 x m
theorem ZaC {X:Cx} {scope:Scope} {cl:List (Str×Addr)} {own:List Str} {fr:List (Str×Nat)} (L:List (Str×NameKind)) (hcl:closureFor scope X.env=pure cl) (hL:(relabel scope X.env).names=L)
  (hc:∀ y∈scope.names,y.2≠.cell) (hk:scope.kind=.function) (hn:∀ y∈scope.names,y.2=.local->scope.names.lookup y.1=some .local)
  (hcs:AllP (λp=>X.env.cells.lookup p.1=some p.2) cl) (hall:AllP (λp=>(p.2=.cell\/p.2=.free)->∃ c,cl.lookup p.1=some c) L)
  (hfr:AllP (λp=>X.N[p.2]?=some p.1/\(X.env.kindOf p.1=some .cell\/X.env.kindOf p.1=some .free)/\(L.lookup p.1=some .cell\/L.lookup p.1=some .free)) fr):Zbw X scope cl own fr:=
 ⟨hcl,hc,hk,hn,λy c h=>hcs.mem (y,c) (PySem.mem_of_lookup h),λy h=>by
  rw [hL] at h
  rcases h with h | h
  ·exact hall.mem _ (PySem.mem_of_lookup h) (.inl rfl)
  ·exact hall.mem _ (PySem.mem_of_lookup h) (.inr rfl),λp hp=>by
  rw [hL]
  exact hfr.mem p hp⟩
theorem Za2 {k:NameKind} {P:Prop} (h:k=.cell\/k=.free) (h1:(k == .cell)=false:=by rfl) (h2:(k == .free)=false:=by rfl):P:=by
 rcases h with z | z
 ·subst z;exact absurd h1 (by decide)
 ·subst z;exact absurd h2 (by decide)
theorem ZeZ:bootBuiltins "min" = some (.builtin "min"):=by first | rfl | decide +kernel
def ZaA (n:Int) (rs:List (Int×Int)):Prop:=1<=n/\n<=16/\rs.length<=30/\(∀ p∈rs,0<=p.1/\p.1<p.2/\p.2<n)/\rs.Nodup
instance (n:Int) (rs:List (Int×Int)):Decidable (ZaA n rs):=by unfold ZaA;infer_instance
theorem Zgf {r c:Nat} (hr0:1<=r) (hr:r<=3) (hc0:1<=c) (hc:c<=4):ZaA ((r:Int) * (c:Int)) (Zcj r c (r * c)):=by
 have h1:r=1\/r=2\/r=3:=by omega
 have h2:c=1\/c=2\/c=3\/c=4:=by omega
 rcases h1 with rfl | rfl | rfl <;> rcases h2 with rfl | rfl | rfl | rfl <;> decide +kernel
structure Dk (H0 H:Hp) (d:Addr):Prop where
 keep:∀ b o,b≠d->H0 b=some o->H b=some o
 at_:∃ n:Int,H d=some (.lst [.int n])
section
variable {H0 H H':Hp} {d p:Addr} {o:HO}
theorem Dk.start {n:Int} (h:H d=some (.lst [.int n])):Dk H H d:=⟨λ_ _ _ e=>e,n,h⟩
theorem Dk.take (h:Dk H0 H d) (n':Int):Dk H0 (upd H d (.lst [.int n'])) d:=⟨λb o n e=>by rw [Zar n];exact h.keep b o n e,n',Zab⟩
theorem Dk.grow (h:Dk H0 H d) (s:Same H H'):Dk H0 H' d:=⟨λb o n e=>s b o (h.keep b o n e),h.at_.elim λn e=>⟨n,s _ _ e⟩⟩
theorem Dk.new (h:Dk H0 H d) (hp:H p=none):Dk H0 (upd H p o) d:=h.grow (Same.new hp)
theorem Dk.free (h:Dk H0 H d) (hp:H p=none):H0 p=none:=by
 cases q:H0 p with
 | none=>rfl
 | some u=>
  by_cases z:p=d
  ·obtain ⟨n,e⟩:=h.at_
   rw [<-z,hp] at e;cases e
  ·rw [h.keep p u z q] at hp;cases hp
theorem Dk.ne (h:Dk H0 H d) (hp:H p=none):d≠p:=by
 obtain ⟨n,e⟩:=h.at_
 exact Zah e hp
theorem Dk.put (h:Dk H0 H d) (hp:H0 p=none) (hd:d≠p):Dk H0 (upd H p o) d:=⟨λb u n e=>Zal (h.keep b u n e) (Zah e hp),h.at_.elim λn e=>⟨n,Zal e hd⟩⟩
theorem Dk.trans {H1:Hp} (a:Dk H0 H d) (b:Dk H H1 d):Dk H0 H1 d:=⟨λc o n e=>b.keep c o n (a.keep c o n e),b.at_⟩
theorem Dk.tups (h:Dk H0 H d) {n:Int} (h0:H0 d=some (.lst [.int n])):∀ q ys,H0 q=some (.tup ys)->H q=some (.tup ys):=λq ys e=>h.keep q _ (ZfP e h0 (λz=>by cases z)) e
end
theorem Prs.get {H:Hp}:∀ {xs:List V} {rs:List (Int×Int)},Prs H xs rs->∀ {i:Nat} {x:V},xs[i]?=some x->∃ t r,x=.ref t/\H t=some (.tup [.int r.1,.int r.2])/\rs[i]?=some r
 | _,_,.nil,_,_,h=>by simp at h
 | _,_,.cons (a:=a) (b:=b) e _,0,_,h=>by
  simp at h
  subst h
  exact ⟨_,(a,b),rfl,e,rfl⟩
 | _,_,.cons _ r,i+1,x,h=>by
  obtain ⟨t,q,h1,h2,h3⟩:=Prs.get r (i:=i) (x:=x) (by simpa using h)
  exact ⟨t,q,h1,h2,by simpa using h3⟩
theorem Prs.app {H:Hp} {xs ys:List V} {rs qs:List (Int×Int)} (h:Prs H xs rs) (k:Prs H ys qs):Prs H (xs++ys) (rs++qs):=by
 induction h with
 | nil=>exact k
 | cons e _ ih=>exact .cons e ih
theorem Prs.erase {H:Hp}:∀ {xs:List V} {rs:List (Int×Int)},Prs H xs rs->∀ i:Nat,Prs H (xs.eraseIdx i) (rs.eraseIdx i)
 | _,_,.nil,_=>.nil
 | _,_,.cons _ r,0=>r
 | _,_,.cons e r,i+1=>.cons e (Prs.erase r i)
theorem Zbo {t u:TS} {D:Ends} {σ:St} {H:Hp} (Pm:St->Hp->Prop) (h2:∀ σ' H',Pm σ' H'->u D σ' H') (h1:(∀ σ' H',Pm σ' H'->u D σ' H')->t { D with nx:=u D } σ H):Zme t u D σ H:=h1 h2
theorem ZlL {n:Nat} {r:Int} (h0:0<=r) (h1:r<n):seqIndex? r n=some r.toNat:=by
 have h:ixN n r=some r.toNat:=by
  unfold ixN
  rw [if_pos h0,if_pos h1]
 exact (Zer h).1
theorem Zdy {α:Type}:∀ (ps rs:List α) (k:Nat) (y:α),ps[k]?=some y->((rs++[y])++ps.eraseIdx k).Perm (rs++ps)
 | [],_,k,y,h=>by simp at h
 | x::r,rs,0,y,h=>by
  simp at h
  subst h
  rw [List.append_assoc]
  exact List.Perm.refl _
 | x::r,rs,k+1,y,h=>by
  have ih:=Zdy r [] k y (by simpa using h)
  rw [List.eraseIdx_cons_succ,List.append_assoc]
  refine List.Perm.append_left rs ?_
  have ih':(y::r.eraseIdx k).Perm r:=by simpa using ih
  exact (List.Perm.swap x y _).trans (ih'.cons x)
end L2
namespace L2
open PySem PySem.Spec PyProof.Rows
theorem Ze0:∀ {xs:List V} {us:List Value},xs.length=us.length->(∀ (i:Nat) x u,xs[i]?=some x->us[i]?=some u->RelV x u)->Vals xs us
 | [],[],_,_=>.nil
 | [],_::_,h,_=>by simp at h
 | _::_,[],h,_=>by simp at h
 | x::xs,u::us,h,k=>.cons (k 0 x u rfl rfl) (Ze0 (by simpa using h) λi y v e1 e2=>k (i+1) y v (by simpa using e1) (by simpa using e2))
section
variable {X:Cx} (K:PySem.W.Frag)
def ZiT:List V->Hp->VK->Prop:=λxs H Q=>∃ (p:Addr) (ns:List Int),xs=[.ref p]/\SqL K H p (ns.map V.int)/\ns.length<64/\∀ (l:Addr) (ns':List Int),H l=none->ns'.Perm ns->ns'.Pairwise (· <= ·)->Q (.ref l) (upd H l (.lst (ns'.map V.int)))
theorem Zdz (h:X.K=K:=by rfl):Zbc X (.builtin "sorted") (ZiT K):=by
 subst h
 intro pins s σ H xs us Q I rv h
 obtain ⟨p,ns,rfl,hq,h64,q⟩:=h
 obtain ⟨u,rfl,ru⟩:=rv.one
 cases ru
 obtain ⟨its,r,pl,hz⟩:=I.list hq
 have hl:=r.length
 rw [List.length_map] at hl
 refine sorted_ints pl.isList (ZbV r) (by omega) λout ns' h1 h2 h3=>?_
 obtain ⟨e,he⟩:=sortedAll_at s.heap its out
 have rv':=Zch h1
 have hlen:(ns'.map V.int).length<=sizeLine:=by
  have:=h2.length_eq
  rw [List.length_map] at hz ⊢
  omega
 refine ⟨.ref _,_,I.laid (a:=s.heap.objs.size+1) (t':=s.toks) (o:=.lst (ns'.map V.int)) (λb o e=>sortedAll_old e) (Nat.le_succ _) ⟨hlen,out.toList,e,rv',he⟩,rfl,q _ ns' (I.hok.fresh (Nat.le_succ _)) h2 h3⟩
end
section
variable {X:Cx}
end
section
variable {X:Cx}
theorem ZaU:UnR X (unaryOp .USub) (rU λi=>.int (-i)):=by
 intro pins s σ H x v Q I rx h
 obtain ⟨i,rfl,q⟩:=h
 obtain ⟨t,rfl⟩:=rx
 exact neg_int ⟨.int (-i),H,I.tok _,⟨_,rfl⟩,q⟩
end
theorem Zhi {xs:List V} {k:Nat}:Zca xs (some (k:Int)) none=xs.drop k:=by
 unfold Zca
 rw [HT.sIx_none,HT.sIx_nat]
 by_cases h:k<=xs.length
 ·rw [Nat.min_eq_left h,List.take_of_length_le (by rw [List.length_drop];exact Nat.le_refl _)]
 ·rw [Nat.min_eq_right (by omega),List.drop_length,List.drop_of_length_le (by omega),List.take_nil]
theorem ZaF {K:PySem.W.Frag} {H:Hp}:∀ ns:List Int,DatVs K H (ns.map V.int) (ns.map PyData.int)
 | []=>.nil
 | n::ns=>.cons (.int n) (ZaF ns)
theorem Ze1:∀ ns:List Int,PyData.canLayAll0 (ns.map PyData.int)=true
 | []=>by simp [PyData.canLayAll0]
 | n::ns=>by
  rw [List.map_cons]
  simp [PyData.canLayAll0,PyData.canLay0,Ze1 ns]
theorem Zdl:∀ ns:List Int,PyData.depthAll (ns.map PyData.int)<=1
 | []=>by simp [PyData.depthAll]
 | n::ns=>by
  have ih:=Zdl ns
  rw [List.map_cons]
  simp only [PyData.depthAll,PyData.depth]
  omega
theorem Zaz (ns:List Int):SeqAt.shaped (.list (ns.map PyData.int))=true:=by
 unfold SeqAt.shaped
 rw [Bool.and_eq_true]
 have:=Zdl ns
 refine ⟨by simp only [PyData.canLay0];exact Ze1 ns,decide_eq_true ?_⟩
 simp only [PyData.depth]
 omega
theorem Zbb (ns ms:List Int):PyData.eqv (.list (ns.map PyData.int)) (.list (ms.map PyData.int))=decide (ns=ms):=by
 rw [<-PySem.W.ked_eqvAll]
 simp only [PyData.eqv]
theorem Zhj {a b c:List Int} (h1:a.Perm b) (h2:a.Pairwise (· <= ·)) (h3:c.Pairwise (· <= ·)):a=c↔b.Perm c:=by
 constructor
 ·rintro rfl
  exact h1.symm
 ·intro h
  exact PySem.W.ksm_same (h1.trans h) h2 h3
end L2
namespace L2
open PySem PySem.Spec PyProof.Rows
theorem Zhk {P:Program} {w:World} {K:PySem.W.Frag} {mg:Str->Option Value} {base:Heap} {N:List Str} {qual:Str} {scope:Scope} {f:Addr} {cd:Value} {A:Around} {outer:List Env} {s:Shared} {H:Hp} {E:XK} :
  ZdV (CXr P w) (Zf2 (CXr P w) P w K mg base N qual scope f cd A outer s H E) E:=by
 intro pins σ H1 s1 ev s' I h
 obtain ⟨a,C,H',rfl,⟨t,B,os,bare,un,hok,fl,trk,old⟩,hE⟩:=h
 have hfr:=I.ok.frames
 have nox:∀ b:Addr,b ∉ (Zf2 (CXr P w) P w K mg base N qual scope f cd A outer s H E).ex:=λb z=>absurd (show b∈([]:List Addr) from z) (by simp)
 refine wpAny_leaves_onW hfr rfl fl λh2 fl2 sm=>?_
 obtain ⟨u2,k2⟩:=ZeV (t:=t) (a:=a) (C:=C) un hok fl.2.2.1 trk old fl2.1 sm
 have u1:Un (frs (envOfC qual scope s.heap.objs.size f cd::outer)) [] H H1 s.heap s1.heap:=Un.mono I.base (λb hb=>by
  have hb':b∈frs outer:=hb
  obtain ⟨env,he,q⟩:=List.mem_filterMap.mp hb'
  exact List.mem_filterMap.mpr ⟨env,List.mem_cons_of_mem _ he,q⟩) (λb hb=>absurd hb (nox b))
 have u3:=u1.trans u2
 have nst:∀ b o,s.heap.get? b=some o->b ∉ frs outer->b ∉ frs (envOfC qual scope s.heap.objs.size f cd::outer):=λb o e hb z=>by
  rcases List.mem_cons.mp (I.stkSub b z) with q | q
  ·exact absurd (Nat.lt_of_lt_of_le (Heap.lt_size e) I.ok.above) (by rw [q];exact Nat.lt_irrefl _)
  ·exact hb q
 have inst:∀ b,b∈frs outer->b∈frs (envOfC qual scope s.heap.objs.size f cd::outer):=λb hb=>by
  obtain ⟨env,he,q⟩:=List.mem_filterMap.mp hb
  exact List.mem_filterMap.mpr ⟨env,List.mem_cons_of_mem _ he,q⟩
 refine ⟨a,C,H',rfl,⟨t,B,os.trans I.os,bare,⟨λb o e n hb hx=>u3.keep b o e n (nst b o e hb) hx,λb o e n hb hx=>u3.slot b o e n (inst b hb) hx,u3.free,u3.there,u3.tups,u3.frzs,u3.tbls⟩,k2,fl2,λb o e n=>?_,λb o0 o e0 e nb=>?_⟩,hE⟩
 ·cases q':H' b with
  | none=>exact absurd q' n
  | some u=>
   obtain ⟨v,q⟩:=(hok b u q').there
   have e1:=trk b v q n
   have e2:=fl2.1 b v e1
   have e':h2.get? b=some o:=e
   rw [e'] at e2;cases e2
   exact e1
 ·obtain ⟨o1,e1⟩:=u1.there b o0 e0 (by simp)
  obtain ⟨o2,e2⟩:=un.there b o1 e1 (by simp)
  have e3:=old b o1 o2 e1 e2 (nst b o0 e0 nb)
  have e4:=fl2.1 b o2 e3
  have e':h2.get? b=some o:=e
  rw [e'] at e4;cases e4
  exact e3
section
variable {X:Cx}
def ZnZ (K:PySem.W.Frag) (neg:Bool):R2:=λx y H Q=>∃ p xs d ds,y=.ref p/\(SqL K H p xs\/SqT K H p xs)/\DatV K H x d/\DatVs K H xs ds/\SeqAt.shaped d=true/\(∀ e∈ds,SeqAt.shaped e=true)/\Q (.bl (neg != ds.any λe=>PyData.eqv e d)) H
open Classical in
noncomputable def Zey (h:Heap) (u:Value):PyData:=if q:∃ d as,Reads h u d as/\SeqAt.shaped d=true then choose q else .none
theorem Zhl {h:Heap} {u:Value} {d:PyData} {as:List Addr} (r:Reads h u d as) (hs:SeqAt.shaped d=true):Zey h u=d:=by
 have q:∃ d as,Reads h u d as/\SeqAt.shaped d=true:=⟨d,as,r,hs⟩
 unfold Zey
 rw [dif_pos q]
 obtain ⟨as',r',s'⟩:=Classical.choose_spec q
 exact SeqAt.Reads.unique _ _ _ _ _ (SeqAt.canLay_of_shaped s') r' r
theorem Zh4 {h:Heap}:∀ {us:List Value} {ds:List PyData} {as:List Addr},ReadsAll h us ds as->(∀ e∈ds,SeqAt.shaped e=true)->(∀ u∈us,∃ as',Reads h u (Zey h u) as'/\SeqAt.shaped (Zey h u)=true)/\us.map (Zey h)=ds
 | _,_,_,.nil,_=>⟨λu hu=>by simp at hu,rfl⟩
 | _,_,_,.cons r rs,hs=>by
  obtain ⟨i1,i2⟩:=Zh4 rs λe he=>hs e (List.mem_cons_of_mem _ he)
  have h0:=hs _ (List.mem_cons_self ..)
  have e0:=Zhl r h0
  refine ⟨λu hu=>?_,by rw [List.map_cons,e0,i2]⟩
  rcases List.mem_cons.mp hu with rfl | hu
  ·rw [e0];exact ⟨_,r,h0⟩
  ·exact i1 u hu
theorem Zdm (r:Int×Int):SeqAt.shaped (prD r)=true:=by
 unfold SeqAt.shaped prD
 simp [PyData.canLay0,PyData.canLayAll0,PyData.depth,PyData.depthAll]
theorem Zhm (rs:List (Int×Int)):∀ e∈rs.map prD,SeqAt.shaped e=true:=λe he=>by
 obtain ⟨r,_,rfl⟩:=List.mem_map.mp he
 exact Zdm r
def Zlk:V->List V->Hp->VK->Prop:=λx vs H Q=>∃ l xs y,x=.ref l/\vs=[.int 0,y]/\H l=some (.lst xs)/\xs.length<sizeLine/\Q .non (upd H l (.lst (y::xs)))
end
end L2
namespace L2
open PySem PySem.Spec PyProof.Rows
section
variable {X:Cx}
def ZiU:V->List V->Hp->VK->Prop:=λx vs H Q=>∃ l xs i y,x=.ref l/\vs=[.int i,y]/\H l=some (.lst xs)/\0<=i/\i<=xs.length/\xs.length<sizeLine/\Q .non (upd H l (.lst (xs.take i.toNat++y::xs.drop i.toNat)))
theorem Vals.take' {xs:List V} {us:List Value} (h:Vals xs us):∀ k:Nat,Vals (xs.take k) (us.take k):=by
 induction h with
 | nil=>intro k;rw [List.take_nil,List.take_nil];exact .nil
 | cons r _ ih=>
  intro k
  cases k with
  | zero=>exact .nil
  | succ k=>rw [List.take_succ_cons,List.take_succ_cons];exact .cons r (ih k)
theorem Vals.drop' {xs:List V} {us:List Value} (h:Vals xs us):∀ k:Nat,Vals (xs.drop k) (us.drop k):=by
 induction h with
 | nil=>intro k;rw [List.drop_nil,List.drop_nil];exact .nil
 | cons r t ih=>
  intro k
  cases k with
  | zero=>exact .cons r t
  | succ k=>rw [List.drop_succ_cons,List.drop_succ_cons];exact ih k
theorem Zgg:MtM X "list.insert" ZiU:=by
 intro pins s σ H x vs v us Q I rx rv h
 obtain ⟨l,xs,i,y,rfl,rfl,hH,hi,hk,hz,q⟩:=h
 cases rx
 obtain ⟨u0,u,rfl,ru0,ru⟩:=rv.two
 obtain ⟨t,rfl⟩:=ru0
 obtain ⟨z,its,n,r,hl,e⟩:=I.lstM hH
 have h16:(16777216:Nat)=sizeLine:=sizeLine_eq.symm
 have hfit:=fitsIndex_both (k:=i) (by omega) (by omega)
 have hsz:its.toArray.size<=sizeLine:=by rw [List.size_toArray];omega
 have hM:=AutoListH.list_insert_list_int_val_1 l its.toArray n i t u (by rw [hfit];decide) hsz
 have hA:=F.args_list_insert_3 (.ref l) (.int i t) u
 refine call_meets F.slot_list_insert ⟨_,e,rfl⟩ F.entry_list_insert hA hM ⟨e,?_⟩
 refine ⟨.non,_,I.lset (its':=its.take i.toNat++u::its.drop i.toNat) hH e ?_ ((Vals.take' r _).append (.cons ru (Vals.drop' r _))) ?_,rfl,q⟩
 ·have h0:¬ i<0:=by omega
  have h1:min i.toNat its.toArray.size=i.toNat:=by
   rw [List.size_toArray];omega
  dsimp only
  rw [if_neg h0,h1]
  simp only [List.extract_toArray,List.push_toArray,List.append_toArray,List.size_toArray,List.extract_eq_drop_take,List.drop_zero,Nat.sub_zero,List.append_assoc,List.singleton_append]
  rw [List.take_of_length_le (l:=its.drop i.toNat) (by rw [List.length_drop];exact Nat.le_refl _)]
 ·rw [List.length_append,List.length_take,List.length_cons,List.length_drop]
  omega
def Ite (K:PySem.W.Frag) (a:Addr):It:=
 ⟨λi H=>∃ xs x,SqL K H a xs/\xs[i]?=some x,λi H x H'=>∃ T y,x=.ref T/\H T=none/\H'=upd H T (.tup [.int (i:Nat),y])/\∀ xs,SqL K H a xs->xs[i]?=some y,λi H=>∃ xs,SqL K H a xs/\xs.length<=i⟩
theorem Zgh {P:Program} {w:World} {K:PySem.W.Frag} {elts:List Expr} {k:Nat} {pos:Pos} (a e it:Addr) (hne:e≠it) :
  ZjU P w K (.Tuple elts k pos) (Ite K a) [e,it] e (λi h=>(∃ old,IsEnum h e it ((i:Nat):Int) old)/\h.IsListIter it a i) where
 mem:=by simp
 obj:=λi h st b hb=>by
  obtain ⟨⟨old,he⟩,⟨o,ei,c,d⟩⟩:=st
  rcases List.mem_cons.mp hb with rfl | hb
  ·exact ⟨_,he,λv z=>by
    have z':Data.fields _=Data.cell v:=z
    cases z'⟩
  ·have eb:b=it:=by simpa using hb
   subst eb
   exact ⟨o,ei,λv z=>by rw [d] at z;cases z⟩
 keep:=λi h h' st q=>by
  obtain ⟨⟨old,he⟩,hi⟩:=st
  exact ⟨⟨old,q e (by simp) _ he⟩,hi.at λo ho=>q it (by simp) o ho⟩
 item:=by
  intro X hP hw hK hc i pins s σ H E I hf st hg
  subst hP hw hK
  obtain ⟨xs,x,hq,hx⟩:=hg
  obtain ⟨its,rv,p,hz⟩:=I.list hq
  obtain ⟨u,hu,ru⟩:=rv.get hx
  obtain ⟨⟨old,he⟩,hit⟩:=st
  refine wpAny_pyNext_enum_item he hit p.isList (x:=u) (by simpa using hu) hne λh1 heo hit1 ht1 hz1 hk1=>?_
  refine ⟨_,rfl,wpAny_letOwnedTupleGo_enum (s:={ s with heap:=h1,toks:=s.toks+1 }) heo λh2 he2 hs2=>?_⟩
  have hs2':Heap.SameBut e h1 h2:=hs2
  have hfr:H s.heap.objs.size=none:=I.fresh
  have hel:e<s.heap.objs.size:=Heap.lt_size he
  have kk:∀ b o,b ∉ [e,it]->s.heap.get? b=some o->h2.get? b=some o:=λb o hb q=>by
   have n1:b≠e:=λz=>hb (by simp [z])
   have n2:b≠it:=λz=>hb (by simp [z])
   exact (hs2'.2 b n1).trans (hk1 b o n1 n2 q)
  have nT:∀ b o,s.heap.get? b=some o->b≠s.heap.objs.size:=λb o q=>Nat.ne_of_lt (Heap.lt_size q)
  have trk:∀ c u,H c=some u->c ∉ [e,it]:=λc u q z=>by
   rw [(hf c z).1] at q;cases q
  refine ⟨.ref s.heap.objs.size,upd H s.heap.objs.size (.tup [.int (i:Nat),x]),I.call' (ch:=[e,it]) rfl ⟨λb o q _ _ hb=>kk b o hb q,λb o q _ _ hb=>⟨o.slots,kk b o hb q⟩,λb o q n _=>by rw [Zar (nT b o q)];exact n,
   λb o q hb=>⟨o,kk b o hb q⟩,λb ys q=>by rw [Zar (Zah q hfr)];exact q,λb o u q=>by rw [Zar (Zah q hfr)];exact q,λb ps q=>⟨#[],by rw [Zar (Zah q hfr),q];simp⟩⟩ (λb v q=>?_) I.bare (λb hb=>?_),
   rfl,⟨_,x,rfl,hfr,rfl,λys hy=>by rw [I.list_inj hy hq];exact hx⟩,⟨⟨_,by rw [Int.natCast_add];exact he2⟩,hit1.extBut hs2'.extBut (Ne.symm hne)⟩,λb hb=>?_⟩
  ·by_cases hb:b=s.heap.objs.size
   ·subst hb
    rw [Zab] at q;cases q
    refine ⟨by have h16:(16777216:Nat)=sizeLine:=sizeLine_eq.symm;rw [<-h16];show 2<=16777216;omega,[.int (i:Nat) s.toks,u],.cons ⟨_,rfl⟩ (.cons ru .nil),⟨_,(hs2'.2 _ (Nat.ne_of_gt hel)).trans ht1,rfl,_,rfl⟩⟩
   ·rw [Zar hb] at q
    refine (I.hok b v q).stay (λc v' hc z=>kk c v' ?_ z) (λc z=>by rw [Zar (Zah z hfr)];exact z) λc ys z=>by rw [Zar (Zah z hfr)];exact z
    rcases hc with rfl | hc
    ·exact trk _ _ q
    ·exact trk _ _ hc
  ·obtain ⟨f0,f1,f2,f3,f4,f5⟩:=hf b hb
   exact ⟨f3,f1,f4,f5⟩
  ·have ho:∃ o,s.heap.get? b=some o:=by
    rcases List.mem_cons.mp hb with rfl | hb
    ·exact ⟨_,he⟩
    ·have eb:b=it:=by simpa using hb
     subst eb
     obtain ⟨o,ei,_⟩:=hit
     exact ⟨o,ei⟩
   obtain ⟨o,ho⟩:=ho
   rw [Zar (nT b o ho)]
   exact (hf b hb).1
 done:=by
  intro X hP hw hK hc i pins s σ H E I hf st hg
  subst hP hw hK
  obtain ⟨xs,hq,hx⟩:=hg
  obtain ⟨its,rv,p,hz⟩:=I.list hq
  obtain ⟨⟨old,he⟩,hit⟩:=st
  obtain ⟨f0,f1,f2,f3,f4,f5⟩:=hf it (by simp)
  have hl:=rv.length
  exact wpAny_pyNext_enum_end (I.ok.hd hc) he hit p.isList (by simp;omega) λh' eb=>⟨rfl,I.turned (t':=s.toks) (λb o hb q=>eb b o hb q) f0 f1 f3 f4 f5⟩
 self:=λ_ _ _ _ _ ⟨⟨_,he⟩,_⟩ h=>wpAny_pyIter_enum he h
def Zkh (K:PySem.W.Frag) (ta:TA):TI:=λσ H R=>ta σ H λvs H1=>∃ a xs,vs=[.ref a]/\SqL K H1 a xs/\R (Ite K a) H1
theorem ZiV {elts:List Expr} {k:Nat} {p0:Pos} {l:Expr} {ta:TA} {p pos:Pos} (hg:Gl X "enumerate") (hm:X.mg "enumerate" = none) (ha:PA X [l] ta) (hs:starEach [l] X.env=[(false,eval l X.env)]:=by rfl) :
  PI X (.Tuple elts k p0) (.Call (.Name "enumerate" p) [l] [] pos) (Zkh X.K ta):=by
 intro pins s σ H R I h
 refine Call_ (ZcA I hg hm boot_enumerate (PyProof.Rows.callWith_type1 (thn (ha pos pins s σ H _ I h) λus s1 ⟨vs,H1,I1,r1,q1⟩=>?_) hs rfl))
 obtain ⟨a,xs,e,hq,q⟩:=q1
 subst e
 obtain ⟨u,rfl,ru⟩:=r1.one
 cases ru
 obtain ⟨its,rv,pl,hz⟩:=I1.list hq
 refine call_enumerate_list pl.isList λh' hE hI hsz hk=>?_
 refine wpAny_pyIter_enum hE ?_
 refine ⟨s1.heap.objs.size+1,[s1.heap.objs.size+1,s1.heap.objs.size],_,_,H1,rfl,I1.kept (t':=s1.toks) hk,Zgh a _ _ (Nat.succ_ne_self _),⟨⟨_,hE⟩,hI⟩,λb hb=>?_,q⟩
 have e:s1.heap.objs.size<=b:=by
  rcases List.mem_cons.mp hb with rfl | hb
  ·exact Nat.le_succ _
  ·have eb:b=s1.heap.objs.size:=by simpa using hb
   rw [eb];exact Nat.le_refl _
 exact I1.fpOk e (I1.hok.fresh e)
theorem Zki (K:PySem.W.Frag) {elts:List Expr} {k:Nat} {p0:Pos} {l:Expr} {ta:TA} {p pos:Pos} (hg:Gl X "enumerate") (hm:X.mg "enumerate" = none) (ha:PA X [l] ta) (h:X.K=K:=by rfl) (hs:starEach [l] X.env=[(false,eval l X.env)]:=by rfl) :
  PI X (.Tuple elts k p0) (.Call (.Name "enumerate" p) [l] [] pos) (Zkh K ta):=h▸ZiV hg hm ha hs
end
theorem Zgi {K:PySem.W.Frag} {a D:Addr} {xs:List V} {g:TG} {tc:TT} {te:TE} {σ0:St} {R:Hp->Prop} {H1:Hp} (Pv:Nat->List V->Hp->Prop) (h0:Pv 0 [] (upd H1 D (.lst []))) (hl:∀ i ys H,i<=xs.length->Pv i ys H->SqL K H a xs)
  (hs:∀ i x ys H T,xs[i]?=some x->Pv i ys H->H T=none->g (.ref T) σ0 (upd H T (.tup [.int (i:Nat),x])) λσ4 H4=>ZcU σ0 σ4/\tc σ4 H4 λb H5=>if b=true then te σ4 H5 λy H6=>H6 D=some (.lst ys)/\ys.length<sizeLine/\Pv (i+1) (ys++[y]) (upd H6 D (.lst (ys++[y]))) else Pv (i+1) ys H5)
  (hd:∀ ys H,Pv xs.length ys H->R H):∃ W:Nat->Nat->List V->Hp->Prop,(∃ m,W 0 m [] (upd H1 D (.lst [])))/\ZbN (Ite K a) D g tc te σ0 W R:=by
 refine ⟨λi m ys H=>m=xs.length-i/\i<=xs.length/\Pv i ys H,⟨_,rfl,Nat.zero_le _,h0⟩,?_⟩
 rintro i m ys H ⟨rfl,hi,p⟩
 have q:=hl i ys H hi p
 by_cases hlt:i<xs.length
 ·refine .inr ⟨⟨xs,xs[i],q,by simp [hlt]⟩,Pv (i+1),λys' H' p'=>⟨xs.length-(i+1),by omega,rfl,hlt,p'⟩,λx H' y=>?_⟩
  obtain ⟨T,y',rfl,hT,rfl,y⟩:=y
  exact hs i y' ys _ T (y xs q) p hT
 ·have e:i=xs.length:=by omega
  subst e
  exact .inl ⟨⟨xs,q,Nat.le_refl _⟩,hd ys H p⟩
abbrev TB:=Ends->(St->XK)->St->Hp->Prop
def PB (X:Cx) (body:List Stmt) (tb:TB):Prop:=∀ (pins:List (Addr×Obj)) (s:Shared) (σ:St) (H:Hp) (D:Ends) (Eσ:St->XK) (QQ:Flow->Shared->Prop) (EE:Value->Shared->Prop),Inv X pins σ H s->tb D Eσ σ H ->
 (∀ fl s',SP X pins D fl s'->QQ fl s')->(∀ σ1 ev H1 s1 s',Inv X pins σ1 H1 s1->CXr X.prog X.w X.stack H1 s1 (Eσ σ1) ev s'->EE ev s')->wpAny (model X.prog X.w) X.A (execs body X.env) QQ EE s
section
variable {X:Cx} {k:Nat} {f:Addr} {fd:FuncData} {ps:List Str} {sp:Sp} {dvs:List V} {ds:List Value} {fx:Str} {fp cpos bpos np hpos pos:Pos} {e:Expr} {es:List Expr} {t:TA}
theorem ZlM {c:Expr} {a b:List Stmt} {tc:TT} {ta tb:TB} (hc:PT X.nox c tc) (ha:PB X a ta) (hb:PB X b tb):PB X [.If c a b pos] (λD Eσ σ H=>tc σ H λd H1=>if d=true then ta D Eσ σ H1 else tb D Eσ σ H1):=by
 intro pins s σ H D Eσ QQ EE I h hQ hE
 refine wpAny_execs_cons (wpAny_If (wpAny_mono (hc pins s σ H _ (I.wish _) h) (λd s1 ⟨H1,I1,q1⟩=>?_) (λ_ _ z=>False.elim z)))
 have I1:=I1.unwish
 have fin:∀ fl s',SP X pins D fl s'->(match (generalizing:=false) fl with
   | .next=>wpAny (model X.prog X.w) X.A (execs [] X.env) QQ EE s'
   | other=>QQ other s'):=λfl s' hs=>by
  cases fl with
  | next=>exact wpAny_execs_nil (hQ _ _ hs)
  | brk=>exact hQ _ _ hs
  | cont=>exact hQ _ _ hs
  | ret u=>exact hQ _ _ hs
 cases d with
 | true=>exact ha pins s1 σ H1 D Eσ _ _ I1 ((if_pos rfl).mp q1) fin hE
 | false=>exact hb pins s1 σ H1 D Eσ _ _ I1 ((if_neg Bool.false_ne_true).mp q1) fin hE
theorem ZiW {body:List Stmt} {tb:TB} {W:Addr} {wx n:Str} {i:Nat} {b0:Stmt} {suite:List Stmt} {ts:TS} (hB:PB X body tb) (hc:X.calm=true) (hst:X.stack=X.env::X.outer) (hfr:X.env.frame=some X.env.locals) (hex:X.ex=[]) (hN:X.N.Nodup) (hi:X.N[i]?=some n)
  (hl:X.env.scope.names.lookup n=some .local) (hgW:Gl X wx) (hmW:X.mg wx=some (.ref W)) (hbE:PySem.W.subIn X.K (.ref W) (.type "BaseException")=some true) (hsu:∀ a,PSs (X.inExc a) (b0::suite) ts) (hdb2:(wx == ("__debug__" : Str))=false:=by decide) :
  PS X (.Try body [.ExceptHandler (some (.Name wx np)) (some n) (b0::suite) hpos] [] [] pos) (λD σ H=>tb D (λσ1=>Zga X.K W i ts D σ1) σ H):=by
 intro pins s σ H D I h
 refine wpAny_Try_except (hB pins s σ H D _ _ _ I h (λfl s' hq=>?_) (λσ1 ev H1 s1 s' I1 hq=>handled hc hst hfr hex hN hi hl hgW hmW hbE hsu I1 hq hdb2))
 cases fl with
 | next=>exact wpAny_execs_nil hq
 | brk=>exact hq
 | cont=>exact hq
 | ret u=>exact hq
end
end L2
namespace L2
open PySem PySem.Spec PyProof.Rows
section
variable {X:Cx} {a b c d:Expr} {ta tb tc td:TE} {pos:Pos}
def ZlN (r1 r2 r3:R2) (ta tb tc td:TE):TE:=λσ H Q=>ta σ H λx H1=>tb σ H1 λy H2=>r1 x y H2 λz H3=>∃ k,z=.bl k /\
 (if k=true then tc σ H3 λw' H4=>r2 y w' H4 λz' H5=>∃ k',z'=.bl k'/\(if k'=true then td σ H5 λu' H6=>r3 w' u' H6 Q else Q (.bl false) H5) else Q (.bl false) H3)
theorem Zhn:bootBuiltins "all" = some (.builtin "all"):=by first | rfl | decide +kernel
theorem Ze2:bootBuiltins "set" = some (.type "set"):=by first | rfl | decide +kernel
theorem Zd6:∀ {bs:List Bool} {us:List Value},Vals (bs.map V.bl) us->us=bs.map Value.bool
 | [],_,.nil=>rfl
 | b::bs,_,.cons r t=>by rw [List.map_cons,<-Zd6 t];cases r;rfl
theorem Zgj (bs:List Bool):(List.range bs.length).all (λi=>bs.getD i false)=bs.all id:=by
 induction bs with
 | nil=>rfl
 | cons b bs ih=>
  rw [List.length_cons,List.range_succ_eq_map,List.all_cons,List.all_map,List.all_cons]
  show (b && _)=(b && _)
  congr 1
theorem Zm9 (K:PySem.W.Frag) (hc:X.calm=true) (h:X.K=K:=by rfl):Zbc X (.builtin "all") (λxs H Q=>∃ (p:Addr) (bs:List Bool),xs=[.ref p]/\SqL K H p (bs.map V.bl)/\Q (.bl (bs.all id)) H):=by
 subst h
 intro pins s σ H xs us Q I rv h
 obtain ⟨p,bs,rfl,hq,q⟩:=h
 obtain ⟨u,rfl,ru⟩:=rv.one
 cases ru
 obtain ⟨its,r,pl,hz⟩:=I.list hq
 have e:=Zd6 r
 have hh:X.A.in1.handled=none:=I.ok.hd hc
 obtain ⟨o,eo,_⟩:=id pl.isList
 have hlt:p<s.heap.objs.size:=Heap.lt_size eo
 refine call_all_walk (wpAny_pyIter_list pl.isList ?_)
 refine ⟨s.heap.objs.size,_,_,_,_,_,λi=>bs.getD i false,rfl,Walks.list hh s.heap.objs.size p (Nat.ne_of_lt hlt) its.toArray,⟨⟨_,Heap.get?_push_size _ rfl,rfl,rfl⟩,pl.isList.at λo e=>Heap.get?_push_of_some _ e⟩,?_,λh' tk hk=>?_⟩
 ·intro i v s' Q' E' hv hq'
  have hv':its[i]?=some v:=by simpa using hv
  rw [e,List.getElem?_map] at hv'
  cases z:bs[i]? with
  | none=>rw [z] at hv';cases hv'
  | some b=>
   rw [z] at hv'
   cases hv'
   have eb:bs.getD i false=b:=by rw [List.getD_eq_getElem?_getD,z];rfl
   exact wpAny_truthy_bool (by rw [<-eb];exact hq')
 ·have hl:its.toArray.size=bs.length:=by rw [List.size_toArray,e,List.length_map]
  have I1:Inv X pins σ H { s with heap:=s.heap.push { cls:=.type "list_iterator", data:=.fields #[.ref p,.int 0 0] } }:=I.kept (t':=s.toks) λb o e=>Heap.get?_push_of_some _ e
  refine ⟨.bl _,H,I.kept λb o e'=>hk b o ?_ (Heap.get?_push_of_some _ e'),?_,q⟩
  ·intro z
   have:b=s.heap.objs.size:=by simpa using z
   exact absurd (Heap.lt_size e') (by rw [this];exact Nat.lt_irrefl _)
  ·show Value.bool _=Value.bool _
   rw [hl,Zgj]
theorem ZlO (K:PySem.W.Frag) (hc:X.calm=true) (h:X.K=K:=by rfl):Zbc X (.type "set") (λxs H Q=>∃ (p:Addr) (ns:List Int),xs=[.ref p]/\SqL K H p (ns.map V.int)/\ns.length<1000 /\
  ∀ l,H l=none->Q (.ref l) (upd H l (.set (λk'=>(firstMet (λi=>ns.getD i 0) ns.length).any (· == k')) (firstMet (λi=>ns.getD i 0) ns.length).length))):=by
 subst h
 intro pins s σ H xs us Q I rv h
 obtain ⟨p,ns,rfl,hq,hn,q⟩:=h
 obtain ⟨u,rfl,ru⟩:=rv.one
 cases ru
 obtain ⟨its,r,pl,hz⟩:=I.list hq
 have hl:=r.length
 rw [List.length_map] at hl
 refine call_set_list (I.ok.hd hc) pl.isList (by simpa using ZbV r) (by rw [List.size_toArray,<-hl];exact Nat.lt_of_lt_of_le (Nat.succ_lt_succ hn) (by decide)) λh' tk hS hk=>?_
 have es:its.toArray.size=ns.length:=by rw [List.size_toArray];exact hl.symm
 rw [es] at hS
 exact ⟨.ref _,_,I.laid (o:=.set _ _) (λb o e=>hk b o (Heap.lt_size e) e) (Nat.le_refl _) hS,rfl,q _ I.fresh⟩
theorem ZiX:Zbc X (.builtin "len") (λxs H Q=>∃ p S n,xs=[.ref p]/\H p=some (.set S n)/\n<2 ^ 60/\Q (.int (n:Nat)) H):=by
 intro pins s σ H xs us Q I rv h
 obtain ⟨p,S,n,rfl,hp,hn,q⟩:=h
 obtain ⟨u,rfl,ru⟩:=rv.one
 cases ru
 obtain ⟨o,es,ep,t,e1,e2,e3,e4,e5,e6,e7,rfl⟩:=I.hok p _ hp
 refine call_len_set e1 e2 e3 e7 (by omega) ?_
 exact ⟨.int _,H,I.tok _,⟨_,rfl⟩,q⟩
end
end L2
namespace L2
open PySem PySem.Spec PyProof.Rows
section
variable {κ:Type} [DecidableEq κ]
def Zck (kvs:List (κ×V)) (k:κ):Option V:=(kvs.find? λkv=>decide (kv.1=k)).map (·.2)
def Zd7 (kvs:List (κ×V)) (k:κ) (v:V):List (κ×V):=
 if (kvs.any λkv=>decide (kv.1=k))=true then kvs.map (λkv=>if kv.1=k then (kv.1,v) else kv) else kvs++[(k,v)]
def ZiY (kvs:List (κ×V)) (k:κ):List (κ×V):=kvs.filter λkv=>decide (kv.1≠k)
theorem Za3 {p:κ×V} {r:List (κ×V)} {k:κ} (e:p.1=k):Zck (p::r) k=some p.2:=by simp [Zck,List.find?_cons,e]
theorem Za4 {p:κ×V} {r:List (κ×V)} {k:κ} (e:¬ p.1=k):Zck (p::r) k=Zck r k:=by simp [Zck,List.find?_cons,e]
theorem ZcL (k:κ):∀ kvs:List (κ×V),(kvs.any λkv=>decide (kv.1=k))=(Zck kvs k).isSome
 | []=>rfl
 | p::r=>by
  rw [List.any_cons]
  by_cases e:p.1=k
  ·simp only [Za3 e,decide_eq_true e,Bool.true_or,Option.isSome_some]
  ·rw [Za4 e,decide_eq_false e,Bool.false_or];exact ZcL k r
theorem Ze3 (k j:κ) (y:V):∀ kvs:List (κ×V),Zck (kvs.map λkv=>if kv.1=k then (kv.1,y) else kv) j=(Zck kvs j).map λx=>if j=k then y else x
 | []=>rfl
 | p::r=>by
  have ih:=Ze3 k j y r
  rw [List.map_cons]
  by_cases h:p.1=k
  ·rw [if_pos h]
   by_cases e:p.1=j
   ·rw [Za3 (p:=(p.1,y)) e,Za3 e,Option.map_some,if_pos (e.symm.trans h)]
   ·rw [Za4 (p:=(p.1,y)) e,Za4 e,ih]
  ·rw [if_neg h]
   by_cases e:p.1=j
   ·rw [Za3 (p:=p) e,Za3 e,Option.map_some,if_neg (λz=>h (e.trans z))]
   ·rw [Za4 (p:=p) e,Za4 e,ih]
theorem Zd8 (k j:κ) (y:V):∀ kvs:List (κ×V),Zck kvs k=none->Zck (kvs++[(k,y)]) j=if j=k then some y else Zck kvs j
 | [],_=>by
  by_cases e:k=j
  ·rw [if_pos e.symm];exact Za3 (p:=(k,y)) e
  ·rw [if_neg (λz=>e z.symm)];exact Za4 (p:=(k,y)) e
 | p::r,hn=>by
  rw [List.cons_append]
  have hk:¬ p.1=k:=λz=>by rw [Za3 z] at hn;cases hn
  rw [Za4 hk] at hn
  have ih:=Zd8 k j y r hn
  by_cases e:p.1=j
  ·rw [Za3 e,Za3 e,if_neg (λz=>hk (e.trans z))]
  ·rw [Za4 e,Za4 e,ih]
theorem Ze4 (kvs:List (κ×V)) (k j:κ) (y:V):Zck (Zd7 kvs k y) j=if j=k then some y else Zck kvs j:=by
 unfold Zd7
 by_cases a:(kvs.any λkv=>decide (kv.1=k))=true
 ·rw [if_pos a,Ze3]
  rw [ZcL] at a
  by_cases e:j=k
  ·obtain ⟨x,hx⟩:=Option.isSome_iff_exists.mp a
   rw [if_pos e,e,hx,Option.map_some,if_pos rfl]
  ·rw [if_neg e]
   cases Zck kvs j with
   | none=>rfl
   | some x=>rw [Option.map_some,if_neg e]
 ·rw [if_neg a]
  refine Zd8 k j y kvs ?_
  rw [ZcL] at a
  cases q:Zck kvs k with
  | none=>rfl
  | some x=>rw [q] at a;exact (a rfl).elim
theorem ZbE (kvs:List (κ×V)) (k:κ) (v:V):(Zd7 kvs k v).length<=kvs.length+1:=by
 unfold Zd7
 split
 ·rw [List.length_map];omega
 ·rw [List.length_append,List.length_cons,List.length_nil];omega
theorem RelO.isSome_eq {o:Option V} {u:Option Value} (r:RelO o u):o.isSome=u.isSome:=by
 cases o with
 | none=>cases u with
  | none=>rfl
  | some _=>exact (show False from r).elim
 | some _=>cases u with
  | none=>exact (show False from r).elim
  | some _=>rfl
theorem KV.val {kvs:List (κ×V)} {vs:List (κ×Value)} (r:KV kvs vs) (k:κ):RelO (Zck kvs k) (valueAt vs k):=by
 unfold KV at r
 induction r with
 | nil=>exact True.intro
 | @cons p q ps qs h t ih=>
  obtain ⟨h1,h2⟩:=h
  by_cases e:p.1=k
  ·have e':q.1=k:=h1.symm.trans e
   have b:valueAt (q::qs) k=some q.2:=by simp [valueAt,List.find?_cons,e']
   rw [Za3 e,b];exact h2
  ·have e':¬ q.1=k:=λz=>e (h1.trans z)
   have b:valueAt (q::qs) k=valueAt qs k:=by simp [valueAt,List.find?_cons,e']
   rw [Za4 e,b];exact ih
theorem KV.any {kvs:List (κ×V)} {vs:List (κ×Value)} (r:KV kvs vs) (k:κ):(kvs.any λkv=>decide (kv.1=k))=vs.any λkv=>decide (kv.1=k):=by
 unfold KV at r
 induction r with
 | nil=>rfl
 | cons h t ih=>rw [List.any_cons,List.any_cons,ih,h.1]
theorem KV.repl {kvs:List (κ×V)} {vs:List (κ×Value)} (r:KV kvs vs) (k:κ) {y:V} {u:Value} (ry:RelV y u) :
  KV (kvs.map λkv=>if kv.1=k then (kv.1,y) else kv) (vs.map λkv=>if kv.1=k then (kv.1,u) else kv):=by
 unfold KV at r ⊢
 induction r with
 | nil=>exact .nil
 | @cons p q ps qs h t ih=>
  rw [List.map_cons,List.map_cons]
  refine .cons ?_ ih
  obtain ⟨h1,h2⟩:=h
  by_cases e:p.1=k
  ·rw [if_pos e,if_pos (h1.symm.trans e)];exact ⟨h1,ry⟩
  ·rw [if_neg e,if_neg (λz=>e (h1.trans z))];exact ⟨h1,h2⟩
theorem KV.put {kvs:List (κ×V)} {vs:List (κ×Value)} (r:KV kvs vs) (k:κ) {y:V} {u:Value} (ry:RelV y u):KV (Zd7 kvs k y) (stored vs k u):=by
 unfold Zd7 stored
 rw [r.any k]
 by_cases e:(vs.any λkv=>decide (kv.1=k))=true
 ·rw [if_pos e,if_pos e];exact r.repl k ry
 ·rw [if_neg e,if_neg e];exact Paired.snoc r ⟨rfl,ry⟩
theorem KV.length {kvs:List (κ×V)} {vs:List (κ×Value)} (r:KV kvs vs):kvs.length=vs.length:=Paired.length r
end
theorem Zho {P:Program} {w:World} {k:Key} {u:Value} (r:RelV (kV k) u):(ZaY P w).is k u=true:=by
 cases k with
 | inl i=>obtain ⟨t,e⟩:=(show ∃ t,u=Value.int i t from r);subst e;exact Zeo P w i t
 | inr x=>obtain ⟨t,e⟩:=(show ∃ t,u=Value.str x t from r);subst e;exact Zep P w x t
theorem Zd9 {P:Program} {w:World}:∀ {ks:List Key} {us:List Value},Vals (ks.map kV) us->ItemsAre (ZaY P w) ks us
 | [],_,r=>by rw [List.map_nil] at r;cases r;exact .nil
 | k::ks,_,r=>by
  rw [List.map_cons] at r
  cases r with
  | cons h t=>exact .cons (Zho h) (Zd9 t)
abbrev KT (H:Hp):List (List Key×V)->List (List Key×Addr×Value)->Prop:=Paired λp q=>p.1=q.1/\H q.2.1=some (.tup (p.1.map kV))/\RelV p.2 q.2.2
theorem KT.val {H:Hp} {kvs:List (List Key×V)} {xs:List (List Key×Addr×Value)} (r:KT H kvs xs) (k:List Key):RelO (Zck kvs k) ((atKey xs k).map (·.2)):=by
 induction r with
 | nil=>exact True.intro
 | @cons p q ps qs h t ih=>
  obtain ⟨h1,_,h2⟩:=h
  by_cases e:p.1=k
  ·have e':q.1=k:=h1.symm.trans e
   have b:atKey (q::qs) k=some q.2:=by simp [atKey,List.find?_cons,e']
   rw [Za3 e,b];exact h2
  ·have e':¬ q.1=k:=λz=>e (h1.trans z)
   have b:atKey (q::qs) k=atKey qs k:=by simp [atKey,List.find?_cons,e']
   rw [Za4 e,b];exact ih
theorem KT.repl {H:Hp} {kvs:List (List Key×V)} {xs:List (List Key×Addr×Value)} (r:KT H kvs xs) (k:List Key) {y:V} {u:Value} (ry:RelV y u) :
  KT H (kvs.map λkv=>if kv.1=k then (kv.1,y) else kv) (xs.map (putAt k u)):=by
 induction r with
 | nil=>exact .nil
 | @cons p q ps qs h t ih=>
  rw [List.map_cons,List.map_cons]
  refine .cons ?_ ih
  obtain ⟨h1,h2,h3⟩:=h
  unfold putAt
  by_cases e:p.1=k
  ·rw [if_pos e,if_pos (h1.symm.trans e)];exact ⟨h1,h2,ry⟩
  ·rw [if_neg e,if_neg (λz=>e (h1.trans z))];exact ⟨h1,h2,h3⟩
theorem KT.put {H:Hp} {kvs:List (List Key×V)} {xs:List (List Key×Addr×Value)} (r:KT H kvs xs) (k:List Key) {b:Addr} {y:V} {u:Value} (hb:H b=some (.tup (k.map kV))) (ry:RelV y u) :
  KT H (Zd7 kvs k y) (storedH xs k b u):=by
 have e:(kvs.any λkv=>decide (kv.1=k))=(atKey xs k).isSome:=by
  rw [ZcL,(r.val k).isSome_eq,Option.isSome_map]
 unfold Zd7 storedH
 rw [e]
 by_cases q:(atKey xs k).isSome=true
 ·rw [if_pos q,if_pos q];exact r.repl k ry
 ·rw [if_neg q,if_neg q];exact Paired.snoc r ⟨rfl,hb,ry⟩
theorem KT.keeps {H H':Hp} {kvs:List (List Key×V)} {xs:List (List Key×Addr×Value)} (r:KT H kvs xs) (ht:∀ b ys,H b=some (.tup ys)->H' b=some (.tup ys)):KT H' kvs xs:=
 Paired.mapP r λ_ _ z=>⟨z.1,ht _ _ z.2.1,z.2.2⟩
section
variable {P:Program} {w:World} {H:Hp} {h:Heap} {a:Addr}
theorem Zkj {u:HO} (ok:HOk P w H h) (e:Rd H a u):ObjOk P w H h a u:=e.ok ok
theorem Zhp {kvs:List (Key×V)} (ok:HOk P w H h) (e:Rd H a (.dK kvs)):kvs.length<=sizeLine/\(a == sysModules)=false/\∃ vs,KV kvs vs/\h.DictOf (ZaY P w) a vs:=
 show ObjOk P w H h a (.dK kvs) from Zkj ok e
theorem ZlP {kvs:List (Key×V)} (ok:HOk P w H h) (e:H a=some (.dK kvs)):kvs.length<=sizeLine/\(a == sysModules)=false/\∃ vs,KV kvs vs/\h.DictOf (ZaY P w) a vs:=Zhp ok (.inl e)
theorem Ze5 {ks:List Key} (ok:HOk P w H h) (e:H a=some (.tup (ks.map kV))):(tupleKind (ZaY P w)).is h ks a:=by
 obtain ⟨_,its,r,o,h1,h2,n,h3⟩:=(show ObjOk P w H h a (.tup (ks.map kV)) from ok a _ e)
 exact ⟨o,its.toArray,n,h1,h2,h3,by simpa using Zd9 r⟩
theorem Zhq {kvs:List (List Key×V)} (ok:HOk P w H h) (e:Rd H a (.dT kvs)):kvs.length<=sizeLine/\(a == sysModules)=false /\
  ∃ xs,KT H kvs xs/\h.DictOfH (tupleKind (ZaY P w)) a xs:=by
 obtain ⟨z,y,xs,r,o,es,ep,h1,h2,h3,h4,h5⟩:=(show ObjOk P w H h a (.dT kvs) from Zkj ok e)
 refine ⟨z,y,xs,r,o,es,ep,h1,h2,h3,h4,λx hx=>?_,h5⟩
 have all:∀ {l:List (List Key×V)} {m:List (List Key×Addr×Value)},KT H l m->∀ x∈m,(tupleKind (ZaY P w)).is h x.1 x.2.1:=by
  intro l m q
  induction q with
  | nil=>intro x hx;exact nomatch hx
  | @cons p q ps qs hq t ih=>
   intro x hx
   rcases List.mem_cons.mp hx with e | hx
   ·subst e
    exact Ze5 ok (by rw [<-hq.1];exact hq.2.1)
   ·exact ih x hx
 exact all r x hx
theorem ZlQ {kvs:List (List Key×V)} (ok:HOk P w H h) (e:H a=some (.dT kvs)):kvs.length<=sizeLine/\(a == sysModules)=false /\
  ∃ xs,KT H kvs xs/\h.DictOfH (tupleKind (ZaY P w)) a xs:=Zhq ok (.inl e)
end
def DGet (H:Hp) (a:Addr) (y:V) (r:Option V):Prop:=
 (∃ kvs k,Rd H a (.dK kvs)/\y=kV k/\r=Zck kvs k)\/∃ kvs k b,Rd H a (.dT kvs)/\y=.ref b/\H b=some (.tup (k.map kV))/\r=Zck kvs k
def DPut (H:Hp) (a:Addr) (y v:V) (H':Hp):Prop:=
 (∃ kvs k,H a=some (.dK kvs)/\y=kV k/\kvs.length<sizeLine/\H'=upd H a (.dK (Zd7 kvs k v))) \/
 ∃ kvs k b,H a=some (.dT kvs)/\y=.ref b/\H b=some (.tup (k.map kV))/\kvs.length<sizeLine/\H'=upd H a (.dT (Zd7 kvs k v))
theorem DGet.t {H:Hp} {a b:Addr} {kvs:List (List Key×V)} {k:List Key} (e:H a=some (.dT kvs)) (eb:H b=some (.tup (k.map kV))):DGet H a (.ref b) (Zck kvs k):=.inr ⟨kvs,k,b,.inl e,rfl,eb,rfl⟩
theorem DPut.t {H:Hp} {a b:Addr} {kvs:List (List Key×V)} {k:List Key} {v:V} (e:H a=some (.dT kvs)) (eb:H b=some (.tup (k.map kV))) (hl:kvs.length<sizeLine) :
  DPut H a (.ref b) v (upd H a (.dT (Zd7 kvs k v))):=.inr ⟨kvs,k,b,e,rfl,eb,hl,rfl⟩
section
variable {X:Cx} {pins:List (Addr×Obj)} {σ:St} {H:Hp} {s:Shared} {a:Addr} {y v:V} {u r:Value} {o:Option V} {A:Around} {E:Value->Shared->Prop}
theorem Inv.big (I:Inv X pins σ H s):sysModules<s.heap.objs.size:=by
 have h:mainGlobals<s.heap.objs.size:=(I.mod.glob.keeps I.bk).lt
 exact Nat.lt_trans (by decide) h
theorem Zgk {Q:Value->Shared->Prop} (hu:A.units+1<cLine) (I:Inv X pins σ H s) (g:DGet H a y (some v)) (ry:RelV y u) (h:∀ w' s',Inv X pins σ H s'->RelV v w'->Q w' s') :
  wpAny (model X.prog X.w) A (getItem (.ref a) u) Q E s:=by
 rcases g with ⟨kvs,k,e,ey,l⟩ | ⟨kvs,k,b,e,ey,eb,l⟩
 ·subst ey
  obtain ⟨z,hd,vs,rel,dd⟩:=Zhp I.hok e
  obtain ⟨w',hw,rw'⟩:=RelO.some_of (v:=v) (o:=valueAt vs k) (by rw [l];exact rel.val k)
  exact wpAny_getItem_of (Zho ry) dd.mapOf hw (h w' _ (I.tok _) rw')
 ·subst ey
  cases (show u=Value.ref b from ry)
  obtain ⟨z,hd,xs,rel,dd⟩:=Zhq I.hok e
  obtain ⟨w',hw,rw'⟩:=RelO.some_of (v:=v) (o:=(atKey xs k).map (·.2)) (by rw [l];exact rel.val k)
  obtain ⟨p,hp,hp2⟩:=Option.map_eq_some_iff.mp hw
  refine wpAny_getItem_heap (tupleKind_room_in1 hu) (Ze5 I.hok eb) dd hp ?_
  rw [hp2]
  exact h w' _ (I.tok _) rw'
theorem Zna {Q:Value->Shared->Prop} (hu:A.units+1<cLine) (I:Inv X pins σ H s) (g:DGet H a y o) (ry:RelV y u) (h:∀ s',Inv X pins σ H s'->Q (.bool o.isSome) s') :
  wpAny (model X.prog X.w) A (compareOp .In u (.ref a)) Q E s:=by
 rcases g with ⟨kvs,k,e,ey,l⟩ | ⟨kvs,k,b,e,ey,eb,l⟩
 ·subst ey
  obtain ⟨z,hd,vs,rel,dd⟩:=Zhp I.hok e
  refine wpAny_in_of (Zho ry) hd dd.mapOf ?_
  rw [<-(rel.val k).isSome_eq,<-l]
  exact h _ (I.tok _)
 ·subst ey
  cases (show u=Value.ref b from ry)
  obtain ⟨z,hd,xs,rel,dd⟩:=Zhq I.hok e
  refine wpAny_in_heap (tupleKind_room_in1 hu) (Ze5 I.hok eb) hd dd ?_
  have q:=(rel.val k).isSome_eq
  rw [Option.isSome_map] at q
  rw [<-q,<-l]
  exact h _ (I.tok _)
theorem Zgl {h':Heap} {t':Nat} {ob:HO} (I:Inv X pins σ H s) (mu:Mut (H a)) (hs:Heap.SameBut a s.heap h') (he:∃ q,h'.get? a=some q) (new:ObjOk X.prog X.w (upd H a ob) h' a ob) :
  Inv X pins σ (upd H a ob) { s with heap:=h',toks:=t' }:=
 I.write (x:=a) (e:=a) mu (.inl rfl) (λb q hb z=>(hs.2 b hb).trans z) he new
theorem Zkk {P:Program} {w:World} {H':Hp} {h':Heap} {kvs:List (Key×V)} {vs:List (Key×Value)} (z:kvs.length<=sizeLine) (hd:(a == sysModules)=false) (rel:KV kvs vs) (dd:h'.DictOf (ZaY P w) a vs) :
  ObjOk P w H' h' a (.dK kvs):=⟨z,hd,vs,rel,dd⟩
theorem Zgm {H':Hp} {Q:Unit->Shared->Prop} (hu:A.units+1<cLine) (I:Inv X pins σ H s) (g:DPut H a y v H') (ry:RelV y u) (rv:RelV v r) (h:∀ s',Inv X pins σ H' s'->Q () s') :
  wpAny (model X.prog X.w) A (setItem (.ref a) u r) Q E s:=by
 rcases g with ⟨kvs,k,e,ey,l,eH⟩ | ⟨kvs,k,b,e,ey,eb,l,eH⟩
 ·subst ey eH
  obtain ⟨z,hd,vs,rel,dd⟩:=ZlP I.hok e
  have hz:vs.length<=sizeLine:=by rw [<-rel.length];exact z
  have hl:(Zd7 kvs k v).length<=sizeLine:=by have:=ZbE kvs k v;omega
  refine wpAny_setItem_pairs (hsz:=hz) (Zho ry) dd λh' dd' hs=>h _ ?_
  have he:∃ q,h'.get? a=some q:=let ⟨q,_,_,hq,_⟩:=dd';⟨q,hq⟩
  exact Zgl I (by rw [e];exact True.intro) hs he (Zkk hl hd (rel.put k rv) dd')
 ·subst ey eH
  cases (show u=Value.ref b from ry)
  obtain ⟨z,hd,xs,rel,dd⟩:=ZlQ I.hok e
  have hz:xs.length<=sizeLine:=by rw [<-Paired.length rel];exact z
  have hl:(Zd7 kvs k v).length<=sizeLine:=by have:=ZbE kvs k v;omega
  refine wpAny_setItem_heap (hsz:=hz) (tupleKind_room_in1 hu) (Ze5 I.hok eb) dd λh' dd' hs=>h _ ?_
  obtain ⟨q,es,ep,hq,h2,h3,h4,_,h5⟩:=dd'
  refine Zgl I (by rw [e];exact True.intro) hs ⟨q,hq⟩ ⟨hl,hd,_,(rel.put k eb rv).keeps λc ys ec=>?_,q,es,ep,hq,h2,h3,h4,h5⟩
  rw [Zar (ZfP ec e (λz=>nomatch z))]
  exact ec
end
section
variable {X:Cx} {pins:List (Addr×Obj)} {σ:St} {H:Hp} {s:Shared} {a:Addr} {kvs:List (Key×V)} {k:Key} {u:Value} {A:Around} {E:Value->Shared->Prop}
end
def Zmv (i:Expr):Prop:=∀ ov iv,subscripted i false ov iv=operate [ov,iv] (getItem ov iv)
theorem ZiZ {prog:Program} {w:World} {A:Around} {E:Value->Shared->Prop} {s:Shared} {env:Env} {value slice:Expr} {pos:Pos} {T id:String} {Q:Value->Shared->Prop}
  (hl:typeLookup (.type T) "__getitem__" = pure (some (.builtin id))) (hs:Zmv slice)
  (h:wpAny (model prog w) A (eval value env) (λo s₁=>wpAny (model prog w) A (eval slice env) (λi s₂=>s₂.TypeIs o T/\wpAny (model prog w) A (getItem o i) Q E s₂) E s₁) E s) :
  wpAny (model prog w) A (eval (.Subscript value slice pos) env) Q E s:=by
 refine Subscript_ (wpAny_mono h (λo s₁ h₁=>wpAny_mono h₁ (λi s₂ h₂=>?_) λ_ _ x=>x) λ_ _ x=>x)
 obtain ⟨hT,h₂⟩:=h₂
 unfold subscriptTail
 refine wpAny_bind ?_
 rw [getitemInPython_of_ne hT.not_modules]
 refine wpAny_bind (wpAny_specialOf hT hl ?_)
 have fin:wpAny (model prog w) A (subscripted slice false o i) (λr s₃=>wpAny (model prog w) A (letTemporaryGo value o r >>= λ_=>pure r) Q E s₃) E s₂:=by
  rw [hs o i]
  exact wpAny_operating (wpAny_mono h₂ (λr s₃ h₃=>wpAny_bind (wpAny_letTemporaryGo (wpAny_pure h₃))) λ_ _ x=>x)
 first
  | exact wpAny_pure (wpAny_bind fin)
  | exact wpAny_bind (wpAny_pure (wpAny_bind fin))
  | exact wpAny_bind fin
theorem Zez {X:Cx} {pins:List (Addr×Obj)} {σ:St} {H:Hp} {s:Shared} {a:Addr} {y:V} {o:Option V} (I:Inv X pins σ H s) (g:DGet H a y o):s.TypeIs (.ref a) "dict" := by
 rcases g with ⟨kvs,k,e,_,_⟩ | ⟨kvs,k,b,e,_,_,_⟩
 ·obtain ⟨_,_,vs,_,dd⟩:=Zhp I.hok e
  exact dd.typeIs
 ·obtain ⟨_,_,xs,_,dd⟩:=Zhq I.hok e
  exact dd.typeIs
def ZlR (td ty:TE):TE:=λσ H Q=>td σ H λx H1=>ty σ H1 λy H2=>∃ a v,x=.ref a/\DGet H2 a y (some v)/\Q v H2
def Znb (ty td:TE):TE:=λσ H Q=>ty σ H λy H1=>td σ H1 λx H2=>∃ a o,x=.ref a/\DGet H2 a y o/\Q (.bl o.isSome) H2
def ZlS (ty td:TE):TE:=λσ H Q=>ty σ H λy H1=>td σ H1 λx H2=>∃ a o,x=.ref a/\DGet H2 a y o/\Q (.bl (!o.isSome)) H2
def ZlT (td ty tv:TE):TS:=λD σ H=>tv σ H λv H1=>td σ H1 λx H2=>ty σ H2 λy H3=>∃ a H4,x=.ref a/\DPut H3 a y v H4/\D.nx σ H4
def Znc (td ty tv:TE) (rd:V->V->Hp->VK->Prop):TS:=λD σ H=>td σ H λx H1=>ty σ H1 λy H2=>∃ a v,x=.ref a/\DGet H2 a y (some v) /\
 tv σ H2 λy2 H3=>rd v y2 H3 λz H4=>∃ H5,DPut H4 a y z H5/\D.nx σ H5
def Znd (td ty:TE):TS:=λD σ H=>td σ H λx H1=>ty σ H1 λy H2=>∃ a kvs k,x=.ref a/\H2 a=some (.dK kvs)/\y=kV k/\(Zck kvs k).isSome=true/\D.nx σ (upd H2 a (.dK (ZiY kvs k)))
section
variable {X:Cx} {o i e value:Expr} {pos pos' tpos:Pos} {td ty tv:TE}
theorem Zi0 (hu:X.A.units+1<cLine) (ho:PE X o td) (hi:PE X i ty) (hs:Zmv i):PE X (.Subscript o i pos) (ZlR td ty):=by
 intro pins s σ H Q I h
 refine ZiZ PySem.F.slot_dict_getitem.lookup hs (thn (ho pins s σ H _ I h) λu s1 ⟨x,H1,I1,rx,q1⟩=>thn (hi pins s1 σ H1 _ I1 q1) λiv s2 ⟨y,H2,I2,ry,a,v,ex,g,q2⟩=>?_)
 subst ex
 obtain rfl:u=Value.ref a:=rx
 exact ⟨Zez I2 g,Zgk hu I2 g ry λw' s3 I3 rw'=>⟨v,H2,I3,rw',q2⟩⟩
theorem Zkl (hu:X.A.units+1<cLine) (hi:PE X i ty) (ho:PE X o td):PC X .In i o (Znb ty td):=by
 intro pins s σ H Q I h
 refine thn (hi pins s σ H _ I h) λiv s1 ⟨y,H1,I1,ry,q1⟩=>thn (ho pins s1 σ H1 _ I1 q1) λu s2 ⟨x,H2,I2,rx,a,ov,ex,g,q2⟩=>?_
 subst ex
 obtain rfl:u=Value.ref a:=rx
 exact Zna hu I2 g ry λs3 I3=>⟨.bl ov.isSome,H2,I3,rfl,q2⟩
theorem Zgn (hu:X.A.units+1<cLine) (ho:PE X o td) (hi:PE X i ty) (hv:PE X value tv) (hs:swapsWith value (some (.Subscript o i pos')) pos.line X.env=pure false) :
  PS X (.Assign [.Subscript o i pos'] value pos) (ZlT td ty tv):=by
 intro pins s σ H D I h
 refine wpAny_Assign_Subscript (thn (hv pins s σ H _ I h) λr s1 ⟨v,H1,I1,rv,q1⟩=>thn (ho pins s1 σ H1 _ I1 q1) λu s2 ⟨x,H2,I2,rx,q2⟩=>thn (hi pins s2 σ H2 _ I2 q2) λiv s3 ⟨y,H3,I3,ry,a,H4,ex,g,q3⟩=>?_) hs
 subst ex
 obtain rfl:u=Value.ref a:=rx
 exact Zgm hu I3 g ry rv λs4 I4=>⟨σ,H4,I4,q3⟩
end
theorem Zhr {P:Program} {w:World} {H:Hp} (h:Heap) (hb:sysModules<h.objs.size):ObjOk P w H (h.push { cls:=.type "dict", data:=.dict #[] }) h.objs.size (.dT []):=
 ⟨Nat.zero_le _,beq_eq_false_iff_ne.mpr (Ne.symm (Nat.ne_of_lt hb)),[],.nil,_,#[],0,Heap.get?_push_size _ rfl,⟨rfl,rfl,rfl⟩,rfl,rfl,List.nodup_nil⟩
def Zmw:TE:=λ_ H Q=>∀ p,H p=none->Q (.ref p) (upd H p (.dK []))
def Zkm:TE:=λ_ H Q=>∀ p,H p=none->Q (.ref p) (upd H p (.dT []))
section
variable {X:Cx} {pos:Pos}
theorem Zhs:PE X (.Dict [] [] pos) Zkm:=λpins s σ H Q I h=>
 wpAny_Dict_empty ⟨.ref s.heap.objs.size,_,I.laid (a:=s.heap.objs.size) (o:=.dT []) (t':=s.toks) (λ_ _ q=>Heap.get?_push_of_some _ q) (Nat.le_refl _) (Zhr s.heap I.big),rfl,h _ (I.hok.fresh (Nat.le_refl _))⟩
end
def Zgo:List (TE×TE)->St->Hp->(List (V×V)->Hp->Prop)->Prop
 | [],_,H,Q=>Q [] H
 | (tk,tv)::r,σ,H,Q=>tk σ H λx H1=>tv σ H1 λy H2=>Zgo r σ H2 λps H3=>Q ((x,y)::ps) H3
abbrev VV:List (V×V)->List (Value×Value)->Prop:=Paired λp q=>RelV p.1 q.1/\RelV p.2 q.2
def PPs (X:Cx) (pos:Pos) (keys:List (Option Expr)) (values:List Expr) (trs:List (TE×TE)):Prop:=
 ∀ (pins:List (Addr×Obj)) (s:Shared) (σ:St) (H:Hp) (Q:List (V×V)->Hp->Prop),Inv X pins σ H s->Zgo trs σ H Q ->
  wpAny (model X.prog X.w) X.A (evalPairs (pairTrees keys values X.env pos)) (λvs s'=>∃ ps H',Inv X pins σ H' s'/\VV ps vs/\Q ps H') X.xe s
def Zkn (kvs more:List (Key×V)):List (Key×V):=more.foldl (λacc kv=>Zd7 acc kv.1 kv.2) kvs
def Zne (trs:List (TE×TE)):TE:=λσ H Q=>∀ p,H p=none->Zgo trs σ (upd H p (.dK [])) λps H2=>H2 p=some (.dK [])/\∃ kvs:List (Key×V),ps=kvs.map (λkv=>(kV kv.1,kv.2))/\kvs.length<=15/\Q (.ref p) (upd H2 p (.dK (Zkn [] kvs)))
structure M1 (X:Cx) (o:Expr) (m:Str) (apos:Pos) (e:Expr) (cpos:Pos):Prop where
 base:attributeBase o m X.env (eval o X.env)=eval o X.env
 few:((backTo cpos (starEach [e] X.env)).all (λx=>!x.1) && (backToKw cpos (keywordEach [] X.env)).all (λx=>x.1.isSome)
  && decide (([e]:List Expr).length+([]:List Keyword).length+(if ([]:List Keyword).isEmpty then 0 else 1)<30))=true
 line:(apos.endLine == cpos.line)=true
 trees:backTo cpos (starEach [e] X.env)=[(false,eval e X.env)]
structure M2 (X:Cx) (o:Expr) (m:Str) (apos:Pos) (e f:Expr) (cpos:Pos):Prop where
 base:attributeBase o m X.env (eval o X.env)=eval o X.env
 few:((backTo cpos (starEach [e,f] X.env)).all (λx=>!x.1) && (backToKw cpos (keywordEach [] X.env)).all (λx=>x.1.isSome)
  && decide (([e,f]:List Expr).length+([]:List Keyword).length+(if ([]:List Keyword).isEmpty then 0 else 1)<30))=true
 line:(apos.endLine == cpos.line)=true
 trees:backTo cpos (starEach [e,f] X.env)=[(false,eval e X.env),(false,eval f X.env)]
def IsD (H:Hp) (a:Addr):Prop:=(∃ kvs,Rd H a (.dK kvs))\/∃ kvs,Rd H a (.dT kvs)
section
variable {X:Cx} {pins:List (Addr×Obj)} {σ:St} {H:Hp} {s:Shared} {a:Addr} {y d:V} {u r:Value} {o:Option V} {A:Around} {E:Value->Shared->Prop}
end
def Zmx (td ty:TE):TE:=λσ H Q=>td σ H λx H1=>∃ a,x=.ref a/\IsD H1 a/\ty σ H1 λy H2=>∃ o,DGet H2 a y o/\Q (o.getD .non) H2
def Zmy (td ty tx:TE):TE:=λσ H Q=>td σ H λx H1=>∃ a,x=.ref a/\IsD H1 a/\ty σ H1 λy H2=>tx σ H2 λz H3=>∃ o,DGet H3 a y o/\Q (o.getD z) H3
def Zmz (td ty:TE):TE:=λσ H Q=>td σ H λx H1=>∃ a,x=.ref a/\IsD H1 a/\ty σ H1 λy H2=>∃ kvs k v,H2 a=some (.dK kvs)/\y=kV k/\Zck kvs k=some v/\Q v (upd H2 a (.dK (ZiY kvs k)))
def ZmA (td ty tx:TE):TE:=λσ H Q=>td σ H λx H1=>∃ a,x=.ref a/\IsD H1 a/\ty σ H1 λy H2=>tx σ H2 λz H3=>∃ kvs k,H3 a=some (.dK kvs)/\y=kV k /\
 (∀ v,Zck kvs k=some v->Q v (upd H3 a (.dK (ZiY kvs k))))/\(Zck kvs k=none->Q z H3)
section
variable {X:Cx} {o e f:Expr} {apos cpos:Pos} {td ty tx:TE}
end
section
variable {X:Cx} {pins:List (Addr×Obj)} {σ:St} {H:Hp} {s:Shared} {a:Addr} {kvs:List (Key×V)} {A:Around} {E:Value->Shared->Prop}
end
section
variable {X:Cx} {pins:List (Addr×Obj)} {σ:St} {H:Hp} {s:Shared} {a:Addr} {y:V} {u:Value} {A:Around} {E:Value->Shared->Prop}
end
end L2
namespace L2
open PySem PySem.Spec PyProof.Rows
section
variable {X:Cx}
def Zgp:V->List V->Hp->VK->Prop:=λx vs H Q=>∃ (l:Addr) (ns:List Int) (i:Int),x=.ref l/\vs=[.int i]/\H l=some (.lst (ns.map V.int))/\i∈ns/\Q (.int ((ns.idxOf i:Nat):Int)) H
theorem Ze6:MtM X "list.index" Zgp:=by
 intro pins s σ H x vs v us Q I rx rv h
 obtain ⟨l,ns,k,rfl,rfl,hH,hk,q⟩:=h
 cases rx
 obtain ⟨u,rfl,ru⟩:=rv.one
 obtain ⟨t,rfl⟩:=ru
 obtain ⟨z,its,n,r,hl,e⟩:=I.lstM hH
 have hi:=ZbV r
 have hlen:=hi.length
 have hj:ns.idxOf k<ns.length:=List.idxOf_lt_length_iff.mpr hk
 have h16:(16777216:Nat)=sizeLine:=sizeLine_eq.symm
 rw [List.length_map] at z
 refine call_meets F.slot_list_index ⟨_,e,rfl⟩ F.entry_list_index (F.args_list_index_2 _ _)
  (PySem.SeqAt.list_indexAt l its.toArray n _ _ (.int k t) (isInt k) (ns.idxOf k) (by simpa [hlen] using hj) (by omega) ?_ ?_) ⟨e,λy hy=>(eq_isInt k t hi y (by simpa using hy)).at _ _,?_⟩
 ·show isInt k its[ns.idxOf k]=true
  rw [isInt_at k hi _ (by omega) hj]
  simpa using List.getElem_idxOf hj
 ·intro j hjs hlt
  show isInt k its[j]=false
  rw [isInt_at k hi j (by simpa using hjs) (by omega)]
  exact ne_of_lt_idxOf hlt _
 ·exact ⟨.int _,H,I.tok _,⟨_,rfl⟩,q⟩
end
end L2
namespace L2
open PySem PySem.Spec PyProof.Rows
structure Lane where
 it:Addr
 l:Addr
 xs:Array Value
def Lane.On (r:Lane) (k:Nat) (h:Heap):Prop:=h.IsListIter r.it r.l k/\h.IsList r.l r.xs
theorem Lane.On.keep {r:Lane} {k:Nat} {h h':Heap} (x:r.On k h) (e:∀ c,c=r.it\/c=r.l->∀ o,h.get? c=some o->h'.get? c=some o):r.On k h':=
 ⟨x.1.at (e _ (.inl rfl)),x.2.at (e _ (.inr rfl))⟩
structure Zko (rs:List Lane):Prop where
 nd:(rs.map Lane.it).Nodup
 ls:∀ r∈rs,∀ q∈rs,q.l≠r.it
abbrev ZeA (h:Heap) (z TI TO:Addr) (f0:Value) (f1:Bool):Prop:=
 h.get? z=some { cls:=.type "zip", dict:=none,data:=.fields #[f0,.bool f1,.bool false,.ref TI,.ref TO],slots:=#[] }
section
variable {prog:Program} {w:World} {A:Around} {E:Value->Shared->Prop} {s:Shared}
theorem Zgq {z TI TO T:Addr} {f1:Bool} {o:Obj} {Q:Bool->Shared->Prop} (hz:ZeA s.heap z TI TO (rawInt T) f1) (hT:s.heap.get? T=some o)
  (h:∀ h',ZeA h' z TI TO (rawInt T) true->Heap.SameBut z s.heap h'->Q false { s with heap:=h' }):wpAny (model prog w) A (Builtin.SmallTypes.ownedTupleIsFree (.ref z)) Q E s:=by
 wp_walk using wpAny_field hz rfl rfl
 refine PySem.W.kdx_alive (a:=T) hT ?_
 cases f1
 ·wp_walk using wpAny_field hz rfl rfl
  exact h _ (Heap.get?_update_self _ hz rfl) (Heap.SameBut.update ..)
 ·wp_walk using wpAny_field hz rfl rfl
  exact h s.heap hz ⟨rfl,λ_ _=>rfl⟩
theorem Zht {z TI TO T:Addr} {f1:Bool} {o:Obj} {rs:List Lane} {k:Nat} {Q:Value->Shared->Prop} (hh:A.handled=none) (ap:Zko rs) (hz:ZeA s.heap z TI TO (rawInt T) f1) (hT:s.heap.get? T=some o) (hr:∀ r∈rs,r.it≠z/\r.l≠z)
  (hTI:s.heap.get? TI=some { cls:=.type "tuple", data:=.seq (rs.map λr=>Value.ref r.it).toArray }) (h0:rs≠[]) (hl:rs.length<=64) (on:∀ r∈rs,r.On k s.heap)
  (hQ:∀ (vs:List Value) h',rs.map (λr=>r.xs[k]?)=vs.map some->ZeA h' z TI TO (rawInt T) true->(∀ r∈rs,r.On (k+1) h')->h'.get? s.heap.objs.size=some { cls:=.type "tuple", data:=.seq vs.toArray }->h'.objs.size=s.heap.objs.size+1 ->
   (∀ c o,c≠z->c ∉ rs.map Lane.it->s.heap.get? c=some o->h'.get? c=some o)->Q (.ref s.heap.objs.size) { s with heap:=h' })
  (hE:∀ h' e,(∃ r∈rs,r.xs[k]?=none)->(∀ c o,c≠z->c ∉ rs.map Lane.it->s.heap.get? c=some o->h'.get? c=some o)->(∃ o,h'.get? e=some o/\o.cls=.type "StopIteration")->E (.ref e) { s with heap:=h' }) :
  wpAny (model prog w) A (Builtin.«zip.__next__» ⟨[.ref z],[]⟩) (λfin s'=>∃ v,fin=.done (.ret v)/\Q v s') E s:=by
 have hne:(rs.map λr=>Value.ref r.it).toArray.isEmpty=false:=by cases rs with
  | nil=>exact absurd rfl h0
  | cons=>rfl
 wp_walk using wpAny_field hz rfl rfl,wpAny_seqItems hTI rfl,Zgq hz hT
 intro h1 z1 s1
 wp_walk
 refine MeetsSeq2.wpAny_forIn_array _ (λrest b s'=>∃ dn rm h',rs=dn++rm/\rest=rm.map (λr=>Value.ref r.it)/\b.1=none/\dn.map (λr=>r.xs[k]?)=b.2.toList.map some/\s'={ s with heap:=h' }/\h'.objs.size=s.heap.objs.size /\
   (∀ r∈dn,r.On (k+1) h')/\(∀ r∈rm,r.On k h')/\∀ c o,c ∉ rs.map Lane.it->h1.get? c=some o->h'.get? c=some o) _ ?_ ?_ _ _ ?_
 ·rintro x rest ⟨b1,b2⟩ s' ⟨dn,rm,h',hd,hx,hb,hv,rfl,hsz,on1,on0,kp⟩
  cases rm with
  | nil=>cases hx
  | cons r rm=>
   obtain ⟨rfl,rfl⟩:x=Value.ref r.it/\rest=rm.map (λr=>Value.ref r.it):=by cases hx;exact ⟨rfl,rfl⟩
   have mr:r∈rs:=by rw [hd];simp
   have nd:=ap.nd
   rw [hd,List.map_append,List.map_cons,List.nodup_append] at nd
   obtain ⟨-,nd2,nd3⟩:=nd
   have nr:∀ q,q∈dn\/q∈rm->q.it≠r.it/\q.l≠r.it:=λq hq=>⟨hq.elim (λy=>nd3 _ (List.mem_map_of_mem y) _ List.mem_cons_self) (λy e=>(List.nodup_cons.1 nd2).1 (e▸List.mem_map_of_mem y)),ap.ls r mr q (by rw [hd];rcases hq with y | y <;> simp [y])⟩
   have o0:=on0 r List.mem_cons_self
   refine wpAny_bind (wpAny_holding (?_:wpAny _ _ (Builtin.SmallTypes.nextOf (.ref r.it) >>= λv=>pure (some v)) _ _ _))
   cases e:r.xs[k]? with
   | none=>
    refine wpAny_bind (wpAny_nextOf_list_end hh o0.1 o0.2 e λh2 e2 x2 c2=>?_)
    exact hE h2 e2 ⟨r,mr,e⟩ (λc o c1 c3 q=>x2 c o (λy=>c3 (y▸List.mem_map_of_mem mr)) (kp c o c3 (by rw [s1.2 c c1];exact q))) c2
   | some v=>
    refine wpAny_bind (wpAny_nextOf_list_item o0.1 o0.2 e λh2 on2 x2=>?_)
    wp_walk
    have ot:∀ q,q∈dn\/q∈rm->∀ c,c=q.it\/c=q.l->∀ o,h'.get? c=some o->h2.get? c=some o:=λq hq c hc o y=>by
     rw [x2.2 c (hc.elim (λy=>y▸(nr q hq).1) (λy=>y▸(nr q hq).2))];exact y
    refine ⟨dn++[r],rm,h2,by rw [hd];simp,rfl,rfl,?_,rfl,x2.1.trans hsz,λq hq=>?_,λq hq=>(on0 q (List.mem_cons_of_mem _ hq)).keep (ot q (.inr hq)),λc o c1 q=>?_⟩
    ·rw [List.map_append,hv];simp [e]
    ·rcases List.mem_append.1 hq with y | y
     ·exact (on1 q y).keep (ot q (.inl y))
     ·cases List.mem_singleton.1 y
      exact ⟨on2,o0.2.at λo y=>by rw [x2.2 _ (ap.ls r mr r mr)];exact y⟩
    ·rw [x2.2 c (λy=>c1 (y▸List.mem_map_of_mem mr))];exact kp c o c1 q
 ·rintro ⟨b1,b2⟩ s' ⟨dn,rm,h',hd,hx,hb,hv,rfl,hsz,on1,on0,kp⟩
  cases rm with
  | cons=>cases hx
  | nil=>
   cases hb
   rw [List.append_nil] at hd
   subst hd
   have hlv:b2.toList.length<=sizeLine:=by
    have:=congrArg List.length hv
    rw [List.length_map,List.length_map] at this
    rw [<-this,sizeLine_eq];omega
   wp_walk using wpAny_newTuple (hsz:=hlv)
   have pu:∀ c o,h'.get? c=some o->(h'.push { cls:=.type "tuple", data:=.seq b2.toList.toArray }).get? c=some o:=λc o=>Heap.get?_push_of_some _
   refine ⟨_,rfl,?_⟩
   rw [hsz]
   refine hQ b2.toList _ hv (pu _ _ (kp _ _ (λy=>?_) z1)) (λr y=>(on1 r y).keep λc _=>pu c) ?_ (by rw [Heap.size_push,hsz]) λc o c1 c2 q=>pu _ _ (kp _ _ c2 (by rw [s1.2 c c1];exact q))
   ·obtain ⟨r,y,e⟩:=List.mem_map.1 y
    exact (hr r y).1 e
   ·rw [<-hsz];exact Heap.get?_push_size _ rfl
 ·exact ⟨[],rs,h1,rfl,rfl,rfl,rfl,rfl,s1.1,λ_ y=>absurd y (List.not_mem_nil),λr y=>(on r y).keep λc hc o q=>by rw [s1.2 c (hc.elim (λe=>e▸(hr r y).1) (λe=>e▸(hr r y).2))];exact q,λ_ _ _ q=>q⟩
theorem Zhu {z TI TO T:Addr} {f1:Bool} {o:Obj} {rs:List Lane} {k:Nat} {Q:Option Value->Shared->Prop} (hh:A.in1.handled=none) (ap:Zko rs) (hz:ZeA s.heap z TI TO (rawInt T) f1) (hT:s.heap.get? T=some o) (hr:∀ r∈rs,r.it≠z/\r.l≠z)
  (hTI:s.heap.get? TI=some { cls:=.type "tuple", data:=.seq (rs.map λr=>Value.ref r.it).toArray }) (h0:rs≠[]) (hl:rs.length<=64) (on:∀ r∈rs,r.On k s.heap)
  (hQ:∀ (vs:List Value) h',rs.map (λr=>r.xs[k]?)=vs.map some->ZeA h' z TI TO (rawInt T) true->(∀ r∈rs,r.On (k+1) h')->h'.get? s.heap.objs.size=some { cls:=.type "tuple", data:=.seq vs.toArray }->h'.objs.size=s.heap.objs.size+1 ->
   (∀ c o,c≠z->c ∉ rs.map Lane.it->s.heap.get? c=some o->h'.get? c=some o)->Q (some (.ref s.heap.objs.size)) { s with heap:=h' })
  (hN:∀ h',(∃ r∈rs,r.xs[k]?=none)->(∀ c o,c≠z->c ∉ rs.map Lane.it->s.heap.get? c=some o->h'.get? c=some o)->Q none { s with heap:=h' }):wpAny (model prog w) A (pyNext (.ref z)) Q E s:=by
 have ty:s.TypeIs (.ref z) "zip" := ⟨_,hz,rfl⟩
 refine wpAny_bind (wpAny_attempt (wpAny_callSpecial?_slot ty F.slot_zip_next (wpAny_call_entry F.slot_zip_next ty F.entry_zip_next (Zht hh ap hz hT hr hTI h0 hl on ?_ ?_) (F.args_zip_next_1 _))))
 ·intro vs h' a1 a2 a3 a4 a5 a6
  wp_walk
  exact hQ vs h' a1 a2 a3 a4 a5 a6
 ·rintro h' e a1 a2 ⟨o',e1,e2⟩
  exact wpAny_bind (wpAny_isInstance ⟨o',e1,e2⟩ isSubtype_stop (wpAny_pure (hN h' a1 a2)))
def ZipSt (S z TI TO:Addr) (a b:Lane) (i:Nat) (h:Heap):Prop:=
 ((IsZip h z TI TO .none/\∃ x y,IsPair h TO x y)\/∃ (T:Addr) (f1:Bool) (o:Obj),ZeA h z TI TO (rawInt T) f1/\h.get? T=some o/\T≠z/\T≠a.it/\T≠b.it/\T≠S)/\IsPair h TI (.ref a.it) (.ref b.it)/\a.On i h/\b.On i h/\S<h.objs.size
abbrev Zap (z TI TO:Addr) (a b:Lane):Prop:=ZipApart z TI TO a.it b.it a.l b.l
theorem ZipSt.next {S z TI TO:Addr} {a b:Lane} {i:Nat} {Q:Option Value->Shared->Prop} (hh:A.in1.handled=none) (D:Zap z TI TO a b) (st:ZipSt S z TI TO a b i s.heap)
  (hQ:∀ x y h',a.xs[i]?=some x->b.xs[i]?=some y->ZipSt S z TI TO a b (i+1) h'->IsPair h' s.heap.objs.size x y->h'.objs.size=s.heap.objs.size+1->(∀ c o,c ∉ [z,TO,a.it,b.it]->s.heap.get? c=some o->h'.get? c=some o)->Q (some (.ref s.heap.objs.size)) { s with heap:=h' })
  (hN:∀ h',a.xs[i]?=none\/b.xs[i]?=none->(∀ c o,c ∉ [z,TO,a.it,b.it]->s.heap.get? c=some o->h'.get? c=some o)->Q none { s with heap:=h' }) :
  wpAny (model prog w) A (pyNext (.ref z)) Q E s:=by
 obtain ⟨st,hTI,oa,ob,lS⟩:=st
 have new:∀ c,(∃ o,s.heap.get? c=some o)->s.heap.objs.size≠c:=λc ⟨o,y⟩ e=>Nat.lt_irrefl _ (e▸Heap.lt_size y)
 have na:=new a.it ⟨_,oa.1.choose_spec.1⟩
 have nb:=new b.it ⟨_,ob.1.choose_spec.1⟩
 have four:∀ {c},c≠z->c≠TO->c≠a.it->c≠b.it->c ∉ [z,TO,a.it,b.it]:=λh1 h2 h3 h4 h=>by simp [h1,h2,h3,h4] at h
 have not4:∀ {c},c ∉ [z,TO,a.it,b.it]->c≠z/\c≠TO/\c≠a.it/\c≠b.it:=λh=>by simpa using h
 rcases st with ⟨hz,p,q,hTO⟩ | ⟨T,f1,o,hz,hT,t1,t2,t3,t4⟩
 ·have nz:=new z ⟨_,hz⟩
  cases ea:a.xs[i]? with
  | none=>exact wpAny_pyNext_zip_end hh D hz hTI hTO oa.1 ob.1 oa.2 ob.2 (.inl ea) λh' k1=>hN h' (.inl ea) λc o y=>k1 c o (not4 y).1 (not4 y).2.1 (not4 y).2.2.1 (not4 y).2.2.2
  | some x=>
   cases eb:b.xs[i]? with
   | none=>exact wpAny_pyNext_zip_end hh D hz hTI hTO oa.1 ob.1 oa.2 ob.2 (.inr eb) λh' k1=>hN h' (.inr eb) λc o y=>k1 c o (not4 y).1 (not4 y).2.1 (not4 y).2.2.1 (not4 y).2.2.2
   | some y=>
    refine wpAny_pyNext_zip_item D hz hTI hTO oa.1 ob.1 oa.2 ob.2 ea eb λh' b1 b2 b3 b4 b5 b6 k1=>hQ x y h' ea eb ⟨.inr ⟨_,_,_,b1,b5,nz,na,nb,Nat.ne_of_gt lS⟩,?_,⟨b3,oa.2.at λo=>?_⟩,⟨b4,ob.2.at λo=>?_⟩,by rw [b6];exact Nat.lt_succ_of_lt lS⟩ b5 b6 λc o y=>k1 c o (not4 y).1 (not4 y).2.1 (not4 y).2.2.1 (not4 y).2.2.2
    ·exact k1 _ _ D.TIz D.TITO D.TIi1 D.TIi2 hTI
    ·exact k1 _ o D.l1z D.l1TO D.l1i1 D.l1i2
    ·exact k1 _ o D.l2z D.l2TO D.l2i1 D.l2i2
 ·refine Zhu (rs:=[a,b]) hh ⟨?_,?_⟩ hz hT ?_ hTI (by simp) (by simp) (k:=i) (λr hr=>?_) ?_ ?_
  ·simpa using D.i12
  ·simpa using ⟨⟨D.l1i1,D.l2i1⟩,D.l1i2,D.l2i2⟩
  ·simpa using ⟨⟨D.i1z,D.l1z⟩,D.i2z,D.l2z⟩
  ·simp only [List.mem_cons,List.not_mem_nil,or_false] at hr
   rcases hr with rfl | rfl
   ·exact oa
   ·exact ob
  ·intro vs h' e b1 on b5 b6 k1
   match vs,e with
   | [x,y],e=>
    simp only [List.map_cons,List.map_nil,List.cons.injEq,and_true] at e
    refine hQ x y h' e.1 e.2 ⟨.inr ⟨T,true,o,b1,k1 _ _ t1 (by simp [t2,t3]) hT,t1,t2,t3,t4⟩,k1 _ _ D.TIz (by simp [D.TIi1,D.TIi2]) hTI,on a (by simp),on b (by simp),by rw [b6];exact Nat.lt_succ_of_lt lS⟩ b5 b6 λc o y=>k1 c o (not4 y).1 (by simp [(not4 y).2.2.1,(not4 y).2.2.2])
   | [],e=>simp at e
   | [_],e=>simp at e
   | _::_::_::_,e=>simp at e
  ·intro h' e k1
   refine hN h' (by simpa using e) λc o y=>k1 c o (not4 y).1 (by simp [(not4 y).2.2.1,(not4 y).2.2.2])
theorem ZipSt.aside {S z TI TO:Addr} {a b:Lane} {i:Nat} {h:Heap} (f:Obj->Obj) (hS:S ∉ [z,TI,TO,a.it,b.it,a.l,b.l]) (st:ZipSt S z TI TO a b i h):ZipSt S z TI TO a b i (h.update S f):=by
 obtain ⟨st,hTI,oa,ob,lS⟩:=st
 have kp:∀ c o,c≠S->h.get? c=some o->(h.update S f).get? c=some o:=λc o hc y=>(Heap.get?_update_other _ _ (Ne.symm hc)).trans y
 have k1:∀ c,c∈[z,TI,TO,a.it,b.it,a.l,b.l]->∀ o,h.get? c=some o->(h.update S f).get? c=some o:=λc hc o=>kp c o λe=>hS (e▸hc)
 refine ⟨st.imp (λ⟨hz,x,y,p⟩=>⟨k1 z (by simp) _ hz,x,y,k1 TO (by simp) _ p⟩) λ⟨T,f1,o,hz,hT,t1,t2,t3,t4⟩=>⟨T,f1,o,k1 z (by simp) _ hz,kp T o t4 hT,t1,t2,t3,t4⟩,k1 TI (by simp) _ hTI,oa.keep λc hc=>k1 c (by rcases hc with rfl | rfl <;> simp),
  ob.keep λc hc=>k1 c (by rcases hc with rfl | rfl <;> simp),by rw [Heap.size_update];exact lS⟩
end
end L2
namespace L2
open PySem PySem.Spec PyProof.Rows
theorem HOk.stayOn {P:Program} {w:World} {H:Hp} {h h':Heap} (x:HOk P w H h) (k:∀ b u o,H b=some u->h.get? b=some o->h'.get? b=some o):HOk P w H h':=λa o e=>
 (x a o e).stay (λb u hb q=>hb.elim (λz=>k b o u (by rw [z];exact e) q) (λz=>k b _ u z q)) (λ_ q=>q) λ_ _ q=>q
def ZL (P:Program) (w:World) (H0:Hp) (h0:Heap) (z TO i1 i2 S:Addr) (ns ms:List Int) (i:Nat) (h:Heap) (acc:Array Value):Prop:=
 ∃ (Hj:Hp) (vs:List V),Same H0 Hj/\(∀ b o,Hj b=some o->H0 b=none->h0.objs.size<=b)/\(Hj z=none/\Hj TO=none/\Hj i1=none/\Hj i2=none/\Hj S=none)/\HOk P w Hj h/\Vals vs acc.toList/\Prs Hj vs ((ns.zip ms).take i) /\
  (∀ b o,h0.get? b=some o->h.get? b=some o)/\h0.objs.size<=h.objs.size
section
variable {P:Program} {w:World} {H0:Hp} {h0:Heap} {z TO i1 i2 S:Addr} {ns ms:List Int} {i:Nat} {h h':Heap} {acc:Array Value}
theorem ZL.put (L:ZL P w H0 h0 z TO i1 i2 S ns ms i h acc) (hS:h0.objs.size<=S) (hk:∀ b o,b≠S->h.get? b=some o->h'.get? b=some o) (hsz:h.objs.size<=h'.objs.size):ZL P w H0 h0 z TO i1 i2 S ns ms i h' acc:=by
 obtain ⟨Hj,vs,a1,a2,a3,a4,a5,a6,a7,a8⟩:=L
 refine ⟨Hj,vs,a1,a2,a3,a4.stayOn λb u o e q=>hk b o (λy=>?_) q,a5,a6,λb o e=>hk b o (Nat.ne_of_lt (Nat.lt_of_lt_of_le (Heap.lt_size e) hS)) (a7 b o e),Nat.le_trans a8 hsz⟩
 rw [y,a3.2.2.2.2] at e
 cases e
theorem ZL.next {a b:Int} {x y:Value} (L:ZL P w H0 h0 z TO i1 i2 S ns ms i h acc) (hlt:z<h.objs.size/\TO<h.objs.size/\i1<h.objs.size/\i2<h.objs.size/\S<h.objs.size) (hge:h0.objs.size<=z/\h0.objs.size<=TO/\h0.objs.size<=i1/\h0.objs.size<=i2)
  (ha:ns[i]?=some a) (hb:ms[i]?=some b) (rx:RelV (.int a) x) (ry:RelV (.int b) y) (hT:IsPair h' h.objs.size x y) (hsz:h'.objs.size=h.objs.size+1)
  (hk:∀ c o,c≠z->c≠TO->c≠i1->c≠i2->h.get? c=some o->h'.get? c=some o):ZL P w H0 h0 z TO i1 i2 S ns ms (i+1) h' (acc.push (.ref h.objs.size)):=by
 obtain ⟨Hj,vs,a1,a2,⟨f1,f2,f3,f4,f5⟩,a4,a5,a6,a7,a8⟩:=L
 obtain ⟨l1,l2,l3,l4,l5⟩:=hlt
 obtain ⟨g1,g2,g3,g4⟩:=hge
 have hn:Hj h.objs.size=none:=a4.fresh (Nat.le_refl _)
 have nn:∀ c o,Hj c=some o->c≠z/\c≠TO/\c≠i1/\c≠i2:=λc o e=>⟨λq=>(by rw [q,f1] at e;cases e),λq=>(by rw [q,f2] at e;cases e),λq=>(by rw [q,f3] at e;cases e),λq=>(by rw [q,f4] at e;cases e)⟩
 have b1:HOk P w Hj h':=a4.stayOn λc u o e q=>hk c o (nn c u e).1 (nn c u e).2.1 (nn c u e).2.2.1 (nn c u e).2.2.2 q
 have sm:Same Hj (upd Hj h.objs.size (.tup [.int a,.int b])):=Same.new hn
 refine ⟨upd Hj h.objs.size (.tup [.int a,.int b]),vs++[.ref h.objs.size],a1.trans sm,λc o e n=>?_,⟨?_,?_,?_,?_,?_⟩,λc o e=>?_,?_,?_,λc o e=>?_,by omega⟩
 ·by_cases hc:c=h.objs.size
  ·rw [hc];exact a8
  ·rw [Zar hc] at e;exact a2 c o e n
 ·rw [Zar (Nat.ne_of_lt l1)];exact f1
 ·rw [Zar (Nat.ne_of_lt l2)];exact f2
 ·rw [Zar (Nat.ne_of_lt l3)];exact f3
 ·rw [Zar (Nat.ne_of_lt l4)];exact f4
 ·rw [Zar (Nat.ne_of_lt l5)];exact f5
 ·by_cases hc:c=h.objs.size
  ·subst hc
   rw [Zab] at e;cases e
   exact ⟨by show 2<=sizeLine;decide,[x,y],.cons rx (.cons ry .nil),⟨_,hT,rfl,_,rfl⟩⟩
  ·rw [Zar hc] at e
   exact (b1 c o e).stay (λ_ _ _ q=>q) (λd q=>sm _ _ q) λd xs q=>sm _ _ q
 ·rw [Array.toList_push]
  exact a5.append (.cons rfl .nil)
 ·have e:(ns.zip ms)[i]?=some (a,b):=by
   rw [List.getElem?_zip_eq_some]
   exact ⟨ha,hb⟩
  rw [List.take_add_one,e]
  exact (a6.same sm).snoc Zab
 ·have hc:=Heap.lt_size e
  exact hk c o (Nat.ne_of_lt (Nat.lt_of_lt_of_le hc g1)) (Nat.ne_of_lt (Nat.lt_of_lt_of_le hc g2)) (Nat.ne_of_lt (Nat.lt_of_lt_of_le hc g3)) (Nat.ne_of_lt (Nat.lt_of_lt_of_le hc g4)) (a7 c o e)
end
abbrev Zhv (h:Heap) (S:Addr) (acc:Array Value) (c:Nat):Prop:=h.get? S=some { cls:=.type "list", dict:=none,data:=.seq acc c,slots:=#[] }
structure Fed (prog:Program) (w:World) (A:Around) (I S:Addr) (n:Nat) (St:Nat->Heap->Array Value->Prop) (Fi:Heap->Array Value->Prop):Prop where
 give:∀ i (s:Shared) acc (Q:Option Value->Shared->Prop) E,i<n->St i s.heap acc ->
  (∀ v h',(∀ o,s.heap.get? S=some o->h'.get? S=some o)->St (i+1) h' (acc.push v)->Q (some v) { s with heap:=h' })->wpAny (model prog w) A (pyNext (.ref I)) Q E s
 stop:∀ (s:Shared) acc (o:Obj) (Q:Option Value->Shared->Prop) E,s.heap.get? S=some o->St n s.heap acc->(∀ h',(∀ o,s.heap.get? S=some o->h'.get? S=some o)->Fi h' acc->Q none { s with heap:=h' })->wpAny (model prog w) A (pyNext (.ref I)) Q E s
 aside:∀ i h f acc,St i h acc->St i (h.update S f) acc
section
variable {prog:Program} {w:World} {A:Around} {I S:Addr} {n:Nat} {St:Nat->Heap->Array Value->Prop} {Fi:Heap->Array Value->Prop}
theorem Fed.loop (W:Fed prog w A.in1 I S n St Fi) (hn:n<=1000) (res:Value) {R:Result->Shared->Prop}:∀ (k:Nat) (s:Shared) (acc:Array Value) (c:Nat),acc.size+k=n->St acc.size s.heap acc->Zhv s.heap S acc c ->
  (∀ h' acc' c',acc'.size=n->Fi h' acc'->Zhv h' S acc' c'->R (.ok (.ret res)) { s with heap:=h' })->codeAny (model prog w) A (.builtin "list.extend.loop" ⟨[.ref S,.ref I,res],[]⟩) R s
 | 0,s,acc,c,e,st,hS,hR=>codeAny_builtin F.entry_extend_loop <| (Around.under_plainId F.plain_extend_loop _)▸wpAny_bind (W.stop s acc _ _ _ hS (by rw [Nat.add_zero] at e;exact e▸st) λh' k1 f=>wpAny_pure (hR h' acc c e f (k1 _ hS)))
 | k+1,s,acc,c,e,st,hS,hR=>codeAny_builtin F.entry_extend_loop <| (Around.under_plainId F.plain_extend_loop _)▸wpAny_bind (W.give _ s acc _ _ (by omega) st λv h' k1 st1=>by
   have h16:=sizeLine_eq
   have hS1:=k1 _ hS
   refine wpAny_bind (wpAny_updateSeq (s:={ s with heap:=h' }) (f:=(·.push v)) hS1 rfl (wpAny_pure ⟨plainId_quiet F.plain_extend_loop _,?_⟩) (by omega) (by rw [Array.size_push];omega))
   have es:acc.size+1=(acc.push v).size:=(Array.size_push ..).symm
   exact W.loop hn res k _ (acc.push v) _ (by omega) (W.aside _ _ _ _ (es▸st1)) (Heap.get?_update_self _ hS1 rfl) hR)
end
section
variable {prog:Program} {w:World} {A:Around} {E:Value->Shared->Prop} {s:Shared}
namespace ZF
theorem no_len:typeLookup (.type "zip") "__len__" = pure none:=by rw [typeLookup_type,builtinLookup_eq_fast];kernel_rfl
theorem no_hint:typeLookup (.type "zip") "__length_hint__" = pure none:=by rw [typeLookup_type,builtinLookup_eq_fast];kernel_rfl
end ZF
theorem Zhw {z TI TO:Addr} {f0:Value} {n:Nat} {St:Nat->Heap->Array Value->Prop} {Fi:Heap->Array Value->Prop} {Q:Value->Shared->Prop} (hz:IsZip s.heap z TI TO f0) (W:Fed prog w A.in1.in1 z s.heap.objs.size n St Fi) (hn:n<=1000)
  (st:St 0 (s.heap.push { cls:=.type "list", data:=.seq #[] }) #[])
  (hQ:∀ h' acc c,acc.size=n->Fi h' acc->Zhv h' s.heap.objs.size acc c->Q (.ref s.heap.objs.size) { s with heap:=h' }):wpAny (model prog w) A (call (.type "list") [.ref z]) Q E s:=by
 have hS:Zhv (s.heap.push { cls:=.type "list", data:=.seq #[] }) s.heap.objs.size #[] 0:=Heap.get?_push_size _ rfl
 have hz1:IsZip (s.heap.push { cls:=.type "list", data:=.seq #[] }) z TI TO f0:=Heap.get?_push_of_some _ hz
 have nz:s.heap.objs.size≠z:=λe=>Nat.lt_irrefl _ (e▸Heap.lt_size hz)
 refine callType_codes F.called_list (F.typeCall_list_1 _) F.entry_list_init (code_list_new (.ref z) (Q₁:=λv t=>v=.ref s.heap.objs.size/\t.heap=s.heap.push { cls:=.type "list", data:=.seq #[] }/\t={ s with heap:=t.heap }) ⟨rfl,rfl,rfl⟩) ?_
 rintro _ t ⟨rfl,ht,he⟩
 rw [he,ht]
 clear he ht t
 refine ⟨⟨_,hS,rfl⟩,F.args_list_init_2 _ _,?_⟩
 generalize s.heap.push { cls:=.type "list", data:=.seq #[] }=h1 at *
 generalize s.heap.objs.size=S at *
 wp_walk
 rw [if_neg (by simp [Builtin.List.listSameRef,nz])]
 have hz2:IsZip (h1.update S (Obj.mapSeq λ_=>#[])) z TI TO f0:=(Heap.get?_update_other _ _ nz).trans hz1
 have hS2:=Heap.get?_update_self (Obj.mapSeq λ_=>(#[]:Array Value)) hS rfl
 have st2:=W.aside 0 h1 (Obj.mapSeq λ_=>#[]) _ st
 generalize h1.update S (Obj.mapSeq λ_=>#[])=h2 at *
 refine wpAny_bind (wpAny_pyIter_zip hz2 ?_)
 have nl:=ZF.no_len
 have nh:=ZF.no_hint
 have ty:Shared.TypeIs { s with heap:=h2 } (.ref z) "zip" := ⟨_,hz2,rfl⟩
 wp_walk
 exact ⟨plainId_quiet F.plain_extend_loop _,W.loop hn .none n _ #[] _ (by simp) (W.aside _ _ _ _ (W.aside _ _ _ _ st2)) (Heap.get?_update_self _ (Heap.get?_update_self _ hS2 rfl) rfl) λh' acc c e f l=>⟨rfl,hQ h' acc c e f l⟩⟩
theorem Zi1 {P:Program} {H0:Hp} {h0:Heap} {z TI TO S:Addr} {a b:Lane} {ns ms:List Int} (hh:A.in1.handled=none) (D:Zap z TI TO a b) (hS:S ∉ [z,TI,TO,a.it,b.it,a.l,b.l]) (hlt:z<S/\TO<S/\a.it<S/\b.it<S)
  (hge:h0.objs.size<=z/\h0.objs.size<=TO/\h0.objs.size<=a.it/\h0.objs.size<=b.it) (hgS:h0.objs.size<=S) (vx:Vals (ns.map V.int) a.xs.toList) (vy:Vals (ms.map V.int) b.xs.toList) :
  Fed prog w A z S (min ns.length ms.length) (λi h acc=>ZipSt S z TI TO a b i h/\ZL P w H0 h0 z TO a.it b.it S ns ms i h acc) (ZL P w H0 h0 z TO a.it b.it S ns ms (min ns.length ms.length)):=by
 have S4:S ∉ [z,TO,a.it,b.it]:=λh=>hS (by simp only [List.mem_cons,List.not_mem_nil,or_false] at h ⊢;rcases h with h | h | h | h <;> simp [h])
 have item:∀ {ls:List Int} {r:Lane} {i:Nat},Vals (ls.map V.int) r.xs.toList->(hi:i<ls.length)->∃ u,r.xs[i]?=some u/\RelV (.int ls[i]) u:=λ{ls r i} v hi=>by
  obtain ⟨u,g,x⟩:=v.get (show (ls.map V.int)[i]?=some (.int ls[i]) by rw [List.getElem?_map,List.getElem?_eq_getElem hi];rfl)
  exact ⟨u,by simpa using g,x⟩
 have last:∀ {ls:List Int} {r:Lane} {i:Nat} {u:Value},Vals (ls.map V.int) r.xs.toList->r.xs[i]?=some u->i<ls.length:=λ{ls r i u} v e=>by
  have l:=v.length
  rw [List.length_map] at l
  rw [l,Array.length_toList]
  exact (Array.getElem?_eq_some_iff.1 e).1
 have out:∀ {c},c≠z->c≠TO->c≠a.it->c≠b.it->c ∉ [z,TO,a.it,b.it]:=λh1 h2 h3 h4 h=>by simp [h1,h2,h3,h4] at h
 refine ⟨λi s acc Q E hi ⟨st,L⟩ hQ=>?_,λs acc oS Q E eS ⟨st,L⟩ hQ=>?_,λi h f acc ⟨st,L⟩=>⟨st.aside f hS,L.put hgS (λc o hc y=>(Heap.get?_update_other _ _ (Ne.symm hc)).trans y) (Nat.le_of_eq (Heap.size_update ..).symm)⟩⟩
 ·obtain ⟨x,ex,rx⟩:=item (i:=i) vx (by omega)
  obtain ⟨y,ey,ry⟩:=item (i:=i) vy (by omega)
  have lS:=st.2.2.2.2
  refine st.next hh D (λx' y' h' fx fy st' p sz k1=>?_) λh' e=>?_
  ·rw [ex] at fx;rw [ey] at fy
   cases fx;cases fy
   exact hQ _ h' (λo=>k1 S o S4) ⟨st',L.next ⟨Nat.lt_trans hlt.1 lS,Nat.lt_trans hlt.2.1 lS,Nat.lt_trans hlt.2.2.1 lS,Nat.lt_trans hlt.2.2.2 lS,lS⟩ hge (List.getElem?_eq_getElem (by omega)) (List.getElem?_eq_getElem (by omega)) rx ry p sz λc o h1 h2 h3 h4=>k1 c o (out h1 h2 h3 h4)⟩
  ·rw [ex,ey] at e;simp at e
 ·refine st.next hh D (λx' y' h' fx fy=>?_) λh' e k1=>hQ h' (λo=>k1 S o S4) ?_
  ·have:=last vx fx;have:=last vy fy;omega
  ·obtain ⟨Hj,vs,a1,a2,a3,a4,a5,a6,a7,a8⟩:=L
   have old:∀ c,h0.objs.size > c->c ∉ [z,TO,a.it,b.it]:=λc hc=>out (Nat.ne_of_lt (Nat.lt_of_lt_of_le hc hge.1)) (Nat.ne_of_lt (Nat.lt_of_lt_of_le hc hge.2.1)) (Nat.ne_of_lt (Nat.lt_of_lt_of_le hc hge.2.2.1)) (Nat.ne_of_lt (Nat.lt_of_lt_of_le hc hge.2.2.2))
   have ours:∀ c o,Hj c=some o->c ∉ [z,TO,a.it,b.it]:=λc o y h=>by
    simp only [List.mem_cons,List.not_mem_nil,or_false] at h
    rcases h with rfl | rfl | rfl | rfl <;> simp [a3] at y
   exact ⟨Hj,vs,a1,a2,a3,a4.stayOn λc u o e y=>k1 c o (ours c u e) y,a5,a6,λc o y=>k1 c o (old c (Heap.lt_size y)) (a7 c o y),Nat.le_of_lt (Nat.lt_of_le_of_lt hgS (Heap.lt_size (k1 S oS S4 eS)))⟩
end
section
variable {X:Cx}
theorem Zgr:bootBuiltins "zip" = some (.type "zip"):=by first | rfl | decide +kernel
def Zhx (K:PySem.W.Frag) (ta:TA):TE:=λσ H Q=>ta σ H λvs H1=>∃ (l1 l2:Addr) (ns ms:List Int),vs=[.ref l1,.ref l2]/\SqL K H1 l1 (ns.map V.int)/\SqL K H1 l2 (ms.map V.int)/\ns.length<=1000 /\
 ∀ (S:Addr) (ws:List V) (H':Hp),Same H1 H'->H1 S=none->H' S=some (.lst ws)->Prs H' ws (ns.zip ms)->Q (.ref S) H'
theorem Zfv {a b:Expr} {ta:TA} {p p2 pos pos2:Pos} (K:PySem.W.Frag) (hc:X.calm=true) (hg:Gl X "list") (hm:X.mg "list" = none) (hg2:Gl X "zip") (hm2:X.mg "zip" = none) (ha:PA X [a,b] ta) (hK:X.K=K:=by rfl)
  (hs:starEach [Expr.Call (.Name "zip" p2) [a,b] [] pos2] X.env=[(false,eval (.Call (.Name "zip" p2) [a,b] [] pos2) X.env)]:=by rfl)
  (hs2:starEach [a,b] X.env=(false,eval a X.env)::starEach [b] X.env:=by rfl) (hp2:(backTo pos2 (starEach [b] X.env)).any (·.1)=false:=by rfl) :
  PE X (.Call (.Name "list" p) [.Call (.Name "zip" p2) [a,b] [] pos2] [] pos) (Zhx K ta):=by
 subst hK
 intro pins s σ H Q I h
 refine wpAny_Call_Name_kw (ZcA I hg hm ZbP (PyProof.Rows.callWith_type1 ?_ hs rfl) (by decide) (by decide))
 rw [hs]
 refine Calls.spliced_cons ?_
 refine wpAny_Call_Name_kw (ZcA I hg2 hm2 Zgr (PyProof.Rows.callWith_type1 (thn (ha pos2 pins s σ H _ I h) λus s1 ⟨vs,H1,I1,r1,q1⟩=>?_) hs2 hp2) (by decide) (by decide))
 obtain ⟨l1,l2,ns,ms,rfl,hq1,hq2,hn,q⟩:=q1
 obtain ⟨u1,u2,rfl,ru1,ru2⟩:=r1.two
 cases ru1
 cases ru2
 obtain ⟨xs,v1,p1,hz1⟩:=I1.list hq1
 obtain ⟨ys,v2,p2',hz2⟩:=I1.list hq2
 refine call_zip_2 p1.isList p2'.isList λh' hz hTI hTO hi1 hi2 hsz hk=>?_
 refine Calls.spliced_nil ?_
 have lt1:l1<s1.heap.objs.size:=by obtain ⟨_,e,_⟩:=p1.isList;exact Heap.lt_size e
 have lt2:l2<s1.heap.objs.size:=by obtain ⟨_,e,_⟩:=p2'.isList;exact Heap.lt_size e
 have D:ZipApart (s1.heap.objs.size+4) (s1.heap.objs.size+2) (s1.heap.objs.size+3) s1.heap.objs.size (s1.heap.objs.size+1) l1 l2:=by
  constructor <;> (first | exact Nat.ne_of_lt (by omega) | exact Nat.ne_of_gt (by omega) | (apply Nat.ne_of_lt;exact Nat.lt_of_lt_of_le (by assumption) (by omega)))
 have l1x:=v1.length
 rw [List.length_map] at l1x
 have fr:∀ b,s1.heap.objs.size<=b->H1 b=none:=λb hb=>I1.hok.fresh hb
 have hS:h'.objs.size ∉ [s1.heap.objs.size+4,s1.heap.objs.size+2,s1.heap.objs.size+3,s1.heap.objs.size,s1.heap.objs.size+1,l1,l2]:=by
  simp only [List.mem_cons,List.not_mem_nil,or_false]
  have g1:l1<h'.objs.size:=by rw [hsz];exact Nat.lt_of_lt_of_le lt1 (by omega)
  have g2:l2<h'.objs.size:=by rw [hsz];exact Nat.lt_of_lt_of_le lt2 (by omega)
  rintro (e | e | e | e | e | e | e) <;> first | omega | exact Nat.ne_of_gt g1 e | exact Nat.ne_of_gt g2 e
 have up:∀ b o,s1.heap.get? b=some o->(h'.push { cls:=.type "list", data:=.seq #[] }).get? b=some o:=λb o e=>Heap.get?_push_of_some _ (hk b o e)
 have pu:∀ b o,h'.get? b=some o->(h'.push { cls:=.type "list", data:=.seq #[] }).get? b=some o:=λb o e=>Heap.get?_push_of_some _ e
 have l2x:=v2.length
 rw [List.length_map] at l2x
 refine Zhw hz (Zi1 (P:=X.prog) (H0:=H1) (h0:=s1.heap) (a:=⟨s1.heap.objs.size,l1,xs.toArray⟩) (b:=⟨s1.heap.objs.size+1,l2,ys.toArray⟩) (I1.ok.hd hc) D hS ⟨by show _<h'.objs.size;omega,by show _<h'.objs.size;omega,by show s1.heap.objs.size<h'.objs.size;omega,by show s1.heap.objs.size+1<h'.objs.size;omega⟩
  ⟨by omega,by omega,Nat.le_refl _,by show _<=s1.heap.objs.size+1;omega⟩ (by show _<=h'.objs.size;omega) v1 v2) (by omega)
  ⟨⟨.inl ⟨pu _ _ hz,_,_,pu _ _ hTO⟩,pu _ _ hTI,⟨hi1.at λo=>pu _ o,p1.isList.at λo=>up _ o⟩,⟨hi2.at λo=>pu _ o,p2'.isList.at λo=>up _ o⟩,by rw [Heap.size_push];exact Nat.lt_succ_self _⟩,
   H1,[],Same.refl _,λb o e n=>(by rw [n] at e;cases e),⟨fr _ (by omega),fr _ (by omega),fr _ (Nat.le_refl _),fr _ (by show _<=s1.heap.objs.size+1;omega),fr _ (by show _<=h'.objs.size;omega)⟩,I1.hok.kept λb u e=>up b u e,.nil,.nil,up,by rw [Heap.size_push];show _<=h'.objs.size+1;omega⟩ ?_
 ·intro h2 acc c z2 L e2
  obtain ⟨Hj,ws,a1,a2,⟨f1,f2,f3,f4,f5⟩,a4,a5,a6,a7,a8⟩:=L
  have h16:(16777216:Nat)=sizeLine:=sizeLine_eq.symm
  have hzl:(ns.zip ms).take (min ns.length ms.length)=ns.zip ms:=List.take_of_length_le (by rw [List.length_zip];omega)
  rw [hzl] at a6
  have hwl:ws.length<=sizeLine:=by rw [a5.length,Array.length_toList,z2];omega
  have sm:Same Hj (upd Hj h'.objs.size (.lst ws)):=Same.new f5
  have S1:=a1.trans sm
  refine ⟨.ref h'.objs.size,upd Hj h'.objs.size (.lst ws),I1.un (h':=h2) (t':=s1.toks) ⟨λb o e _ _ _=>a7 b o e,λb o e _ _ _=>⟨o.slots,a7 b o e⟩,λb o e n _=>?_,λb o e _=>⟨o,a7 b o e⟩,λb ys e=>S1 _ _ e,λb o u e=>S1 _ _ e,λb ps e=>⟨#[],by rw [S1 _ _ e];simp⟩⟩ (λb o e=>?_),rfl,?_⟩
  ·have hb:=Heap.lt_size e
   rw [Zar (Nat.ne_of_lt (Nat.lt_of_lt_of_le hb (show s1.heap.objs.size<=h'.objs.size by omega)))]
   cases z:Hj b with
   | none=>rfl
   | some u=>exact absurd (Nat.lt_of_lt_of_le hb (a2 b u z n)) (Nat.lt_irrefl _)
  ·by_cases hb:b=h'.objs.size
   ·subst hb
    rw [Zab] at e;cases e
    exact ⟨hwl,acc.toList,c,a5,e2⟩
   ·rw [Zar hb] at e
    exact (a4 b o e).stay (λ_ _ _ q=>q) (λd q=>sm _ _ q) λd xs q=>sm _ _ q
  ·refine q _ ws _ S1 ?_ Zab (a6.same sm)
   exact I1.hok.fresh (by omega)
end
end L2
namespace L2
open PySem PySem.Spec PyProof.Rows
theorem Zby:bootBuiltins "min" = some (.builtin "min"):=by first | rfl | decide +kernel
section
variable {X:Cx}
theorem ZmB (K:PySem.W.Frag) (hc:X.calm=true) (h:X.K=K:=by rfl):Zbc X (.builtin "min") (λxs H Q=>∃ (p:Addr) (ns:List Int),xs=[.ref p]/\SqL K H p (ns.map V.int)/\ns≠[]/\∀ m,m∈ns->(∀ n∈ns,m<=n)->Q (.int m) H):=by
 subst h
 intro pins s σ H xs us Q I rv h
 obtain ⟨p,ns,rfl,hq,hne,q⟩:=h
 obtain ⟨u,rfl,ru⟩:=rv.one
 cases ru
 obtain ⟨its,r,pl,hz⟩:=I.list hq
 have hh:X.A.in1.handled=none:=I.ok.hd hc
 have hl:=r.length
 rw [List.length_map] at hl
 have hpos:0<ns.length:=List.length_pos_iff.mpr hne
 obtain ⟨o,eo,_⟩:=id pl.isList
 have hlt:p<s.heap.objs.size:=Heap.lt_size eo
 have hval:∀ (i:Nat) (v:Value),its.toArray[i]?=some v->∃ t,v=Value.int (ns.getD i 0) t:=λi v hv=>by
  have hv':its[i]?=some v:=by simpa using hv
  have hi:i<its.length:=(List.getElem?_eq_some_iff.mp hv').1
  have ex:(ns.map V.int)[i]?=some (.int (ns[i]'(by omega))):=by rw [List.getElem?_map,List.getElem?_eq_getElem (by omega)];rfl
  obtain ⟨u,gu,ru⟩:=r.get ex
  rw [gu] at hv'
  cases hv'
  obtain ⟨t,rfl⟩:=ru
  exact ⟨t,by rw [List.getD_eq_getElem?_getD,List.getElem?_eq_getElem (by omega)];rfl⟩
 refine call_min_walk (wpAny_pyIter_list pl.isList ?_)
 refine ⟨s.heap.objs.size,_,_,_,_,_,_,rfl,Walks.list hh s.heap.objs.size p (Nat.ne_of_lt hlt) its.toArray,⟨⟨_,Heap.get?_push_size _ rfl,rfl,rfl⟩,pl.isList.at λo e=>Heap.get?_push_of_some _ e⟩,?_,by rw [List.size_toArray];omega,CmpOf.ints_lt (λi=>ns.getD i 0) hval,λv h' tk hv hk=>?_⟩
 ·intro b hb
  have e:b=s.heap.objs.size\/b=p:=by simpa using hb
  have hsz:(s.heap.push { cls:=.type "list_iterator", data:=.fields #[.ref p,.int 0 0] }).objs.size=s.heap.objs.size+1:=Heap.size_push ..
  show b<(s.heap.push { cls:=.type "list_iterator", data:=.fields #[.ref p,.int 0 0] }).objs.size
  rw [hsz]
  rcases e with e | e
  ·rw [e];exact Nat.lt_succ_self _
  ·rw [e];exact Nat.lt_succ_of_lt hlt
 ·obtain ⟨t,rfl⟩:=hval _ v hv
  have hA:=argBest_lt (λi=>ns.getD i 0) (its.toArray.size-1)
  have hsz:its.toArray.size=ns.length:=by rw [List.size_toArray];exact hl.symm
  generalize hg:argBest (λi j=>decide (ns.getD i 0<ns.getD j 0)) (its.toArray.size-1)=g at hA ⊢
  have hg1:g<ns.length:=by omega
  have eg:ns.getD g 0=ns[g]:=by rw [List.getD_eq_getElem?_getD,List.getElem?_eq_getElem hg1];rfl
  refine ⟨.int (ns.getD g 0),H,I.kept λb o e'=>hk b o ?_ (Heap.get?_push_of_some _ e'),⟨t,rfl⟩,q _ (by rw [eg];exact List.getElem_mem hg1) λn hn=>?_⟩
  ·intro z
   have:b=s.heap.objs.size:=by simpa using z
   exact absurd (Heap.lt_size e') (by rw [this];exact Nat.lt_irrefl _)
  ·obtain ⟨j,hj,rfl⟩:=List.getElem_of_mem hn
   have:=hA.2 j (by omega)
   have ej:ns.getD j 0=ns[j]:=by rw [List.getD_eq_getElem?_getD,List.getElem?_eq_getElem hj];rfl
   rw [<-ej]
   exact this
end
theorem Zhy {K:PySem.W.Frag} {a:Addr} {xs:List V} {g:TG} {tb:TS} {D:Ends} {σ:St} {H:Hp} (Pv:Nat->St->Hp->Prop) (h0:Pv 0 σ H) (hl:∀ i σ H,i<=xs.length->Pv i σ H->SqL K H a xs)
  (hs:∀ i x σ H T,xs[i]?=some x->Pv i σ H->H T=none->g (.ref T) σ (upd H T (.tup [.int (i:Nat),x])) λσ2 H2=>tb { D with nx:=Pv (i+1),ct:=Pv (i+1),bk:=D.nx } σ2 H2) (hd:∀ σ H,Pv xs.length σ H->D.nx σ H) :
  ∃ W:Nat->Nat->St->Hp->Prop,(∃ m,W 0 m σ H)/\∀ i m σ H,W i m σ H ->
   ((Ite K a).stop i H/\D.nx σ H)\/((Ite K a).go i H/\∃ N:St->Hp->Prop,(∀ σ' H',N σ' H'->∃ m',m'<m/\W (i+1) m' σ' H')/\∀ x H',(Ite K a).yld i H x H'->g x σ H' λσ2 H2=>tb { D with nx:=N,ct:=N,bk:=D.nx } σ2 H2):=by
 refine ⟨λi m σ H=>m=xs.length-i/\i<=xs.length/\Pv i σ H,⟨xs.length,by simp,Nat.zero_le _,h0⟩,?_⟩
 rintro i m σ H ⟨rfl,hi,p⟩
 have q:=hl i σ H hi p
 by_cases hlt:i<xs.length
 ·refine .inr ⟨⟨xs,xs[i],q,by simp [hlt]⟩,Pv (i+1),λσ' H' p'=>⟨xs.length-(i+1),by omega,rfl,hlt,p'⟩,λx H' y=>?_⟩
  obtain ⟨T,y',rfl,hT,rfl,hy⟩:=y
  exact hs i y' σ H T (hy xs q) p hT
 ·have e:i=xs.length:=by omega
  subst e
  exact .inl ⟨⟨xs,q,Nat.le_refl _⟩,hd σ H p⟩
def Znf (lo:Int) (n:Nat):It:=⟨λi _=>i<n,λi H x H'=>H'=H/\x=.int (lo-i),λi _=>n<=i⟩
section
variable {X:Cx} {tg:Expr}
def Zng (ta:TA):TI:=λσ H R=>ta σ H λvs H1=>∃ i j:Int,vs=[.int i,.int j,.int (-1)]/\(-1000<=i/\i<1000/\-1000<=j/\j<1000)/\R (Znf i (i-j).toNat) H1
end
theorem ZdA (its:List Value):∀ m:Nat,m<=its.length->((List.range m).map λ(k:Nat)=>((its.length:Int)-1+(-1) * (k:Int)).toNat).filterMap (its.toArray[·]?)=(its.drop (its.length-m)).reverse
 | 0,_=>by simp
 | m+1,h=>by
  have ih:=ZdA its m (by omega)
  have hi:its.length-(m+1)<its.length:=by omega
  have e1:((its.length:Int)-1+(-1) * (m:Int)).toNat=its.length-(m+1):=by omega
  rw [List.range_succ,List.map_append,List.filterMap_append,ih,List.map_cons,List.map_nil,e1]
  rw [List.drop_eq_getElem_cons hi,show its.length-(m+1)+1=its.length-m by omega,List.reverse_cons]
  congr 1
  have e2:its.toArray[its.length-(m+1)]?=some its[its.length-(m+1)]:=by simp [hi]
  rw [List.filterMap_cons,e2]
  rfl
theorem ZdB (its:List Value):slicePick its.toArray none none (some (-1))=its.reverse.toArray:=by
 unfold slicePick sliceBounds sliceRange
 simp only [Option.getD_some,List.size_toArray,show ¬ ((-1:Int) > 0) by decide,if_false]
 have e:((if ((its.length:Int)-1 > -1) then (((its.length:Int)-1 - -1 - -1-1) / - -1) else 0:Int)).toNat=its.length:=by
  rw [show (- -1:Int)=1 by decide,Int.ediv_one]
  split <;> omega
 rw [e,ZdA its its.length (Nat.le_refl _),Nat.sub_self,List.drop_zero]
theorem Zda (its:List Value):slicePick its.toArray none (some 0) (some (-1))=(its.drop 1).reverse.toArray:=by
 unfold slicePick sliceBounds sliceRange
 simp only [Option.getD_some,List.size_toArray,show ¬ ((-1:Int) > 0) by decide,show ¬ ((0:Int)<0) by decide,if_false]
 have e:((if ((its.length:Int)-1 > max (-1) (min 0 ((its.length:Int)-1))) then (((its.length:Int)-1-max (-1) (min 0 ((its.length:Int)-1)) - -1-1) / - -1) else 0:Int)).toNat=its.length-1:=by
  rw [show (- -1:Int)=1 by decide,Int.ediv_one]
  split <;> omega
 rw [e,ZdA its (its.length-1) (Nat.sub_le _ _)]
 cases its with
 | nil=>rfl
 | cons a r=>
  rw [show (a::r).length-((a::r).length-1)=1 by simp]
section
variable {X:Cx}
def Znh (hi:Option Int) (xs:List V):List V:=match hi with
 | none=>xs.reverse
 | some _=>(xs.drop 1).reverse
def Zni (K:PySem.W.Frag) (te:TE) (th:TO):TE:=λσ H Q=>te σ H λx H1=>th σ H1 λu H2=>∃ a xs,x=.ref a/\SqL K H2 a xs/\(u=none\/u=some 0)/\∀ p,H2 p=none->Q (.ref p) (upd H2 p (.lst (Znh u xs)))
theorem Zgs {e st:Expr} {hi:Option Expr} {te:TE} {th:TO} {p2 pos:Pos} (K:PySem.W.Frag) (he:PE X e te) (hu:PO X hi th) (hst:PE X st (tUn (rU λi=>.int (-i)) (tC (.int 1)))) (hK:X.K=K:=by rfl) (ht:∀ o r,letTemporaryGo e o r=pure ():=by intro _ _;rfl) :
  PE X (.Subscript e (.Slice none hi (some st) p2) pos) (Zni K te th):=by
 subst hK
 intro pins s σ H Q I h
 refine wpAny_Subscript_Slice_step slot_list_getitem.lookup (thn (he pins s σ H _ I h) λv s1 ⟨x,H1,I1,r1,q1⟩=>?_) ht
 refine wpAny_Slice ?_
 rw [evalPart_none]
 refine wpAny_pure (thn (hu pins s1 σ H1 _ I1 q1) λvu s3 ⟨u,H3,I3,pu,q3⟩=>?_)
 rw [evalPart_some]
 refine thn (hst pins s3 σ H3 (λy H4=>y=.int (-1)/\H4=H3) I3 ⟨1,rfl,rfl,rfl⟩) λvs s4 ⟨y,H4,I4,r4,ey,eH⟩=>?_
 subst ey eH
 obtain ⟨t4,rfl⟩:=r4
 obtain ⟨a,xs,rfl,hx,hu0,q⟩:=q3
 cases r1
 have I5:Inv X pins σ H4 { s4 with heap:=s4.heap.push { cls:=.type "slice", data:=.fields #[.none,vu,.int (-1) t4] } }:=I4.kept (t':=s4.toks) λb ob q=>Heap.get?_push_of_some _ q
 obtain ⟨its,r,hl,hz⟩:=I5.list hx
 have hlen:=r.length
 refine ⟨hl.isList.typeIs,?_⟩
 refine wpAny_getItem_list_slice hl.isList ⟨_,Heap.get?_push_size _ rfl,rfl,rfl⟩ .none pu (.int (-1) t4) (by decide) ?_ (by rw [List.size_toArray] <;> omega)
 have hfr:=I5.fresh
 rcases hu0 with rfl | rfl
 ·rw [ZdB]
  exact ⟨.ref _,_,I5.lnew (ys:=xs.reverse) (t':=s4.toks) r.reverse (by rw [List.length_reverse];exact hz),rfl,q _ hfr⟩
 ·rw [Zda]
  exact ⟨.ref _,_,I5.lnew (ys:=(xs.drop 1).reverse) (t':=s4.toks) (Vals.reverse (Vals.drop' r 1)) (by rw [List.length_reverse,List.length_drop];omega),rfl,q _ hfr⟩
end
end L2
namespace L2
open PySem PySem.Spec PyProof.Rows
theorem Zgt:bootBuiltins "abs" = some (.builtin "abs"):=by first | rfl | decide +kernel
theorem Znj {X:Cx}:Zbc X (.builtin "abs") (λxs H Q=>∃ i:Int,xs=[.int i]/\Q (.int (if i<0 then -i else i)) H):=by
 intro pins s σ H xs us Q I rv h
 obtain ⟨i,rfl,q⟩:=h
 obtain ⟨u,rfl,ru⟩:=rv.one
 obtain ⟨t,rfl⟩:=ru
 exact call_abs_int λu tk=>⟨.int _,H,I.kept (t':=tk) λb o e=>e,⟨_,rfl⟩,q⟩
structure FunD (K:PySem.W.Frag) (x qual:Str) (st:Stmt) (dV:Value) (f:Addr) (fd:FuncData):Prop where
 ex:∃ (oc:Value) (od:Option Addr) (kV doc pm:Value) (an:Option Addr) (cdv ct:Value) (osl:Array (Option Value)),
  fd=PySem.W.fnOf x qual (Zao st) (Zan st) (Zae st) dV kV doc pm an cdv ct/\K.lookup f=some ⟨oc,od,.func fd,osl⟩/\PySem.W.codeIn K cdv qual=true
 kp:PySem.W.keepIn K (.ref f)=true
section
variable {P:Program} {w:World} {K:PySem.W.Frag} {mg:Str->Option Value} {base:Heap}
theorem FunD.ok {x qual:Str} {st:Stmt} {dV:Value} {f:Addr} {fd:FuncData} {N ps:List Str} {k:Nat} {sp:Sp} (F:FunD K x qual st dV f fd) (S:Zav N ps (Zae st)) (len:∀ vs H Q E,sp vs H Q E->vs.length=ps.length)
  (hbody:∀ (cdv:Value) (A:Around) (outer:List Env) (s:Shared) (H:Hp) (vs:List V) (Q:VK) (E:XK),Room k (A.deeper (envOfC qual (Zae st) s.heap.objs.size f cdv))->sp vs H Q E ->
   ∃ t,PSs (Zf2 CX0 P w K mg base N qual (Zae st) f cdv A outer s H E).nox (Zan st) t/\t { nx:=λ_ H'=>Q .non H',rt:=Q } (start N vs) H):ZaK P w K mg base CX0 (k+1) f fd ps sp:=by
 obtain ⟨oc,od,kV,doc,pm,an,cdv,ct,osl,rfl,lk,hcd⟩:=F.ex
 refine ZiI lk hcd S len λA outer s H vs Q E hr hsp=>?_
 obtain ⟨t,h,q⟩:=hbody cdv A outer s H vs Q E hr hsp
 exact ⟨t,h.nox,q⟩
theorem Zi2 {x qual:Str} {st:Stmt} {f:Addr} {oc:Value} {od an:Option Addr} {osl:Array (Option Value)} {dV kV doc pm cdv ct:Value} (l:K.lookup f=some ⟨oc,od,.func (PySem.W.fnOf x qual (Zao st) (Zan st) (Zae st) dV kV doc pm an cdv ct),osl⟩)
  (c:PySem.W.codeIn K cdv qual=true) (k:PySem.W.keepIn K (.ref f)=true):FunD K x qual st dV f (PySem.W.fnOf x qual (Zao st) (Zan st) (Zae st) dV kV doc pm an cdv ct):=⟨⟨oc,od,kV,doc,pm,an,cdv,ct,osl,rfl,l,c⟩,k⟩
end
end L2
namespace L2
open PySem PySem.Spec PyProof.Rows
end L2
namespace L2
open PySem
def itf (M:Nat):Nat->Nat->Nat
 | 0,x=>x
 | k+1,x=>itf M k ((x * 5+1) % M)
theorem ZdC (M:Nat):∀ (a b x:Nat),itf M (a+b) x=itf M b (itf M a x)
 | 0,b,x=>by rw [Nat.zero_add];rfl
 | a+1,b,x=>by rw [Nat.add_right_comm];exact ZdC M a b _
def orb (M:Nat):Nat->Nat->List Nat
 | 0,_=>[]
 | n+1,x=>x::orb M n ((x * 5+1) % M)
theorem ZeB {M y:Nat}:∀ {n x:Nat},y∈orb M n x->∃ k,k<n/\itf M k x=y
 | 0,x,h=>by simp [orb] at h
 | n+1,x,h=>by
  rcases List.mem_cons.mp h with e | e
  ·exact ⟨0,by omega,e.symm⟩
  ·obtain ⟨k,h1,h2⟩:=ZeB e
   exact ⟨k+1,by omega,h2⟩
def ZfL (M:Nat):Bool:=(List.range M).all (λj=>(orb M M 0).contains j) && itf M M 0 == 0
theorem Znk:ZfL 8=true:=by decide +kernel
theorem Zkp:ZfL 32=true:=by decide +kernel
theorem Zh5:ZfL 128=true:=by decide +kernel
theorem Zi3 {M i j:Nat} (h:ZfL M=true) (hi:i<M) (hj:j<M):∃ k,k<M/\itf M k i=j:=by
 unfold ZfL at h
 rw [Bool.and_eq_true,beq_iff_eq,List.all_eq_true] at h
 obtain ⟨h1,h2⟩:=h
 obtain ⟨a,ha,ea⟩:=ZeB (List.contains_iff_mem.mp (h1 i (List.mem_range.mpr hi)))
 obtain ⟨b,hb,eb⟩:=ZeB (List.contains_iff_mem.mp (h1 j (List.mem_range.mpr hj)))
 by_cases hab:a<=b
 ·refine ⟨b-a,by omega,?_⟩
  rw [<-ea,<-ZdC,Nat.add_sub_cancel' hab]
  exact eb
 ·refine ⟨b+M-a,by omega,?_⟩
  rw [<-ea,<-ZdC,show a+(b+M-a)=M+b by omega,ZdC,h2]
  exact eb
def adv (mask:Nat) (p:SetTable.Probe):SetTable.Probe:=
 if p.more > 0 then { p with j:=p.j+1,more:=p.more-1 }
 else { p with j:=(SetTable.leap mask p.i p.perturb).1,more:=SetTable.runEnd mask (SetTable.leap mask p.i p.perturb).1-(SetTable.leap mask p.i p.perturb).1,i:=(SetTable.leap mask p.i p.perturb).1,perturb:=(SetTable.leap mask p.i p.perturb).2 }
theorem Zh6 (t:SetTable) (p:SetTable.Probe):t.advance p=adv t.mask p:=rfl
def Za8 (mask:Nat):Nat->SetTable.Probe->SetTable.Probe
 | 0,p=>p
 | n+1,p=>Za8 mask n (adv mask p)
theorem ZbX (mask:Nat):∀ (a b:Nat) (p:SetTable.Probe),Za8 mask (a+b) p=Za8 mask b (Za8 mask a p)
 | 0,b,p=>by rw [Nat.zero_add];rfl
 | a+1,b,p=>by rw [Nat.add_right_comm];exact ZbX mask a b _
theorem Zea (mask n:Nat) (p:SetTable.Probe):Za8 mask (n+1) p=adv mask (Za8 mask n p):=ZbX mask n 1 p
theorem Zgu (mask:Nat) (p:SetTable.Probe):(adv mask p).dummy=p.dummy:=by
 unfold adv;split <;> rfl
def rs (mask i pt:Nat):SetTable.Probe:={ j:=i,more:=SetTable.runEnd mask i-i,i:=i,perturb:=pt,dummy:=none }
def st0 (mask:Nat) (h:Int):SetTable.Probe:=rs mask (SetTable.bits h % (mask+1)) (SetTable.bits h)
theorem Zkq (t:SetTable) (h:Int):t.probeStart h=st0 t.mask h:=rfl
theorem ZcX {mask i:Nat} (h:i<=mask):SetTable.runEnd mask i<=mask:=by
 unfold SetTable.runEnd;split <;> omega
theorem Zfw (mask i:Nat):SetTable.runEnd mask i-i<=9:=by
 unfold SetTable.runEnd;split <;> omega
theorem ZcY (mask i:Nat):i<=SetTable.runEnd mask i:=by
 unfold SetTable.runEnd;split <;> omega
theorem ZbY (mask i pt:Nat):∀ k,k<=SetTable.runEnd mask i-i->Za8 mask k (rs mask i pt)={ j:=i+k,more:=SetTable.runEnd mask i-i-k,i:=i,perturb:=pt,dummy:=none }
 | 0,_=>rfl
 | k+1,h=>by
  rw [Zea,ZbY mask i pt k (by omega)]
  unfold adv
  rw [if_pos (by show SetTable.runEnd mask i-i-k > 0;omega)]
  show SetTable.Probe.mk _ _ _ _ _=_
  congr 1
theorem Zcl (mask i pt:Nat):Za8 mask (SetTable.runEnd mask i-i+1) (rs mask i pt)=rs mask (SetTable.leap mask i pt).1 (SetTable.leap mask i pt).2:=by
 rw [Zea,ZbY mask i pt _ (Nat.le_refl _)]
 unfold adv
 rw [if_neg (by show ¬ (SetTable.runEnd mask i-i-(SetTable.runEnd mask i-i) > 0);omega)]
 rfl
theorem Zdn (x mask:Nat):x % (mask+1)<=mask:=Nat.le_of_lt_succ (Nat.mod_lt _ (Nat.succ_pos _))
def lps (mask:Nat):Nat->Nat×Nat->Nat×Nat
 | 0,x=>x
 | m+1,x=>lps mask m (SetTable.leap mask x.1 x.2)
theorem Zgv (mask:Nat):∀ (a b:Nat) (x:Nat×Nat),lps mask (a+b) x=lps mask b (lps mask a x)
 | 0,b,x=>by rw [Nat.zero_add];rfl
 | a+1,b,x=>by rw [Nat.add_right_comm];exact Zgv mask a b _
theorem Ze7 (mask:Nat):∀ (m:Nat) (x:Nat×Nat),∃ n,n<=10 * m/\Za8 mask n (rs mask x.1 x.2)=rs mask (lps mask m x).1 (lps mask m x).2
 | 0,x=>⟨0,Nat.le_refl _,rfl⟩
 | m+1,x=>by
  obtain ⟨n,h1,h2⟩:=Ze7 mask m (SetTable.leap mask x.1 x.2)
  refine ⟨SetTable.runEnd mask x.1-x.1+1+n,?_,?_⟩
  ·have:=Zfw mask x.1
   omega
  ·rw [ZbX,Zcl]
   exact h2
theorem Ze8 (mask:Nat):∀ (m i:Nat),lps mask m (i,0)=(itf (mask+1) m i,0)
 | 0,i=>rfl
 | m+1,i=>by
  show lps mask m (SetTable.leap mask i 0)=_
  have e:SetTable.leap mask i 0=((i * 5+1) % (mask+1),0):=by unfold SetTable.leap;simp
  rw [e]
  exact Ze8 mask m _
theorem Ze9 (mask:Nat):∀ (m i b:Nat),(lps mask m (i,b)).2=b / 32 ^ m
 | 0,i,b=>by simp [lps]
 | m+1,i,b=>by
  show (lps mask m (SetTable.leap mask i b)).2=_
  have e:SetTable.leap mask i b=((SetTable.leap mask i b).1,b / 32):=rfl
  rw [e,Ze9 mask m _ _,Nat.div_div_eq_div_mul,Nat.pow_succ,Nat.mul_comm]
theorem Zh7 (mask:Nat):∀ (m i b:Nat),i<=mask->(lps mask m (i,b)).1<=mask
 | 0,i,b,h=>h
 | m+1,i,b,h=>Zh7 mask m _ _ (Zdn _ _)
theorem Zi4 (h:Int):SetTable.bits h<2 ^ 64:=by
 unfold SetTable.bits
 have h1:=Int.emod_nonneg h (show (2 ^ 64:Int)≠0 by decide)
 have h2:=Int.emod_lt_of_pos h (show (0:Int)<2 ^ 64 by decide)
 omega
theorem Zeb {mask j:Nat} (hc:ZfL (mask+1)=true) (h:Int) (hj:j<=mask):∃ m,m<mask+14/\(lps mask m (SetTable.bits h % (mask+1),SetTable.bits h)).1=j:=by
 have hb:=Zi4 h
 generalize SetTable.bits h=b at hb ⊢
 have h13:(lps mask 13 (b % (mask+1),b)).2=0:=by
  rw [Ze9]
  exact Nat.div_eq_of_lt (Nat.lt_trans hb (by decide))
 have hi:(lps mask 13 (b % (mask+1),b)).1<=mask:=Zh7 mask 13 _ _ (Zdn _ _)
 obtain ⟨k,hk,ek⟩:=Zi3 hc (Nat.lt_succ_of_le hi) (Nat.lt_succ_of_le hj)
 refine ⟨13+k,by omega,?_⟩
 rw [Zgv]
 have e:lps mask 13 (b % (mask+1),b)=((lps mask 13 (b % (mask+1),b)).1,0):=by rw [<-h13]
 rw [e,Ze8]
 exact ek
theorem Zgw {mask j:Nat} (hc:ZfL (mask+1)=true) (h:Int) (hj:j<=mask):∃ n,n+10<10 * SetTable.turns mask/\(Za8 mask n (st0 mask h)).j=j:=by
 obtain ⟨m,hm,em⟩:=Zeb hc h hj
 obtain ⟨n,hn,en⟩:=Ze7 mask m (SetTable.bits h % (mask+1),SetTable.bits h)
 refine ⟨n,by unfold SetTable.turns;omega,?_⟩
 show (Za8 mask n (rs mask _ _)).j=j
 rw [en]
 exact em
theorem Zkr {mask:Nat} {p:SetTable.Probe} (h:p.j+p.more<=mask):(adv mask p).j+(adv mask p).more<=mask:=by
 unfold adv
 split
 ·show p.j+1+(p.more-1)<=mask
  omega
 ·have h1:(SetTable.leap mask p.i p.perturb).1<=mask:=Zdn _ _
  have h2:=ZcX h1
  have h3:=ZcY mask (SetTable.leap mask p.i p.perturb).1
  show (SetTable.leap mask p.i p.perturb).1+(SetTable.runEnd mask (SetTable.leap mask p.i p.perturb).1-(SetTable.leap mask p.i p.perturb).1)<=mask
  omega
theorem Zgx {mask:Nat}:∀ {n:Nat} {p:SetTable.Probe},p.j+p.more<=mask->(Za8 mask n p).j+(Za8 mask n p).more<=mask
 | 0,_,h=>h
 | n+1,p,h=>Zgx (n:=n) (Zkr h)
theorem Zks (mask:Nat) (h:Int):(st0 mask h).j+(st0 mask h).more<=mask:=by
 have h1:SetTable.bits h % (mask+1)<=mask:=Zdn _ _
 have h2:=ZcX h1
 have h3:=ZcY mask (SetTable.bits h % (mask+1))
 show SetTable.bits h % (mask+1)+(SetTable.runEnd mask (SetTable.bits h % (mask+1))-SetTable.bits h % (mask+1))<=mask
 omega
theorem Zgy (mask n:Nat) (h:Int):(Za8 mask n (st0 mask h)).j<=mask:=by
 have:=Zgx (n:=n) (Zks mask h)
 omega
def Rise (xs:Array Nat):Prop:=xs.toList.Pairwise (· < ·)
theorem Rise.lt {xs:Array Nat} (h:Rise xs) {q r a b:Nat} (hqr:q<r) (ha:xs[q]?=some a) (hb:xs[r]?=some b):a<b:=by
 rw [<-Array.getElem?_toList] at ha hb
 obtain ⟨h1,e1⟩:=List.getElem?_eq_some_iff.mp ha
 obtain ⟨h2,e2⟩:=List.getElem?_eq_some_iff.mp hb
 have:=List.pairwise_iff_getElem.mp h q r h1 h2 hqr
 rw [e1,e2] at this
 exact this
theorem ZdD {xs:Array Nat} {j:Nat} (hr:Rise xs):∀ (fuel lo hi:Nat),hi-lo<=fuel->lo<=hi->hi<=xs.size ->
  (∀ q a,q<lo->xs[q]?=some a->a<j)->(∀ q a,hi<=q->xs[q]?=some a->j<=a) ->
  SetTable.below.go xs j fuel lo hi<=xs.size/\(∀ q a,q<SetTable.below.go xs j fuel lo hi->xs[q]?=some a->a<j)/\(∀ q a,SetTable.below.go xs j fuel lo hi<=q->xs[q]?=some a->j<=a)
 | 0,lo,hi,h0,h1,h2,hl,hh=>by
  have e:hi=lo:=by omega
  subst e
  exact ⟨h2,hl,hh⟩
 | fuel+1,lo,hi,h0,h1,h2,hl,hh=>by
  unfold SetTable.below.go
  by_cases hlt:lo<hi
  ·rw [if_pos hlt]
   have hm:(lo+hi) / 2<xs.size:=by omega
   have em:xs[(lo+hi) / 2]?=some xs[(lo+hi) / 2]:=Array.getElem?_eq_getElem hm
   have ed:xs.getD ((lo+hi) / 2) j=xs[(lo+hi) / 2]:=by
    rw [Array.getD_eq_getD_getElem?,em];rfl
   dsimp only
   rw [ed]
   by_cases hc:xs[(lo+hi) / 2]<j
   ·rw [if_pos hc]
    refine ZdD hr fuel _ _ (by omega) (by omega) h2 (λq a hq ha=>?_) hh
    by_cases hq':q=(lo+hi) / 2
    ·rw [hq',em] at ha;cases ha;exact hc
    ·exact Nat.lt_trans (hr.lt (by omega) ha em) hc
   ·rw [if_neg hc]
    refine ZdD hr fuel _ _ (by omega) (by omega) (by omega) hl (λq a hq ha=>?_)
    by_cases hq':q=(lo+hi) / 2
    ·rw [hq',em] at ha;cases ha;omega
    ·have:=hr.lt (show (lo+hi) / 2<q by omega) em ha
     omega
  ·rw [if_neg hlt]
   have e:hi=lo:=by omega
   subst e
   exact ⟨h2,hl,hh⟩
theorem Zcw {xs:Array Nat} {j:Nat} (hr:Rise xs):SetTable.below xs j<=xs.size/\(∀ q a,q<SetTable.below xs j->xs[q]?=some a->a<j)/\(∀ q a,SetTable.below xs j<=q->xs[q]?=some a->j<=a):=by
 unfold SetTable.below
 refine ZdD hr xs.size 0 xs.size (by omega) (by omega) (Nat.le_refl _) (λq a hq=>absurd hq (Nat.not_lt_zero _)) λq a hq ha=>?_
 rw [Array.getElem?_eq_none hq] at ha;cases ha
theorem Zhz {xs:Array Nat} {i j:Nat} (hr:Rise xs) (h:xs[i]?=some j):SetTable.below xs j=i:=by
 obtain ⟨h1,h2,h3⟩:=Zcw (j:=j) hr
 rcases Nat.lt_trichotomy (SetTable.below xs j) i with z | z | z
 ·have hs:SetTable.below xs j<xs.size:=by
   have:=(Array.getElem?_eq_some_iff.mp h).1
   omega
  have:=hr.lt z (Array.getElem?_eq_getElem hs) h
  have:=h3 _ _ (Nat.le_refl _) (Array.getElem?_eq_getElem hs)
  omega
 ·exact z
 ·have:=h2 i j z h
  omega
theorem Zfx (t:SetTable) (hr:Rise t.place) (hd:t.dummies=#[]) (j:Nat):(t.slot j=.empty/\j ∉ t.place.toList)\/∃ i,t.slot j=.live i/\t.place[i]?=some j:=by
 unfold SetTable.slot
 dsimp only
 by_cases h:t.place[SetTable.below t.place j]?=some j
 ·refine .inr ⟨SetTable.below t.place j,?_,h⟩
  rw [if_pos (by rw [h];exact beq_self_eq_true _)]
 ·refine .inl ⟨?_,λhm=>?_⟩
  ·rw [if_neg (by rw [beq_iff_eq];exact h),hd]
   have e:SetTable.has #[] j=false:=by unfold SetTable.has;simp
   rw [e]
   rfl
  ·obtain ⟨i,hi,e⟩:=List.getElem_of_mem hm
   have e':t.place[i]?=some j:=by
    rw [<-Array.getElem?_toList,List.getElem?_eq_getElem hi,e]
   rw [Zhz hr e'] at h
   exact h e'
theorem ZcZ {xs:Array Nat} {i j:Nat} (h:xs[i]?=some j):j∈xs.toList:=by
 rw [<-Array.getElem?_toList] at h
 exact List.mem_of_getElem? h
section
variable {t:SetTable} {ha:Nat->Int} {h:Int}
theorem Zgz (hr:Rise t.place) (hd:t.dummies=#[]):∀ (F:Nat) (p:SetTable.Probe),(∃ n,n<F/\(Za8 t.mask n p).j ∉ t.place.toList) ->
  (∃ n,SetTable.probe.go t ha h F p=some (.empty (Za8 t.mask n p).j p.dummy)/\(Za8 t.mask n p).j ∉ t.place.toList/\∀ q,q<n->∃ i,t.place[i]?=some (Za8 t.mask q p).j/\ha i≠h) \/
  (∃ n i,SetTable.probe.go t ha h F p=some (.candidate (Za8 t.mask n p).j i (Za8 t.mask (n+1) p))/\t.place[i]?=some (Za8 t.mask n p).j/\ha i=h/\∀ q,q<n->∃ i,t.place[i]?=some (Za8 t.mask q p).j/\ha i≠h)
 | 0,p,⟨n,hn,_⟩=>absurd hn (Nat.not_lt_zero _)
 | F+1,p,⟨n,hn,hf⟩=>by
  rcases Zfx t hr hd p.j with ⟨e,hm⟩ | ⟨i,e,hi⟩
  ·refine .inl ⟨0,?_,hm,λq hq=>absurd hq (Nat.not_lt_zero _)⟩
   unfold SetTable.probe.go
   rw [e]
   rfl
  ·by_cases hh:ha i=h
   ·refine .inr ⟨0,i,?_,hi,hh,λq hq=>absurd hq (Nat.not_lt_zero _)⟩
    unfold SetTable.probe.go
    rw [e]
    dsimp only
    rw [if_pos (by rw [hh];exact beq_self_eq_true _),Zh6]
    rfl
   ·have hs:SetTable.probe.go t ha h (F+1) p=SetTable.probe.go t ha h F (adv t.mask p):=by
     rw [SetTable.probe.go,e]
     dsimp only
     rw [if_neg (by rw [beq_iff_eq];exact hh),Zh6]
    cases n with
    | zero=>exact absurd (ZcZ hi) hf
    | succ n=>
     rw [hs]
     rcases Zgz hr hd F (adv t.mask p) ⟨n,by omega,hf⟩ with ⟨m,g1,g2,g3⟩ | ⟨m,i',g1,g2,g3,g4⟩
     ·refine .inl ⟨m+1,?_,g2,λq hq=>?_⟩
      ·rw [g1,Zgu];rfl
      ·cases q with
       | zero=>exact ⟨i,hi,hh⟩
       | succ q=>exact g3 q (by omega)
     ·refine .inr ⟨m+1,i',g1,g2,g3,λq hq=>?_⟩
      cases q with
      | zero=>exact ⟨i,hi,hh⟩
      | succ q=>exact g4 q (by omega)
theorem Zdo {mask:Nat} {l:List Nat} (h:l.length<=mask):∃ j,j<=mask/\j ∉ l:=by
 apply Classical.byContradiction
 intro hn
 have hs:List.range (mask+1) ⊆ l:=λj hj=>Classical.byContradiction λhm=>hn ⟨j,by have:=List.mem_range.mp hj;omega,hm⟩
 have:=List.Nodup.length_le_of_subset List.nodup_range hs
 rw [List.length_range] at this
 omega
end
end L2
namespace L2
open PySem
theorem isN {ow:Array (Option Nat)} {x:Nat} (hx:x<ow.size):(ow.getD x (some 0)).isNone=true↔ow[x]?=some none:=by
 rw [Array.getD_eq_getD_getElem?,Array.getElem?_eq_getElem hx]
 show ow[x].isNone=true↔some ow[x]=some none
 cases ow[x] <;> simp
theorem Zec {mask:Nat} {ow:Array (Option Nat)} (hz:ow.size=mask+1):∀ (F i pt:Nat),i<=mask ->
  (∃ m,m<F/\ow[(lps mask m (i,pt)).1]?=some none) ->
  ∃ n,SetTable.layClean.free mask ow F i pt=some (Za8 mask n (rs mask i pt)).j/\ow[(Za8 mask n (rs mask i pt)).j]?=some none/\∀ q,q<n->ow[(Za8 mask q (rs mask i pt)).j]?≠some none
 | 0,i,pt,_,⟨m,hm,_⟩=>absurd hm (Nat.not_lt_zero _)
 | F+1,i,pt,hi,⟨m,hm,em⟩=>by
  have hre:=ZcX hi
  have hrg:=ZcY mask i
  unfold SetTable.layClean.free
  cases hf:List.find? (λk=>(ow.getD (i+k) (some 0)).isNone) (List.range (SetTable.runEnd mask i+1-i)) with
  | some k=>
   obtain ⟨p1,p2,p3⟩:=List.find?_range_eq_some.mp hf
   have hk:=List.mem_range.mp p2
   refine ⟨k,?_,?_,λq hq=>?_⟩
   ·rw [ZbY mask i pt k (by omega)]
   ·rw [ZbY mask i pt k (by omega)]
    show ow[i+k]?=some none
    exact (isN (by omega)).mp p1
   ·rw [ZbY mask i pt q (by omega)]
    show ow[i+q]?≠some none
    intro z
    have h1:=p3 q hq
    rw [(isN (by omega)).mpr z] at h1
    cases h1
  | none=>
   have hall:=List.find?_eq_none.mp hf
   have hno:∀ q,q<=SetTable.runEnd mask i-i->ow[i+q]?≠some none:=λq hq z=>hall q (List.mem_range.mpr (by omega)) ((isN (by omega)).mpr z)
   cases m with
   | zero=>exact absurd em (hno 0 (Nat.zero_le _))
   | succ m=>
    obtain ⟨n,g1,g2,g3⟩:=Zec hz F (SetTable.leap mask i pt).1 (SetTable.leap mask i pt).2 (Zdn _ _) ⟨m,by omega,em⟩
    refine ⟨SetTable.runEnd mask i-i+1+n,?_,?_,λq hq=>?_⟩
    ·rw [ZbX,Zcl]
     exact g1
    ·rw [ZbX,Zcl]
     exact g2
    ·by_cases hq':q<=SetTable.runEnd mask i-i
     ·rw [ZbY mask i pt q hq']
      exact hno q hq'
     ·have e:q=SetTable.runEnd mask i-i+1+(q-(SetTable.runEnd mask i-i+1)):=by omega
      rw [e,ZbX,Zcl]
      exact g3 _ (by omega)
def Zfa (mask:Nat) (acc:Option (Array (Option Nat)×Nat)) (h:Int):Option (Array (Option Nat)×Nat):=
 acc.bind λx=>(SetTable.layClean.free mask x.1 (SetTable.turns mask) (SetTable.bits h % (mask+1)) (SetTable.bits h)).bind λj=>some (x.1.setIfInBounds j (some x.2),x.2+1)
theorem ZdE (mask:Nat) (hashes:Array Int):SetTable.layClean mask hashes=(hashes.toList.foldl (Zfa mask) (some (Array.replicate (mask+1) none,0))).map (·.1):=by
 unfold SetTable.layClean
 rw [Array.foldl_toList]
 rfl
structure Lc (mask:Nat) (ow:Array (Option Nat)) (js:List Nat) (hs:List Int):Prop where
 sz:ow.size=mask+1
 len:js.length=hs.length
 at_:∀ (q j:Nat),js[q]?=some j↔ow[j]?=some (some q)
 rch:∀ (q:Nat) (h:Int) (j:Nat),hs[q]?=some h->js[q]?=some j->∃ n,(Za8 mask n (st0 mask h)).j=j/\∀ r,r<n->ow[(Za8 mask r (st0 mask h)).j]?≠some none
theorem Lc.nil (mask:Nat):Lc mask (Array.replicate (mask+1) none) [] []:=
 ⟨Array.size_replicate,rfl,λq j=>⟨λz=>by simp at z,λz=>by
  rw [Array.getElem?_replicate] at z
  split at z <;> simp at z⟩,λq h j z=>by simp at z⟩
theorem Lc.step {mask:Nat} {ow:Array (Option Nat)} {js:List Nat} {hs:List Int} (L:Lc mask ow js hs) (hc:ZfL (mask+1)=true) (hl:hs.length<=mask) (h:Int) :
  ∃ j,Zfa mask (some (ow,hs.length)) h=some (ow.setIfInBounds j (some hs.length),hs.length+1)/\Lc mask (ow.setIfInBounds j (some hs.length)) (js++[j]) (hs++[h]):=by
 have hjl:=L.len
 obtain ⟨j0,hj0,hn0⟩:=Zdo (mask:=mask) (l:=js) (by omega)
 have e0:ow[j0]?=some none:=by
  have hs0:j0<ow.size:=by rw [L.sz];omega
  rw [Array.getElem?_eq_getElem hs0]
  cases q:ow[j0] with
  | none=>rfl
  | some k=>
   exact absurd (List.mem_of_getElem? ((L.at_ k j0).mpr (by rw [Array.getElem?_eq_getElem hs0,q]))) hn0
 obtain ⟨m,hm,em⟩:=Zeb hc h hj0
 obtain ⟨n,g1,g2,g3⟩:=Zec L.sz (SetTable.turns mask) (SetTable.bits h % (mask+1)) (SetTable.bits h) (Zdn _ _) ⟨m,by unfold SetTable.turns;omega,by rw [em];exact e0⟩
 have est:rs mask (SetTable.bits h % (mask+1)) (SetTable.bits h)=st0 mask h:=rfl
 rw [est] at g1 g2 g3
 have hjlt:(Za8 mask n (st0 mask h)).j<ow.size:=by rw [L.sz];have:=Zgy mask n h;omega
 refine ⟨(Za8 mask n (st0 mask h)).j,?_,?_⟩
 ·unfold Zfa
  rw [Option.bind_some,g1]
  rfl
 ·generalize hj:(Za8 mask n (st0 mask h)).j=j at g2 hjlt ⊢
  have hget:∀ x,(ow.setIfInBounds j (some hs.length))[x]?=if j=x then some (some hs.length) else ow[x]?:=λx=>by
   rw [Array.getElem?_setIfInBounds,if_pos hjlt]
  have hjs:j ∉ js:=λhm=>by
   obtain ⟨q,hq,e⟩:=List.getElem_of_mem hm
   have:=(L.at_ q j).mp (by rw [List.getElem?_eq_getElem hq,e])
   rw [g2] at this;cases this
  have occ:∀ x,ow[x]?≠some none->(ow.setIfInBounds j (some hs.length))[x]?≠some none:=λx hx=>by
   rw [hget]
   split
   ·simp
   ·exact hx
  refine ⟨by rw [Array.size_setIfInBounds];exact L.sz,by simp [hjl],λq x=>?_,λq g x e1 e2=>?_⟩
  ·rw [hget]
   by_cases hq:q<js.length
   ·rw [List.getElem?_append_left hq]
    by_cases hx:j=x
    ·rw [if_pos hx]
     constructor
     ·intro z
      exact absurd (hx▸List.mem_of_getElem? z) hjs
     ·intro z
      have:hs.length=q:=by simpa using z
      omega
    ·rw [if_neg hx]
     exact L.at_ q x
   ·rw [List.getElem?_append_right (by omega)]
    by_cases hx:j=x
    ·rw [if_pos hx]
     by_cases hq':q=js.length
     ·subst hq'
      simp [hx,hjl]
     ·constructor
      ·intro z
       have:([j]:List Nat)[q-js.length]?=none:=List.getElem?_eq_none (by simp;omega)
       rw [this] at z;cases z
      ·intro z
       have:hs.length=q:=by simpa using z
       omega
    ·rw [if_neg hx]
     constructor
     ·intro z
      have:=List.mem_of_getElem? z
      simp at this
      exact absurd this.symm hx
     ·intro z
      have:=(L.at_ q x).mpr z
      rw [List.getElem?_eq_none (by omega)] at this
      cases this
  ·by_cases hq:q<hs.length
   ·rw [List.getElem?_append_left hq] at e1
    rw [List.getElem?_append_left (by omega)] at e2
    obtain ⟨n',r1,r2⟩:=L.rch q g x e1 e2
    exact ⟨n',r1,λr hr=>occ _ (r2 r hr)⟩
   ·rw [List.getElem?_append_right (by omega)] at e1 e2
    have h1:=List.mem_of_getElem? e1
    have h2:=List.mem_of_getElem? e2
    simp at h1 h2
    subst h1 h2
    exact ⟨n,hj,λr hr=>occ _ (g3 r hr)⟩
theorem ZgA {mask:Nat} (hc:ZfL (mask+1)=true):∀ (rest:List Int) (ow:Array (Option Nat)) (js:List Nat) (hs:List Int),Lc mask ow js hs->hs.length+rest.length<=mask ->
  ∃ ow' js',rest.foldl (Zfa mask) (some (ow,hs.length))=some (ow',(hs++rest).length)/\Lc mask ow' js' (hs++rest)
 | [],ow,js,hs,L,_=>⟨ow,js,by simp,by simpa using L⟩
 | h::rest,ow,js,hs,L,hl=>by
  rw [List.length_cons] at hl
  obtain ⟨j,e,L'⟩:=L.step hc (by omega) h
  obtain ⟨ow',js',e',L''⟩:=ZgA hc rest _ _ (hs++[h]) L' (by simp;omega)
  refine ⟨ow',js',?_,by simpa using L''⟩
  rw [List.foldl_cons,e]
  have hlen:(hs++[h]).length=hs.length+1:=by simp
  rw [hlen] at e'
  rw [e']
  simp
theorem ZcB {α β:Type} (f:α->Option β):∀ (l:List α),(∀ x∈l,(f x).isSome=true)->∀ r:Nat,(l.filterMap f)[r]?=(l[r]?).bind f
 | [],_,r=>by simp
 | x::l,h,r=>by
  obtain ⟨y,hy⟩:=Option.isSome_iff_exists.mp (h x (List.mem_cons_self))
  rw [List.filterMap_cons_some hy]
  cases r with
  | zero=>simp [hy]
  | succ r=>
   rw [List.getElem?_cons_succ,List.getElem?_cons_succ]
   exact ZcB f l (λz hz=>h z (List.mem_cons_of_mem _ hz)) r
structure Znl (t:SetTable) (od:Array Nat) (mask finger moves:Nat) (led plain:Bool) (hashes:Array Int):Prop where
 tm:t.mask=mask
 tl:t.led=led
 tp:t.plain=plain
 td:t.dummies=#[]
 rise:Rise t.place
 le:∀ j∈t.place.toList,j<=mask
 perm:od.toList.Perm (List.range hashes.size)
 sz:t.place.size=hashes.size
 rch:∀ (r q j:Nat) (h:Int),od[r]?=some q->t.place[r]?=some j->hashes[q]?=some h->∃ n,(Za8 mask n (st0 mask h)).j=j/\∀ r',r'<n->(Za8 mask r' (st0 mask h)).j∈t.place.toList
theorem ZgB {mask:Nat} (hc:ZfL (mask+1)=true) (finger moves:Nat) (led plain:Bool) (hashes:Array Int) (hz:hashes.size<=mask) :
  ∃ t od,SetTable.laid mask finger moves led plain hashes=some (t,od)/\Znl t od mask finger moves led plain hashes:=by
 obtain ⟨ow,js,e,L⟩:=ZgA hc hashes.toList _ [] [] (Lc.nil mask) (by simpa using hz)
 simp only [List.nil_append,List.length_nil] at e L
 have hn:js.length=hashes.size:=by rw [L.len,Array.length_toList]
 have e':SetTable.layClean mask hashes=some ow:=by rw [ZdE,e];rfl
 generalize hlive:(List.range (mask+1)).filterMap (λj=>(ow.getD j none).map (j,·))=live
 have mem:∀ j q,(j,q)∈live↔j<=mask/\ow[j]?=some (some q):=by
  intro j q
  rw [<-hlive,List.mem_filterMap]
  constructor
  ·rintro ⟨a,ha,hb⟩
   have ha':=List.mem_range.mp ha
   have hs':a<ow.size:=by rw [L.sz];omega
   rw [Array.getD_eq_getD_getElem?,Array.getElem?_eq_getElem hs'] at hb
   cases hq:ow[a] with
   | none=>rw [hq] at hb;cases hb
   | some k=>
    rw [hq] at hb
    have hb':(a,k)=(j,q):=Option.some.inj hb
    cases hb'
    exact ⟨by omega,by rw [Array.getElem?_eq_getElem hs',hq]⟩
  ·rintro ⟨h1,h2⟩
   refine ⟨j,List.mem_range.mpr (by omega),?_⟩
   rw [Array.getD_eq_getD_getElem?,h2]
   rfl
 have pw1:(live.map (·.1)).Pairwise (· < ·):=by
  rw [List.pairwise_map,<-hlive]
  refine List.Pairwise.filterMap (R:=(· < ·)) _ (λa a' haa b hb b' hb'=>?_) List.pairwise_lt_range
  obtain ⟨x,_,rfl⟩:=Option.map_eq_some_iff.mp hb
  obtain ⟨x',_,rfl⟩:=Option.map_eq_some_iff.mp hb'
  exact haa
 have pw2:(live.map (·.2)).Nodup:=by
  unfold List.Nodup
  rw [List.pairwise_map]
  have:=List.Pairwise.and_mem.mp (List.pairwise_map.mp pw1)
  refine this.imp λ{a b} hab z=>?_
  obtain ⟨ha,hb,hlt⟩:=hab
  have h1:=(L.at_ a.2 a.1).mpr ((mem a.1 a.2).mp ha).2
  have h2:=(L.at_ b.2 b.1).mpr ((mem b.1 b.2).mp hb).2
  rw [z,h2] at h1
  have:=Option.some.inj h1
  omega
 have hperm:(live.map (·.2)).Perm (List.range hashes.size):=by
  refine (List.perm_ext_iff_of_nodup pw2 List.nodup_range).mpr λq=>?_
  rw [List.mem_range,List.mem_map]
  constructor
  ·rintro ⟨⟨j,q'⟩,hm,rfl⟩
   have h1:=(L.at_ q' j).mpr ((mem j q').mp hm).2
   have:=(List.getElem?_eq_some_iff.mp h1).1
   show q'<_
   omega
  ·intro hq
   have hq':q<js.length:=by omega
   have h1:=(L.at_ q js[q]).mp (List.getElem?_eq_getElem hq')
   have h2:=(Array.getElem?_eq_some_iff.mp h1).1
   rw [L.sz] at h2
   exact ⟨(js[q],q),(mem _ _).mpr ⟨by omega,h1⟩,rfl⟩
 refine ⟨_,_,by unfold SetTable.laid;rw [e'];rfl,rfl,rfl,rfl,rfl,?_,?_,?_,?_,?_⟩
 ·unfold Rise
  dsimp only
  rw [hlive]
  exact pw1
 ·dsimp only
  rw [hlive]
  intro j hj
  obtain ⟨⟨a,q⟩,hm,rfl⟩:=List.mem_map.mp (show j∈live.map (·.1) from hj)
  exact ((mem a q).mp hm).1
 ·dsimp only
  rw [hlive]
  exact hperm
 ·dsimp only
  rw [hlive,List.size_toArray,List.length_map]
  have:=hperm.length_eq
  rw [List.length_map,List.length_range] at this
  exact this
 ·dsimp only
  rw [hlive]
  intro r q j h e1 e2 e3
  rw [List.getElem?_toArray,List.getElem?_map] at e1 e2
  cases hl:live[r]? with
  | none=>rw [hl] at e1;cases e1
  | some x=>
   rw [hl] at e1 e2
   have e1':x.2=q:=Option.some.inj e1
   have e2':x.1=j:=Option.some.inj e2
   subst e1' e2'
   have h1:=(L.at_ x.2 x.1).mpr ((mem x.1 x.2).mp (List.mem_of_getElem? hl)).2
   obtain ⟨n,r1,r2⟩:=L.rch x.2 h x.1 (by rw [Array.getElem?_toList];exact e3) h1
   refine ⟨n,r1,λr' hr'=>?_⟩
   have h2:=r2 r' hr'
   have hle:=Zgy mask r' h
   have hs':(Za8 mask r' (st0 mask h)).j<ow.size:=by rw [L.sz];omega
   rw [Array.getElem?_eq_getElem hs'] at h2
   cases hq:ow[(Za8 mask r' (st0 mask h)).j] with
   | none=>rw [hq] at h2;exact absurd rfl h2
   | some k=>
    show _∈live.map (·.1)
    exact List.mem_map.mpr ⟨(_,k),(mem _ _).mpr ⟨hle,by rw [Array.getElem?_eq_getElem hs',hq]⟩,rfl⟩
end L2
namespace L2
open PySem
def ins {α:Type} (l:List α) (p:Nat) (x:α):List α:=l.take p++x::l.drop p
theorem Zfb {α:Type} {l:List α} {p:Nat} {x:α} (hp:p<=l.length) (i:Nat):(ins l p x)[i]?=if i<p then l[i]? else if i=p then some x else l[i-1]?:=by
 unfold ins
 have hl:(l.take p).length=p:=by rw [List.length_take];omega
 by_cases h:i<p
 ·rw [if_pos h,List.getElem?_append_left (by omega),List.getElem?_take,if_pos h]
 ·rw [if_neg h,List.getElem?_append_right (by omega),hl]
  by_cases h':i=p
  ·subst h';simp
  ·rw [if_neg h']
   have e:i-p=(i-p-1)+1:=by omega
   rw [e,List.getElem?_cons_succ,List.getElem?_drop]
   congr 1
   omega
theorem ZdF {α:Type} {l:List α} {p:Nat} {x:α} (hp:p<=l.length):(ins l p x).length=l.length+1:=by
 unfold ins
 simp
 omega
theorem Zi5 {α β:Type} (f:α->β) (l:List α) (p:Nat) (x:α):(ins l p x).map f=ins (l.map f) p (f x):=by
 unfold ins
 simp
theorem ins_mem {α:Type} {l:List α} {p:Nat} {x y:α}:y∈ins l p x↔y=x\/y∈l:=by
 unfold ins
 rw [List.mem_append,List.mem_cons]
 constructor
 ·rintro (h | h | h)
  ·exact .inr (List.mem_of_mem_take h)
  ·exact .inl h
  ·exact .inr (List.mem_of_mem_drop h)
 ·rintro (h | h)
  ·exact .inr (.inl h)
  ·rw [<-List.take_append_drop p l,List.mem_append] at h
   rcases h with h | h
   ·exact .inl h
   ·exact .inr (.inr h)
structure TOk (t:SetTable) (hs:List Int):Prop where
 mask:t.mask=7\/t.mask=31\/t.mask=127
 dum:t.dummies=#[]
 len:t.place.size=hs.length
 rise:Rise t.place
 le:∀ j∈t.place.toList,j<=t.mask
 rch:∀ (i:Nat) (h:Int) (j:Nat),hs[i]?=some h->t.place[i]?=some j->∃ n,(Za8 t.mask n (st0 t.mask h)).j=j/\∀ q,q<n->(Za8 t.mask q (st0 t.mask h)).j∈t.place.toList
theorem TOk.cov {t:SetTable} {hs:List Int} (T:TOk t hs):ZfL (t.mask+1)=true:=by
 rcases T.mask with e | e | e <;> rw [e]
 ·exact Znk
 ·exact Zkp
 ·exact Zh5
theorem TOk.fill {t:SetTable} {hs:List Int} (T:TOk t hs):t.fill=hs.length:=by
 unfold SetTable.fill
 rw [T.dum,T.len]
 rfl
theorem TOk.fits {t:SetTable} {hs:List Int} (T:TOk t hs) (h:hs.length<=t.mask):t.fits hs.length=true:=by
 unfold SetTable.fits
 rw [Bool.and_eq_true,beq_iff_eq,decide_eq_true_eq,T.fill]
 exact ⟨T.len,h⟩
theorem TOk.fresh (f m:Nat) (led:Bool):TOk (SetTable.fresh f m led) []:=
 ⟨.inl rfl,rfl,rfl,List.Pairwise.nil,λj hj=>by simp [SetTable.fresh] at hj,λi h j e=>by simp at e⟩
theorem TOk.empty {t:SetTable} {hs:List Int} (T:TOk t hs) (hl:hs.length<=t.mask) (h:Int):∃ n,n+10<10 * SetTable.turns t.mask/\(Za8 t.mask n (st0 t.mask h)).j ∉ t.place.toList:=by
 obtain ⟨j,h1,h2⟩:=Zdo (mask:=t.mask) (l:=t.place.toList) (by rw [Array.length_toList,T.len];exact hl)
 obtain ⟨n,h3,h4⟩:=Zgw T.cov h h1
 exact ⟨n,h3,by rw [h4];exact h2⟩
theorem ZlU {t:SetTable} {j:Nat}:(t.put j).2=SetTable.below t.place j:=rfl
theorem ZbQ {t:SetTable} {j:Nat}:(t.put j).1.place.toList=ins t.place.toList (SetTable.below t.place j) j:=by
 show (SetTable.insertAt t.place (SetTable.below t.place j) j).toList=_
 rw [SetTable.toList_insertAt]
 rfl
theorem TOk.put {t:SetTable} {hs:List Int} (T:TOk t hs) {h:Int} {n:Nat} (hn:(Za8 t.mask n (st0 t.mask h)).j ∉ t.place.toList) (hr:∀ q,q<n->(Za8 t.mask q (st0 t.mask h)).j∈t.place.toList) :
  SetTable.below t.place (Za8 t.mask n (st0 t.mask h)).j<=hs.length/\TOk (t.put (Za8 t.mask n (st0 t.mask h)).j).1 (ins hs (SetTable.below t.place (Za8 t.mask n (st0 t.mask h)).j) h):=by
 have hle:=Zgy t.mask n h
 generalize hj:(Za8 t.mask n (st0 t.mask h)).j=j at hn hle ⊢
 obtain ⟨b1,b2,b3⟩:=Zcw (j:=j) T.rise
 have hb:SetTable.below t.place j<=hs.length:=by rw [<-T.len];exact b1
 have hb':SetTable.below t.place j<=t.place.toList.length:=by rw [Array.length_toList];exact b1
 have pm:∀ x,x∈t.place.toList->x∈(t.put j).1.place.toList:=λx hx=>by rw [ZbQ];exact ins_mem.mpr (.inr hx)
 refine ⟨hb,T.mask,?_,?_,?_,λx hx=>?_,λi g x e1 e2=>?_⟩
 ·show (if SetTable.has t.dummies j=true then SetTable.eraseAt t.dummies (SetTable.below t.dummies j) else t.dummies)=#[]
  rw [T.dum]
  have e:SetTable.has #[] j=false:=by unfold SetTable.has;simp
  rw [e]
  rfl
 ·rw [ZdF hb,<-Array.length_toList,ZbQ,ZdF hb',Array.length_toList,T.len]
 ·unfold Rise
  rw [ZbQ]
  unfold ins
  rw [List.pairwise_append]
  refine ⟨List.Pairwise.sublist (List.take_sublist _ _) T.rise,?_,λa ha b hb2=>?_⟩
  ·refine List.pairwise_cons.mpr ⟨λb hb2=>?_,List.Pairwise.sublist (List.drop_sublist _ _) T.rise⟩
   obtain ⟨k,hk,e⟩:=List.getElem_of_mem hb2
   rw [List.getElem_drop] at e
   rw [List.length_drop] at hk
   have e':t.place[SetTable.below t.place j+k]?=some b:=by
    rw [<-Array.getElem?_toList,List.getElem?_eq_getElem (by omega),e]
   have h1:=b3 _ _ (Nat.le_add_right _ _) e'
   have h2:j≠b:=λz=>hn (z▸ZcZ e')
   omega
  ·have hlt:a<j:=by
    obtain ⟨k,hk,e⟩:=List.getElem_of_mem ha
    rw [List.getElem_take] at e
    rw [List.length_take] at hk
    have e':t.place[k]?=some a:=by rw [<-Array.getElem?_toList,List.getElem?_eq_getElem (by omega),e]
    exact b2 k a (by omega) e'
   rcases List.mem_cons.mp hb2 with rfl | hb2
   ·exact hlt
   ·obtain ⟨k,hk,e⟩:=List.getElem_of_mem hb2
    rw [List.getElem_drop] at e
    rw [List.length_drop] at hk
    have e':t.place[SetTable.below t.place j+k]?=some b:=by
     rw [<-Array.getElem?_toList,List.getElem?_eq_getElem (by omega),e]
    have h1:=b3 _ _ (Nat.le_add_right _ _) e'
    omega
 ·rw [ZbQ] at hx
  rcases ins_mem.mp hx with rfl | hx
  ·exact hle
  ·exact T.le x hx
 ·rw [<-Array.getElem?_toList,ZbQ,Zfb hb'] at e2
  rw [Zfb hb] at e1
  by_cases c1:i<SetTable.below t.place j
  ·rw [if_pos c1] at e1 e2
   obtain ⟨m,r1,r2⟩:=T.rch i g x e1 (by rw [<-Array.getElem?_toList];exact e2)
   exact ⟨m,r1,λq hq=>pm _ (r2 q hq)⟩
  ·rw [if_neg c1] at e1 e2
   by_cases c2:i=SetTable.below t.place j
   ·rw [if_pos c2] at e1 e2
    cases e1
    cases e2
    exact ⟨n,hj,λq hq=>pm _ (hr q hq)⟩
   ·rw [if_neg c2] at e1 e2
    obtain ⟨m,r1,r2⟩:=T.rch (i-1) g x e1 (by rw [<-Array.getElem?_toList];exact e2)
    exact ⟨m,r1,λq hq=>pm _ (r2 q hq)⟩
abbrev Zg7 (es:Array (Int×Value)):List Int:=es.toList.map (·.1)
structure SOk (t:SetTable) (es:Array (Int×Value)):Prop where
 T:TOk t (Zg7 es)
 room:es.size * 5<t.mask * 3
theorem ZbF (es:Array (Int×Value)):(Zg7 es).length=es.size:=by rw [List.length_map,Array.length_toList]
theorem SOk.le {t:SetTable} {es:Array (Int×Value)} (S:SOk t es):(Zg7 es).length<=t.mask:=by
 have:=S.room
 rw [ZbF]
 omega
theorem SOk.fits {t:SetTable} {es:Array (Int×Value)} (S:SOk t es):t.fits es.size=true:=by
 have:=S.T.fits S.le
 rw [ZbF] at this
 exact this
theorem SOk.fresh (f m:Nat) (led:Bool):SOk (SetTable.fresh f m led) #[]:=⟨TOk.fresh f m led,by show 0 * 5<7 * 3;decide⟩
theorem ZeC (es:Array (Int×Value)) (p:Nat) (h:Int) (x:Value):Zg7 (SetTable.insertAt es p (h,x))=ins (Zg7 es) p h:=by
 unfold Zg7
 rw [SetTable.toList_insertAt]
 exact Zi5 (·.1) es.toList p (h,x)
theorem ZdG (es:Array (Int×Value)) (p:Nat) (x:Int×Value):(SetTable.insertAt es p x).size=es.size+1:=by
 rw [<-Array.length_toList,(SetTable.insertAt_perm es p x).length_eq,Array.length_toList,Array.size_push]
theorem SOk.put {t:SetTable} {es:Array (Int×Value)} (S:SOk t es) {h:Int} {n:Nat} (x:Value) (hn:(Za8 t.mask n (st0 t.mask h)).j ∉ t.place.toList) (hr:∀ q,q<n->(Za8 t.mask q (st0 t.mask h)).j∈t.place.toList) :
  TOk (t.put (Za8 t.mask n (st0 t.mask h)).j).1 (Zg7 (SetTable.insertAt es (t.put (Za8 t.mask n (st0 t.mask h)).j).2 (h,x)))/\(t.put (Za8 t.mask n (st0 t.mask h)).j).1.fits (es.size+1)=true:=by
 obtain ⟨h1,h2⟩:=S.T.put hn hr
 rw [ZlU,ZeC]
 refine ⟨h2,?_⟩
 have h3:=h2.fits (by rw [ZdF h1,ZbF];show es.size+1<=t.mask;have:=S.room;rcases S.T.mask with e | e | e <;> omega)
 rw [ZdF h1,ZbF] at h3
 exact h3
theorem Zed {es:Array (Int×Value)} {od:Array Nat} (h:od.toList.Perm (List.range es.size)) (r:Nat):(od.filterMap (es[·]?))[r]?=(od[r]?).bind (es[·]?):=by
 rw [<-Array.getElem?_toList,Array.toList_filterMap,ZcB _ _ (λx hx=>?_),Array.getElem?_toList]
 have:=List.mem_range.mp (h.mem_iff.mp hx)
 rw [Array.getElem?_eq_getElem this]
 rfl
theorem Zbp {es:Array (Int×Value)} {od:Array Nat} (h:od.toList.Perm (List.range es.size)):(od.filterMap (es[·]?)).toList.Perm es.toList:=by
 rw [Array.toList_filterMap]
 exact (h.filterMap _).trans (by rw [PySem.filterMap_getElem?_range])
theorem ZhA {t:SetTable} {es:Array (Int×Value)} (T:TOk t (Zg7 es)) (hn:es.size=5/\t.mask=7\/es.size=19/\t.mask=31) :
  ∃ t2 od,t.relaid (es.map (·.1)) (SetTable.grown es.size)=some (t2,od)/\od.toList.Perm (List.range es.size)/\SOk t2 (od.filterMap (es[·]?))/\t2.led=t.led/\t2.plain=t.plain/\SetTable.sizeAbove (SetTable.grown es.size)<=128:=by
 have hsz:(es.map (·.1)).size=es.size:=Array.size_map
 have hm:∃ m,SetTable.sizeAbove (SetTable.grown es.size)-1=m/\(m=31\/m=127)/\es.size * 5<m * 3/\SetTable.sizeAbove (SetTable.grown es.size)<=128:=by
  rcases hn with ⟨e,_⟩ | ⟨e,_⟩ <;> rw [e]
  ·exact ⟨31,by decide,.inl rfl,by decide,by decide⟩
  ·exact ⟨127,by decide,.inr rfl,by decide,by decide⟩
 obtain ⟨m,e,hmm,hroom,h128⟩:=hm
 have hc:ZfL (m+1)=true:=by
  rcases hmm with rfl | rfl
  ·exact Zkp
  ·exact Zh5
 obtain ⟨t2,od,e2,L⟩:=ZgB hc t.finger (t.movedTo m) t.led t.plain (es.map (·.1)) (by rw [hsz];omega)
 have hp:=L.perm
 rw [hsz] at hp
 refine ⟨t2,od,by unfold SetTable.relaid;rw [e];exact e2,hp,⟨⟨by rw [L.tm];exact .inr hmm,L.td,?_,L.rise,by rw [L.tm];exact L.le,λi h j e1 e3=>?_⟩,?_⟩,L.tl,L.tp,h128⟩
 ·rw [L.sz,hsz,ZbF]
  have:=(Zbp hp).length_eq
  rw [Array.length_toList,Array.length_toList] at this
  exact this.symm
 ·rw [L.tm]
  have e1':((od[i]?).bind (es[·]?)).map (·.1)=some h:=by
   rw [<-Zed hp,<-Array.getElem?_toList,<-List.getElem?_map]
   exact e1
  cases hq:od[i]? with
  | none=>rw [hq] at e1';cases e1'
  | some q=>
   rw [hq] at e1'
   exact L.rch i q j h hq e3 (by rw [Array.getElem?_map];exact e1')
 ·rw [L.tm]
  have:=(Zbp hp).length_eq
  rw [Array.length_toList,Array.length_toList] at this
  rw [this]
  exact hroom
theorem ZgC {t:SetTable} {es:Array (Int×Value)} (S:SOk t es) (h76:es.size+1<=76) {t1:SetTable} {hs1:List Int} (T1:TOk t1 hs1) (hl:hs1.length=es.size+1) (hm:t1.mask=t.mask) :
  (t1.tooFull=true/\(es.size+1=5/\t1.mask=7\/es.size+1=19/\t1.mask=31))\/(t1.tooFull=false/\(es.size+1) * 5<t1.mask * 3):=by
 have hr:=S.room
 have e:t1.tooFull=decide ((es.size+1) * 5>=t1.mask * 3):=by
  unfold SetTable.tooFull
  rw [T1.fill,hl]
 rw [e]
 by_cases h:(es.size+1) * 5>=t1.mask * 3
 ·refine .inl ⟨decide_eq_true h,?_⟩
  rcases T1.mask with q | q | q
  ·left;omega
  ·right;omega
  ·omega
 ·exact .inr ⟨decide_eq_false h,by omega⟩
theorem ZgD {t:SetTable} {es:Array (Int×Value)} (S:SOk t es) (h:Int) (x:Value) :
  ∃ es1 t1,layNew t es h x=(es1,t1,false,false)/\TOk t1 (Zg7 es1)/\t1.fits es1.size=true/\es1.size=es.size+1/\t1.mask=t.mask/\t1.led=t.led/\t1.plain=t.plain:=by
 obtain ⟨n0,h0,f0⟩:=S.T.empty S.le h
 rcases Zgz (t:=t) (ha:=λ_=>h+1) (h:=h) S.T.rise S.T.dum (10 * SetTable.turns t.mask) (st0 t.mask h) ⟨n0,by omega,f0⟩ with ⟨n,g1,g2,g3⟩ | ⟨n,i,_,_,g3,_⟩
 ·obtain ⟨p1,p2⟩:=S.put x g2 λq hq=>by obtain ⟨i,hi,_⟩:=g3 q hq;exact ZcZ hi
  have ef:t.freeSlot h=some ((Za8 t.mask n (st0 t.mask h)).j,false):=by
   unfold SetTable.freeSlot SetTable.probe
   rw [Zkq,g1]
   rfl
  have hsz:(SetTable.insertAt es (t.put (Za8 t.mask n (st0 t.mask h)).j).2 (h,x)).size=es.size+1:=ZdG _ _ _
  refine ⟨_,_,?_,p1,by rw [hsz];exact p2,hsz,rfl,rfl,rfl⟩
  unfold layNew
  rw [ef]
  dsimp only
  unfold SetTable.orStandIn
  rw [hsz,if_pos p2,p2]
  rfl
 ·omega
theorem ZeD {t:SetTable} {es:Array (Int×Value)} (T:TOk t (Zg7 es)) (hn:es.size=5/\t.mask=7\/es.size=19/\t.mask=31) :
  ∃ es2 t2,relayAll t es (SetTable.grown es.size)=(es2,t2,false)/\es2.toList.Perm es.toList/\SOk t2 es2/\t2.led=t.led/\t2.plain=t.plain:=by
 obtain ⟨t2,od,e,hp,S,h1,h2,_⟩:=ZhA T hn
 refine ⟨_,t2,?_,Zbp hp,S,h1,h2⟩
 unfold relayAll
 rw [e]
 dsimp only
 have hc:coversAll od es.size=true:=by unfold coversAll;exact List.isPerm_iff.mpr hp
 rw [hc,S.fits]
 rfl
end L2
namespace L2
open PySem PySem.Spec PyProof.Rows
theorem sit_slot_next:Slot "set_iterator" "__next__" "set_iterator.__next__" := by
 refine .of (owner := "set_iterator") (n := "__next__") ?_ (by decide +kernel) (by decide +kernel) (by decide +kernel) ?_ ?_
 ·rw [typeLookup_type,builtinLookup_eq_fast];kernel_rfl
 ·first | exact .inl (by decide +kernel) | exact .inr (by decide +kernel)
 ·rw [isSubtype_type];kernel_rfl
theorem Zcm:Slot "set_iterator" "__iter__" "set_iterator.__iter__" := by
 refine .of (owner := "set_iterator") (n := "__iter__") ?_ (by decide +kernel) (by decide +kernel) (by decide +kernel) ?_ ?_
 ·rw [typeLookup_type,builtinLookup_eq_fast];kernel_rfl
 ·first | exact .inl (by decide +kernel) | exact .inr (by decide +kernel)
 ·rw [isSubtype_type];kernel_rfl
theorem Zb8:entryFor table "set_iterator.__next__" = some Builtin.«set_iterator.__next__»:=by
 first | exact entryFor_of_tree (by kernel_rfl) | exact entryFor_of_fast (by kernel_rfl)
theorem Zcn (a:Value):argsOk "set_iterator.__next__" ⟨[a],[]⟩:=by
 unfold argsOk;kernel_rfl
theorem Zdb:entryFor table "set.__iter__" = some Builtin.«frozenset.__iter__»:=by
 first | exact entryFor_alias (id' := "frozenset.__iter__") (by kernel_rfl) (by decide +kernel) (by decide +kernel) (by kernel_rfl) | exact entryFor_alias (id' := "frozenset.__iter__") (by kernel_rfl) rfl (by decide +kernel) (by kernel_rfl)
end L2
namespace L2
open PySem PySem.Spec PyProof.Rows
def ZbR (w:World):Bool:=w.params.followText "set-order"
section
variable {P:Program} {w:World} {A:Around} {E:Value->Shared->Prop} {s:Shared}
theorem Zc0 {Q:Bool->Shared->Prop} (h:Q (ZbR w) s):wpAny (model P w) A setsByText Q E s:=by
 unfold setsByText
 exact wpAny_bind (wpAny_askSetting (wpAny_pure h))
def Zfy (P:Program) (w:World) (e:Int×Value) (n:Int):Prop:=e.1=(intKind P w).hash n/\∃ tk,e.2=Value.int n tk
def SetI (P:Program) (w:World) (o:Obj) (σ:List Int):Prop:=∃ es ep t,o.ExactSet/\o.data=.set es ep t/\Paired (Zfy P w) es.toList σ/\σ.Nodup/\SOk t es/\t.plain=true/\t.led=!ZbR w
theorem Zh8 {e:Int×Value} {n m:Int} (h:Zfy P w e n):(intKind P w).is m e.2=decide (m=n):=by
 obtain ⟨_,tk,e2⟩:=h
 rw [e2]
 exact KeyKind.is_eq_decide (intKind_is _ _ _ _) m
theorem Zdp:∀ {l:List (Int×Value)} {σ:List Int},Paired (Zfy P w) l σ->ElemsOf (intKind P w) l
 | _,_,.nil=>λe he=>by simp at he
 | _,_,.cons h t=>λe he=>by
  rcases List.mem_cons.mp he with rfl | he
  ·obtain ⟨h1,tk,h2⟩:=h
   exact ⟨⟨_,by rw [h2];exact intKind_is _ _ _ _,h1⟩,by rw [h2];rfl⟩
  ·exact Zdp t e he
theorem ZdH:∀ {l:List (Int×Value)} {σ:List Int},Paired (Zfy P w) l σ->∀ n:Int,n∈σ↔∃ e∈l,(intKind P w).is n e.2=true
 | _,_,.nil,n=>by simp
 | _,_,.cons (a:=a) (b:=b) h t,n=>by
  rw [List.mem_cons,ZdH t n]
  constructor
  ·rintro (rfl | ⟨e,he,hq⟩)
   ·exact ⟨a,List.mem_cons_self,by rw [Zh8 h];exact decide_eq_true rfl⟩
   ·exact ⟨e,List.mem_cons_of_mem _ he,hq⟩
  ·rintro ⟨e,he,hq⟩
   rcases List.mem_cons.mp he with rfl | he
   ·rw [Zh8 h] at hq
    exact .inl (of_decide_eq_true hq)
   ·exact .inr ⟨e,he,hq⟩
theorem Zc1 {l l':List (Int×Value)} (p:l'.Perm l):∀ {σ:List Int},Paired (Zfy P w) l σ->∃ σ',Paired (Zfy P w) l' σ'/\σ'.Perm σ:=by
 induction p with
 | nil=>intro σ h;cases h;exact ⟨[],.nil,.refl _⟩
 | cons x _ ih=>
  intro σ h
  cases h with
  | cons h t=>
   obtain ⟨σ',h1,h2⟩:=ih t
   exact ⟨_,.cons h h1,h2.cons _⟩
 | swap x y l=>
  intro σ h
  cases h with
  | cons h t=>
   cases t with
   | cons h' t=>exact ⟨_,.cons h' (.cons h t),.swap _ _ _⟩
 | trans _ _ ih1 ih2=>
  intro σ h
  obtain ⟨σ1,h1,p1⟩:=ih2 h
  obtain ⟨σ2,h2,p2⟩:=ih1 h1
  exact ⟨σ2,h2,p2.trans p1⟩
theorem Zfc:∀ {l k:List (Int×Value)} {σ τ:List Int},Paired (Zfy P w) l σ->Paired (Zfy P w) k τ->Paired (Zfy P w) (l++k) (σ++τ)
 | _,_,_,_,.nil,h=>h
 | _,_,_,_,.cons h t,k=>.cons h (Zfc t k)
theorem Zee {h:Heap} {a:Addr} {o:Obj} {es:Array (Int×Value)} {ep:Nat} {t:SetTable} (ho:h.get? a=some o) (hd:o.data=.set es ep t) (es':Array (Int×Value)) (t':SetTable) :
  (h.update a (Obj.putSet es' t')).get? a=some { o with data:=.set es' (ep+1) t' }:=by
 have:=Heap.get?_update_self (Obj.putSet es' t') ho (by rw [putSet_of es' t' hd];rfl)
 rw [putSet_of es' t' hd] at this
 exact this
theorem Zi6 {a:Addr} {o:Obj} {σ:List Int} {n:Int} {tk:Tok} {Q:Bool->Shared->Prop} (ho:s.heap.get? a=some o) (hS:SetI P w o σ) (h76:σ.length+1<=76)
  (h:∀ (b:Bool) (h':Heap) (o':Obj) (σ':List Int),Heap.SameBut a s.heap h'->h'.get? a=some o'->SetI P w o' σ'->σ'.Perm (if n∈σ then σ else σ++[n])->Q b { s with heap:=h' }) :
  wpAny (model P w) A (setAddHashed a (.int n tk) ((intKind P w).hash n)) Q E s:=by
 obtain ⟨es,ep,t,hx,hd,hE,hnd,S,hpl,hled⟩:=id hS
 have hel:=Zdp hE
 have hlen:=Paired.length hE
 rw [Array.length_toList] at hlen
 have hf:=S.fits
 have h4096:scanBound=4096:=rfl
 unfold setAddHashed setAddHashedIn
 refine wpAny_holding (wpAny_bind (wpAny_setState_of ho hd hf ?_))
 dsimp only
 rw [byScan_of (knd:=intKind P w) (x:=.int n tk) rfl (by omega) hel,if_pos rfl]
 unfold setAddByScan
 refine wpAny_bind (wpAny_bind (wpAny_rule (wpAny_bind (wpAny_setScan_of (intKind_is P w n tk) ho hd hf hel ?_))))
 cases hr:List.findIdx? (λe=>(intKind P w).is n e.2) es.toList with
 | some j=>
  obtain ⟨hj,hpj,_⟩:=List.findIdx?_eq_some_iff_getElem.mp hr
  have hin:n∈σ:=(ZdH hE n).mpr ⟨_,List.getElem_mem hj,hpj⟩
  refine wpAny_pure (wpAny_pure ?_)
  exact h false s.heap o σ (Heap.SameBut.refl a s.heap) ho hS (by rw [if_pos hin])
 | none=>
  have hnot:n ∉ σ:=λhin=>by
   obtain ⟨e,he,hq⟩:=(ZdH hE n).mp hin
   have:=List.findIdx?_eq_none_iff.mp hr e he
   rw [hq] at this;cases this
  obtain ⟨es1,t1,eL,T1,hf1,hz1,hm1,hl1,hp1⟩:=ZgD S ((intKind P w).hash n) (.int n tk)
  have hperm:=layNew_perm t es ((intKind P w).hash n) (.int n tk)
  dsimp only
  rw [eL] at hperm ⊢
  dsimp only at hperm ⊢
  rw [Array.toList_push] at hperm
  have hE1:Paired (Zfy P w) (es.toList++[((intKind P w).hash n,Value.int n tk)]) (σ++[n]):=Zfc hE (.cons ⟨rfl,tk,rfl⟩ .nil)
  obtain ⟨σ1,hE2,hp2⟩:=Zc1 hperm hE1
  have hnd1:(σ++[n]).Nodup:=List.nodup_append.mpr ⟨hnd,by simp,λa ha b hb=>by
   rw [List.mem_singleton] at hb
   subst hb
   intro z
   exact hnot (z▸ha)⟩
  refine wpAny_bind (wpAny_pure ?_)
  rw [hp1,hpl,if_pos rfl]
  refine wpAny_bind ?_
  rw [hashByValue_scannable 8 (x:=.int n tk) rfl]
  refine wpAny_pure ?_
  dsimp only [plainKind]
  rw [if_pos rfl]
  have hz:es1.size<=sizeLine:=by rw [sizeLine_eq];omega
  refine wpAny_bind (wpAny_storeSet_of ho hd ?_ hz)
  have ho1:=Zee ho hd es1 t1
  have sb1:=Heap.SameBut.update s.heap a (Obj.putSet es1 t1)
  rcases ZgC S (by omega) T1 (by rw [ZbF];exact hz1) hm1 with ⟨hfull,hwhen⟩ | ⟨hfull,hroom⟩
  ·rw [hfull,if_pos (show (!false && true)=true from rfl)]
   rw [<-hz1] at hwhen
   obtain ⟨es2,t2,eR,hp3,S2,hl2,hpl2⟩:=ZeD T1 hwhen
   rw [eR]
   obtain ⟨σ2,hE3,hp4⟩:=Zc1 hp3 hE2
   have hz2:es2.size=es1.size:=by
    have:=hp3.length_eq
    rw [Array.length_toList,Array.length_toList] at this
    exact this
   refine wpAny_bind (wpAny_pure ?_)
   refine wpAny_bind (wpAny_storeSet_of ho1 rfl ?_ (by rw [hz2];exact hz))
   refine wpAny_pure (wpAny_pure (h true _ _ σ2 (sb1.trans (Heap.SameBut.update _ a _)) (Zee ho1 rfl es2 t2) ⟨es2,_,t2,hx,rfl,hE3,(hp4.trans hp2).nodup_iff.mpr hnd1,S2,by rw [hpl2,hp1,hpl],by rw [hl2,hl1,hled]⟩ ?_))
   rw [if_neg hnot]
   exact hp4.trans hp2
  ·rw [hfull,if_neg (show ¬ ((!false && false)=true) from Bool.false_ne_true)]
   refine wpAny_pure (wpAny_pure (h true _ _ σ1 sb1 ho1 ⟨es1,_,t1,hx,rfl,hE2,hp2.nodup_iff.mpr hnd1,⟨T1,by rw [hz1];exact hroom⟩,by rw [hp1,hpl],by rw [hl1,hled]⟩ ?_))
   rw [if_neg hnot]
   exact hp2
end
end L2
namespace L2
open PySem PySem.Spec PyProof.Rows
def ZaX (w:World):Obj:={ cls:=.type "set", dict:=none,data:=.set #[] 0 (.fresh 0 0 (!ZbR w)) }
theorem ZhB (P:Program) (w:World):SetI P w (ZaX w) []:=⟨#[],0,_,⟨rfl,rfl,rfl⟩,rfl,.nil,List.nodup_nil,SOk.fresh 0 0 _,rfl,rfl⟩
section
variable {P:Program} {w:World} {A:Around} {E:Value->Shared->Prop} {s:Shared}
theorem ZhC (a:Value) {Q1:Value->Shared->Prop} (h:Q1 (.ref s.heap.objs.size) { s with heap:=s.heap.push (ZaX w) }) :
  codeAny (model P w) A (.call (.builtin "set.__new__") ⟨[.type "set", a],[]⟩) (wants Q1 E) s:=by
 apply codeAny_of_tree
 show wpAny _ A.in1 (checkBuiltinCall "set.__new__" ⟨[.type "set", a],[]⟩ >>= λ_=>again (.builtin "set.__new__" ⟨[.type "set", a],[]⟩)) _ _ s
 apply wpAny_bind
 apply wpAny_of_eq (F.newCall_set_1 a)
 refine wpAny_pure ⟨plainId_quiet F.plain_set_new _,?_⟩
 apply codeAny_builtin F.entry_set_new
 rw [Around.under_plainId F.plain_set_new _]
 unfold Builtin.«set.__new__» Builtin.Frozenset.newClass
 have hsb:=sub_set_self
 obtain ⟨hp,g,d,tk,os⟩:=s
 dsimp only
 wp_walk
 apply wpAny_askSetting
 apply wpAny_pure
 dsimp only
 simp only [newObj]
 apply wpAny_bind
 apply wpAny_alloc
 apply wpAny_pure
 apply wpAny_pure
 exact h
theorem ZhD {I:Addr} {fp wr:List Addr} {G:Array GenState->Array GenState->Prop} {n:Nat} {Pv:Nat->Value->Prop} {St:Nat->Shared->Prop} {R:Result->Shared->Prop}
  (W:WalksS P w A.in1 I fp wr G n Pv St) (S:Addr) (hSf:S ∉ fp) (J:Nat->Obj->Prop) (Kp:Heap->Prop) (hK:∀ h h':Heap,Kp h->(∀ b o,b ∉ S::wr->h.get? b=some o->h'.get? b=some o)->Kp h')
  (hadd:∀ (i:Nat) (v:Value) (s1:Shared) (o:Obj) (Q:Bool->Shared->Prop) (E1:Value->Shared->Prop),i<n->Pv i v->Kp s1.heap->s1.heap.get? S=some o->J i o ->
   (∀ (b:Bool) (h':Heap) (tk:Nat) (o':Obj),s1.toks<=tk->Heap.SameBut S s1.heap h'->h'.get? S=some o'->J (i+1) o'->Q b { s1 with heap:=h',toks:=tk })->wpAny (model P w) A.in1 (setAdd S v) Q E1 s1) :
  ∀ (k i:Nat) (s:Shared) (o:Obj),n-i=k->i<=n->St i s->Kp s.heap->s.heap.get? S=some o->J i o ->
   (∀ (s':Shared) (o':Obj),Moved (S::wr) G s s'->s'.heap.get? S=some o'->J n o'->R (.ok (.ret .none)) s') ->
   codeAny (model P w) A (.builtin "set.update.loop" ⟨[.ref S,.ref I],[]⟩) R s:=by
 have hSw:S ∉ wr:=λz=>hSf (W.sub _ z)
 have up:∀ b∈wr,b∈S::wr:=λb z=>List.mem_cons_of_mem _ z
 intro k
 induction k with
 | zero=>
  intro i s o hk hi st kp ho hj hR
  have e:i=n:=by omega
  subst e
  apply codeAny_builtin PyProof.Rows.F.entry_set_update_loop
  rw [Around.under_plainId PyProof.Rows.F.plain_set_update_loop _]
  apply wpAny_bind
  refine W.done s _ _ st λs1 hm=>?_
  apply wpAny_pure
  exact hR s1 o (hm.mono up) (hm.heap S _ hSw ho) hj
 | succ k ih=>
  intro i s o hk hi st kp ho hj hR
  have hlt:i<n:=by omega
  apply codeAny_builtin PyProof.Rows.F.entry_set_update_loop
  rw [Around.under_plainId PyProof.Rows.F.plain_set_update_loop _]
  apply wpAny_bind
  refine W.item i s _ _ hlt st λv s1 hv st1 hm=>?_
  have ho1:=hm.heap S _ hSw ho
  have kp1:Kp s1.heap:=hK _ _ kp λb o' hb e=>hm.heap b o' (λz=>hb (up _ z)) e
  apply wpAny_bind
  apply wpAny_holding
  refine hadd i v s1 o _ _ hlt hv kp1 ho1 hj λb h' tk o' htk sb ho' hj'=>?_
  refine wpAny_pure ⟨plainId_quiet PyProof.Rows.F.plain_set_update_loop _,ih (i+1) _ o' (by omega) hlt (W.frame _ s1 _ _ st1 htk λb hb o2 e=>?_) (hK _ _ kp1 λb o2 hb e=>?_) ho' hj' λs2 o2 hm2 ho2 hj2=>?_⟩
  ·rw [sb.2 b (λz:b=S=>hSf (z▸hb))];exact e
  ·show h'.get? b=some o2
   rw [sb.2 b (λz:b=S=>hb (by rw [z];exact List.mem_cons_self))];exact e
  ·refine hR s2 o2 (Moved.trans W.gtrans ((hm.mono up).then_heap htk λb o3 hb e=>?_) hm2) ho2 hj2
   rw [sb.2 b (λz:b=S=>hb (by rw [z];exact List.mem_cons_self))];exact e
theorem ZgE {l:Addr} {items:Array Value} {Q:Value->Shared->Prop} (hh:A.handled=none) (hl:s.heap.IsList l items) (J:Nat->Obj->Prop) (Kp:Heap->Prop)
  (h0:J 0 (ZaX w)) (hK0:∀ h':Heap,(∀ b o,b<s.heap.objs.size->s.heap.get? b=some o->h'.get? b=some o)->Kp h')
  (hadd:∀ (i:Nat) (v:Value) (s1:Shared) (o:Obj) (Q:Bool->Shared->Prop) (E1:Value->Shared->Prop),i<items.size->items[i]?=some v->Kp s1.heap->s1.heap.get? s.heap.objs.size=some o->J i o ->
   (∀ (b:Bool) (h':Heap) (tk:Nat) (o':Obj),s1.toks<=tk->Heap.SameBut s.heap.objs.size s1.heap h'->h'.get? s.heap.objs.size=some o'->J (i+1) o'->Q b { s1 with heap:=h',toks:=tk })->wpAny (model P w) A.in1.in1.in1 (setAdd s.heap.objs.size v) Q E1 s1)
  (h:∀ (h':Heap) (tk:Nat) (o':Obj),h'.get? s.heap.objs.size=some o'->J items.size o'->(∀ b o,b<s.heap.objs.size->s.heap.get? b=some o->h'.get? b=some o)->Q (.ref s.heap.objs.size) { s with heap:=h',toks:=tk }) :
  wpAny (model P w) A (call (.type "set") [.ref l]) Q E s:=by
 obtain ⟨c,tl,hmro⟩:=F.called_set.mro
 have hmade:=F.called_set.made
 have hsub:=F.called_set.sub
 apply wpAny_call
 apply codeAny_of_tree
 show wpAny _ _ (callAny (.type "set") _) _ _ _
 refine wpAny_pure ⟨Code.quiet_builtin _ (by decide +kernel),?_⟩
 apply codeAny_builtin F.entry_type_call
 rw [Around.under_plain (weight_type_call_type "set" [.ref l] []) rfl]
 have h1:=F.called_set.notType
 have h2:=F.called_set.canCreate
 have hct:=F.typeCall_set_1 (.ref l)
 repeat (any_goals (first | assumption | wp_step))
 refine codeAny_mono (ZhC (.ref l) (E:=E) (Q1:=λobj s1=>obj=.ref s.heap.objs.size/\s1={ s with heap:=s.heap.push (ZaX w) }) ⟨rfl,rfl⟩) λr s1 hr=>?_
 cases r with
 | error e=>exact hr
 | ok fl=>
  cases fl with
  | ret obj=>
   obtain ⟨rfl,rfl⟩:=hr
   have hS:(s.heap.push (ZaX w)).get? s.heap.objs.size=some (ZaX w):=Heap.get?_push_size _ rfl
   have hT:Shared.TypeIs { s with heap:=s.heap.push (ZaX w) } (.ref s.heap.objs.size) "set" := ⟨_,hS,rfl⟩
   have hli:=F.called_set.init.lookup
   have hbi:=F.called_set.init.bind (.ref s.heap.objs.size)
   repeat (any_goals (first | assumption | wp_step))
   refine codeAny_mono (codeAny_call_builtin (R:=wants (λr s2=>r=.none/\∃ (h':Heap) (tk:Nat) (o':Obj),s2={ s with heap:=h',toks:=tk }/\h'.get? s.heap.objs.size=some o'/\J items.size o' /\
     (∀ b o,b<s.heap.objs.size->s.heap.get? b=some o->h'.get? b=some o)) E) F.called_set.init.plain F.entry_set_init (check_set_init_1 hT ?_)) λr2 s2 hr2=>?_
   ·obtain ⟨ol,hol,hcl,nl,hdl⟩:=hl
    obtain ⟨ocls,odict,odata,oslots⟩:=ol
    simp only at hcl hdl
    subst hcl;subst hdl
    have hol':(s.heap.push (ZaX w)).get? l=some { cls:=.type "list", dict:=odict,data:=.seq items nl,slots:=oslots }:=Heap.get?_push_of_some _ hol
    have hsls:=F.sub_list_set
    have hslf:=F.sub_list_frozenset
    have hne:(Value.type "list" == Value.type "dict")=false:=by decide
    have hl1:(s.heap.push (ZaX w)).IsList l items:=⟨_,hol',rfl,nl,rfl⟩
    have hS':(s.heap.push (ZaX w)).get? s.heap.objs.size=some { cls:=.type "set", dict:=none,data:=.set #[] 0 (.fresh 0 0 (!ZbR w)) }:=hS
    unfold Builtin.«set.__init__» noKeywords Builtin.Frozenset.updateFrom
    generalize hPI:pyIter=PI
    wp_walk
    subst hPI
    apply wpAny_pyIter_list hl1
    apply wpAny_bind
    apply wpAny_runValue
    have hlS:l<s.heap.objs.size:=Heap.lt_size hol
    have hh3:A.in1.in1.in1.handled=none:=by simp [hh]
    have hz:(s.heap.push (ZaX w)).objs.size=s.heap.objs.size+1:=Heap.size_push ..
    have hneI:l≠(s.heap.push (ZaX w)).objs.size:=by rw [hz];exact Nat.ne_of_lt (Nat.lt_succ_of_lt hlS)
    have hSf:s.heap.objs.size ∉ [(s.heap.push (ZaX w)).objs.size,l]:=by
     rw [hz]
     intro z
     rcases List.mem_cons.mp z with z | z
     ·exact Nat.ne_of_lt (Nat.lt_succ_self _) z
     ·exact Nat.ne_of_gt hlS (List.mem_singleton.mp z)
    have kold:∀ b o,b<s.heap.objs.size->s.heap.get? b=some o->((s.heap.push (ZaX w)).push { cls:=.type "list_iterator", data:=.fields #[.ref l,.int 0 0] }).get? b=some o:=
     λb o _ e=>Heap.get?_push_of_some _ (Heap.get?_push_of_some _ e)
    refine ZhD ((Walks.list hh3 _ l hneI items).toS) s.heap.objs.size hSf J (λh'=>∀ b o,b<s.heap.objs.size->s.heap.get? b=some o->h'.get? b=some o) ?_ ?_ (items.size-0) 0 _ (ZaX w) (by omega) (Nat.zero_le _)
     ⟨⟨_,Heap.get?_push_size _ rfl,rfl,rfl⟩,(hl1.push _)⟩ kold (Heap.get?_push_of_some _ hS) h0 ?_
    ·intro ha hb hab hst b o hlt e
     refine hst b o ?_ (hab b o hlt e)
     intro z
     rcases List.mem_cons.mp z with z | z
     ·exact Nat.ne_of_lt hlt z
     ·exact Nat.ne_of_lt (Nat.lt_succ_of_lt hlt) ((List.mem_singleton.mp z).trans hz)
    ·intro i v s1 o Q1 E1 hi hv kp ho hj hq
     exact hadd i v s1 o Q1 E1 hi hv (hK0 _ kp) ho hj hq
    ·intro s' o' hm ho' hj'
     obtain ⟨h',g',d',tk',os'⟩:=s'
     have eg:g'=s.gens:=hm.gens
     have ed:d'=s.drawn:=hm.drawn
     have eo:os'=s.os:=hm.os
     subst eg;subst ed;subst eo
     apply wpAny_pure
     refine wpAny_pure ⟨rfl,h',tk',o',rfl,ho',hj',λb o hb e=>?_⟩
     refine hm.heap b o ?_ (Heap.get?_push_of_some _ (Heap.get?_push_of_some _ e))
     intro z
     rcases List.mem_cons.mp z with z | z
     ·exact Nat.ne_of_lt hb z
     ·exact Nat.ne_of_lt (Nat.lt_succ_of_lt hb) ((List.mem_singleton.mp z).trans hz)
   ·cases r2 with
    | error e=>exact hr2
    | ok fl2=>
     cases fl2 with
     | ret r=>
      obtain ⟨rfl,h',tk,o',rfl,ho',hj',hk'⟩:=hr2
      repeat (any_goals (first | assumption | wp_step))
      exact h _ _ _ ho' hj' hk'
     | _=>exact hr2.elim
  | _=>exact hr.elim
end
end L2
namespace L2
open PySem PySem.Spec PyProof.Rows
theorem ZgF {α:Type} (next:Nat->Nat):∀ (fuel k:Nat) (left:List α) (out:Array α),left.length=fuel->(pickOrder.go next fuel k left out).toList.Perm (out.toList++left)
 | 0,k,left,out,h=>by
  have:left=[]:=List.length_eq_zero_iff.mp h
  subst this
  unfold pickOrder.go
  simp
 | fuel+1,k,left,out,h=>by
  have hlt:next k % left.length<left.length:=Nat.mod_lt _ (by omega)
  unfold pickOrder.go
  rw [List.getElem?_eq_getElem hlt]
  dsimp only
  refine (ZgF next fuel (k+1) _ _ (by rw [List.length_eraseIdx,if_pos hlt];omega)).trans ?_
  rw [Array.toList_push]
  exact Zdy left out.toList _ _ (List.getElem?_eq_getElem hlt)
theorem ZgG {α:Type} (next:Nat->Nat) (xs:Array α):(pickOrder next xs).toList.Perm xs.toList:=by
 unfold pickOrder
 have:=ZgF next xs.size 0 xs.toList #[] (by simp)
 simpa using this
def Zco (t:SetTable):Nat->Nat
 | 0=>0
 | i+1=>t.place.getD i 0+1
theorem Zfz {t:SetTable} (hr:Rise t.place) {i:Nat} (hi:i<=t.place.size):SetTable.below t.place (Zco t i)=i:=by
 obtain ⟨b1,b2,b3⟩:=Zcw (j:=Zco t i) hr
 have lo:∀ q a,q<i->t.place[q]?=some a->a<Zco t i:=λq a hq ha=>by
  cases i with
  | zero=>omega
  | succ i=>
   have hi':i<t.place.size:=by omega
   have e:t.place.getD i 0=t.place[i]:=by rw [Array.getD_eq_getD_getElem?,Array.getElem?_eq_getElem hi'];rfl
   show a<t.place.getD i 0+1
   rw [e]
   by_cases hq':q=i
   ·subst hq'
    rw [Array.getElem?_eq_getElem hi'] at ha
    cases ha
    exact Nat.lt_succ_self _
   ·have:=hr.lt (show q<i by omega) ha (Array.getElem?_eq_getElem hi')
    omega
 have hi2:∀ q a,i<=q->t.place[q]?=some a->Zco t i<=a:=λq a hq ha=>by
  cases i with
  | zero=>exact Nat.zero_le _
  | succ i=>
   have hi':i<t.place.size:=by omega
   have e:t.place.getD i 0=t.place[i]:=by rw [Array.getD_eq_getD_getElem?,Array.getElem?_eq_getElem hi'];rfl
   show t.place.getD i 0+1<=a
   rw [e]
   exact hr.lt (show i<q by omega) (Array.getElem?_eq_getElem hi') ha
 rcases Nat.lt_trichotomy (SetTable.below t.place (Zco t i)) i with z | z | z
 ·have hs:SetTable.below t.place (Zco t i)<t.place.size:=by omega
  have h1:=lo _ _ z (Array.getElem?_eq_getElem hs)
  have h2:=b3 _ _ (Nat.le_refl _) (Array.getElem?_eq_getElem hs)
  omega
 ·exact z
 ·have hs:i<t.place.size:=by omega
  have h1:=hi2 _ _ (Nat.le_refl _) (Array.getElem?_eq_getElem hs)
  have h2:=b2 _ _ z (Array.getElem?_eq_getElem hs)
  omega
section
variable {P:Program} {w:World} {A:Around} {E:Value->Shared->Prop} {s:Shared}
def SAt (w:World) (h:Heap) (a:Addr) (es:Array (Int×Value)) (ep:Nat) (t:SetTable):Prop:=
 (∃ o,h.get? a=some o/\o.ExactSet/\o.data=.set es ep t)/\SOk t es/\t.plain=true/\t.led=!ZbR w
def Zbj (w:World) (a:Addr) (es:Array (Int×Value)) (ep:Nat):List (Int×Value):=if ZbR w then (pickOrder (w.params.setOrder a ep) es).toList else es.toList
theorem Zbe (a:Addr) (es:Array (Int×Value)) (ep:Nat):(Zbj w a es ep).Perm es.toList:=by
 unfold Zbj
 split
 ·exact ZgG _ _
 ·exact .refl _
def ZcE (w:World) (t:SetTable) (i:Nat):Nat:=if ZbR w then 0 else Zco t i
def IsSetIter (w:World) (h:Heap) (it a:Addr) (t:SetTable) (i n ep:Nat):Prop:=
 ∃ o,h.get? it=some o/\o.cls=.type "set_iterator" /\ o.data=.fields #[.int (ZcE w t i) 0,.int i 0,.ref a,.int n 0,.int ep 0]
theorem IsSetIter.typeIs {it a:Addr} {t:SetTable} {i n ep:Nat} (h:IsSetIter w s.heap it a t i n ep):s.TypeIs (.ref it) "set_iterator" := let ⟨o,h1,h2,_⟩:=h;⟨o,h1,h2⟩
theorem SAt.typeIs {a:Addr} {es:Array (Int×Value)} {ep:Nat} {t:SetTable} (h:SAt w s.heap a es ep t):s.TypeIs (.ref a) "set" := let ⟨⟨o,h1,h2,_⟩,_⟩:=h;⟨o,h1,h2.1⟩
theorem ZfA {a:Addr} {es:Array (Int×Value)} {ep:Nat} {t:SetTable} {Q:Array (Int×Value)->Shared->Prop} (h:SAt w s.heap a es ep t) (hq:∀ r:Array (Int×Value),r.toList=Zbj w a es ep->Q r s) :
  wpAny (model P w) A (setWalk a) Q E s:=by
 obtain ⟨⟨o,ho,hx,hd⟩,S,hpl,hled⟩:=h
 unfold setWalk
 apply wpAny_bind
 apply wpAny_setState_of ho hd S.fits
 dsimp only
 apply wpAny_bind
 apply Zc0
 unfold Zbj at hq
 cases hb:ZbR w with
 | true=>
  rw [hb] at hq
  rw [if_pos rfl]
  apply wpAny_bind
  apply wpAny_askSetting
  exact wpAny_pure (hq _ rfl)
 | false=>
  rw [hb] at hq hled
  rw [if_neg Bool.false_ne_true]
  have e1:(!t.plain && decide (es.size > 1))=false:=by rw [hpl];rfl
  show wpAny _ _ (if (!t.plain && decide (es.size > 1))=true then _ else _) _ _ s
  rw [e1,if_neg Bool.false_ne_true]
  apply wpAny_bind
  show wpAny _ _ (if (!t.led && decide (es.size > 1))=true then _ else _) _ _ s
  have e2:(!t.led && decide (es.size > 1))=false:=by rw [hled];rfl
  rw [e2,if_neg Bool.false_ne_true]
  apply wpAny_pure
  exact wpAny_pure (hq es rfl)
theorem Zdq {a:Addr} {es:Array (Int×Value)} {ep i:Nat} {t:SetTable} {Q:Option (Value×Nat)->Shared->Prop} (h:SAt w s.heap a es ep t) (hi:i<=es.size)
  (hq:Q (((Zbj w a es ep)[i]?).map λe=>(e.2,ZcE w t (i+1))) s):wpAny (model P w) A (setNext a (ZcE w t i) i ep) Q E s:=by
 obtain ⟨⟨o,ho,hx,hd⟩,S,hpl,hled⟩:=id h
 have hlen:t.place.size=es.size:=by rw [S.T.len,ZbF]
 unfold setNext
 apply wpAny_bind
 apply wpAny_setState_of ho hd S.fits
 dsimp only
 apply wpAny_bind
 apply Zc0
 cases hb:ZbR w with
 | true=>
  rw [if_pos rfl,if_neg (by simp)]
  apply wpAny_bind
  refine ZfA h λr hr=>?_
  refine wpAny_pure ?_
  have e0:∀ k,ZcE w t k=0:=λk=>by unfold ZcE;rw [hb];rfl
  rw [e0] at hq ⊢
  rw [<-Array.getElem?_toList,hr]
  exact hq
 | false=>
  rw [hb] at hled
  rw [if_neg Bool.false_ne_true]
  have e1:(!t.plain && decide (es.size > 1))=false:=by rw [hpl];rfl
  show wpAny _ _ (if (!t.plain && decide (es.size > 1))=true then _ else _) _ _ s
  rw [e1,if_neg Bool.false_ne_true]
  apply wpAny_bind
  show wpAny _ _ (if (!t.led && !es.isEmpty)=true then _ else _) _ _ s
  have e2:(!t.led && !es.isEmpty)=false:=by rw [hled];rfl
  rw [e2,if_neg Bool.false_ne_true]
  apply wpAny_pure
  have e3:∀ k,ZcE w t k=Zco t k:=λk=>by unfold ZcE;rw [hb];rfl
  rw [e3] at hq ⊢
  rw [Zfz S.T.rise (by omega)]
  have e4:Zbj w a es ep=es.toList:=by unfold Zbj;rw [hb];rfl
  rw [e4,Array.getElem?_toList] at hq
  by_cases hlt:i<es.size
  ·rw [Array.getElem?_eq_getElem hlt] at hq ⊢
   have hp:i<t.place.size:=by omega
   rw [Array.getElem?_eq_getElem hp]
   have e5:Zco t (i+1)=t.place[i]+1:=by
    show t.place.getD i 0+1=_
    rw [Array.getD_eq_getD_getElem?,Array.getElem?_eq_getElem hp]
    rfl
   rw [e5] at hq
   exact wpAny_pure hq
  ·rw [Array.getElem?_eq_none (by omega)] at hq ⊢
   exact wpAny_pure hq
theorem SAt.ext {h h':Heap} {a:Addr} {es:Array (Int×Value)} {ep:Nat} {t:SetTable} (x:SAt w h a es ep t) (k:∀ o,h.get? a=some o->h'.get? a=some o):SAt w h' a es ep t:=
 let ⟨⟨o,h1,h2⟩,r⟩:=x;⟨⟨o,k _ h1,h2⟩,r⟩
theorem IsSetIter.ext {h h':Heap} {it a:Addr} {t:SetTable} {i n ep:Nat} (x:IsSetIter w h it a t i n ep) (k:∀ o,h.get? it=some o->h'.get? it=some o):IsSetIter w h' it a t i n ep:=
 let ⟨o,h1,h2⟩:=x;⟨o,k _ h1,h2⟩
theorem ZeE {it a:Addr} {es:Array (Int×Value)} {ep i:Nat} {t:SetTable} {e:Int×Value} {Q:Option Value->Shared->Prop} (hit:IsSetIter w s.heap it a t i es.size ep) (hs:SAt w s.heap a es ep t)
  (he:(Zbj w a es ep)[i]?=some e) (hne:a≠it) (hq:∀ h':Heap,IsSetIter w h' it a t (i+1) es.size ep->Heap.SameBut it s.heap h'->Q (some e.2) { s with heap:=h' }) :
  wpAny (model P w) A (pyNext (.ref it)) Q E s:=by
 obtain ⟨o,ho,hc,hd⟩:=id hit
 obtain ⟨⟨oa,hoa,hxa,hda⟩,S,hpl,hled⟩:=id hs
 have hwl:(Zbj w a es ep).length=es.size:=by rw [(Zbe a es ep).length_eq,Array.length_toList]
 have hi:i<es.size:=by
  have:=(List.getElem?_eq_some_iff.mp he).1
  omega
 unfold pyNext
 apply wpAny_bind
 apply wpAny_attempt
 refine wpAny_callSpecial?_slot (name:=Str.ofString "__next__") hit.typeIs sit_slot_next (wpAny_call_entry sit_slot_next hit.typeIs Zb8 ?_ (Zcn _))
 unfold Builtin.«set_iterator.__next__»
 apply wpAny_bind
 apply wpAny_pure
 apply wpAny_bind
 apply wpAny_fieldsOf ho hd
 dsimp only
 apply wpAny_bind
 apply wpAny_setEntries_of hoa hda S.fits
 rw [if_neg (by simp)]
 apply wpAny_bind
 have hn:=λE1=>Zdq (P:=P) (A:=A.in1) (E:=E1) (s:=s) (i:=i) hs (Nat.le_of_lt hi) (Q:=λr s1=>r=some (e.2,ZcE w t (i+1))/\s1=s) ⟨by rw [he];rfl,rfl⟩
 refine wpAny_mono (by simpa using hn _) (λr s1 hr=>?_) λ_ _ x=>x
 obtain ⟨rfl,rfl⟩:=hr
 dsimp only
 apply wpAny_bind
 apply wpAny_setField ho hd (by simp)
 have ho2:=Heap.get?_update_self (Obj.mapFields (·.setIfInBounds 0 (rawInt ((ZcE w t (i+1):Nat):Int)))) ho (Obj.isFreed_of_fields (Obj.data_mapFields hd _))
 have hd2:=Obj.data_mapFields hd (·.setIfInBounds 0 (rawInt ((ZcE w t (i+1):Nat):Int)))
 apply wpAny_bind
 apply wpAny_setField ho2 hd2 (by simp)
 refine wpAny_pure ⟨_,rfl,wpAny_pure (hq _ ⟨_,Heap.get?_update_self _ ho2 (Obj.isFreed_of_fields (Obj.data_mapFields hd2 _)),?_,?_⟩ ((Heap.SameBut.update ..).trans (Heap.SameBut.update ..)))⟩
 ·rw [Obj.cls_mapFields,Obj.cls_mapFields];exact hc
 ·rw [Obj.data_mapFields hd2];simp [rawInt]
theorem ZfB {it a:Addr} {es:Array (Int×Value)} {ep:Nat} {t:SetTable} {Q:Option Value->Shared->Prop} (hh:A.handled=none) (hit:IsSetIter w s.heap it a t es.size es.size ep) (hs:SAt w s.heap a es ep t)
  (hq:∀ h':Heap,Heap.ExtBut it s.heap h'->Q none { s with heap:=h' }):wpAny (model P w) A (pyNext (.ref it)) Q E s:=by
 obtain ⟨o,ho,hc,hd⟩:=id hit
 obtain ⟨⟨oa,hoa,hxa,hda⟩,S,hpl,hled⟩:=id hs
 have hwl:(Zbj w a es ep).length=es.size:=by rw [(Zbe a es ep).length_eq,Array.length_toList]
 unfold pyNext
 apply wpAny_bind
 apply wpAny_attempt
 refine wpAny_callSpecial?_slot (name:=Str.ofString "__next__") hit.typeIs sit_slot_next (wpAny_call_entry sit_slot_next hit.typeIs Zb8 ?_ (Zcn _))
 unfold Builtin.«set_iterator.__next__»
 apply wpAny_bind
 apply wpAny_pure
 apply wpAny_bind
 apply wpAny_fieldsOf ho hd
 dsimp only
 apply wpAny_bind
 apply wpAny_setEntries_of hoa hda S.fits
 rw [if_neg (by simp)]
 apply wpAny_bind
 have hn:=λE1=>Zdq (P:=P) (A:=A.in1) (E:=E1) (s:=s) (i:=es.size) hs (Nat.le_refl _) (Q:=λr s1=>r=none/\s1=s) ⟨by rw [List.getElem?_eq_none (by omega)];rfl,rfl⟩
 refine wpAny_mono (by simpa using hn _) (λr s1 hr=>?_) λ_ _ x=>x
 obtain ⟨rfl,rfl⟩:=hr
 dsimp only
 apply wpAny_bind
 apply wpAny_setField ho hd (by simp)
 apply wpAny_bind
 simp only [newExc,newTuple]
 apply wpAny_bind
 refine wpAny_newObj_type ?_ (by size_fits)
 refine wpAny_bind (m:=firstArgMember _ _) (wpAny_of_eq (a:=Value.none) (by first | (simp only [firstArgMember];rfl) | rfl) ?_)
 refine wpAny_newObj_type ?_ (by size_fits)
 simp only [raiseNew]
 apply wpAny_bind
 apply wpAny_handled
 rw [show A.in1.handled=none from hh]
 refine wpAny_throw ?_
 apply wpAny_bind
 refine wpAny_isInstance (b:=true) (T := "StopIteration") ⟨_,Heap.get?_push_size _ rfl,rfl⟩ isSubtype_stop ?_
 exact wpAny_pure (hq _ (((Heap.SameBut.update ..).extBut.push _).push _))
end
end L2
namespace L2
open PySem PySem.Spec PyProof.Rows
section
variable {P:Program} {w:World} {A:Around} {E:Value->Shared->Prop} {s:Shared}
theorem ZfC {a:Addr} {es:Array (Int×Value)} {ep:Nat} {t:SetTable} {Q:Value->Shared->Prop} (h:SAt w s.heap a es ep t)
  (hq:Q (.ref s.heap.objs.size) { s with heap:=s.heap.push { cls:=.type "set_iterator", data:=.fields #[.int 0 0,.int 0 0,.ref a,.int es.size 0,.int ep 0] } }):wpAny (model P w) A (pyIter (.ref a)) Q E s:=by
 obtain ⟨⟨o,ho,hx,hd⟩,S,hpl,hled⟩:=id h
 refine wpAny_pyIter_slot h.typeIs F.slot_set_iter (wpAny_call_entry F.slot_set_iter h.typeIs Zdb ?_ (F.args_set_iter_1 _))
 unfold Builtin.«frozenset.__iter__»
 apply wpAny_bind
 refine wpAny_pure ?_
 apply wpAny_bind
 unfold Builtin.Frozenset.sizeOf
 apply wpAny_bind
 apply wpAny_setEntries_of ho hd S.fits
 apply wpAny_pure
 apply wpAny_bind
 apply wpAny_bind
 apply wpAny_setState_of ho hd S.fits
 dsimp only
 apply wpAny_bind
 apply Zc0
 apply wpAny_pure
 have e1:(!ZbR w && (!t.plain && decide (es.size > 1)))=false:=by rw [hpl];simp
 show wpAny _ _ (if (!ZbR w && (!t.plain && decide (es.size > 1)))=true then _ else _) _ _ _
 rw [e1,if_neg Bool.false_ne_true]
 apply wpAny_bind
 apply wpAny_pure
 apply wpAny_bind
 apply wpAny_setEpoch_of ho hd S.fits
 apply wpAny_bind
 refine wpAny_newObj_type (wpAny_pure ⟨_,rfl, "set_iterator", _,⟨_,Heap.get?_push_size _ rfl,rfl⟩,sit_slot_next.lookup,?_⟩)
 simpa [rawInt] using hq
theorem ZhE {r:Addr} {Q:Bool->Shared->Prop} (hT:s.TypeIs (.ref r) "set") (h:Q false s):wpAny (model P w) A (Builtin.List.listLengthHint (.ref r)) Q E s:=by
 unfold Builtin.List.listLengthHint
 apply wpAny_bind
 refine wpAny_specialOf hT F.slot_set_len.lookup ?_
 generalize hid:("set.__len__" : String)=nm
 wp_delta
 rw [show splitId nm=some ("set", "__len__") from by subst hid;decide +kernel]
 subst hid
 apply wpAny_bind
 refine wpAny_isInstance (T := "set") (b:=true) hT (by rw [isSubtype_type];kernel_rfl) ?_
 refine wpAny_ite_split (λz=>absurd z (by decide)) λ_=>?_
 refine wpAny_ite_split (λ_=>?_) λz=>absurd (by decide +kernel) z
 apply wpAny_bind
 apply wpAny_typeOf hT
 exact wpAny_pure h
theorem Zi7 {a:Addr} {es:Array (Int×Value)} {ep:Nat} {t:SetTable}:PySem.W.KdlSrc P w "set" a a es.size (λi v=>∃ e,(Zbj w a es ep)[i]?=some e/\v=e.2) (λh=>SAt w h a es ep t) where
 type:=λ_ h=>h.typeIs
 there:=λ_ h=>by
  obtain ⟨⟨o,ho,_⟩,_⟩:=h
  exact ⟨Heap.lt_size ho,Heap.lt_size ho⟩
 keep:=λ_ _ h k=>h.ext λo e=>k a (.inl rfl) o e
 notList:=by decide
 notTuple:=by decide
 hint:=λ_ _ _ _ h q=>ZhE h.typeIs q
 iter:=λA s hh h=>by
  have hlt:a<s.heap.objs.size:=by
   obtain ⟨⟨o,ho,_⟩,_⟩:=h
   exact Heap.lt_size ho
  have hwl:(Zbj w a es ep).length=es.size:=by rw [(Zbe a es ep).length_eq,Array.length_toList]
  refine ⟨{ cls:=.type "set_iterator", data:=.fields #[.int 0 0,.int 0 0,.ref a,.int es.size 0,.int ep 0] },λi h'=>IsSetIter w h' s.heap.objs.size a t i es.size ep/\SAt w h' a es ep t,λ_ _ q=>ZfC h q,?_,?_⟩
  ·refine ⟨λb hb=>?_,λi h1 h2 st k=>⟨st.1.ext λo e=>k _ (by simp) o e,st.2.ext λo e=>k a (by simp) o e⟩,λi s1 Q E hi st hq=>?_,λs1 Q E st hq=>?_,λi s1 Q E st hq=>?_⟩
   ·rw [List.mem_singleton.mp hb];exact List.mem_cons_self
   ·have he:(Zbj w a es ep)[i]?=some (Zbj w a es ep)[i]:=List.getElem?_eq_getElem (by omega)
    refine ZeE st.1 st.2 he (Nat.ne_of_lt hlt) λh' hi' sb=>?_
    refine hq _ h' s1.toks ⟨_,he,rfl⟩ ⟨hi',st.2.ext λo e=>?_⟩ λb o hb e=>?_
    ·rw [sb.2 a (Nat.ne_of_lt hlt)];exact e
    ·rw [sb.2 b (λz=>hb (by rw [z];exact List.mem_cons_self))];exact e
   ·refine ZfB hh st.1 st.2 λh' he=>hq h' s1.toks λb o hb e=>he b o (λz=>hb (by rw [z];exact List.mem_cons_self)) e
   ·refine wpAny_pyIter_slot st.1.typeIs Zcm (wpAny_call_entry Zcm st.1.typeIs (b:=Builtin.«dict_keyiterator.__iter__») ?_ ?_ ?_)
    ·exact entryFor_alias (id' := "dict_keyiterator.__iter__") (by kernel_rfl) rfl (by decide +kernel) (by kernel_rfl)
    ·show wpAny _ _ (ret (Value.ref s.heap.objs.size)) _ _ s1
     exact wpAny_pure ⟨_,rfl, "set_iterator", _,st.1.typeIs,sit_slot_next.lookup,hq⟩
    ·unfold argsOk;kernel_rfl
  ·refine ⟨⟨_,Heap.get?_push_size _ rfl,rfl,?_⟩,h.ext λo e=>Heap.get?_push_of_some _ e⟩
   have:ZcE w t 0=0:=by unfold ZcE;split <;> rfl
   rw [this]
   rfl
end
def Zi8 (P:Program) (w:World) (a:Addr) (ms:List Int):HO:=.ext λh=>∃ o σ,h.get? a=some o/\SetI P w o σ/\σ.Perm ms
theorem Zi9 {P:Program} {w:World} {H:Hp} {h:Heap} {a:Addr} {ms σ:List Int} {o:Obj} (ho:h.get? a=some o) (hs:SetI P w o σ) (hp:σ.Perm ms):ObjOk P w H h a (Zi8 P w a ms):=
 ⟨⟨o,σ,ho,hs,hp⟩,⟨o,ho⟩,λh1 h2 ⟨o',σ',e,s',p'⟩ k=>⟨o',σ',k _ e,s',p'⟩⟩
theorem SetI.at_ {P:Program} {w:World} {o:Obj} {σ:List Int} (h:SetI P w o σ) {a:Addr} {hp:Heap} (ho:hp.get? a=some o):∃ es ep t,SAt w hp a es ep t/\Paired (Zfy P w) es.toList σ/\σ.Nodup:=by
 obtain ⟨es,ep,t,h1,h2,h3,h4,h5,h6,h7⟩:=h
 exact ⟨es,ep,t,⟨⟨o,ho,h1,h2⟩,h5,h6,h7⟩,h3,h4⟩
theorem ZdI {α:Type} {l:List α} {i:Nat} {x y:α} (h:l[i]?=some x):y∈l.take (i+1)↔y∈l.take i\/y=x:=by
 rw [List.take_succ,h]
 simp
section
variable {X:Cx} (K:PySem.W.Frag)
theorem ZlV (hc:X.calm=true) (h:X.K=K:=by rfl):Zbc X (.type "set") (λxs H Q=>∃ (p:Addr) (ns:List Int),xs=[.ref p]/\SqL K H p (ns.map V.int)/\ns.length<=76 /\
  ∀ (l:Addr) (ms:List Int),H l=none->ms.Nodup->(∀ k,k∈ms↔k∈ns)->Q (.ref l) (upd H l (Zi8 X.prog X.w l ms))):=by
 subst h
 intro pins s σ H xs us Q I rv h
 obtain ⟨p,ns,rfl,hq,hn,q⟩:=h
 obtain ⟨u,rfl,ru⟩:=rv.one
 cases ru
 obtain ⟨its,r,pl,hz⟩:=I.list hq
 have hl:=r.length
 rw [List.length_map] at hl
 have es:its.toArray.size=ns.length:=by rw [List.size_toArray];exact hl.symm
 refine ZgE (I.ok.hd hc) pl.isList (λi o=>∃ τ,SetI X.prog X.w o τ/\τ.length<=i/\∀ k,k∈τ↔k∈ns.take i) (λ_=>True) ⟨[],ZhB _ _,Nat.le_refl _,λk=>by simp⟩ (λ_ _=>trivial) ?_ ?_
 ·intro i v s1 o Q1 E1 hi hv _ ho ⟨τ,hτ,hle,hm⟩ hq1
  have hi':i<ns.length:=by omega
  have hv':its[i]?=some v:=by rw [List.getElem?_toArray] at hv;exact hv
  obtain ⟨u,eu,ru⟩:=r.get (i:=i) (x:=.int ns[i]) (by rw [List.getElem?_map,List.getElem?_eq_getElem hi'];rfl)
  rw [hv'] at eu
  cases eu
  obtain ⟨tk,rfl⟩:=ru
  unfold setAdd
  apply wpAny_holding
  apply wpAny_bind
  refine (intKind X.prog X.w).pyHash (k:=ns[i]) (intKind_is _ _ _ _) ?_
  refine Zi6 (s:={ s1 with toks:=s1.toks+1 }) ho hτ (by omega) λb h' o' τ' sb ho' hτ' hp=>?_
  refine hq1 b h' _ o' (Nat.le_succ _) sb ho' ⟨τ',hτ',?_,λk=>?_⟩
  ·rw [hp.length_eq]
   split
   ·omega
   ·rw [List.length_append,List.length_singleton];omega
  ·rw [hp.mem_iff,ZdI (List.getElem?_eq_getElem hi')]
   split
   ·rename_i hin
    rw [hm k]
    constructor
    ·exact .inl
    ·rintro (z | rfl)
     ·exact z
     ·exact (hm _).mp hin
   ·rw [List.mem_append,hm k,List.mem_singleton]
 ·intro h' tk o' ho' ⟨τ,hτ,hle,hm⟩ hk
  rw [es] at hm
  have hnd:τ.Nodup:=by obtain ⟨_,_,_,_,_,_,z,_⟩:=hτ;exact z
  exact ⟨.ref _,_,I.laid (o:=Zi8 X.prog X.w s.heap.objs.size τ) (λb o e=>hk b o (Heap.lt_size e) e) (Nat.le_refl _) (Zi9 ho' hτ (.refl _)),rfl,q _ τ I.fresh hnd (λk=>by rw [hm k,List.take_length])⟩
theorem ZhF (hc:X.calm=true):Zbc X (.builtin "sorted") (λxs H Q=>∃ (p:Addr) (ms:List Int),xs=[.ref p]/\H p=some (Zi8 X.prog X.w p ms)/\ms.length<64 /\
  ∀ (l:Addr) (ns':List Int),H l=none->ns'.Perm ms->ns'.Pairwise (· <= ·)->Q (.ref l) (upd H l (.lst (ns'.map V.int)))):=by
 intro pins s σ H xs us Q I rv h
 obtain ⟨p,ms,rfl,hp,h64,q⟩:=h
 obtain ⟨u,rfl,ru⟩:=rv.one
 cases ru
 obtain ⟨⟨o,τ,ho,hτ,hperm⟩,_⟩:=I.hok p _ hp
 obtain ⟨es,ep,t,hat,hE,hnd⟩:=hτ.at_ ho
 have h16:(16777216:Nat)=sizeLine:=sizeLine_eq.symm
 have hlen:=Paired.length hE
 rw [Array.length_toList] at hlen
 have hml:=hperm.length_eq
 have hh:X.A.in1.handled=none:=I.ok.hd hc
 obtain ⟨ρ,hE2,hp2⟩:=Zc1 (Zbe (w:=X.w) p es ep) hE
 refine Calls.call_function_entry kind_sorted plain_sorted entry_sorted (args_sorted1 _) ?_
 unfold Builtin.«sorted»
 apply wpAny_bind (m:=checkCount "sorted" 1 1 _)
 apply wpAny_pure
 apply wpAny_bind
 refine PySem.W.kdu_collect (Zi7 (P:=X.prog) (es:=es) (ep:=ep) (t:=t)) hh hat (by omega) λh' tk acc hk' hacc=>?_
 have hal:acc.toList.length=es.size:=by rw [Array.length_toList];exact hacc.1
 have hI:IntsAre acc.toList ρ:=by
  have hρ:=Paired.length hE2
  rw [(Zbe (w:=X.w) p es ep).length_eq,Array.length_toList] at hρ
  refine ZbV (Ze0 (by rw [List.length_map];omega) λi x u e1 e2=>?_)
  rw [Array.getElem?_toList] at e2
  obtain ⟨e,e3,e4⟩:=hacc.2 i u e2
  rw [List.getElem?_map] at e1
  have pg:∀ {l:List (Int×Value)} {τ:List Int},Paired (Zfy X.prog X.w) l τ->∀ (i:Nat) (e:Int×Value),l[i]?=some e->∃ n,τ[i]?=some n/\Zfy X.prog X.w e n:=by
   intro l τ hh'
   induction hh' with
   | nil=>intro i e z;simp at z
   | cons h0 _ ih=>
    intro i e z
    cases i with
    | zero=>simp at z;subst z;exact ⟨_,rfl,h0⟩
    | succ i=>exact ih i e (by simpa using z)
  obtain ⟨n,e5,_,tk',e6⟩:=pg hE2 i e e3
  rw [e5] at e1
  cases e1
  exact ⟨tk',by rw [e4,e6]⟩
 apply wpAny_bind
 refine wpAny_newList ?_ (by rw [hal];omega)
 have hoL:(h'.push (seqObj "list" acc.toList.toArray 0)).get? h'.objs.size=some (seqObj "list" acc.toList.toArray 0):=Heap.get?_push_size _ rfl
 apply wpAny_bind
 apply wpAny_holding
 refine wpAny_call_entry slot_list_sort ⟨_,hoL,rfl⟩ entry_list_sort (list_sort_tree hoL hI (by omega) λout ns' a1 a2 a3=>⟨_,rfl,?_⟩) (args_list_sort _)
 refine wpAny_pure ⟨_,rfl,?_⟩
 obtain ⟨e,he⟩:=sortedHeap_at (out:=out) hoL
 have hkeep:∀ b o,s.heap.get? b=some o->(sortedHeap (h'.push (seqObj "list" acc.toList.toArray 0)) h'.objs.size acc.toList out).get? b=some o:=λb o e=>by
  have e':=hk' b o e
  have hb:=Heap.lt_size e'
  rw [sortedHeap_old (Nat.ne_of_lt hb) (by rw [Heap.size_push];exact Nat.lt_succ_of_lt hb)]
  exact Heap.get?_push_of_some _ e'
 have hpm:ns'.Perm ms:=a2.trans (hp2.trans hperm)
 have hl':(ns'.map V.int).length<=sizeLine:=by rw [List.length_map,hpm.length_eq];omega
 have hn:H h'.objs.size=none:=by
  cases zz:H h'.objs.size with
  | none=>rfl
  | some o=>
   obtain ⟨x,ex⟩:∃ x,s.heap.get? h'.objs.size=some x:=(I.hok _ _ zz).there
   exact absurd (Heap.lt_size (hk' _ _ ex)) (Nat.lt_irrefl _)
 have sm:Same H (upd H h'.objs.size (.lst (ns'.map V.int))):=Same.new hn
 refine ⟨.ref h'.objs.size,upd H h'.objs.size (.lst (ns'.map V.int)),I.un (t':=tk) ⟨λb o e _ _ _=>hkeep b o e,λb o e _ _ _=>⟨o.slots,hkeep b o e⟩,λb o e n _=>?_,λb o e _=>⟨o,hkeep b o e⟩,λb ys e=>sm _ _ e,λb o u e=>sm _ _ e,λb ps e=>⟨#[],by rw [sm _ _ e];simp⟩⟩ (λb o e'=>?_),rfl,q _ ns' hn hpm a3⟩
 ·rw [Zar (Nat.ne_of_lt (Heap.lt_size (hk' b o e)))]
  exact n
 ·by_cases hb:b=h'.objs.size
  ·subst hb
   rw [Zab] at e';cases e'
   exact ⟨hl',out.toList,e,Zch a1,he⟩
  ·rw [Zar hb] at e'
   exact (I.hok b o e').stay (λc v _ x=>hkeep c v x) (λd x=>sm _ _ x) λd ys x=>sm _ _ x
end
end L2
namespace L2
open PySem PySem.Spec PyProof.Rows
section
variable {P:Program} {w:World} {A:Around} {E:Value->Shared->Prop} {s:Shared}
end
section
variable {X:Cx}
end
end L2
namespace L2
open PySem PySem.Spec PyProof.Rows
section
variable {X:Cx} (P:Program) (w:World) (K:PySem.W.Frag)
theorem Zkt (hc:X.calm=true) (h:X.K=K:=by rfl) (hP:X.prog=P:=by rfl) (hw:X.w=w:=by rfl):Zbc X (.type "set") (λxs H Q=>∃ (p:Addr) (ns:List Int),xs=[.ref p]/\SqL K H p (ns.map V.int)/\ns.length<=76 /\
  ∀ (l:Addr) (ms:List Int),H l=none->ms.Nodup->(∀ k,k∈ms↔k∈ns)->Q (.ref l) (upd H l (Zi8 P w l ms))):=by
 subst hP hw
 exact ZlV K hc h
theorem ZgH (hc:X.calm=true) (hP:X.prog=P:=by rfl) (hw:X.w=w:=by rfl):Zbc X (.builtin "sorted") (λxs H Q=>∃ (p:Addr) (ms:List Int),xs=[.ref p]/\H p=some (Zi8 P w p ms)/\ms.length<64 /\
  ∀ (l:Addr) (ns':List Int),H l=none->ns'.Perm ms->ns'.Pairwise (· <= ·)->Q (.ref l) (upd H l (.lst (ns'.map V.int)))):=by
 subst hP hw
 exact ZhF hc
end
end L2
namespace L2
open PySem PySem.Spec PyProof.Rows
section
variable {X:Cx}
def ZmC:V->List V->Hp->VK->Prop:=λx vs H Q=>∃ (l:Addr) (ns:List Int) (i:Int),x=.ref l/\vs=[.int i]/\H l=some (.lst (ns.map V.int))/\Q (.int ((ns.count i:Nat):Int)) H
end
end L2
namespace L2
open PySem PySem.Spec PyProof.Rows
section
variable {P:Program} {w:World} {A:Around} {E:Value->Shared->Prop} {s:Shared}
abbrev ZlW (P:Program) (w:World) (r:Int×Int):Int:=tupleKeyHash (intKind P w) [r.1,r.2]
def Znm (P:Program) (w:World) (h:Heap) (r:Int×Int) (a:Addr):Prop:=IsTupleKey (intKind P w) h [r.1,r.2] a
def Znn (P:Program) (w:World) (h:Heap) (e:Int×Value) (r:Int×Int):Prop:=e.1=ZlW P w r/\∃ a,e.2=.ref a/\Znm P w h r a
def hAt (es:Array (Int×Value)) (i:Nat):Int:=(es[i]?.map (·.1)).getD 0
section
variable {a b:Addr} {o:Obj} {es:Array (Int×Value)} {ep:Nat} {t:SetTable} {ps:List (Int×Int)} {r:Int×Int} {Q:SetFound->Shared->Prop}
end
end
end L2
namespace L2
open PySem PySem.Spec PyProof.Rows
section
variable {P:Program} {w:World} {A:Around} {E:Value->Shared->Prop} {s:Shared}
def Zno (P:Program) (w:World) (h0:Heap) (o:Obj) (ps:List (Int×Int)):Prop:=∃ es ep t,o.ExactSet/\o.data=.set es ep t/\Paired (Znn P w h0) es.toList ps/\ps.Nodup/\SOk t es
end
def Zn0 (a:Addr) (m:Nat):HO:=.ext λh=>∃ o es ep t,h.get? a=some o/\o.ExactSet/\o.data=.set es ep t/\t.fits es.size=true/\es.size=m/\m<=76
section
variable {X:Cx} (K:PySem.W.Frag)
end
end L2
namespace L2
open PySem PySem.Spec PyProof.Rows
abbrev Tri:=Int×Int×Int
inductive Trs (H:Hp):List V->List Tri->Prop
 | nil:Trs H [] []
 | cons {p:Addr} {a b c:Int} {xs:List V} {rs:List Tri}:H p=some (.tup [.int a,.int b,.int c])->Trs H xs rs->Trs H (.ref p::xs) ((a,b,c)::rs)
def trD (r:Tri):PyData:=.tuple [.int r.1,.int r.2.1,.int r.2.2]
section
variable {X:Cx} (K:PySem.W.Frag)
end
end L2
namespace L2
open PySem PySem.Spec PyProof.Rows
def Nd (ts:List Tri) (c:Int) (r:Tri):Prop:=2<=c/\ts[(c-2).toNat]?=some r
def At (ts:List Tri) (c lo:Int):Prop:=c=0\/c=1\/∃ r,Nd ts c r/\lo<r.1
def Znp (ts:List Tri):Prop:=∀ (i:Nat) (r:Tri),ts[i]?=some r->(0<=r.1/\r.1<30)/\At ts r.2.1 r.1/\At ts r.2.2 r.1
inductive Has (ts:List Tri):Int->List Int->Prop
 | one:Has ts 1 []
 | low {c:Int} {r:Tri} {rs:List Int}:Nd ts c r->Has ts r.2.1 rs->Has ts c rs
 | high {c:Int} {r:Tri} {rs:List Int}:Nd ts c r->Has ts r.2.2 rs->Has ts c (r.1::rs)
def Zku (fs:List Int) (n:Int):Option Int:=if n=0 then some 0 else if n=1 then some 1 else (fs.idxOf? n).map λ(i:Nat)=>(i:Int)+2
end L2
namespace L2
open PySem PySem.Spec PyProof.Rows
structure Fnd (ks:List Tri) (root:Int) (fs:List Int) (kvs:List (Key×V)) (k:Nat):Prop where
 num:∀ n:Int,Zck kvs (.inl n)=(Zku fs n).map V.int
 nd:fs.Nodup
 nod:∀ x∈fs,∃ r,Nd ks x r
 kle:k<=fs.length
 cl:∀ (i:Nat),i<k->∀ (x:Int) (r:Tri),fs[i]?=some x->Nd ks x r->(Zku fs r.2.1).isSome/\(Zku fs r.2.2).isSome
 kl:kvs.length<=fs.length+2
def Zn1 (ks:List Tri) (fs:List Int) (us:List Tri) (i:Nat):Prop:=∀ (j:Nat) (x:Int),j<i->fs[j]?=some x->∃ (r:Tri) (a b:Int),Nd ks x r/\Zku fs r.2.1=some a/\Zku fs r.2.2=some b/\us[j]?=some (r.1,a,b)
def Bk (ts:List Tri):Prop:=∀ (i:Nat) (r:Tri),ts[i]?=some r->r.2.1<(i:Int)+2/\r.2.2<(i:Int)+2
structure Znq (ts ks:List Tri) (sm:List Int) (i:Nat):Prop where
 len:sm.length=i+2
 at_:∀ c lo:Int,c<(i:Int)+2->At ts c lo->At ks (sm.getD c.toNat 0) lo
def Znr (r:Tri):List Key:=[.inl r.1,.inl r.2.1,.inl r.2.2]
def ZmD (kvs:List (List Key×V)) (ks:List Tri):Prop:=∀ r:Tri,∀ v:V,Zck kvs (Znr r)=some v->∃ c:Int,v=.int c/\Nd ks c r
end L2
namespace L2
open PySem PySem.Spec PyProof.Rows
section
variable {P:Program} {w:World} {A:Around} {E:Value->Shared->Prop} {s:Shared}
abbrev ZlX (P:Program) (w:World) (r:List Int):Int:=tupleKeyHash (intKind P w) r
def Zns (P:Program) (w:World) (h:Heap) (r:List Int) (a:Addr):Prop:=IsTupleKey (intKind P w) h r a
def Znt (P:Program) (w:World) (h:Heap) (e:Int×Value) (r:List Int):Prop:=e.1=ZlX P w r/\∃ a,e.2=.ref a/\Zns P w h r a
section
variable {a b:Addr} {o:Obj} {es:Array (Int×Value)} {ep:Nat} {t:SetTable} {ps:List (List Int)} {r:List Int} {Q:SetFound->Shared->Prop}
end
end
end L2
namespace L2
open PySem PySem.Spec PyProof.Rows
section
variable {P:Program} {w:World} {A:Around} {E:Value->Shared->Prop} {s:Shared}
def Znu (P:Program) (w:World) (h0:Heap) (o:Obj) (ps:List (List Int)):Prop:=∃ es ep t,o.ExactSet/\o.data=.set es ep t/\Paired (Znt P w h0) es.toList ps/\ps.Nodup/\SOk t es
end
section
variable {X:Cx} (K:PySem.W.Frag)
inductive Tus (H:Hp):List V->List (List Int)->Prop
 | nil:Tus H [] []
 | cons {p:Addr} {r:List Int} {xs:List V} {rs:List (List Int)}:H p=some (.tup (r.map V.int))->Tus H xs rs->Tus H (.ref p::xs) (r::rs)
end
end L2
namespace L2
open PySem PySem.Spec PyProof.Rows
def tl3 (r:Tri):List Int:=[r.1,r.2.1,r.2.2]
section
variable {X:Cx} (K:PySem.W.Frag)
end
end L2
namespace L2
open PySem PySem.Spec PyProof.Rows
def chT (ks:List Tri) (x:Int):List Int:=match ks[(x-2).toNat]? with | some r=>[r.2.1,r.2.2] | none=>[]
def ZlY (ks:List Tri) (root:Int) (f:List Int):List Int:=root::f.flatMap (chT ks)
def New (f:List Int) (x:Int):Prop:=x≠0/\x≠1/\x ∉ f
def Ext (ks:List Tri) (root:Int) (f:List Int) (x:Int):Prop:=∃ p q,ZlY ks root f=p++x::q/\New f x/\∀ y∈p,¬ New f y
inductive Rch (ks:List Tri) (root:Int):List Int->Prop
 | nil:Rch ks root []
 | snoc {f:List Int} {x:Int}:Rch ks root f->Ext ks root f x->Rch ks root (f++[x])
def Fin (ks:List Tri) (root:Int) (f:List Int):Prop:=∀ y∈ZlY ks root f,¬ New f y
def Zn2 (n:Nat):List Int:=(List.range n).map λ(i:Nat)=>(i:Int)+2
end L2
namespace L2
open PySem PySem.Spec PyProof.Rows
section
variable {X:Cx}
def Zll:V->List V->Hp->VK->Prop:=λx vs H Q=>∃ l b xs zs,x=.ref l/\vs=[.ref b]/\H l=some (.lst xs)/\H b=some (.tup zs)/\xs.length+zs.length<=sizeLine/\Q .non (upd H l (.lst (xs++zs)))
end
end L2
namespace L2
open PySem PySem.Spec PyProof.Rows
section
variable {X:Cx}
end
structure Wk (ks:List Tri) (root:Int) (fs:List Int) (kvs:List (Key×V)) (pr ah:List Int):Prop where
 e:ZlY ks root fs=pr++ah
 old:∀ y∈pr,¬ New fs y
 seen:∀ n:Int,Zck kvs (.inl n)=none↔New fs n
 nd:fs.Nodup
 nod:∀ x∈fs,∃ r,Nd ks x r
 rch:Rch ks root fs
 kl:kvs.length<=fs.length+2
 ok:∀ y∈ah,At ks y (-1)
structure ZmE (ts:List Tri) (many:Int) (r:Tri):Prop where
 road:0<=r.1/\r.1<many
 low:0<=r.2.1/\r.2.1<(ts.length:Int)+2
 high:0<r.2.2/\r.2.2<(ts.length:Int)+2
 lo:∀ q,Nd ts r.2.1 q->r.1<q.1
 hi:∀ q,Nd ts r.2.2 q->r.1<q.1
end L2
namespace L2
open PySem PySem.Spec PyProof.Rows
end L2
namespace L2
open PySem PySem.Spec PyProof.Rows
open AutoSeq1 (wpAny_loadPart') in
theorem ZeF (L:Addr) (its:Array Value) (c:Nat) (y:Value) (ev:Value->Bool) (at_:Nat) (ha:at_<its.size) (yes:ev its[at_]=true) (room:its.size<=sizeLine):∀ (left i:Nat),at_-i=left->i<=at_ ->
  (∀ m (hm:m<its.size),i<=m->m<at_->ev its[m]=false)->Meets (Builtin.«list.remove.loop» ⟨[.ref L,y,rawInt i],[]⟩)
   (λA R s=>s.heap.get? L=some { cls:=.type "list", dict:=none,data:=.seq its c,slots:=#[] }/\(∀ z,z∈its->SeqAt.EqAt A.in1 s z y (ev z))/\R (.ok (.ret .none)) { s with heap:=s.heap.update L (Obj.mapSeq λzs=>zs.eraseIdxIfInBounds at_) }):=by
 intro left
 induction left with
 | zero=>
  intro i hk hle no prog w A R s ⟨hl,he,h⟩
  obtain ⟨hp,g,d,tk,os⟩:=s
  have e:i=at_:=by omega
  subst e
  wp_walk using wpAny_loadPart' hl
  have g1:its[((i:Nat):Int).toNat]?=some its[i]:=by simp [ha]
  rw [g1]
  refine wpAny_bind (he _ (Array.getElem_mem ha) prog w _ _ ?_)
  rw [yes]
  have g2:(its.eraseIdxIfInBounds i).size<=sizeLine+1:=Nat.le_trans (MeetsSeq.size_erased its _) (Nat.le_succ_of_le room)
  wp_walk using (wpAny_updateSeq hl rfl (hz:=room) (_hz':=g2)),wpAny_loadPart' hl
  simpa using h
 | succ left ih=>
  intro i hk hle no prog w A R s ⟨hl,he,h⟩
  obtain ⟨hp,g,d,tk,os⟩:=s
  have hi:i<its.size:=by omega
  wp_walk using wpAny_loadPart' hl
  have g1:its[((i:Nat):Int).toNat]?=some its[i]:=by simp [hi]
  have g2:((i:Int)+1)=((i+1:Nat):Int):=by omega
  rw [g1]
  refine wpAny_bind (he _ (Array.getElem_mem hi) prog w _ _ ?_)
  rw [no i hi (Nat.le_refl _) (by omega)]
  wp_walk
  rw [g2]
  refine ⟨plainId_quiet MeetsSeq.plain_remove_loop _,codeAny_builtin MeetsSeq.entry_remove_loop ?_⟩
  rw [Around.under_plainId MeetsSeq.plain_remove_loop _]
  exact ih (i+1) (by omega) (by omega) (λm hm m1 m2=>no m hm (by omega) m2) prog w A R _ ⟨hl,he,h⟩
open AutoSeq1 (wpAny_loadPart') in
theorem ZfD (L:Addr) (its:Array Value) (c:Nat) (y:Value) (ev:Value->Bool) (at_:Nat) (ha:at_<its.size) (yes:ev its[at_]=true) (no:∀ m (hm:m<its.size),m<at_->ev its[m]=false) (room:its.size<=sizeLine):Meets (Builtin.«list.remove» ⟨[.ref L,y],[]⟩)
   (λA R s=>s.heap.get? L=some { cls:=.type "list", dict:=none,data:=.seq its c,slots:=#[] }/\(∀ z,z∈its->SeqAt.EqAt A.in1 s z y (ev z))/\R (.ok (.ret .none)) { s with heap:=s.heap.update L (Obj.mapSeq λzs=>zs.eraseIdxIfInBounds at_) }):=by
 intro prog w A R s ⟨hl,he,h⟩
 obtain ⟨hp,g,d,tk,os⟩:=s
 wp_walk using wpAny_loadPart' hl
 refine ⟨plainId_quiet MeetsSeq.plain_remove_loop _,codeAny_builtin MeetsSeq.entry_remove_loop ?_⟩
 rw [Around.under_plainId MeetsSeq.plain_remove_loop _]
 exact ZeF L its c y ev at_ ha yes room _ 0 rfl (Nat.zero_le _) (λm hm _ m2=>no m hm m2) prog w A R _ ⟨hl,he,h⟩
section
variable {X:Cx}
def Zja (K:PySem.W.Frag):V->List V->Hp->VK->Prop:=λx vs H Q=>∃ l xs y d ds j,x=.ref l/\vs=[y]/\H l=some (.lst xs)/\DatV K H y d/\DatVs K H xs ds/\SeqAt.shaped d=true/\(∀ e∈ds,SeqAt.shaped e=true) /\
 j<xs.length/\(∀ e,ds[j]?=some e->PyData.eqv e d=true)/\(∀ m,m<j->∀ e,ds[m]?=some e->PyData.eqv e d=false)/\Q .non (upd H l (.lst (xs.eraseIdx j)))
theorem Zkv (K:PySem.W.Frag) (hu:X.A.units+65<cLine) (hK:X.K=K:=by rfl):MtM X "list.remove" (Zja K):=by
 subst hK
 intro pins s σ H x vs v us Q I rx rv h
 obtain ⟨l,xs,y,d,ds,j,rfl,rfl,hH,hd,hds,sd,sds,hj,yes,no,q⟩:=h
 cases rx
 obtain ⟨u,rfl,ru⟩:=rv.one
 obtain ⟨z,its,n,r,hl,e⟩:=I.lstM hH
 obtain ⟨as,ra⟩:=hd.reads I ru
 obtain ⟨bs,rb⟩:=hds.reads I r
 obtain ⟨k1,k2⟩:=Zh4 rb sds
 have hu1:X.A.in1.units+64<cLine:=by rw [Around.in1_units];omega
 have hlen:its.length=xs.length:=hl.symm
 have at_:∀ m (hm:m<its.length),ds[m]?=some (Zey s.heap its[m]):=λm hm=>by
  rw [<-k2,List.getElem?_map,List.getElem?_eq_getElem hm]
  rfl
 have room:its.toArray.size<=sizeLine:=by rw [List.size_toArray];omega
 refine call_meets PySem.F.slot_list_remove ⟨_,e,rfl⟩ PySem.F.entry_list_remove (PySem.F.args_list_remove_2 _ _) (ZfD l its.toArray n u (λw=>PyData.eqv (Zey s.heap w) d) j (by rw [List.size_toArray];omega) (yes _ (at_ j (by omega))) (λm hm hlt=>no m hlt _ (at_ m (by simpa using hm))) room) ⟨e,λw hw=>?_,?_⟩
 ·obtain ⟨as',r',s'⟩:=k1 w (by simpa using hw)
  exact PySem.W.keq_at r' ra s' sd hu1
 ·refine ⟨.non,_,I.lset (its':=its.eraseIdx j) hH e ?_ (r.eraseIdx j) ?_,rfl,q⟩
  ·show its.toArray.eraseIdxIfInBounds j=(its.eraseIdx j).toArray
   rw [List.eraseIdxIfInBounds_toArray]
  ·have:=Zcg xs j
   omega
theorem Zef {α β:Type} (f:α->β):∀ (l:List α) (k:Nat),(l.map f).eraseIdx k=(l.eraseIdx k).map f
 | [],_=>rfl
 | _::_,0=>rfl
 | x::l,k+1=>by
  show f x::(l.map f).eraseIdx k=f x::(l.eraseIdx k).map f
  rw [Zef f l k]
theorem Znv {K:PySem.W.Frag} {H:Hp} {l p:Addr} {xs:List V} {rs:List (Int×Int)} {t:Int×Int} {Q:VK} (hl:H l=some (.lst xs)) (pr:Prs H xs rs) (hp:H p=some (.tup [.int t.1,.int t.2])) (hm:t∈rs)
  (q:∀ xs':List V,xs'.length<=xs.length->Prs H xs' (rs.erase t)->Q .non (upd H l (.lst xs'))):Zja K (.ref l) [.ref p] H Q:=by
 have hj:rs.idxOf t<rs.length:=List.idxOf_lt_length_iff.mpr hm
 have hx:=pr.len
 refine ⟨l,xs,.ref p,prD t,rs.map prD,rs.idxOf t,rfl,rfl,hl,.tup (SqT.of hp) (.cons (.int _) (.cons (.int _) .nil)),pr.dats,Zdm t,Zhm rs,by omega,λe he=>?_,λm hlt e he=>?_,?_⟩
 ·rw [List.getElem?_map,List.getElem?_eq_getElem hj] at he
  cases he
  rw [Zeu]
  exact decide_eq_true (List.getElem_idxOf hj)
 ·rw [List.getElem?_map,List.getElem?_eq_getElem (by omega)] at he
  cases he
  rw [Zeu]
  refine decide_eq_false λz=>?_
  have:=List.not_of_lt_findIdx hlt
  rw [z] at this
  simp at this
 ·have:=Zcg xs (rs.idxOf t)
  refine q _ (by omega) ?_
  rw [List.erase_eq_eraseIdx_of_idxOf (i:=rs.idxOf t) rfl]
  exact pr.erase _
theorem Znw {K:PySem.W.Frag} {H:Hp} {l:Addr} {ns:List Int} {k:Int} {Q:VK} (hl:H l=some (.lst (ns.map V.int))) (hm:k∈ns) (q:Q .non (upd H l (.lst ((ns.erase k).map V.int)))):Zja K (.ref l) [.int k] H Q:=by
 have hj:ns.idxOf k<ns.length:=List.idxOf_lt_length_iff.mpr hm
 have ee:∀ a b:Int,PyData.eqv (.int a) (.int b)=decide (a=b):=λa b=>by simp only [PyData.eqv];rfl
 refine ⟨l,_,.int k,.int k,ns.map PyData.int,ns.idxOf k,rfl,rfl,hl,.int k,ZaF ns,rfl,λe he=>?_,by rw [List.length_map];exact hj,λe he=>?_,λm hlt e he=>?_,?_⟩
 ·obtain ⟨z,_,rfl⟩:=List.mem_map.mp he
  rfl
 ·rw [List.getElem?_map,List.getElem?_eq_getElem hj] at he
  cases he
  rw [ee]
  exact decide_eq_true (List.getElem_idxOf hj)
 ·rw [List.getElem?_map,List.getElem?_eq_getElem (by omega)] at he
  cases he
  rw [ee]
  refine decide_eq_false λz=>?_
  have:=ne_of_lt_idxOf hlt (show m<ns.length by omega)
  rw [z] at this
  simp at this
 ·rw [List.erase_eq_eraseIdx_of_idxOf (i:=ns.idxOf k) rfl] at q
  rw [Zef]
  exact q
end
end L2
namespace L2
open PySem PySem.Spec PyProof.Rows
def ltP (x y:Int×Int):Bool:=decide (x.1<y.1) || (decide (x.1=y.1) && decide (x.2<y.2))
section
variable {prog:Program} {w:World} {A:Around} {E:Value->Shared->Prop} {s:Shared}
theorem lt_int {x y:Int} {t u:Tok} {Q:Value->Shared->Prop} (h:Q (.bool (decide (x<y))) s):wpAny (model prog w) A (richCompare .Lt (.int x t) (.int y u)) Q E s:=
 CmpOf.ints_lt (P:=λi v=>∃ t,v=.int (if i=0 then x else y) t) (λi=>if i=0 then x else y) (λ_ _ p=>p) 0 1 _ _ s Q E ⟨t,rfl⟩ ⟨u,rfl⟩ h
theorem Zjb {a b:Addr} {x y:Int×Int} {t1 t2 u1 u2:Tok} {P:PySem.Fin->Shared->Prop} (ha:s.heap.IsTuple a #[.int x.1 t1,.int x.2 t2]) (hb:s.heap.IsTuple b #[.int y.1 u1,.int y.2 u2]) (h:P (.done (.ret (.bool (ltP x y)))) s) :
  wpAny (model prog w) A (Builtin.«tuple.__lt__» ⟨[.ref a,.ref b],[]⟩) P E s:=by
 obtain ⟨oa,ga,ca,na,da⟩:=ha
 obtain ⟨ob,gb,cb,nb,db⟩:=hb
 show wpAny _ _ (isInstance (.ref b) (.type "tuple") >>= _) _ _ s
 refine wpAny_bind (wpAny_isInstance (T := "tuple") ⟨ob,gb,cb⟩ isSubtype_tuple_tuple ?_)
 simp only [Bool.not_true,Bool.false_eq_true,if_false]
 refine wpAny_bind (wpAny_tupleItemsOf ga da (wpAny_bind (wpAny_tupleItemsOf gb db (wpAny_bind ?_))))
 show wpAny _ _ (forIn [(Value.int x.1 t1,Value.int y.1 u1),(Value.int x.2 t2,Value.int y.2 u2)] _ _) _ _ s
 rw [List.forIn_cons]
 refine wpAny_bind (wpAny_bind (wpAny_eqBool_int ?_))
 by_cases h1:x.1=y.1
 ·rw [show (x.1 == y.1)=true by rw [h1];exact beq_self_eq_true _]
  simp only [Bool.not_true,Bool.false_eq_true,if_false]
  refine wpAny_pure ?_
  show wpAny _ _ (forIn [(Value.int x.2 t2,Value.int y.2 u2)] _ _) _ _ s
  rw [List.forIn_cons]
  refine wpAny_bind (wpAny_bind (wpAny_eqBool_int ?_))
  by_cases h2:x.2=y.2
  ·rw [show (x.2 == y.2)=true by rw [h2];exact beq_self_eq_true _]
   simp only [Bool.not_true,Bool.false_eq_true,if_false]
   refine wpAny_pure ?_
   show wpAny _ _ (forIn [] _ _) _ _ s
   rw [List.forIn_nil]
   refine wpAny_pure (wpAny_pure ?_)
   have e:ltP x y=false:=by unfold ltP;rw [h1,h2];simp
   rw [e] at h
   exact h
  ·rw [show (x.2 == y.2)=false by rw [beq_eq_false_iff_ne];exact h2]
   simp only [Bool.not_false,if_true]
   refine wpAny_bind (wpAny_rule (wpAny_bind (lt_int ?_)))
   have e:ltP x y=decide (x.2<y.2):=by unfold ltP;rw [h1];simp
   rw [e] at h
   exact wpAny_bind (wpAny_pure (wpAny_pure (wpAny_pure (wpAny_pure h))))
 ·rw [show (x.1 == y.1)=false by rw [beq_eq_false_iff_ne];exact h1]
  simp only [Bool.not_false,if_true]
  refine wpAny_bind (wpAny_rule (wpAny_bind (lt_int ?_)))
  have e:ltP x y=decide (x.1<y.1):=by unfold ltP;rw [decide_eq_false h1];simp
  rw [e] at h
  exact wpAny_bind (wpAny_pure (wpAny_pure (wpAny_pure (wpAny_pure h))))
theorem Zjc {a b:Addr} {x y:Int×Int} {t1 t2 u1 u2:Tok} {Q:Value->Shared->Prop} (ha:s.heap.IsTuple a #[.int x.1 t1,.int x.2 t2]) (hb:s.heap.IsTuple b #[.int y.1 u1,.int y.2 u2]) (hu:A.units<cLine) (h:Q (.bool (ltP x y)) s):wpAny (model prog w) A (richCompare .Lt (.ref a) (.ref b)) Q E s:=by
 have Ta:s.TypeIs (.ref a) "tuple" := ha.elim λo z=>⟨o,z.1,z.2.1⟩
 have Tb:s.TypeIs (.ref b) "tuple" := hb.elim λo z=>⟨o,z.1,z.2.1⟩
 exact wpAny_richCompare_same_room (op:=.Lt) Ta Tb F.slot_tuple_lt (wpAny_call_entry F.slot_tuple_lt Ta F.entry_tuple_lt (Zjb ha hb ⟨_,rfl,(λe=>nomatch e),h⟩) (F.args_tuple_lt_2 _ _)) hu
end
def Zkw (prog:Program) (w:World) (A:Around) (op:CmpOp) (J:Heap->Prop) (P:Nat->Value->Prop) (bt:Nat->Nat->Bool):Prop:=
 ∀ (s:Shared) (i j:Nat) (vi vj:Value) (Q E:Value->Shared->Prop),J s.heap->P i vi->P j vj->Q (.bool (bt i j)) s->wpAny (model prog w) A (richCompare op vi vj) Q E s
section
variable {prog:Program} {w:World} {A:Around} {R:Result->Shared->Prop} {I:Addr} {fp wr:List Addr} {n:Nat} {P:Nat->Value->Prop} {St:Nat->Heap->Prop} {J:Heap->Prop} {kw:List (Str×Value)}
theorem ZgI (W:Walks prog w A.in1 I fp wr n P St) (bt:Nat->Nat->Bool) (cmp:Zkw prog w A.in1 .Lt J P bt) (D:Addr) (hD:D ∉ fp) (keepJ:∀ h h':Heap,J h->(∀ b o,b ∉ wr->b≠D->h.get? b=some o->h'.get? b=some o)->J h') :
  ∀ (left m:Nat) (s:Shared) (best:Value) (c:Nat),n-(m+1)=left->m+1<=n->St (m+1) s.heap->J s.heap->P (argBest bt m) best ->
  s.heap.get? D=some { cls:=.type "list", dict:=none,data:=.seq #[best,best] c,slots:=#[] } ->
  (∀ v h' tk,P (argBest bt (n-1)) v->(∀ b o,b ∉ wr->b≠D->s.heap.get? b=some o->h'.get? b=some o)->R (.ok (.ret v)) { s with heap:=h',toks:=tk }) ->
  codeAny (model prog w) A (.builtin "min.loop" ⟨[.ref I,.none,.ref D],kw⟩) R s:=by
 have hDw:D ∉ wr:=λz=>hD (W.sub _ z)
 have nm:(toString "min" ++ toString ".loop" : String) = "min.loop" := by decide
 intro left
 induction left with
 | zero=>
  intro m s best c hl hm st j pb gD hR
  have en:m+1=n:=by omega
  refine codeAny_builtin F.entry_min_loop ?_;rw [Around.under_plainId F.plain_min_loop _]
  show wpAny _ A.in1 (seqItems? (.ref D) >>= _) _ _ s
  refine wpAny_bind (wpAny_seqItems gD rfl (show wpAny _ A.in1 (tryCatch (pyNext (.ref I)) _ >>= _) _ _ s from wpAny_bind (wpAny_tryCatch (W.done s _ _ (en▸st) λh' tk kept=>?_))))
  show wpAny _ A.in1 (updateSeq D (λ_=>#[]) >>= _) _ _ _
  refine wpAny_bind (wpAny_updateSeq (kept D _ hDw gD) rfl (wpAny_bind (wpAny_letGo (wpAny_pure (hR best _ tk (by rw [<-en];exact pb) λb o nw nD e=>?_)))))
  exact (Heap.get?_update_other _ _ (Ne.symm nD)).trans (kept b o nw e)
 | succ left ih=>
  intro m s best c hl hm st j pb gD hR
  refine codeAny_builtin F.entry_min_loop ?_;rw [Around.under_plainId F.plain_min_loop _]
  show wpAny _ A.in1 (seqItems? (.ref D) >>= _) _ _ s
  refine wpAny_bind (wpAny_seqItems gD rfl (show wpAny _ A.in1 (tryCatch (pyNext (.ref I)) _ >>= _) _ _ s from wpAny_bind (wpAny_tryCatch (W.item (m+1) s _ _ (by omega) st λv h' tk pv st' kept=>?_))))
  have gD':=kept D _ hDw gD
  have j':J h':=keepJ _ _ j λb o nw _ e=>kept b o nw e
  show wpAny _ A.in1 (tryCatch (holding [v,v] (richCompare .Lt v best >>= _)) _ >>= _) _ _ _
  refine wpAny_bind (wpAny_tryCatch (wpAny_holding (wpAny_bind (cmp _ (m+1) (argBest bt m) v best _ _ j' pv pb (wpAny_bind (wpAny_holding (wpAny_truthy_bool (wpAny_bind (wpAny_letGo (wpAny_pure ?_))))))))))
  cases hb:bt (m+1) (argBest bt m) with
  | true=>
   simp only [if_true]
   refine wpAny_bind (wpAny_updateSeq gD' rfl (wpAny_bind (wpAny_letGo ?_)));rw [nm]
   refine wpAny_pure ⟨plainId_quiet F.plain_min_loop _,ih (m+1) _ v _ (by omega) (by omega) (W.frame _ _ _ st' λb bf o e=>?_) (keepJ _ _ j' λb o _ nD e=>(Heap.get?_update_other _ _ (Ne.symm nD)).trans e) (by simp only [argBest,hb,if_true];exact pv) (Heap.get?_update_self _ gD' rfl) λv' h2 tk2 pv' k2=>?_⟩
   ·exact (Heap.get?_update_other _ _ (λz:D=b=>hD (by rw [z];exact bf))).trans e
   ·exact hR v' h2 tk2 pv' λb o nw nD e=>k2 b o nw nD ((Heap.get?_update_other _ _ (Ne.symm nD)).trans (kept b o nw e))
  | false=>
   simp only [Bool.false_eq_true,if_false]
   refine wpAny_bind (wpAny_letGo ?_);rw [nm]
   refine wpAny_pure ⟨plainId_quiet F.plain_min_loop _,ih (m+1) _ best c (by omega) (by omega) st' j' (by simp only [argBest,hb,Bool.false_eq_true,if_false];exact pb) gD' λv' h2 tk2 pv' k2=>?_⟩
   exact hR v' h2 tk2 pv' λb o nw nD e=>k2 b o nw nD (kept b o nw e)
theorem ZfE (W:Walks prog w A.in1 I fp wr n P St) (bt:Nat->Nat->Bool) (cmp:Zkw prog w A.in1 .Lt J P bt) (D:Addr) (hD:D ∉ fp) (keepJ:∀ h h':Heap,J h->(∀ b o,b ∉ wr->b≠D->h.get? b=some o->h'.get? b=some o)->J h') (hn:0<n) {s:Shared} {c:Nat} (st:St 0 s.heap) (j:J s.heap)
  (gD:s.heap.get? D=some { cls:=.type "list", dict:=none,data:=.seq #[] c,slots:=#[] })
  (hR:∀ v h' tk,P (argBest bt (n-1)) v->(∀ b o,b ∉ wr->b≠D->s.heap.get? b=some o->h'.get? b=some o)->R (.ok (.ret v)) { s with heap:=h',toks:=tk }) :
  codeAny (model prog w) A (.builtin "min.loop" ⟨[.ref I,.none,.ref D],kw⟩) R s:=by
 have hDw:D ∉ wr:=λz=>hD (W.sub _ z)
 have nm:(toString "min" ++ toString ".loop" : String) = "min.loop" := by decide
 refine codeAny_builtin F.entry_min_loop ?_;rw [Around.under_plainId F.plain_min_loop _]
 show wpAny _ A.in1 (seqItems? (.ref D) >>= _) _ _ s
 refine wpAny_bind (wpAny_seqItems gD rfl (show wpAny _ A.in1 (tryCatch (pyNext (.ref I)) _ >>= _) _ _ s from wpAny_bind (wpAny_tryCatch (W.item 0 s _ _ hn st λv h' tk pv st' kept=>?_))))
 have gD':=kept D _ hDw gD
 have j':J h':=keepJ _ _ j λb o nw _ e=>kept b o nw e
 show wpAny _ A.in1 (updateSeq D (λ_=>#[v,v]) >>= _) _ _ _
 refine wpAny_bind (wpAny_updateSeq gD' rfl ?_);rw [nm]
 refine wpAny_pure ⟨plainId_quiet F.plain_min_loop _,ZgI W bt cmp D hD keepJ _ 0 _ v _ rfl hn (W.frame _ _ _ st' λb bf o e=>?_) (keepJ _ _ j' λb o _ nD e=>(Heap.get?_update_other _ _ (Ne.symm nD)).trans e) pv (Heap.get?_update_self _ gD' rfl) λv' h2 tk2 pv' k2=>?_⟩
 ·exact (Heap.get?_update_other _ _ (λz:D=b=>hD (by rw [z];exact bf))).trans e
 ·exact hR v' h2 tk2 pv' λb o nw nD e=>k2 b o nw nD ((Heap.get?_update_other _ _ (Ne.symm nD)).trans (kept b o nw e))
end
theorem ltP_iff {x y:Int×Int}:ltP x y=true↔x.1<y.1\/(x.1=y.1/\x.2<y.2):=by
 unfold ltP
 rw [Bool.or_eq_true,Bool.and_eq_true,decide_eq_true_iff,decide_eq_true_iff,decide_eq_true_iff]
theorem Zeg (f:Nat->Int×Int):∀ k,argBest (λi j=>ltP (f i) (f j)) k<=k/\∀ j,j<=k->ltP (f j) (f (argBest (λi j=>ltP (f i) (f j)) k))=false
 | 0=>⟨Nat.le_refl _,λj hj=>by
  have:j=0:=by omega
  subst this
  rw [<-Bool.not_eq_true]
  intro z
  have:=ltP_iff.mp z
  have e:argBest (λi j=>ltP (f i) (f j)) 0=0:=rfl
  rw [e] at this
  omega⟩
 | k+1=>by
  obtain ⟨i1,i2⟩:=Zeg f k
  have e:argBest (λi j=>ltP (f i) (f j)) (k+1)=if ltP (f (k+1)) (f (argBest (λi j=>ltP (f i) (f j)) k))=true then k+1 else argBest (λi j=>ltP (f i) (f j)) k:=rfl
  rw [e]
  generalize argBest (λi j=>ltP (f i) (f j)) k=g at i1 i2
  by_cases z:ltP (f (k+1)) (f g)=true
  ·rw [if_pos z]
   refine ⟨Nat.le_refl _,λj hj=>?_⟩
   rw [<-Bool.not_eq_true]
   intro y
   have z1:=ltP_iff.mp z
   have y1:=ltP_iff.mp y
   by_cases hk:j=k+1
   ·subst hk;omega
   ·have:=i2 j (by omega)
    rw [<-Bool.not_eq_true,ltP_iff] at this
    omega
  ·rw [if_neg z]
   refine ⟨by omega,λj hj=>?_⟩
   by_cases hk:j=k+1
   ·rw [hk];exact Bool.eq_false_iff.mpr z
   ·exact i2 j (by omega)
section
variable {X:Cx}
def Zeh (xs:List V) (rs:List (Int×Int)) (t:Addr) (r:Int×Int):Prop:=(∃ i:Nat,xs[i]?=some (.ref t)/\rs[i]?=some r)/\∀ r'∈rs,ltP r' r=false
def ZlZ (K:PySem.W.Frag):List V->Hp->VK->Prop:=λvs H Q=>∃ (p:Addr) (xs:List V) (rs:List (Int×Int)),vs=[.ref p]/\SqL K H p xs/\Prs H xs rs/\rs≠[]/\∀ t r,Zeh xs rs t r->Q (.ref t) H
theorem Zfd {pins:List (Addr×Obj)} {s:Shared} {σ:St} {H:Hp} {Q:VK} {p:Addr} {xs:List V} {rs:List (Int×Int)} {its:List Value} {kw:List (Str×Value)} (hc:X.calm=true) (hu:X.A.units+1<cLine) (I:Inv X pins σ H s) (r:Vals xs its) (pl:PlainL s.heap p its.toArray) (pr:Prs H xs rs) (hne:rs≠[]) (q:∀ t r,Zeh xs rs t r->Q (.ref t) H)
  {R:Result->Shared->Prop} (hR:∀ v s',EP X pins σ Q v s'->R (.ok (.ret v)) s'):∀ c:Nat,
  codeAny (model X.prog X.w) X.A (.builtin "min.loop" ⟨[.ref s.heap.objs.size,.none,.ref (s.heap.objs.size+1)],kw⟩) R { s with heap:=(s.heap.push { cls:=.type "list_iterator", data:=.fields #[.ref p,.int 0 0] }).push { cls:=.type "list", dict:=none,data:=.seq #[] c,slots:=#[] } }:=by
 intro c
 have hl:=r.length
 have hx:=pr.len
 have hpos:0<rs.length:=List.length_pos_iff.mpr hne
 have hh:X.A.in1.handled=none:=I.ok.hd hc
 obtain ⟨o,eo,_⟩:=id pl.isList
 have hlt:p<s.heap.objs.size:=Heap.lt_size eo
 have e1:(s.heap.push { cls:=.type "list_iterator", data:=.fields #[.ref p,.int 0 0] }).objs.size=s.heap.objs.size+1:=Heap.size_push ..
 have at_:∀ i v,its[i]?=some v->∃ t u1 u2,v=.ref t/\xs[i]?=some (.ref t)/\rs[i]?=some (rs.getD i (0,0))/\s.heap.IsTuple t #[.int (rs.getD i (0,0)).1 u1,.int (rs.getD i (0,0)).2 u2]:=λi v hv=>by
  have hi:i<its.length:=(List.getElem?_eq_some_iff.mp hv).1
  have hxi:xs[i]?=some xs[i]:=List.getElem?_eq_getElem (by omega)
  obtain ⟨t,q',et,eh,er⟩:=pr.get hxi
  obtain ⟨u,gu,ru⟩:=r.get hxi
  rw [gu] at hv
  cases hv
  rw [et] at ru
  cases ru
  have eg:rs.getD i (0,0)=q':=by rw [List.getD_eq_getElem?_getD,er];rfl
  obtain ⟨its2,r2,pl2,_⟩:=I.tuple (SqT.of eh)
  cases r2 with
  | cons a1 r3=>
   cases r3 with
   | cons a2 r4=>
    cases r4
    obtain ⟨u1,rfl⟩:=a1
    obtain ⟨u2,rfl⟩:=a2
    exact ⟨t,u1,u2,rfl,by rw [hxi,et],by rw [eg];exact er,by rw [eg];exact pl2⟩
 have kept0:∀ b o,s.heap.get? b=some o->((s.heap.push { cls:=.type "list_iterator", data:=.fields #[.ref p,.int 0 0] }).push { cls:=.type "list", dict:=none,data:=.seq #[] c,slots:=#[] }).get? b=some o:=λb o e=>Heap.get?_push_of_some _ (Heap.get?_push_of_some _ e)
 have W:=Walks.list (prog:=X.prog) (w:=X.w) hh s.heap.objs.size p (Nat.ne_of_lt hlt) its.toArray
 have hsz:its.toArray.size=rs.length:=by rw [List.size_toArray];omega
 refine ZfE (J:=λh=>∀ i t u1 u2,its[i]?=some (.ref t)->s.heap.IsTuple t #[.int (rs.getD i (0,0)).1 u1,.int (rs.getD i (0,0)).2 u2]->h.IsTuple t #[.int (rs.getD i (0,0)).1 u1,.int (rs.getD i (0,0)).2 u2]) W (λi j=>ltP (rs.getD i (0,0)) (rs.getD j (0,0))) ?cmp (s.heap.objs.size+1) ?hD ?kJ (by rw [hsz];exact hpos) ?st ?j (by rw [<-e1];exact Heap.get?_push_size _ rfl) ?fin
 case cmp=>
  intro s' i j vi vj Q' E' hJ hi hj hq
  obtain ⟨a,u1,u2,rfl,_,_,ha⟩:=at_ i vi (by simpa using hi)
  obtain ⟨b,w1,w2,rfl,_,_,hb⟩:=at_ j vj (by simpa using hj)
  exact Zjc (hJ i a u1 u2 (by simpa using hi) ha) (hJ j b w1 w2 (by simpa using hj) hb) (by rw [Around.in1_units];exact hu) hq
 case hD=>
  intro z
  have:s.heap.objs.size+1=s.heap.objs.size\/s.heap.objs.size+1=p:=by simpa using z
  rcases this with e | e
  ·exact absurd e (Nat.succ_ne_self _)
  ·exact absurd hlt (by rw [<-e];exact Nat.not_lt.mpr (Nat.le_succ _))
 case kJ=>
  intro h h' hJ kp i t u1 u2 hi hT
  obtain ⟨o',g',rest⟩:=hJ i t u1 u2 hi hT
  obtain ⟨o0,g0,_⟩:=hT
  have ht:t<s.heap.objs.size:=Heap.lt_size g0
  refine ⟨o',kp t o' (λz=>?_) (Nat.ne_of_lt (Nat.lt_succ_of_lt ht)) g',rest⟩
  have:t=s.heap.objs.size:=by simpa using z
  exact absurd ht (by rw [this];exact Nat.lt_irrefl _)
 case st=>
  refine ⟨⟨_,Heap.get?_push_of_some _ (Heap.get?_push_size _ rfl),rfl,rfl⟩,pl.isList.at λo e=>kept0 _ _ e⟩
 case j=>
  intro i t u1 u2 hi hT
  obtain ⟨o0,g0,rest⟩:=hT
  exact ⟨o0,kept0 _ _ g0,rest⟩
 case fin=>
  intro v h' tk hv hk
  obtain ⟨b1,b2⟩:=Zeg (λi=>rs.getD i (0,0)) (its.toArray.size-1)
  generalize argBest (λi j=>ltP (rs.getD i (0,0)) (rs.getD j (0,0))) (its.toArray.size-1)=g at hv b1 b2
  obtain ⟨t,u1,u2,rfl,ex,er,_⟩:=at_ g v (by simpa using hv)
  refine hR _ _ ⟨.ref t,H,I.kept λb o e'=>hk b o ?_ ?_ (kept0 b o e'),rfl,q t _ ⟨⟨g,ex,er⟩,λr' hr'=>?_⟩⟩
  ·intro z
   have:b=s.heap.objs.size:=by simpa using z
   exact absurd (Heap.lt_size e') (by rw [this];exact Nat.lt_irrefl _)
  ·exact Nat.ne_of_lt (Nat.lt_succ_of_lt (Heap.lt_size e'))
  ·obtain ⟨j,hj,rfl⟩:=List.getElem_of_mem hr'
   have:=b2 j (by omega)
   rw [List.getD_eq_getElem?_getD,List.getElem?_eq_getElem hj] at this
   exact this
theorem Zkx (K:PySem.W.Frag) (hc:X.calm=true) (hu:X.A.units+1<cLine) (h:X.K=K:=by rfl):Zbc X (.builtin "min") (ZlZ K):=by
 subst h
 intro pins s σ H xs us Q I rv h
 obtain ⟨p,xs,rs,rfl,hq,pr,hne,q⟩:=h
 obtain ⟨u,rfl,ru⟩:=rv.one
 cases ru
 obtain ⟨its,r,pl,hz⟩:=I.list hq
 have nm:(toString "min" ++ toString ".loop" : String) = "min.loop" := by decide
 refine call_function_tree F.kind_min F.plain_min F.entry_min (F.args_min1 _) ?_
 refine wpAny_bind (wpAny_of_eq (show Builtin.Builtins.bindParams "min" ["key", "default"] 0 ⟨[],[]⟩=pure [none,none] from rfl) (wpAny_bind (wpAny_pure (wpAny_bind (wpAny_pyIter_list pl.isList (wpAny_bind (wpAny_newObj_type ?_)))))))
 rw [nm]
 have e1:(s.heap.push { cls:=.type "list_iterator", data:=.fields #[.ref p,.int 0 0] }).objs.size=s.heap.objs.size+1:=Heap.size_push ..
 refine wpAny_pure ⟨plainId_quiet F.plain_min_loop _,?_⟩
 show codeAny _ _ (.builtin "min.loop" ⟨[.ref s.heap.objs.size,.none,.ref (s.heap.push { cls:=.type "list_iterator", data:=.fields #[.ref p,.int 0 0] }).objs.size],[]⟩) _ _
 rw [e1]
 exact Zfd hc hu I r pl pr hne q (λv s' h=>h) 0
def Zh9 (X:Cx) (f:Value) (ks:List Str) (r:List V->List V->Hp->VK->Prop):Prop:=∀ (pins:List (Addr×Obj)) (s:Shared) (σ:St) (H:Hp) (xs:List V) (us:List Value) (zs:List V) (ws:List Value) (Q:VK),Inv X pins σ H s->Vals xs us->Vals zs ws->r xs zs H Q->wpAny (model X.prog X.w) X.A (call f us (ks.zip ws)) (EP X pins σ Q) X.xe s
def Znx (r:List V->List V->Hp->VK->Prop) (t tk:TA):TE:=λσ H Q=>t σ H λvs H1=>tk σ H1 λzs H2=>r vs zs H2 Q
theorem ZgJ {id:String} {ks:List Str} {r:List V->List V->Hp->VK->Prop} {x:Str} {p pos:Pos} {e:Expr} {es:List Expr} {kws:List Keyword} {t tk:TA} (hc:Zh9 X (.builtin id) ks r) (hg:Gl X x) (hm:X.mg x=none) (hv:bootBuiltins x=some (.builtin id)) (ha:PA X (e::es) t) (hkw:PK X kws tk) (hks:(backToKw pos (keywordEach kws X.env)).filterMap (·.1)=ks:=by rfl)
  (hn:x ≠ "__name__" := by decide) (hdb:(x == ("__debug__" : Str))=false:=by decide)
  (he:backTo pos (starEach (e::es) X.env)=(false,eval e X.env)::backTo pos (starEach es X.env):=by rfl) (hpl:(backTo pos (starEach (e::es) X.env)).any (·.1)=false:=by rfl) (hall:(backToKw pos (keywordEach kws X.env)).all (·.1.isSome)=true:=by rfl) (hno:(backToKw pos (keywordEach kws X.env)).any (·.1.isNone)=false:=by rfl):PE X (.Call (.Name x p) (e::es) kws pos) (Znx r t tk):=by
 intro pins s σ H Q I h
 refine wpAny_Call_Name_kw (ZcA I hg hm hv ?_ hn hdb)
 refine PyProof.Rows.callWith_kw (thn (ha pos pins s σ H _ I h) λus s1 ⟨vs,H1,I1,r1,q1⟩=>thn (hkw pos pins s1 σ H1 _ I1 q1) λws s2 ⟨zs,H2,I2,r2,q2⟩=>?_) he hpl hall hno
 rw [hks]
 exact hc pins s2 σ H2 vs us zs ws Q I2 r1 r2 q2
theorem Zei {prog:Program} {w:World} {A:Around} {E:Value->Shared->Prop} {s:Shared} {id:String} {b:Builtin} {args:Args} {Q:Value->Shared->Prop} (nk:builtinKind id=none) (np:plainId id=true) (nb:entryFor table id=some b) (na:argsOk id args)
  (h:wpAny (model prog w) A.in1 (b args) (λfin z=>match fin with
   | .done f=>(match (Except.ok f:Result) with | .ok (.ret v)=>Q v z | .ok _=>False | .error e=>E e z)
   | .again c=>c.quiet=true/\codeAny (model prog w) A c (λr z=>match r with | .ok (.ret v)=>Q v z | .ok _=>False | .error e=>E e z) z) E s) :
  wpAny (model prog w) A (call (.builtin id) args.pos args.kw) Q E s:=by
 refine wpAny_call (codeAny_call_builtin np nb ?_);simp only [checkBuiltinCall,nk]
 cases sg:Manifest.signature? id with
 | none=>exact wpAny_pure h
 | some sig=>
  have na2:Bind.checkArgs id sig args=pure ():=by simpa only [argsOk,sg] using na
  show wpAny _ A.in1 (Bind.checkArgs id sig args) _ _ s
  rw [na2]
  exact wpAny_pure h
theorem ZgK (a b:Value):argsOk "min" ⟨[a],[(Str.ofString "default", b)]⟩:=by unfold argsOk;kernel_rfl
theorem Zky (K:PySem.W.Frag) (hc:X.calm=true) (hu:X.A.units+1<cLine) (h:X.K=K:=by rfl):Zh9 X (.builtin "min") ["default"] (λvs zs H Q=>∃ (p:Addr) (xs:List V) (rs:List (Int×Int)) (d:V),vs=[.ref p]/\zs=[d]/\SqL K H p xs/\Prs H xs rs/\(rs=[]->Q d H)/\∀ t r,Zeh xs rs t r->Q (.ref t) H):=by
 subst h
 intro pins s σ H xs us zs ws Q I rv rz h
 obtain ⟨p,xs,rs,d,rfl,rfl,hq,pr,q0,q⟩:=h
 obtain ⟨u,rfl,ru⟩:=rv.one
 obtain ⟨du,rfl,rd⟩:=rz.one
 cases ru
 obtain ⟨its,r,pl,hz⟩:=I.list hq
 have nm:(toString "min" ++ toString ".loop" : String) = "min.loop" := by decide
 refine Zei (args:=⟨[.ref p],[(Str.ofString "default", du)]⟩) F.kind_min F.plain_min F.entry_min (ZgK _ _) ?_
 refine wpAny_bind (wpAny_of_eq (show Builtin.Builtins.bindParams "min" ["key", "default"] 0 ⟨[],[(Str.ofString "default", du)]⟩=pure [none,some du] from rfl) (wpAny_bind (wpAny_pure (wpAny_bind (wpAny_pyIter_list pl.isList (wpAny_bind (wpAny_newObj_type ?_)))))))
 rw [nm]
 have e1:(s.heap.push { cls:=.type "list_iterator", data:=.fields #[.ref p,.int 0 0] }).objs.size=s.heap.objs.size+1:=Heap.size_push ..
 refine wpAny_pure ⟨plainId_quiet F.plain_min_loop _,?_⟩
 show codeAny _ _ (.builtin "min.loop" ⟨[.ref s.heap.objs.size,.none,.ref (s.heap.push { cls:=.type "list_iterator", data:=.fields #[.ref p,.int 0 0] }).objs.size],[(Str.ofString "default", du)]⟩) _ _
 rw [e1]
 by_cases hne:rs=[]
 ·have hh:X.A.in1.handled=none:=I.ok.hd hc
  obtain ⟨o,eo,_⟩:=id pl.isList
  have hlt:p<s.heap.objs.size:=Heap.lt_size eo
  have hi0:its=[]:=by
   have:=r.length
   have:=pr.len
   rw [hne,List.length_nil] at this
   exact List.length_eq_zero_iff.mp (by omega)
  have W:=Walks.list (prog:=X.prog) (w:=X.w) hh s.heap.objs.size p (Nat.ne_of_lt hlt) its.toArray
  refine codeAny_builtin F.entry_min_loop ?_;rw [Around.under_plainId F.plain_min_loop _]
  show wpAny _ X.A.in1 (seqItems? (.ref (s.heap.objs.size+1)) >>= _) _ _ _
  refine wpAny_bind (wpAny_seqItems (by rw [<-e1];exact Heap.get?_push_size _ rfl) rfl ?_)
  refine wpAny_bind (wpAny_tryCatch (W.done _ _ _ ?_ λh' tk kept=>?_))
  ·rw [hi0]
   exact ⟨⟨_,Heap.get?_push_of_some _ (Heap.get?_push_size _ rfl),rfl,rfl⟩,by rw [<-hi0];exact pl.isList.at λo e=>Heap.get?_push_of_some _ (Heap.get?_push_of_some _ e)⟩
  ·refine wpAny_bind (wpAny_rule (wpAny_pure ⟨d,H,I.kept λb o e'=>kept b o ?_ (Heap.get?_push_of_some _ (Heap.get?_push_of_some _ e')),rd,q0 hne⟩))
   intro z
   have:b=s.heap.objs.size:=by simpa using z
   exact absurd (Heap.lt_size e') (by rw [this];exact Nat.lt_irrefl _)
 ·exact Zfd hc hu I r pl pr hne q (λv s' h=>h) 0
theorem Zl0 (K:PySem.W.Frag) (hc:X.calm=true) (h:X.K=K:=by rfl):Zbc X (.builtin "min") (λxs H Q=>∃ (p:Addr) (ns:List Int),xs=[.ref p]/\SqT K H p (ns.map V.int)/\ns≠[]/\∀ m,m∈ns->(∀ n∈ns,m<=n)->Q (.int m) H):=by
 subst h
 intro pins s σ H xs us Q I rv h
 obtain ⟨p,ns,rfl,hq,hne,q⟩:=h
 obtain ⟨u,rfl,ru⟩:=rv.one
 cases ru
 obtain ⟨its,r,pl,hz⟩:=I.tuple hq
 have hh:X.A.in1.handled=none:=I.ok.hd hc
 have hl:=r.length
 rw [List.length_map] at hl
 have hpos:0<ns.length:=List.length_pos_iff.mpr hne
 obtain ⟨o,eo,_⟩:=id pl
 have hlt:p<s.heap.objs.size:=Heap.lt_size eo
 have hval:∀ (i:Nat) (v:Value),its.toArray[i]?=some v->∃ t,v=Value.int (ns.getD i 0) t:=λi v hv=>by
  have hv':its[i]?=some v:=by simpa using hv
  have hi:i<its.length:=(List.getElem?_eq_some_iff.mp hv').1
  have ex:(ns.map V.int)[i]?=some (.int (ns[i]'(by omega))):=by rw [List.getElem?_map,List.getElem?_eq_getElem (by omega)];rfl
  obtain ⟨u,gu,ru⟩:=r.get ex
  rw [gu] at hv'
  cases hv'
  obtain ⟨t,rfl⟩:=ru
  exact ⟨t,by rw [List.getD_eq_getElem?_getD,List.getElem?_eq_getElem (by omega)];rfl⟩
 refine call_min_walk (wpAny_pyIter_tuple pl ?_)
 refine ⟨s.heap.objs.size,_,_,_,_,_,_,rfl,Walks.tuple hh s.heap.objs.size p (Nat.ne_of_lt hlt) its.toArray,⟨⟨_,Heap.get?_push_size _ rfl,rfl,rfl⟩,pl.elim λo z=>⟨o,Heap.get?_push_of_some _ z.1,z.2⟩⟩,?_,by rw [List.size_toArray];omega,CmpOf.ints_lt (λi=>ns.getD i 0) hval,λv h' tk hv hk=>?_⟩
 ·intro b hb
  have e:b=s.heap.objs.size\/b=p:=by simpa using hb
  have hsz:(s.heap.push { cls:=.type "tuple_iterator", data:=.fields #[.ref p,.int 0 0] }).objs.size=s.heap.objs.size+1:=Heap.size_push ..
  show b<(s.heap.push { cls:=.type "tuple_iterator", data:=.fields #[.ref p,.int 0 0] }).objs.size
  rw [hsz]
  rcases e with e | e
  ·rw [e];exact Nat.lt_succ_self _
  ·rw [e];exact Nat.lt_succ_of_lt hlt
 ·obtain ⟨t,rfl⟩:=hval _ v hv
  have hA:=argBest_lt (λi=>ns.getD i 0) (its.toArray.size-1)
  have hsz:its.toArray.size=ns.length:=by rw [List.size_toArray];exact hl.symm
  generalize hg:argBest (λi j=>decide (ns.getD i 0<ns.getD j 0)) (its.toArray.size-1)=g at hA ⊢
  have hg1:g<ns.length:=by omega
  have eg:ns.getD g 0=ns[g]:=by rw [List.getD_eq_getElem?_getD,List.getElem?_eq_getElem hg1];rfl
  refine ⟨.int (ns.getD g 0),H,I.kept λb o e'=>hk b o ?_ (Heap.get?_push_of_some _ e'),⟨t,rfl⟩,q _ (by rw [eg];exact List.getElem_mem hg1) λn hn=>?_⟩
  ·intro z
   have:b=s.heap.objs.size:=by simpa using z
   exact absurd (Heap.lt_size e') (by rw [this];exact Nat.lt_irrefl _)
  ·obtain ⟨j,hj,rfl⟩:=List.getElem_of_mem hn
   have:=hA.2 j (by omega)
   have ej:ns.getD j 0=ns[j]:=by rw [List.getD_eq_getElem?_getD,List.getElem?_eq_getElem hj];rfl
   rw [<-ej]
   exact this
end
section
variable {X:Cx} {k:Nat} {f:Addr} {fd:FuncData} {ps:List Str} {sp:Sp} {dvs:List V} {ds:List Value} {fx:Str} {fp cpos bpos np:Pos} {e:Expr} {es:List Expr} {t:TA}
theorem Zia {j:Nat} {y:Str} (F:ZaK X.prog X.w X.K X.mg X.base (CXr X.prog X.w) k f fd ps sp) (hr:Room k X.A) (hg:Gl X fx) (hm:X.mg fx=some (.ref f)) (hk:PySem.W.keepIn X.K (.ref f)=true) (hb:Binds X.K fd ps ds) (hd:Vals dvs ds) (ha:PA X.nox (e::es) t) (hN:X.N.Nodup) (hj:X.N[j]?=some y) (hx:Loc X.env.scope y)
  (hdb:(fx == ("__debug__" : Str))=false:=by decide) (he:starEach (e::es) X.env=(false,eval e X.env)::starEach es X.env:=by rfl) (hpl:(backTo cpos (starEach es X.env)).any (·.1)=false:=by rfl)
  (hs:swapsWith (.Call (.Name fx fp) (e::es) [] cpos) (some (.Name y np)) bpos.line X.env=pure false:=by rfl) (hf:X.fn y=true\/X.env.scope.names.lookup y=some .local:=by first | exact .inl rfl | exact .inr rfl | assumption) :
  PB X [.Assign [.Name y np] (.Call (.Name fx fp) (e::es) [] cpos) bpos] (λD Eσ σ H=>t σ H λvs H1=>sp (vs++dvs) H1 (λv H2=>D.nx (σ.set j (some v)) H2) (Eσ σ)):=by
 intro pins s σ H D Eσ QQ EE I h hQ hE
 refine wpAny_execs_cons (wpAny_Assign_Name (Zhg F hr hg hm hk hb hd ha I h (λu s' hq=>?_) (λev H1 s1 s' I1 hq=>hE σ ev H1 s1 s' I1 hq) hdb he hpl) hs)
 obtain ⟨v,H2,I2,rv,q⟩:=hq
 exact ZcG I2 hN hj hx rv (λs2 I3=>wpAny_execs_nil (hQ .next s2 ⟨_,H2,I3,q⟩)) hf
end
end L2
namespace M
open PySem L2
def top (i:Nat):Stmt:=PySem.Challenge.pw_onceways_k09_ways_of_sets.main.body.getD i (.Pass ⟨0,0,0,0⟩)
abbrev sIs:Stmt:=top 16
abbrev Zjd:Stmt:=top 17
abbrev Zje:Stmt:=top 18
abbrev Zib:Stmt:=top 20
abbrev ZhG:Stmt:=top 21
abbrev Zic:Stmt:=top 22
abbrev ZhH:Stmt:=top 23
abbrev Zjf:Stmt:=top 24
abbrev Zjg:Stmt:=top 25
abbrev ZeG:Stmt:=top 26
abbrev Zid:Stmt:=top 27
abbrev ZhI:Stmt:=top 28
abbrev Zie:Stmt:=top 29
abbrev ZhJ:Stmt:=top 30
abbrev ZeH:Stmt:=top 32
abbrev ZeI:Stmt:=top 33
abbrev ZcF:Stmt:=top 34
abbrev Zc2:Stmt:=top 35
abbrev Zjh:Stmt:=top 36
abbrev Zji:Stmt:=top 37
abbrev Zjj:Stmt:=top 38
abbrev Zif:Stmt:=top 39
abbrev Zjk:Stmt:=top 40
abbrev Zig:Stmt:=top 41
abbrev ZgL:Stmt:=top 42
abbrev Zih:Stmt:=top 43
abbrev Zjl:Stmt:=top 44
abbrev Zii:Stmt:=top 45
abbrev Zjm:Stmt:=top 46
abbrev Zjn:Stmt:=top 47
abbrev Zjo:Stmt:=top 48
abbrev Zjp:Stmt:=top 49
abbrev ZhK:Stmt:=top 50
section
variable {P:Program} {w:World} {K:PySem.W.Frag} {mg:Str->Option Value} {base:Heap}
theorem Za7 {p:Nat} {a:Int} (h:a.natAbs<2 ^ p:=by decide +kernel):Lt2 p a:=h
def Zij:Sp:=λvs H Q _=>∃ (c k:Int),vs=[.int c,.int k]/\1<=k/\k<=3/\∀ r:Int,0<=r->Lt2 210 r->Q (.int r) H
theorem scStir:Zav ["cell", "k", "number"] ["cell", "k"] (Zae ZeH):=⟨rfl,rfl,rfl,by decide +kernel,rfl,by decide +kernel,by decide +kernel⟩
theorem Zjq {f:Addr} {fd:FuncData} (F:Fun K "_law_stir" "_law_stir" ZeH f fd):ZaK P w K mg base CX0 1 f fd ["cell", "k"] Zij:=by
 refine F.ok scStir (λvs H Q E h=>?_) (λcdv A outer s H vs Q E hr h=>?_)
 ·obtain ⟨c,k,rfl,_⟩:=h
  rfl
 ·obtain ⟨c,k,rfl,h1,h2,q⟩:=h
  refine ⟨_,Zad (Zat (i:=2) scStir.nd rfl (Or.inl rfl)
    (Zaq ZaH (Zaq ZaH (Zaq ZbO (Zaq ZdS (pv 0) (Zaq Zb5 Zaf Zaf)) Zaf) (Zaq ZbO (Zaq ZbO (Zaq Zb5 Zaf Zaf) (Zaq ZaH (pv 1) Zaf)) (Zaq ZaH (pv 1) Zaf))) (pv 1)))
   (Zad (Zat (i:=2) scStir.nd rfl (Or.inl rfl) (Zaq ZaH (Zaq ZbO (pv 2) (pv 2)) (Zaq ZbO Zaf (pv 2))))
   (Zag (Zas (Zaq ZeX (Zaq ZdS (Zaq ZbO (pv 2) (pv 2)) (Zaq ZaH (Zaq Zb5 Zaf Zaf) Zaf)) Zaf)))),?_⟩
  have b1:Lt2 133 (10 ^ 40:Int):=Za7
  have m1:Lt2 133 (c % (10 ^ 40:Int)):=Lt2.mod (by decide) b1
  have k1:Lt2 3 (k+1):=by show (k+1).natAbs<2 ^ 3;omega
  have k2:Lt2 150 k:=by show k.natAbs<2 ^ 150;omega
  have t1:Lt2 96 (3 ^ 60:Int):=Za7
  have c1:Lt2 16 (48271:Int):=Za7
  have n1:=((m1.mul c1).mono (show 133+16<=149 by decide)).add (((t1.mul k1).mul k1).mono (show 96+3+3<=149 by decide))
  have n2:=n1.add k2
  have c2:Lt2 17 (69621:Int):=Za7
  have n3:=((n2.mul n2).mono (show 151+151<=302 by decide)).add ((c2.mul n2).mono (show 17+151<=302 by decide))
  refine ⟨_,rfl,_,_,rfl,rfl,⟨by decide,by decide,by decide⟩,_,_,rfl,rfl,(by show (0:Int)<10 ^ 40;decide),_,_,rfl,rfl,⟨133,16,m1,c1,by decide,by decide⟩,?_⟩
  refine ⟨_,_,rfl,rfl,⟨by decide,by decide,by decide⟩,_,rfl,_,_,rfl,rfl,_,_,rfl,rfl,⟨96,3,t1,k1,by decide,by decide⟩,_,rfl,_,_,rfl,rfl,_,_,rfl,rfl,⟨99,3,t1.mul k1,k1,by decide,by decide⟩,_,_,rfl,rfl,_,rfl,_,_,rfl,rfl,?_⟩
  refine ⟨_,rfl,_,rfl,_,_,rfl,rfl,⟨151,151,n2,n2,by decide,by decide⟩,_,rfl,_,_,rfl,rfl,⟨17,151,c2,n2,by decide,by decide⟩,_,_,rfl,rfl,?_⟩
  have md:Lt2 204 ((10:Int) ^ 61+7):=Za7
  refine ⟨_,rfl,_,rfl,_,_,rfl,rfl,⟨303,303,n3,n3,by decide,by decide⟩,_,_,rfl,rfl,⟨by decide,by decide,by decide⟩,_,_,rfl,rfl,_,_,rfl,rfl,(by show (0:Int)<10 ^ 61+7;decide),_,_,rfl,rfl,⟨by decide,Za7⟩,?_⟩
  have z0:=Int.emod_nonneg (b:=(10:Int) ^ 61+7) ((((c % 10 ^ 40) * 48271+3 ^ 60 * (k+1) * (k+1)+k) * ((c % 10 ^ 40) * 48271+3 ^ 60 * (k+1) * (k+1)+k)+69621 * ((c % 10 ^ 40) * 48271+3 ^ 60 * (k+1) * (k+1)+k)) * (((c % 10 ^ 40) * 48271+3 ^ 60 * (k+1) * (k+1)+k) * ((c % 10 ^ 40) * 48271+3 ^ 60 * (k+1) * (k+1)+k)+69621 * ((c % 10 ^ 40) * 48271+3 ^ 60 * (k+1) * (k+1)+k))) (by decide)
  exact q _ (Int.ediv_nonneg z0 (by decide)) ((Lt2.div z0 (by decide) (Lt2.mod (by decide) md)).mono (by decide))
def Zik:Sp:=λvs H Q _=>∃ (c:Int),vs=[.int c]/\∀ (p:Addr) (n:Int),H p=none->Q (.ref p) (upd H p (.lst [.int n]))
theorem Zkz:Zav ["cell"] ["cell"] (Zae ZeI):=⟨rfl,rfl,rfl,by decide +kernel,rfl,by decide +kernel,by decide +kernel⟩
theorem Zjr {f fS:Addr} {fd fdS:FuncData} (F:Fun K "_law_deck" "_law_deck" ZeI f fd) (FS:Fun K "_law_stir" "_law_stir" ZeH fS fdS) (bS:Binds K fdS ["cell", "k"] []) (mS:mg "_law_stir" = some (.ref fS)) :
  ZaK P w K mg base CX0 2 f fd ["cell"] Zik:=by
 have GS:ZaK P w K mg base CX0 1 fS fdS ["cell", "k"] Zij:=Zjq FS
 refine F.ok Zkz (λvs H Q E h=>?_) (λcdv A outer s H vs Q E hr h=>?_)
 ·obtain ⟨c,rfl,_⟩:=h
  rfl
 ·obtain ⟨c,rfl,q⟩:=h
  refine ⟨_,Zad (ZaP (Zam ZiE (pv 0) (Zaq Zb5 Zaf Zaf) (Zau _)) (Zag (Zas (ZaE (Zaa (Zaq Zb4 (pv 0) (Zaq Zb5 Zaf Zaf)) Zac)))) Zax)
   (Zag (Zas (ZaE (Zaa (Zaq ZaH (Zaq ZbO (Zaq ZaH (Zaq ZbO
    (Zai GS hr rfl mS FS.kp bS .nil ZaD (Zaa (pv 0) (Zaa Zaf Zac))) (Zaq Zb5 Zaf Zaf))
    (Zai GS hr rfl mS FS.kp bS .nil ZaD (Zaa (pv 0) (Zaa Zaf Zac)))) (Zaq Zb5 Zaf Zaf))
    (Zai GS hr rfl mS FS.kp bS .nil ZaD (Zaa (pv 0) (Zaa Zaf Zac)))) Zac)))),?_⟩
  refine ⟨_,rfl,_,_,rfl,rfl,⟨by decide,by decide,by decide⟩,_,_,rfl,rfl,_,rfl,?_⟩
  refine Zbn (λ_=>?_) (λ_=>?_)
  ·refine ⟨_,rfl,_,_,rfl,rfl,⟨by decide,by decide,by decide⟩,_,_,rfl,rfl,(by show 1<=sizeLine;decide),λp hp=>q p _ hp⟩
  ·have b1:Lt2 210 (10 ^ 60:Int):=Za7
   refine ⟨_,rfl,c,1,rfl,by decide,by decide,λr1 h1 l1=>?_⟩
   refine ⟨_,_,rfl,rfl,⟨by decide,by decide,by decide⟩,_,_,rfl,rfl,⟨210,210,l1,b1,by decide,by decide⟩,?_⟩
   refine ⟨_,rfl,c,2,rfl,by decide,by decide,λr2 h2 l2=>?_⟩
   have l3:=((l1.mul b1).mono (show 210+210<=420 by decide)).add (l2.mono (show 210<=420 by decide))
   refine ⟨_,_,rfl,rfl,_,_,rfl,rfl,⟨by decide,by decide,by decide⟩,_,_,rfl,rfl,⟨421,210,l3,b1,by decide,by decide⟩,?_⟩
   refine ⟨_,rfl,c,3,rfl,by decide,by decide,λr3 h3 l4=>?_⟩
   exact ⟨_,_,rfl,rfl,(by show 1<=sizeLine;decide),λp hp=>q p _ hp⟩
def Zc3:Sp:=λvs H Q _=>∃ (d:Addr) (n m:Int),vs=[.ref d,.int m]/\H d=some (.lst [.int n])/\0<m/\Lt2 9000 m/\∀ n' r:Int,0<=r->r<m->Q (.int r) (upd H d (.lst [.int n']))
theorem scTake:Zav ["deck", "many", "taken"] ["deck", "many"] (Zae ZcF):=⟨rfl,rfl,rfl,by decide +kernel,rfl,by decide +kernel,by decide +kernel⟩
theorem Zcx {f:Addr} {fd:FuncData} (F:Fun K "_law_take" "_law_take" ZcF f fd):ZaK P w K mg base CX0 1 f fd ["deck", "many"] Zc3:=by
 refine F.ok scTake (λvs H Q E h=>?_) (λcdv A outer s H vs Q E hr h=>?_)
 ·obtain ⟨d,n,m,rfl,_⟩:=h
  rfl
 ·obtain ⟨d,n,m,rfl,hd,hm,hb,q⟩:=h
  refine ⟨_,Zad (Zat (i:=2) scTake.nd rfl (Or.inl rfl) (Zaq ZdS (Zaw Zes (pv 0) Zaf (λ_ _=>rfl)) (pv 1)))
   (Zad (ZeO (Zaq ZeX (Zaw Zes (pv 0) Zaf (λ_ _=>rfl)) (pv 1)) (ZjS (pv 0) Zaf Zhd))
   (Zag (Zas (pv 2)))),?_⟩
  refine ⟨_,rfl,d,_,_,_,rfl,rfl,SqL.of hd,Zaj (j:=0) rfl,_,rfl,_,_,rfl,rfl,hm,?_⟩
  refine ⟨_,rfl,d,_,_,_,rfl,rfl,SqL.of hd,Zaj (j:=0) rfl,_,rfl,_,_,rfl,rfl,⟨hm,hb⟩,?_⟩
  refine ⟨_,rfl,d,_,0,0,rfl,rfl,hd,rfl,_,rfl,?_⟩
  exact q (n / m) (n % m) (Int.emod_nonneg n (Int.ne_of_gt hm)) (Int.emod_lt_of_pos n hm)
end
section
variable {P:Program} {w:World} {K:PySem.W.Frag} {mg:Str->Option Value} {base:Heap}
theorem ZaG:2<=sizeLine:=by decide
theorem ZhL (r c p:Nat):(Zfu r c p).length<=2:=by
 unfold Zfu
 rw [List.length_append]
 split <;> split <;> simp
theorem Zej (r c:Nat):∀ i,(Zcj r c i).length<=2 * i
 | 0=>by simp [Zcj]
 | i+1=>by
  have h1:=Zej r c i
  have h2:=ZhL r c i
  rw [Zcb,List.length_append]
  omega
def ZgM:Sp:=λvs H Q _=>∃ (r c:Nat),vs=[.int (r:Int),.int (c:Int)]/\1<=r/\1<=c/\r<=16/\c<=16/\∀ (p l:Addr) (xs:List V) (H':Hp),Same H H'->H p=none->H l=none->p≠l->H' p=some (.tup [.int ((r:Int) * (c:Int)),.ref l])->H' l=some (.lst xs)->Prs H' xs (Zcj r c (r * c))->Q (.ref p) H'
theorem scLGrid:Zav ["rows", "columns", "roads", "place"] ["rows", "columns"] (Zae Zc2):=⟨rfl,rfl,rfl,by decide +kernel,rfl,by decide +kernel,by decide +kernel⟩
theorem ZhM {f:Addr} {fd:FuncData} (F:Fun K "_law_grid" "_law_grid" Zc2 f fd) (mRange:mg "range" = none):ZaK P w K mg base CX0 1 f fd ["rows", "columns"] ZgM:=by
 refine F.ok scLGrid (λvs H Q E h=>?_) (λcdv A outer s H vs Q E hr h=>?_)
 ·obtain ⟨r,c,rfl,_⟩:=h
  rfl
 ·obtain ⟨r,c,rfl,hr1,hc1,hr2,hc2,q⟩:=h
  refine ⟨_,Zad (Zat (i:=2) scLGrid.nd rfl (Or.inl rfl) (ZaE Zac))
    (Zad (Zbg PassesOwn.never rfl (ZaT rfl mRange (Zaa (Zaq ZdR (pv 0) (pv 1)) Zac)) (Zay (i:=3) scLGrid.nd rfl (Or.inl rfl))
    (Zad (ZaP (Zam ZfX (Zaq ZdS (Zaq ZaH (pv 3) Zaf) (pv 1)) Zaf (Zau _)) (Zag (ZaS (ZbM PySem.F.plainAttrs_list PySem.F.slot_list_append PySem.F.type_list_append ZaO (pv 2) (Zaa (ZaR (Zaa (pv 3) (Zaa (Zaq ZaH (pv 3) Zaf) Zac))) Zac)))) Zax)
    (Zag (ZaP (Zam Zeq (Zaq ZaH (pv 3) (pv 1)) (Zaq ZdR (pv 0) (pv 1)) (Zau _)) (Zag (ZaS (ZbM PySem.F.plainAttrs_list PySem.F.slot_list_append PySem.F.type_list_append ZaO (pv 2) (Zaa (ZaR (Zaa (pv 3) (Zaa (Zaq ZaH (pv 3) (pv 1)) Zac))) Zac)))) Zax))))
    (Zag (Zas (ZaR (Zaa (Zaq ZdR (pv 0) (pv 1)) (Zaa (pv 2) Zac)))))),?_⟩
  refine ⟨Nat.zero_le _,λl hl=>?_⟩
  have hrc:(r:Int) * (c:Int)=((r * c:Nat):Int):=by push_cast;rfl
  have hb:r * c<=16 * 16:=Nat.mul_le_mul hr2 hc2
  have s0:Same H (upd H l (.lst [])):=Same.new hl
  refine ⟨_,rfl,_,rfl,_,_,rfl,rfl,.inl ⟨by omega,by omega⟩,_,rfl,(by rw [hrc];omega),(by rw [hrc];omega),?_⟩
  refine Za6 (lo:=0) (λi σ H2=>∃ (xs:List V) (v:Option V),σ=[some (.int r),some (.int c),some (.ref l),v]/\Same H H2/\H2 l=some (.lst xs)/\Prs H2 xs (Zcj r c i))
   ⟨[],none,rfl,s0,Zab,.nil⟩ ?_ ?_
  ·rintro i σ H2 hi ⟨xs,v,rfl,s2,h2,p2⟩
   have hi':i<r * c:=by rw [hrc,Int.toNat_natCast] at hi;exact hi
   rw [show (0:Int)+(i:Int)=(i:Int) by omega]
   have hlen:∀ {zs:List V} {rs:List (Int×Int)} {H3:Hp},Prs H3 zs rs->rs.length<=2 * i+1->zs.length<sizeLine:=λp hq=>by
    have:=p.len
    have h16:(16777216:Nat)=sizeLine:=sizeLine_eq.symm
    omega
   have hgl:=Zej r c i
   dsimp only [Zfn]
   refine Zbo (λσ' H'=>∃ xs:List V,σ'=[some (.int r),some (.int c),some (.ref l),some (.int i)]/\Same H H'/\H' l=some (.lst xs)/\Prs H' xs (Zcj r c i++(if ((i:Int)+1) % (c:Int)=0 then [] else [((i:Int),(i:Int)+1)]))) ?snd ?fst
   case fst=>
    intro hk
    refine ⟨_,rfl,_,_,rfl,rfl,_,rfl,_,_,rfl,rfl,(by show (0:Int)<(c:Int);omega),rfl,_,rfl,?_⟩
    by_cases z:((i:Int)+1) % (c:Int)=0
    ·have zz:(!decide (V.int (((i:Int)+1) % (c:Int))=V.int 0))=false:=by rw [z];simp
     refine (if_neg (show ¬ ((!decide (V.int (((i:Int)+1) % (c:Int))=V.int 0))=true) by rw [zz];exact Bool.false_ne_true)).mpr ?_
     refine hk _ _ ?_
     exact ⟨xs,rfl,s2,h2,by rw [if_pos z,List.append_nil];exact p2⟩
    ·have zz:(!decide (V.int (((i:Int)+1) % (c:Int))=V.int 0))=true:=by simp [z]
     refine (if_pos zz).mpr ?_
     refine ⟨_,rfl,.inl ⟨rfl,_,SqL.of h2⟩,_,rfl,_,rfl,_,_,rfl,rfl,ZaG,λt ht=>?_⟩
     have hne:l≠t:=λq=>by rw [q,ht] at h2;cases h2
     obtain ⟨a1,a2,a3⟩:=Zdx (a:=(i:Int)) (b:=(i:Int)+1) s2 hl h2 p2 ht
     refine ⟨l,xs,_,rfl,rfl,Zal h2 hne,hlen p2 (by omega),?_⟩
     refine hk _ _ ?_
     exact ⟨_,rfl,a1,a2,by rw [if_neg z];exact a3⟩
   case snd=>
    rintro σ' H3 ⟨xs,rfl,s3,h3,p3⟩
    refine ⟨_,rfl,_,rfl,_,_,rfl,rfl,_,rfl,_,rfl,_,_,rfl,rfl,.inl ⟨by omega,by omega⟩,_,_,rfl,rfl,_,rfl,?_⟩
    refine Zbn (λz=>?_) (λz=>?_)
    ·have z':=of_decide_eq_true z
     refine ⟨_,rfl,.inl ⟨rfl,_,SqL.of h3⟩,_,rfl,_,rfl,_,rfl,_,_,rfl,rfl,ZaG,λt ht=>?_⟩
     have hne:l≠t:=λq=>by rw [q,ht] at h3;cases h3
     obtain ⟨a1,a2,a3⟩:=Zdx (a:=(i:Int)) (b:=(i:Int)+(c:Int)) s3 hl h3 p3 ht
     refine ⟨l,xs,_,rfl,rfl,Zal h3 hne,hlen p3 (by rw [List.length_append];split <;> simp <;> omega),xs++[.ref t],_,rfl,a1,a2,?_⟩
     rw [Zcb]
     unfold Zfu
     rw [if_pos z',<-List.append_assoc]
     exact a3
    ·have z':¬ ((i:Int)+(c:Int)<(r:Int) * (c:Int)):=λq=>z (decide_eq_true q)
     refine ⟨xs,_,rfl,s3,h3,?_⟩
     rw [Zcb]
     unfold Zfu
     rw [if_neg z',List.append_nil]
     exact p3
  ·rintro σ H2 ⟨xs,v,rfl,s2,h2,p2⟩
   refine ⟨_,rfl,_,rfl,_,_,rfl,rfl,.inl ⟨by omega,by omega⟩,_,rfl,ZaG,λp hp=>?_⟩
   have hne:l≠p:=λq=>by rw [q,hp] at h2;cases h2
   refine q p l xs _ (s2.put (s2.free hp)) (s2.free hp) hl (Ne.symm hne) Zab (Zal h2 hne) ?_
   have p3:=p2.keep (ZbD (o:=.tup [.int ((r:Int) * (c:Int)),.ref l]) hp)
   rw [show ((r:Int) * (c:Int)).toNat=r * c by rw [hrc,Int.toNat_natCast]] at p3
   exact p3
end
section
variable {P:Program} {w:World} {K:PySem.W.Frag} {mg:Str->Option Value} {base:Heap}
def ZkA:Sp:=λvs H Q _=>∃ (d:Addr) (n:Int),vs=[.ref d]/\H d=some (.lst [.int n])/\∀ (p l:Addr) (xs:List V) (k:Int) (rs:List (Int×Int)) (H':Hp),Dk H H' d->H p=none->H l=none->p≠l->H' p=some (.tup [.int k,.ref l])->H' l=some (.lst xs)->Prs H' xs rs->ZaA k rs->Q (.ref p) H'
theorem scWeb:Zav ["deck", "kind", "rows", "places", "pairs", "b", "apart", "roads", "k"] ["deck"] (Zae Zjh):=⟨rfl,rfl,rfl,by decide +kernel,rfl,by decide +kernel,by decide +kernel⟩
structure PrsOk (n:Int) (ps:List (Int×Int)):Prop where
 ok:∀ p∈ps,0<=p.1/\p.1<p.2/\p.2<n
 nd:ps.Nodup
theorem PrsOk.sub {n:Int} {ps qs:List (Int×Int)} (h:PrsOk n ps) (s:qs.Sublist ps):PrsOk n qs:=⟨λp hp=>h.ok p (s.subset hp),h.nd.sublist s⟩
theorem Zl1 (i:Nat) {ps:List (Int×Int)} (h:PrsOk (i:Int) ps):PrsOk ((i+1:Nat):Int) (ps++(List.range i).map λa=>(((a:Nat):Int),(i:Int))):=by
 refine ⟨λp hp=>?_,?_⟩
 ·rcases List.mem_append.mp hp with hp | hp
  ·have:=h.ok p hp
   push_cast
   omega
  ·obtain ⟨a,ha,rfl⟩:=List.mem_map.mp hp
   have:=List.mem_range.mp ha
   push_cast
   omega
 ·refine List.nodup_append.mpr ⟨h.nd,?_,λp hp q hq z=>?_⟩
  ·refine List.pairwise_map.mpr ?_
   refine List.Pairwise.imp ?_ List.nodup_range
   intro a b hab z
   have:=congrArg Prod.fst z
   dsimp only at this
   exact hab (by omega)
  ·subst z
   obtain ⟨a,ha,rfl⟩:=List.mem_map.mp hq
   have:=(h.ok _ hp).2.2
   dsimp only at this
   omega
theorem Zny (k:Bool):∃ m:Int,atI [V.int 15,V.int 31] (if k=true then 1 else 0)=some (.int m)/\0<m/\m<=31:=by
 cases k
 ·exact ⟨15,rfl,by decide,by decide⟩
 ·exact ⟨31,rfl,by decide,by decide⟩
theorem ZkB {f fT fQ:Addr} {fd fdT fdQ:FuncData} (F:Fun K "_law_web" "_law_web" Zjh f fd)
  (FT:Fun K "_law_take" "_law_take" ZcF fT fdT) (bT:Binds K fdT ["deck", "many"] []) (mT:mg "_law_take" = some (.ref fT))
  (FQ:Fun K "_law_grid" "_law_grid" Zc2 fQ fdQ) (bQ:Binds K fdQ ["rows", "columns"] []) (mQ:mg "_law_grid" = some (.ref fQ))
  (mRange:mg "range" = none) (mInt:mg "int" = none) (mMin:mg "min" = none) (mLen:mg "len" = none):ZaK P w K mg base CX0 2 f fd ["deck"] ZkA:=by
 have GT:ZaK P w K mg base CX0 1 fT fdT ["deck", "many"] Zc3:=Zcx FT
 have GQ:ZaK P w K mg base CX0 1 fQ fdQ ["rows", "columns"] ZgM:=ZhM FQ mRange
 refine F.ok scWeb (λvs H Q E h=>?_) (λcdv A outer s H vs Q E hr1 h=>?_)
 ·obtain ⟨d,n,rfl,_⟩:=h
  rfl
 ·obtain ⟨d,n,rfl,hd,q⟩:=h
  have h16:(16777216:Nat)=sizeLine:=sizeLine_eq.symm
  refine ⟨_,Zad (Zat (i:=1) scWeb.nd rfl (Or.inl rfl) (Zai GT hr1 rfl mT FT.kp bT .nil ZaD (Zaa (pv 0) (Zaa Zaf Zac))))
    (Zad (ZaP (Zam Zbv (pv 1) Zaf (Zau _)) (Zad (Zat (i:=2) scWeb.nd rfl (Or.inl rfl) (Zaq ZaH Zaf (Zai GT hr1 rfl mT FT.kp bT .nil ZaD (Zaa (pv 0) (Zaa Zaf Zac)))))
    (Zag (Zas (Zai GQ hr1 rfl mQ FQ.kp bQ .nil ZaD (Zaa (pv 2) (Zaa (Zaq ZaH Zaf (Zai GT hr1 rfl mT FT.kp bT .nil ZaD (Zaa (pv 0) (Zaa Zaf Zac)))) Zac)))))) Zax)
    (Zad (Zat (i:=3) scWeb.nd rfl (Or.inl rfl) (Zaq ZaH (Zaq ZaH Zaf (Zai GT hr1 rfl mT FT.kp bT .nil ZaD (Zaa (pv 0) (Zaa Zaf Zac)))) (Zaq ZdR Zaf (ZaL Za0 rfl mInt Za5 (Zaa (ZaV Zbv (pv 1) Zaf (Zau _)) Zac)))))
    (Zad (Zat (i:=4) scWeb.nd rfl (Or.inl rfl) (ZaE Zac))
    (Zad (Zbg PassesOwn.never rfl (ZaT rfl mRange (Zaa (pv 3) Zac)) (Zay (i:=5) scWeb.nd rfl (Or.inr rfl))
    (Zag (Zat (i:=4) scWeb.nd rfl (Or.inl rfl) (Zaq Zb6 (pv 4) (Zbd (own:=["a"]) rfl (ZaC (fr:=[("b", 5)]) [(".0", .local),("a", .local),("b", .cell)] rfl rfl (by decide +kernel) rfl (by decide +kernel) ⟨rfl,trivial⟩ ⟨λh=>Za2 h,λh=>Za2 h,λ_=>⟨_,rfl⟩,trivial⟩ ⟨⟨rfl,.inl rfl,.inl rfl⟩,trivial⟩) (ZaT rfl mRange (Zaa (pv 5) Zac)) (λ_ _ _ _=>Zay (i:=0) (show List.Nodup (["a", "b"]:List Str) by decide +kernel) rfl (Or.inl rfl)) (λ_ _ _ _=>ZcH) (λ_ _ _ _=>ZaR (Zaa (pv 0) (Zaa (pv 1) Zac))))))))
    (Zad (ZaP (Zam Zbv (Zai GT hr1 rfl mT FT.kp bT .nil ZaD (Zaa (pv 0) (Zaa Zaf Zac))) Zaf (Zau _)) (Zad (Zat (i:=6) scWeb.nd rfl (Or.inr rfl) (Zai GT hr1 rfl mT FT.kp bT .nil ZaD (Zaa (pv 0) (Zaa (Zaq ZaH (pv 3) Zaf) Zac))))
    (Zag (Zf8 (i:=4) scWeb.nd rfl (Or.inl rfl) (own:=["pair"]) rfl (ZaC (fr:=[("apart", 6)]) [(".0", .local),("pair", .local),("apart", .cell)] rfl rfl (by decide +kernel) rfl (by decide +kernel) ⟨rfl,trivial⟩ ⟨λh=>Za2 h,λh=>Za2 h,λ_=>⟨_,rfl⟩,trivial⟩ ⟨⟨rfl,.inl rfl,.inl rfl⟩,trivial⟩) (Zci K (pv 4)) (λ_ _ _ _=>Zay (i:=0) (show List.Nodup (["pair", "apart"]:List Str) by decide +kernel) rfl (Or.inl rfl)) (λ_ _ _ _=>Zba (Zam Zbv (ZaV Zeq (Zaw (Zcd K) (pv 0) Zaf (λ_ _=>rfl)) (pv 1) (Zau _)) (ZaV Zeq (Zaw (Zcd K) (pv 0) Zaf (λ_ _=>rfl)) (pv 1) (Zau _)) (Zau _))) (λ_ _ _ _=>pv 0)))) Zax)
    (Zad (Zat (i:=7) scWeb.nd rfl (Or.inl rfl) (ZaE Zac))
    (Zad (Zbg PassesOwn.never rfl (ZaT rfl mRange (Zaa (Zak (ZdU rfl) rfl mMin ZeZ (Zaa (Zai GT hr1 rfl mT FT.kp bT .nil ZaD (Zaa (pv 0) (Zaa (Zaw (Zbf K) (ZaE (Zaa Zaf (Zaa Zaf Zac))) (ZaL Za0 rfl mInt Za5 (Zaa (ZaV Zbv (pv 1) Zaf (Zau _)) Zac)) (λ_ _=>rfl)) Zac))) (Zaa (Zak (Zdk K) rfl mLen PySem.boot_len (Zaa (pv 4) Zac)) Zac))) Zac)) (Zay (i:=8) scWeb.nd rfl (Or.inl rfl))
    (Zag (ZaS (ZbM PySem.F.plainAttrs_list PySem.F.slot_list_append PySem.F.type_list_append ZaO (pv 7) (Zaa (ZbM PySem.F.plainAttrs_list PySem.F.slot_list_pop PySem.F.type_list_pop Zhe (pv 4) (Zaa (Zai GT hr1 rfl mT FT.kp bT .nil ZaD (Zaa (pv 0) (Zaa (Zak (Zdk K) rfl mLen PySem.boot_len (Zaa (pv 4) Zac)) Zac))) Zac)) Zac)))))
    (Zag (Zas (ZaR (Zaa (pv 3) (Zaa (pv 7) Zac)))))))))))),?_⟩
  refine ⟨_,rfl,d,n,6,rfl,hd,by decide,Za7,λn1 k1 hk0 hk1=>?_⟩
  have D1:Dk H (upd H d (.lst [.int n1])) d:=(Dk.start hd).take n1
  refine ⟨_,rfl,rfl,_,rfl,?_⟩
  refine Zbn (λ_=>?_) (λ_=>?_)
  ·-- a grid
   refine ⟨_,rfl,d,n1,3,rfl,Zab,by decide,Za7,λn2 r2 h20 h21=>⟨_,_,rfl,rfl,?_⟩⟩
   have D2:=D1.take n2
   refine ⟨_,rfl,_,rfl,d,n2,4,rfl,Zab,by decide,Za7,λn3 r3 h30 h31=>⟨_,_,rfl,rfl,?_⟩⟩
   have D3:=D2.take n3
   obtain ⟨r',e1⟩:∃ r':Nat,(1:Int)+r2=(r':Int):=⟨(1+r2).toNat,by omega⟩
   obtain ⟨c',e2⟩:∃ c':Nat,(1:Int)+r3=(c':Int):=⟨(1+r3).toNat,by omega⟩
   refine ⟨r',c',by rw [<-e1,<-e2];rfl,by omega,by omega,by omega,by omega,λp l xs H4 s4 hp hl hpl x1 x2 x3=>?_⟩
   exact q p l xs _ _ H4 (D3.grow s4) (D3.free hp) (D3.free hl) hpl x1 x2 x3 (Zgf (by omega) (by omega) (by omega) (by omega))
  ·-- places
   refine ⟨_,rfl,d,n1,8,rfl,Zab,by decide,Za7,λn2 r2 h20 h21=>⟨_,_,rfl,rfl,?_⟩⟩
   have D2:=D1.take n2
   generalize hq4:decide (V.int k1=V.int 4)=q4
   refine ⟨_,rfl,rfl,.inr ⟨q4,by rw [<-hq4],_,_,rfl,rfl,.inl ⟨by decide,by decide⟩,_,_,rfl,rfl,?_⟩⟩
   obtain ⟨np,e1,hp1,hp2⟩:∃ np:Nat,(1:Int)+r2+8 * (if q4=true then 1 else 0)=(np:Int)/\1<=np/\np<=16:=by
    refine ⟨(1+r2+8 * (if q4=true then 1 else 0)).toNat,?_,?_,?_⟩ <;> cases q4 <;> simp <;> omega
   refine ⟨Nat.zero_le _,λl0 hl0=>?_⟩
   have D3:=D2.new (o:=.lst []) hl0
   dsimp only [Zfn]
   refine Zbo (λσ' H'=>∃ (lp:Addr) (xs:List V) (ps:List (Int×Int)) (v2 v5:Option V),σ'=[some (.ref d),some (.int k1),v2,some (.int (np:Int)),some (.ref lp),v5,none,none,none]/\Dk H H' d/\d≠lp/\H lp=none/\H' lp=some (.lst xs)/\Prs H' xs ps/\PrsOk (np:Int) ps/\ps.length<=16 * 16) ?after ?loop
   case loop=>
    intro hk
    refine ⟨_,rfl,_,rfl,(by show -(2 ^ 62)<=(1:Int)+r2+8 * (if q4=true then 1 else 0);rw [e1];omega),(by show (1:Int)+r2+8 * (if q4=true then 1 else 0)<2 ^ 62;rw [e1];omega),?_⟩
    have hn:((1:Int)+r2+8 * (if q4=true then 1 else 0)).toNat=np:=by rw [e1,Int.toNat_natCast]
    rw [hn]
    refine Za6 (lo:=0) (λi σ' H'=>∃ (lp:Addr) (xs:List V) (ps:List (Int×Int)) (v2 v5:Option V),σ'=[some (.ref d),some (.int k1),v2,some (.int (np:Int)),some (.ref lp),v5,none,none,none]/\Dk H H' d/\d≠lp/\H lp=none/\H' lp=some (.lst xs)/\Prs H' xs ps/\PrsOk (i:Int) ps/\ps.length<=i * 16)
     ⟨l0,[],[],none,none,by rw [<-e1];rfl,D3,D2.ne hl0,D2.free hl0,Zab,.nil,⟨λ_ h=>(nomatch h),.nil⟩,Nat.zero_le _⟩ ?_ ?_
    ·rintro i σ' H2 hi ⟨lp,xs,ps,v2,v5,rfl,D4,hdp,hlp,elp,pp,pok,plen⟩
     rw [show (0:Int)+(i:Int)=(i:Int) by omega]
     refine ⟨_,rfl,_,rfl,_,rfl,by omega,by omega,λD hD=>?_⟩
     rw [Int.toNat_natCast]
     refine Zcv (lo:=0) (n:=i) (λj ys H3=>Same H2 H3/\H3 D=some (.lst ys)/\Prs H3 ys ((List.range j).map λa=>(((a:Nat):Int),(i:Int)))) ⟨Same.new hD,Zab,.nil⟩ ?_ ?_
     ·rintro j ys H3 hj ⟨s3,hD3,p3⟩
      rw [show (0:Int)+(j:Int)=(j:Int) by omega]
      refine ⟨⟨rfl,trivial⟩,?_⟩
      unfold Zka
      refine Zcu ?_
      refine ⟨_,rfl,_,rfl,ZaG,λt ht=>?_⟩
      have hDt:D≠t:=Zah hD3 ht
      have hyl:ys.length<sizeLine:=by
       have:=p3.len
       rw [List.length_map,List.length_range] at this
       omega
      obtain ⟨a1,a2,a3⟩:=Zdx (a:=(j:Int)) (b:=(i:Int)) s3 hD hD3 p3 ht
      refine ⟨Zal hD3 hDt,hyl,a1,a2,?_⟩
      rw [List.range_succ,List.map_append]
      exact a3
     ·rintro ys H3 ⟨s3,hD3,p3⟩
      have e2:=s3 _ _ elp
      have hlen2:=p3.len
      rw [List.length_map,List.length_range] at hlen2
      have hlen1:=pp.len
      refine ⟨lp,D,xs,ys,rfl,rfl,e2,hD3,by omega,λpn hpn=>?_⟩
      have D5:=D4.grow s3
      have D6:=D5.new (o:=.lst (xs++ys)) hpn
      refine ⟨pn,xs++ys,ps++(List.range i).map λa=>(((a:Nat):Int),(i:Int)),_,_,rfl,D6,D5.ne hpn,D5.free hpn,Zab,?_,Zl1 i pok,?_⟩
      ·exact ((pp.same s3).keep (ZbD hpn)).app (p3.keep (ZbD hpn))
      ·rw [List.length_append,List.length_map,List.length_range]
       omega
    ·rintro σ' H2 ⟨lp,xs,ps,v2,v5,rfl,D4,hdp,hlp,elp,pp,pok,plen⟩
     refine hk _ _ ?_
     exact ⟨lp,xs,ps,v2,v5,rfl,D4,hdp,hlp,elp,pp,pok,by omega⟩
   case after=>
    rintro σ' H2 ⟨lp,xs,ps,v2,v5,rfl,D4,hdp,hlp,elp,pp,pok,plen⟩
    refine Zbo (λσ' H'=>∃ (lp:Addr) (xs:List V) (ps:List (Int×Int)) (v2 v5 v6:Option V),σ'=[some (.ref d),some (.int k1),v2,some (.int (np:Int)),some (.ref lp),v5,v6,none,none]/\Dk H H' d/\d≠lp/\H lp=none/\H' lp=some (.lst xs)/\Prs H' xs ps/\PrsOk (np:Int) ps/\ps.length<=16 * 16) ?draw ?filter
    case filter=>
     intro hk
     obtain ⟨n4,e4⟩:=D4.at_
     refine ⟨_,rfl,d,n4,5,rfl,e4,by decide,Za7,λn5 r5 _ _=>⟨rfl,_,rfl,?_⟩⟩
     have D5:=D4.take n5
     have elp5:upd H2 d (.lst [.int n5]) lp=some (.lst xs):=Zal elp (Ne.symm hdp)
     have pp5:=pp.keep (ZaM (o:=.lst [.int n5]) e4)
     refine Zbn (λ_=>?_) (λ_=>?_)
     ·refine ⟨_,rfl,_,rfl,_,_,rfl,rfl,d,n5,_,rfl,Zab,(by show (0:Int)<(np:Int)+1;omega),(by show ((np:Int)+1).natAbs<2 ^ 9000;exact Nat.lt_of_lt_of_le (show ((np:Int)+1).natAbs<2 ^ 5 by omega) (Nat.pow_le_pow_right (by decide) (by decide))),λn6 r6 _ _=>?_⟩
      have D6:=D5.take n6
      have elp6:upd (upd H2 d (.lst [.int n5])) d (.lst [.int n6]) lp=some (.lst xs):=Zal elp5 (Ne.symm hdp)
      have pp6:=pp5.keep (ZaM (o:=.lst [.int n6]) (Zab (H:=H2) (a:=d) (o:=.lst [.int n5])))
      generalize upd (upd H2 d (.lst [.int n5])) d (.lst [.int n6])=H6 at D6 elp6 pp6 ⊢
      refine ⟨_,rfl,lp,rfl,⟨_,SqL.of elp6⟩,λD hD=>?_⟩
      refine Za1 (K:=K) (a:=lp) (xs:=xs) (λj ys H3=>Same H6 H3/\H3 D=some (.lst ys)/\∃ rs,Prs H3 ys rs/\rs.Sublist (ps.take j)) ⟨Same.new hD,Zab,[],.nil,List.nil_sublist _⟩ (λj ys H3 _ ⟨s3,_⟩=>SqL.of (s3 _ _ elp6)) ?_ ?_
      ·rintro j x ys H3 hx ⟨s3,hD3,rs,p3,sub⟩
       obtain ⟨t,r,rfl,et,er⟩:=(pp6.same s3).get hx
       have hstep:ps.take (j+1)=ps.take j++[r]:=by rw [List.take_add_one,er];rfl
       refine ⟨⟨rfl,trivial⟩,?_⟩
       refine ⟨_,rfl,t,_,_,_,rfl,rfl,SqT.of et,Zaj (j:=0) rfl,_,rfl,_,_,rfl,rfl,_,rfl,t,_,_,_,rfl,rfl,SqT.of et,Zaj (j:=1) rfl,_,rfl,_,_,rfl,rfl,rfl,_,rfl,?_⟩
       refine Zbn (λ_=>?_) (λ_=>?_)
       ·have hyl:ys.length<sizeLine:=by
         have h1:=p3.len
         have h2:=sub.length_le
         rw [List.length_take] at h2
         omega
        refine ⟨_,rfl,hD3,hyl,s3.put hD,Zab,rs++[r],(p3.keep (ZaM hD3)).snoc (ZaM hD3 _ _ et),?_⟩
        rw [hstep]
        exact sub.append (List.Sublist.refl _)
       ·refine ⟨s3,hD3,rs,p3,?_⟩
        rw [hstep]
        exact sub.trans (List.sublist_append_left _ _)
      ·rintro ys H3 ⟨s3,hD3,rs,p3,sub⟩
       have sub':=sub.trans (List.take_sublist _ _)
       have hl':=sub'.length_le
       refine hk _ _ ?_
       exact ⟨D,ys,rs,_,_,_,rfl,D6.grow s3,D6.ne hD,D6.free hD,hD3,p3,pok.sub sub',by omega⟩
     ·refine hk _ _ ?_
      exact ⟨lp,xs,ps,_,_,_,rfl,D5,hdp,hlp,elp5,pp5,pok,plen⟩
    case draw=>
     clear elp pp pok plen hlp hdp
     rintro σ' H3 ⟨lp,xs,ps,v2,v5,v6,rfl,D5,hdp,hlp,elp,pp,pok,plen⟩
     refine ⟨Nat.zero_le _,λl7 hl7=>?_⟩
     have h70:H l7=none:=D5.free hl7
     have D6:=D5.new (o:=.lst []) hl7
     have hd7:d≠l7:=D5.ne hl7
     have hp7:lp≠l7:=Zah elp hl7
     have elp6:upd H3 l7 (.lst []) lp=some (.lst xs):=Zal elp hp7
     have pp6:=pp.keep (ZbD (o:=.lst []) hl7)
     obtain ⟨n6,e6⟩:=D6.at_
     refine ⟨_,rfl,ZaG,λe he=>?_⟩
     have hde:d≠e:=Zah e6 he
     have hpe:lp≠e:=Zah elp6 he
     have h7e:l7≠e:=Zah (Zab (H:=H3) (a:=l7) (o:=.lst [])) he
     obtain ⟨m,em,hm0,hm1⟩:=Zny (decide (V.int k1=V.int 4))
     refine ⟨_,rfl,rfl,.inr ⟨_,rfl,e,_,_,_,rfl,rfl,SqL.of Zab,em,d,n6,m,rfl,Zal e6 hde,hm0,(by show m.natAbs<2 ^ 9000;exact Nat.lt_of_lt_of_le (show m.natAbs<2 ^ 5 by omega) (Nat.pow_le_pow_right (by decide) (by decide))),λn8 r8 h80 h81=>?_⟩⟩
     have D8:=(D6.new (o:=.lst [.int 15,.int 31]) he).take n8
     have elp8:upd (upd (upd H3 l7 (.lst [])) e (.lst [.int 15,.int 31])) d (.lst [.int n8]) lp=some (.lst xs):=Zal (Zal elp6 hpe) (Ne.symm hdp)
     have e78:upd (upd (upd H3 l7 (.lst [])) e (.lst [.int 15,.int 31])) d (.lst [.int n8]) l7=some (.lst []):=Zal (Zal Zab h7e) (Ne.symm hd7)
     have pp8:=(pp6.keep (ZbD (o:=.lst [.int 15,.int 31]) he)).keep (ZaM (o:=.lst [.int n8]) (Zal e6 hde))
     generalize upd (upd (upd H3 l7 (.lst [])) e (.lst [.int 15,.int 31])) d (.lst [.int n8])=H8 at D8 elp8 e78 pp8 ⊢
     refine ⟨_,rfl,lp,xs,rfl,.inl (SqL.of elp8),_,_,rfl,?_⟩
     obtain ⟨N,eN,hN1,hN2⟩:∃ N:Nat,(if (xs.length:Int)<r8 then (xs.length:Int) else r8)=(N:Int)/\N<=30/\N<=xs.length:=by
      by_cases z:(xs.length:Int)<r8
      ·exact ⟨xs.length,by rw [if_pos z],by omega,Nat.le_refl _⟩
      ·exact ⟨r8.toNat,by rw [if_neg z];omega,by omega,by omega⟩
     refine ⟨_,rfl,(by rw [eN];omega),(by rw [eN];omega),?_⟩
     rw [eN,Int.toNat_natCast]
     have hxl:=pp8.len
     refine Za6 (lo:=0) (λi σ' H9=>∃ (xs7:List V) (rs7:List (Int×Int)) (xsP:List V) (psP:List (Int×Int)) (v8:Option V),σ'=[some (.ref d),some (.int k1),v2,some (.int (np:Int)),some (.ref lp),v5,v6,some (.ref l7),v8]/\Dk H H9 d /\
       H9 l7=some (.lst xs7)/\Prs H9 xs7 rs7/\H9 lp=some (.lst xsP)/\Prs H9 xsP psP/\PrsOk (np:Int) (rs7++psP)/\rs7.length=i/\psP.length+i=xs.length)
      ⟨[],[],xs,ps,none,rfl,D8,e78,.nil,elp8,pp8,pok,rfl,by omega⟩ ?_ ?_
     ·rintro i σ' H9 hi ⟨xs7,rs7,xsP,psP,v8,rfl,D9,e79,p7,elp9,pP,pk,hi7,hiP⟩
      obtain ⟨n9,e9⟩:=D9.at_
      have hPl:=pP.len
      have h7l:=p7.len
      refine ⟨_,rfl,.inl ⟨rfl,_,SqL.of e79⟩,_,rfl,.inl ⟨rfl,_,SqL.of elp9⟩,_,rfl,_,rfl,lp,xsP,rfl,.inl (SqL.of elp9),d,n9,_,rfl,e9,(by show (0:Int)<(xsP.length:Int);omega),
       (by show ((xsP.length:Int)).natAbs<2 ^ 9000;exact Nat.lt_of_lt_of_le (show ((xsP.length:Int)).natAbs<2 ^ 10 by omega) (Nat.pow_le_pow_right (by decide) (by decide))),λn10 r10 h100 h101=>?_⟩
      have hk:r10.toNat<xsP.length:=by omega
      have hy:xsP[r10.toNat]?=some xsP[r10.toNat]:=List.getElem?_eq_getElem hk
      obtain ⟨t,r,et,ett,er⟩:=pP.get hy
      refine ⟨lp,xsP,r10,r10.toNat,_,rfl,rfl,Zal elp9 (Ne.symm hdp),by omega,by omega,ZlL h100 h101,hy,?_⟩
      refine ⟨l7,xs7,_,rfl,rfl,Zal (Zal e79 (Ne.symm hd7)) (Ne.symm hp7),by omega,?_⟩
      have D10:=((D9.take n10).put (o:=.lst (xsP.eraseIdx r10.toNat)) hlp hdp).put (o:=.lst (xs7++[xsP[r10.toNat]])) h70 hd7
      have k1:=ZaM (o:=.lst [.int n10]) e9
      have k2:=ZaM (H:=upd H9 d (.lst [.int n10])) (l:=lp) (zs:=xsP) (o:=.lst (xsP.eraseIdx r10.toNat)) (Zal elp9 (Ne.symm hdp))
      have k3:=ZaM (H:=upd (upd H9 d (.lst [.int n10])) lp (.lst (xsP.eraseIdx r10.toNat))) (l:=l7) (zs:=xs7) (o:=.lst (xs7++[xsP[r10.toNat]])) (Zal (Zal e79 (Ne.symm hd7)) (Ne.symm hp7))
      refine ⟨xs7++[xsP[r10.toNat]],rs7++[r],xsP.eraseIdx r10.toNat,psP.eraseIdx r10.toNat,_,rfl,D10,Zab,?_,?_,?_,?_,?_,?_⟩
      ·rw [et]
       rw [et] at k3
       exact (((p7.keep k1).keep k2).keep k3).snoc (k3 _ _ (k2 _ _ (k1 _ _ ett)))
      ·exact Zal Zab hp7
      ·exact (((pP.erase _).keep k1).keep k2).keep k3
      ·have pm:=Zdy psP rs7 r10.toNat r er
       exact ⟨λp hp=>pk.ok p (pm.mem_iff.mp hp),pm.nodup_iff.mpr pk.nd⟩
      ·rw [List.length_append,List.length_singleton,hi7]
      ·rw [List.length_eraseIdx_of_lt (by omega)]
       omega
     ·rintro σ' H9 ⟨xs7,rs7,xsP,psP,v8,rfl,D9,e79,p7,elp9,pP,pk,hi7,hiP⟩
      refine ⟨_,rfl,_,rfl,ZaG,λp hp=>?_⟩
      have hp7':l7≠p:=Zah e79 hp
      have pk':PrsOk (np:Int) rs7:=pk.sub (List.sublist_append_left _ _)
      exact q p l7 xs7 np rs7 _ (D9.new hp) (D9.free hp) h70 (Ne.symm hp7') Zab (Zal e79 hp7') (p7.keep (ZbD hp)) ⟨by omega,by omega,by omega,pk'.ok,pk'.nd⟩
end
end M
namespace M
open PySem L2
theorem ZbZ (p:Int):∀ ms:List Int,inV (.int p) (ms.map V.int)=decide (p∈ms):=by
 intro ms
 unfold inV
 induction ms with
 | nil=>rfl
 | cons m ms ih=>
  rw [List.map_cons,List.any_cons,ih]
  by_cases h1:p=m <;> by_cases h2:p∈ms <;> simp [eqV,h1,h2] <;> (try omega) <;> (try (intro z;exact h1 z.symm))
theorem ZbS (ms:List Int):(ms.map V.int).all Zdv=true:=by
 rw [List.all_map]
 exact List.all_eq_true.mpr λ_ _=>rfl
section
variable {P:Program} {w:World} {K:PySem.W.Frag} {mg:Str->Option Value} {base:Heap}
theorem ZdJ:bootBuiltins "max" = some (.builtin "max"):=by first | rfl | decide +kernel
structure WebAt (H:Hp) (wb l:Addr) (k:Int) (xs:List V) (rs:List (Int×Int)):Prop where
 w:H wb=some (.tup [.int k,.ref l])
 l:H l=some (.lst xs)
 p:Prs H xs rs
theorem WebAt.same {H H':Hp} {wb l:Addr} {k:Int} {xs:List V} {rs:List (Int×Int)} (h:WebAt H wb l k xs rs) (s:Same H H'):WebAt H' wb l k xs rs:=⟨s _ _ h.w,s _ _ h.l,h.p.same s⟩
theorem WebAt.dk {H H':Hp} {d wb l:Addr} {k:Int} {xs:List V} {rs:List (Int×Int)} (h:WebAt H wb l k xs rs) (s:Dk H H' d) {n:Int} (hd:H d=some (.lst [.int n])) (hl:l≠d):WebAt H' wb l k xs rs:=
 ⟨s.tups hd _ _ h.w,s.keep _ _ hl h.l,h.p.keep (s.tups hd)⟩
def ZbK (rs:List (Int×Int)) (p q:Int):Nat->Option V
 | 0=>none
 | i+1=>if rs.getD i (0,0)=(p,q)\/rs.getD i (0,0)=(q,p) then some (.int (i:Nat)) else ZbK rs p q i
def ky (p q:Int):List Key:=[.inl p,.inl q]
theorem ky_inj {p q a b:Int}:ky p q=ky a b↔p=a/\q=b:=by
 unfold ky
 constructor
 ·intro h
  injection h with h1 h2
  injection h2 with h2 _
  exact ⟨Sum.inl.inj h1,Sum.inl.inj h2⟩
 ·rintro ⟨rfl,rfl⟩;rfl
def Zjs:Sp:=λvs H Q _=>∃ (wb l:Addr) (k:Int) (xs:List V) (rs:List (Int×Int)),vs=[.ref wb]/\WebAt H wb l k xs rs/\xs.length<=30 /\
 ∀ (d:Addr) (H':Hp) (kvs:List (List Key×V)),Same H H'->H d=none->H' d=some (.dT kvs)->(∀ p q,Zck kvs (ky p q)=ZbK rs p q rs.length)->Q (.ref d) H'
theorem scNbs:Zav ["web", "numbers", "number", "road"] ["web"] (Zae ZhG):=⟨rfl,rfl,rfl,by decide +kernel,rfl,by decide +kernel,by decide +kernel⟩
theorem Zil {f:Addr} {fd:FuncData} (F:Fun K "numbers_by_step" "numbers_by_step" ZhG f fd) (mEnum:mg "enumerate" = none):ZaK P w K mg base CX0 1 f fd ["web"] Zjs:=by
 refine F.ok scNbs (λvs H Q E h=>?_) (λcdv A outer s H vs Q E hr h=>?_)
 ·obtain ⟨_,_,_,_,_,rfl,_⟩:=h
  rfl
 ·obtain ⟨wb,l,k,xs,rs,rfl,W,hx,q⟩:=h
  have hu1:(A.deeper (PyProof.Rows.envOfC "numbers_by_step" (Zae ZhG) s.heap.objs.size f cdv)).units+1<cLine:=by have:=hr.un;omega
  have h16:(16777216:Nat)=sizeLine:=sizeLine_eq.symm
  refine ⟨_,Zad (Zat (i:=1) scNbs.nd rfl (Or.inl rfl) Zhs)
    (Zad (Zbg PassesOwn.never rfl (Zki K rfl mEnum (Zaa (Zaw (Zcd K) (pv 0) Zaf (λ_ _=>rfl)) Zac)) (ZiS K (n:=2) rfl (ZaQ (Zay (i:=2) scNbs.nd rfl (Or.inl rfl)) (ZaQ (Zay (i:=3) scNbs.nd rfl (Or.inl rfl)) Zb9)))
    (Zad (Zgn hu1 (pv 1) (pv 3) (pv 2) rfl)
    (Zag (Zgn hu1 (pv 1) (ZaR (Zaa (Zaw (Zcd K) (pv 3) Zaf (λ_ _=>rfl)) (Zaa (Zaw (Zcd K) (pv 3) Zaf (λ_ _=>rfl)) Zac))) (pv 2) rfl))))
    (Zag (Zas (pv 1)))),?_⟩
  refine λd hd=>?_
  have s1:Same H (upd H d (.dT [])):=Same.new hd
  refine ⟨_,rfl,wb,_,_,_,rfl,rfl,SqT.of (s1 _ _ W.w),Zaj (j:=1) rfl,l,xs,rfl,SqL.of (s1 _ _ W.l),?_⟩
  refine Zhy (K:=K) (a:=l) (xs:=xs) (λi σ H2=>∃ (v2 v3:Option V) (kvs:List (List Key×V)),σ=[some (.ref wb),some (.ref d),v2,v3]/\Same H H2/\H2 d=some (.dT kvs)/\kvs.length<=2 * i/\∀ p q,Zck kvs (ky p q)=ZbK rs p q i)
   ⟨none,none,[],rfl,s1,Zab,Nat.zero_le _,λ_ _=>rfl⟩ (λi σ H2 _ ⟨_,_,_,_,s2,_⟩=>SqL.of (s2 _ _ W.l)) ?_ ?_
  ·rintro i x σ H2 T hxi ⟨v2,v3,kvs,rfl,s2,e2,len,val⟩ hT
   obtain ⟨t,r,rfl,et,er⟩:=(W.same s2).p.get hxi
   have hi:i<xs.length:=(List.getElem?_eq_some_iff.mp hxi).1
   have s3:Same H (upd H2 T (.tup [.int (i:Nat),.ref t])):=s2.put (s2.free hT)
   have s23:Same H2 (upd H2 T (.tup [.int (i:Nat),.ref t])):=Same.new hT
   have hdT:d≠T:=Zah e2 hT
   refine ⟨T,_,rfl,SqT.of Zab,rfl,_,_,rfl,_,_,rfl,rfl,?_⟩
   refine ⟨_,rfl,_,rfl,_,rfl,d,_,rfl,DPut.t (k:=ky r.1 r.2) (Zal e2 hdT) (s23 _ _ et) (by omega),?_⟩
   have s4:=s3.put (o:=.dT (Zd7 kvs (ky r.1 r.2) (.int (i:Nat)))) hd
   have et4:upd (upd H2 T (.tup [.int (i:Nat),.ref t])) d (.dT (Zd7 kvs (ky r.1 r.2) (.int (i:Nat)))) t=some (.tup [.int r.1,.int r.2]):=Zal (s23 _ _ et) (ZfP (s23 _ _ et) (Zal e2 hdT) (λz=>by cases z))
   have hl1:=ZbE kvs (ky r.1 r.2) (.int (i:Nat))
   refine ⟨_,rfl,_,rfl,_,rfl,t,_,_,_,rfl,rfl,SqT.of et4,Zaj (j:=1) rfl,_,rfl,t,_,_,_,rfl,rfl,SqT.of et4,Zaj (j:=0) rfl,(by show 2<=sizeLine;decide),λu hu=>?_⟩
   have hdu:d≠u:=λz=>by rw [<-z,Zab] at hu;cases hu
   refine ⟨d,_,rfl,DPut.t (k:=ky r.2 r.1) (Zal Zab hdu) Zab (by omega),?_⟩
   refine ⟨_,_,_,rfl,((s4.put (s4.free hu)).put hd),Zab,?_,λp q=>?_⟩
   ·have:=ZbE (Zd7 kvs (ky r.1 r.2) (.int (i:Nat))) (ky r.2 r.1) (.int (i:Nat))
    omega
   ·rw [Ze4,Ze4,val p q]
    have e:rs.getD i (0,0)=r:=by rw [List.getD_eq_getElem?_getD,er];rfl
    show _=if rs.getD i (0,0)=(p,q)\/rs.getD i (0,0)=(q,p) then some (V.int (i:Nat)) else ZbK rs p q i
    rw [e]
    obtain ⟨r1,r2⟩:=r
    by_cases h1:p=r2/\q=r1
    ·rw [if_pos (ky_inj.mpr h1),if_pos (.inr (by rw [h1.1,h1.2]))]
    ·rw [if_neg λz=>h1 (ky_inj.mp z)]
     by_cases h2:p=r1/\q=r2
     ·rw [if_pos (ky_inj.mpr h2),if_pos (.inl (by rw [h2.1,h2.2]))]
     ·rw [if_neg λz=>h2 (ky_inj.mp z),if_neg]
      rintro (z | z)
      ·injection z with z1 z2
       exact h2 ⟨z1.symm,z2.symm⟩
      ·injection z with z1 z2
       exact h1 ⟨z2.symm,z1.symm⟩
  ·rintro σ H2 ⟨v2,v3,kvs,rfl,s2,e2,len,val⟩
   rw [W.p.len] at val
   exact ⟨_,rfl,q d H2 kvs s2 hd e2 val⟩
def ZaB (ns:List Int) (c:Bool):List (Int×Int):=ns.zip (ns.drop 1)++(if c=true then [(ns.getD (ns.length-1) 0,ns.getD 0 0)] else [])
def Zjt:Sp:=λvs H Q _=>∃ (pl:Addr) (ns:List Int) (c:Bool),vs=[.ref pl,.bl c]/\H pl=some (.lst (ns.map V.int))/\ns.length<=100/\(c=true->ns≠[]) /\
 ∀ (S:Addr) (ws:List V) (H':Hp),Same H H'->H S=none->H' S=some (.lst ws)->Prs H' ws (ZaB ns c)->Q (.ref S) H'
theorem scSte:Zav ["places", "closed", "steps"] ["places", "closed"] (Zae Zic):=⟨rfl,rfl,rfl,by decide +kernel,rfl,by decide +kernel,by decide +kernel⟩
theorem ZbG {ns:List Int} (h:ns≠[]):atI (ns.map V.int) (-1)=some (.int (ns.getD (ns.length-1) 0)):=by
 have hp:0<ns.length:=List.length_pos_iff.mpr h
 have e:ixN (ns.map V.int).length (-1)=some (ns.length-1):=by
  unfold ixN
  rw [if_neg (by decide),List.length_map,if_pos (by omega)]
  congr 1
  omega
 unfold atI
 rw [e]
 show (ns.map V.int)[ns.length-1]?=_
 rw [List.getElem?_map,List.getElem?_eq_getElem (show ns.length-1<ns.length by omega),List.getD_eq_getElem?_getD,List.getElem?_eq_getElem (show ns.length-1<ns.length by omega)]
 rfl
theorem Zcp {ns:List Int} {i:Int} (h0:0<=i) (h1:i<ns.length):atI (ns.map V.int) i=some (.int (ns.getD i.toNat 0)):=by
 obtain ⟨k,rfl⟩:=Int.eq_ofNat_of_zero_le h0
 have hk:k<ns.length:=by omega
 refine Zaj ?_
 show (ns.map V.int)[k]?=some (.int (ns.getD k 0))
 rw [List.getElem?_map,List.getD_eq_getElem?_getD,List.getElem?_eq_getElem hk]
 rfl
theorem Zim {f:Addr} {fd:FuncData} (F:Fun K "steps_of" "steps_of" Zic f fd) (mLst:mg "list" = none) (mZip:mg "zip" = none):ZaK P w K mg base CX0 1 f fd ["places", "closed"] Zjt:=by
 refine F.ok scSte (λvs H Q E h=>?_) (λcdv A outer s H vs Q E hr h=>?_)
 ·obtain ⟨_,_,_,rfl,_⟩:=h
  rfl
 ·obtain ⟨pl,ns,c,rfl,hp,hn,hc,q⟩:=h
  have h16:(16777216:Nat)=sizeLine:=sizeLine_eq.symm
  refine ⟨_,Zad (Zat (i:=2) scSte.nd rfl (Or.inl rfl) (Zfv K rfl rfl mLst rfl mZip (Zaa (pv 0) (Zaa (Za9 (kSl K) (pv 0) (Zbm Zaf) ZbB) Zac))))
    (Zad (ZaP (ZaZ (pv 1)) (Zag (ZaS (ZbM PySem.F.plainAttrs_list PySem.F.slot_list_append PySem.F.type_list_append ZaO (pv 2) (Zaa (ZaR (Zaa (Zaw (Zbf K) (pv 0) (ZbL ZaU Zaf) (λ_ _=>rfl)) (Zaa (Zaw (Zbf K) (pv 0) Zaf (λ_ _=>rfl)) Zac))) Zac)))) Zax)
    (Zag (Zas (pv 2)))),?_⟩
  refine ⟨_,rfl,_,rfl,_,rfl,pl,_,rfl,SqL.of hp,λp2 hp2=>?_⟩
  have s1:Same H (upd H p2 (.lst (Zca (ns.map V.int) (some 1) none))):=Same.new hp2
  have ec:Zca (ns.map V.int) (some 1) none=(ns.drop 1).map V.int:=by rw [show (some (1:Int))=some ((1:Nat):Int) from rfl,Zhi,List.map_drop]
  refine ⟨pl,p2,ns,ns.drop 1,rfl,SqL.of (s1 _ _ hp),by rw [<-ec];exact SqL.of Zab,by omega,λS ws H2 s2 hS eS pS=>?_⟩
  have s12:=s1.trans s2
  have hS0:=s1.free hS
  have lws:ws.length<=100:=by rw [pS.len,List.length_zip];omega
  refine ⟨_,rfl,c,rfl,?_⟩
  refine Zbn (λz=>?_) (λz=>?_)
  ·have hne:=hc z
   have hpos:0<ns.length:=List.length_pos_iff.mpr hne
   refine ⟨_,rfl,.inl ⟨rfl,_,SqL.of eS⟩,_,rfl,_,rfl,pl,_,_,_,rfl,rfl,SqL.of (s12 _ _ hp),ZbG hne,_,rfl,pl,_,_,_,rfl,rfl,SqL.of (s12 _ _ hp),Zcp (i:=0) (by decide) (by omega),(by show 2<=sizeLine;decide),λt ht=>?_⟩
   have hSt:S≠t:=Zah eS ht
   refine ⟨S,_,_,rfl,rfl,Zal eS hSt,by omega,?_⟩
   have s3:=(s12.put (o:=.tup [.int (ns.getD (ns.length-1) 0),.int (ns.getD 0 0)]) (s12.free ht))
   refine ⟨_,rfl,q S _ _ (s3.put hS0) hS0 Zab ?_⟩
   unfold ZaB
   rw [if_pos z]
   have tg:∀ p ys,(upd H2 t (.tup [.int (ns.getD (ns.length-1) 0),.int (ns.getD 0 0)])) p=some (.tup ys)->(upd (upd H2 t (.tup [.int (ns.getD (ns.length-1) 0),.int (ns.getD 0 0)])) S (.lst (ws++[.ref t]))) p=some (.tup ys):=λp ys e=>Zal e (ZfP e (Zal eS hSt) (λz=>by cases z))
   exact Prs.keep (Prs.snoc (pS.same (Same.new ht)) Zab) tg
  ·refine ⟨_,rfl,q S ws H2 s12 hS0 eS ?_⟩
   unfold ZaB
   rw [if_neg z,List.append_nil]
   exact pS
end
section
variable {P:Program} {w:World} {K:PySem.W.Frag} {mg:Str->Option Value} {base:Heap}
def Adj (rs:List (Int×Int)) (p q:Int):Prop:=(p,q)∈rs\/(q,p)∈rs
theorem Zcc (rs:List (Int×Int)) (p q:Int):∀ i,(ZbK rs p q i).isSome=true↔∃ j,j<i/\(rs.getD j (0,0)=(p,q)\/rs.getD j (0,0)=(q,p))
 | 0=>⟨λh=>(by cases h),λ⟨j,hj,_⟩=>absurd hj (Nat.not_lt_zero j)⟩
 | i+1=>by
  have ih:=Zcc rs p q i
  show (if rs.getD i (0,0)=(p,q)\/rs.getD i (0,0)=(q,p) then some (V.int (i:Nat)) else ZbK rs p q i).isSome=true↔_
  by_cases z:rs.getD i (0,0)=(p,q)\/rs.getD i (0,0)=(q,p)
  ·rw [if_pos z]
   exact ⟨λ_=>⟨i,Nat.lt_succ_self i,z⟩,λ_=>rfl⟩
  ·rw [if_neg z,ih]
   constructor
   ·rintro ⟨j,hj,e⟩
    exact ⟨j,Nat.lt_succ_of_lt hj,e⟩
   ·rintro ⟨j,hj,e⟩
    refine ⟨j,?_,e⟩
    rcases Nat.lt_or_ge j i with h | h
    ·exact h
    ·have:j=i:=by omega
     subst this
     exact absurd e z
theorem ZdK (rs:List (Int×Int)) (p q:Int):(ZbK rs p q rs.length).isSome=true↔Adj rs p q:=by
 rw [Zcc]
 constructor
 ·rintro ⟨j,hj,e⟩
  have hm:rs.getD j (0,0)∈rs:=by
   rw [List.getD_eq_getElem?_getD,List.getElem?_eq_getElem hj]
   exact List.getElem_mem hj
  rcases e with e | e
  ·exact .inl (e▸hm)
  ·exact .inr (e▸hm)
 ·rintro (h | h)
  ·obtain ⟨j,hj,e⟩:=List.getElem_of_mem h
   exact ⟨j,hj,.inl (by rw [List.getD_eq_getElem?_getD,List.getElem?_eq_getElem hj];exact e)⟩
  ·obtain ⟨j,hj,e⟩:=List.getElem_of_mem h
   exact ⟨j,hj,.inr (by rw [List.getD_eq_getElem?_getD,List.getElem?_eq_getElem hj];exact e)⟩
theorem ZgN (ns:List Int):∀ i,i<=ns.length->((PyProof.Rows.firstMet (λi=>ns.getD i 0) i).length=i↔(ns.take i).Nodup)
 | 0,_=>⟨λ_=>by rw [List.take_zero];exact List.nodup_nil,λ_=>rfl⟩
 | i+1,h=>by
  have ih:=ZgN ns i (by omega)
  have hx:i<ns.length:=by omega
  have hle:=PyProof.Rows.firstMet_length_le (λi=>ns.getD i 0) i
  have eg:ns.getD i 0=ns[i]:=by rw [List.getD_eq_getElem?_getD,List.getElem?_eq_getElem hx];rfl
  have eany:((List.range i).map λi=>ns.getD i 0)=ns.take i:=by
   refine List.ext_getElem (by rw [List.length_map,List.length_range,List.length_take];omega) λj h1 h2=>?_
   rw [List.length_map,List.length_range] at h1
   rw [List.getElem_map,List.getElem_range,List.getElem_take,List.getD_eq_getElem?_getD,List.getElem?_eq_getElem (by omega)]
   rfl
  have ea:=PyProof.Rows.firstMet_any (λi=>ns.getD i 0) i (ns.getD i 0)
  rw [eany] at ea
  have emem:((ns.take i).any (· == ns.getD i 0))=decide (ns[i]∈ns.take i):=by
   rw [eg]
   by_cases z:ns[i]∈ns.take i
   ·rw [decide_eq_true z]
    exact List.any_eq_true.mpr ⟨_,z,by simp⟩
   ·rw [decide_eq_false z]
    refine List.any_eq_false.mpr λy hy e=>z ?_
    have:y=ns[i]:=by simpa using e
    exact this▸hy
  rw [PyProof.Rows.firstMet_succ,List.take_add_one,List.getElem?_eq_getElem hx]
  show _↔(ns.take i++[ns[i]]).Nodup
  have nd:(ns.take i++[ns[i]]).Nodup↔(ns.take i).Nodup/\ns[i] ∉ ns.take i:=by
   rw [List.nodup_append]
   constructor
   ·rintro ⟨h1,_,h3⟩
    exact ⟨h1,λz=>h3 _ z _ (List.mem_singleton.mpr rfl) rfl⟩
   ·rintro ⟨h1,h2⟩
    refine ⟨h1,List.nodup_cons.mpr ⟨List.not_mem_nil,List.nodup_nil⟩,λa ha b hb e=>?_⟩
    rw [List.mem_singleton] at hb
    subst hb
    exact h2 (e▸ha)
  rw [nd,<-ih]
  by_cases z:ns[i]∈ns.take i
  ·rw [emem,decide_eq_true z] at ea
   unfold PyProof.Rows.step_dedup
   rw [if_pos ea]
   exact ⟨λe=>by omega,λe=>absurd z e.2⟩
  ·rw [emem,decide_eq_false z] at ea
   unfold PyProof.Rows.step_dedup
   rw [if_neg (by rw [ea];decide)]
   have el:∀ (l:List Int) (x:Int),(l++[x]).length=l.length+1:=λl x=>by rw [List.length_append,List.length_singleton]
   first
    | (rw [el];exact ⟨λe=>⟨by omega,z⟩,λe=>by have:=e.1;omega⟩)
    | (rw [List.length_cons];exact ⟨λe=>⟨by omega,z⟩,λe=>by have:=e.1;omega⟩)
theorem ZgO (ns:List Int):(PyProof.Rows.firstMet (λi=>ns.getD i 0) ns.length).length=ns.length↔ns.Nodup:=by
 have h:=ZgN ns ns.length (Nat.le_refl _)
 rw [List.take_length] at h
 exact h
def ZfM (rs:List (Int×Int)) (ns:List Int) (c:Bool):Prop:=(∀ t∈ZaB ns c,Adj rs t.1 t.2)/\ns.Nodup
def Zju:Sp:=λvs H Q _=>∃ (wb l pl:Addr) (k:Int) (xs:List V) (rs:List (Int×Int)) (ns:List Int) (c:Bool),vs=[.ref wb,.ref pl,.bl c]/\WebAt H wb l k xs rs/\xs.length<=30/\H pl=some (.lst (ns.map V.int))/\ns.length<=100/\(c=true->ns≠[]) /\
 ∀ (b:Bool) (H':Hp),Same H H'->(b=true↔ZfM rs ns c)->Q (.bl b) H'
theorem scOnc:Zav ["web", "places", "closed", "numbers", "by_roads"] ["web", "places", "closed"] (Zae ZhH):=⟨rfl,rfl,rfl,by decide +kernel,rfl,by decide +kernel,by decide +kernel⟩
theorem ZkC {f fU fV:Addr} {fd fdU fdV:FuncData} (F:Fun K "goes_once" "goes_once" ZhH f fd) (FU:Fun K "numbers_by_step" "numbers_by_step" ZhG fU fdU) (bU:Binds K fdU ["web"] []) (mU:mg "numbers_by_step" = some (.ref fU))
  (FV:Fun K "steps_of" "steps_of" Zic fV fdV) (bV:Binds K fdV ["places", "closed"] []) (mV:mg "steps_of" = some (.ref fV)) (mEnum:mg "enumerate" = none) (mLst:mg "list" = none) (mZip:mg "zip" = none) (mAll:mg "all" = none) (mSet:mg "set" = none) (mLen:mg "len" = none):ZaK P w K mg base CX0 2 f fd ["web", "places", "closed"] Zju:=by
 have GU:ZaK P w K mg base CX0 1 fU fdU ["web"] Zjs:=Zil FU mEnum
 have GV:ZaK P w K mg base CX0 1 fV fdV ["places", "closed"] Zjt:=Zim FV mLst mZip
 refine F.ok scOnc (λvs H Q E h=>?_) (λcdv A outer s H vs Q E hr h=>?_)
 ·obtain ⟨_,_,_,_,_,_,_,_,rfl,_⟩:=h
  rfl
 ·obtain ⟨wb,l,pl,k,xs,rs,ns,c,rfl,W,hx,hp,hn,hc,q⟩:=h
  have hu1:(A.deeper (PyProof.Rows.envOfC "goes_once" (Zae ZhH) s.heap.objs.size f cdv)).units+1<cLine:=by have:=hr.un;omega
  have h16:(16777216:Nat)=sizeLine:=sizeLine_eq.symm
  refine ⟨_,Zad (Zat (i:=3) scOnc.nd rfl (Or.inr rfl) (Zai GU (hr.mono (by decide)) rfl mU FU.kp bU .nil ZaD (Zaa (pv 0) Zac)))
    (Zad (Zat (i:=4) scOnc.nd rfl (Or.inl rfl) (Zak (Zm9 K rfl) rfl mAll Zhn (Zaa (Zbd (own:=["step"]) rfl (ZaC (fr:=[("numbers", 3)]) [(".0", .local),("step", .local),("numbers", .cell)] rfl rfl (by decide +kernel) rfl (by decide +kernel) ⟨rfl,trivial⟩ ⟨λh=>Za2 h,λh=>Za2 h,λ_=>⟨_,rfl⟩,trivial⟩ ⟨⟨rfl,.inl rfl,.inl rfl⟩,trivial⟩) (Zci K (Zai GV (hr.mono (by decide)) rfl mV FV.kp bV .nil ZaD (Zaa (pv 1) (Zaa (pv 2) Zac)))) (λ_ _ _ _=>Zay (i:=0) (show List.Nodup (["step", "numbers"]:List Str) by decide +kernel) rfl (Or.inl rfl)) (λ_ _ _ _=>ZcH) (λ_ _ _ _=>ZjQ (Zkl hu1 (pv 0) (pv 1)) rfl)) Zac)))
    (Zag (Zas (ZeN (pv 4) (ZeM (ZaV Zbv (Zak ZiX rfl mLen PySem.boot_len (Zaa (ZaL (ZlO K rfl) rfl mSet Ze2 (Zaa (pv 1) Zac)) Zac)) (Zak (Zdk K) rfl mLen PySem.boot_len (Zaa (pv 1) Zac)) (Zau _))))))),?_⟩
  refine ⟨_,rfl,wb,l,k,xs,rs,rfl,W,hx,λd H1 kvs s1 hd ed val=>?_⟩
  refine ⟨_,rfl,_,rfl,pl,ns,c,rfl,s1 _ _ hp,hn,hc,λS ws H2 s2 hS eS pS=>?_⟩
  have s12:=s1.trans s2
  have ed2:=s2 _ _ ed
  have lws:ws.length<=102:=by
   rw [pS.len]
   unfold ZaB
   rw [List.length_append,List.length_zip]
   split <;> simp <;> omega
  refine ⟨S,rfl,⟨_,SqL.of eS⟩,λD hD=>?_⟩
  refine Za1 (K:=K) (a:=S) (xs:=ws) (λi ys H3=>Same H2 H3/\H3 D=some (.lst ys)/\ys=(((ZaB ns c).take i).map λt=>(ZbK rs t.1 t.2 rs.length).isSome).map V.bl) ⟨Same.new hD,Zab,rfl⟩ (λi ys H3 _ ⟨s3,_⟩=>SqL.of (s3 _ _ eS)) ?_ ?_
  ·rintro i x ys H3 hxi ⟨s3,hD3,rfl⟩
   obtain ⟨t,r,rfl,et,er⟩:=(pS.same s3).get hxi
   have hi:i<ws.length:=(List.getElem?_eq_some_iff.mp hxi).1
   refine ⟨⟨rfl,trivial⟩,?_⟩
   unfold Zka
   refine Zcu ?_
   refine ⟨_,rfl,_,rfl,d,_,rfl,DGet.t (k:=ky r.1 r.2) (s3 _ _ ed2) et,hD3,?_,s3.put hD,Zab,?_⟩
   ·rw [List.length_map,List.length_map,List.length_take]
    omega
   ·rw [List.take_add_one,er,List.map_append,List.map_append,val r.1 r.2]
    rfl
  rintro ys H3 ⟨s3,hD3,rfl⟩
  rw [pS.len,List.take_length] at hD3
  refine ⟨D,_,rfl,SqL.of hD3,?_⟩
  refine ⟨_,rfl,_,rfl,?_⟩
  have s13:=s12.trans s3
  have eall:(((ZaB ns c).map λt=>(ZbK rs t.1 t.2 rs.length).isSome).all id=true)↔∀ t∈ZaB ns c,Adj rs t.1 t.2:=by
   rw [List.all_eq_true]
   constructor
   ·intro h t ht
    exact (ZdK rs t.1 t.2).mp (h _ (List.mem_map.mpr ⟨t,ht,rfl⟩))
   ·intro h y hy
    obtain ⟨t,ht,rfl⟩:=List.mem_map.mp hy
    exact (ZdK rs t.1 t.2).mpr (h t ht)
  refine Zbn (λz=>?_) (λz=>?_)
  ·refine ⟨_,rfl,pl,ns,rfl,SqL.of (s13 _ _ hp),by omega,λse hse=>?_⟩
   have s4:Same H3 (upd H3 se (.set (λk'=>(PyProof.Rows.firstMet (λi=>ns.getD i 0) ns.length).any (· == k')) (PyProof.Rows.firstMet (λi=>ns.getD i 0) ns.length).length)):=Same.new hse
   have hml:=PyProof.Rows.firstMet_length_le (λi=>ns.getD i 0) ns.length
   refine ⟨se,_,_,rfl,Zab,by omega,_,rfl,pl,_,rfl,.inl (SqL.of (s4 _ _ (s13 _ _ hp))),rfl,?_⟩
   refine q _ _ (s13.trans s4) ?_
   rw [List.length_map]
   constructor
   ·intro e
    have e1:=of_decide_eq_true e
    have e2:(PyProof.Rows.firstMet (λi=>ns.getD i 0) ns.length).length=ns.length:=by
     have:=V.int.inj e1
     omega
    exact ⟨eall.mp z,(ZgO ns).mp e2⟩
   ·rintro ⟨_,nd⟩
    rw [(ZgO ns).mpr nd]
    exact decide_eq_true rfl
  ·exact q _ _ s13 ⟨λe=>(by cases e),λo=>absurd (eall.mpr o.1) z⟩
end
end M
namespace M
open PySem L2
section
variable {P:Program} {w:World} {K:PySem.W.Frag} {mg:Str->Option Value} {base:Heap}
theorem ZaW {ns:List Int} {i:Nat} (h:i<ns.length):ns.getD i 0=ns[i]:=by
 rw [List.getD_eq_getElem?_getD,List.getElem?_eq_getElem h]
 rfl
theorem zip_mem {ns:List Int} {t:Int×Int}:t∈ns.zip (ns.drop 1)↔∃ j,j+1<ns.length/\t=(ns.getD j 0,ns.getD (j+1) 0):=by
 constructor
 ·intro h
  obtain ⟨j,hj,e⟩:=List.getElem_of_mem h
  rw [List.length_zip,List.length_drop] at hj
  have h1:j+1<ns.length:=by omega
  refine ⟨j,h1,?_⟩
  rw [<-e,List.getElem_zip,List.getElem_drop,ZaW (by omega),ZaW h1]
  congr 2
  omega
 ·rintro ⟨j,hj,rfl⟩
  have h1:j<(ns.zip (ns.drop 1)).length:=by rw [List.length_zip,List.length_drop];omega
  have e:(ns.zip (ns.drop 1))[j]=(ns.getD j 0,ns.getD (j+1) 0):=by
   rw [List.getElem_zip,List.getElem_drop,ZaW (by omega),ZaW hj]
   congr 2
   omega
  rw [<-e]
  exact List.getElem_mem h1
theorem ZbH {ns:List Int} {i:Nat} (h:i<ns.length):ns.getD i 0∈ns:=by
 rw [ZaW h]
 exact List.getElem_mem h
theorem ZbI {ns:List Int} (nd:ns.Nodup) {i j:Nat} (hi:i<ns.length) (hj:j<ns.length) (h:i≠j):ns.getD i 0≠ns.getD j 0:=by
 rw [ZaW hi,ZaW hj]
 exact λe=>h ((List.getElem_inj nd).mp e)
def Mt (rs:List (Int×Int)) (p q:Int) (j:Nat):Prop:=rs.getD j (0,0)=(p,q)\/rs.getD j (0,0)=(q,p)
theorem Zcq {rs:List (Int×Int)} {j:Nat} (h:j<rs.length):rs.getD j (0,0)∈rs:=by
 rw [List.getD_eq_getElem?_getD,List.getElem?_eq_getElem h]
 exact List.getElem_mem h
theorem Zc4 {rs:List (Int×Int)} (nd:rs.Nodup) {i j:Nat} (hi:i<rs.length) (hj:j<rs.length) (h:rs.getD i (0,0)=rs.getD j (0,0)):i=j:=by
 rw [List.getD_eq_getElem?_getD,List.getElem?_eq_getElem hi,List.getD_eq_getElem?_getD,List.getElem?_eq_getElem hj] at h
 exact (List.getElem_inj nd).mp h
theorem ZkD {k:Int} {rs:List (Int×Int)} (g:ZaA k rs) {p q:Int} {i j:Nat} (hi:i<rs.length) (hj:j<rs.length) (a:Mt rs p q i) (b:Mt rs p q j):i=j:=by
 have gi:=(g.2.2.2.1 _ (Zcq hi)).2.1
 have gj:=(g.2.2.2.1 _ (Zcq hj)).2.1
 rcases a with a | a <;> rcases b with b | b
 ·exact Zc4 g.2.2.2.2 hi hj (a.trans b.symm)
 ·rw [a] at gi;rw [b] at gj;dsimp only at gi gj;omega
 ·rw [a] at gi;rw [b] at gj;dsimp only at gi gj;omega
 ·exact Zc4 g.2.2.2.2 hi hj (a.trans b.symm)
theorem Zc5 {k:Int} {rs:List (Int×Int)} (g:ZaA k rs) {p q:Int} {j:Nat} (m:Mt rs p q j):∀ i,j<i->i<=rs.length->ZbK rs p q i=some (.int (j:Nat))
 | 0,h,_=>absurd h (Nat.not_lt_zero j)
 | i+1,h,hl=>by
  show (if rs.getD i (0,0)=(p,q)\/rs.getD i (0,0)=(q,p) then some (V.int (i:Nat)) else ZbK rs p q i)=_
  by_cases z:rs.getD i (0,0)=(p,q)\/rs.getD i (0,0)=(q,p)
  ·rw [if_pos z,ZkD g (i:=i) (j:=j) (by omega) (by omega) z m]
  ·rw [if_neg z]
   refine Zc5 g m i ?_ (by omega)
   rcases Nat.lt_or_ge j i with h' | h'
   ·exact h'
   ·have:j=i:=by omega
    subst this
    exact absurd m z
theorem Zin {rs:List (Int×Int)} {p q:Int} (h:Adj rs p q):∃ j,j<rs.length/\Mt rs p q j:=by
 obtain ⟨j,hj,e⟩:=(Zcc rs p q rs.length).mp ((ZdK rs p q).mpr h)
 exact ⟨j,hj,e⟩
def Zen (rs:List (Int×Int)) (t:Int×Int):Int:=match ZbK rs t.1 t.2 rs.length with
 | some (.int j)=>j
 | _=>0
theorem ZgP {k:Int} {rs:List (Int×Int)} (g:ZaA k rs) {t:Int×Int} {j:Nat} (hj:j<rs.length) (m:Mt rs t.1 t.2 j):Zen rs t=(j:Int):=by
 unfold Zen
 rw [Zc5 g m rs.length hj (Nat.le_refl _)]
theorem Zio {ns:List Int} {i:Nat} (h:i+1<ns.length) (hz:i<(ns.zip (ns.drop 1)).length):(ns.zip (ns.drop 1))[i]=(ns.getD i 0,ns.getD (i+1) 0):=by
 rw [List.getElem_zip,List.getElem_drop,ZaW (by omega),ZaW h]
 congr 2
 omega
theorem ZfF {ns:List Int} {c:Bool} (nd:ns.Nodup) (hc:c=true->3<=ns.length):(ZaB ns c).Pairwise (λt u=>¬ (t=u\/t=(u.2,u.1))):=by
 unfold ZaB
 have zl:(ns.zip (ns.drop 1)).length=ns.length-1:=by rw [List.length_zip,List.length_drop];omega
 have hz:(ns.zip (ns.drop 1)).Pairwise (λt u=>¬ (t=u\/t=(u.2,u.1))):=by
  rw [List.pairwise_iff_getElem]
  intro i j hi hj hij
  rw [Zio (by omega) hi,Zio (by omega) hj]
  rintro (e | e)
  ·injection e with e1 e2
   exact ZbI nd (i:=i) (j:=j) (by omega) (by omega) (by omega) e1
  ·injection e with e1 e2
   exact ZbI nd (i:=i) (j:=j+1) (by omega) (by omega) (by omega) e1
 cases c with
 | false=>rw [if_neg (by decide),List.append_nil];exact hz
 | true=>
  have h3:=hc rfl
  rw [if_pos rfl,List.pairwise_append]
  refine ⟨hz,List.pairwise_singleton _ _,λt ht u hu=>?_⟩
  rw [List.mem_singleton] at hu
  subst hu
  obtain ⟨i,hi,rfl⟩:=zip_mem.mp ht
  rintro (e | e)
  ·injection e with e1 e2
   exact ZbI nd (i:=i) (j:=ns.length-1) (by omega) (by omega) (by omega) e1
  ·injection e with e1 e2
   by_cases h0:i=0
   ·subst h0
    exact ZbI nd (i:=0+1) (j:=ns.length-1) (by omega) (by omega) (by omega) e2
   ·exact ZbI nd (i:=i) (j:=0) (by omega) (by omega) h0 e1
def Jk (rs:List (Int×Int)) (ns:List Int) (c:Bool) (k:Nat):Prop:=∃ t∈ZaB ns c,Mt rs t.1 t.2 k
theorem ZcM {ns:List Int} (hn:ns.Nodup) {j:Nat} (hj:j<ns.length):ns.idxOf (ns.getD j 0)=j:=by
 rw [ZaW hj]
 exact List.Nodup.idxOf_getElem hn j hj
theorem ZcN {ns:List Int} {r:Int} (h:r∈ns):ns.getD (ns.idxOf r) 0=r:=by
 rw [ZaW (List.idxOf_lt_length_iff.mpr h)]
 exact List.getElem_idxOf _
def Zlm (ns:List Int) (a b:Int):Prop:=a∈ns/\b∈ns/\(if (ns.idxOf a:Int)-(ns.idxOf b:Int)<0 then -((ns.idxOf a:Int)-(ns.idxOf b:Int)) else (ns.idxOf a:Int)-(ns.idxOf b:Int))=1
theorem ZhN {ns:List Int} (nd:ns.Nodup) {a b:Int}:Zlm ns a b↔∃ i,i+1<ns.length/\((a,b)=(ns.getD i 0,ns.getD (i+1) 0)\/(a,b)=(ns.getD (i+1) 0,ns.getD i 0)):=by
 constructor
 ·rintro ⟨ha,hb,h⟩
  have la:=List.idxOf_lt_length_iff.mpr ha
  have lb:=List.idxOf_lt_length_iff.mpr hb
  by_cases z:(ns.idxOf a:Int)-(ns.idxOf b:Int)<0
  ·rw [if_pos z] at h
   refine ⟨ns.idxOf a,by omega,.inl ?_⟩
   rw [ZcN ha,show ns.idxOf a+1=ns.idxOf b by omega,ZcN hb]
  ·rw [if_neg z] at h
   refine ⟨ns.idxOf b,by omega,.inr ?_⟩
   rw [ZcN hb,show ns.idxOf b+1=ns.idxOf a by omega,ZcN ha]
 ·rintro ⟨i,hi,e | e⟩
  ·injection e with e1 e2
   subst e1 e2
   refine ⟨ZbH (by omega),ZbH hi,?_⟩
   rw [ZcM nd (by omega),ZcM nd hi,if_pos (by omega)]
   omega
  ·injection e with e1 e2
   subst e1 e2
   refine ⟨ZbH hi,ZbH (by omega),?_⟩
   rw [ZcM nd hi,ZcM nd (show i<ns.length by omega),if_neg (by omega)]
   omega
theorem ZkE {rs:List (Int×Int)} {ns:List Int} {c:Bool} (nd:ns.Nodup) {k:Nat} {a b:Int} (e:rs.getD k (0,0)=(a,b)):Jk rs ns c k↔Zlm ns a b\/(c=true/\([a,b]:List Int).Perm [ns.getD 0 0,ns.getD (ns.length-1) 0]):=by
 unfold Jk Mt ZaB
 rw [ZhN nd,e]
 constructor
 ·rintro ⟨t,ht,m⟩
  rcases List.mem_append.mp ht with ht | ht
  ·obtain ⟨i,hi,rfl⟩:=zip_mem.mp ht
   exact .inl ⟨i,hi,m⟩
  ·cases c with
   | false=>rw [if_neg (by decide)] at ht;cases ht
   | true=>
    rw [if_pos rfl,List.mem_singleton] at ht
    subst ht
    refine .inr ⟨rfl,?_⟩
    rcases m with m | m
    ·injection m with e1 e2
     rw [e1,e2]
     exact List.Perm.swap _ _ _
    ·injection m with e1 e2
     rw [e1,e2]
 ·rintro (⟨i,hi,m⟩ | ⟨rfl,h⟩)
  ·exact ⟨(ns.getD i 0,ns.getD (i+1) 0),List.mem_append_left _ (zip_mem.mpr ⟨i,hi,rfl⟩),m⟩
  ·refine ⟨(ns.getD (ns.length-1) 0,ns.getD 0 0),List.mem_append_right _ (by rw [if_pos rfl];exact List.mem_singleton.mpr rfl),?_⟩
   have m1:a∈[ns.getD 0 0,ns.getD (ns.length-1) 0]:=h.mem_iff.mp (by simp)
   dsimp only
   rcases List.mem_cons.mp m1 with e1 | e1
   ·rw [e1] at h ⊢
    have h':=(List.perm_cons _).mp h
    rw [List.perm_singleton] at h'
    injection h' with e2
    exact .inr (by rw [e2])
   ·rw [List.mem_singleton] at e1
    rw [e1] at h ⊢
    have h':=(List.perm_cons _).mp (h.trans (List.Perm.swap _ _ _))
    rw [List.perm_singleton] at h'
    injection h' with e2
    exact .inl (by rw [e2])
end
section
variable {P:Program} {w:World} {K:PySem.W.Frag} {mg:Str->Option Value} {base:Heap}
def pvI (ns:List Int) (i:Nat):Int:=if i=0 then ns.getD (ns.length-1) 0 else ns.getD (i-1) 0
theorem ZkF {rs:List (Int×Int)} (hlt:∀ r∈rs,r.1<r.2) (x y:Int):((if y<x then y else x),(if y > x then y else x))∈rs↔Adj rs x y:=by
 unfold Adj
 by_cases h1:y<x
 ·rw [if_pos h1,if_neg (show ¬ y > x by omega)]
  refine ⟨.inr,λh=>h.elim (λh=>?_) id⟩
  have:=hlt _ h
  dsimp only at this
  omega
 ·rw [if_neg h1]
  by_cases h2:y > x
  ·rw [if_pos h2]
   refine ⟨.inl,λh=>h.elim id (λh=>?_)⟩
   have:=hlt _ h
   dsimp only at this
   omega
  ·have e:x=y:=by omega
   subst e
   rw [if_neg h2]
   exact ⟨.inl,λh=>h.elim id id⟩
theorem Zfe {k:Int} {rs:List (Int×Int)} (g:ZaA k rs) {x y:Int} (h:Adj rs x y):0<=y/\y<k:=by
 rcases h with h | h
 ·have:=g.2.2.2.1 _ h
  dsimp only at this
  omega
 ·have:=g.2.2.2.1 _ h
  dsimp only at this
  omega
def Zl2:Sp:=λvs H Q _=>∃ (wb l:Addr) (k p:Int),vs=[.ref wb,.int p]/\H wb=some (.tup [.int k,.ref l])/\Q (.bl (decide (0<=p/\p<k))) H
theorem Znz:Zav ["web", "place"] ["web", "place"] (Zae sIs):=⟨rfl,rfl,rfl,by decide +kernel,rfl,by decide +kernel,by decide +kernel⟩
theorem ZkG {f:Addr} {fd:FuncData} (F:Fun K "is_place" "is_place" sIs f fd):ZaK P w K mg base CX0 1 f fd ["web", "place"] Zl2:=by
 refine F.ok Znz (λvs H Q E h=>?_) (λcdv A outer s H vs Q E hr h=>?_)
 ·obtain ⟨_,_,_,_,rfl,_⟩:=h
  rfl
 ·obtain ⟨wb,l,k,p,rfl,hw,q⟩:=h
  refine ⟨_,Zag (Zas (Zhb Zlv Zeq Zaf (pv 1) (Zaw (Zcd K) (pv 0) Zaf (λ_ _=>rfl)))),?_⟩
  refine ⟨_,rfl,_,_,rfl,rfl,_,rfl,Zbn (λh0=>?_) (λh0=>?_)⟩
  ·refine ⟨_,rfl,wb,_,_,_,rfl,rfl,SqT.of hw,Zaj (j:=0) rfl,_,_,rfl,rfl,?_⟩
   have h0':=of_decide_eq_true h0
   have e:decide (p<k)=decide (0<=p/\p<k):=by
    by_cases h1:p<k
    ·rw [decide_eq_true h1,decide_eq_true (⟨h0',h1⟩:0<=p/\p<k)]
    ·rw [decide_eq_false h1,decide_eq_false λz=>h1 z.2]
   show Q (.bl (decide (p<k))) H
   rw [e]
   exact q
  ·have h0':¬ 0<=p:=λz=>h0 (decide_eq_true z)
   have e:decide (0<=p/\p<k)=false:=decide_eq_false λz=>h0' z.1
   rw [e] at q
   exact q
def Ends (k p q:Int):Prop:=(0<=p/\p<k)/\(0<=q/\q<k)/\p≠q
def Zjv (C:Addr):Sp:=λvs H Q E=>∃ (wb l:Addr) (k p q:Int),vs=[.ref wb,.int p,.int q]/\H wb=some (.tup [.int k,.ref l])/\((Ends k p q/\Q .non H)\/(¬ Ends k p q/\E (.ref C) none H))
theorem Zl3:Zav ["web", "one", "other"] ["web", "one", "other"] (Zae Zib):=⟨rfl,rfl,rfl,by decide +kernel,rfl,by decide +kernel,by decide +kernel⟩
theorem ZkH {f fI C:Addr} {fd fdI:FuncData} (F:Fun K "check_ends" "check_ends" Zib f fd) (FI:Fun K "is_place" "is_place" sIs fI fdI) (bI:Binds K fdI ["web", "place"] []) (mI:mg "is_place" = some (.ref fI)) (mC:mg "NoEnds" = some (.ref C)) (xC:ExcC K C) :
  ZaK P w K mg base (CXr P w) 2 f fd ["web", "one", "other"] (Zjv C):=by
 have GI:ZaK P w K mg base CX0 1 fI fdI ["web", "place"] Zl2:=ZkG FI
 refine F.okR Zl3 (λvs H Q E h=>?_) (λcdv A outer s H vs Q E hr h=>?_)
 ·obtain ⟨_,_,_,_,_,rfl,_⟩:=h
  rfl
 ·obtain ⟨wb,l,k,p,q,rfl,hw,h⟩:=h
  refine ⟨_,Zag (ZaP (PW.pt (Zb2 (Zbu (ZaZ (Zai GI (hr.mono (by decide)) rfl mI FI.kp bI .nil ZaD (Zaa (pv 0) (Zaa (pv 1) Zac))))) (Zb2 (Zbu (ZaZ (Zai GI (hr.mono (by decide)) rfl mI FI.kp bI .nil ZaD (Zaa (pv 0) (Zaa (pv 2) Zac))))) (ZbJ (Zam Zbv (pv 1) (pv 2) (Zau _)))))) (Zag (ZcI (E:=E) rfl Zbh rfl mC xC (Zaa Zbt Zac))) Zax),?_⟩
  refine ⟨_,rfl,_,rfl,wb,l,k,p,rfl,hw,⟨_,rfl,?_⟩⟩
  by_cases h1:0<=p/\p<k
  ·rw [decide_eq_true h1]
   refine ZbC ?_
   refine ⟨_,rfl,_,rfl,wb,l,k,q,rfl,hw,⟨_,rfl,?_⟩⟩
   by_cases h2:0<=q/\q<k
   ·rw [decide_eq_true h2]
    refine ZbC ?_
    refine ⟨_,rfl,_,rfl,rfl,_,rfl,?_⟩
    by_cases h3:p=q
    ·subst h3
     rw [decide_eq_true rfl]
     refine Zcu ?_
     rcases h with ⟨g,_⟩ | ⟨_,e⟩
     ·exact absurd rfl g.2.2
     ·exact ⟨by decide,e⟩
    ·rw [decide_eq_false λe=>h3 (V.int.inj e)]
     refine ZbC ?_
     rcases h with ⟨_,y⟩ | ⟨g,_⟩
     ·exact y
     ·exact absurd ⟨h1,h2,h3⟩ g
   ·rw [decide_eq_false h2]
    refine Zcu ?_
    rcases h with ⟨g,_⟩ | ⟨_,e⟩
    ·exact absurd g.2.1 h2
    ·exact ⟨by decide,e⟩
  ·rw [decide_eq_false h1]
   refine Zcu ?_
   rcases h with ⟨g,_⟩ | ⟨_,e⟩
   ·exact absurd g.1 h1
   ·exact ⟨by decide,e⟩
def Way (rs:List (Int×Int)) (p q:Int) (ns:List Int):Prop:=ns≠[]/\ns.getD 0 0=p/\ns.getD (ns.length-1) 0=q/\ZfM rs ns false
def ZkI (C:Addr):Sp:=λvs H Q E=>∃ (wb l pl:Addr) (k p q:Int) (xs:List V) (rs:List (Int×Int)) (ns:List Int),vs=[.ref wb,.int p,.int q,.ref pl]/\WebAt H wb l k xs rs/\xs.length<=30/\H pl=some (.lst (ns.map V.int))/\ns.length<=100 /\
 ((Ends k p q/\∀ (b:Bool) (H':Hp),Same H H'->(b=true↔Way rs p q ns)->Q (.bl b) H')\/(¬ Ends k p q/\E (.ref C) none H))
theorem Zl4:Zav ["web", "one", "other", "places"] ["web", "one", "other", "places"] (Zae Zjf):=⟨rfl,rfl,rfl,by decide +kernel,rfl,by decide +kernel,by decide +kernel⟩
theorem ZeJ {x y:Int} (h:(!decide (V.int x=V.int y))=true):x≠y:=λe=>by rw [e,decide_eq_true rfl] at h;cases h
theorem Zff {x y:Int} (h:¬ (!decide (V.int x=V.int y))=true):x=y:=by
 by_cases e:x=y
 ·exact e
 ·rw [decide_eq_false λz=>e (V.int.inj z)] at h
  exact absurd rfl h
theorem ZkJ {f fH fO C:Addr} {fd fdH fdO:FuncData} (F:Fun K "is_way" "is_way" Zjf f fd) (FH:Fun K "check_ends" "check_ends" Zib fH fdH) (bH:Binds K fdH ["web", "one", "other"] []) (mH:mg "check_ends" = some (.ref fH)) (GH:ZaK P w K mg base (CXr P w) 2 fH fdH ["web", "one", "other"] (Zjv C))
  (FO:Fun K "goes_once" "goes_once" ZhH fO fdO) (bO:Binds K fdO ["web", "places", "closed"] []) (mO:mg "goes_once" = some (.ref fO)) (GO:ZaK P w K mg base CX0 2 fO fdO ["web", "places", "closed"] Zju):ZaK P w K mg base (CXr P w) 3 f fd ["web", "one", "other", "places"] (ZkI C):=by
 refine F.okR Zl4 (λvs H Q E h=>?_) (λcdv A outer s H vs Q E hr h=>?_)
 ·obtain ⟨_,_,_,_,_,_,_,_,_,rfl,_⟩:=h
  rfl
 ·obtain ⟨wb,l,pl,k,p,q',xs,rs,ns,rfl,W,hx,hp,hn,h⟩:=h
  refine ⟨_,Zad (ZaS (Zai GH (hr.mono (by decide)) rfl mH FH.kp bH .nil Zhk (Zaa (pv 0) (Zaa (pv 1) (Zaa (pv 2) Zac)))))
    (Zad (ZaP (PW.pt (Zb2 (Zbu (ZeR (pv 3) (λ_=>rfl))) (Zb2 (Zam ZfX (Zaw (Zbf K) (pv 3) Zaf (λ_ _=>rfl)) (pv 1) (Zau _)) (ZbJ (Zam ZfX (Zaw (Zbf K) (pv 3) (ZbL ZaU Zaf) (λ_ _=>rfl)) (pv 2) (Zau _)))))) (Zag (Zas Zb1)) Zax)
    (Zag (Zas (Zai GO (hr.mono (by decide)) rfl mO FO.kp bO .nil ZaD (Zaa (pv 0) (Zaa (pv 3) (Zaa Zb1 Zac))))))),?_⟩
  rcases h with ⟨g,q⟩ | ⟨g,e⟩
  ·have no:¬ Way rs p q' ns->Q (.bl false) H:=λz=>q false H (Same.refl _) ⟨λe=>(by cases e),λr=>absurd r z⟩
   refine ⟨_,rfl,_,rfl,_,rfl,wb,l,k,p,q',rfl,W.w,.inl ⟨g,?_⟩⟩
   refine ⟨_,rfl,_,.inl ⟨_,SqL.of hp,rfl⟩,?_⟩
   by_cases hne:ns=[]
   ·subst hne
    refine Zcu ?_
    exact no λz=>z.1 rfl
   have e1:(!(ns.map V.int).isEmpty)=true:=by
    cases ns with
    | nil=>exact absurd rfl hne
    | cons _ _=>rfl
   rw [e1]
   refine ZbC ?_
   have hpos:0<ns.length:=List.length_pos_iff.mpr hne
   refine ⟨_,rfl,pl,_,_,_,rfl,rfl,SqL.of hp,Zcp (i:=0) (by decide) (by omega),_,rfl,rfl,_,rfl,?_⟩
   refine Zbn (λz=>no λy=>ZeJ z y.2.1) (λz=>?_)
   have z0:ns.getD 0 0=p:=Zff z
   refine ⟨_,rfl,_,rfl,pl,_,_,_,rfl,rfl,SqL.of hp,ZbG hne,_,rfl,rfl,_,rfl,?_⟩
   refine Zbn (λz=>no λy=>ZeJ z y.2.2.1) (λz=>?_)
   have z1:=Zff z
   refine ⟨_,rfl,_,rfl,wb,l,pl,k,xs,rs,ns,false,rfl,W,hx,hp,hn,λy=>(by cases y),λb H1 s1 hb=>q b H1 s1 ?_⟩
   rw [hb]
   exact ⟨λo=>⟨hne,z0,z1,o⟩,λy=>y.2.2.2⟩
  ·exact ⟨_,rfl,_,rfl,_,rfl,wb,l,k,p,q',rfl,W.w,.inr ⟨g,e⟩⟩
end
section
variable {P:Program} {w:World} {K:PySem.W.Frag} {mg:Str->Option Value} {base:Heap}
def Zln (rs:List (Int×Int)) (ns:List Int):Prop:=3<=ns.length/\(∀ x∈ns,ns.getD 0 0<=x)/\ns.getD 1 0<ns.getD (ns.length-1) 0/\ZfM rs ns true
def ZkK:Sp:=λvs H Q _=>∃ (wb l pl:Addr) (k:Int) (xs:List V) (rs:List (Int×Int)) (ns:List Int),vs=[.ref wb,.ref pl]/\WebAt H wb l k xs rs/\xs.length<=30/\H pl=some (.lst (ns.map V.int))/\ns.length<=100 /\
 ∀ (b:Bool) (H':Hp),Same H H'->(b=true↔Zln rs ns)->Q (.bl b) H'
theorem Zl5:Zav ["web", "places"] ["web", "places"] (Zae Zjg):=⟨rfl,rfl,rfl,by decide +kernel,rfl,by decide +kernel,by decide +kernel⟩
theorem ZkL {f fO:Addr} {fd fdO:FuncData} (F:Fun K "is_closed" "is_closed" Zjg f fd) (FO:Fun K "goes_once" "goes_once" ZhH fO fdO) (bO:Binds K fdO ["web", "places", "closed"] []) (mO:mg "goes_once" = some (.ref fO)) (GO:ZaK P w K mg base CX0 2 fO fdO ["web", "places", "closed"] Zju)
  (mLen:mg "len" = none) (mMin:mg "min" = none):ZaK P w K mg base CX0 3 f fd ["web", "places"] ZkK:=by
 refine F.ok Zl5 (λvs H Q E h=>?_) (λcdv A outer s H vs Q E hr h=>?_)
 ·obtain ⟨_,_,_,_,_,_,_,rfl,_⟩:=h
  rfl
 ·obtain ⟨wb,l,pl,k,xs,rs,ns,rfl,W,hx,hp,hn,q⟩:=h
  have h16:(16777216:Nat)=sizeLine:=sizeLine_eq.symm
  have no:¬ Zln rs ns->Q (.bl false) H:=λz=>q false H (Same.refl _) ⟨λe=>(by cases e),λr=>absurd r z⟩
  refine ⟨_,Zad (ZaP (PW.pt (Zb2 (Zam Zeq (Zak (Zdk K) rfl mLen PySem.boot_len (Zaa (pv 1) Zac)) Zaf (Zau _)) (Zb2 (Zam ZfX (Zaw (Zbf K) (pv 1) Zaf (λ_ _=>rfl)) (Zak (ZmB K rfl) rfl mMin Zby (Zaa (pv 1) Zac)) (Zau _)) (ZbJ (Zam ZiD (Zaw (Zbf K) (pv 1) Zaf (λ_ _=>rfl)) (Zaw (Zbf K) (pv 1) (ZbL ZaU Zaf) (λ_ _=>rfl)) (Zau _)))))) (Zag (Zas Zb1)) Zax)
    (Zag (Zas (Zai GO (hr.mono (by decide)) rfl mO FO.kp bO .nil ZaD (Zaa (pv 0) (Zaa (pv 1) (Zaa Zb1 Zac)))))),?_⟩
  refine ⟨_,rfl,pl,_,rfl,.inl (SqL.of hp),_,_,rfl,rfl,_,rfl,?_⟩
  rw [List.length_map]
  refine Zbn (λz=>no λr=>?_) (λz=>?_)
  ·have:=of_decide_eq_true z
   have:=r.1
   omega
  have h3:3<=ns.length:=by
   have:¬ ((ns.length:Int)<3):=λy=>z (decide_eq_true y)
   omega
  have hne:ns≠[]:=λe=>by rw [e] at h3;exact absurd h3 (by decide)
  refine ⟨_,rfl,pl,_,_,_,rfl,rfl,SqL.of hp,Zcp (i:=0) (by decide) (by omega),_,rfl,pl,ns,rfl,SqL.of hp,hne,λm hm hl=>⟨rfl,_,rfl,?_⟩⟩
  refine Zbn (λz=>no λr=>?_) (λz=>?_)
  ·have hle:=r.2.1 m hm
   have hge:=hl _ (ZbH (show 0<ns.length by omega))
   have e:ns.getD 0 0=m:=Int.le_antisymm hle hge
   have z':(!decide (V.int (ns.getD (0:Int).toNat 0)=V.int m))=true:=z
   rw [show (0:Int).toNat=0 from rfl,e,decide_eq_true rfl] at z'
   cases z'
  have e0:ns.getD 0 0=m:=by
   by_cases y:ns.getD 0 0=m
   ·exact y
   ·exfalso
    apply z
    show (!decide (V.int (ns.getD 0 0)=V.int m))=true
    rw [decide_eq_false λe=>y (V.int.inj e)]
    rfl
  refine ⟨_,rfl,pl,_,_,_,rfl,rfl,SqL.of hp,Zcp (i:=1) (by decide) (by omega),_,rfl,_,rfl,pl,_,_,_,rfl,rfl,SqL.of hp,ZbG hne,_,_,rfl,rfl,_,rfl,?_⟩
  refine Zbn (λz=>no λr=>?_) (λz=>?_)
  ·have z':=of_decide_eq_true z
   have:=r.2.2.1
   rw [show (1:Int).toNat=1 from rfl] at z'
   omega
  have h1:ns.getD 1 0<=ns.getD (ns.length-1) 0:=by
   have:¬ (ns.getD (ns.length-1) 0<ns.getD (1:Int).toNat 0):=λy=>z (decide_eq_true y)
   rw [show (1:Int).toNat=1 from rfl] at this
   omega
  refine ⟨_,rfl,_,rfl,wb,l,pl,k,xs,rs,ns,true,rfl,W,hx,hp,hn,λ_=>hne,λb H1 s1 hb=>q b H1 s1 ?_⟩
  rw [hb]
  refine ⟨λo=>⟨h3,λx hx=>by rw [e0];exact hl x hx,?_,o⟩,λr=>r.2.2.2⟩
  have:=ZbI o.2 (i:=1) (j:=ns.length-1) (by omega) (by omega) (by omega)
  omega
end
end M
namespace M
open PySem L2
section
variable {P:Program} {w:World} {K:PySem.W.Frag} {mg:Str->Option Value} {base:Heap}
def Zjw:Sp:=λvs H Q _=>∃ (wb l pl:Addr) (k:Int) (xs:List V) (rs:List (Int×Int)) (ns:List Int) (c:Bool),vs=[.ref wb,.ref pl,.bl c]/\WebAt H wb l k xs rs/\ZaA k rs/\H pl=some (.lst (ns.map V.int))/\ns.length<=50/\(c=true->ns≠[])/\(∀ t∈ZaB ns c,Adj rs t.1 t.2) /\
 ∀ (re:Addr) (ms:List Int) (H':Hp),Same H H'->H re=none->H' re=some (.lst (ms.map V.int))->ms.Perm ((ZaB ns c).map (Zen rs))->ms.Pairwise (· <= ·)->Q (.ref re) H'
theorem scRds:Zav ["web", "places", "closed", "numbers"] ["web", "places", "closed"] (Zae ZeG):=⟨rfl,rfl,rfl,by decide +kernel,rfl,by decide +kernel,by decide +kernel⟩
theorem ZkM {f fU fV:Addr} {dV:Value} {fd fdU fdV:FuncData} (F:FunD K "roads_of" "roads_of" ZeG dV f fd) (FU:Fun K "numbers_by_step" "numbers_by_step" ZhG fU fdU) (bU:Binds K fdU ["web"] []) (mU:mg "numbers_by_step" = some (.ref fU))
  (FV:Fun K "steps_of" "steps_of" Zic fV fdV) (bV:Binds K fdV ["places", "closed"] []) (mV:mg "steps_of" = some (.ref fV)) (mEnum:mg "enumerate" = none) (mLst:mg "list" = none) (mZip:mg "zip" = none) (mSor:mg "sorted" = none):ZaK P w K mg base CX0 2 f fd ["web", "places", "closed"] Zjw:=by
 have GU:ZaK P w K mg base CX0 1 fU fdU ["web"] Zjs:=Zil FU mEnum
 have GV:ZaK P w K mg base CX0 1 fV fdV ["places", "closed"] Zjt:=Zim FV mLst mZip
 refine F.ok scRds (λvs H Q E h=>?_) (λcdv A outer s H vs Q E hr h=>?_)
 ·obtain ⟨_,_,_,_,_,_,_,_,rfl,_⟩:=h
  rfl
 ·obtain ⟨wb,l,pl,k,xs,rs,ns,c,rfl,W,g,hp,hn,hc,adj,q⟩:=h
  have hu1:(A.deeper (PyProof.Rows.envOfC "roads_of" (Zae ZeG) s.heap.objs.size f cdv)).units+1<cLine:=by have:=hr.un;omega
  have h16:(16777216:Nat)=sizeLine:=sizeLine_eq.symm
  have hx:xs.length<=30:=by rw [W.p.len];exact g.2.2.1
  refine ⟨_,Zad (Zat (i:=3) scRds.nd rfl (Or.inr rfl) (Zai GU (hr.mono (by decide)) rfl mU FU.kp bU .nil ZaD (Zaa (pv 0) Zac)))
    (Zag (Zas (Zak (Zdz K) rfl mSor PyProof.Rows.boot_sorted (Zaa (Zbd (own:=["step"]) rfl (ZaC (fr:=[("numbers", 3)]) [(".0", .local),("step", .local),("numbers", .cell)] rfl rfl (by decide +kernel) rfl (by decide +kernel) ⟨rfl,trivial⟩ ⟨λh=>Za2 h,λh=>Za2 h,λ_=>⟨_,rfl⟩,trivial⟩ ⟨⟨rfl,.inl rfl,.inl rfl⟩,trivial⟩) (Zci K (Zai GV (hr.mono (by decide)) rfl mV FV.kp bV .nil ZaD (Zaa (pv 1) (Zaa (pv 2) Zac)))) (λ_ _ _ _=>Zay (i:=0) (show List.Nodup (["step", "numbers"]:List Str) by decide +kernel) rfl (Or.inl rfl)) (λ_ _ _ _=>ZcH) (λ_ _ _ _=>Zi0 hu1 (pv 1) (pv 0) (λ_ _=>rfl))) Zac)))),?_⟩
  refine ⟨_,rfl,wb,l,k,xs,rs,rfl,W,hx,λd H1 kvs s1 hd ed val=>?_⟩
  refine ⟨_,rfl,_,rfl,pl,ns,c,rfl,s1 _ _ hp,by omega,hc,λS ws H2 s2 hS eS pS=>?_⟩
  have s12:=s1.trans s2
  have ed2:=s2 _ _ ed
  have lst:(ZaB ns c).length<=51:=by
   unfold ZaB
   rw [List.length_append,List.length_zip]
   split <;> simp <;> omega
  have lws:ws.length<=51:=by rw [pS.len];exact lst
  refine ⟨S,rfl,⟨_,SqL.of eS⟩,λD hD=>?_⟩
  refine Za1 (K:=K) (a:=S) (xs:=ws) (λi ys H3=>Same H2 H3/\H3 D=some (.lst ys)/\ys=(((ZaB ns c).take i).map (Zen rs)).map V.int) ⟨Same.new hD,Zab,rfl⟩ (λi ys H3 _ ⟨s3,_⟩=>SqL.of (s3 _ _ eS)) ?_ ?_
  ·rintro i x ys H3 hxi ⟨s3,hD3,rfl⟩
   obtain ⟨t,r,rfl,et,er⟩:=(pS.same s3).get hxi
   have hi:i<ws.length:=(List.getElem?_eq_some_iff.mp hxi).1
   obtain ⟨j,hj,mj⟩:=Zin (adj r (List.mem_of_getElem? er))
   refine ⟨⟨rfl,trivial⟩,?_⟩
   unfold Zka
   refine Zcu ?_
   have dg:DGet H3 d (.ref t) (some (.int (j:Nat))):=by
    have:=DGet.t (k:=ky r.1 r.2) (s3 _ _ ed2) et
    rw [val r.1 r.2,Zc5 g mj rs.length hj (Nat.le_refl _)] at this
    exact this
   refine ⟨_,rfl,_,rfl,d,_,rfl,dg,hD3,?_,s3.put hD,Zab,?_⟩
   ·rw [List.length_map,List.length_map,List.length_take]
    omega
   ·rw [List.take_add_one,er,List.map_append,List.map_append]
    show _=_++[V.int (Zen rs r)]
    rw [ZgP g hj mj]
  rintro ys H3 ⟨s3,hD3,rfl⟩
  rw [pS.len,List.take_length] at hD3
  refine ⟨D,_,rfl,SqL.of hD3,by rw [List.length_map];omega,λre ms hre pm so=>?_⟩
  have s13:=s12.trans s3
  exact q re ms _ (s13.put (s13.free hre)) (s13.free hre) Zab pm so
theorem ZfG {K:PySem.W.Frag} {σ:St} {H:Hp} {pl:Addr} {ns:List Int} {a b:Int} {G:VK} (h1:σ[1]?=some (some (V.ref pl))) (h5:σ[5]?=some (some (V.int a))) (h6:σ[6]?=some (some (V.int b))) (hp:H pl=some (.lst (ns.map V.int)))
  (q:∀ nb:Bool,(nb=true↔Zlm ns a b)->G (.bl nb) H):ZiB (tOp (rIn K false) (Zg4 5) (Zg4 1)) (ZiB (tOp (rIn K false) (Zg4 6) (Zg4 1)) (tOp rEq (tCB (λxs H Q=>∃ i:Int,xs=[.int i]/\Q (.int (if i<0 then -i else i)) H) (Zf1 (tOp (rI0 λi j=>.int (i-j)) (tBM K "list" Zgp (Zg4 1) (Zf1 (Zg4 5) ZiG)) (tBM K "list" Zgp (Zg4 1) (Zf1 (Zg4 6) ZiG))) ZiG)) (tC (.int 1)))) σ H G:=by
 refine ⟨_,h5,_,h1,pl,_,rfl,.inl (SqL.of hp),rfl,ZbS _,_,rfl,?_⟩
 show if (inV (.int a) (ns.map V.int))=true then _ else _
 rw [ZbZ]
 refine Zbn (λz=>?_) (λz=>q false ⟨λe=>(by cases e),λn=>absurd (decide_eq_true n.1) z⟩)
 have ha:a∈ns:=of_decide_eq_true z
 refine ⟨_,h6,_,h1,pl,_,rfl,.inl (SqL.of hp),rfl,ZbS _,_,rfl,?_⟩
 show if (inV (.int b) (ns.map V.int))=true then _ else _
 rw [ZbZ]
 refine Zbn (λz=>?_) (λz=>q false ⟨λe=>(by cases e),λn=>absurd (decide_eq_true n.2.1) z⟩)
 have hb:b∈ns:=of_decide_eq_true z
 refine ⟨_,h1,.inl ⟨rfl,_,SqL.of hp⟩,_,h5,pl,ns,a,rfl,rfl,hp,ha,?_⟩
 refine ⟨_,h1,.inl ⟨rfl,_,SqL.of hp⟩,_,h6,pl,ns,b,rfl,rfl,hp,hb,?_⟩
 refine ⟨_,_,rfl,rfl,_,rfl,rfl,?_⟩
 refine q _ ⟨λe=>⟨ha,hb,V.int.inj (of_decide_eq_true e)⟩,λn=>decide_eq_true (congrArg V.int n.2.2)⟩
def ZkN:Sp:=λvs H Q _=>∃ (wb l pl:Addr) (k:Int) (xs:List V) (rs:List (Int×Int)) (ns:List Int) (c:Bool),vs=[.ref wb,.ref pl,.bl c]/\WebAt H wb l k xs rs/\ZaA k rs/\H pl=some (.lst (ns.map V.int))/\ns.length<=50/\ns.Nodup/\ns≠[] /\
 ∀ (du:Addr) (ks:List Int) (H':Hp),Same H H'->H du=none->H' du=some (.lst (ks.map V.int))->ks.Nodup->ks.Pairwise (· <= ·)->ks.length<=30->(∀ x,x∈ks↔∃ j:Nat,j<rs.length/\x=(j:Int)/\Jk rs ns c j)->Q (.ref du) H'
theorem scSet:Zav ["web", "row", "closed", "found", "k", "a", "b", "near"] ["web", "row", "closed"] (Zae Zjm):=⟨rfl,rfl,rfl,by decide +kernel,rfl,by decide +kernel,by decide +kernel⟩
theorem ZkO {f:Addr} {fd:FuncData} (F:Fun K "_law_set" "_law_set" Zjm f fd) (mLen:mg "len" = none) (mAbs:mg "abs" = none) (mSor:mg "sorted" = none) (mRange:mg "range" = none):ZaK P w K mg base CX0 1 f fd ["web", "row", "closed"] ZkN:=by
 refine F.ok scSet (λvs H Q E h=>?_) (λcdv A outer s H vs Q E hr h=>?_)
 ·obtain ⟨_,_,_,_,_,_,_,_,rfl,_⟩:=h
  rfl
 ·obtain ⟨wb,l,pl,k,xs,rs,ns,c,rfl,W,g,hp,hn,nd,hne,q⟩:=h
  have h16:(16777216:Nat)=sizeLine:=sizeLine_eq.symm
  have hu:=hr.units
  have hx:xs.length<=30:=by rw [W.p.len];exact g.2.2.1
  have hpos:0<ns.length:=List.length_pos_iff.mpr hne
  refine ⟨_,Zad (Zat (i:=3) scSet.nd rfl (Or.inl rfl) (ZaE Zac))
    (Zad (Zbg PassesOwn.never rfl (ZaT rfl mRange (Zaa (Zak (Zdk K) rfl mLen PySem.boot_len (Zaa (Zaw (Zcd K) (pv 0) Zaf (λ_ _=>rfl)) Zac)) Zac)) (Zay (i:=4) scSet.nd rfl (Or.inl rfl))
    (Zad (ZeO (Zaw (Zbf K) (Zaw (Zcd K) (pv 0) Zaf (λ_ _=>rfl)) (pv 4) (λ_ _=>rfl)) (ZiS K (n:=2) rfl (ZaQ (Zay (i:=5) scSet.nd rfl (Or.inl rfl)) (ZaQ (Zay (i:=6) scSet.nd rfl (Or.inl rfl)) Zb9))))
    (Zad (Zat (i:=7) scSet.nd rfl (Or.inl rfl) (ZeN (ZaV (kIn K) (pv 5) (pv 1) (by with_unfolding_all rfl)) (ZeN (ZaV (kIn K) (pv 6) (pv 1) (by with_unfolding_all rfl)) (ZeM (ZaV Zbv (Zak Znj rfl mAbs Zgt (Zaa (Zaq Zb4 (ZbM PySem.F.plainAttrs_list PySem.F.slot_list_index PySem.F.type_list_index Ze6 (pv 1) (Zaa (pv 5) Zac)) (ZbM PySem.F.plainAttrs_list PySem.F.slot_list_index PySem.F.type_list_index Ze6 (pv 1) (Zaa (pv 6) Zac))) Zac)) Zaf (Zau _))))))
    (Zag (ZaP (PW.pt (Zb2 (ZaZ (pv 7)) (ZbJ (PW.pt (Zh0 (ZaZ (pv 2)) (ZfR (Zam (Zm7 K hu) (Zak (Zdz K) rfl mSor PyProof.Rows.boot_sorted (Zaa (ZaE (Zaa (pv 5) (Zaa (pv 6) Zac))) Zac)) (Zak (Zdz K) rfl mSor PyProof.Rows.boot_sorted (Zaa (ZaE (Zaa (Zaw (Zbf K) (pv 1) Zaf (λ_ _=>rfl)) (Zaa (Zaw (Zbf K) (pv 1) (ZbL ZaU Zaf) (λ_ _=>rfl)) Zac))) Zac)) (Zau _)))))))) (Zag (ZaS (ZbM PySem.F.plainAttrs_list PySem.F.slot_list_append PySem.F.type_list_append ZaO (pv 3) (Zaa (pv 4) Zac)))) Zax)))))
    (Zag (Zas (pv 3)))),?_⟩
  refine ⟨Nat.zero_le _,λdu hdu=>?_⟩
  have s1:Same H (upd H du (.lst [])):=Same.new hdu
  refine ⟨_,rfl,wb,_,_,_,rfl,rfl,SqT.of (s1 _ _ W.w),Zaj (j:=1) rfl,l,xs,rfl,.inl (SqL.of (s1 _ _ W.l)),_,rfl,by omega,by omega,?_⟩
  rw [Int.toNat_natCast]
  refine Za6 (lo:=0) (n:=xs.length) (λi σ H2=>∃ (v4 v5 v6 v7:Option V) (ks:List Int),σ=[some (.ref wb),some (.ref pl),some (.bl c),some (.ref du),v4,v5,v6,v7]/\Same H H2/\H2 du=some (.lst (ks.map V.int))/\ks.length<=i/\ks.Pairwise (· < ·)/\(∀ x,x∈ks↔∃ j:Nat,j<i/\x=(j:Int)/\Jk rs ns c j))
   ⟨none,none,none,none,[],rfl,s1,Zab,Nat.le_refl _,List.Pairwise.nil,λx=>⟨λh=>(by cases h),λ⟨j,hj,_⟩=>absurd hj (Nat.not_lt_zero j)⟩⟩ ?_ ?_
  ·rintro i σ H2 hi ⟨v4,v5,v6,v7,ks,rfl,s2,e2,kl,ko,hk⟩
   have W2:=W.same s2
   have hp2:=s2 _ _ hp
   have hxi:xs[i]?=some xs[i]:=List.getElem?_eq_getElem hi
   obtain ⟨t,r,et,eh,er⟩:=W2.p.get hxi
   have hat:atI xs (0+(i:Int))=some (.ref t):=by rw [Int.zero_add];exact Zaj (by rw [hxi,et])
   obtain ⟨a,b⟩:=r
   have eg:rs.getD i (0,0)=(a,b):=by rw [List.getD_eq_getElem?_getD,er];rfl
   have jk:=ZkE (c:=c) nd eg
   refine ⟨_,rfl,wb,_,_,_,rfl,rfl,SqT.of W2.w,Zaj (j:=1) rfl,_,rfl,l,_,_,_,rfl,rfl,SqL.of W2.l,hat,t,_,rfl,SqT.of eh,rfl,_,_,rfl,_,_,rfl,rfl,?_⟩
   refine ZfG (K:=K) (pl:=pl) (ns:=ns) (a:=a) (b:=b) rfl rfl rfl hp2 λnb hnb=>?_
   have yes:∀ H3:Hp,Same H H3->H3 du=some (.lst (ks.map V.int))->Jk rs ns c i->Same H (upd H3 du (.lst (ks.map V.int++[.int (0+(i:Int))])))/\upd H3 du (.lst (ks.map V.int++[.int (0+(i:Int))])) du=some (.lst ((ks++[(i:Int)]).map V.int))/\(ks++[(i:Int)]).length<=i+1/\(ks++[(i:Int)]).Pairwise (· < ·)/\(∀ x,x∈ks++[(i:Int)]↔∃ j:Nat,j<i+1/\x=(j:Int)/\Jk rs ns c j):=λH3 s3 e3 jy=>by
    refine ⟨s3.put hdu,by rw [Zab,Int.zero_add,List.map_append];rfl,by rw [List.length_append,List.length_singleton];omega,List.pairwise_append.mpr ⟨ko,List.pairwise_singleton _ _,λx hx y hy=>?_⟩,λx=>?_⟩
    ·rw [List.mem_singleton] at hy
     obtain ⟨j,hj,e,_⟩:=(hk x).mp hx
     omega
    ·rw [List.mem_append,List.mem_singleton,hk x]
     constructor
     ·rintro (⟨j,hj,e,y⟩ | e)
      ·exact ⟨j,by omega,e,y⟩
      ·exact ⟨i,by omega,e,jy⟩
     ·rintro ⟨j,hj,e,y⟩
      by_cases z:j=i
      ·exact .inr (by rw [e,z])
      ·exact .inl ⟨j,by omega,e,y⟩
   have nope:¬ Jk rs ns c i->∀ x,x∈ks↔∃ j:Nat,j<i+1/\x=(j:Int)/\Jk rs ns c j:=λjn x=>by
    rw [hk x]
    constructor
    ·rintro ⟨j,hj,e,y⟩
     exact ⟨j,by omega,e,y⟩
    ·rintro ⟨j,hj,e,y⟩
     by_cases z:j=i
     ·subst z;exact absurd y jn
     ·exact ⟨j,by omega,e,y⟩
   refine ⟨_,rfl,_,rfl,?_⟩
   refine Zbn (λz=>?_) (λz=>?_)
   ·have jy:=jk.mpr (.inl (hnb.mp z))
    obtain ⟨y1,y2,y3,y4,y5⟩:=yes H2 s2 e2 jy
    exact ⟨_,rfl,.inl ⟨rfl,_,SqL.of e2⟩,_,rfl,du,_,_,rfl,rfl,e2,by rw [List.length_map];omega,_,_,_,_,_,rfl,y1,y2,y3,y4,y5⟩
   have nn:¬ Zlm ns a b:=λn=>z (hnb.mpr n)
   refine ⟨_,rfl,_,rfl,?_⟩
   refine Zbn (λzc=>?_) (λzc=>?_)
   ·refine ⟨_,rfl,_,rfl,ZaG,λc1 hc1=>?_⟩
    have s3:Same H2 (upd H2 c1 (.lst [.int a,.int b])):=Same.new hc1
    refine ⟨c1,[a,b],rfl,SqL.of Zab,by show 2<64;decide,λc2 m1 hc2 p1 o1=>?_⟩
    have s4:=s3.put (o:=.lst (m1.map V.int)) (s3.free hc2)
    have e4:upd (upd H2 c1 (.lst [.int a,.int b])) c2 (.lst (m1.map V.int)) c2=some (.lst (m1.map V.int)):=Zab
    generalize upd (upd H2 c1 (.lst [.int a,.int b])) c2 (.lst (m1.map V.int))=H4 at s4 e4 ⊢
    refine ⟨_,rfl,pl,_,_,_,rfl,rfl,SqL.of (s4 _ _ hp2),Zcp (i:=0) (by decide) (by omega),_,rfl,_,rfl,pl,_,_,_,rfl,rfl,SqL.of (s4 _ _ hp2),ZbG hne,ZaG,λc3 hc3=>?_⟩
    have s5:Same H4 (upd H4 c3 (.lst [.int (ns.getD 0 0),.int (ns.getD (ns.length-1) 0)])):=Same.new hc3
    refine ⟨c3,[ns.getD 0 0,ns.getD (ns.length-1) 0],rfl,SqL.of Zab,by show 2<64;decide,λc4 m2 hc4 p2 o2=>?_⟩
    have s6:=s5.put (o:=.lst (m2.map V.int)) (s5.free hc4)
    have s26:=s4.trans s6
    refine ⟨.list (m1.map PyData.int),.list (m2.map PyData.int),.lst (SqL.of (s6 _ _ e4)) (ZaF _),.lst (SqL.of Zab) (ZaF _),Zaz _,Zaz _,_,rfl,?_⟩
    have eb:(false != PyData.eqv (.list (m1.map PyData.int)) (.list (m2.map PyData.int)))=decide (m1=m2):=by rw [Zbb];simp
    rw [eb]
    have so:=Zhj p1 o1 o2
    have e6:=s26 _ _ e2
    refine Zbn (λy=>?_) (λy=>?_)
    ·have jy:=jk.mpr (.inr ⟨zc,(so.mp (of_decide_eq_true y)).trans p2⟩)
     obtain ⟨y1,y2,y3,y4,y5⟩:=yes _ (s2.trans s26) e6 jy
     exact ⟨_,rfl,.inl ⟨rfl,_,SqL.of e6⟩,_,rfl,du,_,_,rfl,rfl,e6,by rw [List.length_map];omega,_,_,_,_,_,rfl,y1,y2,y3,y4,y5⟩
    ·have jn:¬ Jk rs ns c i:=λj=>(jk.mp j).elim nn λh=>y (decide_eq_true (so.mpr (h.2.trans p2.symm)))
     exact ⟨_,_,_,_,ks,rfl,s2.trans s26,e6,by omega,ko,nope jn⟩
   ·have jn:¬ Jk rs ns c i:=λj=>(jk.mp j).elim nn λh=>zc h.1
    refine ZbC ?_
    exact ⟨_,_,_,_,ks,rfl,s2,e2,by omega,ko,nope jn⟩
  ·rintro σ H2 ⟨v4,v5,v6,v7,ks,rfl,s2,e2,kl,ko,hk⟩
   rw [W.p.len] at hk
   exact ⟨_,rfl,q du ks H2 s2 hdu e2 (ko.imp λh=>Int.ne_of_lt h) (ko.imp λh=>Int.le_of_lt h) (by omega) hk⟩
end
section
variable {P:Program} {w:World} {K:PySem.W.Frag} {mg:Str->Option Value} {base:Heap}
end
end M
namespace M
open PySem L2
section
variable {P:Program} {w:World} {K:PySem.W.Frag} {mg:Str->Option Value} {base:Heap}
def Zjx:Sp:=λvs H Q _=>∃ (wb l:Addr) (k p:Int) (xs:List V) (rs:List (Int×Int)),vs=[.ref wb,.int p]/\WebAt H wb l k xs rs/\xs.length<=30 /\
 ∀ (r:Addr) (ms:List Int) (H':Hp),Same H H'->H r=none->H' r=some (.lst (ms.map V.int))->ms.length<=30->(∀ m,m∈ms↔Adj rs p m)->Q (.ref r) H'
theorem Zl6:Zav ["web", "place"] ["web", "place"] (Zae Zif):=⟨rfl,rfl,rfl,by decide +kernel,rfl,by decide +kernel,by decide +kernel⟩
theorem ZhO {rs:List (Int×Int)} {i:Nat} {r:Int×Int} (h:rs[i]?=some r) (p m:Int):Adj (rs.take (i+1)) p m↔Adj (rs.take i) p m\/r=(p,m)\/r=(m,p):=by
 unfold Adj
 rw [List.take_add_one,h]
 show (p,m)∈rs.take i++[r]\/(m,p)∈rs.take i++[r]↔_
 rw [List.mem_append,List.mem_append,List.mem_singleton,List.mem_singleton]
 constructor
 ·rintro ((h | h) | (h | h))
  ·exact .inl (.inl h)
  ·exact .inr (.inl h.symm)
  ·exact .inl (.inr h)
  ·exact .inr (.inr h.symm)
 ·rintro ((h | h) | h | h)
  ·exact .inl (.inl h)
  ·exact .inr (.inl h)
  ·exact .inl (.inr h.symm)
  ·exact .inr (.inr h.symm)
theorem Zip {f:Addr} {fd:FuncData} (F:Fun K "_law_near" "_law_near" Zif f fd):ZaK P w K mg base CX0 1 f fd ["web", "place"] Zjx:=by
 refine F.ok Zl6 (λvs H Q E h=>?_) (λcdv A outer s H vs Q E hr h=>?_)
 ·obtain ⟨_,_,_,_,_,_,rfl,_⟩:=h
  rfl
 ·obtain ⟨wb,l,k,p,xs,rs,rfl,W,hx,q⟩:=h
  have h16:(16777216:Nat)=sizeLine:=sizeLine_eq.symm
  refine ⟨_,Zag (Zas (Zbd (own:=["a", "b"]) rfl (ZaC (fr:=[("place", 1)]) [(".0", .local),("a", .local),("b", .local),("place", .cell)] rfl rfl (by decide +kernel) rfl (by decide +kernel) ⟨rfl,trivial⟩ ⟨λh=>Za2 h,λh=>Za2 h,λh=>Za2 h,λ_=>⟨_,rfl⟩,trivial⟩ ⟨⟨rfl,.inl rfl,.inl rfl⟩,trivial⟩) (Zci K (Zaw (Zcd K) (pv 0) Zaf (λ_ _=>rfl))) (λ_ _ _ _=>ZiS K (n:=2) rfl (ZaQ (Zay (i:=0) (show List.Nodup (["a", "b", "place"]:List Str) by decide +kernel) rfl (Or.inl rfl)) (ZaQ (Zay (i:=1) (show List.Nodup (["a", "b", "place"]:List Str) by decide +kernel) rfl (Or.inl rfl)) Zb9))) (λ_ _ _ _=>Zba (PW.pt (Zb2 (Zam Zbv (pv 2) (pv 0) (Zau _)) (ZbJ (Zam Zbv (pv 2) (pv 1) (Zau _)))))) (λ_ _ _ _=>Zaq Zb4 (Zaq ZaH (pv 0) (pv 1)) (pv 2)))),?_⟩
  refine ⟨_,rfl,wb,_,_,_,rfl,rfl,SqT.of W.w,Zaj (j:=1) rfl,l,rfl,⟨_,SqL.of W.l⟩,λD hD=>?_⟩
  refine Za1 (K:=K) (a:=l) (xs:=xs) (λi ys H2=>Same H H2/\H2 D=some (.lst ys)/\∃ ms:List Int,ys=ms.map V.int/\ms.length<=i/\∀ m,m∈ms↔Adj (rs.take i) p m) ⟨Same.new hD,Zab,[],rfl,Nat.zero_le _,λm=>by unfold Adj;rw [List.take_zero];simp⟩ (λi ys H2 _ ⟨s2,_⟩=>SqL.of (s2 _ _ W.l)) ?_ ?_
  ·rintro i x ys H2 hxi ⟨s2,hD2,ms,rfl,hm,hin⟩
   obtain ⟨t,r,rfl,et,er⟩:=W.p.get hxi
   have hi:i<xs.length:=(List.getElem?_eq_some_iff.mp hxi).1
   refine ⟨t,_,rfl,SqT.of (s2 _ _ et),rfl,_,_,rfl,_,_,rfl,rfl,⟨rfl,trivial⟩,?_⟩
   have at':=ZhO er p
   obtain ⟨r1,r2⟩:=r
   have take:(p=r1\/p=r2)->H2 D=some (.lst (ms.map V.int))/\(ms.map V.int).length<sizeLine/\Same H (upd H2 D (.lst (ms.map V.int++[.int (r1+r2-p)])))/\upd H2 D (.lst (ms.map V.int++[.int (r1+r2-p)])) D=some (.lst (ms.map V.int++[.int (r1+r2-p)])) /\
     ∃ ms':List Int,ms.map V.int++[.int (r1+r2-p)]=ms'.map V.int/\ms'.length<=i+1/\∀ m,m∈ms'↔Adj (rs.take (i+1)) p m:=λz=>by
    refine ⟨hD2,by rw [List.length_map];omega,s2.put hD,Zab,ms++[r1+r2-p],by rw [List.map_append];rfl,by rw [List.length_append,List.length_singleton];omega,λm=>?_⟩
    rw [List.mem_append,List.mem_singleton,hin m,at' m]
    refine or_congr Iff.rfl ⟨λe=>?_,λe=>?_⟩
    ·rcases z with z | z
     ·exact .inl (by rw [e,z];congr 1;omega)
     ·exact .inr (by rw [e,z];congr 1;omega)
    ·rcases e with e | e
     ·injection e with e1 e2;omega
     ·injection e with e1 e2;omega
   refine ⟨_,rfl,_,rfl,rfl,_,rfl,?_⟩
   refine Zbn (λz=>?_) (λz=>?_)
   ·have z1:p=r1:=V.int.inj (of_decide_eq_true z)
    exact ⟨_,rfl,_,rfl,_,_,rfl,rfl,_,rfl,_,_,rfl,rfl,take (.inl z1)⟩
   ·have z1:¬ p=r1:=λy=>z (decide_eq_true (congrArg V.int y))
    refine ⟨_,rfl,_,rfl,rfl,_,rfl,?_⟩
    refine Zbn (λz=>?_) (λz=>?_)
    ·have z2:p=r2:=V.int.inj (of_decide_eq_true z)
     exact ⟨_,rfl,_,rfl,_,_,rfl,rfl,_,rfl,_,_,rfl,rfl,take (.inr z2)⟩
    ·have z2:¬ p=r2:=λy=>z (decide_eq_true (congrArg V.int y))
     refine ⟨s2,hD2,ms,rfl,by omega,λm=>?_⟩
     rw [hin m,at' m]
     refine ⟨.inl,λh=>h.elim id λe=>?_⟩
     rcases e with e | e
     ·injection e with e1 e2;exact absurd e1.symm z1
     ·injection e with e1 e2;exact absurd e2.symm z2
  ·rintro ys H2 ⟨s2,hD2,ms,rfl,hm,hin⟩
   rw [W.p.len,List.take_length] at hin
   exact q D ms H2 s2 hD hD2 (by omega) hin
theorem Zfg:∀ (ns:List Int) (b:Int),ns≠[]->(ns++[b]).zip ((ns++[b]).drop 1)=ns.zip (ns.drop 1)++[(ns.getD (ns.length-1) 0,b)]
 | [],b,h=>absurd rfl h
 | [a],b,_=>rfl
 | a::c::r,b,_=>by
  have ih:=Zfg (c::r) b (λe=>by cases e)
  have e1:(a::c::r).getD ((a::c::r).length-1) 0=(c::r).getD ((c::r).length-1) 0:=by
   rw [List.length_cons,List.length_cons]
   rfl
  rw [e1]
  show (a,c)::((c::r)++[b]).zip (((c::r)++[b]).drop 1)=(a,c)::((c::r).zip ((c::r).drop 1))++_
  rw [ih]
  rfl
theorem ZgQ {rs:List (Int×Int)} {ns:List Int} {b:Int} (o:ZfM rs ns false) (hne:ns≠[]) (ha:Adj rs (ns.getD (ns.length-1) 0) b) (hb:b ∉ ns):ZfM rs (ns++[b]) false:=by
 refine ⟨λt ht=>?_,?_⟩
 ·unfold ZaB at ht
  rw [if_neg (by decide),List.append_nil,Zfg ns b hne] at ht
  rcases List.mem_append.mp ht with ht | ht
  ·exact o.1 t (by unfold ZaB;rw [if_neg (by decide),List.append_nil];exact ht)
  ·rw [List.mem_singleton] at ht
   rw [ht]
   exact ha
 ·refine List.nodup_append.mpr ⟨o.2,List.nodup_cons.mpr ⟨List.not_mem_nil,List.nodup_nil⟩,λx hx y hy e=>?_⟩
  rw [List.mem_singleton] at hy
  exact hb (hy▸e▸hx)
def ZkP:Sp:=λvs H Q _=>∃ (d wb l:Addr) (n k p:Int) (m:Nat) (xs:List V) (rs:List (Int×Int)),vs=[.ref d,.ref wb,.int p,.int (m:Int)]/\H d=some (.lst [.int n])/\WebAt H wb l k xs rs/\xs.length<=30/\l≠d/\m<=15 /\
 ∀ (ro:Addr) (ns:List Int) (H':Hp),Dk H H' d->H ro=none->H' ro=some (.lst (ns.map V.int))->1<=ns.length->ns.length<=m+1->ZfM rs ns false->ns.getD 0 0=p->Q (.ref ro) H'
theorem scGon:Zav ["deck", "web", "place", "most", "row", "k", "near"] ["deck", "web", "place", "most"] (Zae Zjk):=⟨rfl,rfl,rfl,by decide +kernel,rfl,by decide +kernel,by decide +kernel⟩
theorem Zjy {n:Nat} (h:n<1024):Lt2 9000 (n:Int):=Nat.lt_of_lt_of_le (show ((n:Int)).natAbs<2 ^ 10 by omega) (Nat.pow_le_pow_right (by decide) (by decide))
theorem ZkQ {f fN fT:Addr} {fd fdN fdT:FuncData} (F:Fun K "_law_gone" "_law_gone" Zjk f fd) (FN:Fun K "_law_near" "_law_near" Zif fN fdN) (bN:Binds K fdN ["web", "place"] []) (mN:mg "_law_near" = some (.ref fN))
  (FT:Fun K "_law_take" "_law_take" ZcF fT fdT) (bT:Binds K fdT ["deck", "many"] []) (mT:mg "_law_take" = some (.ref fT)) (mRange:mg "range" = none) (mLen:mg "len" = none):ZaK P w K mg base CX0 2 f fd ["deck", "web", "place", "most"] ZkP:=by
 have GN:ZaK P w K mg base CX0 1 fN fdN ["web", "place"] Zjx:=Zip FN
 have GT:ZaK P w K mg base CX0 1 fT fdT ["deck", "many"] Zc3:=Zcx FT
 refine F.ok scGon (λvs H Q E h=>?_) (λcdv A outer s H vs Q E hr h=>?_)
 ·obtain ⟨_,_,_,_,_,_,_,_,_,rfl,_⟩:=h
  rfl
 ·obtain ⟨d,wb,l,n,k,p,m,xs,rs,rfl,hd,W,hx,hld,hm,q⟩:=h
  have h16:(16777216:Nat)=sizeLine:=sizeLine_eq.symm
  have hu:=hr.units
  refine ⟨_,Zad (Zat (i:=4) scGon.nd rfl (Or.inr rfl) (ZaE (Zaa (pv 2) Zac)))
    (Zad (Zbg PassesOwn.never rfl (ZaT rfl mRange (Zaa (pv 3) Zac)) (Zay (i:=5) scGon.nd rfl (Or.inl rfl))
    (Zad (Zf8 (i:=6) scGon.nd rfl (Or.inl rfl) (own:=["there"]) rfl (ZaC (fr:=[("row", 4)]) [(".0", .local),("there", .local),("row", .cell)] rfl rfl (by decide +kernel) rfl (by decide +kernel) ⟨rfl,trivial⟩ ⟨λh=>Za2 h,λh=>Za2 h,λ_=>⟨_,rfl⟩,trivial⟩ ⟨⟨rfl,.inl rfl,.inl rfl⟩,trivial⟩) (Zci K (Zai GN (hr.mono (by decide)) rfl mN FN.kp bN .nil ZaD (Zaa (pv 1) (Zaa (Zaw (Zbf K) (pv 4) (ZbL ZaU Zaf) (λ_ _=>rfl)) Zac)))) (λ_ _ _ _=>Zay (i:=0) (show List.Nodup (["there", "row"]:List Str) by decide +kernel) rfl (Or.inl rfl)) (λ_ _ _ _=>Zba (Zam (Zge K) (pv 0) (pv 1) (by with_unfolding_all rfl))) (λ_ _ _ _=>pv 0))
    (Zag (ZaP (Zam (Zg6 K hu) (pv 6) (ZaE Zac) (Zau _)) (Zag (ZaS (ZbM PySem.F.plainAttrs_list PySem.F.slot_list_append PySem.F.type_list_append ZaO (pv 4) (Zaa (Zaw (Zbf K) (pv 6) (Zai GT (hr.mono (by decide)) rfl mT FT.kp bT .nil ZaD (Zaa (pv 0) (Zaa (Zak (Zdk K) rfl mLen PySem.boot_len (Zaa (pv 6) Zac)) Zac))) (λ_ _=>rfl)) Zac)))) Zax))))
    (Zag (Zas (pv 4)))),?_⟩
  refine ⟨_,rfl,(by show 1<=sizeLine;decide),λro hro=>?_⟩
  have D0:=(Dk.start hd).new (o:=.lst [.int p]) hro
  have hdr:d≠ro:=Zah hd hro
  refine ⟨_,rfl,_,rfl,by omega,by omega,?_⟩
  rw [Int.toNat_natCast]
  refine Za6 (lo:=0) (n:=m) (λi σ H2=>∃ (v5 v6:Option V) (ns:List Int),σ=[some (.ref d),some (.ref wb),some (.int p),some (.int (m:Int)),some (.ref ro),v5,v6]/\Dk H H2 d/\H2 ro=some (.lst (ns.map V.int))/\1<=ns.length/\ns.length<=i+1/\ZfM rs ns false/\ns.getD 0 0=p)
   ⟨none,none,[p],rfl,D0,Zab,Nat.le_refl _,Nat.le_refl _,⟨λt ht=>(by cases ht),List.nodup_cons.mpr ⟨List.not_mem_nil,List.nodup_nil⟩⟩,rfl⟩ ?_ ?_
  ·rintro i σ H2 hi ⟨v5,v6,ns,rfl,D2,e2,n1,n2,on,hd0⟩
   have W2:=W.dk D2 hd hld
   have hne:ns≠[]:=λe=>by rw [e] at n1;exact absurd n1 (by decide)
   refine ⟨_,rfl,_,rfl,_,rfl,ro,_,_,_,rfl,rfl,SqL.of e2,ZbG hne,?_⟩
   refine ⟨wb,l,k,_,xs,rs,rfl,W2,hx,λr ms H3 s3 hr3 e3 hml hin=>?_⟩
   refine ⟨r,rfl,⟨_,SqL.of e3⟩,λD hD=>?_⟩
   have e23:=s3 _ _ e2
   refine Za1 (K:=K) (a:=r) (xs:=ms.map V.int) (λi ys H4=>Same H3 H4/\H4 D=some (.lst ys)/\∃ bs:List Int,ys=bs.map V.int/\bs.length<=i/\∀ b∈bs,b∈ms/\b ∉ ns) ⟨Same.new hD,Zab,[],rfl,Nat.zero_le _,λb hb=>(by cases hb)⟩ (λi ys H4 _ ⟨s4,_⟩=>SqL.of (s4 _ _ e3)) ?_ ?_
   ·rintro j x ys H4 hxj ⟨s4,hD4,bs,rfl,hbl,hbs⟩
    rw [List.getElem?_map] at hxj
    cases z:ms[j]? with
    | none=>rw [z] at hxj;cases hxj
    | some b=>
     rw [z] at hxj
     cases hxj
     have hj:j<ms.length:=(List.getElem?_eq_some_iff.mp z).1
     refine ⟨⟨rfl,trivial⟩,?_⟩
     refine ⟨_,rfl,_,rfl,ro,_,rfl,.inl (SqL.of (s4 _ _ e23)),rfl,ZbS _,_,rfl,?_⟩
     show if (!inV (.int b) (ns.map V.int))=true then _ else _
     rw [ZbZ]
     refine Zbn (λy=>?_) (λy=>?_)
     ·refine ⟨_,rfl,hD4,by rw [List.length_map];omega,s4.put hD,Zab,bs++[b],by rw [List.map_append];rfl,by rw [List.length_append,List.length_singleton];omega,λc hc=>?_⟩
      rcases List.mem_append.mp hc with hc | hc
      ·exact hbs c hc
      ·rw [List.mem_singleton] at hc
       subst hc
       refine ⟨List.mem_of_getElem? z,λh=>?_⟩
       rw [decide_eq_true h] at y
       cases y
     ·exact ⟨s4,hD4,bs,rfl,by omega,hbs⟩
   rintro ys H4 ⟨s4,hD4,bs,rfl,hbl,hbs⟩
   rw [List.length_map] at hbl
   have s24:=s3.trans s4
   have D4:=D2.grow s24
   have e4:=s24 _ _ e2
   refine ⟨_,rfl,Nat.zero_le _,λe he=>?_⟩
   have s5:Same H4 (upd H4 e (.lst [])):=Same.new he
   refine ⟨.list (bs.map PyData.int),.list (([]:List Int).map PyData.int),.lst (SqL.of (s5 _ _ hD4)) (ZaF _),.lst (SqL.of Zab) .nil,Zaz _,Zaz _,_,rfl,?_⟩
   rw [Zbb]
   have D5:=D4.grow s5
   have e5:=s5 _ _ e4
   have hD5:=s5 _ _ hD4
   have hroD:ro≠D:=Zah e23 hD
   have hdD:d≠D:=(D2.grow s3).ne hD
   generalize upd H4 e (.lst [])=H5 at D5 e5 hD5 ⊢
   refine Zbn (λy=>?_) (λy=>?_)
   ·have hbp:0<bs.length:=by
     cases bs with
     | nil=>rw [decide_eq_true rfl] at y;cases y
     | cons _ _=>exact Nat.succ_pos _
    obtain ⟨n5,ed5⟩:=D5.at_
    refine ⟨_,rfl,.inl ⟨rfl,_,SqL.of e5⟩,_,rfl,_,rfl,_,rfl,D,_,rfl,.inl (SqL.of hD5),d,n5,_,rfl,ed5,by rw [List.length_map];omega,by rw [List.length_map];exact Zjy (by omega),λn6 r6 h60 h61=>?_⟩
    rw [List.length_map] at h61
    have hD6:upd H5 d (.lst [.int n6]) D=some (.lst (bs.map V.int)):=Zal hD5 (Ne.symm hdD)
    refine ⟨D,_,_,_,rfl,rfl,SqL.of hD6,Zcp h60 h61,?_⟩
    refine ⟨ro,_,_,rfl,rfl,Zal e5 (Ne.symm hdr),by rw [List.length_map];omega,?_⟩
    have hb:=hbs _ (show bs.getD r6.toNat 0∈bs by
     rw [List.getD_eq_getElem?_getD,List.getElem?_eq_getElem (show r6.toNat<bs.length by omega)]
     exact List.getElem_mem _)
    refine ⟨_,_,ns++[bs.getD r6.toNat 0],rfl,(D5.take n6).put hro hdr,by rw [Zab,List.map_append];rfl,by rw [List.length_append];omega,by rw [List.length_append,List.length_singleton];omega,ZgQ on hne ((hin _).mp hb.1) hb.2,by rw [List.getD_eq_getElem?_getD,List.getElem?_append_left (by omega),<-List.getD_eq_getElem?_getD];exact hd0⟩
   ·exact ⟨_,_,ns,rfl,D5,e5,n1,by omega,on,hd0⟩
  ·rintro σ H2 ⟨v5,v6,ns,rfl,D2,e2,n1,n2,on,hd0⟩
   exact ⟨_,rfl,q ro ns H2 D2 hro e2 n1 (by omega) on hd0⟩
end
end M
namespace M
open PySem L2
section
variable {P:Program} {w:World} {K:PySem.W.Frag} {mg:Str->Option Value} {base:Heap}
def ZkR (C:Addr):Sp:=λvs H Q E=>∃ (wb l:Addr) (k p:Int),vs=[.ref wb,.int p]/\H wb=some (.tup [.int k,.ref l])/\(((0<=p/\p<k)/\Q .non H)\/(¬ (0<=p/\p<k)/\E (.ref C) none H))
theorem Zl7:Zav ["web", "place"] ["web", "place"] (Zae Zjd):=⟨rfl,rfl,rfl,by decide +kernel,rfl,by decide +kernel,by decide +kernel⟩
theorem ZkS {f fI C:Addr} {fd fdI:FuncData} (F:Fun K "check_place" "check_place" Zjd f fd) (FI:Fun K "is_place" "is_place" sIs fI fdI) (bI:Binds K fdI ["web", "place"] []) (mI:mg "is_place" = some (.ref fI)) (mC:mg "NoPlace" = some (.ref C)) (xC:ExcC K C) :
  ZaK P w K mg base (CXr P w) 2 f fd ["web", "place"] (ZkR C):=by
 have GI:ZaK P w K mg base CX0 1 fI fdI ["web", "place"] Zl2:=ZkG FI
 refine F.okR Zl7 (λvs H Q E h=>?_) (λcdv A outer s H vs Q E hr h=>?_)
 ·obtain ⟨_,_,_,_,rfl,_⟩:=h
  rfl
 ·obtain ⟨wb,l,k,p,rfl,hw,h⟩:=h
  refine ⟨_,Zag (ZaP (Zbu (ZaZ (Zai GI (hr.mono (by decide)) rfl mI FI.kp bI .nil ZaD (Zaa (pv 0) (Zaa (pv 1) Zac))))) (Zag (ZcI (E:=E) rfl Zbh rfl mC xC (Zaa Zbt Zac))) Zax),?_⟩
  refine ⟨_,rfl,_,rfl,wb,l,k,p,rfl,hw,⟨_,rfl,?_⟩⟩
  rcases h with ⟨hin,q⟩ | ⟨hout,q⟩
  ·rw [decide_eq_true hin]
   refine ZbC ?_
   exact q
  ·rw [decide_eq_false hout]
   refine Zcu ?_
   exact ⟨by decide,q⟩
def Zdc (r:Int×Int) (p:Int):Bool:=decide (r.1=p\/r.2=p)
theorem Zl8 (p a b:Int):inV (.int p) [.int a,.int b]=Zdc (a,b) p:=by
 unfold inV Zdc
 by_cases h1:a=p <;> by_cases h2:b=p <;> simp [eqV,h1,h2]
def ZgR (rs:List (Int×Int)) (p:Int):List Int:=(rs.filter λr=>Zdc r p).map λr=>r.1+r.2-p
theorem ZhP (rs:List (Int×Int)) (p:Int):(ZgR rs p).length<=rs.length:=by
 unfold ZgR
 rw [List.length_map]
 exact List.length_filter_le _ _
theorem ZgS (rs:List (Int×Int)) (p:Int) (i:Nat) {r:Int×Int} (h:rs[i]?=some r):ZgR (rs.take (i+1)) p=ZgR (rs.take i) p++(if Zdc r p=true then [r.1+r.2-p] else []):=by
 unfold ZgR
 rw [List.take_add_one,h]
 show List.map _ (List.filter _ (rs.take i++[r]))=_
 rw [List.filter_append,List.map_append,List.filter_cons,List.filter_nil]
 by_cases z:Zdc r p=true
 ·rw [if_pos z,if_pos z];rfl
 ·rw [if_neg z,if_neg z];rfl
def ZkT (C:Addr):Sp:=λvs H Q E=>∃ (wb l:Addr) (k p:Int) (xs:List V) (rs:List (Int×Int)),vs=[.ref wb,.int p]/\WebAt H wb l k xs rs/\xs.length<=60 /\
 (((0<=p/\p<k)/\∀ (r:Addr) (ns:List Int) (H':Hp),Same H H'->H r=none->H' r=some (.lst (ns.map V.int))->ns.Perm (ZgR rs p)->ns.Pairwise (· <= ·)->Q (.ref r) H')\/(¬ (0<=p/\p<k)/\E (.ref C) none H))
theorem Zl9:Zav ["web", "place"] ["web", "place"] (Zae Zje):=⟨rfl,rfl,rfl,by decide +kernel,rfl,by decide +kernel,by decide +kernel⟩
theorem ZkU {f fH C:Addr} {fd fdH:FuncData} (F:Fun K "beside" "beside" Zje f fd) (FH:Fun K "check_place" "check_place" Zjd fH fdH) (bH:Binds K fdH ["web", "place"] []) (mH:mg "check_place" = some (.ref fH))
  (GH:ZaK P w K mg base (CXr P w) 2 fH fdH ["web", "place"] (ZkR C)) (mSor:mg "sorted" = none):ZaK P w K mg base (CXr P w) 3 f fd ["web", "place"] (ZkT C):=by
 refine F.okR Zl9 (λvs H Q E h=>?_) (λcdv A outer s H vs Q E hr h=>?_)
 ·obtain ⟨_,_,_,_,_,_,rfl,_⟩:=h
  rfl
 ·obtain ⟨wb,l,k,p,xs,rs,rfl,W,hx,h⟩:=h
  have h16:(16777216:Nat)=sizeLine:=sizeLine_eq.symm
  refine ⟨_,Zad (ZaS (Zai GH (hr.mono (by decide)) rfl mH FH.kp bH .nil Zhk (Zaa (pv 0) (Zaa (pv 1) Zac))))
    (Zag (Zas (Zak (Zdz K) rfl mSor PyProof.Rows.boot_sorted (Zaa (Zbd (own:=["a", "b"]) rfl (ZaC (fr:=[("place", 1)]) [(".0", .local),("a", .local),("b", .local),("place", .cell)] rfl rfl (by decide +kernel) rfl (by decide +kernel) ⟨rfl,trivial⟩ ⟨λh=>Za2 h,λh=>Za2 h,λh=>Za2 h,λ_=>⟨_,rfl⟩,trivial⟩ ⟨⟨rfl,.inl rfl,.inl rfl⟩,trivial⟩) (Zci K (Zaw (Zcd K) (pv 0) Zaf (λ_ _=>rfl))) (λ_ _ _ _=>ZiS K (n:=2) rfl (ZaQ (Zay (i:=0) (show List.Nodup (["a", "b", "place"]:List Str) by decide +kernel) rfl (Or.inl rfl)) (ZaQ (Zay (i:=1) (show List.Nodup (["a", "b", "place"]:List Str) by decide +kernel) rfl (Or.inl rfl)) Zb9))) (λ_ _ _ _=>Zba (Zam (kIn K) (pv 2) (ZaR (Zaa (pv 0) (Zaa (pv 1) Zac))) (by with_unfolding_all rfl))) (λ_ _ _ _=>Zaq Zb4 (Zaq ZaH (pv 0) (pv 1)) (pv 2))) Zac)))),?_⟩
  rcases h with ⟨hin,q⟩ | ⟨hout,q⟩
  ·refine ⟨_,rfl,_,rfl,wb,l,k,p,rfl,W.w,.inl ⟨hin,?_⟩⟩
   refine ⟨_,rfl,wb,_,_,_,rfl,rfl,SqT.of W.w,Zaj (j:=1) rfl,l,rfl,⟨_,SqL.of W.l⟩,λD hD=>?_⟩
   refine Za1 (K:=K) (a:=l) (xs:=xs) (λi ys H2=>Same H H2/\H2 D=some (.lst ys)/\ys=(ZgR (rs.take i) p).map V.int) ⟨Same.new hD,Zab,rfl⟩ (λi ys H2 _ ⟨s2,_⟩=>SqL.of (s2 _ _ W.l)) ?_ ?_
   ·rintro i x ys H2 hxi ⟨s2,hD2,rfl⟩
    obtain ⟨t,r,rfl,et,er⟩:=W.p.get hxi
    have hi:i<xs.length:=(List.getElem?_eq_some_iff.mp hxi).1
    refine ⟨t,_,rfl,SqT.of (s2 _ _ et),rfl,_,_,rfl,_,_,rfl,rfl,⟨rfl,trivial⟩,?_⟩
    refine ⟨_,rfl,_,rfl,_,rfl,ZaG,λT hT=>⟨T,_,rfl,.inr (SqT.of Zab),rfl,rfl,_,rfl,?_⟩⟩
    show if (inV (.int p) [.int r.1,.int r.2])=true then _ else _
    have sc:=ZgS rs p i er
    have s3:Same H (upd H2 T (.tup [.int r.1,.int r.2])):=s2.put (s2.free hT)
    have hDT:D≠T:=Zah hD2 hT
    rw [Zl8]
    refine Zbn (λz=>?_) (λz=>?_)
    ·rw [if_pos z] at sc
     refine ⟨_,rfl,_,rfl,_,_,rfl,rfl,_,rfl,_,_,rfl,rfl,Zal hD2 hDT,?_,s3.put hD,Zab,by rw [sc,List.map_append];rfl⟩
     rw [List.length_map]
     have:=ZhP (rs.take i) p
     rw [List.length_take] at this
     omega
    ·rw [if_neg z,List.append_nil] at sc
     exact ⟨s3,Zal hD2 hDT,by rw [sc]⟩
   ·rintro ys H2 ⟨s2,hD2,rfl⟩
    rw [W.p.len,List.take_length] at hD2
    refine ⟨D,_,rfl,SqL.of hD2,?_,λr ns hr hp hs=>q r ns _ (s2.put (s2.free hr)) (s2.free hr) Zab hp hs⟩
    unfold ZgR
    rw [List.length_map]
    have:=List.length_filter_le (λr=>Zdc r p) rs
    have:=W.p.len
    omega
  ·exact ⟨_,rfl,_,rfl,wb,l,k,p,rfl,W.w,.inr ⟨hout,q⟩⟩
end
end M
namespace M
open PySem L2
section
variable {P:Program} {w:World} {K:PySem.W.Frag} {mg:Str->Option Value} {base:Heap}
theorem ZgT {k:Int} (h0:0<=k) (h1:k<=1000):Lt2 9000 k:=Nat.lt_of_lt_of_le (show k.natAbs<2 ^ 10 by omega) (Nat.pow_le_pow_right (by decide) (by decide))
def ZkV:Sp:=λvs H Q _=>∃ (d:Addr) (n k:Int),vs=[.ref d,.int k]/\H d=some (.lst [.int n])/\1<=k/\k<=16/\∀ (t:Addr) (p q:Int) (H':Hp),Dk H H' d->H t=none->H' t=some (.tup [.int p,.int q])->(0<=p/\p<k)->(0<=q/\q<k)->Q (.ref t) H'
theorem scEnd:Zav ["deck", "places", "one"] ["deck", "places"] (Zae Zji):=⟨rfl,rfl,rfl,by decide +kernel,rfl,by decide +kernel,by decide +kernel⟩
theorem ZkW {f fT:Addr} {fd fdT:FuncData} (F:Fun K "_law_ends" "_law_ends" Zji f fd) (FT:Fun K "_law_take" "_law_take" ZcF fT fdT) (bT:Binds K fdT ["deck", "many"] []) (mT:mg "_law_take" = some (.ref fT)) (mMax:mg "max" = none):ZaK P w K mg base CX0 2 f fd ["deck", "places"] ZkV:=by
 have GT:ZaK P w K mg base CX0 1 fT fdT ["deck", "many"] Zc3:=Zcx FT
 refine F.ok scEnd (λvs H Q E h=>?_) (λcdv A outer s H vs Q E hr h=>?_)
 ·obtain ⟨_,_,_,rfl,_⟩:=h
  rfl
 ·obtain ⟨d,n,k,rfl,hd,k0,k1,q⟩:=h
  refine ⟨_,Zad (Zat (i:=2) scEnd.nd rfl (Or.inl rfl) (Zai GT (hr.mono (by decide)) rfl mT FT.kp bT .nil ZaD (Zaa (pv 0) (Zaa (pv 1) Zac))))
    (Zag (Zas (ZaR (Zaa (pv 2) (Zaa (Zaq ZdS (Zaq ZaH (Zaq ZaH (pv 2) Zaf) (Zai GT (hr.mono (by decide)) rfl mT FT.kp bT .nil ZaD (Zaa (pv 0) (Zaa (Zak (ZcQ rfl) rfl mMax ZdJ (Zaa Zaf (Zaa (Zaq Zb4 (pv 1) Zaf) Zac))) Zac)))) (pv 1)) Zac))))),?_⟩
  refine ⟨_,rfl,_,rfl,d,n,k,rfl,hd,by omega,ZgT (by omega) (by omega),λn1 p p0 p1=>?_⟩
  have D1:=(Dk.start hd).take n1
  refine ⟨_,rfl,_,rfl,_,_,rfl,rfl,_,rfl,_,rfl,_,_,rfl,rfl,_,_,rfl,?_⟩
  have hm:0<(if k-1 > 1 then k-1 else 1)/\(if k-1 > 1 then k-1 else 1)<=1000:=by
   by_cases z:k-1 > 1
   ·rw [if_pos z];omega
   ·rw [if_neg z];omega
  refine ⟨d,n1,_,rfl,Zab,hm.1,ZgT (by omega) hm.2,λn2 r r0 r1=>?_⟩
  have D2:=D1.take n2
  refine ⟨_,_,rfl,rfl,_,rfl,_,_,rfl,rfl,by omega,ZaG,λt ht=>?_⟩
  refine q t p ((p+1+r) % k) _ (D2.new ht) (D2.free ht) Zab ⟨p0,p1⟩ ⟨Int.emod_nonneg _ (by omega),Int.emod_lt_of_pos _ (by omega)⟩
theorem ZgU (j:Int) (h0:0<=j) (h1:j<3):∃ m:Int,atI [V.int 1,V.int 3,V.int (10 ^ (20:Int).toNat)] j=some (.int m)/\0<m/\Lt2 9000 m:=by
 have h:j=0\/j=1\/j=2:=by omega
 have big:∀ m:Int,m.natAbs<2 ^ 70->Lt2 9000 m:=λm h=>Nat.lt_of_lt_of_le h (Nat.pow_le_pow_right (by decide) (by decide))
 rcases h with rfl | rfl | rfl
 ·exact ⟨1,rfl,by decide,big _ (by decide)⟩
 ·exact ⟨3,rfl,by decide,big _ (by decide)⟩
 ·exact ⟨10 ^ (20:Int).toNat,rfl,by decide,big _ (by decide)⟩
def ZkX:Sp:=λvs H Q _=>∃ (d:Addr) (n k:Int),vs=[.ref d,.int k]/\H d=some (.lst [.int n])/\1<=k/\k<=16/\∀ (t:Addr) (p q:Int) (H':Hp),Dk H H' d->H t=none->H' t=some (.tup [.int p,.int q])->¬ Ends k p q->Q (.ref t) H'
theorem scBad:Zav ["deck", "places", "one", "far", "some"] ["deck", "places"] (Zae Zjj):=⟨rfl,rfl,rfl,by decide +kernel,rfl,by decide +kernel,by decide +kernel⟩
theorem ZgV {n:Nat} (h:n<1024):Lt2 9000 (n:Int):=Nat.lt_of_lt_of_le (show ((n:Int)).natAbs<2 ^ 10 by omega) (Nat.pow_le_pow_right (by decide) (by decide))
theorem ZkY {f fT:Addr} {fd fdT:FuncData} (F:Fun K "_law_bad_ends" "_law_bad_ends" Zjj f fd) (FT:Fun K "_law_take" "_law_take" ZcF fT fdT) (bT:Binds K fdT ["deck", "many"] []) (mT:mg "_law_take" = some (.ref fT)):ZaK P w K mg base CX0 2 f fd ["deck", "places"] ZkX:=by
 have GT:ZaK P w K mg base CX0 1 fT fdT ["deck", "many"] Zc3:=Zcx FT
 refine F.ok scBad (λvs H Q E h=>?_) (λcdv A outer s H vs Q E hr h=>?_)
 ·obtain ⟨_,_,_,rfl,_⟩:=h
  rfl
 ·obtain ⟨d,n,k,rfl,hd,k0,k1,q⟩:=h
  have h16:(16777216:Nat)=sizeLine:=sizeLine_eq.symm
  refine ⟨_,Zad (Zat (i:=2) scBad.nd rfl (Or.inl rfl) (Zai GT (hr.mono (by decide)) rfl mT FT.kp bT .nil ZaD (Zaa (pv 0) (Zaa (pv 1) Zac))))
    (Zad (Zat (i:=3) scBad.nd rfl (Or.inl rfl) (Zai GT (hr.mono (by decide)) rfl mT FT.kp bT .nil ZaD (Zaa (pv 0) (Zaa (Zaw (Zbf K) (ZaE (Zaa Zaf (Zaa Zaf (Zaa (Zaq Zb5 Zaf Zaf) Zac)))) (Zai GT (hr.mono (by decide)) rfl mT FT.kp bT .nil ZaD (Zaa (pv 0) (Zaa Zaf Zac))) (λ_ _=>rfl)) Zac))))
    (Zad (Zat (i:=4) scBad.nd rfl (Or.inl rfl) (ZaE (Zaa (ZaR (Zaa (pv 2) (Zaa (pv 2) Zac))) (Zaa (ZaR (Zaa (Zaq Zb4 (ZbL ZaU Zaf) (pv 3)) (Zaa (pv 2) Zac))) (Zaa (ZaR (Zaa (pv 2) (Zaa (Zaq Zb4 (ZbL ZaU Zaf) (pv 3)) Zac))) (Zaa (ZaR (Zaa (Zaq ZaH (pv 1) (pv 3)) (Zaa (pv 2) Zac))) (Zaa (ZaR (Zaa (pv 2) (Zaa (Zaq ZaH (pv 1) (pv 3)) Zac))) Zac)))))))
    (Zag (Zas (Zaw (Zbf K) (Zaq Zb6 (pv 4) (ZaE (Zaa (ZaR (Zaa (Zaq ZaH (pv 1) (pv 3)) (Zaa (Zaq ZaH (pv 1) (pv 3)) Zac))) Zac))) (Zai GT (hr.mono (by decide)) rfl mT FT.kp bT .nil ZaD (Zaa (pv 0) (Zaa Zaf Zac))) (λ_ _=>rfl)))))),?_⟩
  refine ⟨_,rfl,_,rfl,d,n,k,rfl,hd,by omega,ZgT (by omega) (by omega),λn1 p p0 p1=>?_⟩
  have D1:=(Dk.start hd).take n1
  have e1:upd H d (.lst [.int n1]) d=some (.lst [.int n1]):=Zab
  generalize upd H d (.lst [.int n1])=H1 at D1 e1 ⊢
  refine ⟨_,rfl,_,_,rfl,rfl,⟨by decide,by decide,by decide⟩,(by show 3<=sizeLine;decide),λfl hfl=>?_⟩
  have D4:=D1.new (o:=.lst [.int 1,.int 3,.int (10 ^ (20:Int).toNat)]) hfl
  have hdf:d≠fl:=D1.ne hfl
  refine ⟨_,rfl,d,n1,3,rfl,Zal e1 hdf,by decide,ZgV (n:=3) (by decide),λn4 jI j0 j1=>?_⟩
  obtain ⟨fm,ef,f0,f1⟩:=ZgU jI j0 j1
  refine ⟨fl,_,_,_,rfl,rfl,SqL.of (Zal Zab (Ne.symm hdf)),ef,?_⟩
  have D5:=D4.take n4
  refine ⟨d,n4,fm,rfl,Zab,f0,f1,λn5 far f00 f01=>?_⟩
  have D6:=D5.take n5
  have e6:upd (upd (upd H1 fl (.lst [.int 1,.int 3,.int (10 ^ (20:Int).toNat)])) d (.lst [.int n4])) d (.lst [.int n5]) d=some (.lst [.int n5]):=Zab
  generalize upd (upd (upd H1 fl (.lst [.int 1,.int 3,.int (10 ^ (20:Int).toNat)])) d (.lst [.int n4])) d (.lst [.int n5])=H6 at D6 e6 ⊢
  clear D1 D4 D5 e1 ef
  refine ⟨_,rfl,_,rfl,ZaG,λt1 ht1=>?_⟩
  have s1:Same H6 (upd H6 t1 (.tup [.int p,.int p])):=Same.new ht1
  have q1:upd H6 t1 (.tup [.int p,.int p]) t1=some (.tup [.int p,.int p]):=Zab
  generalize upd H6 t1 (.tup [.int p,.int p])=H7 at s1 q1 ⊢
  refine ⟨_,rfl,_,rfl,_,_,rfl,rfl,_,rfl,ZaG,λt2 ht2=>?_⟩
  have s2:Same H7 (upd H7 t2 (.tup [.int (-1-far),.int p])):=Same.new ht2
  have q2:upd H7 t2 (.tup [.int (-1-far),.int p]) t2=some (.tup [.int (-1-far),.int p]):=Zab
  generalize upd H7 t2 (.tup [.int (-1-far),.int p])=H8 at s2 q2 ⊢
  refine ⟨_,rfl,_,rfl,_,rfl,_,_,rfl,rfl,ZaG,λt3 ht3=>?_⟩
  have s3:Same H8 (upd H8 t3 (.tup [.int p,.int (-1-far)])):=Same.new ht3
  have q3:upd H8 t3 (.tup [.int p,.int (-1-far)]) t3=some (.tup [.int p,.int (-1-far)]):=Zab
  generalize upd H8 t3 (.tup [.int p,.int (-1-far)])=H9 at s3 q3 ⊢
  refine ⟨_,rfl,_,rfl,_,_,rfl,rfl,_,rfl,ZaG,λt4 ht4=>?_⟩
  have s4:Same H9 (upd H9 t4 (.tup [.int (k+far),.int p])):=Same.new ht4
  have q4:upd H9 t4 (.tup [.int (k+far),.int p]) t4=some (.tup [.int (k+far),.int p]):=Zab
  generalize upd H9 t4 (.tup [.int (k+far),.int p])=H10 at s4 q4 ⊢
  refine ⟨_,rfl,_,rfl,_,rfl,_,_,rfl,rfl,ZaG,λt5 ht5=>?_⟩
  have s5:Same H10 (upd H10 t5 (.tup [.int p,.int (k+far)])):=Same.new ht5
  have q5:upd H10 t5 (.tup [.int p,.int (k+far)]) t5=some (.tup [.int p,.int (k+far)]):=Zab
  generalize upd H10 t5 (.tup [.int p,.int (k+far)])=H11 at s5 q5 ⊢
  refine ⟨(by show 5<=sizeLine;decide),λsl hsl=>?_⟩
  have s6:Same H11 (upd H11 sl (.lst [.ref t1,.ref t2,.ref t3,.ref t4,.ref t5])):=Same.new hsl
  have q6:upd H11 sl (.lst [.ref t1,.ref t2,.ref t3,.ref t4,.ref t5]) sl=some (.lst [.ref t1,.ref t2,.ref t3,.ref t4,.ref t5]):=Zab
  generalize upd H11 sl (.lst [.ref t1,.ref t2,.ref t3,.ref t4,.ref t5])=H12 at s6 q6 ⊢
  refine ⟨_,rfl,_,rfl,_,rfl,_,_,rfl,rfl,_,rfl,_,rfl,_,_,rfl,rfl,ZaG,λt6 ht6=>?_⟩
  have s7:Same H12 (upd H12 t6 (.tup [.int (k+far),.int (k+far)])):=Same.new ht6
  have q7:upd H12 t6 (.tup [.int (k+far),.int (k+far)]) t6=some (.tup [.int (k+far),.int (k+far)]):=Zab
  generalize upd H12 t6 (.tup [.int (k+far),.int (k+far)])=H13 at s7 q7 ⊢
  refine ⟨(by show 1<=sizeLine;decide),λl6 hl6=>?_⟩
  have s8:Same H13 (upd H13 l6 (.lst [.ref t6])):=Same.new hl6
  refine ⟨sl,l6,_,_,rfl,rfl,s8 _ _ (s7 _ _ q6),Zab,(by show 6<=sizeLine;decide),λal hal=>?_⟩
  have s9:=s8.put (o:=.lst ([.ref t1,.ref t2,.ref t3,.ref t4,.ref t5]++[.ref t6])) (s8.free hal)
  have q9:upd (upd H13 l6 (.lst [.ref t6])) al (.lst ([.ref t1,.ref t2,.ref t3,.ref t4,.ref t5]++[.ref t6])) al=some (.lst [.ref t1,.ref t2,.ref t3,.ref t4,.ref t5,.ref t6]):=Zab
  generalize upd (upd H13 l6 (.lst [.ref t6])) al (.lst ([.ref t1,.ref t2,.ref t3,.ref t4,.ref t5]++[.ref t6]))=H14 at s9 q9 ⊢
  have S14:=(((((s1.trans s2).trans s3).trans s4).trans s5).trans s6).trans (s7.trans s9)
  have D14:=D6.grow S14
  have hald:al≠d:=λz=>by rw [z,S14 _ _ e6] at q9;cases q9
  refine ⟨_,rfl,d,n5,6,rfl,S14 _ _ e6,by decide,ZgV (n:=6) (by decide),λn6 j h0 h1=>?_⟩
  have D15:=D14.take n6
  have pick:∀ (t:Addr) (x y:Int),H6 t=none->H14 t=some (.tup [.int x,.int y])->¬ Ends k x y->Q (.ref t) (upd H14 d (.lst [.int n6])):=λt x y hn e hb=>by
   refine q t x y _ D15 (D6.free hn) (Zal e λz=>?_) hb
   rw [z,S14 _ _ e6] at e;cases e
  have f1':H6 t1=none:=ht1
  have f2':H6 t2=none:=s1.free ht2
  have f3':H6 t3=none:=(s1.trans s2).free ht3
  have f4':H6 t4=none:=((s1.trans s2).trans s3).free ht4
  have f5':H6 t5=none:=(((s1.trans s2).trans s3).trans s4).free ht5
  have f6':H6 t6=none:=(((((s1.trans s2).trans s3).trans s4).trans s5).trans s6).free ht6
  have up:=s7.trans s9
  have hj:j=0\/j=1\/j=2\/j=3\/j=4\/j=5:=by omega
  have eal:upd H14 d (.lst [.int n6]) al=some (.lst [.ref t1,.ref t2,.ref t3,.ref t4,.ref t5,.ref t6]):=Zal q9 hald
  rcases hj with rfl | rfl | rfl | rfl | rfl | rfl
  ·exact ⟨al,_,_,_,rfl,rfl,SqL.of eal,Zaj (j:=0) rfl,pick t1 p p f1' (up _ _ (s6 _ _ (s5 _ _ (s4 _ _ (s3 _ _ (s2 _ _ q1)))))) λz=>z.2.2 rfl⟩
  ·exact ⟨al,_,_,_,rfl,rfl,SqL.of eal,Zaj (j:=1) rfl,pick t2 _ p f2' (up _ _ (s6 _ _ (s5 _ _ (s4 _ _ (s3 _ _ q2))))) λz=>by have:=z.1;omega⟩
  ·exact ⟨al,_,_,_,rfl,rfl,SqL.of eal,Zaj (j:=2) rfl,pick t3 p _ f3' (up _ _ (s6 _ _ (s5 _ _ (s4 _ _ q3)))) λz=>by have:=z.2.1;omega⟩
  ·exact ⟨al,_,_,_,rfl,rfl,SqL.of eal,Zaj (j:=3) rfl,pick t4 _ p f4' (up _ _ (s6 _ _ (s5 _ _ q4))) λz=>by have:=z.1;omega⟩
  ·exact ⟨al,_,_,_,rfl,rfl,SqL.of eal,Zaj (j:=4) rfl,pick t5 p _ f5' (up _ _ (s6 _ _ q5)) λz=>by have:=z.2.1;omega⟩
  ·exact ⟨al,_,_,_,rfl,rfl,SqL.of eal,Zaj (j:=5) rfl,pick t6 _ _ f6' (s9 _ _ q7) λz=>by have:=z.1;omega⟩
end
end M
namespace M
open PySem L2
def Zb3 (p q:Int):Int×Int:=((if q<p then q else p),(if q > p then q else p))
theorem ZcO {ls:List (Int×Int)} (hlt:∀ r∈ls,r.1<r.2) (x y:Int):Zb3 x y∈ls↔Adj ls x y:=ZkF hlt x y
def hit (p:Int) (t:Int×Int):Nat:=(if t.1=p then 1 else 0)+(if t.2=p then 1 else 0)
theorem ZkZ (p x y:Int):hit p (Zb3 x y)=hit p (x,y):=by
 unfold hit Zb3
 dsimp only
 by_cases h1:y<x
 ·rw [if_pos h1,if_neg (show ¬ y > x by omega)]
  exact Nat.add_comm _ _
 ·rw [if_neg h1]
  by_cases h2:y > x
  ·rw [if_pos h2]
  ·rw [if_neg h2,show x=y by omega]
def ZhQ (p:Int) (ls:List (Int×Int)):Nat:=(ls.map (hit p)).sum
theorem ZbT {p:Int} {ls ms:List (Int×Int)} (h:ls.Perm ms):ZhQ p ls=ZhQ p ms:=(h.map (hit p)).sum_nat
theorem Zek (p:Int) (t:Int×Int) (ls:List (Int×Int)):ZhQ p (t::ls)=hit p t+ZhQ p ls:=by unfold ZhQ;rw [List.map_cons,List.sum_cons]
def Zbk (ns:List Int):List (Int×Int):=(ns.zip (ns.drop 1)).map λt=>Zb3 t.1 t.2
theorem Zc6 (a b:Int) (tl:List Int):Zbk (a::b::tl)=Zb3 a b::Zbk (b::tl):=rfl
def Zbq (p q:Int):Nat:=if p=q then 1 else 0
theorem Zbz (p:Int):∀ (tl:List Int) (a:Int),ZhQ p (Zbk (a::tl))+Zbq a p+Zbq ((a::tl).getD tl.length 0) p=2 * (a::tl).count p
 | [],a=>by
  show 0+Zbq a p+Zbq a p=2 * List.count p [a]
  unfold Zbq
  by_cases h:a=p
  ·rw [if_pos h,h,List.count_singleton_self]
  ·rw [if_neg h,List.count_eq_zero_of_not_mem (λz=>h (List.mem_singleton.mp z).symm)]
 | b::tl,a=>by
  have ih:=Zbz p tl b
  rw [Zc6,Zek,ZkZ]
  show hit p (a,b)+ZhQ p (Zbk (b::tl))+Zbq a p+Zbq ((b::tl).getD tl.length 0) p=_
  rw [List.count_cons]
  have e1:hit p (a,b)=Zbq a p+Zbq b p:=rfl
  have e2:(if (a == p)=true then 1 else 0)=Zbq a p:=by
   unfold Zbq
   by_cases h:a=p
   ·rw [if_pos h,if_pos (by rw [h];exact beq_self_eq_true p)]
   ·rw [if_neg h,if_neg (by rw [beq_iff_eq];exact h)]
  rw [e1,e2]
  omega
inductive Wk:List (Int×Int)->Int->List Int->List (Int×Int)->Prop
 | stop {ls:List (Int×Int)} {p:Int}:(∀ q,¬ Adj ls p q)->Wk ls p [] ls
 | go {ls rest:List (Int×Int)} {p q:Int} {row:List Int}:Adj ls p q->(∀ q',Adj ls p q'->q<=q')->Wk (ls.erase (Zb3 p q)) q row rest->Wk ls p (q::row) rest
theorem Wk.det {ls e1:List (Int×Int)} {p:Int} {r1:List Int} (h:Wk ls p r1 e1):∀ {r2:List Int} {e2:List (Int×Int)},Wk ls p r2 e2->r1=r2:=by
 induction h with
 | stop n=>
  intro r2 e2 k
  cases k with
  | stop _=>rfl
  | go a _ _=>exact absurd a (n _)
 | go a l w ih=>
  intro r2 e2 k
  cases k with
  | stop n=>exact absurd a (n _)
  | go a' l' w'=>
   have e:=Int.le_antisymm (l _ a') (l' _ a)
   subst e
   rw [ih w']
theorem ZhR {ls:List (Int×Int)} {t:Int×Int} (hlt:∀ r∈ls,r.1<r.2):∀ r∈ls.erase t,r.1<r.2:=λr hr=>hlt r (List.mem_of_mem_erase hr)
theorem Wk.perm {ls rest:List (Int×Int)} {p:Int} {row:List Int} (h:Wk ls p row rest) (hlt:∀ r∈ls,r.1<r.2):ls.Perm (Zbk (p::row)++rest):=by
 induction h with
 | stop _=>exact List.Perm.refl _
 | @go ls rest p q row a _ _ ih=>
  rw [Zc6]
  exact (List.perm_cons_erase ((ZcO hlt _ _).mpr a)).trans ((ih (ZhR hlt)).cons _)
theorem Zcy (a:Int) (tl:List Int):(Zbk (a::tl)).length=tl.length:=by
 unfold Zbk
 rw [List.length_map,List.length_zip,List.length_drop,List.length_cons]
 omega
theorem Wk.len {ls rest:List (Int×Int)} {p:Int} {row:List Int} (h:Wk ls p row rest) (hlt:∀ r∈ls,r.1<r.2):ls.length=row.length+rest.length:=by
 rw [(h.perm hlt).length_eq,List.length_append,Zcy]
def Zbr (rs:List (Int×Int)) (ks:List Int):Prop:=ks.Pairwise (· < ·)/\∀ x∈ks,0<=x/\x<(rs.length:Int)
def road (rs:List (Int×Int)) (x:Int):Int×Int:=rs.getD x.toNat (0,0)
def cho (rs:List (Int×Int)) (ks:List Int) (i:Nat):List (Int×Int):=((List.range i).filter λ(j:Nat)=>decide ((j:Int)∈ks)).map λ(j:Nat)=>rs.getD j (0,0)
theorem Zfh (rs:List (Int×Int)) (ks:List Int) (i:Nat):cho rs ks (i+1)=cho rs ks i++(if (i:Int)∈ks then [rs.getD i (0,0)] else []):=by
 unfold cho
 rw [List.range_succ,List.filter_append,List.map_append]
 by_cases h:(i:Int)∈ks
 ·rw [if_pos h,List.filter_cons,if_pos (decide_eq_true h)];rfl
 ·rw [if_neg h,List.filter_cons,if_neg (by rw [decide_eq_false h];decide)];rfl
theorem Zc7 {rs:List (Int×Int)} {ks:List Int} {t:Int×Int} (h:t∈cho rs ks rs.length):t∈rs:=by
 unfold cho at h
 obtain ⟨j,hj,rfl⟩:=List.mem_map.mp h
 exact Zcq (List.mem_range.mp (List.mem_filter.mp hj).1)
theorem ZeK (rs:List (Int×Int)) (ks:List Int) (i:Nat):(cho rs ks i).length<=i:=by
 unfold cho
 rw [List.length_map]
 exact Nat.le_trans (List.length_filter_le _ _) (Nat.le_of_eq List.length_range)
theorem Ziq {xs ys:List Int} (hx:xs.Pairwise (· < ·)) (hy:ys.Pairwise (· < ·)) (h:∀ z,z∈xs↔z∈ys):xs=ys:=by
 induction xs generalizing ys with
 | nil=>
  cases ys with
  | nil=>rfl
  | cons y ys=>exact absurd ((h y).mpr (List.mem_cons_self ..)) List.not_mem_nil
 | cons x xs ih=>
  cases ys with
  | nil=>exact absurd ((h x).mp (List.mem_cons_self ..)) List.not_mem_nil
  | cons y ys=>
   have hx':=List.pairwise_cons.mp hx
   have hy':=List.pairwise_cons.mp hy
   have e:x=y:=by
    rcases List.mem_cons.mp ((h x).mp (List.mem_cons_self ..)) with z | z
    ·exact z
    ·rcases List.mem_cons.mp ((h y).mpr (List.mem_cons_self ..)) with u | u
     ·exact u.symm
     ·have:=hy'.1 _ z
      have:=hx'.1 _ u
      omega
   subst e
   rw [ih hx'.2 hy'.2 λz=>⟨λhz=>?_,λhz=>?_⟩]
   ·rcases List.mem_cons.mp ((h z).mp (List.mem_cons_of_mem _ hz)) with u | u
    ·have:=hx'.1 _ hz;omega
    ·exact u
   ·rcases List.mem_cons.mp ((h z).mpr (List.mem_cons_of_mem _ hz)) with u | u
    ·have:=hy'.1 _ hz;omega
    ·exact u
theorem Zc8 {rs:List (Int×Int)} {ks:List Int} (h:Zbr rs ks):cho rs ks rs.length=ks.map (road rs):=by
 have e:((List.range rs.length).filter λ(j:Nat)=>decide ((j:Int)∈ks)).map (λ(j:Nat)=>(j:Int))=ks:=by
  refine Ziq ?_ h.1 λz=>?_
  ·rw [List.pairwise_map]
   exact (List.pairwise_lt_range.filter _).imp λhlt=>by omega
  ·rw [List.mem_map]
   constructor
   ·rintro ⟨j,hj,rfl⟩
    exact of_decide_eq_true (List.mem_filter.mp hj).2
   ·intro hz
    obtain ⟨z0,z1⟩:=h.2 z hz
    exact ⟨z.toNat,List.mem_filter.mpr ⟨List.mem_range.mpr (by omega),decide_eq_true (by rw [Int.toNat_of_nonneg z0];exact hz)⟩,Int.toNat_of_nonneg z0⟩
 unfold cho
 conv=>rhs;rw [<-e]
 rw [List.map_map]
 rfl
theorem ZhS {k:Int} {rs:List (Int×Int)} (g:ZaA k rs) {t:Int×Int} (h:t∈rs) (p:Int):hit p t=if t.1=p\/t.2=p then 1 else 0:=by
 have:=g.2.2.2.1 t h
 unfold hit
 by_cases h1:t.1=p
 ·rw [if_pos h1,if_neg (by omega),if_pos (.inl h1)]
 ·rw [if_neg h1]
  by_cases h2:t.2=p
  ·rw [if_pos h2,if_pos (.inr h2)]
  ·rw [if_neg h2,if_neg (λz=>z.elim h1 h2)]
def degK (rs:List (Int×Int)) (ks:List Int) (p:Int):Nat:=(ks.filter λx=>decide ((road rs x).1=p\/(road rs x).2=p)).length
theorem Zcr {rs:List (Int×Int)} {x:Int} (h:0<=x/\x<(rs.length:Int)):road rs x∈rs:=Zcq (by omega)
theorem ZbA {k:Int} {rs:List (Int×Int)} (g:ZaA k rs) (p:Int):∀ {ks:List Int},(∀ x∈ks,0<=x/\x<(rs.length:Int))->degK rs ks p=ZhQ p (ks.map (road rs))
 | [],_=>rfl
 | x::ks,h=>by
  have ih:=ZbA g p (ks:=ks) λy hy=>h y (List.mem_cons_of_mem _ hy)
  have hx:=ZhS g (Zcr (h x (List.mem_cons_self ..))) p
  rw [List.map_cons,Zek,<-ih,hx]
  unfold degK
  rw [List.filter_cons]
  by_cases z:(road rs x).1=p\/(road rs x).2=p
  ·rw [if_pos (decide_eq_true z),if_pos z,List.length_cons,Nat.add_comm]
  ·rw [if_neg (by rw [decide_eq_false z];decide),if_neg z,Nat.zero_add]
theorem Zjz {rs:List (Int×Int)} {p q:Int} {x:Int} (m:Mt rs p q x.toNat) (hlt:(road rs x).1<(road rs x).2):road rs x=Zb3 p q:=by
 unfold road at hlt ⊢
 unfold Zb3
 rcases m with e | e
 ·rw [e] at hlt ⊢
  dsimp only at hlt
  rw [if_neg (by omega),if_pos (by omega)]
 ·rw [e] at hlt ⊢
  dsimp only at hlt
  rw [if_pos (by omega),if_neg (by omega)]
theorem Zcs {k:Int} {rs:List (Int×Int)} (g:ZaA k rs) {t:Int×Int} (a:Adj rs t.1 t.2):(0<=Zen rs t/\Zen rs t<(rs.length:Int))/\road rs (Zen rs t)=Zb3 t.1 t.2:=by
 obtain ⟨j,hj,m⟩:=Zin a
 rw [ZgP g hj m]
 have hr:0<=(j:Int)/\(j:Int)<(rs.length:Int):=by omega
 refine ⟨hr,Zjz ?_ (g.2.2.2.1 _ (Zcr hr)).2.1⟩
 rw [Int.toNat_natCast]
 exact m
theorem Zfi {k:Int} {rs:List (Int×Int)} (g:ZaA k rs) {x y:Int} (hx:0<=x/\x<(rs.length:Int)) (hy:0<=y/\y<(rs.length:Int)) (e:road rs x=road rs y):x=y:=by
 have:=Zc4 g.2.2.2.2 (i:=x.toNat) (j:=y.toNat) (by omega) (by omega) e
 omega
theorem Zel {k:Int} {rs:List (Int×Int)} (g:ZaA k rs) {xs ys:List Int} (hx:∀ x∈xs,0<=x/\x<(rs.length:Int)) (hy:∀ y∈ys,0<=y/\y<(rs.length:Int)) (p:(xs.map (road rs)).Perm (ys.map (road rs))):xs.Perm ys:=by
 induction xs generalizing ys with
 | nil=>
  have:=p.length_eq
  rw [List.length_map,List.length_map] at this
  cases ys with
  | nil=>exact .nil
  | cons y ys=>simp at this
 | cons x xs ih=>
  rw [List.map_cons] at p
  have hm:road rs x∈ys.map (road rs):=p.mem_iff.mp (List.mem_cons_self ..)
  obtain ⟨y,hym,e⟩:=List.mem_map.mp hm
  have exy:=Zfi g (hx x (List.mem_cons_self ..)) (hy y hym) e.symm
  subst exy
  have p2:=List.perm_cons_erase hym
  have p3:(xs.map (road rs)).Perm ((ys.erase x).map (road rs)):=by
   have:=p.trans (p2.map (road rs))
   rw [List.map_cons] at this
   exact this.cons_inv
  exact ((ih (λz hz=>hx z (List.mem_cons_of_mem _ hz)) (λz hz=>hy z (List.mem_of_mem_erase hz)) p3).cons x).trans p2.symm
theorem Zb0 {k:Int} {rs:List (Int×Int)} (g:ZaA k rs):∀ {ts:List (Int×Int)},(∀ t∈ts,Adj rs t.1 t.2)->(ts.map (Zen rs)).map (road rs)=ts.map λt=>Zb3 t.1 t.2
 | [],_=>rfl
 | t::ts,h=>by
  rw [List.map_cons,List.map_cons,List.map_cons,(Zcs g (h t (List.mem_cons_self ..))).2,Zb0 g λu hu=>h u (List.mem_cons_of_mem _ hu)]
theorem ZfH {ms:List Int} (h:ms.Pairwise (· <= ·)) (nd:ms.Nodup):ms.Pairwise (· < ·):=(h.and nd).imp λh=>by have:=h.1;have:=h.2;omega
theorem ZdL {k:Int} {rs:List (Int×Int)} (g:ZaA k rs) {ns ms:List Int} {c:Bool} (o:ZfM rs ns c) (hc:c=true->3<=ns.length) (pm:ms.Perm ((ZaB ns c).map (Zen rs))) (so:ms.Pairwise (· <= ·)):Zbr rs ms:=by
 have nd:((ZaB ns c).map (Zen rs)).Nodup:=by
  unfold List.Nodup
  rw [List.pairwise_map]
  refine (ZfF o.2 hc).imp_of_mem λ{t u} ht hu h e=>h ?_
  have rt:=Zcs g (o.1 t ht)
  have ru:=Zcs g (o.1 u hu)
  have e2:Zb3 t.1 t.2=Zb3 u.1 u.2:=by rw [<-rt.2,<-ru.2,e]
  unfold Zb3 at e2
  have e3:=Prod.mk.inj e2
  obtain ⟨t1,t2⟩:=t
  obtain ⟨u1,u2⟩:=u
  dsimp only at e3 ⊢
  rw [Prod.mk.injEq,Prod.mk.injEq]
  split at e3 <;> split at e3 <;> split at e3 <;> split at e3 <;> omega
 refine ⟨ZfH so (pm.nodup_iff.mpr nd),λx hx=>?_⟩
 obtain ⟨t,ht,rfl⟩:=List.mem_map.mp (pm.mem_iff.mp hx)
 exact (Zcs g (o.1 t ht)).1
end M
namespace M
open PySem L2
theorem ZgW {k:Int} {rs:List (Int×Int)} (g:ZaA k rs) (ks:List Int):∀ r∈cho rs ks rs.length,r.1<r.2:=λr hr=>(g.2.2.2.1 r (Zc7 hr)).2.1
theorem ZdM {ls rs:List (Int×Int)} (h:∀ r∈ls,r∈rs) {p q:Int} (a:Adj ls p q):Adj rs p q:=a.elim (λz=>.inl (h _ z)) λz=>.inr (h _ z)
theorem ZjA {ls:List (Int×Int)} {p q:Int} (a:Adj ls p q):Adj ls q p:=a.elim .inr .inl
theorem Wk.met {ls rest:List (Int×Int)} {p:Int} {row:List Int} (h:Wk ls p row rest):∀ x∈row,∃ y,Adj ls y x:=by
 induction h with
 | stop _=>exact λx hx=>absurd hx List.not_mem_nil
 | go a _ _ ih=>
  intro x hx
  rcases List.mem_cons.mp hx with rfl | hx
  ·exact ⟨_,a⟩
  ·obtain ⟨y,hy⟩:=ih x hx
   exact ⟨y,ZdM (λr hr=>List.mem_of_mem_erase hr) hy⟩
theorem Zbl (ns:List Int):Zbk ns=(ZaB ns false).map λt=>Zb3 t.1 t.2:=by
 unfold Zbk ZaB
 rw [if_neg Bool.false_ne_true,List.append_nil]
def ZhT (rs:List (Int×Int)) (ks:List Int) (k one other:Int):Prop:=∀ p,0<=p->p<k->if p=one\/p=other then degK rs ks p=1 else degK rs ks p=0\/degK rs ks p=2
theorem Zem {k:Int} {rs ls:List (Int×Int)} {ns:List Int} {c:Bool} (g:ZaA k rs) (hs:∀ r∈ls,r∈rs) (h:ls.Perm ((ZaB ns c).map λt=>Zb3 t.1 t.2)):∀ t∈ZaB ns c,Adj rs t.1 t.2:=λt ht=>
 (ZcO (λr hr=>(g.2.2.2.1 r hr).2.1) _ _).mp (hs _ (h.mem_iff.mpr (List.mem_map.mpr ⟨t,ht,rfl⟩)))
theorem ZgX {k:Int} {rs:List (Int×Int)} {ns ks ms:List Int} {c:Bool} (g:ZaA k rs) (S:Zbr rs ks) (o:ZfM rs ns c) (hc:c=true->3<=ns.length) (h:(ks.map (road rs)).Perm ((ZaB ns c).map λt=>Zb3 t.1 t.2)) (pm:ms.Perm ((ZaB ns c).map (Zen rs))) (so:ms.Pairwise (· <= ·)):ms=ks:=by
 have T:=ZdL g o hc pm so
 have p1:(ms.map (road rs)).Perm (ks.map (road rs)):=by
  have:=pm.map (road rs)
  rw [Zb0 g o.1] at this
  exact this.trans h.symm
 have p2:=Zel g T.2 S.2 p1
 exact Ziq T.1 S.1 λz=>p2.mem_iff
theorem Zfj (a:Int) (tl:List Int):(a::tl).getD tl.length 0∈a::tl:=ZbH (by rw [List.length_cons];omega)
theorem Zfk {k:Int} {rs rest:List (Int×Int)} {ks tl:List Int} {one other:Int} (g:ZaA k rs) (E:Ends k one other) (w:Wk (cho rs ks rs.length) one tl rest) (S:Zbr rs ks) (D:ZhT rs ks k one other) (hl:tl.length=ks.length) :
  Way rs one other (one::tl)/\∀ ms:List Int,ms.Perm ((ZaB (one::tl) false).map (Zen rs))->ms.Pairwise (· <= ·)->ms=ks:=by
 have hlt:=ZgW g ks
 have hsub:∀ r∈cho rs ks rs.length,r∈rs:=λr hr=>Zc7 hr
 have e:=Zc8 S
 have ll:=w.len hlt
 rw [e,List.length_map] at ll
 have hr0:rest=[]:=List.length_eq_zero_iff.mp (by omega)
 have pm:=w.perm hlt
 rw [hr0,List.append_nil,Zbl] at pm
 have dg:∀ p,degK rs ks p+Zbq one p+Zbq ((one::tl).getD tl.length 0) p=2 * (one::tl).count p:=λp=>by
  rw [ZbA g p S.2,<-e,ZbT pm,<-Zbl]
  exact Zbz p tl one
 have rng:∀ x∈one::tl,0<=x/\x<k:=λx hx=>by
  rcases List.mem_cons.mp hx with rfl | hx
  ·exact E.1
  ·obtain ⟨y,hy⟩:=w.met x hx
   exact Zfe g (ZdM hsub hy)
 have hL:=Zfj one tl
 generalize hLe:(one::tl).getD tl.length 0=L at dg hL
 have rL:=rng L hL
 have s1:∀ p,Zbq p p=1:=λp=>if_pos rfl
 have s0:∀ p q,p≠q->Zbq p q=0:=λp q h=>if_neg h
 have h1:L≠one:=λz=>by
  have:=dg one
  have d1:=D one E.1.1 E.1.2
  rw [if_pos (.inl rfl)] at d1
  rw [z,s1,d1] at this
  omega
 have h2:L=other:=by
  have:=dg L
  have d1:=D L rL.1 rL.2
  rw [s1,s0 _ _ (Ne.symm h1)] at this
  by_cases z:L=one\/L=other
  ·exact z.elim (λy=>absurd y h1) id
  ·rw [if_neg z] at d1
   omega
 subst h2
 have nd:(one::tl).Nodup:=List.nodup_iff_count.mpr λp=>by
  by_cases hp:p∈one::tl
  ·have r:=rng p hp
   have:=dg p
   have d1:=D p r.1 r.2
   by_cases z:p=one\/p=L
   ·rw [if_pos z] at d1
    rcases z with z | z
    ·rw [z,s1,s0 _ _ h1] at this
     rw [z] at d1 ⊢
     omega
    ·rw [z,s1,s0 _ _ (Ne.symm h1)] at this
     rw [z] at d1 ⊢
     omega
   ·rw [if_neg z] at d1
    rw [s0 _ _ (λy=>z (.inl y.symm)),s0 _ _ (λy=>z (.inr y.symm))] at this
    omega
  ·rw [List.count_eq_zero.mpr hp]
   exact Nat.zero_le _
 have o:ZfM rs (one::tl) false:=⟨Zem g hsub pm,nd⟩
 refine ⟨⟨List.cons_ne_nil _ _,rfl,?_,o⟩,λms p so=>ZgX g S o (λz=>absurd z Bool.false_ne_true) (e▸pm) p so⟩
 exact hLe
theorem ZhU {k:Int} {rs:List (Int×Int)} {ks tl ms:List Int} {one other:Int} (g:ZaA k rs) (E:Ends k one other) (W:Way rs one other (one::tl)) (pm:ms.Perm ((ZaB (one::tl) false).map (Zen rs))) (so:ms.Pairwise (· <= ·)) (e:ms=ks) :
  Zbr rs ks/\ZhT rs ks k one other/\tl.length=ks.length:=by
 subst e
 have o:=W.2.2.2
 have S:=ZdL g o (λz=>absurd z Bool.false_ne_true) pm so
 have lo:(one::tl).getD tl.length 0=other:=W.2.2.1
 have hp:(ms.map (road rs)).Perm (Zbk (one::tl)):=by
  have:=pm.map (road rs)
  rw [Zb0 g o.1,<-Zbl] at this
  exact this
 refine ⟨S,λp p0 p1=>?_,?_⟩
 ·have dg:=Zbz p tl one
  rw [lo,<-ZbT hp,<-ZbA g p S.2,o.2.count] at dg
  have s1:∀ p,Zbq p p=1:=λp=>if_pos rfl
  have s0:∀ p q,p≠q->Zbq p q=0:=λp q h=>if_neg h
  have hne:=E.2.2
  by_cases z:p=one\/p=other
  ·rw [if_pos z]
   rcases z with z | z
   ·rw [z,s1,s0 _ _ (Ne.symm hne),if_pos (List.mem_cons_self ..)] at dg
    rw [z]
    omega
   ·rw [z,s1,s0 _ _ hne,if_pos (by rw [<-lo];exact Zfj one tl)] at dg
    rw [z]
    omega
  ·rw [if_neg z]
   rw [s0 _ _ (λy=>z (.inl y.symm)),s0 _ _ (λy=>z (.inr y.symm))] at dg
   split at dg <;> omega
 ·rw [pm.length_eq,List.length_map,<-Zcy one tl,Zbl,List.length_map]
theorem Zfl:∀ (tl:List Int) (a x:Int),(a::(tl++[x])).zip (tl++[x])=(a::tl).zip tl++[((a::tl).getD tl.length 0,x)]
 | [],a,x=>rfl
 | b::tl,a,x=>by
  have ih:=Zfl tl b x
  show (a,b)::(b::(tl++[x])).zip (tl++[x])=_
  rw [ih]
  rfl
theorem ZcC (s:Int) (tl:List Int):(ZaB (s::tl) true).map (λt=>Zb3 t.1 t.2)=Zbk (s::(tl++[s])):=by
 unfold Zbk ZaB
 rw [if_pos rfl]
 show _=((s::(tl++[s])).zip (tl++[s])).map _
 rw [Zfl]
 rfl
theorem Zc9 (p s:Int) (tl:List Int):ZhQ p (Zbk (s::(tl++[s])))=2 * (s::tl).count p:=by
 have:=Zbz p (tl++[s]) s
 have e:(s::(tl++[s])).getD (tl++[s]).length 0=s:=by
  rw [List.length_append,List.length_singleton,List.getD_eq_getElem?_getD,List.getElem?_cons_succ,List.getElem?_append_right (Nat.le_refl _),Nat.sub_self]
  rfl
 have c:(s::(tl++[s])).count p=(s::tl).count p+Zbq s p:=by
  rw [show s::(tl++[s])=(s::tl)++[s] from rfl,List.count_append]
  congr 1
  unfold Zbq
  by_cases h:s=p
  ·rw [if_pos h,h,List.count_singleton_self]
  ·rw [if_neg h,List.count_eq_zero_of_not_mem (λz=>h (List.mem_singleton.mp z).symm)]
 rw [e,c] at this
 omega
def ZhV (rs:List (Int×Int)) (ks:List Int) (k:Int):Prop:=∀ p,0<=p->p<k->degK rs ks p=0\/degK rs ks p=2
def Begins (ls:List (Int×Int)) (s:Int):Prop:=(∀ t∈ls,s<=t.1)/\∃ t∈ls,t.1=s
theorem Begins.one {ls:List (Int×Int)} {s t:Int} (a:Begins ls s) (b:Begins ls t):s=t:=by
 obtain ⟨u,hu,e⟩:=a.2
 obtain ⟨v,hv,f⟩:=b.2
 have:=a.1 v hv
 have:=b.1 u hu
 omega
theorem ZhW {k:Int} {rs rest:List (Int×Int)} {ks tl:List Int} {s:Int} (g:ZaA k rs) (w:Wk (cho rs ks rs.length) s tl rest) (B:Begins (cho rs ks rs.length) s) (S:Zbr rs ks) (h3:3<=ks.length) (D:ZhV rs ks k) (hl:tl.length=ks.length) :
  Zln rs (s::tl).dropLast/\∀ ms:List Int,ms.Perm ((ZaB (s::tl).dropLast true).map (Zen rs))->ms.Pairwise (· <= ·)->ms=ks:=by
 have hlt:=ZgW g ks
 have hsub:∀ r∈cho rs ks rs.length,r∈rs:=λr hr=>Zc7 hr
 have e:=Zc8 S
 have ll:=w.len hlt
 rw [e,List.length_map] at ll
 have hr0:rest=[]:=List.length_eq_zero_iff.mp (by omega)
 have pm:=w.perm hlt
 rw [hr0,List.append_nil] at pm
 have rS:0<=s/\s<k:=by
  obtain ⟨t,ht,et⟩:=B.2
  have:=g.2.2.2.1 t (hsub t ht)
  omega
 obtain ⟨tl',x,rfl⟩:∃ tl' x,tl=tl'++[x]:=⟨tl.dropLast,tl.getLast (λz=>by rw [z] at hl;simp at hl;omega),(List.dropLast_concat_getLast _).symm⟩
 have ex:x=s:=by
  have:=Zbz s (tl'++[x]) s
  have e2:(s::(tl'++[x])).getD (tl'++[x]).length 0=x:=by
   rw [List.length_append,List.length_singleton,List.getD_eq_getElem?_getD,List.getElem?_cons_succ,List.getElem?_append_right (Nat.le_refl _),Nat.sub_self]
   rfl
  rw [<-ZbT pm,e,<-ZbA g s S.2,e2,show Zbq s s=1 from if_pos rfl] at this
  by_cases z:x=s
  ·exact z
  ·rw [show Zbq x s=0 from if_neg z] at this
   have:=D s rS.1 rS.2
   omega
 subst ex
 have rng:∀ y∈x::tl',(0<=y/\y<k)/\x<=y:=λy hy=>by
  rcases List.mem_cons.mp hy with rfl | hy
  ·exact ⟨rS,Int.le_refl _⟩
  ·obtain ⟨z,hz⟩:=w.met y (List.mem_append_left _ hy)
   refine ⟨Zfe g (ZdM hsub hz),?_⟩
   rcases hz with hz | hz
   ·have:=B.1 _ hz
    have:=hlt _ hz
    dsimp only at *
    omega
   ·exact B.1 _ hz
 have nd:(x::tl').Nodup:=List.nodup_iff_count.mpr λp=>by
  by_cases hp:p∈x::tl'
  ·have r:=(rng p hp).1
   have:=Zc9 p x tl'
   rw [<-ZbT pm,e,<-ZbA g p S.2] at this
   have:=D p r.1 r.2
   omega
  ·rw [List.count_eq_zero.mpr hp]
   exact Nat.zero_le _
 have ed:(x::(tl'++[x])).dropLast=x::tl':=by
  rw [show x::(tl'++[x])=(x::tl')++[x] from rfl,List.dropLast_concat]
 rw [ed]
 rw [List.length_append,List.length_singleton] at hl
 rw [<-ZcC] at pm
 have o:ZfM rs (x::tl') true:=⟨Zem g hsub pm,nd⟩
 have h3':3<=(x::tl').length:=by rw [List.length_cons];omega
 refine ⟨⟨h3',λy hy=>(rng y hy).2,?_,o⟩,λms p so=>ZgX g S o (λ_=>h3') (e▸pm) p so⟩
 have hcl:Adj (cho rs ks rs.length) x ((x::tl').getD ((x::tl').length-1) 0):=by
  refine ZjA ((ZcO hlt _ _).mp (pm.mem_iff.mpr (List.mem_map.mpr ⟨((x::tl').getD ((x::tl').length-1) 0,x),?_,rfl⟩)))
  unfold ZaB
  rw [if_pos rfl]
  exact List.mem_append_right _ (List.mem_singleton.mpr rfl)
 cases tl' with
 | nil=>exact absurd h3' (by simp)
 | cons q t2=>
  have w':Wk (cho rs ks rs.length) x (q::(t2++[x])) rest:=w
  cases w' with
  | go a least _=>
   have:=least _ hcl
   have ne:=ZbI nd (i:=1) (j:=(x::q::t2).length-1) (by omega) (by omega) (by omega)
   have e1:(x::q::t2).getD 1 0=q:=rfl
   rw [e1] at ne ⊢
   omega
theorem ZhX {k:Int} {rs:List (Int×Int)} {ks ns ms:List Int} (g:ZaA k rs) (R:Zln rs ns) (pm:ms.Perm ((ZaB ns true).map (Zen rs))) (so:ms.Pairwise (· <= ·)) (e:ms=ks) :
  Zbr rs ks/\3<=ks.length/\ZhV rs ks k/\ns.length=ks.length:=by
 subst e
 have o:=R.2.2.2
 have S:=ZdL g o (λ_=>R.1) pm so
 obtain ⟨s,tl,rfl⟩:∃ s tl,ns=s::tl:=by
  cases ns with
  | nil=>exact absurd R.1 (by simp)
  | cons s tl=>exact ⟨s,tl,rfl⟩
 have hp:(ms.map (road rs)).Perm (Zbk (s::(tl++[s]))):=by
  have:=pm.map (road rs)
  rw [Zb0 g o.1,ZcC] at this
  exact this
 have hl:(s::tl).length=ms.length:=by
  have:=hp.length_eq
  rw [List.length_map,Zcy,List.length_append,List.length_singleton] at this
  rw [List.length_cons]
  omega
 refine ⟨S,by have:=R.1;omega,λp _ _=>?_,hl⟩
 rw [ZbA g p S.2,ZbT hp,Zc9,o.2.count]
 split <;> omega
end M
namespace M
open PySem L2
section
variable {P:Program} {w:World} {K:PySem.W.Frag} {mg:Str->Option Value} {base:Heap}
def ZjB:Sp:=λvs H Q _=>∃ (wb l kl:Addr) (k:Int) (xs:List V) (rs:List (Int×Int)) (ks:List Int),vs=[.ref wb,.ref kl]/\WebAt H wb l k xs rs/\xs.length<=30/\H kl=some (.lst (ks.map V.int)) /\
 ∀ (r:Addr) (ys:List V) (H':Hp),Same H H'->H r=none->H' r=some (.lst ys)->Prs H' ys (cho rs ks rs.length)->Q (.ref r) H'
theorem Zma:Zav ["web", "roads"] ["web", "roads"] (Zae Zid):=⟨rfl,rfl,rfl,by decide +kernel,rfl,by decide +kernel,by decide +kernel⟩
theorem Zir {f:Addr} {fd:FuncData} (F:Fun K "chosen_roads" "chosen_roads" Zid f fd) (mEnum:mg "enumerate" = none):ZaK P w K mg base CX0 1 f fd ["web", "roads"] ZjB:=by
 refine F.ok Zma (λvs H Q E h=>?_) (λcdv A outer s H vs Q E hr h=>?_)
 ·obtain ⟨_,_,_,_,_,_,_,rfl,_⟩:=h
  rfl
 ·obtain ⟨wb,l,kl,k,xs,rs,ks,rfl,W,hx,hk,q⟩:=h
  have h16:(16777216:Nat)=sizeLine:=sizeLine_eq.symm
  refine ⟨_,Zag (Zas (Zbd (own:=["number", "road"]) rfl (ZaC (fr:=[("roads", 1)]) [(".0", .local),("number", .local),("road", .local),("roads", .cell)] rfl rfl (by decide +kernel) rfl (by decide +kernel) ⟨rfl,trivial⟩ ⟨λh=>Za2 h,λh=>Za2 h,λh=>Za2 h,λ_=>⟨_,rfl⟩,trivial⟩ ⟨⟨rfl,.inl rfl,.inl rfl⟩,trivial⟩) (Zki K rfl mEnum (Zaa (Zaw (Zcd K) (pv 0) Zaf (λ_ _=>rfl)) Zac)) (λ_ _ _ _=>ZiS K (n:=2) rfl (ZaQ (Zay (i:=0) (show List.Nodup (["number", "road", "roads"]:List Str) by decide +kernel) rfl (Or.inl rfl)) (ZaQ (Zay (i:=1) (show List.Nodup (["number", "road", "roads"]:List Str) by decide +kernel) rfl (Or.inl rfl)) Zb9))) (λ_ _ _ _=>Zba (Zam (kIn K) (pv 0) (pv 2) (by with_unfolding_all rfl))) (λ_ _ _ _=>pv 1))),?_⟩
  refine ⟨_,rfl,wb,_,_,_,rfl,rfl,SqT.of W.w,Zaj (j:=1) rfl,l,xs,rfl,SqL.of W.l,λD hD=>?_⟩
  refine Zgi (K:=K) (a:=l) (xs:=xs) (λi ys H2=>Same H H2/\H2 D=some (.lst ys)/\Prs H2 ys (cho rs ks i)) ⟨Same.new hD,Zab,.nil⟩ (λi ys H2 _ ⟨s2,_⟩=>SqL.of (s2 _ _ W.l)) ?_ ?_
  ·rintro i x ys H2 T hxi ⟨s2,hD2,pr⟩ hT
   obtain ⟨t,r,rfl,et,er⟩:=W.p.get hxi
   have hi:i<xs.length:=(List.getElem?_eq_some_iff.mp hxi).1
   have s23:Same H2 (upd H2 T (.tup [.int (i:Nat),.ref t])):=Same.new hT
   have s3:Same H (upd H2 T (.tup [.int (i:Nat),.ref t])):=s2.put (s2.free hT)
   have hDT:D≠T:=Zah hD2 hT
   have eg:rs.getD i (0,0)=r:=by rw [List.getD_eq_getElem?_getD,er];rfl
   refine ⟨T,_,rfl,SqT.of Zab,rfl,_,_,rfl,_,_,rfl,rfl,⟨rfl,trivial⟩,?_⟩
   refine ⟨_,rfl,_,rfl,kl,_,rfl,.inl (SqL.of (s3 _ _ hk)),rfl,ZbS _,_,rfl,?_⟩
   show if (inV (.int (i:Nat)) (ks.map V.int))=true then _ else _
   rw [ZbZ]
   have hcl:=ZeK rs ks i
   have hpl:=pr.len
   refine Zbn (λz=>?_) (λz=>?_)
   ·refine ⟨_,rfl,Zal hD2 hDT,by omega,s3.put hD,Zab,?_⟩
    rw [Zfh,if_pos (of_decide_eq_true z),eg]
    exact Prs.keep (Prs.snoc (pr.same s23) (s3 _ _ et)) (ZaM (Zal hD2 hDT))
   ·refine ⟨s3,Zal hD2 hDT,?_⟩
    rw [Zfh,if_neg (λy=>z (decide_eq_true y)),List.append_nil]
    exact pr.same s23
  ·rintro ys H2 ⟨s2,hD2,pr⟩
   rw [W.p.len] at pr
   exact q D ys H2 s2 hD hD2 pr
theorem mem_bes {ls:List (Int×Int)} {p x:Int}:x∈ZgR ls p↔Adj ls p x:=by
 unfold ZgR Adj
 rw [List.mem_map]
 constructor
 ·rintro ⟨r,hr,rfl⟩
  obtain ⟨h1,h2⟩:=List.mem_filter.mp hr
  obtain ⟨a,b⟩:=r
  rcases of_decide_eq_true h2 with e | e
  ·left
   have:a=p:=e
   subst this
   rw [show a+b-a=b by omega]
   exact h1
  ·right
   have:b=p:=e
   subst this
   rw [show a+b-b=a by omega]
   exact h1
 ·rintro (h | h)
  ·exact ⟨_,List.mem_filter.mpr ⟨h,decide_eq_true (.inl rfl)⟩,by dsimp only;omega⟩
  ·exact ⟨_,List.mem_filter.mpr ⟨h,decide_eq_true (.inr rfl)⟩,by dsimp only;omega⟩
def ZjC:Sp:=λvs H Q _=>∃ (wb l kl:Addr) (k p:Int) (xs:List V) (rs:List (Int×Int)) (ks:List Int),vs=[.ref wb,.int p,.ref kl]/\WebAt H wb l k xs rs/\ZaA k rs/\H kl=some (.lst (ks.map V.int))/\(0<=p/\p<k) /\
 ∀ (r:Addr) (tl:List Int) (rest:List (Int×Int)) (H':Hp),Same H H'->H r=none->H' r=some (.lst ((p::tl).map V.int))->Wk (cho rs ks rs.length) p tl rest->Q (.ref r) H'
theorem scWal:Zav ["web", "start", "roads", "left", "places", "ahead"] ["web", "start", "roads"] (Zae ZhI):=⟨rfl,rfl,rfl,by decide +kernel,rfl,by decide +kernel,by decide +kernel⟩
theorem Zk0 {f fC fZ C:Addr} {fd fdC fdZ:FuncData} (F:Fun K "walk" "walk" ZhI f fd) (FC:Fun K "chosen_roads" "chosen_roads" Zid fC fdC) (bC:Binds K fdC ["web", "roads"] []) (mC:mg "chosen_roads" = some (.ref fC))
  (FZ:Fun K "beside" "beside" Zje fZ fdZ) (bZ:Binds K fdZ ["web", "place"] []) (mZ:mg "beside" = some (.ref fZ)) (GZ:ZaK P w K mg base (CXr P w) 3 fZ fdZ ["web", "place"] (ZkT C)) (mEnum:mg "enumerate" = none) (mMin:mg "min" = none) (mMax:mg "max" = none):ZaK P w K mg base CX0 4 f fd ["web", "start", "roads"] ZjC:=by
 have GC:ZaK P w K mg base CX0 1 fC fdC ["web", "roads"] ZjB:=Zir FC mEnum
 refine F.ok scWal (λvs H Q E h=>?_) (λcdv A outer s H vs Q E hr h=>?_)
 ·obtain ⟨_,_,_,_,_,_,_,_,rfl,_⟩:=h
  rfl
 ·obtain ⟨wb,l,kl,k,p,xs,rs,ks,rfl,W,g,hk,hp,q⟩:=h
  have h16:(16777216:Nat)=sizeLine:=sizeLine_eq.symm
  have hu5:(A.deeper (PyProof.Rows.envOfC "walk" (Zae ZhI) s.heap.objs.size f cdv)).units+65<cLine:=by have:=hr.un;omega
  have hx:xs.length<=30:=by rw [W.p.len];exact g.2.2.1
  refine ⟨_,Zad (Zat (i:=3) scWal.nd rfl (Or.inl rfl) (Zai GC (hr.mono (by decide)) rfl mC FC.kp bC .nil ZaD (Zaa (pv 0) (Zaa (pv 2) Zac))))
    (Zad (Zat (i:=4) scWal.nd rfl (Or.inl rfl) (ZaE (Zaa (pv 1) Zac)))
    (Zad (Zat (i:=5) scWal.nd rfl (Or.inl rfl) (Zai GZ (hr.mono (by decide)) rfl mZ FZ.kp bZ .nil Zkg (Zaa (ZaR (Zaa (Zaw (Zcd K) (pv 0) Zaf (λ_ _=>rfl)) (Zaa (pv 3) Zac))) (Zaa (pv 1) Zac))))
    (Zad (ZeP PassesOwn.never (ZeR (pv 5) (λ_=>rfl))
    (Zad (ZaS (ZbM PySem.F.plainAttrs_list PySem.F.slot_list_remove PySem.F.type_list_remove (Zkv K hu5) (pv 3) (Zaa (ZaR (Zaa (Zak (ZdU rfl) rfl mMin ZeZ (Zaa (Zaw (Zbf K) (pv 4) (ZbL ZaU Zaf) (λ_ _=>rfl)) (Zaa (Zaw (Zbf K) (pv 5) Zaf (λ_ _=>rfl)) Zac))) (Zaa (Zak (ZcQ rfl) rfl mMax ZdJ (Zaa (Zaw (Zbf K) (pv 4) (ZbL ZaU Zaf) (λ_ _=>rfl)) (Zaa (Zaw (Zbf K) (pv 5) Zaf (λ_ _=>rfl)) Zac))) Zac))) Zac)))
    (Zad (ZaS (ZbM PySem.F.plainAttrs_list PySem.F.slot_list_append PySem.F.type_list_append ZaO (pv 4) (Zaa (Zaw (Zbf K) (pv 5) Zaf (λ_ _=>rfl)) Zac)))
    (Zag (Zat (i:=5) scWal.nd rfl (Or.inl rfl) (Zai GZ (hr.mono (by decide)) rfl mZ FZ.kp bZ .nil Zkg (Zaa (ZaR (Zaa (Zaw (Zcd K) (pv 0) Zaf (λ_ _=>rfl)) (Zaa (pv 3) Zac))) (Zaa (Zaw (Zbf K) (pv 5) Zaf (λ_ _=>rfl)) Zac))))))))
    (Zag (Zas (pv 4)))))),?_⟩
  refine ⟨_,rfl,_,rfl,wb,l,kl,k,xs,rs,ks,rfl,W,hx,hk,λla ys H1 s1 hla ela pla=>?_⟩
  refine ⟨_,rfl,(by show 1<=sizeLine;omega),λpl hpl=>?_⟩
  have s2:Same H1 (upd H1 pl (.lst [.int p])):=Same.new hpl
  have epl:upd H1 pl (.lst [.int p]) pl=some (.lst ([p].map V.int)):=Zab
  have hne:la≠pl:=Zah ela hpl
  have hHpl:H pl=none:=s1.free hpl
  generalize upd H1 pl (.lst [.int p])=H2 at s2 epl ⊢
  have W2:=(W.same s1).same s2
  refine ⟨_,rfl,wb,_,_,_,rfl,rfl,SqT.of W2.w,Zaj (j:=0) rfl,_,rfl,ZaG,λw1 hw1=>?_⟩
  have s3:Same H2 (upd H2 w1 (.tup [.int k,.ref la])):=Same.new hw1
  have ew1:upd H2 w1 (.tup [.int k,.ref la]) w1=some (.tup [.int k,.ref la]):=Zab
  generalize upd H2 w1 (.tup [.int k,.ref la])=H3 at s3 ew1 ⊢
  have S3:=(s1.trans s2).trans s3
  have la3:H3 la=some (.lst ys):=s3 _ _ (s2 _ _ ela)
  have pr3:Prs H3 ys (cho rs ks rs.length):=(pla.same s2).same s3
  have hcl:(cho rs ks rs.length).length<=30:=Nat.le_trans (ZeK rs ks _) g.2.2.1
  have hyl:=pr3.len
  refine ⟨_,rfl,w1,la,k,p,ys,_,rfl,⟨ew1,la3,pr3⟩,by omega,.inl ⟨hp,λar ns H4 s4 har ear perm so=>?_⟩⟩
  have hal:ar≠la:=λz=>by rw [z,la3] at har;cases har
  have hap:ar≠pl:=λz=>by rw [z,s3 _ _ epl] at har;cases har
  refine ⟨λm σ' H'=>∃ (ar:Addr) (xl:List V) (ls:List (Int×Int)) (front:List Int) (c:Int) (pre ns:List Int),σ'=[some (.ref wb),some (.int p),some (.ref kl),some (.ref la),some (.ref pl),some (.ref ar)]/\Same H H'/\H' la=some (.lst xl)/\Prs H' xl ls/\H' pl=some (.lst ((front++[c]).map V.int))/\H' ar=some (.lst (ns.map V.int))/\ns.Perm (ZgR ls c)/\ns.Pairwise (· <= ·)/\front++[c]=p::pre/\(0<=c/\c<k)/\(∀ r∈ls,r∈rs)/\pre.length+ls.length<=30 /\
   (∀ tl rest,Wk ls c tl rest->Wk (cho rs ks rs.length) p (pre++tl) rest)/\ar≠la/\ar≠pl/\m=ls.length,
   ⟨_,ar,ys,_,[],p,[],ns,rfl,S3.trans s4,s4 _ _ la3,pr3.same s4,s4 _ _ (s3 _ _ epl),ear,perm,so,rfl,hp,λr hr=>Zc7 hr,by rw [List.length_nil];omega,λtl rest h=>h,hal,hap,rfl⟩,?_⟩
  clear ear perm so hal hap har s4 pr3 la3 S3 s3 ew1 W2 epl s2 pla ela
  rintro m σ' H' ⟨ar,xl,ls,front,c,pre,ns,rfl,s4,ela,pr,epl,ear,perm,so,efp,hc,sub,hlen,cont,hal,hap,rfl⟩
  have hltl:∀ r∈ls,r.1<r.2:=λr hr=>(g.2.2.2.1 r (sub r hr)).2.1
  cases ns with
  | nil=>
   refine ⟨_,rfl,false,.inl ⟨_,SqL.of ear,rfl⟩,ZbC ?_⟩
   have no:∀ x,¬ Adj ls c x:=λx a=>by
    have:=perm.mem_iff.mpr (mem_bes.mpr a)
    cases this
   have wk:=cont [] ls (.stop no)
   rw [List.append_nil] at wk
   rw [efp] at epl
   exact ⟨_,rfl,q pl pre ls H' s4 hHpl epl wk⟩
  | cons x ns=>
   refine ⟨_,rfl,true,.inl ⟨_,SqL.of ear,rfl⟩,Zcu ?_⟩
   refine ⟨_,λ_ _ h=>h,?_⟩
   have ax:Adj ls c x:=mem_bes.mp (perm.mem_iff.mp (List.mem_cons_self ..))
   have least:∀ y,Adj ls c y->x<=y:=λy a=>by
    rcases List.mem_cons.mp (perm.mem_iff.mpr (mem_bes.mpr a)) with e | e
    ·omega
    ·exact (List.pairwise_cons.mp so).1 y e
   have mem:Zb3 c x∈ls:=(ZcO hltl _ _).mpr ax
   have rx:=Zfe g (ZdM sub ax)
   have hlast:atI ((front++[c]).map V.int) (-1)=some (.int c):=by
    rw [ZbG (by simp)]
    congr 2
    rw [List.length_append,List.length_singleton,Nat.add_sub_cancel,List.getD_eq_getElem?_getD,List.getElem?_append_right (Nat.le_refl _),Nat.sub_self]
    rfl
   have hfst:atI ((x::ns).map V.int) 0=some (.int x):=Zaj (j:=0) rfl
   have hfl:(front++[c]).length<=31:=by rw [efp,List.length_cons];omega
   refine ⟨_,rfl,.inl ⟨rfl,_,SqL.of ela⟩,_,rfl,_,rfl,pl,_,_,_,rfl,rfl,SqL.of epl,hlast,_,rfl,ar,_,_,_,rfl,rfl,SqL.of ear,hfst,_,_,rfl,?_⟩
   refine ⟨_,rfl,_,rfl,pl,_,_,_,rfl,rfl,SqL.of epl,hlast,_,rfl,ar,_,_,_,rfl,rfl,SqL.of ear,hfst,_,_,rfl,ZaG,λt ht=>?_⟩
   have s5:Same H' (upd H' t (.tup [.int (Zb3 c x).1,.int (Zb3 c x).2])):=Same.new ht
   have et:upd H' t (.tup [.int (Zb3 c x).1,.int (Zb3 c x).2]) t=some (.tup [.int (Zb3 c x).1,.int (Zb3 c x).2]):=Zab
   dsimp only [ZiG]
   refine Znv (H:=upd H' t (.tup [.int (Zb3 c x).1,.int (Zb3 c x).2])) (t:=Zb3 c x) (s5 _ _ ela) (pr.same s5) et mem λxl' hxl pr'=>?_
   generalize upd H' t (.tup [.int (Zb3 c x).1,.int (Zb3 c x).2])=H5 at s5 et pr' ⊢
   have ela5:=s5 _ _ ela
   have k6:=ZaM (o:=.lst xl') ela5
   have s6:Same H (upd H5 la (.lst xl')):=(s4.trans s5).put hla
   have ela6:upd H5 la (.lst xl') la=some (.lst xl'):=Zab
   have epl6:upd H5 la (.lst xl') pl=some (.lst ((front++[c]).map V.int)):=Zal (s5 _ _ epl) (Ne.symm hne)
   have ear6:upd H5 la (.lst xl') ar=some (.lst ((x::ns).map V.int)):=Zal (s5 _ _ ear) hal
   have pr6:=pr'.keep k6
   generalize upd H5 la (.lst xl')=H6 at k6 s6 ela6 epl6 ear6 pr6 ⊢
   refine ⟨_,rfl,.inl ⟨rfl,_,SqL.of epl6⟩,_,rfl,ar,_,_,_,rfl,rfl,SqL.of ear6,hfst,pl,_,_,rfl,rfl,epl6,by rw [List.length_map];omega,?_⟩
   have k7:=ZaM (o:=.lst ((front++[c]).map V.int++[.int x])) epl6
   have s7:Same H (upd H6 pl (.lst ((front++[c]).map V.int++[.int x]))):=s6.put hHpl
   have ela7:upd H6 pl (.lst ((front++[c]).map V.int++[.int x])) la=some (.lst xl'):=Zal ela6 hne
   have epl7:upd H6 pl (.lst ((front++[c]).map V.int++[.int x])) pl=some (.lst (((front++[c])++[x]).map V.int)):=by rw [Zab,List.map_append (l₁:=front++[c])];rfl
   have ear7:upd H6 pl (.lst ((front++[c]).map V.int++[.int x])) ar=some (.lst ((x::ns).map V.int)):=Zal ear6 hap
   have pr7:=pr6.keep k7
   generalize upd H6 pl (.lst ((front++[c]).map V.int++[.int x]))=H7 at k7 s7 ela7 epl7 ear7 pr7 ⊢
   have W7:=W.same s7
   refine ⟨_,rfl,wb,_,_,_,rfl,rfl,SqT.of W7.w,Zaj (j:=0) rfl,_,rfl,ZaG,λw2 hw2=>?_⟩
   have s8:Same H7 (upd H7 w2 (.tup [.int k,.ref la])):=Same.new hw2
   have ew2:upd H7 w2 (.tup [.int k,.ref la]) w2=some (.tup [.int k,.ref la]):=Zab
   generalize upd H7 w2 (.tup [.int k,.ref la])=H8 at s8 ew2 ⊢
   have hll:(ls.erase (Zb3 c x)).length+1=ls.length:=by
    rw [List.length_erase_of_mem mem]
    have:=List.length_pos_of_mem mem
    omega
   have hpx:=pr7.len
   have ela8:=s8 _ _ ela7
   have epl8:=s8 _ _ epl7
   refine ⟨_,rfl,ar,_,_,_,rfl,rfl,SqL.of (s8 _ _ ear7),hfst,w2,la,k,x,xl',_,rfl,⟨ew2,ela8,pr7.same s8⟩,by omega,.inl ⟨rx,λar' ns' H9 s9 har' ear' perm' so'=>?_⟩⟩
   have hal':ar'≠la:=λz=>by rw [z,ela8] at har';cases har'
   have hap':ar'≠pl:=λz=>by rw [z,epl8] at har';cases har'
   have efp':(front++[c])++[x]=p::(pre++[x]):=by rw [efp];rfl
   refine ⟨_,?_,ar',xl',_,front++[c],x,pre++[x],ns',rfl,(s7.trans s8).trans s9,s9 _ _ ela8,(pr7.same s8).same s9,s9 _ _ epl8,ear',perm',so',efp',rx,λr hr=>sub r (List.mem_of_mem_erase hr),?_,λtl rest h=>?_,hal',hap',rfl⟩
   ·omega
   ·rw [List.length_append,List.length_singleton]
    omega
   ·have:=cont (x::tl) rest (.go ax least h)
    rw [List.append_assoc]
    exact this
end
end M
namespace M
open PySem L2
section
variable {P:Program} {w:World} {K:PySem.W.Frag} {mg:Str->Option Value} {base:Heap}
def ZgY (rs:List (Int×Int)) (ks:List Int) (k p q:Int) (tl:List Int):Prop:=Zbr rs ks/\ZhT rs ks k p q/\tl.length=ks.length
def Zk1 (C NW:Addr):Sp:=λvs H Q E=>∃ (wb l kl:Addr) (k p q:Int) (xs:List V) (rs:List (Int×Int)) (ks:List Int),vs=[.ref wb,.int p,.int q,.ref kl]/\WebAt H wb l k xs rs/\ZaA k rs/\H kl=some (.lst (ks.map V.int)) /\
 ((Ends k p q/\∀ (tl:List Int) (rest:List (Int×Int)),Wk (cho rs ks rs.length) p tl rest->(ZgY rs ks k p q tl->∀ (r:Addr) (H':Hp),Same H H'->H r=none->H' r=some (.lst ((p::tl).map V.int))->Q (.ref r) H')/\(¬ ZgY rs ks k p q tl->∀ H':Hp,Same H H'->E (.ref NW) none H'))\/(¬ Ends k p q/\E (.ref C) none H))
theorem scWof:Zav ["web", "one", "other", "roads", "places"] ["web", "one", "other", "roads"] (Zae Zie):=⟨rfl,rfl,rfl,by decide +kernel,rfl,by decide +kernel,by decide +kernel⟩
theorem Wk.few {k:Int} {rs rest:List (Int×Int)} {ks tl:List Int} {p:Int} (g:ZaA k rs) (w:Wk (cho rs ks rs.length) p tl rest):tl.length<=30:=by
 have h1:=w.len (ZgW g ks)
 have h2:=ZeK rs ks rs.length
 have h3:=g.2.2.1
 omega
theorem Zk2 {f fH fK fY fR C NW:Addr} {dV:Value} {fd fdH fdK fdY fdR:FuncData} (F:Fun K "way_of" "way_of" Zie f fd) (FH:Fun K "check_ends" "check_ends" Zib fH fdH) (bH:Binds K fdH ["web", "one", "other"] []) (mH:mg "check_ends" = some (.ref fH)) (GH:ZaK P w K mg base (CXr P w) 2 fH fdH ["web", "one", "other"] (Zjv C))
  (FK:Fun K "walk" "walk" ZhI fK fdK) (bK:Binds K fdK ["web", "start", "roads"] []) (mK:mg "walk" = some (.ref fK)) (GK:ZaK P w K mg base CX0 4 fK fdK ["web", "start", "roads"] ZjC)
  (FY:Fun K "is_way" "is_way" Zjf fY fdY) (bY:Binds K fdY ["web", "one", "other", "places"] []) (mY:mg "is_way" = some (.ref fY)) (GY:ZaK P w K mg base (CXr P w) 3 fY fdY ["web", "one", "other", "places"] (ZkI C))
  (FR:FunD K "roads_of" "roads_of" ZeG dV fR fdR) (bR2:Binds K fdR ["web", "places", "closed"] [.bool false]) (mR:mg "roads_of" = some (.ref fR)) (GR:ZaK P w K mg base CX0 2 fR fdR ["web", "places", "closed"] Zjw)
  (mV:mg "NoWay" = some (.ref NW)) (xV:ExcC K NW):ZaK P w K mg base (CXr P w) 5 f fd ["web", "one", "other", "roads"] (Zk1 C NW):=by
 refine F.okR scWof (λvs H Q E h=>?_) (λcdv A outer s H vs Q E hr h=>?_)
 ·obtain ⟨_,_,_,_,_,_,_,_,_,rfl,_⟩:=h
  rfl
 ·obtain ⟨wb,l,kl,k,p,q',xs,rs,ks,rfl,W,g,hk,h⟩:=h
  have hu:(A.deeper (PyProof.Rows.envOfC "way_of" (Zae Zie) s.heap.objs.size f cdv)).units+64<cLine:=by have:=hr.un;omega
  have hx:xs.length<=30:=by rw [W.p.len];exact g.2.2.1
  refine ⟨_,Zad (ZaS (Zai GH (hr.mono (by decide)) rfl mH FH.kp bH .nil Zhk (Zaa (pv 0) (Zaa (pv 1) (Zaa (pv 2) Zac)))))
    (Zad (Zat (i:=4) scWof.nd rfl (Or.inl rfl) (Zai GK (hr.mono (by decide)) rfl mK FK.kp bK .nil ZaD (Zaa (pv 0) (Zaa (pv 1) (Zaa (pv 3) Zac)))))
    (Zad (ZaP (PW.pt (Zb2 (Zbu (ZaZ (Zai GY (hr.mono (by decide)) rfl mY FY.kp bY .nil Zhk (Zaa (pv 0) (Zaa (pv 1) (Zaa (pv 2) (Zaa (pv 4) Zac))))))) (ZbJ (Zam (Zg6 K hu) (Zai (dvs:=[V.bl false]) GR (hr.mono (by decide)) rfl mR FR.kp bR2 (.cons rfl .nil) ZaD (Zaa (pv 0) (Zaa (pv 4) Zac))) (pv 3) (Zau _))))) (Zag (ZcI (E:=E) rfl Zbh rfl mV xV (Zaa Zbt Zac))) Zax)
    (Zag (Zas (pv 4))))),?_⟩
  rcases h with ⟨en,h⟩ | ⟨en,e⟩
  ·refine ⟨_,rfl,_,rfl,_,rfl,wb,l,k,p,q',rfl,W.w,.inl ⟨en,?_⟩⟩
   refine ⟨_,rfl,_,rfl,_,rfl,wb,l,kl,k,p,xs,rs,ks,rfl,W,g,hk,en.1,λr tl rest H1 s1 hr0 er wk=>?_⟩
   obtain ⟨hyes,hno⟩:=h tl rest wk
   have few:=wk.few g
   have W1:=W.same s1
   have hrl:(p::tl).length<=31:=by rw [List.length_cons];omega
   refine ⟨_,rfl,_,rfl,_,rfl,_,rfl,wb,l,r,k,p,q',xs,rs,p::tl,rfl,W1,hx,er,by omega,.inl ⟨en,λb H2 s2 hb=>?_⟩⟩
   refine ⟨_,rfl,?_⟩
   have raise:∀ H3:Hp,Same H H3->¬ ZgY rs ks k p q' tl->E (.ref NW) none H3:=λH3 s3 n=>hno n H3 s3
   cases b with
   | false=>
    refine Zcu (Zcu ⟨by decide,raise _ (s1.trans s2) λz=>?_⟩)
    have:=(Zfk g en wk z.1 z.2.1 z.2.2).1
    exact absurd (hb.mpr this) Bool.false_ne_true
   | true=>
    refine ZbC ?_
    have way:=hb.mp rfl
    refine ⟨_,rfl,_,rfl,wb,l,r,k,xs,rs,p::tl,false,rfl,W1.same s2,g,s2 _ _ er,by omega,λz=>(by cases z),way.2.2.2.1,λre ms H3 s3 hre ere pm so=>?_⟩
    refine ⟨_,rfl,.list (ms.map PyData.int),.list (ks.map PyData.int),.lst (SqL.of ere) (ZaF _),.lst (SqL.of (s3 _ _ (s2 _ _ (s1 _ _ hk)))) (ZaF _),Zaz _,Zaz _,_,rfl,?_⟩
    rw [Zbb]
    have S3:=(s1.trans s2).trans s3
    by_cases e:ms=ks
    ·rw [decide_eq_true e]
     refine ZbC ?_
     exact ⟨_,rfl,hyes (ZhU g en way pm so e) r H3 S3 hr0 (s3 _ _ (s2 _ _ er))⟩
    ·rw [decide_eq_false e]
     refine Zcu ⟨by decide,raise _ S3 λz=>e ?_⟩
     exact (Zfk g en wk z.1 z.2.1 z.2.2).2 ms pm so
  ·exact ⟨_,rfl,_,rfl,_,rfl,wb,l,k,p,q',rfl,W.w,.inr ⟨en,e⟩⟩
def ZfI (rs:List (Int×Int)) (ks:List Int) (k:Int) (tl:List Int):Prop:=Zbr rs ks/\3<=ks.length/\ZhV rs ks k/\tl.length=ks.length
def Zk3 (NW:Addr):Sp:=λvs H Q E=>∃ (wb l kl:Addr) (k:Int) (xs:List V) (rs:List (Int×Int)) (ks:List Int),vs=[.ref wb,.ref kl]/\WebAt H wb l k xs rs/\ZaA k rs/\H kl=some (.lst (ks.map V.int)) /\
 ∀ (s:Int) (tl:List Int) (rest:List (Int×Int)),(cho rs ks rs.length≠[]->Begins (cho rs ks rs.length) s)->Wk (cho rs ks rs.length) s tl rest->(ZfI rs ks k tl->∀ (r:Addr) (H':Hp),Same H H'->H r=none->H' r=some (.lst ((s::tl).dropLast.map V.int))->Q (.ref r) H')/\(¬ ZfI rs ks k tl->∀ H':Hp,Same H H'->E (.ref NW) none H')
theorem scCof:Zav ["web", "roads", "start", "places"] ["web", "roads"] (Zae ZhJ):=⟨rfl,rfl,rfl,by decide +kernel,rfl,by decide +kernel,by decide +kernel⟩
theorem Zis (ns:List Int):Zca (ns.map V.int) none (some (-1))=ns.dropLast.map V.int:=by
 unfold Zca
 rw [List.length_map,HT.sIx_none,List.drop_zero,Nat.sub_zero,List.dropLast_eq_take,List.map_take]
 congr 1
 unfold HT.sIx
 by_cases h:ns.length=0
 ·rw [h];rfl
 ·simp only [show (-1:Int)<0 by decide,if_true]
  omega
theorem Zk4 {f fC fK fL fR NW:Addr} {dV:Value} {fd fdC fdK fdL fdR:FuncData} (F:Fun K "closed_of" "closed_of" ZhJ f fd) (FC:Fun K "chosen_roads" "chosen_roads" Zid fC fdC) (bC:Binds K fdC ["web", "roads"] []) (mC:mg "chosen_roads" = some (.ref fC))
  (FK:Fun K "walk" "walk" ZhI fK fdK) (bK:Binds K fdK ["web", "start", "roads"] []) (mK:mg "walk" = some (.ref fK)) (GK:ZaK P w K mg base CX0 4 fK fdK ["web", "start", "roads"] ZjC)
  (FL:Fun K "is_closed" "is_closed" Zjg fL fdL) (bL:Binds K fdL ["web", "places"] []) (mL:mg "is_closed" = some (.ref fL)) (GL:ZaK P w K mg base CX0 3 fL fdL ["web", "places"] ZkK)
  (FR:FunD K "roads_of" "roads_of" ZeG dV fR fdR) (bR:Binds K fdR ["web", "places", "closed"] []) (mR:mg "roads_of" = some (.ref fR)) (GR:ZaK P w K mg base CX0 2 fR fdR ["web", "places", "closed"] Zjw)
  (mEnum:mg "enumerate" = none) (mMin:mg "min" = none) (mV:mg "NoWay" = some (.ref NW)) (xV:ExcC K NW):ZaK P w K mg base (CXr P w) 5 f fd ["web", "roads"] (Zk3 NW):=by
 have GC:ZaK P w K mg base CX0 1 fC fdC ["web", "roads"] ZjB:=Zir FC mEnum
 refine F.okR scCof (λvs H Q E h=>?_) (λcdv A outer s H vs Q E hr h=>?_)
 ·obtain ⟨_,_,_,_,_,_,_,rfl,_⟩:=h
  rfl
 ·obtain ⟨wb,l,kl,k,xs,rs,ks,rfl,W,g,hk,h⟩:=h
  have hu:(A.deeper (PyProof.Rows.envOfC "closed_of" (Zae ZhJ) s.heap.objs.size f cdv)).units+64<cLine:=by have:=hr.un;omega
  have hu1:(A.deeper (PyProof.Rows.envOfC "closed_of" (Zae ZhJ) s.heap.objs.size f cdv)).units+1<cLine:=by have:=hr.un;omega
  have hx:xs.length<=30:=by rw [W.p.len];exact g.2.2.1
  refine ⟨_,Zad (Zat (i:=2) scCof.nd rfl (Or.inl rfl) (Zaw (Zcd K) (ZgJ (Zky K rfl hu1) rfl mMin Zby (Zaa (Zai GC (hr.mono (by decide)) rfl mC FC.kp bC .nil ZaD (Zaa (pv 0) (Zaa (pv 1) Zac))) Zac) (ZiH (ZaR (Zaa Zaf (Zaa Zaf Zac))) Zj4)) Zaf (λ_ _=>rfl)))
    (Zad (Zat (i:=3) scCof.nd rfl (Or.inl rfl) (Za9 (kSl K) (Zai GK (hr.mono (by decide)) rfl mK FK.kp bK .nil ZaD (Zaa (pv 0) (Zaa (pv 2) (Zaa (pv 1) Zac)))) ZbB (Zbm (ZbL ZaU Zaf))))
    (Zad (ZaP (PW.pt (Zb2 (Zbu (ZaZ (Zai GL (hr.mono (by decide)) rfl mL FL.kp bL .nil ZaD (Zaa (pv 0) (Zaa (pv 3) Zac))))) (ZbJ (Zam (Zg6 K hu) (Zai GR (hr.mono (by decide)) rfl mR FR.kp bR .nil ZaD (Zaa (pv 0) (Zaa (pv 3) (Zaa Zb1 Zac)))) (pv 1) (Zau _))))) (Zag (ZcI (E:=E) rfl Zbh rfl mV xV (Zaa Zbt Zac))) Zax)
    (Zag (Zas (pv 3))))),?_⟩
  refine Zbo (λσ' H'=>∃ a:Int,σ'=[some (.ref wb),some (.ref kl),some (.int a),none]/\Same H H'/\(0<=a/\a<k)/\(cho rs ks rs.length≠[]->Begins (cho rs ks rs.length) a)) ?sm ?fm
  case fm=>
   intro hkk
   refine ⟨_,rfl,_,rfl,wb,l,kl,k,xs,rs,ks,rfl,W,hx,hk,λcl ys H1 s1 hcl ecl pcl=>?_⟩
   refine ⟨ZaG,λd0 hd0=>?_⟩
   have s2:Same H1 (upd H1 d0 (.tup [.int 0,.int 0])):=Same.new hd0
   have ed0:upd H1 d0 (.tup [.int 0,.int 0]) d0=some (.tup [.int 0,.int 0]):=Zab
   generalize upd H1 d0 (.tup [.int 0,.int 0])=H2 at s2 ed0 ⊢
   have S2:=s1.trans s2
   have pcl2:=pcl.same s2
   refine ⟨cl,ys,cho rs ks rs.length,.ref d0,rfl,rfl,SqL.of (s2 _ _ ecl),pcl2,λe0=>?_,λt r lp=>?_⟩
   ·refine ⟨d0,_,_,_,rfl,rfl,SqT.of ed0,Zaj (j:=0) rfl,?_⟩
    exact hkk _ _ ⟨0,rfl,S2,⟨by decide,by have:=g.1;omega⟩,λz=>absurd e0 z⟩
   ·obtain ⟨⟨i,ex,er⟩,lst⟩:=lp
    obtain ⟨t',r',et',eh,er'⟩:=pcl2.get ex
    cases et'
    rw [er] at er'
    cases er'
    have hm:r∈cho rs ks rs.length:=List.mem_of_getElem? er
    have hg:=g.2.2.2.1 r (Zc7 hm)
    refine ⟨t,_,_,_,rfl,rfl,SqT.of eh,Zaj (j:=0) rfl,?_⟩
    refine hkk _ _ ⟨r.1,rfl,S2,⟨hg.1,by omega⟩,λ_=>⟨λu hu=>?_,r,hm,rfl⟩⟩
    have:=lst u hu
    rw [<-Bool.not_eq_true,ltP_iff] at this
    omega
  rintro σ' H1 ⟨a,rfl,s1,ra,bg⟩
  have W1:=W.same s1
  have hk1:=s1 _ _ hk
  refine ⟨_,rfl,_,rfl,_,rfl,wb,l,kl,k,a,xs,rs,ks,rfl,W1,g,hk1,ra,λr tl rest H2 s2 hr0 er wk=>?_⟩
  obtain ⟨hyes,hno⟩:=h a tl rest bg wk
  have few:=wk.few g
  refine ⟨_,rfl,_,rfl,r,_,rfl,SqL.of er,λpl hpl=>?_⟩
  rw [show (-1:Int)=-1 from rfl,Zis]
  have s3:Same H2 (upd H2 pl (.lst ((a::tl).dropLast.map V.int))):=Same.new hpl
  have epl:upd H2 pl (.lst ((a::tl).dropLast.map V.int)) pl=some (.lst ((a::tl).dropLast.map V.int)):=Zab
  generalize upd H2 pl (.lst ((a::tl).dropLast.map V.int))=H3 at s3 epl ⊢
  have S3:=s2.trans s3
  have hH:H pl=none:=s1.free (s2.free hpl)
  have hdl:(a::tl).dropLast.length<=30:=by rw [List.length_dropLast,List.length_cons];omega
  refine ⟨_,rfl,_,rfl,wb,l,pl,k,xs,rs,_,rfl,W1.same S3,hx,epl,by omega,λb H4 s4 hb=>?_⟩
  refine ⟨_,rfl,?_⟩
  have raise:∀ H5:Hp,Same H1 H5->¬ ZfI rs ks k tl->E (.ref NW) none H5:=λH5 s5 n=>hno n H5 (s1.trans s5)
  have fwd:ZfI rs ks k tl->_:=λz=>ZhW g wk (bg λe=>by
   have:=Zc8 z.1
   rw [e] at this
   have l3:=z.2.1
   have:ks=[]:=List.map_eq_nil_iff.mp this.symm
   rw [this] at l3
   exact absurd l3 (by decide)) z.1 z.2.1 z.2.2.1 z.2.2.2
  cases b with
  | false=>
   refine Zcu (Zcu ⟨by decide,raise _ (S3.trans s4) λz=>?_⟩)
   exact absurd (hb.mpr (fwd z).1) Bool.false_ne_true
  | true=>
   refine ZbC ?_
   have ring:=hb.mp rfl
   have ne:(a::tl).dropLast≠[]:=λz=>by have:=ring.1;rw [z] at this;exact absurd this (by decide)
   refine ⟨_,rfl,_,rfl,wb,l,pl,k,xs,rs,_,true,rfl,(W1.same S3).same s4,g,s4 _ _ epl,by omega,λ_=>ne,ring.2.2.2.1,λre ms H5 s5 hre ere pm so=>?_⟩
   refine ⟨_,rfl,.list (ms.map PyData.int),.list (ks.map PyData.int),.lst (SqL.of ere) (ZaF _),.lst (SqL.of (s5 _ _ (s4 _ _ (S3 _ _ hk1)))) (ZaF _),Zaz _,Zaz _,_,rfl,?_⟩
   rw [Zbb]
   have S5:=(S3.trans s4).trans s5
   by_cases e:ms=ks
   ·rw [decide_eq_true e]
    refine ZbC ?_
    refine ⟨_,rfl,hyes ?_ pl H5 (s1.trans S5) hH (s5 _ _ (s4 _ _ epl))⟩
    obtain ⟨b1,b2,b3,b4⟩:=ZhX g ring pm so e
    refine ⟨b1,b2,b3,?_⟩
    rw [List.length_dropLast,List.length_cons] at b4
    omega
   ·rw [decide_eq_false e]
    refine Zcu ⟨by decide,raise _ S5 λz=>e ?_⟩
    exact (fwd z).2 ms pm so
end
end M
namespace M
open PySem L2
section
variable {P:Program} {w:World} {K:PySem.W.Frag} {mg:Str->Option Value} {base:Heap}
def ZhY (rs:List (Int×Int)) (ks:List Int) (i:Nat):Prop:=∀ j,j<i->(0<=ks.getD j 0/\ks.getD j 0<(rs.length:Int))/\(0<j->ks.getD (j-1) 0<ks.getD j 0)
theorem setUp_set {rs:List (Int×Int)} {ks:List Int}:ZhY rs ks ks.length↔Zbr rs ks:=by
 constructor
 ·intro h
  have up:∀ d i,i+d+1<ks.length->ks.getD i 0<ks.getD (i+d+1) 0:=λd=>by
   induction d with
   | zero=>
    intro i hi
    exact (h (i+1) (by omega)).2 (by omega)
   | succ d ih=>
    intro i hi
    have h1:=ih i (by omega)
    have h2:=(h (i+d+1+1) (by omega)).2 (by omega)
    have e:i+d+1+1-1=i+d+1:=by omega
    rw [e] at h2
    have e2:i+(d+1)+1=i+d+1+1:=by omega
    rw [e2]
    omega
  refine ⟨List.pairwise_iff_getElem.mpr λi j hi hj hij=>?_,λx hx=>?_⟩
  ·have:=up (j-i-1) i (by omega)
   rw [show i+(j-i-1)+1=j by omega,ZaW hi,ZaW hj] at this
   exact this
  ·obtain ⟨j,hj,rfl⟩:=List.getElem_of_mem hx
   have:=(h j hj).1
   rw [ZaW hj] at this
   exact this
 ·intro h j hj
  refine ⟨h.2 _ (ZbH hj),λh0=>?_⟩
  rw [ZaW hj,ZaW (show j-1<ks.length by omega)]
  exact List.pairwise_iff_getElem.mp h.1 (j-1) j (by omega) hj (by omega)
def ZjD:Sp:=λvs H Q _=>∃ (wb l kl:Addr) (k:Int) (xs:List V) (rs:List (Int×Int)) (ks:List Int),vs=[.ref wb,.ref kl]/\WebAt H wb l k xs rs/\xs.length<=30/\H kl=some (.lst (ks.map V.int))/\ks.length<=200/\∀ b:Bool,(b=true↔Zbr rs ks)->Q (.bl b) H
theorem scIst:Zav ["web", "roads", "k"] ["web", "roads"] (Zae Zig):=⟨rfl,rfl,rfl,by decide +kernel,rfl,by decide +kernel,by decide +kernel⟩
theorem Zit {f:Addr} {fd:FuncData} (F:Fun K "_law_is_set" "_law_is_set" Zig f fd) (mRange:mg "range" = none) (mLen:mg "len" = none):ZaK P w K mg base CX0 1 f fd ["web", "roads"] ZjD:=by
 refine F.ok scIst (λvs H Q E h=>?_) (λcdv A outer s H vs Q E hr h=>?_)
 ·obtain ⟨_,_,_,_,_,_,_,rfl,_⟩:=h
  rfl
 ·obtain ⟨wb,l,kl,k,xs,rs,ks,rfl,W,hx,hk,hkl,q⟩:=h
  have h16:(16777216:Nat)=sizeLine:=sizeLine_eq.symm
  have hxl:=W.p.len
  have no:∀ i,i<ks.length->¬ ZhY rs ks (i+1)->Q (.bl false) H:=λi hi z=>q false ⟨λy=>(by cases y),λy=>absurd (λj hj=>setUp_set.mpr y j (by omega)) z⟩
  refine ⟨_,Zad (Zbg PassesOwn.never rfl (ZaT rfl mRange (Zaa (Zak (Zdk K) rfl mLen PySem.boot_len (Zaa (pv 1) Zac)) Zac)) (Zay (i:=2) scIst.nd rfl (Or.inl rfl))
    (Zag (ZaP (PW.pt (Zb2 (Zam Zeq (Zaw (Zbf K) (pv 1) (pv 2) (λ_ _=>rfl)) Zaf (Zau _)) (Zb2 (Zam ZiE (Zaw (Zbf K) (pv 1) (pv 2) (λ_ _=>rfl)) (Zak (Zdk K) rfl mLen PySem.boot_len (Zaa (Zaw (Zcd K) (pv 0) Zaf (λ_ _=>rfl)) Zac)) (Zau _)) (ZbJ (PW.pt (Zh0 (Zam ZiD (pv 2) Zaf (Zau _)) (ZfR (Zam ZiE (Zaw (Zbf K) (pv 1) (Zaq Zb4 (pv 2) Zaf) (λ_ _=>rfl)) (Zaw (Zbf K) (pv 1) (pv 2) (λ_ _=>rfl)) (Zau _))))))))) (Zag (Zas Zb1)) Zax)))
    (Zag (Zas Zb1)),?_⟩
  refine ⟨_,rfl,kl,_,rfl,.inl (SqL.of hk),_,rfl,by rw [List.length_map];omega,by rw [List.length_map];omega,?_⟩
  rw [List.length_map,Int.toNat_natCast]
  refine Za6 (lo:=0) (n:=ks.length) (λi σ' H'=>∃ v2:Option V,σ'=[some (.ref wb),some (.ref kl),v2]/\H=H'/\ZhY rs ks i) ⟨none,rfl,rfl,λj hj=>absurd hj (Nat.not_lt_zero j)⟩ ?_ ?_
  ·rintro i σ' H' hi ⟨v2,rfl,rfl,su⟩
   rw [Int.zero_add]
   have hat:atI (ks.map V.int) (i:Int)=some (.int (ks.getD i 0)):=Zcp (i:=(i:Int)) (by omega) (by omega)
   have nx:(0<=ks.getD i 0/\ks.getD i 0<(rs.length:Int))->(0<i->ks.getD (i-1) 0<ks.getD i 0)->ZhY rs ks (i+1):=λh1 h2 j hj=>by
    by_cases e:j=i
    ·subst e;exact ⟨h1,h2⟩
    ·exact su j (by omega)
   refine ⟨_,rfl,_,rfl,kl,_,_,_,rfl,rfl,SqL.of hk,hat,_,_,rfl,rfl,_,rfl,Zbn (λc=>?_) (λc1=>?_)⟩
   ·refine Zcu (no i hi λz=>?_)
    have:=(z i (by omega)).1
    have:=of_decide_eq_true c
    omega
   have c1:¬ ks.getD i 0<0:=λz=>c1 (decide_eq_true z)
   refine ⟨_,rfl,_,rfl,kl,_,_,_,rfl,rfl,SqL.of hk,hat,_,rfl,wb,_,_,_,rfl,rfl,SqT.of W.w,Zaj (j:=1) rfl,l,xs,rfl,.inl (SqL.of W.l),_,_,rfl,rfl,_,rfl,Zbn (λc=>?_) (λc2=>?_)⟩
   ·refine Zcu (no i hi λz=>?_)
    have:=(z i (by omega)).1
    have:=of_decide_eq_true c
    omega
   have c2:¬ ks.getD i 0>=(xs.length:Int):=λz=>c2 (decide_eq_true z)
   refine ⟨_,rfl,_,_,rfl,rfl,_,rfl,Zbn (λc=>?_) (λc3=>?_)⟩
   ·have c3:(i:Int) > 0:=of_decide_eq_true c
    have hat1:atI (ks.map V.int) ((i:Int)-1)=some (.int (ks.getD (i-1) 0)):=by
     have:=Zcp (ns:=ks) (i:=((i-1:Nat):Int)) (by omega) (by omega)
     rw [Int.toNat_natCast,show (((i-1:Nat):Int))=(i:Int)-1 by omega] at this
     exact this
    refine ⟨_,rfl,_,rfl,_,_,rfl,rfl,kl,_,_,_,rfl,rfl,SqL.of hk,hat1,_,rfl,_,rfl,kl,_,_,_,rfl,rfl,SqL.of hk,hat,_,_,rfl,rfl,_,rfl,Zbn (λc=>?_) (λc4=>?_)⟩
    ·refine no i hi λz=>?_
     have:=(z i (by omega)).2 (by omega)
     have:=of_decide_eq_true c
     omega
    ·have c4:¬ ks.getD (i-1) 0>=ks.getD i 0:=λz=>c4 (decide_eq_true z)
     exact ⟨_,rfl,rfl,nx ⟨by omega,by omega⟩ λ_=>by omega⟩
   ·have c3:¬ (i:Int) > 0:=λz=>c3 (decide_eq_true z)
    refine ZbC ?_
    exact ⟨_,rfl,rfl,nx ⟨by omega,by omega⟩ λ_=>by omega⟩
  ·rintro σ' H' ⟨v2,rfl,rfl,su⟩
   exact q true ⟨λ_=>setUp_set.mp su,λ_=>rfl⟩
theorem ZgZ {rs:List (Int×Int)} {ks:List Int} {p:Int} {i:Nat} {x:Int} (h:ks[i]?=some x):((ks.take (i+1)).filter λy=>decide ((road rs y).1=p\/(road rs y).2=p))=((ks.take i).filter λy=>decide ((road rs y).1=p\/(road rs y).2=p))++(if Zdc (road rs x) p=true then [x] else []):=by
 rw [List.take_add_one,h]
 show List.filter _ (ks.take i++[x])=_
 rw [List.filter_append,List.filter_cons,List.filter_nil]
 rfl
theorem ZeL {H:Hp} {wb l:Addr} {k:Int} {xs:List V} {rs:List (Int×Int)} (W:WebAt H wb l k xs rs) {x:Int} (h:0<=x/\x<(rs.length:Int)):∃ t,atI xs x=some (.ref t)/\H t=some (.tup [.int (road rs x).1,.int (road rs x).2]):=by
 have hxl:=W.p.len
 have hi:x.toNat<xs.length:=by omega
 obtain ⟨t,r,et,eh,er⟩:=W.p.get (List.getElem?_eq_getElem hi)
 have eg:road rs x=r:=by
  unfold road
  rw [List.getD_eq_getElem?_getD,er]
  rfl
 refine ⟨t,?_,by rw [eg];exact eh⟩
 have:=Zaj (xs:=xs) (j:=x.toNat) (by rw [List.getElem?_eq_getElem hi,et])
 rw [Int.toNat_of_nonneg h.1] at this
 exact this
def ZjE:Sp:=λvs H Q _=>∃ (wb l kl:Addr) (k p:Int) (xs:List V) (rs:List (Int×Int)) (ks:List Int),vs=[.ref wb,.ref kl,.int p]/\WebAt H wb l k xs rs/\H kl=some (.lst (ks.map V.int))/\ks.length<=200/\(∀ x∈ks,0<=x/\x<(rs.length:Int))/\∀ H',Same H H'->Q (.int (degK rs ks p:Nat)) H'
theorem Zmb:Zav ["web", "roads", "place"] ["web", "roads", "place"] (Zae Zih):=⟨rfl,rfl,rfl,by decide +kernel,rfl,by decide +kernel,by decide +kernel⟩
theorem Ziu {f:Addr} {fd:FuncData} (F:Fun K "_law_at" "_law_at" Zih f fd) (mLen:mg "len" = none):ZaK P w K mg base CX0 1 f fd ["web", "roads", "place"] ZjE:=by
 refine F.ok Zmb (λvs H Q E h=>?_) (λcdv A outer s H vs Q E hr h=>?_)
 ·obtain ⟨_,_,_,_,_,_,_,_,rfl,_⟩:=h
  rfl
 ·obtain ⟨wb,l,kl,k,p,xs,rs,ks,rfl,W,hk,hkl,hv,q⟩:=h
  have h16:(16777216:Nat)=sizeLine:=sizeLine_eq.symm
  refine ⟨_,Zag (Zas (Zak (Zdk K) rfl mLen PySem.boot_len (Zaa (Zbd (own:=["k"]) rfl (ZaC (fr:=[("web", 0),("place", 2)]) [(".0", .local),("k", .local),("place", .cell),("web", .cell)] rfl rfl (by decide +kernel) rfl (by decide +kernel) ⟨rfl,rfl,trivial⟩ ⟨λh=>Za2 h,λh=>Za2 h,λ_=>⟨_,rfl⟩,λ_=>⟨_,rfl⟩,trivial⟩ ⟨⟨rfl,.inl rfl,.inl rfl⟩,⟨rfl,.inl rfl,.inl rfl⟩,trivial⟩) (Zci K (pv 1)) (λ_ _ _ _=>Zay (i:=0) (show List.Nodup (["k", "web", "place"]:List Str) by decide +kernel) rfl (Or.inl rfl)) (λ_ _ _ _=>Zba (Zam (kIn K) (pv 2) (Zaw (Zbf K) (Zaw (Zcd K) (pv 1) Zaf (λ_ _=>rfl)) (pv 0) (λ_ _=>rfl)) (by with_unfolding_all rfl))) (λ_ _ _ _=>pv 0)) Zac))),?_⟩
  refine ⟨_,rfl,kl,rfl,⟨_,SqL.of hk⟩,λD hD=>?_⟩
  refine Za1 (K:=K) (a:=kl) (xs:=ks.map V.int) (λi ys H2=>Same H H2/\H2 D=some (.lst ys)/\ys=((ks.take i).filter λy=>decide ((road rs y).1=p\/(road rs y).2=p)).map V.int) ⟨Same.new hD,Zab,rfl⟩ (λi ys H2 _ ⟨s2,_⟩=>SqL.of (s2 _ _ hk)) ?_ ?_
  ·rintro i x ys H2 hxi ⟨s2,hD2,rfl⟩
   rw [List.getElem?_map] at hxi
   cases hz:ks[i]? with
   | none=>rw [hz] at hxi;cases hxi
   | some z=>
    rw [hz] at hxi
    cases hxi
    have hi:i<ks.length:=(List.getElem?_eq_some_iff.mp hz).1
    have W2:=W.same s2
    obtain ⟨t,et,eh⟩:=ZeL W2 (hv z (List.mem_of_getElem? hz))
    have sc:=ZgZ (rs:=rs) (p:=p) hz
    refine ⟨⟨rfl,rfl,trivial⟩,?_⟩
    refine ⟨_,rfl,_,rfl,wb,_,_,_,rfl,rfl,SqT.of W2.w,Zaj (j:=1) rfl,_,rfl,l,_,_,_,rfl,rfl,SqL.of W2.l,et,t,_,rfl,.inr (SqT.of eh),rfl,rfl,_,rfl,?_⟩
    show if (inV (.int p) [.int (road rs z).1,.int (road rs z).2])=true then _ else _
    rw [Zl8]
    refine Zbn (λy=>?_) (λy=>?_)
    ·refine ⟨_,rfl,hD2,?_,s2.put hD,Zab,?_⟩
     ·rw [List.length_map]
      have:=List.length_filter_le (λy=>decide ((road rs y).1=p\/(road rs y).2=p)) (ks.take i)
      rw [List.length_take] at this
      omega
     ·rw [sc,if_pos y,List.map_append];rfl
    ·exact ⟨s2,hD2,by rw [sc,if_neg y,List.append_nil]⟩
  ·rintro ys H2 ⟨s2,hD2,rfl⟩
   rw [List.length_map,List.take_length] at hD2
   refine ⟨D,_,rfl,.inl (SqL.of hD2),?_⟩
   rw [List.length_map]
   exact q H2 s2
end
end M
namespace M
open PySem L2
section
variable {P:Program} {w:World} {K:PySem.W.Frag} {mg:Str->Option Value} {base:Heap}
def Zdd (rs:List (Int×Int)) (ks:List Int) (c:Int):List (Int×Int):=(ks.filter λx=>Zdc (road rs x) c).map λx=>((road rs x).1+(road rs x).2-c,x)
theorem ZfJ {rs:List (Int×Int)} {ks:List Int} {c:Int} {i:Nat} {x:Int} (h:ks[i]?=some x):Zdd rs (ks.take (i+1)) c=Zdd rs (ks.take i) c++(if Zdc (road rs x) c=true then [((road rs x).1+(road rs x).2-c,x)] else []):=by
 unfold Zdd
 rw [List.take_add_one,h]
 show List.map _ (List.filter _ (ks.take i++[x]))=_
 rw [List.filter_append,List.map_append,List.filter_cons,List.filter_nil]
 by_cases z:Zdc (road rs x) c=true
 ·rw [if_pos z,if_pos z];rfl
 ·rw [if_neg z,if_neg z];rfl
theorem Zg0 (rs:List (Int×Int)) (ks:List Int) (c:Int):(Zdd rs ks c).length<=ks.length:=by
 unfold Zdd
 rw [List.length_map]
 exact List.length_filter_le _ _
theorem mem_near {rs:List (Int×Int)} {ks:List Int} {c y x:Int}:(y,x)∈Zdd rs ks c↔x∈ks/\(road rs x=(c,y)\/road rs x=(y,c)):=by
 unfold Zdd
 rw [List.mem_map]
 constructor
 ·rintro ⟨z,hz,e⟩
  obtain ⟨h1,h2⟩:=List.mem_filter.mp hz
  obtain ⟨e1,e2⟩:=Prod.mk.inj e
  subst e2
  refine ⟨h1,?_⟩
  rcases of_decide_eq_true h2 with e | e
  ·left
   rw [<-e1,<-e]
   exact Prod.ext rfl (by dsimp only;omega)
  ·right
   rw [<-e1,<-e]
   exact Prod.ext (by dsimp only;omega) rfl
 ·rintro ⟨h1,e | e⟩
  ·exact ⟨x,List.mem_filter.mpr ⟨h1,decide_eq_true (.inl (by rw [e]))⟩,by rw [e];exact Prod.ext (by dsimp only;omega) rfl⟩
  ·exact ⟨x,List.mem_filter.mpr ⟨h1,decide_eq_true (.inr (by rw [e]))⟩,by rw [e];exact Prod.ext (by dsimp only;omega) rfl⟩
theorem near_adj {rs:List (Int×Int)} {ks:List Int} {c y:Int}:Adj (ks.map (road rs)) c y↔∃ x,(y,x)∈Zdd rs ks c:=by
 unfold Adj
 rw [List.mem_map,List.mem_map]
 constructor
 ·rintro (⟨x,hx,e⟩ | ⟨x,hx,e⟩)
  ·exact ⟨x,mem_near.mpr ⟨hx,.inl e⟩⟩
  ·exact ⟨x,mem_near.mpr ⟨hx,.inr e⟩⟩
 ·rintro ⟨x,h⟩
  obtain ⟨hx,e | e⟩:=mem_near.mp h
  ·exact .inl ⟨x,hx,e⟩
  ·exact .inr ⟨x,hx,e⟩
theorem Zdr {k:Int} {rs:List (Int×Int)} (g:ZaA k rs) {x:Int}:∀ {ks:List Int},(∀ z∈ks,0<=z/\z<(rs.length:Int))->(0<=x/\x<(rs.length:Int))->(ks.map (road rs)).erase (road rs x)=(ks.erase x).map (road rs)
 | [],_,_=>rfl
 | z::ks,h,hx=>by
  rw [List.map_cons,List.erase_cons,List.erase_cons]
  by_cases e:z=x
  ·rw [if_pos (by rw [e];exact beq_self_eq_true _),if_pos (by rw [e];exact beq_self_eq_true _)]
  ·rw [if_neg (by rw [beq_iff_eq];exact λy=>e (Zfi g (h z (List.mem_cons_self ..)) hx y)),if_neg (by rw [beq_iff_eq];exact e),List.map_cons,Zdr g (λy hy=>h y (List.mem_cons_of_mem _ hy)) hx]
theorem Zg1 {xs:List V} {rs:List (Int×Int)} {t t':Addr} {r r':Int×Int} (a:Zeh xs rs t r) (b:Zeh xs rs t' r'):r=r':=by
 obtain ⟨⟨i,_,hi⟩,a⟩:=a
 obtain ⟨⟨j,_,hj⟩,b⟩:=b
 have h1:=a r' (List.mem_of_getElem? hj)
 have h2:=b r (List.mem_of_getElem? hi)
 rw [<-Bool.not_eq_true,ltP_iff] at h1 h2
 exact Prod.ext (by omega) (by omega)
theorem Zg2 {K:PySem.W.Frag} {H:Hp} {a e:Addr} {ys:List V} {pp:List (Int×Int)} {Q:VK} (ha:H a=some (.lst ys)) (pr:Prs H ys pp) (he:H e=some (.lst [])) (q:Q (.bl (!decide (pp=[]))) H):ZiP K true (.ref a) (.ref e) H Q:=by
 refine ⟨.list (pp.map prD),.list ((([]:List (Int×Int))).map prD),.lst (SqL.of ha) pr.dats,.lst (SqL.of he) .nil,Zdi _,Zdi _,?_⟩
 have e2:(true != PyData.eqv (.list (pp.map prD)) (.list (([]:List (Int×Int)).map prD)))=!decide (pp=[]):=by
  simp only [PyData.eqv]
  rw [Zev]
  cases decide (pp=[]) <;> rfl
 rw [e2]
 exact q
def ZjF:Sp:=λvs H Q _=>∃ (wb l kl:Addr) (k p:Int) (xs:List V) (rs:List (Int×Int)) (ks:List Int),vs=[.ref wb,.ref kl,.int p]/\WebAt H wb l k xs rs/\ZaA k rs/\H kl=some (.lst (ks.map V.int))/\ks.length<=200/\(∀ x∈ks,0<=x/\x<(rs.length:Int)) /\
 ∀ (r:Addr) (tl:List Int) (rest:List (Int×Int)) (H':Hp),Same H H'->H r=none->H' r=some (.lst ((p::tl).map V.int))->Wk (ks.map (road rs)) p tl rest->Q (.ref r) H'
theorem scLwa:Zav ["web", "roads", "place", "left", "row", "near", "k"] ["web", "roads", "place"] (Zae ZgL):=⟨rfl,rfl,rfl,by decide +kernel,rfl,by decide +kernel,by decide +kernel⟩
theorem Ziv {f:Addr} {fd:FuncData} (F:Fun K "_law_walk" "_law_walk" ZgL f fd) (mLst:mg "list" = none) (mMin:mg "min" = none):ZaK P w K mg base CX0 1 f fd ["web", "roads", "place"] ZjF:=by
 refine F.ok scLwa (λvs H Q E h=>?_) (λcdv A outer s H vs Q E hr h=>?_)
 ·obtain ⟨_,_,_,_,_,_,_,_,rfl,_⟩:=h
  rfl
 ·obtain ⟨wb,l,kl,k,p,xs,rs,ks,rfl,W,g,hk,hkl,hv,q⟩:=h
  have h16:(16777216:Nat)=sizeLine:=sizeLine_eq.symm
  have n1:1<=sizeLine:=by omega
  have hu:(A.deeper (PyProof.Rows.envOfC "_law_walk" (Zae ZgL) s.heap.objs.size f cdv)).units+64<cLine:=by have:=hr.un;omega
  have hu1:(A.deeper (PyProof.Rows.envOfC "_law_walk" (Zae ZgL) s.heap.objs.size f cdv)).units+1<cLine:=by have:=hr.un;omega
  have hu5:(A.deeper (PyProof.Rows.envOfC "_law_walk" (Zae ZgL) s.heap.objs.size f cdv)).units+65<cLine:=by have:=hr.un;omega
  refine ⟨_,Zad (Zat (i:=3) scLwa.nd rfl (Or.inl rfl) (ZaL (Zex K) rfl mLst ZbP (Zaa (pv 1) Zac)))
    (Zad (Zat (i:=4) scLwa.nd rfl (Or.inl rfl) (ZaE (Zaa (pv 2) Zac)))
    (Zad (Zat (i:=5) scLwa.nd rfl (Or.inl rfl) (ZaE (Zaa Zaf Zac)))
    (Zad (ZeP PassesOwn.never (Zam (Zg6 K hu) (pv 5) (ZaE Zac) (Zau _))
    (Zad (Zat (i:=5) scLwa.nd rfl (Or.inl rfl) (ZaE Zac))
    (Zad (Zbg PassesOwn.never rfl (Zci K (pv 3)) (Zay (i:=6) scLwa.nd rfl (Or.inl rfl))
    (Zag (ZaP (Zam (kIn K) (Zaw (Zbf K) (pv 4) (ZbL ZaU Zaf) (λ_ _=>rfl)) (Zaw (Zbf K) (Zaw (Zcd K) (pv 0) Zaf (λ_ _=>rfl)) (pv 6) (λ_ _=>rfl)) (by with_unfolding_all rfl)) (Zag (ZaS (ZbM PySem.F.plainAttrs_list PySem.F.slot_list_append PySem.F.type_list_append ZaO (pv 5) (Zaa (ZaR (Zaa (Zaq Zb4 (Zaq ZaH (Zaw (Zcd K) (Zaw (Zbf K) (Zaw (Zcd K) (pv 0) Zaf (λ_ _=>rfl)) (pv 6) (λ_ _=>rfl)) Zaf (λ_ _=>rfl)) (Zaw (Zcd K) (Zaw (Zbf K) (Zaw (Zcd K) (pv 0) Zaf (λ_ _=>rfl)) (pv 6) (λ_ _=>rfl)) Zaf (λ_ _=>rfl))) (Zaw (Zbf K) (pv 4) (ZbL ZaU Zaf) (λ_ _=>rfl))) (Zaa (pv 6) Zac))) Zac)))) Zax)))
    (Zag (ZaP (Zam (Zg6 K hu) (pv 5) (ZaE Zac) (Zau _)) (Zad (ZaS (ZbM PySem.F.plainAttrs_list PySem.F.slot_list_remove PySem.F.type_list_remove (Zkv K hu5) (pv 3) (Zaa (Zaw (Zcd K) (Zak (Zkx K rfl hu1) rfl mMin Zby (Zaa (pv 5) Zac)) Zaf (λ_ _=>rfl)) Zac)))
    (Zag (ZaS (ZbM PySem.F.plainAttrs_list PySem.F.slot_list_append PySem.F.type_list_append ZaO (pv 4) (Zaa (Zaw (Zcd K) (Zak (Zkx K rfl hu1) rfl mMin Zby (Zaa (pv 5) Zac)) Zaf (λ_ _=>rfl)) Zac))))) Zax)))))
    (Zag (Zas (pv 4)))))),?_⟩
  refine ⟨_,rfl,kl,_,rfl,.inl (SqL.of hk),λla hla=>?_⟩
  have s1:Same H (upd H la (.lst (ks.map V.int))):=Same.new hla
  have ela:upd H la (.lst (ks.map V.int)) la=some (.lst (ks.map V.int)):=Zab
  generalize upd H la (.lst (ks.map V.int))=H1 at s1 ela ⊢
  refine ⟨_,rfl,n1,λro hro=>?_⟩
  have s2:Same H1 (upd H1 ro (.lst [.int p])):=Same.new hro
  have ero:upd H1 ro (.lst [.int p]) ro=some (.lst ([p].map V.int)):=Zab
  have hne:la≠ro:=Zah ela hro
  have hHro:H ro=none:=s1.free hro
  generalize upd H1 ro (.lst [.int p])=H2 at s2 ero ⊢
  have ela2:=s2 _ _ ela
  refine ⟨n1,λna hna=>?_⟩
  have s3:Same H2 (upd H2 na (.lst [.int 0])):=Same.new hna
  have ena:upd H2 na (.lst [.int 0]) na=some (.lst ([(0:Int)].map V.int)):=Zab
  generalize upd H2 na (.lst [.int 0])=H3 at s3 ena ⊢
  refine ⟨λm σ' H'=>∃ (na:Addr) (lk front:List Int) (c:Int) (pre:List Int) (v6:Option V),σ'=[some (.ref wb),some (.ref kl),some (.int p),some (.ref la),some (.ref ro),some (.ref na),v6]/\Same H H'/\H' la=some (.lst (lk.map V.int))/\H' ro=some (.lst ((front++[c]).map V.int))/\front++[c]=p::pre/\(∀ x∈lk,0<=x/\x<(rs.length:Int))/\pre.length+lk.length<=200 /\
   (∀ tl rest,Wk (lk.map (road rs)) c tl rest->Wk (ks.map (road rs)) p (pre++tl) rest) /\
   ((H' na=some (.lst [.int 0])/\m=lk.length+1)\/(∃ ys pp,H' na=some (.lst ys)/\Prs H' ys pp/\pp≠[]/\m=lk.length+1)\/(H' na=some (.lst [])/\(∀ y,¬ Adj (lk.map (road rs)) c y)/\m=0)),
   ⟨_,na,ks,[],p,[],none,rfl,(s1.trans s2).trans s3,s3 _ _ ela2,s3 _ _ ero,rfl,hv,by rw [List.length_nil];omega,λtl rest h=>h,.inl ⟨ena,rfl⟩⟩,?_⟩
  clear s3 ena hna ela2 s2 ero ela s1
  rintro m σ' H' ⟨na,lk,front,c,pre,v6,rfl,s4,ela,ero,efp,hlk,hlen,cont,hn⟩
  have hlast:atI ((front++[c]).map V.int) (-1)=some (.int c):=by
   rw [ZbG (by simp)]
   congr 2
   rw [List.length_append,List.length_singleton,Nat.add_sub_cancel,List.getD_eq_getElem?_getD,List.getElem?_append_right (Nat.le_refl _),Nat.sub_self]
   rfl
  have hfl:(front++[c]).length<=201:=by rw [efp,List.length_cons];omega
  refine ⟨_,rfl,Nat.zero_le _,λe0 he0=>?_⟩
  have s5:Same H' (upd H' e0 (.lst [])):=Same.new he0
  have ee0:upd H' e0 (.lst []) e0=some (.lst []):=Zab
  generalize upd H' e0 (.lst [])=H5 at s5 ee0 ⊢
  have key:∀ Q':VK,(m=lk.length+1->Q' (.bl true) H5)->((∀ y,¬ Adj (lk.map (road rs)) c y)->Q' (.bl false) H5)->ZiP K true (.ref na) (.ref e0) H5 Q':=λQ' q1 q2=>by
   rcases hn with ⟨hz,hm⟩ | ⟨ys,pp,hz,pr,hpp,hm⟩ | ⟨hz,no,hm⟩
   ·refine ⟨.list ([(0:Int)].map PyData.int),.list (([]:List Int).map PyData.int),.lst (SqL.of (s5 _ _ hz)) (ZaF [0]),.lst (SqL.of ee0) .nil,Zaz _,Zaz _,?_⟩
    rw [Zbb]
    exact q1 hm
   ·refine Zg2 (s5 _ _ hz) (pr.same s5) ee0 ?_
    rw [decide_eq_false hpp]
    exact q1 hm
   ·refine Zg2 (pp:=[]) (s5 _ _ hz) .nil ee0 ?_
    exact q2 no
  refine key _ (λhm=>?_) (λno=>?_)
  ·refine ⟨_,rfl,Zcu ?_⟩
   refine ⟨_,λ_ _ h=>h,?_⟩
   clear key hn
   have S5:=s4.trans s5
   refine ⟨Nat.zero_le _,λnb hnb=>?_⟩
   have s6:Same H5 (upd H5 nb (.lst [])):=Same.new hnb
   have enb:upd H5 nb (.lst []) nb=some (.lst []):=Zab
   have nbl:la≠nb:=Zah (s5 _ _ ela) hnb
   have nbr:ro≠nb:=Zah (s5 _ _ ero) hnb
   have hHnb:H nb=none:=S5.free hnb
   generalize upd H5 nb (.lst [])=H6 at s6 enb ⊢
   have S6:=S5.trans s6
   have s46:=s5.trans s6
   refine ⟨_,rfl,la,rfl,⟨_,SqL.of (s46 _ _ ela)⟩,?_⟩
   refine Zce (K:=K) (a:=la) (xs:=lk.map V.int) (λi σ' H7=>∃ (v6:Option V) (ys:List V),σ'=[some (.ref wb),some (.ref kl),some (.int p),some (.ref la),some (.ref ro),some (.ref nb),v6]/\Same H H7/\H7 la=some (.lst (lk.map V.int))/\H7 ro=some (.lst ((front++[c]).map V.int))/\H7 nb=some (.lst ys)/\Prs H7 ys (Zdd rs (lk.take i) c)) ⟨v6,[],rfl,S6,s46 _ _ ela,s46 _ _ ero,enb,.nil⟩ (λi σ' H7 _ ⟨_,_,_,_,e7,_⟩=>SqL.of e7) ?_ ?_
   ·rintro i x σ' H7 hxi ⟨v6,ys,rfl,s7,ela7,ero7,enb7,pr⟩
    rw [List.getElem?_map] at hxi
    cases hz:lk[i]? with
    | none=>rw [hz] at hxi;cases hxi
    | some z=>
     rw [hz] at hxi
     cases hxi
     have hi:i<lk.length:=(List.getElem?_eq_some_iff.mp hz).1
     have W7:=W.same s7
     obtain ⟨t,et,eh⟩:=ZeL W7 (hlk z (List.mem_of_getElem? hz))
     have sc:=ZfJ (rs:=rs) (c:=c) hz
     have ln:=Zg0 rs (lk.take i) c
     rw [List.length_take] at ln
     have lp:=pr.len
     refine ⟨_,rfl,_,rfl,ro,_,_,_,rfl,rfl,SqL.of ero7,hlast,_,rfl,wb,_,_,_,rfl,rfl,SqT.of W7.w,Zaj (j:=1) rfl,_,rfl,l,_,_,_,rfl,rfl,SqL.of W7.l,et,t,_,rfl,.inr (SqT.of eh),rfl,rfl,_,rfl,?_⟩
     show if (inV (.int c) [.int (road rs z).1,.int (road rs z).2])=true then _ else _
     rw [Zl8]
     refine Zbn (λy=>?_) (λy=>?_)
     ·refine ⟨_,rfl,.inl ⟨rfl,_,SqL.of enb7⟩,_,rfl,wb,_,_,_,rfl,rfl,SqT.of W7.w,Zaj (j:=1) rfl,_,rfl,l,_,_,_,rfl,rfl,SqL.of W7.l,et,t,_,_,_,rfl,rfl,SqT.of eh,Zaj (j:=0) rfl,?_⟩
      refine ⟨_,rfl,wb,_,_,_,rfl,rfl,SqT.of W7.w,Zaj (j:=1) rfl,_,rfl,l,_,_,_,rfl,rfl,SqL.of W7.l,et,t,_,_,_,rfl,rfl,SqT.of eh,Zaj (j:=1) rfl,_,_,rfl,rfl,?_⟩
      refine ⟨_,rfl,_,rfl,ro,_,_,_,rfl,rfl,SqL.of ero7,hlast,_,_,rfl,rfl,_,rfl,ZaG,λu hu0=>?_⟩
      have s8:Same H7 (upd H7 u (.tup [.int ((road rs z).1+(road rs z).2-c),.int z])):=Same.new hu0
      have eu:upd H7 u (.tup [.int ((road rs z).1+(road rs z).2-c),.int z]) u=some (.tup [.int ((road rs z).1+(road rs z).2-c),.int z]):=Zab
      have enb8:=s8 _ _ enb7
      refine ⟨nb,_,_,rfl,rfl,enb8,by omega,?_⟩
      have k9:=ZaM (o:=.lst (ys++[.ref u])) enb8
      refine ⟨_,_,rfl,(s7.trans s8).put hHnb,Zal (s8 _ _ ela7) nbl,Zal (s8 _ _ ero7) nbr,Zab,?_⟩
      rw [sc,if_pos y]
      exact Prs.keep (Prs.snoc (a:=(road rs z).1+(road rs z).2-c) (b:=z) (pr.same s8) eu) k9
     ·refine ⟨_,_,rfl,s7,ela7,ero7,enb7,?_⟩
      rw [sc,if_neg y,List.append_nil]
      exact pr
   ·rintro σ' H7 ⟨v6,ys,rfl,s7,ela7,ero7,enb7,pr⟩
    rw [List.length_map,List.take_length] at pr
    refine ⟨_,rfl,Nat.zero_le _,λe1 he1=>?_⟩
    have s8:Same H7 (upd H7 e1 (.lst [])):=Same.new he1
    have ee1:upd H7 e1 (.lst []) e1=some (.lst []):=Zab
    generalize upd H7 e1 (.lst [])=H8 at s8 ee1 ⊢
    have S8:=s7.trans s8
    have pr8:=pr.same s8
    refine Zg2 (s8 _ _ enb7) pr8 ee1 ⟨_,rfl,?_⟩
    by_cases hpp:Zdd rs lk c=[]
    ·rw [decide_eq_true hpp]
     refine ZbC ?_
     rw [hpp] at pr8
     have hys:ys=[]:=by
      have:=pr8.len
      exact List.length_eq_zero_iff.mp (by simpa using this)
     refine ⟨0,by omega,nb,lk,front,c,pre,_,rfl,S8,s8 _ _ ela7,s8 _ _ ero7,efp,hlk,hlen,cont,.inr (.inr ⟨by rw [s8 _ _ enb7,hys],λy a=>?_,rfl⟩)⟩
     obtain ⟨x,hx⟩:=near_adj.mp a
     rw [hpp] at hx
     cases hx
    ·rw [decide_eq_false hpp]
     refine Zcu ?_
     have enb8:=s8 _ _ enb7
     refine ⟨_,rfl,.inl ⟨rfl,_,SqL.of (s8 _ _ ela7)⟩,_,rfl,nb,ys,_,rfl,SqL.of enb8,pr8,hpp,λt r lp=>?_⟩
     have lp0:=lp
     obtain ⟨⟨i,ex,er⟩,lst⟩:=lp
     obtain ⟨t',r',et',eh,er'⟩:=pr8.get ex
     cases et'
     rw [er] at er'
     cases er'
     obtain ⟨y,x⟩:=r
     have hm0:=List.mem_of_getElem? er
     obtain ⟨hxl,hrd⟩:=mem_near.mp hm0
     have vx:=hlk x hxl
     refine ⟨t,_,_,_,rfl,rfl,SqT.of eh,Zaj (j:=1) rfl,?_⟩
     dsimp only [ZiG]
     refine Znw (s8 _ _ ela7) hxl ?_
     have ela8:=s8 _ _ ela7
     have k9:=ZaM (o:=.lst ((lk.erase x).map V.int)) ela8
     have s9:Same H (upd H8 la (.lst ((lk.erase x).map V.int))):=S8.put hla
     have ela9:upd H8 la (.lst ((lk.erase x).map V.int)) la=some (.lst ((lk.erase x).map V.int)):=Zab
     have ero9:upd H8 la (.lst ((lk.erase x).map V.int)) ro=some (.lst ((front++[c]).map V.int)):=Zal (s8 _ _ ero7) (Ne.symm hne)
     have enb9:upd H8 la (.lst ((lk.erase x).map V.int)) nb=some (.lst ys):=Zal enb8 (Ne.symm nbl)
     have pr9:=pr8.keep k9
     generalize upd H8 la (.lst ((lk.erase x).map V.int))=H9 at k9 s9 ela9 ero9 enb9 pr9 ⊢
     refine ⟨_,rfl,.inl ⟨rfl,_,SqL.of ero9⟩,_,rfl,nb,ys,_,rfl,SqL.of enb9,pr9,hpp,λt2 r2 lp2=>?_⟩
     have e2:=Zg1 lp0 lp2
     subst e2
     obtain ⟨⟨i2,ex2,er2⟩,_⟩:=lp2
     obtain ⟨t3,r3,et3,eh3,er3⟩:=pr9.get ex2
     cases et3
     rw [er2] at er3
     cases er3
     refine ⟨t2,_,_,_,rfl,rfl,SqT.of eh3,Zaj (j:=0) rfl,ro,_,_,rfl,rfl,ero9,by rw [List.length_map];omega,?_⟩
     have k10:=ZaM (o:=.lst ((front++[c]).map V.int++[.int y])) ero9
     have adj:Adj (lk.map (road rs)) c y:=near_adj.mpr ⟨x,hm0⟩
     have hlt:∀ r∈lk.map (road rs),r.1<r.2:=λr hr=>by
      obtain ⟨z,hz,rfl⟩:=List.mem_map.mp hr
      exact (g.2.2.2.1 _ (Zcr (hlk z hz))).2.1
     have least:∀ y',Adj (lk.map (road rs)) c y'->y<=y':=λy' a=>by
      obtain ⟨x',hx'⟩:=near_adj.mp a
      have:=lst _ hx'
      rw [<-Bool.not_eq_true,ltP_iff] at this
      dsimp only at this
      omega
     have erd:road rs x=Zb3 c y:=by
      have:=(g.2.2.2.1 _ (Zcr vx)).2.1
      unfold Zb3
      rcases hrd with e | e
      ·rw [e] at this ⊢
       dsimp only at this
       rw [if_neg (by omega),if_pos (by omega)]
      ·rw [e] at this ⊢
       dsimp only at this
       rw [if_pos (by omega),if_neg (by omega)]
     have eer:(lk.map (road rs)).erase (Zb3 c y)=(lk.erase x).map (road rs):=by
      rw [<-erd]
      exact Zdr g hlk vx
     have hll:(lk.erase x).length+1=lk.length:=by
      rw [List.length_erase_of_mem hxl]
      have:=List.length_pos_of_mem hxl
      omega
     refine ⟨(lk.erase x).length+1,by omega,nb,lk.erase x,front++[c],y,pre++[y],_,rfl,s9.put hHro,Zal ela9 hne,by rw [Zab,List.map_append (l₁:=front++[c])];rfl,by rw [efp];rfl,λz hz=>hlk z (List.mem_of_mem_erase hz),by rw [List.length_append,List.length_singleton];omega,λtl rest h=>?_,.inr (.inl ⟨ys,_,Zal enb9 (Ne.symm nbr),pr9.keep k10,hpp,rfl⟩)⟩
     have:=cont (y::tl) rest (.go adj least (by rw [eer];exact h))
     rw [List.append_assoc]
     exact this
  ·refine ⟨_,rfl,ZbC ?_⟩
   have wk:=cont [] _ (.stop no)
   rw [List.append_nil] at wk
   rw [efp] at ero
   exact ⟨_,rfl,q ro pre _ H5 (s4.trans s5) hHro (s5 _ _ ero) wk⟩
end
end M
namespace M
open PySem L2
section
variable {P:Program} {w:World} {K:PySem.W.Frag} {mg:Str->Option Value} {base:Heap}
def Zk5:Sp:=λvs H Q _=>∃ (wb l kl:Addr) (k p q:Int) (xs:List V) (rs:List (Int×Int)) (ks:List Int),vs=[.ref wb,.int p,.int q,.ref kl]/\WebAt H wb l k xs rs/\ZaA k rs/\H kl=some (.lst (ks.map V.int))/\ks.length<=200 /\
 (¬ (Zbr rs ks/\ZhT rs ks k p q)->∀ H',Same H H'->Q .non H')/\(Zbr rs ks->ZhT rs ks k p q->∀ (tl:List Int) (rest:List (Int×Int)),Wk (ks.map (road rs)) p tl rest->(tl.length=ks.length->∀ (r:Addr) (H':Hp),Same H H'->H r=none->H' r=some (.lst ((p::tl).map V.int))->Q (.ref r) H')/\(tl.length≠ks.length->∀ H',Same H H'->Q .non H'))
theorem scOpe:Zav ["web", "one", "other", "roads", "place", "many", "row"] ["web", "one", "other", "roads"] (Zae Zjl):=⟨rfl,rfl,rfl,by decide +kernel,rfl,by decide +kernel,by decide +kernel⟩
theorem Zmc (x:Int):inV (.int x) [.int 1]=decide (x∈[(1:Int)]):=ZbZ x [1]
theorem Ziw (x:Int):inV (.int x) [.int 0,.int 2]=decide (x∈[(0:Int),2]):=ZbZ x [0,2]
theorem Zg3 (p:Int) (tl ks:List Int):decide (V.int (((p::tl).map V.int).length:Int)=V.int (((ks.map V.int).length:Int)+1))=decide (tl.length=ks.length):=by
 rw [List.length_map,List.length_map,List.length_cons]
 by_cases h:tl.length=ks.length
 ·rw [decide_eq_true h,decide_eq_true (congrArg V.int (by omega))]
 ·rw [decide_eq_false h,decide_eq_false (λz=>h (by have:=V.int.inj z;omega))]
theorem Zk6 {f fI fA fK:Addr} {fd fdI fdA fdK:FuncData} (F:Fun K "_law_open" "_law_open" Zjl f fd) (FI:Fun K "_law_is_set" "_law_is_set" Zig fI fdI) (bI:Binds K fdI ["web", "roads"] []) (mI:mg "_law_is_set" = some (.ref fI)) (FA:Fun K "_law_at" "_law_at" Zih fA fdA) (bA:Binds K fdA ["web", "roads", "place"] []) (mA:mg "_law_at" = some (.ref fA))
  (FK:Fun K "_law_walk" "_law_walk" ZgL fK fdK) (bK:Binds K fdK ["web", "roads", "place"] []) (mK:mg "_law_walk" = some (.ref fK)) (mRange:mg "range" = none) (mLen:mg "len" = none) (mInt:mg "int" = none) (mLst:mg "list" = none) (mMin:mg "min" = none):ZaK P w K mg base CX0 2 f fd ["web", "one", "other", "roads"] Zk5:=by
 have GI:ZaK P w K mg base CX0 1 fI fdI ["web", "roads"] ZjD:=Zit FI mRange mLen
 have GA:ZaK P w K mg base CX0 1 fA fdA ["web", "roads", "place"] ZjE:=Ziu FA mLen
 have GK:ZaK P w K mg base CX0 1 fK fdK ["web", "roads", "place"] ZjF:=Ziv FK mLst mMin
 refine F.ok scOpe (λvs H Q E h=>?_) (λcdv A outer s H vs Q E hr h=>?_)
 ·obtain ⟨_,_,_,_,_,_,_,_,_,rfl,_⟩:=h
  rfl
 ·obtain ⟨wb,l,kl,k,p,q',xs,rs,ks,rfl,W,g,hk,hkl,hno,hyes⟩:=h
  have h16:(16777216:Nat)=sizeLine:=sizeLine_eq.symm
  have n1:1<=sizeLine:=by omega
  have hx:xs.length<=30:=by rw [W.p.len];exact g.2.2.1
  refine ⟨_,Zad (ZaP (Zbu (ZaZ (Zai GI (hr.mono (by decide)) rfl mI FI.kp bI .nil ZaD (Zaa (pv 0) (Zaa (pv 3) Zac))))) (Zag (Zas Zbs)) Zax)
    (Zad (Zbg PassesOwn.never rfl (ZaT rfl mRange (Zaa (Zaw (Zcd K) (pv 0) Zaf (λ_ _=>rfl)) Zac)) (Zay (i:=4) scOpe.nd rfl (Or.inl rfl))
    (Zad (Zat (i:=5) scOpe.nd rfl (Or.inl rfl) (Zai GA (hr.mono (by decide)) rfl mA FA.kp bA .nil ZaD (Zaa (pv 0) (Zaa (pv 3) (Zaa (pv 4) Zac)))))
    (Zag (ZaP (Zam (Zge K) (pv 5) (Zaw (Zbf K) (ZaE (Zaa (ZaE (Zaa Zaf (Zaa Zaf Zac))) (Zaa (ZaE (Zaa Zaf Zac)) Zac))) (ZaL Za0 rfl mInt Za5 (Zaa (Zlo (ZaV Zbv (pv 4) (pv 1) (Zau _)) (ZeM (ZaV Zbv (pv 4) (pv 2) (Zau _)))) Zac)) (λ_ _=>rfl)) (by with_unfolding_all rfl)) (Zag (Zas Zbs)) Zax))))
    (Zad (Zat (i:=6) scOpe.nd rfl (Or.inl rfl) (Zai GK (hr.mono (by decide)) rfl mK FK.kp bK .nil ZaD (Zaa (pv 0) (Zaa (pv 3) (Zaa (pv 1) Zac)))))
    (Zag (Zas (Zaw (Zbf K) (ZaE (Zaa Zbs (Zaa (pv 6) Zac))) (ZaL Za0 rfl mInt Za5 (Zaa (ZaV Zbv (Zak (Zdk K) rfl mLen PySem.boot_len (Zaa (pv 6) Zac)) (Zaq ZaH (Zak (Zdk K) rfl mLen PySem.boot_len (Zaa (pv 3) Zac)) Zaf) (Zau _)) Zac)) (λ_ _=>rfl)))))),?_⟩
  refine ⟨_,rfl,_,rfl,wb,l,kl,k,xs,rs,ks,rfl,W,hx,hk,hkl,λb hb=>⟨_,rfl,?_⟩⟩
  cases b with
  | false=>exact Zcu (hno (λz=>absurd (hb.mpr z.1) Bool.false_ne_true) H (Same.refl _))
  | true=>
  refine ZbC ?_
  have S:=hb.mp rfl
  dsimp only [ZcD]
  obtain ⟨kn,hkn⟩:=Int.eq_ofNat_of_zero_le (show 0<=k by have:=g.1;omega)
  have hk16:=g.2.1
  refine ⟨_,rfl,wb,_,_,_,rfl,rfl,SqT.of W.w,Zaj (j:=0) rfl,_,rfl,by omega,by omega,?_⟩
  rw [hkn,Int.toNat_natCast]
  refine Za6 (lo:=0) (n:=kn) (λi σ' H'=>∃ v4 v5:Option V,σ'=[some (.ref wb),some (.int p),some (.int q'),some (.ref kl),v4,v5,none]/\Same H H'/\∀ j:Nat,j<i->if (j:Int)=p\/(j:Int)=q' then degK rs ks (j:Int)=1 else degK rs ks (j:Int)=0\/degK rs ks (j:Int)=2) ⟨none,none,rfl,Same.refl _,λj hj=>absurd hj (Nat.not_lt_zero j)⟩ ?_ ?_
  ·rintro i σ' H1 hi ⟨v4,v5,rfl,s1,up⟩
   rw [Int.zero_add]
   have bad:¬ (if (i:Int)=p\/(i:Int)=q' then degK rs ks (i:Int)=1 else degK rs ks (i:Int)=0\/degK rs ks (i:Int)=2)->∀ H',Same H H'->Q .non H':=λz H' s'=>hno (λy=>z (y.2 (i:Int) (by omega) (by omega))) H' s'
   have good:(if (i:Int)=p\/(i:Int)=q' then degK rs ks (i:Int)=1 else degK rs ks (i:Int)=0\/degK rs ks (i:Int)=2)->∀ j:Nat,j<i+1->if (j:Int)=p\/(j:Int)=q' then degK rs ks (j:Int)=1 else degK rs ks (j:Int)=0\/degK rs ks (j:Int)=2:=λz j hj=>by
    by_cases e:j=i
    ·subst e;exact z
    ·exact up j (by omega)
   refine ⟨_,rfl,_,rfl,_,rfl,wb,l,kl,k,(i:Int),xs,rs,ks,rfl,W.same s1,s1 _ _ hk,hkl,S.2,λH2 s2=>?_⟩
   have S2:=s1.trans s2
   refine ⟨_,rfl,ZaG,λa1 h1=>?_⟩
   have s3:Same H2 (upd H2 a1 (.lst [.int 0,.int 2])):=Same.new h1
   have e1:upd H2 a1 (.lst [.int 0,.int 2]) a1=some (.lst [.int 0,.int 2]):=Zab
   generalize upd H2 a1 (.lst [.int 0,.int 2])=H3 at s3 e1 ⊢
   refine ⟨n1,λa2 h2=>?_⟩
   have s4:Same H3 (upd H3 a2 (.lst [.int 1])):=Same.new h2
   have e2:upd H3 a2 (.lst [.int 1]) a2=some (.lst [.int 1]):=Zab
   generalize upd H3 a2 (.lst [.int 1])=H4 at s4 e2 ⊢
   refine ⟨ZaG,λa3 h3=>?_⟩
   have s5:Same H4 (upd H4 a3 (.lst [.ref a1,.ref a2])):=Same.new h3
   have e3:upd H4 a3 (.lst [.ref a1,.ref a2]) a3=some (.lst [.ref a1,.ref a2]):=Zab
   generalize upd H4 a3 (.lst [.ref a1,.ref a2])=H5 at s5 e3 ⊢
   have S5:=S2.trans ((s3.trans s4).trans s5)
   have e15:=s5 _ _ (s4 _ _ e1)
   have e25:=s5 _ _ e2
   have two:(((i:Int)=p\/(i:Int)=q'))->(if (!inV (.int (degK rs ks (i:Int):Nat)) [.int 1])=true then Q .non H5 else ∃ v4 v5:Option V,([some (.ref wb),some (.int p),some (.int q'),some (.ref kl),some (.int (i:Int)),some (.int (degK rs ks (i:Int):Nat)),none]:St)=[some (.ref wb),some (.int p),some (.int q'),some (.ref kl),v4,v5,none]/\Same H H5/\∀ j:Nat,j<i+1->if (j:Int)=p\/(j:Int)=q' then degK rs ks (j:Int)=1 else degK rs ks (j:Int)=0\/degK rs ks (j:Int)=2):=λz=>by
    rw [Zmc]
    refine Zbn (λy=>bad (λu=>?_) H5 S5) (λy=>⟨_,_,rfl,S5,good ?_⟩)
    ·rw [if_pos z] at u
     rw [u] at y
     exact absurd y (by decide)
    ·rw [if_pos z]
     have:((degK rs ks (i:Int):Nat):Int)∈[(1:Int)]:=by
      by_cases d:((degK rs ks (i:Int):Nat):Int)∈[(1:Int)]
      ·exact d
      ·rw [decide_eq_false d] at y
       exact absurd rfl y
     rw [List.mem_singleton] at this
     omega
   refine ⟨_,rfl,_,rfl,rfl,_,rfl,Zbn (λc1=>?_) (λc1=>?_)⟩
   ·have c1:(i:Int)=p:=V.int.inj (of_decide_eq_true c1)
    exact .inr ⟨true,rfl,a3,_,_,_,rfl,rfl,SqL.of e3,Zaj (j:=1) rfl,a2,_,rfl,.inl (SqL.of e25),rfl,rfl,_,rfl,two (.inl c1)⟩
   have c1:¬ (i:Int)=p:=λz=>c1 (decide_eq_true (congrArg V.int z))
   refine ⟨_,rfl,_,rfl,rfl,?_⟩
   by_cases c2:(i:Int)=q'
   ·rw [decide_eq_true (congrArg V.int c2)]
    exact .inr ⟨true,rfl,a3,_,_,_,rfl,rfl,SqL.of e3,Zaj (j:=1) rfl,a2,_,rfl,.inl (SqL.of e25),rfl,rfl,_,rfl,two (.inr c2)⟩
   ·rw [decide_eq_false (λz=>c2 (V.int.inj z))]
    refine .inr ⟨false,rfl,a3,_,_,_,rfl,rfl,SqL.of e3,Zaj (j:=0) rfl,a1,_,rfl,.inl (SqL.of e15),rfl,rfl,_,rfl,?_⟩
    show if (!inV (.int (degK rs ks (i:Int):Nat)) [.int 0,.int 2])=true then _ else _
    rw [Ziw]
    have z:¬ ((i:Int)=p\/(i:Int)=q'):=λy=>y.elim c1 c2
    refine Zbn (λy=>bad (λu=>?_) H5 S5) (λy=>⟨_,_,rfl,S5,good ?_⟩)
    ·rw [if_neg z] at u
     rcases u with u | u
     ·rw [u] at y;exact absurd y (by decide)
     ·rw [u] at y;exact absurd y (by decide)
    ·rw [if_neg z]
     have:((degK rs ks (i:Int):Nat):Int)∈[(0:Int),2]:=by
      by_cases d:((degK rs ks (i:Int):Nat):Int)∈[(0:Int),2]
      ·exact d
      ·rw [decide_eq_false d] at y
       exact absurd rfl y
     rcases List.mem_cons.mp this with u | u
     ·left;omega
     ·rw [List.mem_singleton] at u
      right;omega
  ·rintro σ' H1 ⟨v4,v5,rfl,s1,up⟩
   have D:ZhT rs ks k p q':=λx x0 x1=>by
    have:=up x.toNat (by omega)
    rw [Int.toNat_of_nonneg x0] at this
    exact this
   refine ⟨_,rfl,_,rfl,_,rfl,wb,l,kl,k,p,xs,rs,ks,rfl,W.same s1,g,s1 _ _ hk,hkl,S.2,λr tl rest H2 s2 hr0 er wk=>?_⟩
   obtain ⟨y1,y2⟩:=hyes S D tl rest wk
   refine ⟨_,rfl,ZaG,λa1 h1=>?_⟩
   have s3:Same H2 (upd H2 a1 (.lst [.non,.ref r])):=Same.new h1
   have e1:upd H2 a1 (.lst [.non,.ref r]) a1=some (.lst [.non,.ref r]):=Zab
   generalize upd H2 a1 (.lst [.non,.ref r])=H3 at s3 e1 ⊢
   have S3:=(s1.trans s2).trans s3
   refine ⟨_,rfl,r,_,rfl,.inl (SqL.of (s3 _ _ er)),_,rfl,kl,_,rfl,.inl (SqL.of (S3 _ _ hk)),_,_,rfl,rfl,rfl,?_⟩
   show (∃ i,[V.bl (decide (V.int (((p::tl).map V.int).length:Int)=V.int (((ks.map V.int).length:Int)+1)))]=[V.int i]/\_)\/∃ c,[V.bl (decide (V.int (((p::tl).map V.int).length:Int)=V.int (((ks.map V.int).length:Int)+1)))]=[V.bl c]/\_
   rw [Zg3]
   by_cases e:tl.length=ks.length
   ·rw [decide_eq_true e]
    exact .inr ⟨true,rfl,a1,_,_,_,rfl,rfl,SqL.of e1,Zaj (j:=1) rfl,y1 e r H3 S3 (s1.free hr0) (s3 _ _ er)⟩
   ·rw [decide_eq_false e]
    exact .inr ⟨false,rfl,a1,_,_,_,rfl,rfl,SqL.of e1,Zaj (j:=0) rfl,y2 e H3 S3⟩
end
end M
namespace M
open PySem L2
section
variable {P:Program} {w:World} {K:PySem.W.Frag} {mg:Str->Option Value} {base:Heap}
def Zk7:Sp:=λvs H Q _=>∃ (wb l kl:Addr) (k:Int) (xs:List V) (rs:List (Int×Int)) (ks:List Int),vs=[.ref wb,.ref kl]/\WebAt H wb l k xs rs/\ZaA k rs/\H kl=some (.lst (ks.map V.int))/\ks.length<=200 /\
 (¬ (Zbr rs ks/\3<=ks.length/\ZhV rs ks k)->∀ H',Same H H'->Q .non H')/\(Zbr rs ks->3<=ks.length->ZhV rs ks k->∀ (s:Int) (tl:List Int) (rest:List (Int×Int)),Begins (ks.map (road rs)) s->Wk (ks.map (road rs)) s tl rest->(tl.length=ks.length->∀ (r:Addr) (H':Hp),Same H H'->H r=none->H' r=some (.lst ((s::tl).dropLast.map V.int))->Q (.ref r) H')/\(tl.length≠ks.length->∀ H',Same H H'->Q .non H'))
theorem scRin:Zav ["web", "roads", "row"] ["web", "roads"] (Zae Zii):=⟨rfl,rfl,rfl,by decide +kernel,rfl,by decide +kernel,by decide +kernel⟩
theorem ZjG {K:PySem.W.Frag} {H:Hp} {a e:Addr} {ns:List Int} {Q:VK} (ha:H a=some (.lst (ns.map V.int))) (he:H e=some (.lst [])) (q:Q (.bl (!decide (ns=[]))) H):ZiP K true (.ref a) (.ref e) H Q:=by
 refine ⟨.list (ns.map PyData.int),.list (([]:List Int).map PyData.int),.lst (SqL.of ha) (ZaF _),.lst (SqL.of he) .nil,Zaz _,Zaz _,?_⟩
 rw [Zbb]
 have:(true != decide (ns=[]))=!decide (ns=[]):=by cases decide (ns=[]) <;> rfl
 rw [this]
 exact q
theorem Zk8 {f fI fA fK:Addr} {fd fdI fdA fdK:FuncData} (F:Fun K "_law_ring" "_law_ring" Zii f fd) (FI:Fun K "_law_is_set" "_law_is_set" Zig fI fdI) (bI:Binds K fdI ["web", "roads"] []) (mI:mg "_law_is_set" = some (.ref fI)) (FA:Fun K "_law_at" "_law_at" Zih fA fdA) (bA:Binds K fdA ["web", "roads", "place"] []) (mA:mg "_law_at" = some (.ref fA))
  (FK:Fun K "_law_walk" "_law_walk" ZgL fK fdK) (bK:Binds K fdK ["web", "roads", "place"] []) (mK:mg "_law_walk" = some (.ref fK)) (mRange:mg "range" = none) (mLen:mg "len" = none) (mInt:mg "int" = none) (mLst:mg "list" = none) (mMin:mg "min" = none):ZaK P w K mg base CX0 2 f fd ["web", "roads"] Zk7:=by
 have GI:ZaK P w K mg base CX0 1 fI fdI ["web", "roads"] ZjD:=Zit FI mRange mLen
 have GA:ZaK P w K mg base CX0 1 fA fdA ["web", "roads", "place"] ZjE:=Ziu FA mLen
 have GK:ZaK P w K mg base CX0 1 fK fdK ["web", "roads", "place"] ZjF:=Ziv FK mLst mMin
 refine F.ok scRin (λvs H Q E h=>?_) (λcdv A outer s H vs Q E hr h=>?_)
 ·obtain ⟨_,_,_,_,_,_,_,rfl,_⟩:=h
  rfl
 ·obtain ⟨wb,l,kl,k,xs,rs,ks,rfl,W,g,hk,hkl,hno,hyes⟩:=h
  have h16:(16777216:Nat)=sizeLine:=sizeLine_eq.symm
  have hu:(A.deeper (PyProof.Rows.envOfC "_law_ring" (Zae Zii) s.heap.objs.size f cdv)).units+64<cLine:=by have:=hr.un;omega
  have hx:xs.length<=30:=by rw [W.p.len];exact g.2.2.1
  refine ⟨_,Zad (ZaP (PW.pt (Zb2 (Zbu (ZaZ (Zai GI (hr.mono (by decide)) rfl mI FI.kp bI .nil ZaD (Zaa (pv 0) (Zaa (pv 1) Zac))))) (ZbJ (Zam Zeq (Zak (Zdk K) rfl mLen PySem.boot_len (Zaa (pv 1) Zac)) Zaf (Zau _))))) (Zag (Zas Zbs)) Zax)
    (Zad (ZaP (Zam (Zg6 K hu) (Zbd (own:=["place"]) rfl (ZaC (fr:=[("web", 0),("roads", 1)]) [(".0", .local),("place", .local),("_law_at", .globalImplicit),("roads", .cell),("web", .cell)] rfl rfl (by decide +kernel) rfl (by decide +kernel) ⟨rfl,rfl,trivial⟩ ⟨λh=>Za2 h,λh=>Za2 h,λh=>Za2 h,λ_=>⟨_,rfl⟩,λ_=>⟨_,rfl⟩,trivial⟩ ⟨⟨rfl,.inl rfl,.inl rfl⟩,⟨rfl,.inl rfl,.inl rfl⟩,trivial⟩) (ZaT rfl mRange (Zaa (Zaw (Zcd K) (pv 0) Zaf (λ_ _=>rfl)) Zac)) (λ_ _ _ _=>Zay (i:=0) (show List.Nodup (["place", "web", "roads"]:List Str) by decide +kernel) rfl (Or.inl rfl)) (λ_ _ _ _=>Zba (Zam (Zge K) (Zai GA (hr.mono (by decide)) rfl mA FA.kp bA .nil ZaD (Zaa (pv 1) (Zaa (pv 2) (Zaa (pv 0) Zac)))) (ZaE (Zaa Zaf (Zaa Zaf Zac))) (by with_unfolding_all rfl))) (λ_ _ _ _=>pv 0)) (ZaE Zac) (Zau _)) (Zag (Zas Zbs)) Zax)
    (Zad (Zat (i:=2) scRin.nd rfl (Or.inl rfl) (Zai GK (hr.mono (by decide)) rfl mK FK.kp bK .nil ZaD (Zaa (pv 0) (Zaa (pv 1) (Zaa (Zak (ZmB K rfl) rfl mMin Zby (Zaa (Zbd (own:=["k"]) rfl (ZaC (fr:=[("web", 0)]) [(".0", .local),("k", .local),("min", .globalImplicit),("web", .cell)] rfl rfl (by decide +kernel) rfl (by decide +kernel) ⟨rfl,trivial⟩ ⟨λh=>Za2 h,λh=>Za2 h,λh=>Za2 h,λ_=>⟨_,rfl⟩,trivial⟩ ⟨⟨rfl,.inl rfl,.inl rfl⟩,trivial⟩) (Zci K (pv 1)) (λ_ _ _ _=>Zay (i:=0) (show List.Nodup (["k", "web"]:List Str) by decide +kernel) rfl (Or.inl rfl)) (λ_ _ _ _=>ZcH) (λ_ _ _ _=>Zak (Zl0 K rfl) rfl mMin Zby (Zaa (Zaw (Zbf K) (Zaw (Zcd K) (pv 1) Zaf (λ_ _=>rfl)) (pv 0) (λ_ _=>rfl)) Zac))) Zac)) Zac)))))
    (Zag (Zas (Zaw (Zbf K) (ZaE (Zaa Zbs (Zaa (Za9 (kSl K) (pv 2) ZbB (Zbm (ZbL ZaU Zaf))) Zac))) (ZaL Za0 rfl mInt Za5 (Zaa (ZaV Zbv (Zak (Zdk K) rfl mLen PySem.boot_len (Zaa (pv 2) Zac)) (Zaq ZaH (Zak (Zdk K) rfl mLen PySem.boot_len (Zaa (pv 1) Zac)) Zaf) (Zau _)) Zac)) (λ_ _=>rfl)))))),?_⟩
  refine ⟨_,rfl,_,rfl,wb,l,kl,k,xs,rs,ks,rfl,W,hx,hk,by omega,λb hb=>⟨_,rfl,?_⟩⟩
  cases b with
  | false=>exact Zcu (Zcu (hno (λz=>absurd (hb.mpr z.1) Bool.false_ne_true) H (Same.refl _)))
  | true=>
  refine ZbC ?_
  have S:=hb.mp rfl
  refine ⟨_,rfl,kl,_,rfl,.inl (SqL.of hk),_,_,rfl,rfl,_,rfl,?_⟩
  rw [List.length_map]
  refine Zbn (λc=>?_) (λc=>?_)
  ·have c:=of_decide_eq_true c
   exact hno (λz=>by have:=z.2.1;omega) H (Same.refl _)
  have h3:3<=ks.length:=by
   have:¬ ((ks.length:Nat):Int)<3:=λz=>c (decide_eq_true z)
   omega
  dsimp only [ZcD]
  obtain ⟨kn,hkn⟩:=Int.eq_ofNat_of_zero_le (show 0<=k by have:=g.1;omega)
  have hk16:=g.2.1
  refine ⟨_,rfl,wb,_,_,_,rfl,rfl,SqT.of W.w,Zaj (j:=0) rfl,_,rfl,by omega,by omega,λD hD=>?_⟩
  rw [hkn,Int.toNat_natCast]
  refine Zcv (lo:=0) (n:=kn) (λi ys H'=>Same H H'/\H' D=some (.lst ys)/\∃ bs:List Int,ys=bs.map V.int/\bs.length<=i/\(bs=[]↔∀ j:Nat,j<i->degK rs ks (j:Int)=0\/degK rs ks (j:Int)=2)) ⟨Same.new hD,Zab,[],rfl,Nat.le_refl _,λ_ j hj=>absurd hj (Nat.not_lt_zero j),λ_=>rfl⟩ ?_ ?_
  ·rintro i ys H1 hi ⟨s1,hD1,bs,rfl,hbl,hbs⟩
   rw [Int.zero_add]
   refine ⟨⟨rfl,rfl,trivial⟩,?_⟩
   refine ⟨_,rfl,_,rfl,_,rfl,wb,l,kl,k,(i:Int),xs,rs,ks,rfl,W.same s1,s1 _ _ hk,by omega,S.2,λH2 s2=>?_⟩
   refine ⟨ZaG,λa1 h1=>?_⟩
   have s3:Same H2 (upd H2 a1 (.lst [.int 0,.int 2])):=Same.new h1
   have e1:upd H2 a1 (.lst [.int 0,.int 2]) a1=some (.lst [.int 0,.int 2]):=Zab
   generalize upd H2 a1 (.lst [.int 0,.int 2])=H3 at s3 e1 ⊢
   have S3:=s1.trans (s2.trans s3)
   have hD3:=s3 _ _ (s2 _ _ hD1)
   refine ⟨a1,_,rfl,.inl (SqL.of e1),rfl,rfl,_,rfl,?_⟩
   show if (!inV (.int (degK rs ks (i:Int):Nat)) [.int 0,.int 2])=true then _ else _
   rw [Ziw]
   refine Zbn (λy=>?_) (λy=>?_)
   ·refine ⟨_,rfl,hD3,by rw [List.length_map];omega,S3.put hD,Zab,bs++[(i:Int)],by rw [List.map_append];rfl,by rw [List.length_append,List.length_singleton];omega,λz=>absurd z (by simp),λz=>?_⟩
    have:=z i (by omega)
    rcases this with u | u
    ·rw [u] at y;exact absurd y (by decide)
    ·rw [u] at y;exact absurd y (by decide)
   ·refine ⟨S3,hD3,bs,rfl,by omega,λz j hj=>?_,λz=>hbs.mpr λj hj=>z j (by omega)⟩
    by_cases e:j=i
    ·subst e
     have:((degK rs ks (j:Int):Nat):Int)∈[(0:Int),2]:=by
      by_cases d:((degK rs ks (j:Int):Nat):Int)∈[(0:Int),2]
      ·exact d
      ·rw [decide_eq_false d] at y
       exact absurd rfl y
     rcases List.mem_cons.mp this with u | u
     ·left;omega
     ·rw [List.mem_singleton] at u
      right;omega
    ·exact hbs.mp z j (by omega)
  ·rintro ys H1 ⟨s1,hD1,bs,rfl,hbl,hbs⟩
   refine ⟨Nat.zero_le _,λe0 he0=>?_⟩
   have s2:Same H1 (upd H1 e0 (.lst [])):=Same.new he0
   have ee0:upd H1 e0 (.lst []) e0=some (.lst []):=Zab
   generalize upd H1 e0 (.lst [])=H2 at s2 ee0 ⊢
   have S2:=s1.trans s2
   refine ZjG (s2 _ _ hD1) ee0 ⟨_,rfl,?_⟩
   by_cases hb0:bs=[]
   ·rw [decide_eq_true hb0]
    refine ZbC ?_
    have DC:ZhV rs ks k:=λx x0 x1=>by
     have:=hbs.mp hb0 x.toNat (by omega)
     rw [Int.toNat_of_nonneg x0] at this
     exact this
    dsimp only [ZcD]
    have W2:=W.same S2
    have hk2:=S2 _ _ hk
    refine ⟨_,rfl,_,rfl,_,rfl,kl,rfl,⟨_,SqL.of hk2⟩,λD2 hD2=>?_⟩
    refine Za1 (K:=K) (a:=kl) (xs:=ks.map V.int) (λi ys H'=>Same H2 H'/\H' D2=some (.lst ys)/\ys=((ks.take i).map λx=>(road rs x).1).map V.int) ⟨Same.new hD2,Zab,rfl⟩ (λi ys H' _ ⟨s3,_⟩=>SqL.of (s3 _ _ hk2)) ?_ ?_
    ·rintro i x ys H3 hxi ⟨s3,hD3,rfl⟩
     rw [List.getElem?_map] at hxi
     cases hz:ks[i]? with
     | none=>rw [hz] at hxi;cases hxi
     | some z=>
      rw [hz] at hxi
      cases hxi
      have hi:i<ks.length:=(List.getElem?_eq_some_iff.mp hz).1
      have W3:=W2.same s3
      have vz:=S.2 z (List.mem_of_getElem? hz)
      obtain ⟨t,et,eh⟩:=ZeL W3 vz
      have hg:=(g.2.2.2.1 _ (Zcr vz)).2.1
      refine ⟨⟨rfl,trivial⟩,?_⟩
      unfold Zka
      refine Zcu ?_
      refine ⟨_,rfl,wb,_,_,_,rfl,rfl,SqT.of W3.w,Zaj (j:=1) rfl,_,rfl,l,_,_,_,rfl,rfl,SqL.of W3.l,et,t,[(road rs z).1,(road rs z).2],rfl,SqT.of eh,by simp,λm hm hle=>?_⟩
      have em:m=(road rs z).1:=by
       have h1:=hle (road rs z).1 (List.mem_cons_self ..)
       rcases List.mem_cons.mp hm with e | e
       ·exact e
       ·rw [List.mem_singleton] at e
        omega
      subst em
      refine ⟨hD3,by rw [List.length_map,List.length_map,List.length_take];omega,s3.put hD2,Zab,?_⟩
      rw [List.take_add_one,hz,List.map_append,List.map_append]
      rfl
    ·rintro ys H3 ⟨s3,hD3,rfl⟩
     rw [List.length_map,List.take_length] at hD3
     refine ⟨D2,ks.map λx=>(road rs x).1,rfl,SqL.of hD3,λz=>?_,λm hm hle=>?_⟩
     ·rw [List.map_eq_nil_iff] at z
      rw [z] at h3
      exact absurd h3 (by decide)
     have B:Begins (ks.map (road rs)) m:=by
      obtain ⟨x,hx',e⟩:=List.mem_map.mp hm
      refine ⟨λt ht=>?_,road rs x,List.mem_map.mpr ⟨x,hx',rfl⟩,e⟩
      obtain ⟨y,hy,rfl⟩:=List.mem_map.mp ht
      exact hle _ (List.mem_map.mpr ⟨y,hy,rfl⟩)
     refine ⟨wb,l,kl,k,m,xs,rs,ks,rfl,W2.same s3,g,s3 _ _ hk2,by omega,S.2,λr tl rest H4 s4 hr0 er wk=>?_⟩
     obtain ⟨y1,y2⟩:=hyes S h3 DC m tl rest B wk
     refine ⟨_,rfl,_,rfl,_,rfl,r,_,rfl,SqL.of er,λpl hpl=>?_⟩
     rw [Zis]
     have s5:Same H4 (upd H4 pl (.lst ((m::tl).dropLast.map V.int))):=Same.new hpl
     have epl:upd H4 pl (.lst ((m::tl).dropLast.map V.int)) pl=some (.lst ((m::tl).dropLast.map V.int)):=Zab
     generalize upd H4 pl (.lst ((m::tl).dropLast.map V.int))=H5 at s5 epl ⊢
     have S4:=S2.trans (s3.trans s4)
     refine ⟨ZaG,λa1 h1=>?_⟩
     have s6:Same H5 (upd H5 a1 (.lst [.non,.ref pl])):=Same.new h1
     have e1:upd H5 a1 (.lst [.non,.ref pl]) a1=some (.lst [.non,.ref pl]):=Zab
     generalize upd H5 a1 (.lst [.non,.ref pl])=H6 at s6 e1 ⊢
     have S6:=S4.trans (s5.trans s6)
     refine ⟨_,rfl,r,_,rfl,.inl (SqL.of (s6 _ _ (s5 _ _ er))),_,rfl,kl,_,rfl,.inl (SqL.of (S6 _ _ hk)),_,_,rfl,rfl,rfl,?_⟩
     show (∃ i,[V.bl (decide (V.int (((m::tl).map V.int).length:Int)=V.int (((ks.map V.int).length:Int)+1)))]=[V.int i]/\_)\/∃ c,[V.bl (decide (V.int (((m::tl).map V.int).length:Int)=V.int (((ks.map V.int).length:Int)+1)))]=[V.bl c]/\_
     rw [Zg3]
     by_cases e:tl.length=ks.length
     ·rw [decide_eq_true e]
      exact .inr ⟨true,rfl,a1,_,_,_,rfl,rfl,SqL.of e1,Zaj (j:=1) rfl,y1 e pl H6 S6 (S4.free hpl) (s6 _ _ epl)⟩
     ·rw [decide_eq_false e]
      exact .inr ⟨false,rfl,a1,_,_,_,rfl,rfl,SqL.of e1,Zaj (j:=0) rfl,y2 e H6 S6⟩
   ·rw [decide_eq_false hb0]
    refine Zcu (hno (λz=>hb0 (hbs.mpr λj hj=>z.2.2 (j:Int) (by omega) (by omega))) H2 S2)
end
end M
namespace M
open PySem L2
structure ZmF (K:PySem.W.Frag) (mg:Str->Option Value) (C NW way a1 a2 a3 a4 a5 a6 a7 a8 a9 a10 a11:Addr):Prop where
 kC:Zkd K C
 kN:Zkd K NW
 mC:mg "NoEnds" = some (.ref C)
 mN:mg "NoWay" = some (.ref NW)
 mway:mg "WayError" = some (.ref way)
 m1:mg "NoName" = some (.ref a1)
 m2:mg "NoNumber" = some (.ref a2)
 m3:mg "NoOrder" = some (.ref a3)
 m4:mg "NoPlace" = some (.ref a4)
 m5:mg "NoRow" = some (.ref a5)
 m6:mg "NoStep" = some (.ref a6)
 m7:mg "NoTable" = some (.ref a7)
 m8:mg "NoText" = some (.ref a8)
 m9:mg "NoWall" = some (.ref a9)
 m10:mg "NoWeb" = some (.ref a10)
 m11:mg "TooMany" = some (.ref a11)
 wbe:PySem.W.subIn K (.ref way) (.type "BaseException")=some true
 cC:PySem.W.kitOne K (.ref C) (.ref way)=some true
 cN:PySem.W.kitOne K (.ref NW) (.ref way)=some true
 nC:C≠way
 nN:NW≠way
 tC:PySem.W.kitAny K (.ref C) [.ref a1,.ref a2,.ref a3,.ref a4,.ref a5,.ref a6,.ref a7,.ref a8,.ref a9,.ref a10]=some false
 tN:PySem.W.kitAny K (.ref NW) [.ref a1,.ref a2,.ref a3,.ref a4,.ref a5,.ref a6,.ref a7,.ref a8,.ref a9,.ref a10]=some false
 uC:PySem.W.kitOne K (.ref C) (.ref a11)=some false
 uN:PySem.W.kitOne K (.ref NW) (.ref a11)=some false
 vC:PySem.W.kitOne K (.ref C) (.type "ValueError")=some true
 vN:PySem.W.kitOne K (.ref NW) (.type "ValueError")=some true
 wC:PySem.W.kitOne K (.ref C) (.ref NW)=some false
 wN:PySem.W.kitOne K (.ref NW) (.ref C)=some false
 isi:mg "isinstance" = none
 vee:mg "ValueError" = none
theorem Zcz {K:PySem.W.Frag} {no way:Addr} (h:PySem.W.kitOne K (.ref no) (.ref way)=some true) (ne:no≠way):PySem.W.kitCls K (.ref no) (.ref way)=some true:=by
 unfold PySem.W.kitOne at h
 rw [if_neg (by simpa using ne)] at h
 exact h
section
variable {P:Program} {w:World} {K:PySem.W.Frag} {mg:Str->Option Value} {base:Heap}
def Due (k:Int) (rs:List (Int×Int)) (ks:List Int) (dd:PyData):Option (Int×Int)->Prop
 | some (p,q)=>(¬ Ends k p q/\dd=.str "ends")\/(Ends k p q/\∀ (tl:List Int) (rest:List (Int×Int)),Wk (cho rs ks rs.length) p tl rest->(ZgY rs ks k p q tl->dd=.list ((p::tl).map PyData.int))/\(¬ ZgY rs ks k p q tl->dd=.str "way"))
 | none=>∀ (s:Int) (tl:List Int) (rest:List (Int×Int)),(cho rs ks rs.length≠[]->Begins (cho rs ks rs.length) s)->Wk (cho rs ks rs.length) s tl rest->(ZfI rs ks k tl->dd=.list ((s::tl).dropLast.map PyData.int))/\(¬ ZfI rs ks k tl->dd=.str "way")
def EndsAt (H:Hp) (ev:V) (en:Option (Int×Int)):Prop:=(ev=.non/\en=none)\/∃ (t:Addr) (p q:Int),ev=.ref t/\H t=some (.tup [.int p,.int q])/\en=some (p,q)
theorem EndsAt.same {H H':Hp} {ev:V} {en:Option (Int×Int)} (h:EndsAt H ev en) (s:Same H H'):EndsAt H' ev en:=by
 rcases h with h | ⟨t,p,q,a,b,c⟩
 ·exact .inl h
 ·exact .inr ⟨t,p,q,a,s _ _ b,c⟩
def Zk9:Sp:=λvs H Q _=>∃ (wb l kl:Addr) (ev:V) (en:Option (Int×Int)) (k:Int) (xs:List V) (rs:List (Int×Int)) (ks:List Int) (dd:PyData),vs=[.ref wb,ev,.ref kl]/\WebAt H wb l k xs rs/\ZaA k rs/\H kl=some (.lst (ks.map V.int))/\EndsAt H ev en/\Due k rs ks dd en /\
 (∀ (r:Addr) (ns:List Int) (H':Hp),Same H H'->H r=none->H' r=some (.lst (ns.map V.int))->ns.length<=40->dd=.list (ns.map PyData.int)->Q (.ref r) H')/\(∀ (x:Str) (H':Hp),Same H H'->dd=.str x->PyData.strOk x=true->Q (.str x) H')
theorem scTol:Zav ["web", "ends", "roads", "caught", "found", "e"] ["web", "ends", "roads"] (Zae Zjo):=⟨rfl,rfl,rfl,by decide +kernel,rfl,by decide +kernel,by decide +kernel⟩
theorem Zla {f fX fZ C NW way a1 a2 a3 a4 a5 a6 a7 a8 a9 a10 a11:Addr} {fd fdX fdZ:FuncData} (F:Fun K "_law_told" "_law_told" Zjo f fd) (T:ZmF K mg C NW way a1 a2 a3 a4 a5 a6 a7 a8 a9 a10 a11)
  (FX:Fun K "way_of" "way_of" Zie fX fdX) (bX:Binds K fdX ["web", "one", "other", "roads"] []) (mX:mg "way_of" = some (.ref fX)) (GX:ZaK P w K mg base (CXr P w) 5 fX fdX ["web", "one", "other", "roads"] (Zk1 C NW))
  (FZ:Fun K "closed_of" "closed_of" ZhJ fZ fdZ) (bZ:Binds K fdZ ["web", "roads"] []) (mZ:mg "closed_of" = some (.ref fZ)) (GZ:ZaK P w K mg base (CXr P w) 5 fZ fdZ ["web", "roads"] (Zk3 NW)) (mIsi:mg "isinstance" = none) (mInt:mg "int" = none):ZaK P w K mg base CX0 6 f fd ["web", "ends", "roads"] Zk9:=by
 refine F.ok scTol (λvs H Q E h=>?_) (λcdv A outer s H vs Q E hr h=>?_)
 ·obtain ⟨_,_,_,_,_,_,_,_,_,_,rfl,_⟩:=h
  rfl
 ·obtain ⟨wb,l,kl,ev,en,k,xs,rs,ks,dd,rfl,W,g,hk,he,due,qL,qS⟩:=h
  have h16:(16777216:Nat)=sizeLine:=sizeLine_eq.symm
  refine ⟨_,Zad (Zat (i:=3) scTol.nd rfl (Or.inl rfl) Zbs)
    (Zad (Zat (i:=4) scTol.nd rfl (Or.inl rfl) Zbs)
    (Zad (ZiW (i:=5) (ZlM (Zam ZeQ (pv 1) Zbs (Zau _)) (Zia (j:=4) GZ (hr.mono (by decide)) rfl mZ FZ.kp bZ .nil (Zaa (pv 0) (Zaa (pv 2) Zac)) scTol.nd rfl (Or.inl rfl)) (Zia (j:=4) GX (hr.mono (by decide)) rfl mX FX.kp bX .nil (Zaa (pv 0) (Zaa (Zaw (Zcd K) (pv 1) Zaf (λ_ _=>rfl)) (Zaa (Zaw (Zcd K) (pv 1) Zaf (λ_ _=>rfl)) (Zaa (pv 2) Zac)))) scTol.nd rfl (Or.inl rfl))) rfl rfl rfl rfl scTol.nd rfl rfl rfl T.mway T.wbe (λa=>Zag (Zat (i:=3) scTol.nd rfl (Or.inl rfl) (pv 5))))
    (Zad (ZaP (Zam ZeQ (pv 3) Zbs (Zau _)) (Zag (Zas (pv 4))) Zax)
    (Zad (ZaP (ZaZ (Zak (Zh3 K) rfl mIsi Zbi (Zaa (pv 3) (Zaa (ZaR (Zaa (Zbx T.m1) (Zaa (Zbx T.m2) (Zaa (Zbx T.m3) (Zaa (Zbx T.m4) (Zaa (Zbx T.m5) (Zaa (Zbx T.m6) (Zaa (Zbx T.m7) (Zaa (Zbx T.m8) (Zaa (Zbx T.m9) (Zaa (Zbx T.m10) Zac))))))))))) Zac)))) (Zag (Zas Zbt)) Zax)
    (Zad (ZaP (PW.pt (Zb2 (ZaZ (Zak (Zh3 K) rfl mIsi Zbi (Zaa (pv 3) (Zaa (Zbx T.m11) Zac)))) (ZbJ (Zbu (ZaZ (Zak (Zh3 K) rfl mIsi Zbi (Zaa (pv 3) (Zaa (ZeY T.vee ZiR) Zac)))))))) (Zag (Zas Zbt)) Zax)
    (Zag (Zas (Zaw (Zbf K) (ZaE (Zaa Zbt (Zaa Zbt (Zaa Zbt (Zaa Zbt Zac))))) (Zaq ZaH (ZaL Za0 rfl mInt Za5 (Zaa (Zak (Zh3 K) rfl mIsi Zbi (Zaa (pv 3) (Zaa (Zbx T.mC) Zac))) Zac)) (Zaq ZdR Zaf (ZaL Za0 rfl mInt Za5 (Zaa (Zak (Zh3 K) rfl mIsi Zbi (Zaa (pv 3) (Zaa (Zbx T.mN) Zac))) Zac)))) (λ_ _=>rfl))))))))),?_⟩
  refine Zbo (λσ' H'=>σ'=[some (.ref wb),some ev,some (.ref kl),some .non,none,none]/\H=H') ?sa ?fa
  case fa=>exact λhk'=>hk' _ _ ⟨rfl,rfl⟩
  rintro σ' H' ⟨rfl,rfl⟩
  refine Zbo (λσ' H'=>σ'=[some (.ref wb),some ev,some (.ref kl),some .non,some .non,none]/\H=H') ?sb ?fb
  case fb=>exact λhk'=>hk' _ _ ⟨rfl,rfl⟩
  rintro σ' H' ⟨rfl,rfl⟩
  refine Zbo (λσ' H'=>Same H H'/\((∃ (r:Addr) (ns:List Int),σ'=[some (.ref wb),some ev,some (.ref kl),some .non,some (.ref r),none]/\H r=none/\H' r=some (.lst (ns.map V.int))/\ns.length<=40/\dd=.list (ns.map PyData.int)) \/
   ∃ a B:Addr,σ'=[some (.ref wb),some ev,some (.ref kl),some (.ref a),some .non,none]/\H' a=some (ZjK a B)/\((B=C/\dd=.str "ends")\/(B=NW/\dd=.str "way")))) ?sc ?fc
  case fc=>
   intro hk'
   rcases he with ⟨rfl,rfl⟩ | ⟨t,p,q,rfl,et,rfl⟩
   ·refine ⟨_,rfl,rfl,_,rfl,Zcu ?_⟩
    refine ⟨_,rfl,_,rfl,wb,l,kl,k,xs,rs,ks,rfl,W,g,hk,λs0 tl rest bg wk=>⟨λgd r H1 s1 hr0 er=>?_,λnb H1 s1=>?_⟩⟩
    ·have few:=wk.few g
     exact hk' _ _ ⟨s1,.inl ⟨r,_,rfl,hr0,er,by rw [List.length_dropLast,List.length_cons];omega,(due s0 tl rest bg wk).1 gd⟩⟩
    ·refine ⟨NW,rfl,Zcz T.cN T.nN,λa ha=>⟨_,rfl,?_⟩⟩
     exact hk' _ _ ⟨s1.put (s1.free ha),.inr ⟨a,NW,rfl,Zab,.inr ⟨rfl,(due s0 tl rest bg wk).2 nb⟩⟩⟩
   ·refine ⟨_,rfl,rfl,_,rfl,ZbC ?_⟩
    refine ⟨_,rfl,_,rfl,t,_,_,_,rfl,rfl,SqT.of et,Zaj (j:=0) rfl,_,rfl,t,_,_,_,rfl,rfl,SqT.of et,Zaj (j:=1) rfl,_,rfl,wb,l,kl,k,p,q,xs,rs,ks,rfl,W,g,hk,?_⟩
    rcases due with ⟨ne,e1⟩ | ⟨en,due⟩
    ·refine .inr ⟨ne,C,rfl,Zcz T.cC T.nC,λa ha=>⟨_,rfl,?_⟩⟩
     exact hk' _ _ ⟨Same.new ha,.inr ⟨a,C,rfl,Zab,.inl ⟨rfl,e1⟩⟩⟩
    ·refine .inl ⟨en,λtl rest wk=>⟨λgd r H1 s1 hr0 er=>?_,λnb H1 s1=>?_⟩⟩
     ·have few:=wk.few g
      exact hk' _ _ ⟨s1,.inl ⟨r,_,rfl,hr0,er,by rw [List.length_cons];omega,(due tl rest wk).1 gd⟩⟩
     ·refine ⟨NW,rfl,Zcz T.cN T.nN,λa ha=>⟨_,rfl,?_⟩⟩
      exact hk' _ _ ⟨s1.put (s1.free ha),.inr ⟨a,NW,rfl,Zab,.inr ⟨rfl,(due tl rest wk).2 nb⟩⟩⟩
  rintro σ' H1 ⟨s1,⟨r,ns,rfl,hr0,er,hnl,e1⟩ | ⟨a,B,rfl,ea,hB⟩⟩
  ·exact ⟨_,rfl,rfl,_,rfl,Zcu ⟨_,rfl,qL r ns H1 s1 hr0 er hnl e1⟩⟩
  refine ⟨_,rfl,rfl,_,rfl,ZbC ?_⟩
  dsimp only [ZcD]
  refine ⟨_,rfl,(by show 10<=sizeLine;omega),λt ht=>?_⟩
  have s2:Same H1 (upd H1 t (.tup [.ref a1,.ref a2,.ref a3,.ref a4,.ref a5,.ref a6,.ref a7,.ref a8,.ref a9,.ref a10])):=Same.new ht
  have et:upd H1 t (.tup [.ref a1,.ref a2,.ref a3,.ref a4,.ref a5,.ref a6,.ref a7,.ref a8,.ref a9,.ref a10]) t=some (.tup [.ref a1,.ref a2,.ref a3,.ref a4,.ref a5,.ref a6,.ref a7,.ref a8,.ref a9,.ref a10]):=Zab
  generalize upd H1 t (.tup [.ref a1,.ref a2,.ref a3,.ref a4,.ref a5,.ref a6,.ref a7,.ref a8,.ref a9,.ref a10])=H2 at s2 et ⊢
  have ea2:=s2 _ _ ea
  have S2:=s1.trans s2
  have n4:4<=sizeLine:=by omega
  rcases hB with ⟨rfl,e1⟩ | ⟨rfl,e1⟩
  ·refine ⟨_,_,false,rfl,⟨_,rfl,ZbC ?_⟩,.inr (.inr ⟨a,_,t,_,rfl,ea2,T.kC,rfl,et,rfl,T.tC⟩)⟩
   dsimp only [ZcD]
   refine ⟨_,rfl,_,_,false,rfl,⟨_,rfl,ZbC ?_⟩,.inr (.inl ⟨a,_,rfl,ea2,T.kC,rfl,T.uC⟩)⟩
   refine ⟨_,rfl,_,_,true,rfl,⟨_,rfl,ZbC ?_⟩,.inr (.inl ⟨a,_,rfl,ea2,T.kC,rfl,T.vC⟩)⟩
   dsimp only [ZcD]
   refine ⟨n4,λls hls=>?_⟩
   have s3:Same H2 (upd H2 ls (.lst [.str "other", .str "ends", .str "way", .str "other"])):=Same.new hls
   have el:upd H2 ls (.lst [.str "other", .str "ends", .str "way", .str "other"]) ls=some (.lst [.str "other", .str "ends", .str "way", .str "other"]):=Zab
   generalize upd H2 ls (.lst [.str "other", .str "ends", .str "way", .str "other"])=H3 at s3 el ⊢
   have ea3:=s3 _ _ ea2
   refine ⟨_,rfl,_,_,true,rfl,.inr ⟨true,rfl,?_⟩,.inr (.inl ⟨a,_,rfl,ea3,T.kC,rfl,ZcK⟩)⟩
   refine ⟨_,rfl,_,_,false,rfl,.inr ⟨false,rfl,?_⟩,.inr (.inl ⟨a,_,rfl,ea3,T.kC,rfl,T.wC⟩)⟩
   refine ⟨_,_,rfl,rfl,.inl ⟨by decide,by decide⟩,_,_,rfl,rfl,ls,_,_,_,rfl,rfl,SqL.of el,Zaj (j:=1) rfl,?_⟩
   exact qS _ H3 (S2.trans s3) e1 (by decide +kernel)
  ·refine ⟨_,_,false,rfl,⟨_,rfl,ZbC ?_⟩,.inr (.inr ⟨a,_,t,_,rfl,ea2,T.kN,rfl,et,rfl,T.tN⟩)⟩
   dsimp only [ZcD]
   refine ⟨_,rfl,_,_,false,rfl,⟨_,rfl,ZbC ?_⟩,.inr (.inl ⟨a,_,rfl,ea2,T.kN,rfl,T.uN⟩)⟩
   refine ⟨_,rfl,_,_,true,rfl,⟨_,rfl,ZbC ?_⟩,.inr (.inl ⟨a,_,rfl,ea2,T.kN,rfl,T.vN⟩)⟩
   dsimp only [ZcD]
   refine ⟨n4,λls hls=>?_⟩
   have s3:Same H2 (upd H2 ls (.lst [.str "other", .str "ends", .str "way", .str "other"])):=Same.new hls
   have el:upd H2 ls (.lst [.str "other", .str "ends", .str "way", .str "other"]) ls=some (.lst [.str "other", .str "ends", .str "way", .str "other"]):=Zab
   generalize upd H2 ls (.lst [.str "other", .str "ends", .str "way", .str "other"])=H3 at s3 el ⊢
   have ea3:=s3 _ _ ea2
   refine ⟨_,rfl,_,_,false,rfl,.inr ⟨false,rfl,?_⟩,.inr (.inl ⟨a,_,rfl,ea3,T.kN,rfl,T.wN⟩)⟩
   refine ⟨_,rfl,_,_,true,rfl,.inr ⟨true,rfl,?_⟩,.inr (.inl ⟨a,_,rfl,ea3,T.kN,rfl,ZcK⟩)⟩
   refine ⟨_,_,rfl,rfl,.inl ⟨by decide,by decide⟩,_,_,rfl,rfl,ls,_,_,_,rfl,rfl,SqL.of el,Zaj (j:=2) rfl,?_⟩
   exact qS _ H3 (S2.trans s3) e1 (by decide +kernel)
theorem Zds {x:Str} (h:PyData.strOk x=true):SeqAt.shaped (.str x)=true:=by
 unfold SeqAt.shaped
 simp [PyData.depth,PyData.canLay0,h]
def Zmd (H:Hp) (dv:V) (dd:PyData):Prop:=(∃ x:Str,dv=.str x/\dd=.str x)\/∃ (r:Addr) (ns:List Int),dv=.ref r/\H r=some (.lst (ns.map V.int))/\dd=.list (ns.map PyData.int)
def Zlb:Sp:=λvs H Q _=>∃ (wb l kl:Addr) (ev dv:V) (en:Option (Int×Int)) (k:Int) (xs:List V) (rs:List (Int×Int)) (ks:List Int) (dd:PyData),vs=[.ref wb,ev,.ref kl,dv]/\WebAt H wb l k xs rs/\ZaA k rs/\H kl=some (.lst (ks.map V.int))/\EndsAt H ev en/\Due k rs ks dd en/\Zmd H dv dd/\∀ H':Hp,Same H H'->Q (.bl true) H'
theorem scRig:Zav ["web", "ends", "roads", "due", "handed", "turn", "found"] ["web", "ends", "roads", "due"] (Zae Zjp):=⟨rfl,rfl,rfl,by decide +kernel,rfl,by decide +kernel,by decide +kernel⟩
theorem Zlc {f fL:Addr} {fd fdL:FuncData} (F:Fun K "_law_right" "_law_right" Zjp f fd) (FL:Fun K "_law_told" "_law_told" Zjo fL fdL) (bL:Binds K fdL ["web", "ends", "roads"] []) (mL:mg "_law_told" = some (.ref fL)) (GL:ZaK P w K mg base CX0 6 fL fdL ["web", "ends", "roads"] Zk9)
  (kib:PySem.W.kitOne K (.type "int") (.type "bool")=some false) (ksl:PySem.W.kitOne K (.type "str") (.type "list")=some false) (mIsi:mg "isinstance" = none) (mRange:mg "range" = none) (mLst:mg "list" = none) (mInt:mg "int" = none) (mBool:mg "bool" = none):ZaK P w K mg base CX0 7 f fd ["web", "ends", "roads", "due"] Zlb:=by
 refine F.ok scRig (λvs H Q E h=>?_) (λcdv A outer s H vs Q E hr h=>?_)
 ·obtain ⟨_,_,_,_,_,_,_,_,_,_,_,rfl,_⟩:=h
  rfl
 ·obtain ⟨wb,l,kl,ev,dv,en,k,xs,rs,ks,dd,rfl,W,g,hk,he,due,da,q⟩:=h
  have hu:=hr.units
  have h16:(16777216:Nat)=sizeLine:=sizeLine_eq.symm
  refine ⟨_,Zad (Zat (i:=4) scRig.nd rfl (Or.inl rfl) (ZaL (Zex K) rfl mLst ZbP (Zaa (pv 2) Zac)))
    (Zad (Zbg PassesOwn.never rfl (ZaT rfl mRange (Zaa Zaf Zac)) (Zay (i:=5) scRig.nd rfl (Or.inl rfl))
    (Zad (Zat (i:=6) scRig.nd rfl (Or.inl rfl) (Zai GL (hr.mono (by decide)) rfl mL FL.kp bL .nil ZaD (Zaa (pv 0) (Zaa (pv 1) (Zaa (pv 4) Zac)))))
    (Zad (ZaP (PW.pt (Zb2 (Zam (Zg6 K hu) (pv 6) (pv 3) (Zau _)) (ZbJ (Zam (Zg6 K hu) (pv 4) (pv 2) (Zau _))))) (Zag (Zas Zb1)) Zax)
    (Zag (ZaP (ZaZ (Zak (Zh3 K) rfl mIsi Zbi (Zaa (pv 6) (Zaa (ZeY mLst ZbP) Zac)))) (Zad (ZaP (Zam (Zg6 K hu) (Zbd (own:=["place"]) rfl (ZcV (by decide +kernel) (by decide +kernel) rfl (by decide +kernel)) (Zci K (pv 6)) (λ_ _ _ _=>Zay (i:=0) (show List.Nodup (["place"]:List Str) by decide +kernel) rfl (Or.inl rfl)) (λ_ _ _ _=>Zba (PW.pt (Zb2 (Zbu (ZaZ (Zak (Zh3 K) rfl mIsi Zbi (Zaa (pv 0) (Zaa (ZeY mInt Za5) Zac))))) (ZbJ (ZaZ (Zak (Zh3 K) rfl mIsi Zbi (Zaa (pv 0) (Zaa (ZeY mBool Zgd) Zac)))))))) (λ_ _ _ _=>pv 0)) (ZaE Zac) (Zau _)) (Zag (Zas Zb1)) Zax)
    (Zag (ZaS (ZbM PySem.F.plainAttrs_list PySem.F.slot_list_append PySem.F.type_list_append ZaO (pv 6) (Zaa Zaf Zac))))) Zax)))))
    (Zag (Zas Zb1))),?_⟩
  refine ⟨_,rfl,kl,_,rfl,.inl (SqL.of hk),λh hh=>?_⟩
  have s1:Same H (upd H h (.lst (ks.map V.int))):=Same.new hh
  have eh:upd H h (.lst (ks.map V.int)) h=some (.lst (ks.map V.int)):=Zab
  generalize upd H h (.lst (ks.map V.int))=H1 at s1 eh ⊢
  refine ⟨_,rfl,by decide,by decide,?_⟩
  refine Za6 (lo:=0) (λi σ H2=>∃ v5 v6:Option V,σ=[some (.ref wb),some ev,some (.ref kl),some dv,some (.ref h),v5,v6]/\Same H1 H2) ⟨none,none,rfl,Same.refl _⟩ ?_ ?_
  ·rintro i σ H2 hi ⟨v5,v6,rfl,s2⟩
   have S2:=s1.trans s2
   refine ⟨_,rfl,_,rfl,_,rfl,wb,l,h,ev,en,k,xs,rs,ks,dd,rfl,W.same S2,g,s2 _ _ eh,he.same S2,due,λr ns H3 s3 hr0 er hnl e1=>?_,λx H3 s3 e1 ok=>?_⟩
   ·subst e1
    have S3:=S2.trans s3
    obtain ⟨r',e2,e3⟩:∃ r':Addr,dv=.ref r'/\H r'=some (.lst (ns.map V.int)):=by
     rcases da with ⟨x,_,e⟩ | ⟨r',ns',rfl,e,e'⟩
     ·cases e
     ·have:ns'=ns:=by
       have e':=PyData.list.inj e'
       exact (List.map_inj_right (λa b h=>PyData.int.inj h)).mp e'.symm
      rw [this] at e
      exact ⟨r',rfl,e⟩
    subst e2
    refine ⟨_,rfl,_,rfl,.list (ns.map PyData.int),.list (ns.map PyData.int),.lst (SqL.of er) (ZaF _),.lst (SqL.of (S3 _ _ e3)) (ZaF _),Zaz _,Zaz _,_,rfl,?_⟩
    rw [Zbb,decide_eq_true rfl]
    refine ZbC ?_
    refine ⟨_,rfl,_,rfl,.list (ks.map PyData.int),.list (ks.map PyData.int),.lst (SqL.of (s3 _ _ (s2 _ _ eh))) (ZaF _),.lst (SqL.of (S3 _ _ hk)) (ZaF _),Zaz _,Zaz _,_,rfl,?_⟩
    rw [Zbb,decide_eq_true rfl]
    refine ZbC ?_
    dsimp only [ZcD]
    refine ⟨_,rfl,_,_,true,rfl,⟨_,rfl,Zcu ?_⟩,.inl ⟨_,.lst er,rfl,ZcK⟩⟩
    refine ⟨_,rfl,r,rfl,⟨_,SqL.of er⟩,λD hD=>?_⟩
    refine Za1 (K:=K) (a:=r) (xs:=ns.map V.int) (λi ys H10=>Same H3 H10/\H10 D=some (.lst ys)/\ys=[]) ⟨Same.new hD,Zab,rfl⟩ (λi ys H10 _ ⟨s10,_⟩=>SqL.of (s10 _ _ er)) ?_ ?_
    ·rintro i x ys H10 hxi ⟨s10,hD10,rfl⟩
     rw [List.getElem?_map] at hxi
     cases z:ns[i]? with
     | none=>rw [z] at hxi;cases hxi
     | some n=>
      rw [z] at hxi
      cases hxi
      refine ⟨trivial,?_⟩
      refine ⟨_,rfl,_,_,true,rfl,⟨_,rfl,ZbC ?_⟩,.inl ⟨_,.int _,rfl,ZcK⟩⟩
      refine ⟨_,rfl,_,_,false,rfl,⟨_,rfl,ZbC ?_⟩,.inl ⟨_,.int _,rfl,kib⟩⟩
      exact ⟨s10,hD10,rfl⟩
    ·rintro ys H10 ⟨s10,hD10,rfl⟩
     refine ⟨Nat.zero_le _,λe he'=>⟨.list [],.list [],.lst (SqL.of (Zal hD10 (Zah hD10 he'))) .nil,.lst (SqL.of Zab) .nil,by decide,by decide,_,rfl,?_⟩⟩
     refine ZbC ?_
     dsimp only [ZcD]
     have s11:Same H3 (upd H10 e (.lst [])):=s10.put (s10.free he')
     have er11:=s11 _ _ er
     refine ⟨_,rfl,.inl ⟨rfl,_,SqL.of er11⟩,r,_,_,rfl,rfl,er11,by rw [List.length_map];omega,?_⟩
     exact ⟨_,_,rfl,((s2.trans s3).trans s11).put (s2.free hr0)⟩
   ·subst e1
    have S3:=S2.trans s3
    have e2:dv=.str x:=by
     rcases da with ⟨y,rfl,e⟩ | ⟨_,_,_,_,e⟩
     ·cases e;rfl
     ·cases e
    subst e2
    refine ⟨_,rfl,_,rfl,.str x,.str x,.str x,.str x,Zds ok,Zds ok,_,rfl,?_⟩
    rw [show (true != PyData.eqv (.str x) (.str x))=false by simp [PyData.eqv]]
    refine ZbC ?_
    refine ⟨_,rfl,_,rfl,.list (ks.map PyData.int),.list (ks.map PyData.int),.lst (SqL.of (s3 _ _ (s2 _ _ eh))) (ZaF _),.lst (SqL.of (S3 _ _ hk)) (ZaF _),Zaz _,Zaz _,_,rfl,?_⟩
    rw [Zbb,decide_eq_true rfl]
    refine ZbC ?_
    dsimp only [ZcD]
    refine ⟨_,rfl,_,_,false,rfl,⟨_,rfl,ZbC ?_⟩,.inl ⟨_,.str _,rfl,ksl⟩⟩
    exact ⟨_,_,rfl,s2.trans s3⟩
  ·rintro σ H2 ⟨v5,v6,rfl,s2⟩
   exact q _ (s1.trans s2)
end
end M
namespace M
open PySem L2
section
variable {P:Program} {w:World} {K:PySem.W.Frag} {mg:Str->Option Value} {base:Heap}
theorem Zct (ns:List Int) (lo hi:Option Int):∃ ms:List Int,Zca (ns.map V.int) lo hi=ms.map V.int/\ms.length<=ns.length:=by
 refine ⟨(ns.drop (HT.sIx (ns.map V.int).length 0 lo)).take (HT.sIx (ns.map V.int).length (ns.map V.int).length hi-HT.sIx (ns.map V.int).length 0 lo),?_,?_⟩
 ·unfold Zca
  rw [List.map_take,List.map_drop]
 ·rw [List.length_take,List.length_drop]
  omega
def Zld:Sp:=λvs H Q _=>∃ (d wb l ro:Addr) (n k:Int) (xs:List V) (rs:List (Int×Int)) (ns:List Int),vs=[.ref d,.ref wb,.ref ro]/\H d=some (.lst [.int n])/\WebAt H wb l k xs rs/\ZaA k rs/\l≠d/\ro≠d/\H ro=some (.lst (ns.map V.int))/\ns.length<=30 /\
 ∀ (sp:Addr) (ms:List Int) (H':Hp),Dk H H' d->H sp=none->sp≠d->H' sp=some (.lst (ms.map V.int))->ms.length<=100->Q (.ref sp) H'
theorem scSpo:Zav ["deck", "web", "roads", "way", "at", "far"] ["deck", "web", "roads"] (Zae Zjn):=⟨rfl,rfl,rfl,by decide +kernel,rfl,by decide +kernel,by decide +kernel⟩
theorem Zle {f fT:Addr} {fd fdT:FuncData} (F:Fun K "_law_spoilt" "_law_spoilt" Zjn f fd) (FT:Fun K "_law_take" "_law_take" ZcF fT fdT) (bT:Binds K fdT ["deck", "many"] []) (mT:mg "_law_take" = some (.ref fT)) (mLen:mg "len" = none) (mSor:mg "sorted" = none) (mSet:mg "set" = none) (mMax:mg "max" = none):ZaK P w K mg base CX0 2 f fd ["deck", "web", "roads"] Zld:=by
 have GT:ZaK P w K mg base CX0 1 fT fdT ["deck", "many"] Zc3:=Zcx FT
 refine F.ok scSpo (λvs H Q E h=>?_) (λcdv A outer s H vs Q E hr h=>?_)
 ·obtain ⟨_,_,_,_,_,_,_,_,_,rfl,_⟩:=h
  rfl
 ·obtain ⟨d,wb,l,ro,n,k,xs,rs,ns,rfl,hd,W,g,hld,hrd,hp,l2,q⟩:=h
  have h16:(16777216:Nat)=sizeLine:=sizeLine_eq.symm
  have g1:=g.1
  have g2:=g.2.1
  have hx:xs.length<=30:=by rw [W.p.len];exact g.2.2.1
  have hlm:(ns.map V.int).length=ns.length:=List.length_map ..
  refine ⟨_,Zad (Zat (i:=3) scSpo.nd rfl (Or.inl rfl) (Zai GT (hr.mono (by decide)) rfl mT FT.kp bT .nil ZaD (Zaa (pv 0) (Zaa Zaf Zac))))
    (Zad (Zat (i:=4) scSpo.nd rfl (Or.inl rfl) (Zai GT (hr.mono (by decide)) rfl mT FT.kp bT .nil ZaD (Zaa (pv 0) (Zaa (Zaq ZaH (Zak (Zdk K) rfl mLen PySem.boot_len (Zaa (pv 2) Zac)) Zaf) Zac))))
    (Zad (Zat (i:=5) scSpo.nd rfl (Or.inl rfl) (Zai GT (hr.mono (by decide)) rfl mT FT.kp bT .nil ZaD (Zaa (pv 0) (Zaa (Zaw (Zbf K) (ZaE (Zaa Zaf (Zaa Zaf (Zaa (Zaq Zb5 Zaf Zaf) Zac)))) (Zai GT (hr.mono (by decide)) rfl mT FT.kp bT .nil ZaD (Zaa (pv 0) (Zaa Zaf Zac))) (λ_ _=>rfl)) Zac))))
    (Zad (ZaP (Zam Zbv (pv 3) Zaf (Zau _)) (Zag (Zas (Zaq Zb6 (Za9 (kSl K) (pv 2) ZbB (Zbm (pv 4))) (Za9 (kSl K) (pv 2) (Zbm (Zaq ZaH (pv 4) Zaf)) ZbB)))) Zax)
    (Zad (ZaP (Zam Zbv (pv 3) Zaf (Zau _)) (Zag (Zas (Zaq Zb6 (Zaq Zb6 (Za9 (kSl K) (pv 2) ZbB (Zbm (pv 4))) (Za9 (kSl K) (pv 2) (Zbm (pv 4)) (Zbm (Zaq ZaH (pv 4) Zaf)))) (Za9 (kSl K) (pv 2) (Zbm (pv 4)) ZbB)))) Zax)
    (Zad (ZaP (Zam Zbv (pv 3) Zaf (Zau _)) (Zag (Zas (Zgs K (pv 2) ZbB (ZbL ZaU Zaf)))) Zax)
    (Zad (ZaP (Zam Zbv (pv 3) Zaf (Zau _)) (Zag (Zas (Zaq Zb6 (ZaE (Zaa (Zaq Zb4 (ZbL ZaU Zaf) (pv 5)) Zac)) (pv 2)))) Zax)
    (Zad (ZaP (Zam Zbv (pv 3) Zaf (Zau _)) (Zag (Zas (Zaq Zb6 (pv 2) (ZaE (Zaa (Zaq ZaH (Zak (Zdk K) rfl mLen PySem.boot_len (Zaa (Zaw (Zcd K) (pv 1) Zaf (λ_ _=>rfl)) Zac)) (pv 5)) Zac))))) Zax)
    (Zag (Zas (Zak (ZgH P w rfl) rfl mSor PyProof.Rows.boot_sorted (Zaa (ZaL (Zkt P w K rfl) rfl mSet Ze2 (Zaa (Zaq Zb6 (pv 2) (ZaE (Zaa (Zai GT (hr.mono (by decide)) rfl mT FT.kp bT .nil ZaD (Zaa (pv 0) (Zaa (Zak (ZcQ rfl) rfl mMax ZdJ (Zaa Zaf (Zaa (Zak (Zdk K) rfl mLen PySem.boot_len (Zaa (Zaw (Zcd K) (pv 1) Zaf (λ_ _=>rfl)) Zac)) Zac))) Zac))) Zac))) Zac)) Zac))))))))))),?_⟩
  refine ⟨_,rfl,d,n,6,rfl,hd,by decide,ZgV (n:=6) (by decide),λn1 way w0 w1=>?_⟩
  have D1:=(Dk.start hd).take n1
  have e1:upd H d (.lst [.int n1]) d=some (.lst [.int n1]):=Zab
  generalize upd H d (.lst [.int n1])=H1 at D1 e1 ⊢
  refine ⟨_,rfl,_,rfl,ro,_,rfl,.inl (SqL.of (D1.keep _ _ hrd hp)),_,_,rfl,rfl,d,n1,_,rfl,e1,by rw [hlm];omega,by rw [hlm];exact ZgT (by omega) (by omega),λn2 aI a0 a1=>?_⟩
  rw [hlm] at a1
  have D2:=D1.take n2
  have e2:upd H1 d (.lst [.int n2]) d=some (.lst [.int n2]):=Zab
  generalize upd H1 d (.lst [.int n2])=H3 at D2 e2 ⊢
  refine ⟨_,rfl,_,_,rfl,rfl,⟨by decide,by decide,by decide⟩,(by show 3<=sizeLine;decide),λfl hfl=>?_⟩
  have D4:=D2.new (o:=.lst [.int 1,.int 3,.int (10 ^ (20:Int).toNat)]) hfl
  have hdf:d≠fl:=D2.ne hfl
  refine ⟨_,rfl,d,n2,3,rfl,Zal e2 hdf,by decide,ZgV (n:=3) (by decide),λn4 jI j0 j1=>?_⟩
  obtain ⟨fm,ef,f0,f1⟩:=ZgU jI j0 j1
  refine ⟨fl,_,_,_,rfl,rfl,SqL.of (Zal Zab (Ne.symm hdf)),ef,?_⟩
  have D5:=D4.take n4
  refine ⟨d,n4,fm,rfl,Zab,f0,f1,λn5 far _ _=>?_⟩
  have D6:=D5.take n5
  have e6:upd (upd (upd H3 fl (.lst [.int 1,.int 3,.int (10 ^ (20:Int).toNat)])) d (.lst [.int n4])) d (.lst [.int n5]) d=some (.lst [.int n5]):=Zab
  generalize upd (upd (upd H3 fl (.lst [.int 1,.int 3,.int (10 ^ (20:Int).toNat)])) d (.lst [.int n4])) d (.lst [.int n5])=H6 at D6 e6 ⊢
  clear D1 D2 D4 D5 e1 e2 ef
  have p6:=D6.keep _ _ hrd hp
  have W6:=W.dk D6 hd hld
  refine ⟨_,rfl,rfl,_,rfl,Zbn (λ_=>?_) (λ_=>?_)⟩
  ·refine ⟨_,rfl,_,rfl,_,rfl,ro,_,rfl,SqL.of p6,λc1 hc1=>?_⟩
   have s1:Same H6 (upd H6 c1 (.lst (Zca (ns.map V.int) none (some aI)))):=Same.new hc1
   refine ⟨_,rfl,_,rfl,_,_,rfl,rfl,_,rfl,ro,_,rfl,SqL.of (s1 _ _ p6),λc2 hc2=>?_⟩
   obtain ⟨b1,eb1,lb1⟩:=Zct ns none (some aI)
   obtain ⟨b2,eb2,lb2⟩:=Zct ns (some (aI+1)) none
   have n12:c1≠c2:=λz=>by rw [<-z,Zab] at hc2;cases hc2
   have s2:=s1.put (o:=.lst (Zca (ns.map V.int) (some (aI+1)) none)) (s1.free hc2)
   refine ⟨c1,c2,_,_,rfl,rfl,Zal Zab n12,Zab,by rw [eb1,eb2,List.length_map,List.length_map];omega,λc3 hc3=>?_⟩
   have s3:=s2.put (o:=.lst (Zca (ns.map V.int) none (some aI)++Zca (ns.map V.int) (some (aI+1)) none)) (s2.free hc3)
   exact q c3 (b1++b2) _ (D6.grow s3) ((D6.grow s2).free hc3) (Ne.symm ((D6.grow s2).ne hc3)) (by rw [Zab,eb1,eb2,List.map_append]) (by rw [List.length_append];omega)
  refine ⟨_,rfl,rfl,_,rfl,Zbn (λ_=>?_) (λ_=>?_)⟩
  ·refine ⟨_,rfl,_,rfl,_,rfl,ro,_,rfl,SqL.of p6,λc1 hc1=>?_⟩
   have s1:Same H6 (upd H6 c1 (.lst (Zca (ns.map V.int) none (some aI)))):=Same.new hc1
   refine ⟨_,rfl,_,rfl,_,rfl,_,rfl,_,_,rfl,rfl,_,rfl,ro,_,rfl,SqL.of (s1 _ _ p6),λc2 hc2=>?_⟩
   obtain ⟨b1,eb1,lb1⟩:=Zct ns none (some aI)
   obtain ⟨b2,eb2,lb2⟩:=Zct ns (some aI) (some (aI+1))
   obtain ⟨b3,eb3,lb3⟩:=Zct ns (some aI) none
   have n12:c1≠c2:=λz=>by rw [<-z,Zab] at hc2;cases hc2
   have s2:=s1.put (o:=.lst (Zca (ns.map V.int) (some aI) (some (aI+1)))) (s1.free hc2)
   refine ⟨c1,c2,_,_,rfl,rfl,Zal Zab n12,Zab,by rw [eb1,eb2,List.length_map,List.length_map];omega,λc3 hc3=>?_⟩
   have s3:=s2.put (o:=.lst (Zca (ns.map V.int) none (some aI)++Zca (ns.map V.int) (some aI) (some (aI+1)))) (s2.free hc3)
   refine ⟨_,rfl,_,rfl,_,rfl,ro,_,rfl,SqL.of (s3 _ _ p6),λc4 hc4=>?_⟩
   have n34:c3≠c4:=λz=>by rw [<-z,Zab] at hc4;cases hc4
   have s4:=s3.put (o:=.lst (Zca (ns.map V.int) (some aI) none)) (s3.free hc4)
   refine ⟨c3,c4,_,_,rfl,rfl,Zal Zab n34,Zab,by rw [eb1,eb2,eb3,List.length_append,List.length_map,List.length_map,List.length_map];omega,λc5 hc5=>?_⟩
   have s5:=s4.put (o:=.lst ((Zca (ns.map V.int) none (some aI)++Zca (ns.map V.int) (some aI) (some (aI+1)))++Zca (ns.map V.int) (some aI) none)) (s4.free hc5)
   exact q c5 ((b1++b2)++b3) _ (D6.grow s5) ((D6.grow s4).free hc5) (Ne.symm ((D6.grow s4).ne hc5)) (by rw [Zab,eb1,eb2,eb3,List.map_append,List.map_append]) (by rw [List.length_append,List.length_append];omega)
  refine ⟨_,rfl,rfl,_,rfl,Zbn (λ_=>?_) (λ_=>?_)⟩
  ·refine ⟨_,rfl,ro,_,rfl,SqL.of p6,.inl rfl,λc1 hc1=>?_⟩
   exact q c1 ns.reverse _ (D6.new hc1) (D6.free hc1) (Ne.symm (D6.ne hc1)) (by rw [Zab,List.map_reverse];rfl) (by rw [List.length_reverse];omega)
  refine ⟨_,rfl,rfl,_,rfl,Zbn (λ_=>?_) (λ_=>?_)⟩
  ·refine ⟨_,rfl,_,rfl,_,_,rfl,rfl,(by show 1<=sizeLine;decide),λc1 hc1=>?_⟩
   have s1:Same H6 (upd H6 c1 (.lst [.int (-1-far)])):=Same.new hc1
   refine ⟨_,rfl,c1,ro,_,_,rfl,rfl,Zab,s1 _ _ p6,by rw [hlm,List.length_singleton];omega,λc2 hc2=>?_⟩
   have s2:=s1.put (o:=.lst ([.int (-1-far)]++ns.map V.int)) (s1.free hc2)
   exact q c2 ((-1-far)::ns) _ (D6.grow s2) ((D6.grow s1).free hc2) (Ne.symm ((D6.grow s1).ne hc2)) (by rw [Zab];rfl) (by rw [List.length_cons];omega)
  refine ⟨_,rfl,rfl,_,rfl,Zbn (λ_=>?_) (λ_=>?_)⟩
  ·refine ⟨_,rfl,_,rfl,wb,_,_,_,rfl,rfl,SqT.of W6.w,Zaj (j:=1) rfl,l,xs,rfl,.inl (SqL.of W6.l),_,rfl,_,_,rfl,rfl,(by show 1<=sizeLine;decide),λc1 hc1=>?_⟩
   have s1:Same H6 (upd H6 c1 (.lst [.int ((xs.length:Int)+far)])):=Same.new hc1
   refine ⟨ro,c1,_,_,rfl,rfl,s1 _ _ p6,Zab,by rw [hlm,List.length_singleton];omega,λc2 hc2=>?_⟩
   have s2:=s1.put (o:=.lst (ns.map V.int++[.int ((xs.length:Int)+far)])) (s1.free hc2)
   exact q c2 (ns++[(xs.length:Int)+far]) _ (D6.grow s2) ((D6.grow s1).free hc2) (Ne.symm ((D6.grow s1).ne hc2)) (by rw [Zab,List.map_append];rfl) (by rw [List.length_append,List.length_singleton];omega)
  obtain ⟨mx,hmx,hm1,hm2⟩:∃ m:Int,(if (xs.length:Int) > 1 then (xs.length:Int) else 1)=m/\1<=m/\m<=30:=⟨_,rfl,by split <;> omega,by split <;> omega⟩
  refine ⟨_,rfl,_,rfl,_,rfl,wb,_,_,_,rfl,rfl,SqT.of W6.w,Zaj (j:=1) rfl,l,xs,rfl,.inl (SqL.of W6.l),_,_,rfl,d,n5,_,rfl,e6,by rw [hmx];omega,by rw [hmx];exact ZgT (by omega) (by omega),λn7 r7 _ _=>?_⟩
  have D7:=D6.take n7
  have e7:upd H6 d (.lst [.int n7]) d=some (.lst [.int n7]):=Zab
  have p7:=D7.keep _ _ hrd hp
  generalize upd H6 d (.lst [.int n7])=H7 at D7 e7 p7 ⊢
  refine ⟨(by show 1<=sizeLine;decide),λc1 hc1=>?_⟩
  have s1:Same H7 (upd H7 c1 (.lst [.int r7])):=Same.new hc1
  refine ⟨ro,c1,_,_,rfl,rfl,s1 _ _ p7,Zab,by rw [hlm,List.length_singleton];omega,λc2 hc2=>?_⟩
  have s2:=s1.put (o:=.lst (ns.map V.int++[.int r7])) (s1.free hc2)
  have e2:upd (upd H7 c1 (.lst [.int r7])) c2 (.lst (ns.map V.int++[.int r7])) c2=some (.lst ((ns++[r7]).map V.int)):=by rw [Zab,List.map_append];rfl
  generalize upd (upd H7 c1 (.lst [.int r7])) c2 (.lst (ns.map V.int++[.int r7]))=H8 at s2 e2 ⊢
  refine ⟨c2,ns++[r7],rfl,SqL.of e2,by rw [List.length_append,List.length_singleton];omega,λt ms ht nd hm=>?_⟩
  have s3:Same H8 (upd H8 t (Zi8 P w t ms)):=Same.new ht
  have hml:ms.length<=(ns++[r7]).length:=List.Nodup.length_le_of_subset nd λx hx=>(hm x).mp hx
  rw [List.length_append,List.length_singleton] at hml
  refine ⟨t,ms,rfl,Zab,by omega,λr ss hr' pm so=>?_⟩
  have s4:=(s2.trans s3).put (o:=.lst (ss.map V.int)) ((s2.trans s3).free hr')
  have D8:=D7.grow (s2.trans s3)
  exact q r ss _ (D7.grow s4) (D8.free hr') (Ne.symm (D8.ne hr')) Zab (by rw [pm.length_eq];omega)
end
end M
namespace M
open PySem L2
section
variable {P:Program} {w:World} {K:PySem.W.Frag} {mg:Str->Option Value} {base:Heap}
structure DeckAt (Hs H:Hp) (d:Addr):Prop where
 s:Same Hs H
 n:Hs d=none
 at_:∃ n:Int,H d=some (.lst [.int n])
theorem DeckAt.grow {Hs H H':Hp} {d:Addr} (h:DeckAt Hs H d) (s:Same H H'):DeckAt Hs H' d:=⟨h.s.trans s,h.n,h.at_.elim λn e=>⟨n,s _ _ e⟩⟩
theorem DeckAt.dk {Hs H H':Hp} {d:Addr} (h:DeckAt Hs H d) (s:Dk H H' d):DeckAt Hs H' d:=⟨λb o e=>s.keep b o (Zah e h.n) (h.s b o e),h.n,s.at_⟩
theorem DeckAt.put {Hs H:Hp} {d p:Addr} {o:HO} (h:DeckAt Hs H d) (hp:Hs p=none) (hd:d≠p):DeckAt Hs (upd H p o) d:=⟨h.s.put hp,h.n,h.at_.elim λn e=>⟨n,Zal e hd⟩⟩
theorem ZjH {ns:List Int} {lo hi:Option Int} {i:Nat} {x:V} (h:(Zca (ns.map V.int) lo hi)[i]?=some x):∃ z,x=.int z:=by
 have hm:=List.mem_of_getElem? h
 unfold Zca at hm
 have hm2:=List.mem_of_mem_drop (List.mem_of_mem_take hm)
 obtain ⟨z,_,rfl⟩:=List.mem_map.mp hm2
 exact ⟨z,rfl⟩
theorem ZfK {k:Int} {rs:List (Int×Int)} {ns:List Int} (g:ZaA k rs) (on:ZfM rs ns false) (h0:0<=ns.getD 0 0/\ns.getD 0 0<k):∀ i,i<ns.length->0<=ns.getD i 0/\ns.getD i 0<k
 | 0,_=>h0
 | i+1,hi=>by
  have hm:(ns.getD i 0,ns.getD (i+1) 0)∈ZaB ns false:=by
   unfold ZaB
   rw [if_neg Bool.false_ne_true,List.append_nil]
   exact zip_mem.mpr ⟨i,hi,rfl⟩
  exact Zfe g (on.1 _ hm)
theorem ZdN {k:Int} {rs:List (Int×Int)} {ks:List Int} {p q:Int} (E:Ends k p q) (dd:PyData) (h1:¬ (Zbr rs ks/\ZhT rs ks k p q)->dd=.str "way") (h2:Zbr rs ks->ZhT rs ks k p q->∃ (tl:List Int) (rest:List (Int×Int)),Wk (ks.map (road rs)) p tl rest/\((tl.length=ks.length/\dd=.list ((p::tl).map PyData.int))\/(tl.length≠ks.length/\dd=.str "way"))):Due k rs ks dd (some (p,q)):=by
 refine .inr ⟨E,λtl rest wk=>?_⟩
 by_cases S:Zbr rs ks/\ZhT rs ks k p q
 ·obtain ⟨tl',rest',wk',h⟩:=h2 S.1 S.2
  rw [Zc8 S.1] at wk
  have e:=wk.det wk'
  subst e
  rcases h with ⟨a,b⟩ | ⟨a,b⟩
  ·exact ⟨λ_=>b,λn=>absurd ⟨S.1,S.2,a⟩ n⟩
  ·exact ⟨λn=>absurd n.2.2 a,λ_=>b⟩
 ·exact ⟨λn=>absurd ⟨n.1,n.2.1⟩ S,λ_=>h1 S⟩
theorem ZdO {k:Int} {rs:List (Int×Int)} {ks:List Int} (dd:PyData) (h1:¬ (Zbr rs ks/\3<=ks.length/\ZhV rs ks k)->dd=.str "way") (h2:Zbr rs ks->3<=ks.length->ZhV rs ks k->∃ (s:Int) (tl:List Int) (rest:List (Int×Int)),Begins (ks.map (road rs)) s/\Wk (ks.map (road rs)) s tl rest/\((tl.length=ks.length/\dd=.list ((s::tl).dropLast.map PyData.int))\/(tl.length≠ks.length/\dd=.str "way"))):Due k rs ks dd none:=by
 intro s tl rest bg wk
 by_cases S:Zbr rs ks/\3<=ks.length/\ZhV rs ks k
 ·obtain ⟨s',tl',rest',bg',wk',h⟩:=h2 S.1 S.2.1 S.2.2
  rw [Zc8 S.1] at wk bg
  have hne:ks.map (road rs)≠[]:=λe=>by
   have:=List.map_eq_nil_iff.mp e
   have l3:=S.2.1
   rw [this] at l3
   exact absurd l3 (by decide)
  have e:=(bg hne).one bg'
  subst e
  have e:=wk.det wk'
  subst e
  rcases h with ⟨a,b⟩ | ⟨a,b⟩
  ·exact ⟨λ_=>b,λn=>absurd ⟨S.1,S.2.1,S.2.2,a⟩ n⟩
  ·exact ⟨λn=>absurd n.2.2.2 a,λ_=>b⟩
 ·exact ⟨λn=>absurd ⟨n.1,n.2.1,n.2.2.1⟩ S,λ_=>h1 S⟩
def ZhZ (K:PySem.W.Frag):Sp:=λvs H Q _=>∃ (a:Addr) (ns:List Int),vs=[.ref a]/\SqL K H a (ns.map V.int)/\ns.length<=63/\∀ H',Q (.bl true) H'
theorem scLaw:Zav ["script", "cell", "deck", "places", "roads", "web", "one", "other", "row", "bits", "closed", "some", "numbers", "last", "due"] ["script"] (Zae ZhK):=⟨rfl,rfl,rfl,by decide +kernel,rfl,by decide +kernel,by decide +kernel⟩
theorem ZjI {f fD fT fW fA fB fN fG fS fP fE fF fM:Addr} {fd fdD fdT fdW fdA fdB fdN fdG fdS fdP fdE fdF fdM:FuncData} (F:Fun K "law" "law" ZhK f fd)
  (FD:Fun K "_law_deck" "_law_deck" ZeI fD fdD) (bD:Binds K fdD ["cell"] []) (mD:mg "_law_deck" = some (.ref fD)) (GD:ZaK P w K mg base CX0 2 fD fdD ["cell"] Zik)
  (FT:Fun K "_law_take" "_law_take" ZcF fT fdT) (bT:Binds K fdT ["deck", "many"] []) (mT:mg "_law_take" = some (.ref fT)) (GT:ZaK P w K mg base CX0 1 fT fdT ["deck", "many"] Zc3)
  (FW:Fun K "_law_web" "_law_web" Zjh fW fdW) (bW:Binds K fdW ["deck"] []) (mW:mg "_law_web" = some (.ref fW)) (GW:ZaK P w K mg base CX0 2 fW fdW ["deck"] ZkA)
  (FA:Fun K "_law_ends" "_law_ends" Zji fA fdA) (bA:Binds K fdA ["deck", "places"] []) (mA:mg "_law_ends" = some (.ref fA)) (GA:ZaK P w K mg base CX0 2 fA fdA ["deck", "places"] ZkV)
  (FB:Fun K "_law_bad_ends" "_law_bad_ends" Zjj fB fdB) (bB:Binds K fdB ["deck", "places"] []) (mB:mg "_law_bad_ends" = some (.ref fB)) (GB:ZaK P w K mg base CX0 2 fB fdB ["deck", "places"] ZkX)
  (FN:Fun K "_law_near" "_law_near" Zif fN fdN) (bN:Binds K fdN ["web", "place"] []) (mN:mg "_law_near" = some (.ref fN)) (GN:ZaK P w K mg base CX0 1 fN fdN ["web", "place"] Zjx)
  (FG:Fun K "_law_gone" "_law_gone" Zjk fG fdG) (bG:Binds K fdG ["deck", "web", "place", "most"] []) (mG:mg "_law_gone" = some (.ref fG)) (GG:ZaK P w K mg base CX0 2 fG fdG ["deck", "web", "place", "most"] ZkP)
  (FS:Fun K "_law_set" "_law_set" Zjm fS fdS) (bS:Binds K fdS ["web", "row", "closed"] []) (mS:mg "_law_set" = some (.ref fS)) (GS:ZaK P w K mg base CX0 1 fS fdS ["web", "row", "closed"] ZkN)
  (FP:Fun K "_law_spoilt" "_law_spoilt" Zjn fP fdP) (bP:Binds K fdP ["deck", "web", "roads"] []) (mP:mg "_law_spoilt" = some (.ref fP)) (GP:ZaK P w K mg base CX0 2 fP fdP ["deck", "web", "roads"] Zld)
  (FE:Fun K "_law_open" "_law_open" Zjl fE fdE) (bE:Binds K fdE ["web", "one", "other", "roads"] []) (mE:mg "_law_open" = some (.ref fE)) (GE:ZaK P w K mg base CX0 2 fE fdE ["web", "one", "other", "roads"] Zk5)
  (FF:Fun K "_law_ring" "_law_ring" Zii fF fdF) (bF:Binds K fdF ["web", "roads"] []) (mF:mg "_law_ring" = some (.ref fF)) (GF:ZaK P w K mg base CX0 2 fF fdF ["web", "roads"] Zk7)
  (FM:Fun K "_law_right" "_law_right" Zjp fM fdM) (bM:Binds K fdM ["web", "ends", "roads", "due"] []) (mM:mg "_law_right" = some (.ref fM)) (GM:ZaK P w K mg base CX0 7 fM fdM ["web", "ends", "roads", "due"] Zlb)
  (mRange:mg "range" = none) (mLst:mg "list" = none) (mLen:mg "len" = none) (mInt:mg "int" = none) :
  ZaK P w K mg base CX0 8 f fd ["script"] (ZhZ K):=by
 refine F.ok scLaw (λvs H Q E h=>?_) (λcdv A outer s H vs Q E hr h=>?_)
 ·obtain ⟨a,ns,rfl,_⟩:=h
  rfl
 ·obtain ⟨a,ns,rfl,hS,hlen,q⟩:=h
  have hu:=hr.units
  have h16:(16777216:Nat)=sizeLine:=sizeLine_eq.symm
  refine ⟨_,Zad (Zbg PassesOwn.never rfl (Zci K (Zaq Zb6 (ZaE (Zaa (Zaq Zb5 Zaf Zaf) Zac)) (Za9 (kSl K) (pv 0) ZbB (Zbm Zaf)))) (Zay (i:=1) scLaw.nd rfl (Or.inl rfl))
    (Zad (Zat (i:=2) scLaw.nd rfl (Or.inl rfl) (Zai GD (hr.mono (by decide)) rfl mD FD.kp bD .nil ZaD (Zaa (pv 1) Zac)))
    (Zad (ZeO (Zai GW (hr.mono (by decide)) rfl mW FW.kp bW .nil ZaD (Zaa (pv 2) Zac)) (ZiS K (n:=2) rfl (ZaQ (Zay (i:=3) scLaw.nd rfl (Or.inl rfl)) (ZaQ (Zay (i:=4) scLaw.nd rfl (Or.inl rfl)) Zb9))))
    (Zad (Zat (i:=5) scLaw.nd rfl (Or.inl rfl) (ZaR (Zaa (pv 3) (Zaa (ZaL (Zex K) rfl mLst ZbP (Zaa (pv 4) Zac)) Zac))))
    (Zad (ZeO (Zai GA (hr.mono (by decide)) rfl mA FA.kp bA .nil ZaD (Zaa (pv 2) (Zaa (pv 3) Zac))) (ZiS K (n:=2) rfl (ZaQ (Zay (i:=6) scLaw.nd rfl (Or.inl rfl)) (ZaQ (Zay (i:=7) scLaw.nd rfl (Or.inl rfl)) Zb9))))
    (Zad (Zat (i:=8) scLaw.nd rfl (Or.inl rfl) (Zai GG (hr.mono (by decide)) rfl mG FG.kp bG .nil ZaD (Zaa (pv 2) (Zaa (pv 5) (Zaa (pv 6) (Zaa Zaf Zac))))))
    (Zad (Zat (i:=9) scLaw.nd rfl (Or.inr rfl) (Zai GT (hr.mono (by decide)) rfl mT FT.kp bT .nil ZaD (Zaa (pv 2) (Zaa (Zaq ZjX Zaf (Zak (Zdk K) rfl mLen PySem.boot_len (Zaa (pv 4) Zac))) Zac))))
    (Zad (Zat (i:=10) scLaw.nd rfl (Or.inl rfl) (ZeN (ZaV ZiD (Zak (Zdk K) rfl mLen PySem.boot_len (Zaa (pv 8) Zac)) Zaf (Zau _)) (ZeM (ZaV (kIn K) (Zaw (Zbf K) (pv 8) Zaf (λ_ _=>rfl)) (Zai GN (hr.mono (by decide)) rfl mN FN.kp bN .nil ZaD (Zaa (pv 5) (Zaa (Zaw (Zbf K) (pv 8) (ZbL ZaU Zaf) (λ_ _=>rfl)) Zac))) (by with_unfolding_all rfl)))))
    (Zad (Zat (i:=11) scLaw.nd rfl (Or.inl rfl) (ZaE (Zaa (Zai GS (hr.mono (by decide)) rfl mS FS.kp bS .nil ZaD (Zaa (pv 5) (Zaa (pv 8) (Zaa Zb1 Zac)))) (Zaa (Zai GS (hr.mono (by decide)) rfl mS FS.kp bS .nil ZaD (Zaa (pv 5) (Zaa (pv 8) (Zaa (pv 10) Zac)))) Zac))))
    (Zad (ZaS (ZbM PySem.F.plainAttrs_list PySem.F.slot_list_insert PySem.F.type_list_insert Zgg (pv 11) (Zaa Zaf (Zaa (Zbd (own:=["k"]) rfl (ZaC (fr:=[("bits", 9)]) [(".0", .local),("k", .local),("bits", .cell)] rfl rfl (by decide +kernel) rfl (by decide +kernel) ⟨rfl,trivial⟩ ⟨λh=>Za2 h,λh=>Za2 h,λ_=>⟨_,rfl⟩,trivial⟩ ⟨⟨rfl,.inl rfl,.inl rfl⟩,trivial⟩) (ZaT rfl mRange (Zaa (Zak (Zdk K) rfl mLen PySem.boot_len (Zaa (pv 4) Zac)) Zac)) (λ_ _ _ _=>Zay (i:=0) (show List.Nodup (["k", "bits"]:List Str) by decide +kernel) rfl (Or.inl rfl)) (λ_ _ _ _=>Zba (Zam Zbv (Zaq ZjZ (Zaq ZjY (pv 1) (pv 0)) Zaf) Zaf (Zau _))) (λ_ _ _ _=>pv 0)) Zac))))
    (Zad (ZaS (ZbM PySem.F.plainAttrs_list PySem.F.slot_list_append PySem.F.type_list_append ZaO (pv 11) (Zaa (Zai GP (hr.mono (by decide)) rfl mP FP.kp bP .nil ZaD (Zaa (pv 2) (Zaa (pv 5) (Zaa (Zaw (Zbf K) (pv 11) (Zai GT (hr.mono (by decide)) rfl mT FT.kp bT .nil ZaD (Zaa (pv 2) (Zaa Zaf Zac))) (λ_ _=>rfl)) Zac)))) Zac)))
    (Zad (Zbg PassesOwn.never rfl (Zci K (Zaq Zb6 (pv 11) (ZaE (Zaa (ZaE Zac) Zac)))) (Zay (i:=12) scLaw.nd rfl (Or.inl rfl))
    (Zad (Zbg PassesOwn.never rfl (Zci K (ZaE (Zaa (pv 7) (Zaa (Zaw (Zbf K) (pv 8) (ZbL ZaU Zaf) (λ_ _=>rfl)) Zac)))) (Zay (i:=13) scLaw.nd rfl (Or.inl rfl))
    (Zag (ZaP (Zam ZfX (pv 13) (pv 6) (Zau _)) (Zad (Zat (i:=14) scLaw.nd rfl (Or.inl rfl) (Zai GE (hr.mono (by decide)) rfl mE FE.kp bE .nil ZaD (Zaa (pv 5) (Zaa (pv 6) (Zaa (pv 13) (Zaa (pv 12) Zac))))))
    (Zag (ZaP (Zbu (ZaZ (Zai GM (hr.mono (by decide)) rfl mM FM.kp bM .nil ZaD (Zaa (pv 5) (Zaa (ZaR (Zaa (pv 6) (Zaa (pv 13) Zac))) (Zaa (pv 12) (Zaa (Zaw (Zbf K) (ZaE (Zaa (pv 14) (Zaa Zbt Zac))) (ZaL Za0 rfl mInt Za5 (Zaa (ZaV ZeQ (pv 14) Zbs (Zau _)) Zac)) (λ_ _=>rfl)) Zac))))))) (Zag (Zas Zb1)) Zax))) Zax)))
    (Zad (Zat (i:=14) scLaw.nd rfl (Or.inl rfl) (Zai GF (hr.mono (by decide)) rfl mF FF.kp bF .nil ZaD (Zaa (pv 5) (Zaa (pv 12) Zac))))
    (Zag (ZaP (Zbu (ZaZ (Zai GM (hr.mono (by decide)) rfl mM FM.kp bM .nil ZaD (Zaa (pv 5) (Zaa Zbs (Zaa (pv 12) (Zaa (Zaw (Zbf K) (ZaE (Zaa (pv 14) (Zaa Zbt Zac))) (ZaL Za0 rfl mInt Za5 (Zaa (ZaV ZeQ (pv 14) Zbs (Zau _)) Zac)) (λ_ _=>rfl)) Zac))))))) (Zag (Zas Zb1)) Zax)))))
    (Zad (Zbg PassesOwn.never rfl (Zci K (ZaE (Zaa (Zaw (Zbf K) (pv 11) Zaf (λ_ _=>rfl)) (Zaa (Zaw (Zbf K) (pv 11) Zaf (λ_ _=>rfl)) Zac)))) (Zay (i:=12) scLaw.nd rfl (Or.inl rfl))
    (Zag (ZaP (Zbu (ZaZ (Zai GM (hr.mono (by decide)) rfl mM FM.kp bM .nil ZaD (Zaa (pv 5) (Zaa (Zai GB (hr.mono (by decide)) rfl mB FB.kp bB .nil ZaD (Zaa (pv 2) (Zaa (pv 3) Zac))) (Zaa (pv 12) (Zaa Zbt Zac))))))) (Zag (Zas Zb1)) Zax)))
    (Zag (ZaP (Zam (Zg6 K hu) (pv 5) (ZaR (Zaa (pv 3) (Zaa (pv 4) Zac))) (Zau _)) (Zag (Zas Zb1)) Zax)))))))))))))))
    (Zag (Zas Zb1)),?_⟩
  refine ⟨_,_,rfl,rfl,⟨by decide,by decide,by decide⟩,(by show 1<=sizeLine;decide),λp1 hp1=>?_⟩
  have s1:Same H (upd H p1 (.lst [.int (10 ^ (18:Int).toNat)])):=Same.new hp1
  refine ⟨_,rfl,_,rfl,a,_,rfl,s1.seq hS,λp2 hp2=>?_⟩
  have hcut:=ZcR (ns.map V.int) none (some 18)
  rw [List.length_map] at hcut
  refine ⟨p1,p2,_,_,rfl,rfl,Zal Zab (λz=>by rw [<-z,Zab] at hp2;cases hp2),Zab,(by rw [List.length_singleton];omega),λp3 hp3=>?_⟩
  refine ⟨p3,rfl,⟨_,SqL.of Zab⟩,?_⟩
  generalize hHs:upd (upd (upd H p1 (.lst [.int (10 ^ (18:Int).toNat)])) p2 (.lst (Zca (ns.map V.int) none (some 18)))) p3 (.lst ([.int (10 ^ (18:Int).toNat)]++Zca (ns.map V.int) none (some 18)))=Hs
  have hL:Hs p3=some (.lst ([.int (10 ^ (18:Int).toNat)]++Zca (ns.map V.int) none (some 18))):=by rw [<-hHs];exact Zab
  refine Zce (K:=K) (a:=p3) (xs:=[.int (10 ^ (18:Int).toNat)]++Zca (ns.map V.int) none (some 18)) (λi σ H2=>∃ v1 v2 v3 v4 v5 v6 v7 v8 v9 v10 v11 v12 v13 v14:Option V,σ=[some (.ref a),v1,v2,v3,v4,v5,v6,v7,v8,v9,v10,v11,v12,v13,v14]/\Same Hs H2)
   ⟨none,none,none,none,none,none,none,none,none,none,none,none,none,none,rfl,Same.refl _⟩ (λi σ H2 _ ⟨_,_,_,_,_,_,_,_,_,_,_,_,_,_,_,s2⟩=>SqL.of (s2 _ _ hL)) ?_ ?_
  ·rintro i x σ H2 hi ⟨v1,v2,v3,v4,v5,v6,v7,v8,v9,v10,v11,v12,v13,v14,rfl,s2⟩
   obtain ⟨z,rfl⟩:∃ z,x=.int z:=by
    cases i with
    | zero=>simp at hi;exact ⟨_,hi.symm⟩
    | succ j=>exact ZjH (i:=j) (by simpa using hi)
   clear hi
   refine ⟨_,rfl,z,rfl,λd n0 hd=>?_⟩
   have hds:Hs d=none:=s2.free hd
   have D0:DeckAt Hs (upd H2 d (.lst [.int n0])) d:=⟨s2.put hds,hds,_,Zab⟩
   refine ⟨_,rfl,d,n0,rfl,Zab,λwp l xs k rs H3 K3 hwp hl hwl ew el pr good=>?_⟩
   have D3:=D0.dk K3
   have hld:l≠d:=λzz=>by rw [zz,Zab] at hl;cases hl
   refine ⟨wp,_,rfl,SqT.of ew,rfl,_,_,rfl,_,_,rfl,rfl,?_⟩
   have hxl:xs.length<=30:=by rw [pr.len];exact good.2.2.1
   clear K3 ew hwp hwl
   refine ⟨_,rfl,_,rfl,l,xs,rfl,.inl (SqL.of el),λl2 hl2=>⟨ZaG,λwb hwb=>?_⟩⟩
   have s4:Same H3 (upd (upd H3 l2 (.lst xs)) wb (.tup [.int k,.ref l2])):=(Same.new hl2).trans (Same.new hwb)
   have hl2d:l2≠d:=λzz=>by
    obtain ⟨n3,e3⟩:=D3.at_
    rw [zz,e3] at hl2;cases hl2
   have W4:WebAt (upd (upd H3 l2 (.lst xs)) wb (.tup [.int k,.ref l2])) wb l2 k xs rs:=⟨Zab,(Same.new hwb) _ _ Zab,pr.same s4⟩
   have D4:=D3.grow s4
   have el4:=s4 _ _ el
   generalize upd (upd H3 l2 (.lst xs)) wb (.tup [.int k,.ref l2])=H4 at s4 W4 D4 el4 ⊢
   obtain ⟨n4,e4⟩:=D4.at_
   have hk0:=good.1
   have hk1:=good.2.1
   refine ⟨_,rfl,_,rfl,d,n4,k,rfl,e4,hk0,hk1,λet p q' H5 K5 het eet hp hq=>?_⟩
   have D5:=D4.dk K5
   have W5:=W4.dk K5 e4 hl2d
   have el5:=K5.keep _ _ hld el4
   obtain ⟨n5,e5⟩:=D5.at_
   refine ⟨et,_,rfl,SqT.of eet,rfl,_,_,rfl,_,_,rfl,rfl,?_⟩
   clear K5 eet het
   refine ⟨_,rfl,_,rfl,_,rfl,d,wb,l2,n5,k,p,15,xs,rs,rfl,e5,W5,hxl,hl2d,by decide,λro rw' H6 K6 hro ero r1 r2 on hd0=>?_⟩
   have D6:=D5.dk K6
   have W6:=W5.dk K6 e5 hl2d
   have el6:=K6.keep _ _ hld el5
   have hrod:ro≠d:=λzz=>by rw [zz,e5] at hro;cases hro
   obtain ⟨n6,e6⟩:=D6.at_
   have hrne:rw'≠[]:=λzz=>by rw [zz] at r1;exact absurd r1 (by decide)
   have hrng:=ZfK good on (by rw [hd0];exact hp)
   refine ⟨_,rfl,_,rfl,l,xs,rfl,.inl (SqL.of el6),_,_,rfl,rfl,⟨by omega,by omega,by decide⟩,?_⟩
   have hpw:(1:Int) * 2 ^ ((xs.length:Int)).toNat=((2 ^ xs.length:Nat):Int):=by rw [Int.toNat_natCast,Int.one_mul];push_cast;rfl
   have hp30:2 ^ xs.length<=2 ^ 30:=Nat.pow_le_pow_right (by decide) hxl
   have hp0:0<2 ^ xs.length:=Nat.pow_pos (by decide)
   refine ⟨d,n6,_,rfl,e6,by rw [hpw];omega,by rw [hpw];exact Nat.lt_of_le_of_lt (show (((2 ^ xs.length:Nat):Int)).natAbs<=2 ^ 30 by omega) (Nat.pow_lt_pow_right (by decide) (by decide)),λn7 bits b0 b1=>?_⟩
   clear b0 b1 hpw hp30 hp0
   have K7:=(Dk.start e6).take n7
   have D7:=D6.dk K7
   have W7:=W6.dk K7 e6 hl2d
   have el7:=K7.keep _ _ hld el6
   have ero7:=K7.keep _ _ hrod ero
   generalize upd H6 d (.lst [.int n7])=H7 at K7 D7 W7 el7 ero7 ⊢
   clear K6 K7 D4 D5 D6 W4 W5 W6 el4 el5 el6 ero e4 e5 e6 D3 D0
   obtain ⟨n7',e7⟩:=D7.at_
   dsimp only [Zfn]
   refine Zbo (λσ' H'=>∃ c:Bool,σ'=[some (.ref a),some (.int z),some (.ref d),some (.int k),some (.ref l),some (.ref wb),some (.int p),some (.int q'),some (.ref ro),some (.int bits),some (.bl c),v11,v12,v13,v14]/\Same H7 H') ?sc ?fc
   case fc=>
    intro hk'
    refine ⟨_,rfl,ro,_,rfl,.inl (SqL.of ero7),_,_,rfl,rfl,_,rfl,Zbn (λ_=>?_) (λ_=>?_)⟩
    ·refine ⟨_,rfl,ro,_,_,_,rfl,rfl,SqL.of ero7,Zcp (i:=0) (by decide) (by omega),_,rfl,_,rfl,_,rfl,ro,_,_,_,rfl,rfl,SqL.of ero7,ZbG hrne,wb,l2,k,_,xs,rs,rfl,W7,hxl,λr ms H8 s8 hr8 er8 hml hin=>?_⟩
     exact ⟨r,_,rfl,.inl (SqL.of er8),rfl,ZbS _,hk' _ _ ⟨_,rfl,s8⟩⟩
    ·exact hk' _ _ ⟨_,rfl,Same.refl _⟩
   rintro σ' H8 ⟨c,rfl,s8⟩
   have D8:=D7.grow s8
   have W8:=W7.same s8
   have ero8:=s8 _ _ ero7
   refine ⟨_,rfl,_,rfl,wb,l2,ro,k,xs,rs,rw',false,rfl,W8,good,ero8,by omega,on.2,hrne,λu1 k1 H9 s9 hu1 eu1 _ _ l1 _=>?_⟩
   refine ⟨_,rfl,_,rfl,_,rfl,wb,l2,ro,k,xs,rs,rw',c,rfl,W8.same s9,good,s9 _ _ ero8,by omega,on.2,hrne,λu2 k2 H10 s10 hu2 eu2 _ _ l2' _=>?_⟩
   refine ⟨ZaG,λso hso=>?_⟩
   have s11:Same H10 (upd H10 so (.lst [.ref u1,.ref u2])):=Same.new hso
   have eso:upd H10 so (.lst [.ref u1,.ref u2]) so=some (.lst [.ref u1,.ref u2]):=Zab
   generalize upd H10 so (.lst [.ref u1,.ref u2])=H11 at s11 eso ⊢
   have S11:=(s9.trans s10).trans s11
   have eu1':=s11 _ _ (s10 _ _ eu1)
   have eu2':=s11 _ _ eu2
   have el11:=S11 _ _ (s8 _ _ el7)
   have d11:d≠so:=λzz=>by
    have:=(s9.trans s10) _ _ (s8 _ _ e7)
    rw [zz,hso] at this;cases this
   have u1d:u1≠d:=λzz=>by rw [zz,s8 _ _ e7] at hu1;cases hu1
   have u2d:u2≠d:=λzz=>by rw [zz,s9 _ _ (s8 _ _ e7)] at hu2;cases hu2
   have u1s:u1≠so:=Zah (s10 _ _ eu1) hso
   have u2s:u2≠so:=Zah eu2 hso
   have D11:=D8.grow S11
   have W11:=W8.same S11
   have ero11:=S11 _ _ ero8
   have hsoHs:Hs so=none:=(D8.grow (s9.trans s10)).s.free hso
   have l2s:l2≠so:=Zah ((s9.trans s10) _ _ W8.l) hso
   have ls:l≠so:=Zah ((s9.trans s10) _ _ (s8 _ _ el7)) hso
   have ros:ro≠so:=Zah ((s9.trans s10) _ _ ero8) hso
   clear s9 s10 s11 eu1 eu2 S11 W8 D8 ero8 hu1 hu2 W7 D7 ero7 el7 e7 s8
   refine ⟨_,rfl,.inl ⟨rfl,_,SqL.of eso⟩,?_⟩
   refine ⟨_,rfl,l,xs,rfl,.inl (SqL.of el11),_,rfl,by omega,by omega,λD hD=>?_⟩
   rw [Int.toNat_natCast]
   refine Zcv (lo:=0) (n:=xs.length) (λi ys H'=>Same H11 H'/\H' D=some (.lst ys)/\∃ bs:List Int,ys=bs.map V.int/\bs.length<=i) ⟨Same.new hD,Zab,[],rfl,Nat.le_refl _⟩ ?_ ?_
   ·rintro i ys H' hi ⟨s12,hD12,bs,rfl,hbl⟩
    rw [Int.zero_add]
    refine ⟨⟨rfl,trivial⟩,?_⟩
    refine ⟨_,rfl,_,rfl,_,_,rfl,rfl,by omega,_,_,rfl,rfl,rfl,_,rfl,Zbn (λ_=>?_) (λ_=>?_)⟩
    ·exact ⟨_,rfl,hD12,by rw [List.length_map];omega,s12.put hD,Zab,bs++[(i:Int)],by rw [List.map_append];rfl,by rw [List.length_append,List.length_singleton];omega⟩
    ·exact ⟨s12,hD12,bs,rfl,by omega⟩
   rintro ys H12 ⟨s12,eD,bs,rfl,hbl⟩
   have Dd:D≠d:=λzz=>by
    obtain ⟨n11,e11⟩:=D11.at_
    rw [zz,e11] at hD;cases hD
   have Ds:D≠so:=λzz=>by rw [zz,eso] at hD;cases hD
   have eso12:=s12 _ _ eso
   have k13:=ZaM (o:=.lst [.ref D,.ref u1,.ref u2]) eso12
   have D12:=D11.grow s12
   have W12:=W11.same s12
   refine ⟨so,_,0,.ref D,rfl,rfl,eso12,by decide,by show (0:Int)<=2;decide,by show 2<sizeLine;decide,?_⟩
   have e13:(List.take (0:Int).toNat [V.ref u1,V.ref u2]++V.ref D::List.drop (0:Int).toNat [V.ref u1,V.ref u2])=[.ref D,.ref u1,.ref u2]:=rfl
   rw [e13]
   have D13:DeckAt Hs (upd H12 so (.lst [.ref D,.ref u1,.ref u2])) d:=D12.put hsoHs d11
   have W13:WebAt (upd H12 so (.lst [.ref D,.ref u1,.ref u2])) wb l2 k xs rs:=⟨k13 _ _ W12.w,Zal W12.l l2s,W12.p.keep k13⟩
   have el13:upd H12 so (.lst [.ref D,.ref u1,.ref u2]) l=some (.lst xs):=Zal (s12 _ _ el11) ls
   have ero13:upd H12 so (.lst [.ref D,.ref u1,.ref u2]) ro=some (.lst (rw'.map V.int)):=Zal (s12 _ _ ero11) ros
   have eD13:upd H12 so (.lst [.ref D,.ref u1,.ref u2]) D=some (.lst (bs.map V.int)):=Zal eD Ds
   have eu13:upd H12 so (.lst [.ref D,.ref u1,.ref u2]) u1=some (.lst (k1.map V.int)):=Zal (s12 _ _ eu1') u1s
   have ev13:upd H12 so (.lst [.ref D,.ref u1,.ref u2]) u2=some (.lst (k2.map V.int)):=Zal (s12 _ _ eu2') u2s
   have es13:upd H12 so (.lst [.ref D,.ref u1,.ref u2]) so=some (.lst [.ref D,.ref u1,.ref u2]):=Zab
   generalize upd H12 so (.lst [.ref D,.ref u1,.ref u2])=H13 at k13 D13 W13 el13 ero13 eD13 eu13 ev13 es13 ⊢
   clear k13 D12 W12 D11 W11 el11 ero11 eD eu1' eu2' eso eso12 s12 hD hso e13
   obtain ⟨n13,e13⟩:=D13.at_
   refine ⟨_,rfl,.inl ⟨rfl,_,SqL.of es13⟩,_,rfl,_,rfl,_,rfl,_,rfl,d,n13,3,rfl,e13,by decide,ZgV (n:=3) (by decide),λn14 jI j0 j1=>?_⟩
   have K14:=(Dk.start e13).take n14
   have D14:=D13.dk K14
   have W14:=W13.dk K14 e13 hl2d
   have sod:so≠d:=Ne.symm d11
   have el14:=K14.keep _ _ hld el13
   have ero14:=K14.keep _ _ hrod ero13
   have eD14:=K14.keep _ _ Dd eD13
   have eu14:=K14.keep _ _ u1d eu13
   have ev14:=K14.keep _ _ u2d ev13
   have es14:=K14.keep _ _ sod es13
   generalize upd H13 d (.lst [.int n14])=H14 at K14 D14 W14 el14 ero14 eD14 eu14 ev14 es14 ⊢
   clear K14 D13 W13 el13 ero13 eD13 eu13 ev13 es13 e13
   obtain ⟨n14',e14⟩:=D14.at_
   obtain ⟨xa,kk,ex,hxd,exx,lk⟩:∃ (xa:Addr) (kk:List Int),atI ([.ref D,.ref u1,.ref u2]:List V) jI=some (.ref xa)/\xa≠d/\H14 xa=some (.lst (kk.map V.int))/\kk.length<=30:=by
    have hj:jI=0\/jI=1\/jI=2:=by omega
    rcases hj with rfl | rfl | rfl
    ·exact ⟨D,bs,Zaj (j:=0) rfl,Dd,eD14,by omega⟩
    ·exact ⟨u1,k1,Zaj (j:=1) rfl,u1d,eu14,l1⟩
    ·exact ⟨u2,k2,Zaj (j:=2) rfl,u2d,ev14,l2'⟩
   refine ⟨so,_,_,_,rfl,rfl,SqL.of es14,ex,d,wb,l2,xa,n14',k,xs,rs,kk,rfl,e14,W14,good,hl2d,hxd,exx,lk,λsp ms H15 K15 hsp spd esp lms=>?_⟩
   have D15:=D14.dk K15
   have W15:=W14.dk K15 e14 hl2d
   have es15:=K15.keep _ _ sod es14
   have k16:=ZaM (o:=.lst [.ref D,.ref u1,.ref u2,.ref sp]) es15
   have sps:sp≠so:=λzz=>by rw [zz,es14] at hsp;cases hsp
   refine ⟨so,_,_,rfl,rfl,es15,by show 3<sizeLine;decide,?_⟩
   have e16':([V.ref D,V.ref u1,V.ref u2]++[V.ref sp])=[.ref D,.ref u1,.ref u2,.ref sp]:=rfl
   rw [e16']
   have D16:DeckAt Hs (upd H15 so (.lst [.ref D,.ref u1,.ref u2,.ref sp])) d:=D15.put hsoHs d11
   have W16:WebAt (upd H15 so (.lst [.ref D,.ref u1,.ref u2,.ref sp])) wb l2 k xs rs:=⟨k16 _ _ W15.w,Zal W15.l l2s,W15.p.keep k16⟩
   have el16:upd H15 so (.lst [.ref D,.ref u1,.ref u2,.ref sp]) l=some (.lst xs):=Zal (K15.keep _ _ hld el14) ls
   have ero16:upd H15 so (.lst [.ref D,.ref u1,.ref u2,.ref sp]) ro=some (.lst (rw'.map V.int)):=Zal (K15.keep _ _ hrod ero14) ros
   have eD16:upd H15 so (.lst [.ref D,.ref u1,.ref u2,.ref sp]) D=some (.lst (bs.map V.int)):=Zal (K15.keep _ _ Dd eD14) Ds
   have eu16:upd H15 so (.lst [.ref D,.ref u1,.ref u2,.ref sp]) u1=some (.lst (k1.map V.int)):=Zal (K15.keep _ _ u1d eu14) u1s
   have ev16:upd H15 so (.lst [.ref D,.ref u1,.ref u2,.ref sp]) u2=some (.lst (k2.map V.int)):=Zal (K15.keep _ _ u2d ev14) u2s
   have ep16:upd H15 so (.lst [.ref D,.ref u1,.ref u2,.ref sp]) sp=some (.lst (ms.map V.int)):=Zal esp sps
   have es16:upd H15 so (.lst [.ref D,.ref u1,.ref u2,.ref sp]) so=some (.lst [.ref D,.ref u1,.ref u2,.ref sp]):=Zab
   generalize upd H15 so (.lst [.ref D,.ref u1,.ref u2,.ref sp])=H16 at k16 D16 W16 el16 ero16 eD16 eu16 ev16 ep16 es16 ⊢
   clear K15 k16 D15 W15 es15 D14 W14 el14 ero14 eD14 eu14 ev14 es14 e14 ex exx esp hsp e16' hxd lk
   refine ⟨_,rfl,Nat.zero_le _,λee hee=>?_⟩
   have s17:Same H16 (upd H16 ee (.lst [])):=Same.new hee
   have eee:upd H16 ee (.lst []) ee=some (.lst (([]:List Int).map V.int)):=Zab
   generalize upd H16 ee (.lst [])=H17 at s17 eee ⊢
   refine ⟨(by show 1<=sizeLine;decide),λff hff=>?_⟩
   have s18:Same H17 (upd H17 ff (.lst [.ref ee])):=Same.new hff
   have eff:upd H17 ff (.lst [.ref ee]) ff=some (.lst [.ref ee]):=Zab
   generalize upd H17 ff (.lst [.ref ee])=H18 at s18 eff ⊢
   have S18:=s17.trans s18
   refine ⟨so,ff,_,_,rfl,rfl,S18 _ _ es16,eff,by show 4+1<=sizeLine;decide,λL hL'=>?_⟩
   have s19:Same H18 (upd H18 L (.lst ([.ref D,.ref u1,.ref u2,.ref sp]++[.ref ee]))):=Same.new hL'
   have eL:upd H18 L (.lst ([.ref D,.ref u1,.ref u2,.ref sp]++[.ref ee])) L=some (.lst [.ref D,.ref u1,.ref u2,.ref sp,.ref ee]):=Zab
   generalize upd H18 L (.lst ([.ref D,.ref u1,.ref u2,.ref sp]++[.ref ee]))=H19 at s19 eL ⊢
   have S19:=S18.trans s19
   have W19:=W16.same S19
   have told:∀ (i:Nat) (x:V),([.ref D,.ref u1,.ref u2,.ref sp,.ref ee]:List V)[i]?=some x->∃ (so:Addr) (ms:List Int),x=.ref so/\H19 so=some (.lst (ms.map V.int))/\ms.length<=100:=λi x hi=>by
    match i,hi with
    | 0,hi=>cases hi;exact ⟨D,bs,rfl,S19 _ _ eD16,by omega⟩
    | 1,hi=>cases hi;exact ⟨u1,k1,rfl,S19 _ _ eu16,by omega⟩
    | 2,hi=>cases hi;exact ⟨u2,k2,rfl,S19 _ _ ev16,by omega⟩
    | 3,hi=>cases hi;exact ⟨sp,ms,rfl,S19 _ _ ep16,lms⟩
    | 4,hi=>cases hi;exact ⟨ee,[],rfl,s19 _ _ (s18 _ _ eee),by decide⟩
    | (j+5),hi=>cases hi
   refine ⟨L,rfl,⟨_,SqL.of eL⟩,?_⟩
   refine Zce (K:=K) (a:=L) (xs:=[.ref D,.ref u1,.ref u2,.ref sp,.ref ee]) (λi σ H20=>∃ v12 v13 v14:Option V,σ=[some (.ref a),some (.int z),some (.ref d),some (.int k),some (.ref l),some (.ref wb),some (.int p),some (.int q'),some (.ref ro),some (.int bits),some (.bl c),some (.ref so),v12,v13,v14]/\Same H19 H20)
    ⟨_,_,_,rfl,Same.refl _⟩ (λi σ H20 _ ⟨_,_,_,_,s20⟩=>SqL.of (s20 _ _ eL)) ?_ ?_
   ·rintro i x σ H20 hi ⟨v12',v13',v14',rfl,s20⟩
    obtain ⟨nu,ks,rfl,enu,hks⟩:=told i x hi
    have ero20:=s20 _ _ (S19 _ _ ero16)
    refine ⟨_,rfl,_,rfl,_,rfl,ro,_,_,_,rfl,rfl,SqL.of ero20,ZbG hrne,ZaG,λL2 hL2=>?_⟩
    have hla:=hrng (rw'.length-1) (by omega)
    generalize rw'.getD (rw'.length-1) 0=la at hla ⊢
    have s21:Same H20 (upd H20 L2 (.lst [.int q',.int la])):=Same.new hL2
    have e21:upd H20 L2 (.lst [.int q',.int la]) L2=some (.lst [.int q',.int la]):=Zab
    generalize upd H20 L2 (.lst [.int q',.int la])=H21 at s21 e21 ⊢
    have S21:=s20.trans s21
    refine ⟨L2,rfl,⟨_,SqL.of e21⟩,?_⟩
    refine Zce (K:=K) (a:=L2) (xs:=[.int q',.int la]) (λi σ H22=>∃ v13 v14:Option V,σ=[some (.ref a),some (.int z),some (.ref d),some (.int k),some (.ref l),some (.ref wb),some (.int p),some (.int q'),some (.ref ro),some (.int bits),some (.bl c),some (.ref so),some (.ref nu),v13,v14]/\Same H21 H22)
     ⟨_,_,rfl,Same.refl _⟩ (λi σ H22 _ ⟨_,_,_,s22⟩=>SqL.of (s22 _ _ e21)) ?_ ?_
    ·rintro i2 x2 σ H22 hi2 ⟨v13'',v14'',rfl,s22⟩
     obtain ⟨la',rfl,hla'⟩:∃ y:Int,x2=.int y/\(0<=y/\y<k):=by
      match i2,hi2 with
      | 0,hi=>cases hi;exact ⟨_,rfl,hq⟩
      | 1,hi=>cases hi;exact ⟨_,rfl,hla⟩
      | (j+2),hi=>cases hi
     have S22:=S21.trans s22
     refine ⟨_,rfl,_,rfl,rfl,_,rfl,?_⟩
     refine Zbn (λz3=>?_) (λ_=>⟨_,_,rfl,s22⟩)
     have z3':la'≠p:=ZeJ z3
     have ends:Ends k p la':=⟨hp,hla',Ne.symm z3'⟩
     refine Zbo (λσ' H'=>∃ (dv:V) (dd:PyData),σ'=[some (.ref a),some (.int z),some (.ref d),some (.int k),some (.ref l),some (.ref wb),some (.int p),some (.int q'),some (.ref ro),some (.int bits),some (.bl c),some (.ref so),some (.ref nu),some (.int la'),some dv]/\Same H22 H'/\Due k rs ks dd (some (p,la'))/\((dv=.non/\dd=.str "way")\/∃ (r:Addr) (ns:List Int),dv=.ref r/\H' r=some (.lst (ns.map V.int))/\dd=.list (ns.map PyData.int))) ?sd ?fd
     case fd=>
      intro hk'
      refine ⟨_,rfl,_,rfl,_,rfl,_,rfl,wb,l2,nu,k,p,la',xs,rs,ks,rfl,W19.same S22,good,S22 _ _ enu,by omega,λn H' s'=>?_,λS Dg tl rest wk=>⟨λe r H' s' hr0 er=>?_,λe H' s'=>?_⟩⟩
      ·exact hk' _ _ ⟨.non,.str "way", rfl,s',ZdN ends _ (λ_=>rfl) (λS Dg=>absurd ⟨S,Dg⟩ n),.inl ⟨rfl,rfl⟩⟩
      ·exact hk' _ _ ⟨.ref r,_,rfl,s',ZdN ends _ (λn=>absurd ⟨S,Dg⟩ n) (λ_ _=>⟨tl,rest,wk,.inl ⟨e,rfl⟩⟩),.inr ⟨r,_,rfl,er,rfl⟩⟩
      ·exact hk' _ _ ⟨.non,.str "way", rfl,s',ZdN ends _ (λ_=>rfl) (λ_ _=>⟨tl,rest,wk,.inr ⟨e,rfl⟩⟩),.inl ⟨rfl,rfl⟩⟩
     rintro σ' H23 ⟨dv,dd,rfl,s23,du,hdv⟩
     have S23:=S22.trans s23
     refine ⟨_,rfl,_,rfl,_,rfl,ZaG,λet2 het2=>?_⟩
     have s24:Same H23 (upd H23 et2 (.tup [.int p,.int la'])):=Same.new het2
     have eet2:upd H23 et2 (.tup [.int p,.int la']) et2=some (.tup [.int p,.int la']):=Zab
     generalize upd H23 et2 (.tup [.int p,.int la'])=H24 at s24 eet2 ⊢
     refine ⟨_,rfl,_,rfl,ZaG,λdl hdl=>?_⟩
     have s25:Same H24 (upd H24 dl (.lst [dv,.str "way"])):=Same.new hdl
     have edl:upd H24 dl (.lst [dv,.str "way"]) dl=some (.lst [dv,.str "way"]):=Zab
     generalize upd H24 dl (.lst [dv,.str "way"])=H25 at s25 edl ⊢
     have s35:=s24.trans s25
     have S25:=S23.trans s35
     have fin:∀ H':Hp,Same H25 H'->∃ v13 v14:Option V,([some (.ref a),some (.int z),some (.ref d),some (.int k),some (.ref l),some (.ref wb),some (.int p),some (.int q'),some (.ref ro),some (.int bits),some (.bl c),some (.ref so),some (.ref nu),some (.int la'),some dv]:St)=[some (.ref a),some (.int z),some (.ref d),some (.int k),some (.ref l),some (.ref wb),some (.int p),some (.int q'),some (.ref ro),some (.int bits),some (.bl c),some (.ref so),some (.ref nu),v13,v14]/\Same H21 H':=λH' s'=>⟨_,_,rfl,(s22.trans s23).trans (s35.trans s')⟩
     refine ⟨_,rfl,rfl,?_⟩
     rcases hdv with ⟨rfl,rfl⟩ | ⟨r,ns',rfl,er,rfl⟩
     ·refine .inr ⟨true,rfl,dl,_,_,_,rfl,rfl,SqL.of edl,Zaj (j:=1) rfl,?_⟩
      refine ⟨wb,l2,nu,.ref et2,.str "way", some (p,la'),k,xs,rs,ks,.str "way", rfl,W19.same S25,good,S25 _ _ enu,.inr ⟨et2,p,la',rfl,s25 _ _ eet2,rfl⟩,du,.inl ⟨_,rfl,rfl⟩,λH' s'=>⟨_,rfl,ZbC (fin H' s')⟩⟩
     ·refine .inr ⟨false,rfl,dl,_,_,_,rfl,rfl,SqL.of edl,Zaj (j:=0) rfl,?_⟩
      refine ⟨wb,l2,nu,.ref et2,.ref r,some (p,la'),k,xs,rs,ks,_,rfl,W19.same S25,good,S25 _ _ enu,.inr ⟨et2,p,la',rfl,s25 _ _ eet2,rfl⟩,du,.inr ⟨r,ns',rfl,s35 _ _ er,rfl⟩,λH' s'=>⟨_,rfl,ZbC (fin H' s')⟩⟩
    ·rintro σ H22 ⟨v13'',v14'',rfl,s22⟩
     have S22:=S21.trans s22
     dsimp only
     refine Zbo (λσ' H'=>∃ (dv:V) (dd:PyData),σ'=[some (.ref a),some (.int z),some (.ref d),some (.int k),some (.ref l),some (.ref wb),some (.int p),some (.int q'),some (.ref ro),some (.int bits),some (.bl c),some (.ref so),some (.ref nu),v13'',some dv]/\Same H22 H'/\Due k rs ks dd none/\((dv=.non/\dd=.str "way")\/∃ (r:Addr) (ns:List Int),dv=.ref r/\H' r=some (.lst (ns.map V.int))/\dd=.list (ns.map PyData.int))) ?se ?fe
     case fe=>
      intro hk'
      refine ⟨_,rfl,_,rfl,wb,l2,nu,k,xs,rs,ks,rfl,W19.same S22,good,S22 _ _ enu,by omega,λn H' s'=>?_,λS h3 Dg s0 tl rest bg wk=>⟨λe r H' s' hr0 er=>?_,λe H' s'=>?_⟩⟩
      ·exact hk' _ _ ⟨.non,.str "way", rfl,s',ZdO _ (λ_=>rfl) (λS h3 Dg=>absurd ⟨S,h3,Dg⟩ n),.inl ⟨rfl,rfl⟩⟩
      ·exact hk' _ _ ⟨.ref r,_,rfl,s',ZdO _ (λn=>absurd ⟨S,h3,Dg⟩ n) (λ_ _ _=>⟨s0,tl,rest,bg,wk,.inl ⟨e,rfl⟩⟩),.inr ⟨r,_,rfl,er,rfl⟩⟩
      ·exact hk' _ _ ⟨.non,.str "way", rfl,s',ZdO _ (λ_=>rfl) (λ_ _ _=>⟨s0,tl,rest,bg,wk,.inr ⟨e,rfl⟩⟩),.inl ⟨rfl,rfl⟩⟩
     rintro σ' H23 ⟨dv,dd,rfl,s23,du,hdv⟩
     have S23:=S22.trans s23
     refine ⟨_,rfl,_,rfl,_,rfl,ZaG,λdl hdl=>?_⟩
     have s25:Same H23 (upd H23 dl (.lst [dv,.str "way"])):=Same.new hdl
     have edl:upd H23 dl (.lst [dv,.str "way"]) dl=some (.lst [dv,.str "way"]):=Zab
     generalize upd H23 dl (.lst [dv,.str "way"])=H25 at s25 edl ⊢
     have S25:=S23.trans s25
     refine ⟨_,rfl,rfl,?_⟩
     rcases hdv with ⟨rfl,rfl⟩ | ⟨r,ns',rfl,er,rfl⟩
     ·refine .inr ⟨true,rfl,dl,_,_,_,rfl,rfl,SqL.of edl,Zaj (j:=1) rfl,?_⟩
      refine ⟨wb,l2,nu,.non,.str "way", none,k,xs,rs,ks,.str "way", rfl,W19.same S25,good,S25 _ _ enu,.inl ⟨rfl,rfl⟩,du,.inl ⟨_,rfl,rfl⟩,λH' s'=>⟨_,rfl,ZbC ?_⟩⟩
      exact ⟨_,_,_,rfl,S25.trans s'⟩
     ·refine .inr ⟨false,rfl,dl,_,_,_,rfl,rfl,SqL.of edl,Zaj (j:=0) rfl,?_⟩
      refine ⟨wb,l2,nu,.non,.ref r,none,k,xs,rs,ks,_,rfl,W19.same S25,good,S25 _ _ enu,.inl ⟨rfl,rfl⟩,du,.inr ⟨r,ns',rfl,s25 _ _ er,rfl⟩,λH' s'=>⟨_,rfl,ZbC ?_⟩⟩
      exact ⟨_,_,_,rfl,S25.trans s'⟩
   ·rintro σ H20 ⟨v12',v13',v14',rfl,s20⟩
    have S20:=S19.trans s20
    have D20:=D16.grow S20
    have W20:=W16.same S20
    have el20:=S20 _ _ el16
    have es20:=S20 _ _ es16
    have eu20:=S20 _ _ eu16
    have ep20:=S20 _ _ ep16
    refine ⟨_,rfl,so,_,_,_,rfl,rfl,SqL.of es20,Zaj (j:=1) rfl,_,rfl,so,_,_,_,rfl,rfl,SqL.of es20,Zaj (j:=3) rfl,ZaG,λL3 hL3=>?_⟩
    have s21:Same H20 (upd H20 L3 (.lst [.ref u1,.ref sp])):=Same.new hL3
    have e21:upd H20 L3 (.lst [.ref u1,.ref sp]) L3=some (.lst [.ref u1,.ref sp]):=Zab
    generalize upd H20 L3 (.lst [.ref u1,.ref sp])=H21 at s21 e21 ⊢
    have D21:=D20.grow s21
    have W21:=W20.same s21
    have el21:=s21 _ _ el20
    have eu21:=s21 _ _ eu20
    have ep21:=s21 _ _ ep20
    obtain ⟨n21,ed21⟩:=D21.at_
    have hL3d:L3≠d:=λzz=>by rw [zz,ed21] at e21;cases e21
    refine ⟨L3,rfl,⟨_,SqL.of e21⟩,?_⟩
    refine Zce (K:=K) (a:=L3) (xs:=[.ref u1,.ref sp]) (λi σ H22=>∃ v12 v13 v14:Option V,σ=[some (.ref a),some (.int z),some (.ref d),some (.int k),some (.ref l),some (.ref wb),some (.int p),some (.int q'),some (.ref ro),some (.int bits),some (.bl c),some (.ref so),v12,v13,v14]/\Dk H21 H22 d)
     ⟨_,_,_,rfl,Dk.start ed21⟩ (λi σ H22 _ ⟨_,_,_,_,k22⟩=>SqL.of (k22.keep _ _ hL3d e21)) ?_ ?_
    ·rintro i x σ H22 hi ⟨w12,w13,w14,rfl,k22⟩
     obtain ⟨nu,ks,rfl,hnd,enu⟩:∃ (nu:Addr) (ks:List Int),x=.ref nu/\nu≠d/\H21 nu=some (.lst (ks.map V.int)):=by
      match i,hi with
      | 0,hi=>cases hi;exact ⟨u1,k1,rfl,u1d,eu21⟩
      | 1,hi=>cases hi;exact ⟨sp,ms,rfl,spd,ep21⟩
      | (j+2),hi=>cases hi
     obtain ⟨n22,e22⟩:=k22.at_
     have W22:=W21.dk k22 ed21 hl2d
     have enu22:=k22.keep _ _ hnd enu
     refine ⟨_,rfl,_,rfl,_,rfl,d,n22,k,rfl,e22,hk0,hk1,λbt p2 q2 H23 k23 hbt ebt bad=>?_⟩
     have W23:=W22.dk k23 e22 hl2d
     have enu23:=k23.keep _ _ hnd enu22
     refine ⟨_,rfl,wb,l2,nu,.ref bt,.str "ends", some (p2,q2),k,xs,rs,ks,.str "ends", rfl,W23,good,enu23,.inr ⟨bt,p2,q2,rfl,ebt,rfl⟩,.inl ⟨bad,rfl⟩,.inl ⟨_,rfl,rfl⟩,λH' s'=>⟨_,rfl,ZbC ?_⟩⟩
     exact ⟨_,_,_,rfl,(k22.trans k23).grow s'⟩
    ·rintro σ H22 ⟨w12,w13,w14,rfl,k22⟩
     have D22:=D21.dk k22
     have W22:=W21.dk k22 ed21 hl2d
     have el22:=k22.keep _ _ hld el21
     refine ⟨_,rfl,_,rfl,_,rfl,ZaG,λt2' ht2=>?_⟩
     have sC:Same H22 (upd H22 t2' (.tup [.int k,.ref l])):=Same.new ht2
     have WC:=W22.same sC
     refine ⟨.tuple [.int k,.list (rs.map prD)],.tuple [.int k,.list (rs.map prD)],.tup (SqT.of WC.w) (.cons (.int _) (.cons (.lst (SqL.of WC.l) WC.p.dats) .nil)),.tup (SqT.of Zab) (.cons (.int _) (.cons (.lst (SqL.of (sC _ _ el22)) WC.p.dats) .nil)),Zdj _ _,Zdj _ _,_,rfl,?_⟩
     rw [ZiQ,decide_eq_true rfl,decide_eq_true rfl]
     refine ZbC ?_
     exact ⟨_,_,_,_,_,_,_,_,_,_,_,_,_,_,rfl,D22.s.trans sC⟩
  ·rintro σ H2 _
   exact q H2
end
end M
section
open PySem PySem.W PyProof.Rows
def M.rowP:Program:=PySem.Challenge.rw_onceways_k09_ways_of_sets.prog
def M.seenP:Program:={ M.rowP with main:={ M.rowP.main with body:=[1,2,3,4,5,6,7,8,9,10,11,12,13,14,16,17,18,20,21,22,23,24,25,27,28,29,30,32,33,34,35,36,37,38,39,40,41,42,43,44,45,46,47,48,49,50].filterMap (λi=>M.rowP.main.body[i]?) } }
def M.loosely:List Str:=[Str.ofString "roads_of"]
def M.hookX (s:Shared):Bool:=xlAt M.seenP [] s && recOk (RowW.records (OpenRow.toRowW PySem.Challenge.rw_onceways_k09_ways_of_sets.row)) s
noncomputable def M.atBoot (w:World) (os:OsState):Shared:=⟨boot_heap w.params,Array.mk [],boot_drawn,boot_toks,os⟩
noncomputable def M.topOf (p:Program) (N:Nat) (w:World) (os:OsState):Option Shared:=topRun treeTable p w (M.atBoot w os).heap.objs.size ((M.atBoot w os).heap.nsMap mainGlobals "__annotations__") N (M.atBoot w os) (topStub p)
theorem M.top_run {p:Program} {N:Nat} {w:World} {os:OsState} {s:Shared} (h:topFrom treeTable p w N (M.atBoot w os)=some s):M.topOf p N w os=some s:=by
 unfold topFrom at h
 split at h
 ·obtain ⟨s1,h1,h2⟩:=Option.bind_eq_some_iff.mp h
  split at h2
  ·cases h2;exact h1
  ·cases h2
 ·cases h
theorem M.left_boot {p q:Program} {loose:List Str} {Xt:Shared->Bool} {α:Type} {Yf:Shared->α} {Ya:World->α} {N:Nat} (e:opening p=plainProg p.main.scope.names) (hN:Nat.ble 600 N=true) (f:∀ s,fenceModules? p s=some s)
  (hc:∀ (w:World) (os:OsState),(topFrom treeTable p w N (M.atBoot w os)).isSome=true)
  (ha:∀ (w:World) (os:OsState),(M.topOf p N w os).map (openSeen q loose (importedModules p.main.body) Xt true)=some (openGood q loose))
  (hb:∀ (w:World) (os:OsState),(M.topOf p N w os).map Yf=some (Ya w)) :
  LeftO p q loose Xt Yf Ya N:=λw=>by
 obtain ⟨⟨a,b,c,d,os⟩,e1,e2⟩:=Option.map_eq_some_iff.mp (boot_open e hN f w)
 obtain ⟨rfl,rfl,rfl,rfl⟩:a=boot_heap w.params/\b=Array.mk []/\c=boot_drawn/\d=boot_toks:=by simpa using e2
 obtain ⟨s,hs⟩:=Option.isSome_iff_exists.mp (hc w os)
 have h1:=ha w os
 have h2:=hb w os
 rw [M.top_run hs] at h1 h2
 unfold openEnds
 rw [e1]
 show (topFrom treeTable p w N (M.atBoot w os)).map _=_
 rw [hs]
 simp only [Option.map_some,Option.some.injEq] at h1 h2 ⊢
 rw [h1,h2]
set_option maxHeartbeats 0 in
theorem M.topA (w:World) (os:OsState):(M.topOf M.rowP 8096 w os).map (openSeen M.seenP M.loosely (importedModules M.rowP.main.body) M.hookX true)=some (openGood M.seenP M.loosely):=by
 unfold M.topOf;rw [PySem.W.Fast.te14082659384304107361,PySem.W.Fast.te14364793385576792824,PySem.W.Fast.te4187177175401517315];kernel_rfl
set_option maxHeartbeats 0 in
theorem M.topC (w:World) (os:OsState):(topFrom treeTable M.rowP w 8096 (M.atBoot w os)).isSome=true:=by
 unfold topFrom;rw [PySem.W.Fast.te14082659384304107361,PySem.W.Fast.te14364793385576792824];kernel_rfl
end
namespace M
open PySem L2
theorem all_mk {l:PySem.W.OpenLaw} {w:World} {K:PySem.W.Frag} {h:Heap} {mg:Str->Option Value} {fa f1 f2 f3 f4 f5 f6 f7 f8 f9 f10 f11 f12 f13 f14 f15 f16 f17 f18 f19 f20 f21 f22 f23 f24 f25 f26 f27 f28 f29 f30 f31 f32 f33 C NW way a1 a2 a3 a4 a5 a6 a7 a8 a9 a10 a11 dT:Addr} {dtc:Value} {dtd:Option Addr} {dtn:Nat} {dts:Array (Option Value)} (X:K.In h) (G:h.Ns mainGlobals mg) (hfa:mg "law" = some (.ref fa))
  {od1 an1 od2 an2 od3 an3 od4 an4 od5 an5 od6 an6 od7 an7 od8 an8 od9 an9 od10 an10 od11 an11 od12 an12 od13 an13 od14 an14 od15 an15 od16 an16 od17 an17 od18 an18 od19 an19 od20 an20 od21 an21 od22 an22 od23 an23 od24 an24 od25 an25 od26 an26 od27 an27 od28 an28 od29 an29 od30 an30 od31 an31 od32 an32 od33 an33:Option Addr} {sl1 sl2 sl3 sl4 sl5 sl6 sl7 sl8 sl9 sl10 sl11 sl12 sl13 sl14 sl15 sl16 sl17 sl18 sl19 sl20 sl21 sl22 sl23 sl24 sl25 sl26 sl27 sl28 sl29 sl30 sl31 sl32 sl33:Array (Option Value)} {oc1 kV1 dc1 pm1 cd1 ct1 oc2 kV2 dc2 pm2 cd2 ct2 oc3 kV3 dc3 pm3 cd3 ct3 oc4 kV4 dc4 pm4 cd4 ct4 oc5 kV5 dc5 pm5 cd5 ct5 oc6 kV6 dc6 pm6 cd6 ct6 oc7 kV7 dc7 pm7 cd7 ct7 oc8 kV8 dc8 pm8 cd8 ct8 oc9 kV9 dc9 pm9 cd9 ct9 oc10 kV10 dc10 pm10 cd10 ct10 oc11 kV11 dc11 pm11 cd11 ct11 oc12 kV12 dc12 pm12 cd12 ct12 oc13 kV13 dc13 pm13 cd13 ct13 oc14 kV14 dc14 pm14 cd14 ct14 oc15 kV15 dc15 pm15 cd15 ct15 oc16 kV16 dc16 pm16 cd16 ct16 oc17 kV17 dc17 pm17 cd17 ct17 oc18 kV18 dc18 pm18 cd18 ct18 oc19 kV19 dc19 pm19 cd19 ct19 oc20 kV20 dc20 pm20 cd20 ct20 oc21 kV21 dc21 pm21 cd21 ct21 oc22 kV22 dc22 pm22 cd22 ct22 oc23 kV23 dc23 pm23 cd23 ct23 oc24 kV24 dc24 pm24 cd24 ct24 oc25 kV25 dc25 pm25 cd25 ct25 oc26 kV26 dc26 pm26 cd26 ct26 oc27 kV27 dc27 pm27 cd27 ct27 oc28 kV28 dc28 pm28 cd28 ct28 oc29 kV29 dc29 pm29 cd29 ct29 oc30 kV30 dc30 pm30 cd30 ct30 oc31 kV31 dc31 pm31 cd31 ct31 oc32 kV32 dc32 pm32 cd32 ct32 oc33 kV33 dc33 pm33 cd33 ct33:Value}
  (aF1:PySem.W.nsIn K mainGlobals "is_place" = some (some (.ref f1))) (lF1:K.lookup f1=some ⟨oc1,od1,.func (PySem.W.fnOf "is_place" "is_place" (Zao sIs) (Zan sIs) (Zae sIs) .none kV1 dc1 pm1 an1 cd1 ct1),sl1⟩) (cF1:PySem.W.codeIn K cd1 "is_place" = true) (kF1:PySem.W.keepIn K (.ref f1)=true)
  (aF2:PySem.W.nsIn K mainGlobals "check_place" = some (some (.ref f2))) (lF2:K.lookup f2=some ⟨oc2,od2,.func (PySem.W.fnOf "check_place" "check_place" (Zao Zjd) (Zan Zjd) (Zae Zjd) .none kV2 dc2 pm2 an2 cd2 ct2),sl2⟩) (cF2:PySem.W.codeIn K cd2 "check_place" = true) (kF2:PySem.W.keepIn K (.ref f2)=true)
  (aF3:PySem.W.nsIn K mainGlobals "beside" = some (some (.ref f3))) (lF3:K.lookup f3=some ⟨oc3,od3,.func (PySem.W.fnOf "beside" "beside" (Zao Zje) (Zan Zje) (Zae Zje) .none kV3 dc3 pm3 an3 cd3 ct3),sl3⟩) (cF3:PySem.W.codeIn K cd3 "beside" = true) (kF3:PySem.W.keepIn K (.ref f3)=true)
  (aF4:PySem.W.nsIn K mainGlobals "check_ends" = some (some (.ref f4))) (lF4:K.lookup f4=some ⟨oc4,od4,.func (PySem.W.fnOf "check_ends" "check_ends" (Zao Zib) (Zan Zib) (Zae Zib) .none kV4 dc4 pm4 an4 cd4 ct4),sl4⟩) (cF4:PySem.W.codeIn K cd4 "check_ends" = true) (kF4:PySem.W.keepIn K (.ref f4)=true)
  (aF5:PySem.W.nsIn K mainGlobals "numbers_by_step" = some (some (.ref f5))) (lF5:K.lookup f5=some ⟨oc5,od5,.func (PySem.W.fnOf "numbers_by_step" "numbers_by_step" (Zao ZhG) (Zan ZhG) (Zae ZhG) .none kV5 dc5 pm5 an5 cd5 ct5),sl5⟩) (cF5:PySem.W.codeIn K cd5 "numbers_by_step" = true) (kF5:PySem.W.keepIn K (.ref f5)=true)
  (aF6:PySem.W.nsIn K mainGlobals "steps_of" = some (some (.ref f6))) (lF6:K.lookup f6=some ⟨oc6,od6,.func (PySem.W.fnOf "steps_of" "steps_of" (Zao Zic) (Zan Zic) (Zae Zic) .none kV6 dc6 pm6 an6 cd6 ct6),sl6⟩) (cF6:PySem.W.codeIn K cd6 "steps_of" = true) (kF6:PySem.W.keepIn K (.ref f6)=true)
  (aF7:PySem.W.nsIn K mainGlobals "goes_once" = some (some (.ref f7))) (lF7:K.lookup f7=some ⟨oc7,od7,.func (PySem.W.fnOf "goes_once" "goes_once" (Zao ZhH) (Zan ZhH) (Zae ZhH) .none kV7 dc7 pm7 an7 cd7 ct7),sl7⟩) (cF7:PySem.W.codeIn K cd7 "goes_once" = true) (kF7:PySem.W.keepIn K (.ref f7)=true)
  (aF8:PySem.W.nsIn K mainGlobals "is_way" = some (some (.ref f8))) (lF8:K.lookup f8=some ⟨oc8,od8,.func (PySem.W.fnOf "is_way" "is_way" (Zao Zjf) (Zan Zjf) (Zae Zjf) .none kV8 dc8 pm8 an8 cd8 ct8),sl8⟩) (cF8:PySem.W.codeIn K cd8 "is_way" = true) (kF8:PySem.W.keepIn K (.ref f8)=true)
  (aF9:PySem.W.nsIn K mainGlobals "is_closed" = some (some (.ref f9))) (lF9:K.lookup f9=some ⟨oc9,od9,.func (PySem.W.fnOf "is_closed" "is_closed" (Zao Zjg) (Zan Zjg) (Zae Zjg) .none kV9 dc9 pm9 an9 cd9 ct9),sl9⟩) (cF9:PySem.W.codeIn K cd9 "is_closed" = true) (kF9:PySem.W.keepIn K (.ref f9)=true)
  (aF10:PySem.W.nsIn K mainGlobals "roads_of" = some (some (.ref f10))) (lF10:K.lookup f10=some ⟨oc10,od10,.func (PySem.W.fnOf "roads_of" "roads_of" (Zao ZeG) (Zan ZeG) (Zae ZeG) (.ref dT) kV10 dc10 pm10 an10 cd10 ct10),sl10⟩) (cF10:PySem.W.codeIn K cd10 "roads_of" = true) (kF10:PySem.W.keepIn K (.ref f10)=true)
  (aF11:PySem.W.nsIn K mainGlobals "chosen_roads" = some (some (.ref f11))) (lF11:K.lookup f11=some ⟨oc11,od11,.func (PySem.W.fnOf "chosen_roads" "chosen_roads" (Zao Zid) (Zan Zid) (Zae Zid) .none kV11 dc11 pm11 an11 cd11 ct11),sl11⟩) (cF11:PySem.W.codeIn K cd11 "chosen_roads" = true) (kF11:PySem.W.keepIn K (.ref f11)=true)
  (aF12:PySem.W.nsIn K mainGlobals "walk" = some (some (.ref f12))) (lF12:K.lookup f12=some ⟨oc12,od12,.func (PySem.W.fnOf "walk" "walk" (Zao ZhI) (Zan ZhI) (Zae ZhI) .none kV12 dc12 pm12 an12 cd12 ct12),sl12⟩) (cF12:PySem.W.codeIn K cd12 "walk" = true) (kF12:PySem.W.keepIn K (.ref f12)=true)
  (aF13:PySem.W.nsIn K mainGlobals "way_of" = some (some (.ref f13))) (lF13:K.lookup f13=some ⟨oc13,od13,.func (PySem.W.fnOf "way_of" "way_of" (Zao Zie) (Zan Zie) (Zae Zie) .none kV13 dc13 pm13 an13 cd13 ct13),sl13⟩) (cF13:PySem.W.codeIn K cd13 "way_of" = true) (kF13:PySem.W.keepIn K (.ref f13)=true)
  (aF14:PySem.W.nsIn K mainGlobals "closed_of" = some (some (.ref f14))) (lF14:K.lookup f14=some ⟨oc14,od14,.func (PySem.W.fnOf "closed_of" "closed_of" (Zao ZhJ) (Zan ZhJ) (Zae ZhJ) .none kV14 dc14 pm14 an14 cd14 ct14),sl14⟩) (cF14:PySem.W.codeIn K cd14 "closed_of" = true) (kF14:PySem.W.keepIn K (.ref f14)=true)
  (aF15:PySem.W.nsIn K mainGlobals "_law_stir" = some (some (.ref f15))) (lF15:K.lookup f15=some ⟨oc15,od15,.func (PySem.W.fnOf "_law_stir" "_law_stir" (Zao ZeH) (Zan ZeH) (Zae ZeH) .none kV15 dc15 pm15 an15 cd15 ct15),sl15⟩) (cF15:PySem.W.codeIn K cd15 "_law_stir" = true) (kF15:PySem.W.keepIn K (.ref f15)=true)
  (aF16:PySem.W.nsIn K mainGlobals "_law_deck" = some (some (.ref f16))) (lF16:K.lookup f16=some ⟨oc16,od16,.func (PySem.W.fnOf "_law_deck" "_law_deck" (Zao ZeI) (Zan ZeI) (Zae ZeI) .none kV16 dc16 pm16 an16 cd16 ct16),sl16⟩) (cF16:PySem.W.codeIn K cd16 "_law_deck" = true) (kF16:PySem.W.keepIn K (.ref f16)=true)
  (aF17:PySem.W.nsIn K mainGlobals "_law_take" = some (some (.ref f17))) (lF17:K.lookup f17=some ⟨oc17,od17,.func (PySem.W.fnOf "_law_take" "_law_take" (Zao ZcF) (Zan ZcF) (Zae ZcF) .none kV17 dc17 pm17 an17 cd17 ct17),sl17⟩) (cF17:PySem.W.codeIn K cd17 "_law_take" = true) (kF17:PySem.W.keepIn K (.ref f17)=true)
  (aF18:PySem.W.nsIn K mainGlobals "_law_grid" = some (some (.ref f18))) (lF18:K.lookup f18=some ⟨oc18,od18,.func (PySem.W.fnOf "_law_grid" "_law_grid" (Zao Zc2) (Zan Zc2) (Zae Zc2) .none kV18 dc18 pm18 an18 cd18 ct18),sl18⟩) (cF18:PySem.W.codeIn K cd18 "_law_grid" = true) (kF18:PySem.W.keepIn K (.ref f18)=true)
  (aF19:PySem.W.nsIn K mainGlobals "_law_web" = some (some (.ref f19))) (lF19:K.lookup f19=some ⟨oc19,od19,.func (PySem.W.fnOf "_law_web" "_law_web" (Zao Zjh) (Zan Zjh) (Zae Zjh) .none kV19 dc19 pm19 an19 cd19 ct19),sl19⟩) (cF19:PySem.W.codeIn K cd19 "_law_web" = true) (kF19:PySem.W.keepIn K (.ref f19)=true)
  (aF20:PySem.W.nsIn K mainGlobals "_law_ends" = some (some (.ref f20))) (lF20:K.lookup f20=some ⟨oc20,od20,.func (PySem.W.fnOf "_law_ends" "_law_ends" (Zao Zji) (Zan Zji) (Zae Zji) .none kV20 dc20 pm20 an20 cd20 ct20),sl20⟩) (cF20:PySem.W.codeIn K cd20 "_law_ends" = true) (kF20:PySem.W.keepIn K (.ref f20)=true)
  (aF21:PySem.W.nsIn K mainGlobals "_law_bad_ends" = some (some (.ref f21))) (lF21:K.lookup f21=some ⟨oc21,od21,.func (PySem.W.fnOf "_law_bad_ends" "_law_bad_ends" (Zao Zjj) (Zan Zjj) (Zae Zjj) .none kV21 dc21 pm21 an21 cd21 ct21),sl21⟩) (cF21:PySem.W.codeIn K cd21 "_law_bad_ends" = true) (kF21:PySem.W.keepIn K (.ref f21)=true)
  (aF22:PySem.W.nsIn K mainGlobals "_law_near" = some (some (.ref f22))) (lF22:K.lookup f22=some ⟨oc22,od22,.func (PySem.W.fnOf "_law_near" "_law_near" (Zao Zif) (Zan Zif) (Zae Zif) .none kV22 dc22 pm22 an22 cd22 ct22),sl22⟩) (cF22:PySem.W.codeIn K cd22 "_law_near" = true) (kF22:PySem.W.keepIn K (.ref f22)=true)
  (aF23:PySem.W.nsIn K mainGlobals "_law_gone" = some (some (.ref f23))) (lF23:K.lookup f23=some ⟨oc23,od23,.func (PySem.W.fnOf "_law_gone" "_law_gone" (Zao Zjk) (Zan Zjk) (Zae Zjk) .none kV23 dc23 pm23 an23 cd23 ct23),sl23⟩) (cF23:PySem.W.codeIn K cd23 "_law_gone" = true) (kF23:PySem.W.keepIn K (.ref f23)=true)
  (aF24:PySem.W.nsIn K mainGlobals "_law_is_set" = some (some (.ref f24))) (lF24:K.lookup f24=some ⟨oc24,od24,.func (PySem.W.fnOf "_law_is_set" "_law_is_set" (Zao Zig) (Zan Zig) (Zae Zig) .none kV24 dc24 pm24 an24 cd24 ct24),sl24⟩) (cF24:PySem.W.codeIn K cd24 "_law_is_set" = true) (kF24:PySem.W.keepIn K (.ref f24)=true)
  (aF25:PySem.W.nsIn K mainGlobals "_law_walk" = some (some (.ref f25))) (lF25:K.lookup f25=some ⟨oc25,od25,.func (PySem.W.fnOf "_law_walk" "_law_walk" (Zao ZgL) (Zan ZgL) (Zae ZgL) .none kV25 dc25 pm25 an25 cd25 ct25),sl25⟩) (cF25:PySem.W.codeIn K cd25 "_law_walk" = true) (kF25:PySem.W.keepIn K (.ref f25)=true)
  (aF26:PySem.W.nsIn K mainGlobals "_law_at" = some (some (.ref f26))) (lF26:K.lookup f26=some ⟨oc26,od26,.func (PySem.W.fnOf "_law_at" "_law_at" (Zao Zih) (Zan Zih) (Zae Zih) .none kV26 dc26 pm26 an26 cd26 ct26),sl26⟩) (cF26:PySem.W.codeIn K cd26 "_law_at" = true) (kF26:PySem.W.keepIn K (.ref f26)=true)
  (aF27:PySem.W.nsIn K mainGlobals "_law_open" = some (some (.ref f27))) (lF27:K.lookup f27=some ⟨oc27,od27,.func (PySem.W.fnOf "_law_open" "_law_open" (Zao Zjl) (Zan Zjl) (Zae Zjl) .none kV27 dc27 pm27 an27 cd27 ct27),sl27⟩) (cF27:PySem.W.codeIn K cd27 "_law_open" = true) (kF27:PySem.W.keepIn K (.ref f27)=true)
  (aF28:PySem.W.nsIn K mainGlobals "_law_ring" = some (some (.ref f28))) (lF28:K.lookup f28=some ⟨oc28,od28,.func (PySem.W.fnOf "_law_ring" "_law_ring" (Zao Zii) (Zan Zii) (Zae Zii) .none kV28 dc28 pm28 an28 cd28 ct28),sl28⟩) (cF28:PySem.W.codeIn K cd28 "_law_ring" = true) (kF28:PySem.W.keepIn K (.ref f28)=true)
  (aF29:PySem.W.nsIn K mainGlobals "_law_set" = some (some (.ref f29))) (lF29:K.lookup f29=some ⟨oc29,od29,.func (PySem.W.fnOf "_law_set" "_law_set" (Zao Zjm) (Zan Zjm) (Zae Zjm) .none kV29 dc29 pm29 an29 cd29 ct29),sl29⟩) (cF29:PySem.W.codeIn K cd29 "_law_set" = true) (kF29:PySem.W.keepIn K (.ref f29)=true)
  (aF30:PySem.W.nsIn K mainGlobals "_law_spoilt" = some (some (.ref f30))) (lF30:K.lookup f30=some ⟨oc30,od30,.func (PySem.W.fnOf "_law_spoilt" "_law_spoilt" (Zao Zjn) (Zan Zjn) (Zae Zjn) .none kV30 dc30 pm30 an30 cd30 ct30),sl30⟩) (cF30:PySem.W.codeIn K cd30 "_law_spoilt" = true) (kF30:PySem.W.keepIn K (.ref f30)=true)
  (aF31:PySem.W.nsIn K mainGlobals "_law_told" = some (some (.ref f31))) (lF31:K.lookup f31=some ⟨oc31,od31,.func (PySem.W.fnOf "_law_told" "_law_told" (Zao Zjo) (Zan Zjo) (Zae Zjo) .none kV31 dc31 pm31 an31 cd31 ct31),sl31⟩) (cF31:PySem.W.codeIn K cd31 "_law_told" = true) (kF31:PySem.W.keepIn K (.ref f31)=true)
  (aF32:PySem.W.nsIn K mainGlobals "_law_right" = some (some (.ref f32))) (lF32:K.lookup f32=some ⟨oc32,od32,.func (PySem.W.fnOf "_law_right" "_law_right" (Zao Zjp) (Zan Zjp) (Zae Zjp) .none kV32 dc32 pm32 an32 cd32 ct32),sl32⟩) (cF32:PySem.W.codeIn K cd32 "_law_right" = true) (kF32:PySem.W.keepIn K (.ref f32)=true)
  (aF33:PySem.W.nsIn K mainGlobals "law" = some (some (.ref f33))) (lF33:K.lookup f33=some ⟨oc33,od33,.func (PySem.W.fnOf "law" "law" (Zao ZhK) (Zan ZhK) (Zae ZhK) .none kV33 dc33 pm33 an33 cd33 ct33),sl33⟩) (cF33:PySem.W.codeIn K cd33 "law" = true) (kF33:PySem.W.keepIn K (.ref f33)=true)
  (gC:PySem.W.nsIn K mainGlobals "NoEnds" = some (some (.ref C)))
  (gN:PySem.W.nsIn K mainGlobals "NoWay" = some (some (.ref NW)))
  (gway:PySem.W.nsIn K mainGlobals "WayError" = some (some (.ref way)))
  (g1:PySem.W.nsIn K mainGlobals "NoName" = some (some (.ref a1)))
  (g2:PySem.W.nsIn K mainGlobals "NoNumber" = some (some (.ref a2)))
  (g3:PySem.W.nsIn K mainGlobals "NoOrder" = some (some (.ref a3)))
  (g4:PySem.W.nsIn K mainGlobals "NoPlace" = some (some (.ref a4)))
  (g5:PySem.W.nsIn K mainGlobals "NoRow" = some (some (.ref a5)))
  (g6:PySem.W.nsIn K mainGlobals "NoStep" = some (some (.ref a6)))
  (g7:PySem.W.nsIn K mainGlobals "NoTable" = some (some (.ref a7)))
  (g8:PySem.W.nsIn K mainGlobals "NoText" = some (some (.ref a8)))
  (g9:PySem.W.nsIn K mainGlobals "NoWall" = some (some (.ref a9)))
  (g10:PySem.W.nsIn K mainGlobals "NoWeb" = some (some (.ref a10)))
  (g11:PySem.W.nsIn K mainGlobals "TooMany" = some (some (.ref a11)))
  (xexC:ExcC K C)
  (xgaC:PySem.W.findIn K (.ref C) "__getattribute__" = some (some (.builtin "BaseException.__getattribute__")))
  (xngC:PySem.W.findIn K (.ref C) "__getattr__" = some none)
  (xclC:PySem.W.findIn K (.ref C) "__class__" = some (some (.builtin "object.__class__")))
  (xobC:PySem.W.mroIn K C (.type "object")=some true)
  (xbeC:PySem.W.subIn K (.ref C) (.type "BaseException")=some true)
  (xexN:ExcC K NW)
  (xgaN:PySem.W.findIn K (.ref NW) "__getattribute__" = some (some (.builtin "BaseException.__getattribute__")))
  (xngN:PySem.W.findIn K (.ref NW) "__getattr__" = some none)
  (xclN:PySem.W.findIn K (.ref NW) "__class__" = some (some (.builtin "object.__class__")))
  (xobN:PySem.W.mroIn K NW (.type "object")=some true)
  (xbeN:PySem.W.subIn K (.ref NW) (.type "BaseException")=some true)
  (xexP:ExcC K a4)
  (wbe:PySem.W.subIn K (.ref way) (.type "BaseException")=some true)
  (cC:PySem.W.kitOne K (.ref C) (.ref way)=some true)
  (cN:PySem.W.kitOne K (.ref NW) (.ref way)=some true)
  (nC:C≠way)
  (nN:NW≠way)
  (tC:PySem.W.kitAny K (.ref C) [.ref a1,.ref a2,.ref a3,.ref a4,.ref a5,.ref a6,.ref a7,.ref a8,.ref a9,.ref a10]=some false)
  (tN:PySem.W.kitAny K (.ref NW) [.ref a1,.ref a2,.ref a3,.ref a4,.ref a5,.ref a6,.ref a7,.ref a8,.ref a9,.ref a10]=some false)
  (uC:PySem.W.kitOne K (.ref C) (.ref a11)=some false)
  (uN:PySem.W.kitOne K (.ref NW) (.ref a11)=some false)
  (vC:PySem.W.kitOne K (.ref C) (.type "ValueError")=some true)
  (vN:PySem.W.kitOne K (.ref NW) (.type "ValueError")=some true)
  (wC:PySem.W.kitOne K (.ref C) (.ref NW)=some false)
  (wN:PySem.W.kitOne K (.ref NW) (.ref C)=some false)
  (kib:PySem.W.kitOne K (.type "int") (.type "bool")=some false)
  (ksl:PySem.W.kitOne K (.type "str") (.type "list")=some false)
  (dTl:K.lookup dT=some ⟨dtc,dtd,.seq #[.bool false] dtn,dts⟩)
  (nisinstance:PySem.W.nsIn K mainGlobals "isinstance" = some none)
  (nValueError:PySem.W.nsIn K mainGlobals "ValueError" = some none)
  (nrange:PySem.W.nsIn K mainGlobals "range" = some none)
  (nlist:PySem.W.nsIn K mainGlobals "list" = some none)
  (nlen:PySem.W.nsIn K mainGlobals "len" = some none)
  (nint:PySem.W.nsIn K mainGlobals "int" = some none)
  (nmin:PySem.W.nsIn K mainGlobals "min" = some none)
  (nmax:PySem.W.nsIn K mainGlobals "max" = some none)
  (nsorted:PySem.W.nsIn K mainGlobals "sorted" = some none)
  (nbool:PySem.W.nsIn K mainGlobals "bool" = some none)
  (nset:PySem.W.nsIn K mainGlobals "set" = some none)
  (nall:PySem.W.nsIn K mainGlobals "all" = some none)
  (nzip:PySem.W.nsIn K mainGlobals "zip" = some none)
  (nabs:PySem.W.nsIn K mainGlobals "abs" = some none)
  (nenumerate:PySem.W.nsIn K mainGlobals "enumerate" = some none)
  : ∃ fd:FuncData,(∀ (s:Shared) (v:Value),BindsTo s fd ⟨[v],[]⟩ [("script", v)])/\∀ base:Heap,K.In base->base.Ns mainGlobals mg->ZaK l.prog w K mg base CX0 8 fa fd ["script"] (ZhZ K):=by
 have e:=hfa.symm.trans (PySem.W.mg_of X G aF33)
 cases e
 have FIp:=ZaI (st:=sIs) lF1 cF1 kF1
 have bIp:=FIp.binds (ps:=["web", "place"]) λ_ _ _ _ _ _ us hl=>match us,hl with | [_,_],_=>rfl
 have mIp:mg "is_place" = some (.ref f1):=PySem.W.mg_of X G aF1
 have FCp:=ZaI (st:=Zjd) lF2 cF2 kF2
 have bCp:=FCp.binds (ps:=["web", "place"]) λ_ _ _ _ _ _ us hl=>match us,hl with | [_,_],_=>rfl
 have mCp:mg "check_place" = some (.ref f2):=PySem.W.mg_of X G aF2
 have FBe:=ZaI (st:=Zje) lF3 cF3 kF3
 have bBe:=FBe.binds (ps:=["web", "place"]) λ_ _ _ _ _ _ us hl=>match us,hl with | [_,_],_=>rfl
 have mBe:mg "beside" = some (.ref f3):=PySem.W.mg_of X G aF3
 have FCe:=ZaI (st:=Zib) lF4 cF4 kF4
 have bCe:=FCe.binds (ps:=["web", "one", "other"]) λ_ _ _ _ _ _ us hl=>match us,hl with | [_,_,_],_=>rfl
 have mCe:mg "check_ends" = some (.ref f4):=PySem.W.mg_of X G aF4
 have FNb:=ZaI (st:=ZhG) lF5 cF5 kF5
 have bNb:=FNb.binds (ps:=["web"]) λ_ _ _ _ _ _ us hl=>match us,hl with | [_],_=>rfl
 have mNb:mg "numbers_by_step" = some (.ref f5):=PySem.W.mg_of X G aF5
 have FSo:=ZaI (st:=Zic) lF6 cF6 kF6
 have bSo:=FSo.binds (ps:=["places", "closed"]) λ_ _ _ _ _ _ us hl=>match us,hl with | [_,_],_=>rfl
 have mSo:mg "steps_of" = some (.ref f6):=PySem.W.mg_of X G aF6
 have FGo:=ZaI (st:=ZhH) lF7 cF7 kF7
 have bGo:=FGo.binds (ps:=["web", "places", "closed"]) λ_ _ _ _ _ _ us hl=>match us,hl with | [_,_,_],_=>rfl
 have mGo:mg "goes_once" = some (.ref f7):=PySem.W.mg_of X G aF7
 have FIw:=ZaI (st:=Zjf) lF8 cF8 kF8
 have bIw:=FIw.binds (ps:=["web", "one", "other", "places"]) λ_ _ _ _ _ _ us hl=>match us,hl with | [_,_,_,_],_=>rfl
 have mIw:mg "is_way" = some (.ref f8):=PySem.W.mg_of X G aF8
 have FIc:=ZaI (st:=Zjg) lF9 cF9 kF9
 have bIc:=FIc.binds (ps:=["web", "places"]) λ_ _ _ _ _ _ us hl=>match us,hl with | [_,_],_=>rfl
 have mIc:mg "is_closed" = some (.ref f9):=PySem.W.mg_of X G aF9
 have FRo:=Zi2 (st:=ZeG) lF10 cF10 kF10
 have bRo:Binds K _ ["web", "places", "closed"] []:=λs us X' hl=>match us,hl with | [_,_,_],_=>PySem.W.binds_K (fd:=PySem.W.fnOf "roads_of" "roads_of" (Zao ZeG) (Zan ZeG) (Zae ZeG) (.ref dT) kV10 dc10 pm10 an10 cd10 ct10) X' rfl dTl rfl rfl rfl
 have bRo2:Binds K _ ["web", "places", "closed"] [.bool false]:=λs us X' hl=>match us,(show us.length=2 by rw [List.length_append] at hl;simpa using hl) with | [_,_],_=>PySem.W.binds_K (fd:=PySem.W.fnOf "roads_of" "roads_of" (Zao ZeG) (Zan ZeG) (Zae ZeG) (.ref dT) kV10 dc10 pm10 an10 cd10 ct10) X' rfl dTl rfl rfl rfl
 have mRo:mg "roads_of" = some (.ref f10):=PySem.W.mg_of X G aF10
 have FCh:=ZaI (st:=Zid) lF11 cF11 kF11
 have bCh:=FCh.binds (ps:=["web", "roads"]) λ_ _ _ _ _ _ us hl=>match us,hl with | [_,_],_=>rfl
 have mCh:mg "chosen_roads" = some (.ref f11):=PySem.W.mg_of X G aF11
 have FWa:=ZaI (st:=ZhI) lF12 cF12 kF12
 have bWa:=FWa.binds (ps:=["web", "start", "roads"]) λ_ _ _ _ _ _ us hl=>match us,hl with | [_,_,_],_=>rfl
 have mWa:mg "walk" = some (.ref f12):=PySem.W.mg_of X G aF12
 have FWo:=ZaI (st:=Zie) lF13 cF13 kF13
 have bWo:=FWo.binds (ps:=["web", "one", "other", "roads"]) λ_ _ _ _ _ _ us hl=>match us,hl with | [_,_,_,_],_=>rfl
 have mWo:mg "way_of" = some (.ref f13):=PySem.W.mg_of X G aF13
 have FCo:=ZaI (st:=ZhJ) lF14 cF14 kF14
 have bCo:=FCo.binds (ps:=["web", "roads"]) λ_ _ _ _ _ _ us hl=>match us,hl with | [_,_],_=>rfl
 have mCo:mg "closed_of" = some (.ref f14):=PySem.W.mg_of X G aF14
 have FSt:=ZaI (st:=ZeH) lF15 cF15 kF15
 have bSt:=FSt.binds (ps:=["cell", "k"]) λ_ _ _ _ _ _ us hl=>match us,hl with | [_,_],_=>rfl
 have mSt:mg "_law_stir" = some (.ref f15):=PySem.W.mg_of X G aF15
 have FDe:=ZaI (st:=ZeI) lF16 cF16 kF16
 have bDe:=FDe.binds (ps:=["cell"]) λ_ _ _ _ _ _ us hl=>match us,hl with | [_],_=>rfl
 have mDe:mg "_law_deck" = some (.ref f16):=PySem.W.mg_of X G aF16
 have FTa:=ZaI (st:=ZcF) lF17 cF17 kF17
 have bTa:=FTa.binds (ps:=["deck", "many"]) λ_ _ _ _ _ _ us hl=>match us,hl with | [_,_],_=>rfl
 have mTa:mg "_law_take" = some (.ref f17):=PySem.W.mg_of X G aF17
 have FGr:=ZaI (st:=Zc2) lF18 cF18 kF18
 have bGr:=FGr.binds (ps:=["rows", "columns"]) λ_ _ _ _ _ _ us hl=>match us,hl with | [_,_],_=>rfl
 have mGr:mg "_law_grid" = some (.ref f18):=PySem.W.mg_of X G aF18
 have FWe:=ZaI (st:=Zjh) lF19 cF19 kF19
 have bWe:=FWe.binds (ps:=["deck"]) λ_ _ _ _ _ _ us hl=>match us,hl with | [_],_=>rfl
 have mWe:mg "_law_web" = some (.ref f19):=PySem.W.mg_of X G aF19
 have FEn:=ZaI (st:=Zji) lF20 cF20 kF20
 have bEn:=FEn.binds (ps:=["deck", "places"]) λ_ _ _ _ _ _ us hl=>match us,hl with | [_,_],_=>rfl
 have mEn:mg "_law_ends" = some (.ref f20):=PySem.W.mg_of X G aF20
 have FBd:=ZaI (st:=Zjj) lF21 cF21 kF21
 have bBd:=FBd.binds (ps:=["deck", "places"]) λ_ _ _ _ _ _ us hl=>match us,hl with | [_,_],_=>rfl
 have mBd:mg "_law_bad_ends" = some (.ref f21):=PySem.W.mg_of X G aF21
 have FNe:=ZaI (st:=Zif) lF22 cF22 kF22
 have bNe:=FNe.binds (ps:=["web", "place"]) λ_ _ _ _ _ _ us hl=>match us,hl with | [_,_],_=>rfl
 have mNe:mg "_law_near" = some (.ref f22):=PySem.W.mg_of X G aF22
 have FGn:=ZaI (st:=Zjk) lF23 cF23 kF23
 have bGn:=FGn.binds (ps:=["deck", "web", "place", "most"]) λ_ _ _ _ _ _ us hl=>match us,hl with | [_,_,_,_],_=>rfl
 have mGn:mg "_law_gone" = some (.ref f23):=PySem.W.mg_of X G aF23
 have FIs:=ZaI (st:=Zig) lF24 cF24 kF24
 have bIs:=FIs.binds (ps:=["web", "roads"]) λ_ _ _ _ _ _ us hl=>match us,hl with | [_,_],_=>rfl
 have mIs:mg "_law_is_set" = some (.ref f24):=PySem.W.mg_of X G aF24
 have FLw:=ZaI (st:=ZgL) lF25 cF25 kF25
 have bLw:=FLw.binds (ps:=["web", "roads", "place"]) λ_ _ _ _ _ _ us hl=>match us,hl with | [_,_,_],_=>rfl
 have mLw:mg "_law_walk" = some (.ref f25):=PySem.W.mg_of X G aF25
 have FAt:=ZaI (st:=Zih) lF26 cF26 kF26
 have bAt:=FAt.binds (ps:=["web", "roads", "place"]) λ_ _ _ _ _ _ us hl=>match us,hl with | [_,_,_],_=>rfl
 have mAt:mg "_law_at" = some (.ref f26):=PySem.W.mg_of X G aF26
 have FOp:=ZaI (st:=Zjl) lF27 cF27 kF27
 have bOp:=FOp.binds (ps:=["web", "one", "other", "roads"]) λ_ _ _ _ _ _ us hl=>match us,hl with | [_,_,_,_],_=>rfl
 have mOp:mg "_law_open" = some (.ref f27):=PySem.W.mg_of X G aF27
 have FRi:=ZaI (st:=Zii) lF28 cF28 kF28
 have bRi:=FRi.binds (ps:=["web", "roads"]) λ_ _ _ _ _ _ us hl=>match us,hl with | [_,_],_=>rfl
 have mRi:mg "_law_ring" = some (.ref f28):=PySem.W.mg_of X G aF28
 have FSe:=ZaI (st:=Zjm) lF29 cF29 kF29
 have bSe:=FSe.binds (ps:=["web", "row", "closed"]) λ_ _ _ _ _ _ us hl=>match us,hl with | [_,_,_],_=>rfl
 have mSe:mg "_law_set" = some (.ref f29):=PySem.W.mg_of X G aF29
 have FSp:=ZaI (st:=Zjn) lF30 cF30 kF30
 have bSp:=FSp.binds (ps:=["deck", "web", "roads"]) λ_ _ _ _ _ _ us hl=>match us,hl with | [_,_,_],_=>rfl
 have mSp:mg "_law_spoilt" = some (.ref f30):=PySem.W.mg_of X G aF30
 have FTo:=ZaI (st:=Zjo) lF31 cF31 kF31
 have bTo:=FTo.binds (ps:=["web", "ends", "roads"]) λ_ _ _ _ _ _ us hl=>match us,hl with | [_,_,_],_=>rfl
 have mTo:mg "_law_told" = some (.ref f31):=PySem.W.mg_of X G aF31
 have FRg:=ZaI (st:=Zjp) lF32 cF32 kF32
 have bRg:=FRg.binds (ps:=["web", "ends", "roads", "due"]) λ_ _ _ _ _ _ us hl=>match us,hl with | [_,_,_,_],_=>rfl
 have mRg:mg "_law_right" = some (.ref f32):=PySem.W.mg_of X G aF32
 have FL:=ZaI (st:=ZhK) lF33 cF33 kF33
 refine ⟨PySem.W.fnOf "law" "law" (Zao ZhK) (Zan ZhK) (Zae ZhK) .none kV33 dc33 pm33 an33 cd33 ct33,λs v=>.of_eq rfl,λbase _ _=>?_⟩
 have T:ZmF K mg C NW way a1 a2 a3 a4 a5 a6 a7 a8 a9 a10 a11:=⟨⟨xexC,xgaC,xngC,xclC,xobC,xbeC⟩,⟨xexN,xgaN,xngN,xclN,xobN,xbeN⟩,(PySem.W.mg_of X G gC),(PySem.W.mg_of X G gN),(PySem.W.mg_of X G gway),(PySem.W.mg_of X G g1),(PySem.W.mg_of X G g2),(PySem.W.mg_of X G g3),(PySem.W.mg_of X G g4),(PySem.W.mg_of X G g5),(PySem.W.mg_of X G g6),(PySem.W.mg_of X G g7),(PySem.W.mg_of X G g8),(PySem.W.mg_of X G g9),(PySem.W.mg_of X G g10),(PySem.W.mg_of X G g11),wbe,cC,cN,nC,nN,tC,tN,uC,uN,vC,vN,wC,wN,(PySem.W.mg_none_of X G nisinstance),(PySem.W.mg_none_of X G nValueError)⟩
 have GDe:=Zjr (P:=l.prog) (w:=w) (base:=base) FDe FSt bSt mSt
 have GTa:=Zcx (P:=l.prog) (w:=w) (mg:=mg) (base:=base) FTa
 have GWe:=ZkB (P:=l.prog) (w:=w) (base:=base) FWe FTa bTa mTa FGr bGr mGr (PySem.W.mg_none_of X G nrange) (PySem.W.mg_none_of X G nint) (PySem.W.mg_none_of X G nmin) (PySem.W.mg_none_of X G nlen)
 have GEn:=ZkW (P:=l.prog) (w:=w) (base:=base) FEn FTa bTa mTa (PySem.W.mg_none_of X G nmax)
 have GBd:=ZkY (P:=l.prog) (w:=w) (base:=base) FBd FTa bTa mTa
 have GNe:=Zip (P:=l.prog) (w:=w) (mg:=mg) (base:=base) FNe
 have GGn:=ZkQ (P:=l.prog) (w:=w) (base:=base) FGn FNe bNe mNe FTa bTa mTa (PySem.W.mg_none_of X G nrange) (PySem.W.mg_none_of X G nlen)
 have GSe:=ZkO (P:=l.prog) (w:=w) (base:=base) FSe (PySem.W.mg_none_of X G nlen) (PySem.W.mg_none_of X G nabs) (PySem.W.mg_none_of X G nsorted) (PySem.W.mg_none_of X G nrange)
 have GSp:=Zle (P:=l.prog) (w:=w) (base:=base) FSp FTa bTa mTa (PySem.W.mg_none_of X G nlen) (PySem.W.mg_none_of X G nsorted) (PySem.W.mg_none_of X G nset) (PySem.W.mg_none_of X G nmax)
 have GOp:=Zk6 (P:=l.prog) (w:=w) (base:=base) FOp FIs bIs mIs FAt bAt mAt FLw bLw mLw (PySem.W.mg_none_of X G nrange) (PySem.W.mg_none_of X G nlen) (PySem.W.mg_none_of X G nint) (PySem.W.mg_none_of X G nlist) (PySem.W.mg_none_of X G nmin)
 have GRi:=Zk8 (P:=l.prog) (w:=w) (base:=base) FRi FIs bIs mIs FAt bAt mAt FLw bLw mLw (PySem.W.mg_none_of X G nrange) (PySem.W.mg_none_of X G nlen) (PySem.W.mg_none_of X G nint) (PySem.W.mg_none_of X G nlist) (PySem.W.mg_none_of X G nmin)
 have GCe:=ZkH (P:=l.prog) (w:=w) (base:=base) FCe FIp bIp mIp T.mC T.kC.ex
 have GCp:=ZkS (P:=l.prog) (w:=w) (base:=base) FCp FIp bIp mIp T.m4 xexP
 have GBe:=ZkU (P:=l.prog) (w:=w) (base:=base) FBe FCp bCp mCp GCp (PySem.W.mg_none_of X G nsorted)
 have GGo:=ZkC (P:=l.prog) (w:=w) (base:=base) FGo FNb bNb mNb FSo bSo mSo (PySem.W.mg_none_of X G nenumerate) (PySem.W.mg_none_of X G nlist) (PySem.W.mg_none_of X G nzip) (PySem.W.mg_none_of X G nall) (PySem.W.mg_none_of X G nset) (PySem.W.mg_none_of X G nlen)
 have GIw:=ZkJ (P:=l.prog) (w:=w) (base:=base) FIw FCe bCe mCe GCe FGo bGo mGo GGo
 have GIc:=ZkL (P:=l.prog) (w:=w) (base:=base) FIc FGo bGo mGo GGo (PySem.W.mg_none_of X G nlen) (PySem.W.mg_none_of X G nmin)
 have GRo:=ZkM (P:=l.prog) (w:=w) (base:=base) FRo FNb bNb mNb FSo bSo mSo (PySem.W.mg_none_of X G nenumerate) (PySem.W.mg_none_of X G nlist) (PySem.W.mg_none_of X G nzip) (PySem.W.mg_none_of X G nsorted)
 have GWa:=Zk0 (P:=l.prog) (w:=w) (base:=base) FWa FCh bCh mCh FBe bBe mBe GBe (PySem.W.mg_none_of X G nenumerate) (PySem.W.mg_none_of X G nmin) (PySem.W.mg_none_of X G nmax)
 have GWo:=Zk2 (P:=l.prog) (w:=w) (base:=base) FWo FCe bCe mCe GCe FWa bWa mWa GWa FIw bIw mIw GIw FRo bRo2 mRo GRo T.mN T.kN.ex
 have GCo:=Zk4 (P:=l.prog) (w:=w) (base:=base) FCo FCh bCh mCh FWa bWa mWa GWa FIc bIc mIc GIc FRo bRo mRo GRo (PySem.W.mg_none_of X G nenumerate) (PySem.W.mg_none_of X G nmin) T.mN T.kN.ex
 have GTo:=Zla (P:=l.prog) (w:=w) (base:=base) FTo T FWo bWo mWo GWo FCo bCo mCo GCo (PySem.W.mg_none_of X G nisinstance) (PySem.W.mg_none_of X G nint)
 have GRg:=Zlc (P:=l.prog) (w:=w) (base:=base) FRg FTo bTo mTo GTo kib ksl (PySem.W.mg_none_of X G nisinstance) (PySem.W.mg_none_of X G nrange) (PySem.W.mg_none_of X G nlist) (PySem.W.mg_none_of X G nint) (PySem.W.mg_none_of X G nbool)
 exact ZjI FL FDe bDe mDe GDe FTa bTa mTa GTa FWe bWe mWe GWe FEn bEn mEn GEn FBd bBd mBd GBd FNe bNe mNe GNe FGn bGn mGn GGn FSe bSe mSe GSe FSp bSp mSp GSp FOp bOp mOp GOp FRi bRi mRi GRi FRg bRg mRg GRg (PySem.W.mg_none_of X G nrange) (PySem.W.mg_none_of X G nlist) (PySem.W.mg_none_of X G nlen) (PySem.W.mg_none_of X G nint)
theorem walk {l:PySem.W.OpenLaw} {q:Program} {loose:List Str} {XP:(Str->Option Value)->Heap->Prop} {YP:World->Heap->Prop} {d:DefRec} {K:Params->PySem.W.Frag} (hn:l.most=some 63) (hdf:d.params.defaults=[])
  (hY:∀ (w:World) (h:Heap),YP w h->(K w.params).In h)
  (F:∀ (w:World) (mg:Str->Option Value) (fa:Addr) (h:Heap),(K w.params).In h->h.Ns mainGlobals mg->mg d.name=some (.ref fa) ->
   ∃ fd:FuncData,(∀ (s:Shared) (u:Value),BindsTo s fd ⟨[u],[]⟩ [("script", u)])/\∀ base:Heap,(K w.params).In base->base.Ns mainGlobals mg->ZaK l.prog w (K w.params) mg base CX0 8 fa fd ["script"] (ZhZ (K w.params))) :
  PySem.W.WalkO q loose XP YP l.row.toRowW d [] (λf vs=>PySem.call f vs):=
 L2.walk_of (n:=63) (k:=8) (x := "script") (CX:=λ_=>CX0) (sp:=λw=>ZhZ (K w.params)) hn (by decide) hdf ⟨rfl,by decide,by decide⟩ hY F (λ_ _ a ns hl _ hS=>⟨a,ns,rfl,hS,hl,λ_=>rfl⟩) λ_ _ _ _ _ z=>z
end M
open PySem PySem.W PyProof.Rows
local macro_rules
 | `(tactic| o_head $H)=>`(tactic| (
  refine @holds_open _ M.seenP M.loosely M.hookX (XL M.seenP []) _ (Hook.obs $H) (Hook.val $H) (Hook.says $H) _ _ 8096
   (@M.left_boot M.rowP M.seenP M.loosely M.hookX _ (Hook.obs $H) (Hook.val $H) 8096 ?b1 ?b2 ?b3 M.topC M.topA ?hl)
   (Hook.of $H) (Hook.keeps $H) ?h1 XL.keeps (by rfl) (by rfl) (by rfl) ?h5 ?h6 ?h7 ?h8 ?h9 ?hw ?hc
  (case h1=>exact λs e=>xl_of s (Bool.and_eq_true_iff.mp e).1)
  (case h5=>exact λs e=>recFacts_of (Bool.and_eq_true_iff.mp e).2)
  (case h6=>rfl)
  (case h7=>first | assumption | decide +kernel)
  (case h8=>decide +kernel)
  (case h9=>exact ⟨rfl,rfl,rfl,rfl,rfl,by decide +kernel⟩)
  (case b1=>kernel_rfl)
  (case b2=>decide)
  (case b3=>(intro s;kernel_rfl))
  (case hl=>(intro w os;unfold M.topOf;rw [PySem.W.Fast.te14082659384304107361,PySem.W.Fast.te14364793385576792824];kernel_rfl))))
set_option maxRecDepth 100000 in
set_option maxHeartbeats 0 in
theorem PySem.Challenge.cw_onceways_k09_ways_of_sets_holds : PySem.Challenge.rw_onceways_k09_ways_of_sets.Holds := by
 w_on;o_law;k_head;(case hw=>w_witness2)
 k_fill
 refine M.walk (l:=PySem.Challenge.rw_onceways_k09_ways_of_sets) rfl rfl (λw h Y=>PySem.W.kIn_of Y) ?F
 case F=>
  intro w mg fa h KX G hmg
  refine' M.all_mk KX G hmg ?aF1 ?lF1 ?cF1 ?kF1 ?aF2 ?lF2 ?cF2 ?kF2 ?aF3 ?lF3 ?cF3 ?kF3 ?aF4 ?lF4 ?cF4 ?kF4 ?aF5 ?lF5 ?cF5 ?kF5 ?aF6 ?lF6 ?cF6 ?kF6 ?aF7 ?lF7 ?cF7 ?kF7 ?aF8 ?lF8 ?cF8 ?kF8 ?aF9 ?lF9 ?cF9 ?kF9 ?aF10 ?lF10 ?cF10 ?kF10 ?aF11 ?lF11 ?cF11 ?kF11 ?aF12 ?lF12 ?cF12 ?kF12 ?aF13 ?lF13 ?cF13 ?kF13 ?aF14 ?lF14 ?cF14 ?kF14 ?aF15 ?lF15 ?cF15 ?kF15 ?aF16 ?lF16 ?cF16 ?kF16 ?aF17 ?lF17 ?cF17 ?kF17 ?aF18 ?lF18 ?cF18 ?kF18 ?aF19 ?lF19 ?cF19 ?kF19 ?aF20 ?lF20 ?cF20 ?kF20 ?aF21 ?lF21 ?cF21 ?kF21 ?aF22 ?lF22 ?cF22 ?kF22 ?aF23 ?lF23 ?cF23 ?kF23 ?aF24 ?lF24 ?cF24 ?kF24 ?aF25 ?lF25 ?cF25 ?kF25 ?aF26 ?lF26 ?cF26 ?kF26 ?aF27 ?lF27 ?cF27 ?kF27 ?aF28 ?lF28 ?cF28 ?kF28 ?aF29 ?lF29 ?cF29 ?kF29 ?aF30 ?lF30 ?cF30 ?kF30 ?aF31 ?lF31 ?cF31 ?kF31 ?aF32 ?lF32 ?cF32 ?kF32 ?aF33 ?lF33 ?cF33 ?kF33 ?gC ?gN ?gway ?g1 ?g2 ?g3 ?g4 ?g5 ?g6 ?g7 ?g8 ?g9 ?g10 ?g11 ?xexC ?xgaC ?xngC ?xclC ?xobC ?xbeC ?xexN ?xgaN ?xngN ?xclN ?xobN ?xbeN ?xexP ?wbe ?cC ?cN ?nC ?nN ?tC ?tN ?uC ?uN ?vC ?vN ?wC ?wN ?kib ?ksl ?dTl ?nisinstance ?nValueError ?nrange ?nlist ?nlen ?nint ?nmin ?nmax ?nsorted ?nbool ?nset ?nall ?nzip ?nabs ?nenumerate
  (case aF1=>k_is)
  (case lF1=>k_is)
  (case cF1=>k_is)
  (case kF1=>k_is)
  (case aF2=>k_is)
  (case lF2=>k_is)
  (case cF2=>k_is)
  (case kF2=>k_is)
  (case aF3=>k_is)
  (case lF3=>k_is)
  (case cF3=>k_is)
  (case kF3=>k_is)
  (case aF4=>k_is)
  (case lF4=>k_is)
  (case cF4=>k_is)
  (case kF4=>k_is)
  (case aF5=>k_is)
  (case lF5=>k_is)
  (case cF5=>k_is)
  (case kF5=>k_is)
  (case aF6=>k_is)
  (case lF6=>k_is)
  (case cF6=>k_is)
  (case kF6=>k_is)
  (case aF7=>k_is)
  (case lF7=>k_is)
  (case cF7=>k_is)
  (case kF7=>k_is)
  (case aF8=>k_is)
  (case lF8=>k_is)
  (case cF8=>k_is)
  (case kF8=>k_is)
  (case aF9=>k_is)
  (case lF9=>k_is)
  (case cF9=>k_is)
  (case kF9=>k_is)
  (case aF10=>k_is)
  (case lF10=>k_is)
  (case cF10=>k_is)
  (case kF10=>k_is)
  (case aF11=>k_is)
  (case lF11=>k_is)
  (case cF11=>k_is)
  (case kF11=>k_is)
  (case aF12=>k_is)
  (case lF12=>k_is)
  (case cF12=>k_is)
  (case kF12=>k_is)
  (case aF13=>k_is)
  (case lF13=>k_is)
  (case cF13=>k_is)
  (case kF13=>k_is)
  (case aF14=>k_is)
  (case lF14=>k_is)
  (case cF14=>k_is)
  (case kF14=>k_is)
  (case aF15=>k_is)
  (case lF15=>k_is)
  (case cF15=>k_is)
  (case kF15=>k_is)
  (case aF16=>k_is)
  (case lF16=>k_is)
  (case cF16=>k_is)
  (case kF16=>k_is)
  (case aF17=>k_is)
  (case lF17=>k_is)
  (case cF17=>k_is)
  (case kF17=>k_is)
  (case aF18=>k_is)
  (case lF18=>k_is)
  (case cF18=>k_is)
  (case kF18=>k_is)
  (case aF19=>k_is)
  (case lF19=>k_is)
  (case cF19=>k_is)
  (case kF19=>k_is)
  (case aF20=>k_is)
  (case lF20=>k_is)
  (case cF20=>k_is)
  (case kF20=>k_is)
  (case aF21=>k_is)
  (case lF21=>k_is)
  (case cF21=>k_is)
  (case kF21=>k_is)
  (case aF22=>k_is)
  (case lF22=>k_is)
  (case cF22=>k_is)
  (case kF22=>k_is)
  (case aF23=>k_is)
  (case lF23=>k_is)
  (case cF23=>k_is)
  (case kF23=>k_is)
  (case aF24=>k_is)
  (case lF24=>k_is)
  (case cF24=>k_is)
  (case kF24=>k_is)
  (case aF25=>k_is)
  (case lF25=>k_is)
  (case cF25=>k_is)
  (case kF25=>k_is)
  (case aF26=>k_is)
  (case lF26=>k_is)
  (case cF26=>k_is)
  (case kF26=>k_is)
  (case aF27=>k_is)
  (case lF27=>k_is)
  (case cF27=>k_is)
  (case kF27=>k_is)
  (case aF28=>k_is)
  (case lF28=>k_is)
  (case cF28=>k_is)
  (case kF28=>k_is)
  (case aF29=>k_is)
  (case lF29=>k_is)
  (case cF29=>k_is)
  (case kF29=>k_is)
  (case aF30=>k_is)
  (case lF30=>k_is)
  (case cF30=>k_is)
  (case kF30=>k_is)
  (case aF31=>k_is)
  (case lF31=>k_is)
  (case cF31=>k_is)
  (case kF31=>k_is)
  (case aF32=>k_is)
  (case lF32=>k_is)
  (case cF32=>k_is)
  (case kF32=>k_is)
  (case aF33=>k_is)
  (case lF33=>k_is)
  (case cF33=>k_is)
  (case kF33=>k_is)
  (case gC=>k_is)
  (case gN=>k_is)
  (case gway=>k_is)
  (case g1=>k_is)
  (case g2=>k_is)
  (case g3=>k_is)
  (case g4=>k_is)
  (case g5=>k_is)
  (case g6=>k_is)
  (case g7=>k_is)
  (case g8=>k_is)
  (case g9=>k_is)
  (case g10=>k_is)
  (case g11=>k_is)
  (case xexC=>(unfold L2.ExcC;k_exc))
  (case xgaC=>k_is)
  (case xngC=>k_is)
  (case xclC=>k_is)
  (case xobC=>k_is)
  (case xbeC=>k_is)
  (case xexN=>(unfold L2.ExcC;k_exc))
  (case xgaN=>k_is)
  (case xngN=>k_is)
  (case xclN=>k_is)
  (case xobN=>k_is)
  (case xbeN=>k_is)
  (case xexP=>(unfold L2.ExcC;k_exc))
  (case wbe=>k_is)
  (case cC=>kit_is)
  (case cN=>kit_is)
  (case nC=>decide)
  (case nN=>decide)
  (case tC=>kit_is)
  (case tN=>kit_is)
  (case uC=>kit_is)
  (case uN=>kit_is)
  (case vC=>kit_is)
  (case vN=>kit_is)
  (case wC=>kit_is)
  (case wN=>kit_is)
  (case kib=>kit_is)
  (case ksl=>kit_is)
  (case dTl=>k_is)
  (case nisinstance=>k_is)
  (case nValueError=>k_is)
  (case nrange=>k_is)
  (case nlist=>k_is)
  (case nlen=>k_is)
  (case nint=>k_is)
  (case nmin=>k_is)
  (case nmax=>k_is)
  (case nsorted=>k_is)
  (case nbool=>k_is)
  (case nset=>k_is)
  (case nall=>k_is)
  (case nzip=>k_is)
  (case nabs=>k_is)
  (case nenumerate=>k_is)
#print axioms PySem.Challenge.cw_onceways_k09_ways_of_sets_holds
