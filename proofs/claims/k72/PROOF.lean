import PyProof.Rows.All
import Wide.All
import OpenK.AllK
import Wide.FinOn
import Lean
import PyProof.EqAt
import PyProof.EqKinds
import PyProof.TupleCall
import PyProof.SumAny
import PySem.Challenge.RW_onceways_k72_whole_each_by_its_words
set_option Elab.async false
set_option linter.all false
set_option maxRecDepth 100000
set_option maxHeartbeats 4000000
namespace L2
open PySem PySem.Spec PyProof.Rows
abbrev Key:=Sum Int Str
def WQ:Key->Value->Bool
 | .inl k,v=>Value.isInt k v
 | .inr x,v=>Value.isStrOf x v
def Zg3 (w:World):Key->Int
 | .inl k=>hashInt k
 | .inr x=>hashStr w x
theorem GT:∀{k:Key}{v:Value},WQ k v=true->(∃i t,k=Sum.inl i/\v=Value.int i t)\/(∃x t,k=Sum.inr x/\v=Value.str x t)
 | .inl i,v,h=>by
  obtain ⟨t,e⟩:=Value.isInt_shape (k:=i) (v:=v) h;exact .inl ⟨i,t,rfl,e⟩
 | .inr x,v,h=>by
  obtain ⟨t,e⟩:=Value.isStrOf_shape (x:=x) (v:=v) h;exact .inr ⟨x,t,rfl,e⟩
theorem YS (i:Int)(t:Tok):WQ (.inl i) (.int i t)=true:=by simp [WQ,Value.isInt]
theorem YT (x:Str)(t:Tok):WQ (.inr x) (.str x t)=true:=by simp [WQ,Value.isStrOf]
theorem ZdK (a b:Int):decide ((Sum.inl a:Key)=Sum.inl b)=(a == b):=by
 by_cases e:a=b
 ·subst e;simp
 ·have h:¬ (Sum.inl a:Key)=Sum.inl b:=λq=>e (Sum.inl.inj q);rw [decide_eq_false h];exact (beq_eq_false_iff_ne.mpr e).symm
theorem ZdL (a b:Str):decide ((Sum.inr a:Key)=Sum.inr b)=decide (a=b):=by
 by_cases e:a=b
 ·subst e;simp
 ·have h:¬ (Sum.inr a:Key)=Sum.inr b:=λq=>e (Sum.inr.inj q);rw [decide_eq_false h,decide_eq_false e]
theorem ZdM (a:Int)(b:Str):decide ((Sum.inl a:Key)=Sum.inr b)=false:=decide_eq_false (λq=>nomatch q)
theorem ZdN (a:Str)(b:Int):decide ((Sum.inr a:Key)=Sum.inl b)=false:=decide_eq_false (λq=>nomatch q)
def GM (prog:Program)(w:World):PySem.KeyKind prog w Key where
 is:=WQ
 hash:=Zg3 w
 inj:=λv a b ha hb=>by
  rcases GT ha with ⟨i,t,rfl,rfl⟩ | ⟨x,t,rfl,rfl⟩
  ·rcases GT hb with ⟨j,u,rfl,e⟩ | ⟨y,u,rfl,e⟩
   ·injection e with e1 _;rw [e1]
   ·exact nomatch e
  ·rcases GT hb with ⟨j,u,rfl,e⟩ | ⟨y,u,rfl,e⟩
   ·exact nomatch e
   ·injection e with e1 _;rw [e1]
 byValue:=λk v h=>by
  rcases GT h with ⟨i,t,rfl,rfl⟩ | ⟨x,t,rfl,rfl⟩ <;> rfl
 pyHash:=λhv h=>by
  rcases GT hv with ⟨i,t,rfl,rfl⟩ | ⟨x,t,rfl,rfl⟩
  ·exact wpAny_pyHash_int h
  ·exact wpAny_pyHash_str h
 eqBool:=λhu hv h=>by
  rcases GT hu with ⟨i,t,rfl,rfl⟩ | ⟨x,t,rfl,rfl⟩
  ·rcases GT hv with ⟨j,u,rfl,rfl⟩ | ⟨y,u,rfl,rfl⟩
   ·rw [ZdK] at h;exact wpAny_eqBool_int h
   ·rw [ZdM] at h;exact SeqAt.EqAt.int_str i t y u _ _ _ _ h
  ·rcases GT hv with ⟨j,u,rfl,rfl⟩ | ⟨y,u,rfl,rfl⟩
   ·rw [ZdN] at h;exact SeqAt.EqAt.str_int x t j u _ _ _ _ h
   ·rw [ZdL] at h;exact wpAny_eqBool_str h
 «strs»:=λk x t v h=>by
  rcases GT h with ⟨i,u,rfl,e⟩ | ⟨y,u,rfl,e⟩
  ·exact nomatch e
  ·injection e with e1 _
   subst e1;cases v <;> rfl
theorem WR (prog:Program)(w:World)(i:Int)(t:Tok):(GM prog w).is (.inl i) (.int i t)=true:=YS i t
theorem WS (prog:Program)(w:World)(x:Str)(t:Tok):(GM prog w).is (.inr x) (.str x t)=true:=YT x t
end L2
namespace L2
open PySem PySem.Spec PyProof.Rows
inductive V where
 | non | bl (b:Bool) | int (i:Int) | str (x:Str) | byt (b:Array UInt8) | flt (b:UInt64) | ref (a:Addr) | ty (n:String)
 deriving DecidableEq
def RelV:V->Value->Prop
 | .non,u=>u=Value.none
 | .bl b,u=>u=Value.bool b
 | .int i,u=>∃t,u=Value.int i t
 | .str x,u=>∃t,u=Value.str x t
 | .byt b,u=>∃t,u=Value.bytes b t
 | .flt b,u=>∃t,u=Value.float b t
 | .ref a,u=>u=Value.ref a
 | .ty n,u=>u=Value.type n
abbrev Vals:List V->List Value->Prop:=Paired RelV
theorem Vals.length {xs:List V}{us:List Value}(r:Vals xs us):xs.length=us.length:=Paired.length r
theorem Vals.get:∀{xs:List V}{us:List Value}{i:Nat}{x:V},Vals xs us->xs[i]?=some x->∃u,us[i]?=some u/\RelV x u
 | _,_,_,_,.nil,e=>by simp at e
 | _,_,0,_,.cons r _,e=>by simp at e;subst e;exact ⟨_,rfl,r⟩
 | _,_,i+1,x,.cons _ t,e=>by
  obtain ⟨u,h1,h2⟩:=Vals.get (i:=i) (x:=x) t (by simpa using e);exact ⟨u,by simpa using h1,h2⟩
theorem Vals.set {x:V}{u:Value}(r:RelV x u):∀{xs:List V}{us:List Value}(i:Nat),Vals xs us->Vals (xs.set i x) (us.set i u)
 | _,_,_,.nil=>.nil
 | _,_,0,.cons _ t=>.cons r t
 | _,_,i+1,.cons q t=>.cons q (Vals.set r i t)
theorem Vals.append:∀{xs ys:List V}{us ws:List Value},Vals xs us->Vals ys ws->Vals (xs++ys) (us++ws)
 | _,_,_,_,.nil,s=>s
 | _,_,_,_,.cons r t,s=>.cons r (Vals.append t s)
theorem Vals.take:∀{xs:List V}{us:List Value}(n:Nat),Vals xs us->Vals (xs.take n) (us.take n)
 | _,_,0,_=>.nil
 | _,_,_+1,.nil=>.nil
 | _,_,n+1,.cons r t=>.cons r (Vals.take n t)
theorem Vals.drop:∀{xs:List V}{us:List Value}(n:Nat),Vals xs us->Vals (xs.drop n) (us.drop n)
 | _,_,0,r=>r
 | _,_,_+1,.nil=>.nil
 | _,_,n+1,.cons _ t=>Vals.drop n t
def RelO:Option V->Option Value->Prop
 | some v,some u=>RelV v u
 | none,none=>True
 | _,_=>False
def KV {κ:Type}:List (κ×V)->List (κ×Value)->Prop:=Paired λ(p:κ×V) (q:κ×Value)=>p.1=q.1/\RelV p.2 q.2
def kV:Key->V
 | .inl i=>.int i
 | .inr x=>.str x
inductive HO where
  | lst (xs:List V)
  | tup (xs:List V)
  | dK (kvs:List (Key×V)) | dT (kvs:List (List Key×V))
  | set (S:Int->Bool) (n:Nat)
  | ins (C dx:Addr) (fs:List (Str×V))
  | own (x:Addr)
  | xd (fs:List (Str×V))
  | met (f x:Addr)
  | rng (lo hi:Int)
  | frz (o:Obj) (u:HO)
  | tbl (ps:Array Value)
  | ext (φ:Heap->Prop)
abbrev Hp:=Addr->Option HO
def upd (H:Hp)(a:Addr)(o:HO):Hp:=λb=>if b=a then some o else H b
theorem Gb {H:Hp}{a:Addr}{o:HO}:upd H a o a=some o:=by unfold upd;rw [if_pos rfl]
theorem Gy {H:Hp}{a b:Addr}{o:HO}(h:b≠a):upd H a o b=H b:=by unfold upd;rw [if_neg h]
theorem Us {H:Hp}{a:Addr}{o u:HO}:upd (upd H a o) a u=upd H a u:=by
 funext b;unfold upd;split <;> rfl
theorem JY {H:Hp}{a b:Addr}{o u:HO}(h:H a=some o)(h':H b=some u)(d:o≠u):a≠b:=by
 intro e;subst e;rw [h] at h';exact d (Option.some.inj h')
theorem Gm {H:Hp}{a b:Addr}{o:HO}(h:H a=some o)(h':H b=none):a≠b:=by
 intro e;subst e;rw [h] at h';cases h'
section
variable (P:Program)(w:World)
def ObjOk (H:Hp)(h:Heap)(a:Addr):HO->Prop
 | .lst xs=>xs.length<=sizeLine/\∃(its:List Value)(n:Nat),Vals xs its/\h.get? a=some { cls:=.type "list", data:=.seq its.toArray n }
 | .tup xs=>xs.length<=sizeLine/\∃its:List Value,Vals xs its/\IsTup h a its.toArray
 | .dK kvs=>kvs.length<=sizeLine/\(a == sysModules)=false/\∃vs,KV kvs vs/\h.DictOf (GM P w) a vs
 | .dT kvs=>kvs.length<=sizeLine/\(a == sysModules)=false/\∃xs:List (List Key×Addr×Value),
   Paired (λ(p:List Key×V) (q:List Key×Addr×Value)=>p.1=q.1/\H q.2.1=some (.tup (p.1.map kV))/\RelV p.2 q.2.2) kvs xs /\
   ∃o es ep,h.get? a=some o/\o.ExactDict/\o.data=.dict es ep/\es.toList=xs.map (entryOfKey (tupleKind (GM P w)))/\(xs.map (·.1)).Nodup
 | .set S n=>h.SetOf (intKind P w) a S n
 | .ins C dx fs=>H dx=some (.own a)/\fs.length<=1000/\dx≠a/\h.get? a=some (W.instObj C dx) /\
   ∃mA,h.Ns1 dx mA/\(∀f,RelO (fs.lookup f) (mA f))/\PySem.Within mA (fs.map (·.1))
 | .own _=>∃o,h.get? a=some o
 | .xd fs=>∃mA,h.Ns1 a mA/\∀f,RelO (fs.lookup f) (mA f)
 | .rng lo hi=>∃t u v,h.get? a=some { cls:=.type "range", data:=.fields #[.int lo t,.int hi u,.int 1 v] }
 | .frz o u=>h.get? a=some o/\ObjOk H h a u
 | .tbl ps=>h.get? a=some { cls:=.none,data:=.fields ps }
 | .met f x=>h.get? a=some (W.methodObj (.ref f) (.ref x))
 | .ext φ=>φ h/\(∃o,h.get? a=some o)/\∀h1 h2:Heap,φ h1->(∀o,h1.get? a=some o->h2.get? a=some o)->φ h2
def HOk (H:Hp)(h:Heap):Prop:=∀a o,H a=some o->ObjOk P w H h a o
end
section
variable {P:Program}{w:World}{H H':Hp}{h h':Heap}{a:Addr}{o:HO}
theorem ObjOk.lt (x:ObjOk P w H h a o):a<h.objs.size:=by
 cases o with
 | lst xs=>obtain ⟨_,_,_,_,e⟩:=x;exact Heap.lt_size e
 | tup xs=>obtain ⟨_,_,_,p⟩:=x;exact p.lt
 | dK kvs=>obtain ⟨_,_,_,_,o,_,_,e,_⟩:=x;exact Heap.lt_size e
 | dT kvs=>obtain ⟨_,_,_,_,o,_,_,e,_⟩:=x;exact Heap.lt_size e
 | set S n=>obtain ⟨o,_,_,_,e,_⟩:=x;exact Heap.lt_size e
 | ins C dx fs=>obtain ⟨_,_,_,e,_⟩:=x;exact Heap.lt_size e
 | own y=>obtain ⟨_,e⟩:=x;exact Heap.lt_size e
 | xd fs=>obtain ⟨_,⟨_,_,_,e,_⟩,_⟩:=x;exact Heap.lt_size e
 | rng lo hi=>obtain ⟨_,_,_,e⟩:=x;exact Heap.lt_size e
 | frz ob u=>obtain ⟨e,_⟩:=x;exact Heap.lt_size e
 | tbl ps=>exact Heap.lt_size (show h.get? a=some _ from x)
 | met f y=>exact Heap.lt_size (show h.get? a=some _ from x)
 | ext φ=>obtain ⟨_,⟨_,e⟩,_⟩:=x;exact Heap.lt_size e
theorem Paired.mapP {α β:Type}{F G:α->β->Prop}:∀{l₁:List α}{l₂:List β},Paired F l₁ l₂->(∀a b,F a b->G a b)->Paired G l₁ l₂
 | _,_,.nil,_=>.nil
 | _,_,.cons r t,f=>.cons (f _ _ r) (Paired.mapP t f)
theorem ObjOk.stay (x:ObjOk P w H h a o)(k:∀b u,(b=a\/H b=some (.own a))->h.get? b=some u->h'.get? b=some u)(ho:∀b,H b=some (.own a)->H' b=some (.own a))(ht:∀b xs,H b=some (.tup xs)->H' b=some (.tup xs)):ObjOk P w H' h' a o:=by
 induction o with
 | lst xs=>obtain ⟨z,its,n,r,e⟩:=x;exact ⟨z,its,n,r,k _ _ (.inl rfl) e⟩
 | tup xs=>obtain ⟨z,its,r,ob,e,c⟩:=x;exact ⟨z,its,r,ob,k _ _ (.inl rfl) e,c⟩
 | dK kvs=>obtain ⟨z,y,vs,r,ob,es,ep,e,c⟩:=x;exact ⟨z,y,vs,r,ob,es,ep,k _ _ (.inl rfl) e,c⟩
 | dT kvs=>
  obtain ⟨z,y,xs,r,ob,es,ep,e,c⟩:=x;exact ⟨z,y,xs,Paired.mapP r λp q z=>⟨z.1,ht _ _ z.2.1,z.2.2⟩,ob,es,ep,k _ _ (.inl rfl) e,c⟩
 | set S n=>obtain ⟨ob,es,ep,t,e,c⟩:=x;exact ⟨ob,es,ep,t,k _ _ (.inl rfl) e,c⟩
 | ins C dx fs=>
  obtain ⟨d,z,ne,e,mA,⟨od,es,ep,e2,c⟩,r⟩:=x;exact ⟨ho _ d,z,ne,k _ _ (.inl rfl) e,mA,⟨od,es,ep,k _ _ (.inr d) e2,c⟩,r⟩
 | own y=>obtain ⟨ob,e⟩:=x;exact ⟨ob,k _ _ (.inl rfl) e⟩
 | xd fs=>obtain ⟨mA,⟨od,es,ep,e,c⟩,r⟩:=x;exact ⟨mA,⟨od,es,ep,k _ _ (.inl rfl) e,c⟩,r⟩
 | rng lo hi=>obtain ⟨t,u,v,e⟩:=x;exact ⟨t,u,v,k _ _ (.inl rfl) e⟩
 | frz ob u ih=>obtain ⟨e,q⟩:=x;exact ⟨k _ _ (.inl rfl) e,ih q⟩
 | tbl ps=>
  have e:h.get? a=some { cls:=.none,data:=.fields ps }:=x;show h'.get? a=some { cls:=.none,data:=.fields ps };exact k a _ (.inl rfl) e
 | met f y=>
  have e:h.get? a=some (W.methodObj (.ref f) (.ref y)):=x;show h'.get? a=some (W.methodObj (.ref f) (.ref y));exact k a _ (.inl rfl) e
 | ext φ=>obtain ⟨p,⟨o,e⟩,st⟩:=x;exact ⟨st _ _ p λo q=>k _ _ (.inl rfl) q,⟨o,k _ _ (.inl rfl) e⟩,st⟩
theorem HOk.lt (x:HOk P w H h)(e:H a=some o):a<h.objs.size:=(x a o e).lt
theorem HOk.fresh (x:HOk P w H h)(e:h.objs.size<=a):H a=none:=by
 cases q:H a with
 | none=>rfl
 | some u=>exact absurd (Nat.lt_of_lt_of_le (x.lt q) e) (Nat.lt_irrefl _)
theorem HOk.kept (x:HOk P w H h)(k:∀b u,h.get? b=some u->h'.get? b=some u):HOk P w H h':=λa o e=>
 (x a o e).stay (λb u _ q=>k b u q) (λ_ q=>q) λ_ _ q=>q
theorem HOk.laid (x:HOk P w H h)(k:∀b u,h.get? b=some u->h'.get? b=some u)(hp:h.objs.size<=a)(new:ObjOk P w (upd H a o) h' a o):HOk P w (upd H a o) h':=λb u e=>by
 have hn:=x.fresh hp;by_cases hb:b=a
 ·subst hb;rw [Gb] at e;cases e;exact new
 ·rw [Gy hb] at e;exact (x b u e).stay (λc v _ q=>k c v q) (λc q=>by rw [Gy (Gm q hn)];exact q) λc xs q=>by rw [Gy (Gm q hn)];exact q
end
def Rd (H:Hp)(a:Addr)(u:HO):Prop:=H a=some u\/∃o,H a=some (.frz o u)
theorem Rd.ok {P:Program}{w:World}{H:Hp}{h:Heap}{a:Addr}{u:HO}(r:Rd H a u)(x:HOk P w H h):ObjOk P w H h a u:=by
 rcases r with r | ⟨o,r⟩
 ·exact x a u r
 ·obtain ⟨_,q⟩:=x a _ r;exact q
def Mut:Option HO->Prop
 | some (.lst _)=>True
 | some (.dK _)=>True
 | some (.dT _)=>True
 | some (.set _ _)=>True
 | some (.ins _ _ _)=>True
 | some (.ext _)=>True
 | _=>False
section
variable {P:Program}{w:World}{H:Hp}{h h':Heap}{x e:Addr}{o':HO}
theorem HOk.write (ok:HOk P w H h)(mu:Mut (H x))(he:e=x\/H e=some (.own x))(k:∀b u,b≠e->h.get? b=some u->h'.get? b=some u)(heo:∃u,h'.get? e=some u)(new:ObjOk P w (upd H x o') h' x o'):HOk P w (upd H x o') h':=λb u q=>by
 have nown:∀c y,H c=some (.own y)->c≠x:=λc y r z=>by subst z;rw [r] at mu;exact mu
 have ntup:∀c xs,H c=some (.tup xs)->c≠x:=λc xs r z=>by subst z;rw [r] at mu;exact mu
 by_cases hb:b=x
 ·subst hb;rw [Gb] at q;cases q;exact new
 ·rw [Gy hb] at q;by_cases hbe:b=e
  ·have q':H b=some (.own x):=by
    rcases he with z | z
    ·exact absurd (hbe.trans z) hb
    ·rw [hbe];exact z
   rw [q] at q';cases q';obtain ⟨v,hv⟩:=heo;exact ⟨v,by rw [hbe];exact hv⟩
  ·refine (ok b u q).stay (λc v hc r=>k c v ?_ r) (λc r=>by rw [Gy (nown c b r)];exact r) λc xs r=>by rw [Gy (ntup c xs r)];exact r
   rcases hc with rfl | hc
   ·exact hbe
   ·rintro rfl;rcases he with z | z
    ·exact nown c b hc z
    ·rw [hc] at z;cases z;exact hb rfl
end
structure Un (fs ex:List Addr)(H H':Hp)(h h':Heap):Prop where
 keep:∀b o,h.get? b=some o->H b=none->b ∉ fs->b ∉ ex->h'.get? b=some o
 slot:∀b o,h.get? b=some o->H b=none->b∈fs->b ∉ ex->∃sl,h'.get? b=some { o with slots:=sl }
 free:∀b o,h.get? b=some o->H b=none->b ∉ ex->H' b=none
 there:∀b o,h.get? b=some o->b ∉ ex->∃o',h'.get? b=some o'
 tups:∀b xs,H b=some (.tup xs)->H' b=some (.tup xs)
 frzs:∀b o u,H b=some (.frz o u)->H' b=some (.frz o u)
 tbls:∀b ps,H b=some (.tbl ps)->∃more,H' b=some (.tbl (ps++more))
section
variable {fs fs' ex ex':List Addr}{H H1 H2:Hp}{h h1 h2 h':Heap}{a x e:Addr}{o:HO}
theorem Un.any (u:Un fs ex H H1 h h1){b:Addr}{ob:Obj}(q:h.get? b=some ob)(n:H b=none)(hx:b ∉ ex):∃sl,h1.get? b=some { ob with slots:=sl }:=by
 by_cases hb:b∈fs
 ·exact u.slot b ob q n hb hx
 ·exact ⟨ob.slots,u.keep b ob q n hb hx⟩
theorem Un.trans (a:Un fs ex H H1 h h1)(b:Un fs ex H1 H2 h1 h2):Un fs ex H H2 h h2 where
 keep:=λc ob q n hc hx=>b.keep c ob (a.keep c ob q n hc hx) (a.free c ob q n hx) hc hx
 slot:=λc ob q n hc hx=>by
  obtain ⟨sl,e1⟩:=a.slot c ob q n hc hx;obtain ⟨sl',e2⟩:=b.slot c _ e1 (a.free c ob q n hx) hc hx;exact ⟨sl',e2⟩
 free:=λc ob q n hx=>by
  obtain ⟨o',e1⟩:=a.there c ob q hx;exact b.free c o' e1 (a.free c ob q n hx) hx
 there:=λc ob q hx=>by
  obtain ⟨o',e1⟩:=a.there c ob q hx;exact b.there c o' e1 hx
 tups:=λc xs q=>b.tups c xs (a.tups c xs q)
 frzs:=λc ob xs q=>b.frzs c ob xs (a.frzs c ob xs q)
 tbls:=λc ps q=>by
  obtain ⟨m1,e1⟩:=a.tbls c ps q;obtain ⟨m2,e2⟩:=b.tbls c _ e1;exact ⟨m1++m2,by rw [e2,Array.append_assoc]⟩
theorem Un.kept (k:∀b u,h.get? b=some u->h'.get? b=some u):Un fs ex H H h h':=
 ⟨λb ob q _ _ _=>k b ob q,λb ob q _ _ _=>⟨ob.slots,k b ob q⟩,λ_ _ _ n _=>n,λb ob q _=>⟨ob,k b ob q⟩,λ_ _ q=>q,λ_ _ _ q=>q,λ_ ps q=>⟨#[],by rw [q];simp⟩⟩
theorem Un.refl:Un fs ex H H h h:=Un.kept λ_ _ q=>q
theorem Un.laid (k:∀b u,h.get? b=some u->h'.get? b=some u)(hp:h.objs.size<=a)(hn:H a=none):Un fs ex H (upd H a o) h h' where
 keep:=λb u q _ _ _=>k b u q
 slot:=λb u q _ _ _=>⟨u.slots,k b u q⟩
 free:=λb u q n _=>by rw [Gy (Nat.ne_of_lt (Nat.lt_of_lt_of_le (Heap.lt_size q) hp))];exact n
 there:=λb u q _=>⟨u,k b u q⟩
 tups:=λb xs q=>by rw [Gy (Gm q hn)];exact q
 frzs:=λb u xs q=>by rw [Gy (Gm q hn)];exact q
 tbls:=λb ps q=>⟨#[],by rw [Gy (Gm q hn),q];simp⟩
theorem Un.write (mu:Mut (H x))(he:e=x\/H e=some (.own x))(k:∀b u,b≠e->h.get? b=some u->h'.get? b=some u)(heo:∃u,h'.get? e=some u):Un fs ex H (upd H x o) h h':=by
 have hx:∀b,H b=none->b≠x:=λb n z=>by subst z;rw [n] at mu;exact mu
 have hb:∀b,H b=none->b≠e:=λb n z=>by
  subst z;rcases he with r | r
  ·exact hx b n r
  ·rw [n] at r;cases r
 have hm:∀b u,H b=some u->¬ Mut (some u)->b≠x:=λb u q nm z=>by subst z;rw [q] at mu;exact nm mu
 refine ⟨λb u q n _ _=>k b u (hb b n) q,λb u q n _ _=>⟨u.slots,k b u (hb b n) q⟩,λb u q n _=>by rw [Gy (hx b n)];exact n,λb u q _=>?_,
  λb xs q=>by rw [Gy (hm b _ q λz=>z)];exact q,λb u xs q=>by rw [Gy (hm b _ q λz=>z)];exact q,λb ps q=>⟨#[],by rw [Gy (hm b _ q λz=>z),q];simp⟩⟩
 by_cases hbe:b=e
 ·subst hbe;exact heo
 ·exact ⟨u,k b u hbe q⟩
theorem Un.mono (u:Un fs ex H H1 h h1)(hs:∀b∈fs,b∈fs')(hx:∀b∈ex,b∈ex'):Un fs' ex' H H1 h h1:=
 ⟨λb ob q n hb he=>u.keep b ob q n (λz=>hb (hs b z)) λz=>he (hx b z),λ_ _ q n _ he=>u.any q n λz=>he (hx _ z),λb ob q n he=>u.free b ob q n λz=>he (hx b z),λb ob q he=>u.there b ob q λz=>he (hx b z),u.tups,u.frzs,u.tbls⟩
end
def trk (h:Heap)(H:Hp):List Addr:=(List.range h.objs.size).filter λa=>(H a).isSome
def ZaG (h:Heap)(H:Hp):Heap:=W.hideAll h (trk h H)
theorem YU (h:Heap)(H:Hp):(ZaG h H).objs.size=h.objs.size:=W.hideAll_size _ _
theorem ZaH {h:Heap}{H:Hp}{b:Addr}{o:Obj}(e:h.get? b=some o)(n:H b=none):(ZaG h H).get? b=some o:=
 W.hideAll_get _ e λhm=>by
  have q:(H b).isSome=true:=(List.mem_filter.mp hm).2;rw [n] at q;simp at q
theorem Zcq {h:Heap}{H:Hp}{b:Addr}{o:Obj}(e:(ZaG h H).get? b=some o):h.get? b=some o/\H b=none:=by
 have e':h.get? b=some o:=W.of_hideAll (trk h H) e;refine ⟨e',?_⟩;cases q:H b with
 | none=>rfl
 | some x=>
  have hm:b∈trk h H:=List.mem_filter.mpr ⟨List.mem_range.mpr (Heap.lt_size e'),by simp [q]⟩;have z:(ZaG h H).get? b=none:=W.hideAll_none (trk h H) hm;rw [z] at e;cases e
end L2
namespace L2
open PySem PySem.Spec PyProof.Rows
structure Mod (K:W.Frag)(mg:Str->Option Value)(base:Heap):Prop where
 kin:K.In base
 glob:base.Ns mainGlobals mg
 blt:∃mb,base.Ns builtinsNs mb/\∀x:Str,x ≠ "__name__" -> mb x=bootBuiltins x
 nolimit:base.NoLimit
structure Cx where
 prog:Program
 w:World
 K:W.Frag
 mg:Str->Option Value
 base:Heap
 A:Around
 N:List Str
 s₀:Shared
 H₀:Hp
 env:Env
 outer:List Env
 stack:List Env
 ex:List Addr
 fn:Str->Bool
 calm:Bool
 pn:List (Addr×Obj)
 xe:Value->Shared->Prop
def frs (l:List Env):List Addr:=l.filterMap (·.frame)
abbrev Cx.fs (X:Cx):List Addr:=frs X.outer
def Vis (sc:Scope)(x:Str):Prop:=sc.names.lookup x=some .local\/sc.names.lookup x=some .cell\/sc.names.lookup x=some .free
def Loc (sc:Scope)(x:Str):Prop:=sc.names.lookup x=some .local\/sc.names.lookup x=some .cell
def Zg4 (env:Env)(h:Heap)(m:Str->Option Value)(x:Str)(u:Value):Prop:=
 (env.kindOf x=some .local/\m x=some u)\/((env.kindOf x=some .cell\/env.kindOf x=some .free)/\∃c,env.cells.lookup x=some c/\h.IsCell c (some u))
structure Cx.Ok (X:Cx):Prop where
 mod:Mod X.K X.mg X.base
 kind:X.env.scope.kind=.function
 glob:X.env.globals=mainGlobals
 blt:X.env.builtins=builtinsNs
 above:X.s₀.heap.objs.size<=X.env.locals
 inj:∀x y c,X.env.cells.lookup x=some c->X.env.cells.lookup y=some c->x=y
 has:∀x,(X.env.kindOf x=some .cell\/X.env.kindOf x=some .free)->∃c,X.env.cells.lookup x=some c
 cab:∀x c,X.fn x=true->X.env.cells.lookup x=some c->X.s₀.heap.objs.size<=c
 hd:X.calm=true->X.A.handled=none
 frames:X.A.frames=some X.stack
 stk:X.stack=X.outer\/(X.stack=X.env::X.outer/\X.env.frame=some X.env.locals)
 exf:∀b∈X.ex,b≠X.env.locals/\∀x c,X.env.cells.lookup x=some c->c≠b
 bs:∀b o,X.base.get? b=some o->X.s₀.heap.get? b=some o/\X.H₀ b=none
 bsz:X.base.objs.size<=X.s₀.heap.objs.size
 noex:∀b o,X.base.get? b=some o->b ∉ X.ex
 exfs:∀b∈X.ex,b ∉ X.fs
 funs:X.s₀.heap.FunFrames X.base X.outer
 frf:∀b∈X.fs,X.H₀ b=none
structure Inv (X:Cx)(qQ:List (Addr×Obj))(σ:List (Option V))(H:Hp)(s:Shared):Prop where
 ok:X.Ok
 os:s.os=X.s₀.os
 bare:AllBare s.gens
 base:Un X.fs X.ex X.H₀ H X.s₀.heap s.heap
 loc:∃m,s.heap.Ns X.env.locals m/\∀(i:Nat)(x:Str)(v:V),X.N[i]?=some x->σ[i]?=some (some v)->Vis X.env.scope x->∃u,RelV v u/\Zg4 X.env s.heap m x u
 cell:∀x c,X.env.cells.lookup x=some c->∃v,s.heap.IsCell c v
 free:H X.env.locals=none
 freeC:∀x c,X.env.cells.lookup x=some c->H c=none
 pin:∀p∈X.pn++qQ,s.heap.get? p.1=some p.2/\H p.1=none/\p.1≠X.env.locals/\p.1 ∉ X.fs/\∀v,p.2.data≠.cell v
 hok:HOk X.prog X.w H s.heap
 len:σ.length=X.N.length
section
variable {X:Cx}{qQ:List (Addr×Obj)}{σ:List (Option V)}{H H':Hp}{s:Shared}{h':Heap}
theorem Cx.Ok.nofr (ok:X.Ok){b:Addr}{o:Obj}(e:X.base.get? b=some o):b ∉ X.fs:=λhb=>by
 have:=(ok.funs.mem hb).1;rw [e] at this;cases this
theorem Inv.bs (I:Inv X qQ σ H s):∀b o,X.base.get? b=some o->s.heap.get? b=some o/\H b=none:=λb o e=>
 ⟨I.base.keep b o (I.ok.bs b o e).1 (I.ok.bs b o e).2 (I.ok.nofr e) (I.ok.noex b o e),I.base.free b o (I.ok.bs b o e).1 (I.ok.bs b o e).2 (I.ok.noex b o e)⟩
theorem Inv.bk (I:Inv X qQ σ H s):∀b o,X.base.get? b=some o->s.heap.get? b=some o:=λb o e=>(I.bs b o e).1
theorem Inv.mod (I:Inv X qQ σ H s):Mod X.K X.mg X.base:=I.ok.mod
theorem Inv.kIn (I:Inv X qQ σ H s):X.K.In s.heap:=I.ok.mod.kin.keeps I.bk
theorem Inv.lt (I:Inv X qQ σ H s):X.env.locals<s.heap.objs.size:=let ⟨_,hn,_⟩:=I.loc;hn.lt
theorem Inv.sz (I:Inv X qQ σ H s):X.s₀.heap.objs.size<=s.heap.objs.size:=Nat.le_trans I.ok.above (Nat.le_of_lt I.lt)
theorem Inv.nofs (I:Inv X qQ σ H s){a:Addr}(h:s.heap.objs.size<=a):a ∉ X.fs:=λhb=>by
 obtain ⟨_,o,ho,_⟩:=I.ok.funs.mem hb;exact absurd (Nat.lt_of_lt_of_le (Heap.lt_size ho) (Nat.le_trans I.sz h)) (Nat.lt_irrefl _)
theorem Inv.cne (I:Inv X qQ σ H s):∀x c,X.env.cells.lookup x=some c->c≠X.env.locals:=λx c e z=>by
 obtain ⟨v,o,ho,hd⟩:=I.cell x c e;obtain ⟨m,⟨o',es,ep,ho',hd',_⟩,_⟩:=I.loc;rw [z,ho'] at ho;cases ho;rw [hd'] at hd;cases hd
theorem Inv.funs (I:Inv X qQ σ H s):s.heap.FunFrames X.base X.outer:=by
 have all:∀(l:List Env),(∀b∈frs l,b∈X.fs)->X.s₀.heap.FunFrames X.base l->s.heap.FunFrames X.base l:=by
  intro l
  induction l with
  | nil=>intro _ _;trivial
  | cons env r ih=>
   intro hs hl;obtain ⟨hk,⟨L,o,hf,hn,ho,hd⟩,hr⟩:=hl;have hL:L∈X.fs:=hs L (by unfold frs;rw [List.filterMap_cons,hf];exact List.mem_cons_self);obtain ⟨sl,e⟩:=I.base.slot L o ho (I.ok.frf L hL) hL λz=>I.ok.exfs L z hL;exact ⟨hk,⟨L,_,hf,hn,e,hd⟩,ih (λb hb=>hs b (by unfold frs;rw [List.filterMap_cons,hf];exact List.mem_cons_of_mem _ hb)) hr⟩
 exact all X.outer (λ_ hb=>hb) I.ok.funs
theorem Inv.stack (I:Inv X qQ σ H s):s.heap.FunFrames X.base X.stack:=by
 rcases I.ok.stk with e | ⟨e,hf⟩
 ·rw [e];exact I.funs
 ·rw [e];obtain ⟨m,hn,_⟩:=I.loc;refine .cons (by rw [I.ok.kind];decide) hf hn ?_ I.funs;exact Heap.get?_none_of_le (Nat.le_trans I.ok.bsz I.ok.above)
theorem Inv.stkSub (I:Inv X qQ σ H s):∀b∈frs X.stack,b∈X.env.locals::X.fs:=λb hb=>by
 rcases I.ok.stk with e | ⟨e,hf⟩
 ·rw [e] at hb;exact List.mem_cons_of_mem _ hb
 ·rw [e] at hb;unfold frs at hb;rw [List.filterMap_cons,hf] at hb;exact hb
theorem Inv.stkFree (I:Inv X qQ σ H s):∀b∈frs X.stack,H b=none:=λb hb=>by
 rcases List.mem_cons.mp (I.stkSub b hb) with e | hb
 ·rw [e];exact I.free
 ·obtain ⟨_,o,ho,_⟩:=I.ok.funs.mem hb;exact I.base.free b o ho (I.ok.frf b hb) λz=>I.ok.exfs b z hb
theorem Inv.step {g':Array GenState}{t':Nat}{d':Drawn}{ch:List Addr}(I:Inv X qQ σ H s)(hch:∀b∈ch,(b∈X.ex\/X.s₀.heap.objs.size<=b)/\b≠X.env.locals/\(∀x c,X.env.cells.lookup x=some c->c≠b)/\∀p∈X.pn++qQ,p.1≠b)(keep:∀b o,b≠X.env.locals->b ∉ X.fs->b ∉ ch->s.heap.get? b=some o->H b=none->h'.get? b=some o)(slot:∀b o,b≠X.env.locals->b∈X.fs->b ∉ ch->s.heap.get? b=some o->H b=none->∃sl,h'.get? b=some { o with slots:=sl })(free:∀b o,b ∉ ch->s.heap.get? b=some o->H b=none->H' b=none)(there:∀b o,b ∉ ch->s.heap.get? b=some o->∃o',h'.get? b=some o')(tups:∀b xs,H b=some (.tup xs)->H' b=some (.tup xs))(frzs:∀b o u,H b=some (.frz o u)->H' b=some (.frz o u))(tbls:∀b ps,H b=some (.tbl ps)->∃more,H' b=some (.tbl (ps++more)))(ns:∀m,s.heap.Ns X.env.locals m->h'.Ns X.env.locals m)(hok:HOk X.prog X.w H' h')(hg:AllBare g') :
  Inv X qQ σ H' { s with heap:=h',gens:=g',drawn:=d',toks:=t' }:=by
 have neL:∀b o,X.s₀.heap.get? b=some o->b≠X.env.locals:=λb o e=>Nat.ne_of_lt (Nat.lt_of_lt_of_le (Heap.lt_size e) I.ok.above);have neC:∀b o,X.s₀.heap.get? b=some o->b ∉ X.ex->b ∉ ch:=λb o e hx hb=>by
  rcases (hch b hb).1 with z | z
  ·exact hx z
  ·exact absurd (Nat.lt_of_lt_of_le (Heap.lt_size e) z) (Nat.lt_irrefl _)
 have cellK:∀x c,X.env.cells.lookup x=some c->∀v,s.heap.IsCell c v->h'.IsCell c v:=λx c e v ⟨o,ho,hd⟩=>by
  have nch:c ∉ ch:=λz=>(hch c z).2.2.1 x c e rfl;by_cases hc:c∈X.fs
  ·obtain ⟨sl,q⟩:=slot c o (I.cne x c e) hc nch ho (I.freeC x c e);exact ⟨_,q,hd⟩
  ·exact ⟨o,keep c o (I.cne x c e) hc nch ho (I.freeC x c e),hd⟩
 refine ⟨I.ok,I.os,hg,⟨λb o e n hb hx=>?_,λb o e n hb hx=>?_,λb o e n hx=>?_,λb o e hx=>?_,λb xs e=>tups b xs (I.base.tups b xs e),λb o xs e=>frzs b o xs (I.base.frzs b o xs e),λb ps e=>?_⟩,?_,λx c e=>?_,?_,λx c e=>?_,λp hp=>?_,hok,I.len⟩
 ·exact keep b o (neL b o e) hb (neC b o e hx) (I.base.keep b o e n hb hx) (I.base.free b o e n hx)
 ·obtain ⟨sl,e1⟩:=I.base.slot b o e n hb hx;obtain ⟨sl',e2⟩:=slot b _ (neL b o e) hb (neC b o e hx) e1 (I.base.free b o e n hx);exact ⟨sl',e2⟩
 ·obtain ⟨o',e1⟩:=I.base.there b o e hx;exact free b o' (neC b o e hx) e1 (I.base.free b o e n hx)
 ·obtain ⟨o',e1⟩:=I.base.there b o e hx;exact there b o' (neC b o e hx) e1
 ·obtain ⟨m1,e1⟩:=I.base.tbls b ps e;obtain ⟨m2,e2⟩:=tbls b _ e1;exact ⟨m1++m2,by rw [e2,Array.append_assoc]⟩
 ·obtain ⟨m,hn,hl⟩:=I.loc;refine ⟨m,ns m hn,λi x v e1 e2 e3=>?_⟩;obtain ⟨u,r,l⟩:=hl i x v e1 e2 e3;refine ⟨u,r,?_⟩;rcases l with l | ⟨k,c,e,z⟩
  ·exact .inl l
  ·exact .inr ⟨k,c,e,cellK x c e _ z⟩
 ·obtain ⟨v,z⟩:=I.cell x c e;exact ⟨v,cellK x c e v z⟩
 ·obtain ⟨m,⟨o,_,_,ho,_⟩,_⟩:=I.loc;exact free _ o (λz=>(hch _ z).2.1 rfl) ho I.free
 ·obtain ⟨v,o,ho,hd⟩:=I.cell x c e;exact free c o (λz=>(hch c z).2.2.1 x c e rfl) ho (I.freeC x c e)
 ·obtain ⟨e,n,ne,nf,d⟩:=I.pin p hp;have nch:p.1 ∉ ch:=λz=>(hch p.1 z).2.2.2 p hp rfl;exact ⟨keep p.1 p.2 ne nf nch e n,free p.1 p.2 nch e n,ne,nf,d⟩
theorem Inv.un {t':Nat}(I:Inv X qQ σ H s)(u:Un X.fs [] H H' s.heap h')(hok:HOk X.prog X.w H' h'):Inv X qQ σ H' { s with heap:=h',toks:=t' }:=by
 obtain ⟨m,⟨o,es,ep,ho,r⟩,_⟩:=id I.loc;obtain ⟨sl,hL⟩:=u.any ho I.free (by simp);exact I.step (g':=s.gens) (d':=s.drawn) (ch:=[]) (λ_ z=>nomatch z) (λb o _ hb _ e n=>u.keep b o e n hb (by simp)) (λb o _ hb _ e n=>u.slot b o e n hb (by simp)) (λb o _ e n=>u.free b o e n (by simp)) (λb o _ e=>u.there b o e (by simp)) u.tups u.frzs u.tbls (λm' hm=>by
  obtain ⟨o',es',ep',ho',r'⟩:=hm;rw [ho] at ho';cases ho';exact ⟨_,es',ep',hL,r'⟩) hok I.bare
theorem Inv.call {g':Array GenState}{t':Nat}{d':Drawn}{ch:List Addr}(I:Inv X qQ σ H s)(u:Un (frs X.stack) ch H H' s.heap h')(hok:HOk X.prog X.w H' h')(hg:AllBare g')(hch:∀b∈ch,(b∈X.ex\/X.s₀.heap.objs.size<=b)/\b≠X.env.locals/\(∀x c,X.env.cells.lookup x=some c->c≠b)/\∀p∈X.pn++qQ,p.1≠b) :
  Inv X qQ σ H' { s with heap:=h',gens:=g',drawn:=d',toks:=t' }:=by
 obtain ⟨m,⟨o,es,ep,ho,r⟩,_⟩:=id I.loc;obtain ⟨sl,hL⟩:=u.any ho I.free λz=>(hch _ z).2.1 rfl;exact I.step (ch:=ch) hch (λb o hL hb hc e n=>u.keep b o e n (λz=>(List.mem_cons.mp (I.stkSub b z)).elim hL hb) hc) (λb o _ _ hc e n=>u.any e n hc) (λb o hc e n=>u.free b o e n hc) (λb o hc e=>u.there b o e hc) u.tups u.frzs u.tbls (λm' hm=>by
  obtain ⟨o',es',ep',ho',r'⟩:=hm;rw [ho] at ho';cases ho';exact ⟨_,es',ep',hL,r'⟩) hok hg
theorem Inv.turned {t':Nat}{it:Addr}(I:Inv X qQ σ H s)(k:∀b o,b≠it->s.heap.get? b=some o->h'.get? b=some o)(hn:H it=none)(hL:it≠X.env.locals)(h1:it∈X.ex\/X.s₀.heap.objs.size<=it)(h2:∀x c,X.env.cells.lookup x=some c->c≠it)(h3:∀p∈X.pn++qQ,p.1≠it):Inv X qQ σ H { s with heap:=h',toks:=t' }:=by
 have nit:∀b u,H b=some u->b≠it:=λb u e z=>by rw [z,hn] at e;cases e
 refine I.step (g':=s.gens) (d':=s.drawn) (ch:=[it]) (λb hb=>?_) (λb o _ _ hc e _=>k b o (λz=>hc (by simp [z])) e) (λb o _ _ hc e _=>⟨o.slots,k b o (λz=>hc (by simp [z])) e⟩) (λ_ _ _ _ n=>n)
  (λb o hc e=>⟨o,k b o (λz=>hc (by simp [z])) e⟩) (λ_ _ e=>e) (λ_ _ _ e=>e) (λb ps e=>⟨#[],by rw [e];simp⟩) (λm hm=>?_) (λb u e=>?_) I.bare
 ·have e:b=it:=by simpa using hb
  subst e;exact ⟨h1,hL,h2,h3⟩
 ·obtain ⟨o,es,ep,ho,r⟩:=hm;exact ⟨o,es,ep,k _ o (Ne.symm hL) ho,r⟩
 ·refine (I.hok b u e).stay (λc v hc q=>k c v ?_ q) (λ_ q=>q) λ_ _ q=>q;rcases hc with z | z
  ·rw [z];exact nit b u e
  ·exact nit c _ z
theorem Inv.tok (I:Inv X qQ σ H s)(t:Nat):Inv X qQ σ H { s with toks:=t }:=I.un (h':=s.heap) (t':=t) Un.refl I.hok
theorem Inv.kept {t':Nat}(I:Inv X qQ σ H s)(k:∀b u,s.heap.get? b=some u->h'.get? b=some u):Inv X qQ σ H { s with heap:=h',toks:=t' }:=I.un (Un.kept k) (I.hok.kept k)
theorem Inv.laid {a:Addr}{o:HO}{t':Nat}(I:Inv X qQ σ H s)(k:∀b u,s.heap.get? b=some u->h'.get? b=some u)(hp:s.heap.objs.size<=a)(new:ObjOk X.prog X.w (upd H a o) h' a o) :
  Inv X qQ σ (upd H a o) { s with heap:=h',toks:=t' }:=I.un (Un.laid k hp (I.hok.fresh hp)) (I.hok.laid k hp new)
theorem Inv.write {x e:Addr}{o:HO}{t':Nat}(I:Inv X qQ σ H s)(mu:Mut (H x))(he:e=x\/H e=some (.own x))(k:∀b u,b≠e->s.heap.get? b=some u->h'.get? b=some u)(heo:∃u,h'.get? e=some u)(new:ObjOk X.prog X.w (upd H x o) h' x o):Inv X qQ σ (upd H x o) { s with heap:=h',toks:=t' }:=I.un (Un.write mu he k heo) (I.hok.write mu he k heo new)
theorem Inv.weak {σ':List (Option V)}(I:Inv X qQ σ H s)(hl:σ'.length=σ.length)(w:∀(i:Nat) v,σ'[i]?=some (some v)->σ[i]?=some (some v)):Inv X qQ σ' H s:=
 ⟨I.ok,I.os,I.bare,I.base,let ⟨m,hn,hl'⟩:=I.loc;⟨m,hn,λi x v e1 e2 e3=>hl' i x v e1 (w i v e2) e3⟩,I.cell,I.free,I.freeC,I.pin,I.hok,hl.trans I.len⟩
theorem Inv.pins_of {pins':List (Addr×Obj)}(I:Inv X qQ σ H s)(h:∀p∈pins',s.heap.get? p.1=some p.2/\H p.1=none/\p.1≠X.env.locals/\p.1 ∉ X.fs/\∀v,p.2.data≠.cell v):Inv X pins' σ H s:=
 ⟨I.ok,I.os,I.bare,I.base,I.loc,I.cell,I.free,I.freeC,λp hp=>(List.mem_append.mp hp).elim (λz=>I.pin p (List.mem_append_left _ z)) (h p),I.hok,I.len⟩
theorem Xz {N:List Str}(hN:N.Nodup){i j:Nat}{x:Str}(a:N[i]?=some x)(b:N[j]?=some x):i=j:=by
 obtain ⟨h1,e1⟩:=List.getElem?_eq_some_iff.mp a;obtain ⟨h2,e2⟩:=List.getElem?_eq_some_iff.mp b;exact (List.getElem_inj hN).mp (e1.trans e2.symm)
theorem VZ {M:Model}{A:Around}{E:Value->Shared->Prop}{i:Nat}{x:Str}{v:V}{u:Value}{Q:Unit->Shared->Prop}(I:Inv X qQ σ H s)(hN:X.N.Nodup)(hi:X.N[i]?=some x)(hx:Loc X.env.scope x)(r:RelV v u)(h:∀s',Inv X qQ (σ.set i (some v)) H s'->(∃a,Heap.SameBut a s.heap s'.heap/\(a=X.env.locals\/X.env.cells.lookup x=some a))->Q () s')(hf:X.fn x=true\/X.env.scope.names.lookup x=some .local:=by first | exact .inl rfl | exact .inr rfl | assumption):wpAny M A (storeName X.env x u) Q E s:=by
 obtain ⟨m,hn,hl⟩:=id I.loc;have hcls:(X.env.scope.kind == .class || (X.env.scope.kind == .module && X.env.locals != X.env.globals))=false:=by rw [I.ok.kind];rfl
 have hiσ:i<σ.length:=by rw [I.len];exact (List.getElem?_eq_some_iff.mp hi).1
 have cne:=I.cne;have tracked:∀{a:Addr}{h':Heap},(∃o,s.heap.get? a=some o/\H a=none)->Heap.SameBut a s.heap h'->HOk X.prog X.w H h':=λ{a h'} ha hs b ob e=>by
  obtain ⟨_,_,hfree⟩:=ha;refine (I.hok b ob e).stay (λc w' hc q=>(hs.2 c ?_).trans q) (λ_ q=>q) λ_ _ q=>q;rintro rfl;rcases hc with rfl | hc
  ·rw [hfree] at e;cases e
  ·rw [hfree] at hc;cases hc
 rcases hx with hk | hk
 ·refine wpAny_storeName_local hk hn (λh' hn' hs=>?_) hcls;obtain ⟨oL,_,_,hoL,_⟩:=id hn;refine h _ ⟨I.ok,I.os,I.bare,⟨λb o e n hb hx=>?_,λb o e n hb hx=>?_,I.base.free,λb o e hx=>?_,I.base.tups,I.base.frzs,I.base.tbls⟩,⟨_,hn',λj y v' e1 e2 e3=>?_⟩,λy c e=>?_,I.free,I.freeC,λp hp=>?_,tracked ⟨oL,hoL,I.free⟩ hs,by simpa using I.len⟩ ⟨_,hs,.inl rfl⟩
  ·exact (hs.2 b (Nat.ne_of_lt (Nat.lt_of_lt_of_le (Heap.lt_size e) I.ok.above))).trans (I.base.keep b o e n hb hx)
  ·obtain ⟨sl,e1⟩:=I.base.slot b o e n hb hx;exact ⟨sl,(hs.2 b (Nat.ne_of_lt (Nat.lt_of_lt_of_le (Heap.lt_size e) I.ok.above))).trans e1⟩
  ·obtain ⟨o',e1⟩:=I.base.there b o e hx;exact ⟨o',(hs.2 b (Nat.ne_of_lt (Nat.lt_of_lt_of_le (Heap.lt_size e) I.ok.above))).trans e1⟩
  ·by_cases hj:j=i
   ·subst hj;rw [hi] at e1;cases e1;rw [List.getElem?_set_self hiσ] at e2;cases e2;exact ⟨u,r,.inl ⟨hk,by simp⟩⟩
   ·rw [List.getElem?_set_ne (Ne.symm hj)] at e2;obtain ⟨u',r',q⟩:=hl j y v' e1 e2 e3;refine ⟨u',r',?_⟩;rcases q with ⟨k,e⟩ | ⟨k,c,e,z⟩
    ·refine .inl ⟨k,?_⟩;have:y≠x:=λe=>hj (Xz hN e1 (e▸hi));simp [this,e]
    ·exact .inr ⟨k,c,e,z.sameBut hs (cne y c e)⟩
  ·obtain ⟨w',z⟩:=I.cell y c e;exact ⟨w',z.sameBut hs (cne y c e)⟩
  ·obtain ⟨e,n,ne,nf,d⟩:=I.pin p hp;exact ⟨(hs.2 p.1 ne).trans e,n,ne,nf,d⟩
 ·have hfn:X.fn x=true:=by
   rcases hf with z | z
   ·exact z
   ·rw [z] at hk;cases hk
  obtain ⟨c,hc⟩:=I.ok.has x (.inl hk);obtain ⟨w',z⟩:=I.cell x c hc;refine wpAny_storeName_cell I.ok.kind hk hc z (λh' hc' hs=>?_);obtain ⟨oc,hoc,hocd⟩:=id z;refine h { s with heap:=h' } ⟨I.ok,I.os,I.bare,⟨λb o e n hb hx=>?_,λb o e n hb hx=>?_,I.base.free,λb o e hx=>?_,I.base.tups,I.base.frzs,I.base.tbls⟩,⟨m,hn.sameBut hs (Ne.symm (cne x c hc)),λj y v' e1 e2 e3=>?_⟩,λy c' e=>?_,I.free,I.freeC,λp hp=>?_,tracked ⟨oc,hoc,I.freeC x c hc⟩ hs,by simpa using I.len⟩ ⟨c,hs,.inr hc⟩
  ·exact (hs.2 b (Nat.ne_of_lt (Nat.lt_of_lt_of_le (Heap.lt_size e) (I.ok.cab x c hfn hc)))).trans (I.base.keep b o e n hb hx)
  ·obtain ⟨sl,e1⟩:=I.base.slot b o e n hb hx;exact ⟨sl,(hs.2 b (Nat.ne_of_lt (Nat.lt_of_lt_of_le (Heap.lt_size e) (I.ok.cab x c hfn hc)))).trans e1⟩
  ·obtain ⟨o',e1⟩:=I.base.there b o e hx;exact ⟨o',(hs.2 b (Nat.ne_of_lt (Nat.lt_of_lt_of_le (Heap.lt_size e) (I.ok.cab x c hfn hc)))).trans e1⟩
  ·by_cases hj:j=i
   ·subst hj;rw [hi] at e1;cases e1;rw [List.getElem?_set_self hiσ] at e2;cases e2;exact ⟨u,r,.inr ⟨.inl hk,c,hc,hc'⟩⟩
   ·rw [List.getElem?_set_ne (Ne.symm hj)] at e2;obtain ⟨u',r',q⟩:=hl j y v' e1 e2 e3;refine ⟨u',r',?_⟩;rcases q with q | ⟨k,c',e,z'⟩
    ·exact .inl q
    ·refine .inr ⟨k,c',e,z'.sameBut hs ?_⟩;rintro rfl;exact hj (Xz hN e1 (I.ok.inj _ _ _ e hc▸hi))
  ·by_cases hcc:c'=c
   ·subst hcc;exact ⟨_,hc'⟩
   ·obtain ⟨w2,z2⟩:=I.cell y c' e;exact ⟨w2,z2.sameBut hs hcc⟩
  ·obtain ⟨e,n,ne,nf,d⟩:=I.pin p hp;refine ⟨(hs.2 p.1 ?_).trans e,n,ne,nf,d⟩;intro q;rw [q,hoc] at e;have q':oc=p.2:=Option.some.inj e;exact d w' (by rw [<-q'];exact hocd)
theorem XA {M:Model}{A:Around}{E:Value->Shared->Prop}{i:Nat}{x:Str}{v:V}{u:Value}{Q:Unit->Shared->Prop}(I:Inv X qQ σ H s)(hN:X.N.Nodup)(hi:X.N[i]?=some x)(hx:Loc X.env.scope x)(r:RelV v u)(h:∀s',Inv X qQ (σ.set i (some v)) H s'->Q () s')(hf:X.fn x=true\/X.env.scope.names.lookup x=some .local:=by first | exact .inl rfl | exact .inr rfl | assumption):wpAny M A (storeName X.env x u) Q E s:=
 VZ I hN hi hx r (λs' I' _=>h s' I') hf
theorem Inv.call' {s':Shared}{ch:List Addr}(I:Inv X qQ σ H s)(ho:s'.os=s.os)(u:Un (frs X.stack) ch H H' s.heap s'.heap)(hok:HOk X.prog X.w H' s'.heap)(hg:AllBare s'.gens)(hch:∀b∈ch,(b∈X.ex\/X.s₀.heap.objs.size<=b)/\b≠X.env.locals/\(∀x c,X.env.cells.lookup x=some c->c≠b)/\∀p∈X.pn++qQ,p.1≠b):Inv X qQ σ H' s':=by
 obtain ⟨h',g',d',t',o'⟩:=s';have e:o'=s.os:=ho;subst e;exact I.call (g':=g') (t':=t') (d':=d') u hok hg hch
end
abbrev XK:=Value->Option Addr->Hp->Prop
abbrev St:=List (Option V)
abbrev VK:=V->Hp->Prop
abbrev TE:=St->Hp->VK->Prop
abbrev TT:=St->Hp->(Bool->Hp->Prop)->Prop
abbrev TA:=St->Hp->(List V->Hp->Prop)->Prop
structure Ends where
 nx:St->Hp->Prop
 rt:VK
 bk:St->Hp->Prop:=λ_ _=>False
 ct:St->Hp->Prop:=λ_ _=>False
abbrev TS:=Ends->St->Hp->Prop
def EP (X:Cx)(qQ:List (Addr×Obj))(σ:St)(Q:VK)(u:Value)(s':Shared):Prop:=∃v H',Inv X qQ σ H' s'/\RelV v u/\Q v H'
def TP (X:Cx)(qQ:List (Addr×Obj))(σ:St)(Q:Bool->Hp->Prop)(b:Bool)(s':Shared):Prop:=∃H',Inv X qQ σ H' s'/\Q b H'
def AP (X:Cx)(qQ:List (Addr×Obj))(σ:St)(Q:List V->Hp->Prop)(us:List Value)(s':Shared):Prop:=∃vs H',Inv X qQ σ H' s'/\Vals vs us/\Q vs H'
def SP (X:Cx)(qQ:List (Addr×Obj))(D:Ends)(f:Flow)(s':Shared):Prop:=
 match f with
 | .next=>∃ σ' H',Inv X qQ σ' H' s'/\D.nx σ' H'
 | .brk=>∃ σ' H',Inv X qQ σ' H' s'/\D.bk σ' H'
 | .cont=>∃ σ' H',Inv X qQ σ' H' s'/\D.ct σ' H'
 | .ret u=>∃v σ' H',Inv X qQ σ' H' s'/\RelV v u/\D.rt v H'
def PE (X:Cx)(e:Expr)(t:TE):Prop:=
 ∀(qQ:List (Addr×Obj))(s:Shared)(σ:St)(H:Hp)(Q:VK),Inv X qQ σ H s->t σ H Q->wpAny (model X.prog X.w) X.A (eval e X.env) (EP X qQ σ Q) X.xe s
def PT (X:Cx)(e:Expr)(t:TT):Prop:=
 ∀(qQ:List (Addr×Obj))(s:Shared)(σ:St)(H:Hp)(Q:Bool->Hp->Prop),Inv X qQ σ H s->t σ H Q->wpAny (model X.prog X.w) X.A (isTrue e X.env (eval e X.env)) (TP X qQ σ Q) X.xe s
def PW (X:Cx)(e:Expr)(t:TT):Prop:=
 ∀(whole:Sem Value)(qQ:List (Addr×Obj))(s:Shared)(σ:St)(H:Hp)(Q:Bool->Hp->Prop),Inv X qQ σ H s->t σ H Q->wpAny (model X.prog X.w) X.A (isTrue e X.env whole) (TP X qQ σ Q) X.xe s
theorem PW.pt {X:Cx}{e:Expr}{t:TT}(h:PW X e t):PT X e t:=h _
def PA (X:Cx)(es:List Expr)(t:TA):Prop:=
 ∀(pos:Pos)(qQ:List (Addr×Obj))(s:Shared)(σ:St)(H:Hp)(Q:List V->Hp->Prop),Inv X qQ σ H s->t σ H Q->wpAny (model X.prog X.w) X.A (spliced (backTo pos (starEach es X.env))) (AP X qQ σ Q) X.xe s
def PS (X:Cx)(st:Stmt)(t:TS):Prop:=
 ∀(qQ:List (Addr×Obj))(s:Shared)(σ:St)(H:Hp)(D:Ends),Inv X qQ σ H s->t D σ H->wpAny (model X.prog X.w) X.A (exec st X.env) (SP X qQ D) X.xe s
def PSs (X:Cx)(st:List Stmt)(t:TS):Prop:=
 ∀(qQ:List (Addr×Obj))(s:Shared)(σ:St)(H:Hp)(D:Ends),Inv X qQ σ H s->t D σ H->wpAny (model X.prog X.w) X.A (execs st X.env) (SP X qQ D) X.xe s
theorem thn {α:Type}{t:Sem α}{Q Q':α->Shared->Prop}{M:Model}{A:Around}{E:Value->Shared->Prop}{s:Shared}(h:wpAny M A t Q E s)(hQ:∀a s,Q a s->Q' a s):wpAny M A t Q' E s:=wpAny_mono h hQ λ_ _ x=>x
end L2
namespace L2
open PySem PySem.Spec PyProof.Rows
section
variable {X:Cx}
theorem bin {a b:Expr}{ta tb:TE}(ha:PE X a ta)(hb:PE X b tb){qQ:List (Addr×Obj)}{s:Shared}{σ:St}{H:Hp}{R:V->V->Hp->Prop}(I:Inv X qQ σ H s)(h:ta σ H λx H1=>tb σ H1 λy H2=>R x y H2){α:Type}{Q:α->Shared->Prop}{f:Value->Value->Sem α}(hf:∀v u s2 x y H2,Inv X qQ σ H2 s2->RelV x v->RelV y u->R x y H2->wpAny (model X.prog X.w) X.A (f v u) Q X.xe s2) :
  wpAny (model X.prog X.w) X.A (eval a X.env) (λv s₁=>wpAny (model X.prog X.w) X.A (eval b X.env) (λu s₂=>wpAny (model X.prog X.w) X.A (f v u) Q X.xe s₂) X.xe s₁) X.xe s:=by
 refine thn (ha qQ s σ H _ I h) λv s1 ⟨x,H1,I1,r1,q1⟩=>?_;refine thn (hb qQ s1 σ H1 _ I1 q1) λu s2 ⟨y,H2,I2,r2,q2⟩=>?_;exact hf v u s2 x y H2 I2 r1 r2 q2
def Yn (i:Nat):TE:=λσ H Q=>∃v,σ[i]?=some (some v)/\Q v H
def tC (v:V):TE:=λ_ H Q=>Q v H
theorem ZdO {i:Nat}{x:Str}{pos:Pos}(hN:X.N[i]?=some x)(hv:Vis X.env.scope x)(hd:(x == ("__debug__" : Str))=false:=by decide)(hcd:(x == ("__classdict__" : Str))=false:=by decide):PE X (.Name x pos) (Yn i):=by
 intro qQ s σ H Q I h;obtain ⟨v,e,h⟩:=h;obtain ⟨m,hn,hl⟩:=I.loc;obtain ⟨u,r,l⟩:=hl i x v hN e hv;have fin:EP X qQ σ Q u s:=⟨v,H,I,r,h⟩;rcases l with ⟨hk,hm⟩ | ⟨hk,c,hc,jQ⟩
 ·exact wpAny_Name (wpAny_loadName_local I.ok.kind hk hn hm fin) hd
 ·rcases hk with hk | hk
  ·exact wpAny_Name (wpAny_loadName_cell I.ok.kind hk hc jQ fin) hd
  ·exact wpAny_Name (wpAny_loadName_free I.ok.kind hk hc jQ fin hcd) hd
theorem Gg {i j pos}:PE X (.Constant (.int i) j pos) (tC (.int i)):=λ_ _ _ H _ I h=>wpAny_Constant_int ⟨.int i,H,I.tok _,⟨_,rfl⟩,h⟩
theorem Uh {b j pos}:PE X (.Constant (.bool b) j pos) (tC (.bl b)):=λ_ _ _ H _ I h=>Constant_bool ⟨.bl b,H,I,rfl,h⟩
theorem UU {j pos}:PE X (.Constant .none j pos) (tC .non):=λ_ _ _ H _ I h=>Constant_none ⟨.non,H,I,rfl,h⟩
theorem Jt {x j pos}:PE X (.Constant (.str x) j pos) (tC (.str x)):=λ_ _ _ H _ I h=>Calls.Constant_str ⟨.str x,H,I.tok _,⟨_,rfl⟩,h⟩
def Gl (X:Cx)(x:Str):Prop:=X.env.kindOf x=some .globalImplicit
theorem WT {E:Value->Shared->Prop}{qQ:List (Addr×Obj)}{s:Shared}{σ:St}{H:Hp}{x:Str}{u:Value}{pos:Pos}{Q:Value->Shared->Prop}(I:Inv X qQ σ H s)(hg:Gl X x)(hm:X.mg x=some u)(h:Q u s)(hd:(x == ("__debug__" : Str))=false:=by decide):wpAny (model X.prog X.w) X.A (eval (.Name x pos) X.env) Q E s:=
 Calls.Name_function_global I.ok.kind hg (Calls.loadGlobal_global (by rw [I.ok.glob];exact I.mod.glob.keeps I.bk) hm h) hd
theorem Ua {E:Value->Shared->Prop}{qQ:List (Addr×Obj)}{s:Shared}{σ:St}{H:Hp}{x:Str}{u:Value}{pos:Pos}{Q:Value->Shared->Prop}(I:Inv X qQ σ H s)(hg:Gl X x)(hm:X.mg x=none)(hv:bootBuiltins x=some u)(h:Q u s)(hn:x ≠ "__name__" := by decide)(hd:(x == ("__debug__" : Str))=false:=by decide):wpAny (model X.prog X.w) X.A (eval (.Name x pos) X.env) Q E s:=by
 obtain ⟨mb,h1,h2⟩:=I.mod.blt;exact Calls.Name_function_global I.ok.kind hg (Calls.loadGlobal_builtin (by rw [I.ok.glob];exact I.mod.glob.keeps I.bk) hm (by rw [I.ok.blt];exact h1.keeps I.bk) ((h2 x hn).trans hv) h) hd
theorem G8 {x:Str}{v:V}{u:Value}{pos:Pos}(hg:Gl X x)(hm:X.mg x=some u)(r:RelV v u)(hd:(x == ("__debug__" : Str))=false:=by decide):PE X (.Name x pos) (tC v):=
 λ_ _ _ H _ I h=>WT I hg hm ⟨v,H,I,r,h⟩ hd
variable {a b:Expr}{ta tb:TE}{pos:Pos}
def PC (X:Cx)(op:CmpOp)(a b:Expr)(t:TE):Prop:=
 ∀(qQ:List (Addr×Obj))(s:Shared)(σ:St)(H:Hp)(Q:VK),Inv X qQ σ H s->t σ H Q ->
  wpAny (model X.prog X.w) X.A (eval a X.env) (λv s₁=>wpAny (model X.prog X.w) X.A (eval b X.env) (λu s₂=>wpAny (model X.prog X.w) X.A (compareOp op v u) (EP X qQ σ Q) X.xe s₂) X.xe s₁) X.xe s
def tB (t:TE):TT:=λσ H Q=>t σ H λx H1=>∃c,x=.bl c/\Q c H1
theorem ZdP {op:CmpOp}{t:TE}(h:PC X op a b t)(h1:behindInMarks op b=false:=by first | exact nobehind _ (by decide) (by decide) | rfl):PE X (.Compare a [op] [b] pos) t:=λqQ s σ H Q I hw=>wpAny_Compare1 (h qQ s σ H Q I hw) h1
theorem YV {op:CmpOp}{t:TE}(h:PC X op a b t)(h1:behindInMarks op b=false:=by first | exact nobehind _ (by decide) (by decide) | rfl):PT X (.Compare a [op] [b] pos) (tB t):=by
 intro qQ s σ H Q I hw;refine wpAny_isTrue_Compare1 (thn (h qQ s σ H _ I hw) λv s1 h1=>thn h1 λu s2 h2=>thn h2 λc s3 ⟨x,H1,I1,r1,q1⟩=>?_) h1;obtain ⟨d,rfl,q⟩:=q1;cases r1;exact wpAny_truthy_bool ⟨H1,I1,q⟩
theorem JR {e:Expr}{t:TE}(h:PE X e t)(he:∀whole,isTrue e X.env whole=(do let v <- whole;standAt e.pos;holding [v] (truthy v)):=by intro _;rfl):PT X e (tB t):=by
 intro qQ s σ H Q I hw;refine isTrue_plain (thn (h qQ s σ H _ I hw) λv s1 ⟨x,H1,I1,r1,q1⟩=>?_) (he _);obtain ⟨d,rfl,q⟩:=q1;cases r1;exact wpAny_truthy_bool ⟨H1,I1,q⟩
variable {tA tB':TT}{rest:List Expr}
def Zg5 (t u:TT):TT:=λσ H Q=>t σ H λc H1=>if c=true then u σ H1 Q else Q false H1
def tOr (t u:TT):TT:=λσ H Q=>t σ H λc H1=>if c=true then Q true H1 else u σ H1 Q
def Zg6 (t:TT):TT:=λσ H Q=>t σ H λc H1=>Q (!c) H1
theorem Ot (ha:PT X a tA):PW X (.BoolOp .And [a] pos) tA:=by
 intro wh qQ s σ H Q I h;refine isTrue_and (thn (ha qQ s σ H Q I h) λc s1 e=>?_);cases c with
 | true=>exact isTrue_and_nil e
 | false=>exact e
theorem Ut (ha:PT X a tA):PW X (.BoolOp .Or [a] pos) tA:=by
 intro wh qQ s σ H Q I h;refine isTrue_or (thn (ha qQ s σ H Q I h) λc s1 e=>?_);cases c with
 | false=>exact isTrue_or_nil e
 | true=>exact e
theorem Uu (ha:PT X a tA)(hb:PW X (.BoolOp .And (b::rest) pos) tB'):PW X (.BoolOp .And (a::b::rest) pos) (Zg5 tA tB'):=by
 intro wh qQ s σ H Q I h;refine isTrue_and (thn (ha qQ s σ H _ I h) λc s1 ⟨H1,I1,q1⟩=>?_);cases c with
 | true=>exact hb wh qQ s1 σ H1 Q I1 q1
 | false=>exact ⟨H1,I1,q1⟩
theorem Uv (ha:PT X a tA)(hb:PW X (.BoolOp .Or (b::rest) pos) tB'):PW X (.BoolOp .Or (a::b::rest) pos) (tOr tA tB'):=by
 intro wh qQ s σ H Q I h;refine isTrue_or (thn (ha qQ s σ H _ I h) λc s1 ⟨H1,I1,q1⟩=>?_);cases c with
 | true=>exact ⟨H1,I1,q1⟩
 | false=>exact hb wh qQ s1 σ H1 Q I1 q1
theorem Ub (ha:PT X a tA):PT X (.UnaryOp .Not a pos) (Zg6 tA):=by
 intro qQ s σ H Q I h;exact isTrue_not (ha qQ s σ H (λc H1=>Q (!c) H1) I h)
def Zfi (ta tb:TE):TE:=λσ H Q=>ta σ H λx H1=>∃c,x=.bl c/\if c=true then tb σ H1 Q else Q (.bl false) H1
def Zg7 (ta tb:TE):TE:=λσ H Q=>ta σ H λx H1=>∃c,x=.bl c/\if c=true then Q (.bl true) H1 else tb σ H1 Q
theorem ZbP {op}{t:TE}(h:PE X a t):PE X (.BoolOp op [a] pos) t:=λqQ s σ H Q I hw=>BoolOp_one (h qQ s σ H Q I hw)
theorem ZdQ (ha:PE X a ta)(hb:PE X (.BoolOp .And (b::rest) pos) tb):PE X (.BoolOp .And (a::b::rest) pos) (Zfi ta tb):=by
 intro qQ s σ H Q I h;refine BoolOp_and (thn (ha qQ s σ H _ I h) λv s1 ⟨x,H1,I1,r1,q1⟩=>?_);obtain ⟨c,rfl,q1⟩:=q1;cases r1;refine wpAny_truthy_bool ?_;cases c with
 | true=>exact hb qQ s1 σ H1 Q I1 q1
 | false=>exact ⟨.bl false,H1,I1,rfl,q1⟩
theorem Zfj (ha:PE X a ta)(hb:PE X (.BoolOp .Or (b::rest) pos) tb):PE X (.BoolOp .Or (a::b::rest) pos) (Zg7 ta tb):=by
 intro qQ s σ H Q I h;refine BoolOp_or (thn (ha qQ s σ H _ I h) λv s1 ⟨x,H1,I1,r1,q1⟩=>?_);obtain ⟨c,rfl,q1⟩:=q1;cases r1;refine wpAny_truthy_bool ?_;cases c with
 | false=>exact hb qQ s1 σ H1 Q I1 q1
 | true=>exact ⟨.bl true,H1,I1,rfl,q1⟩
def tIf (t:TT)(ta tb:TE):TE:=λσ H Q=>t σ H λc H1=>if c=true then ta σ H1 Q else tb σ H1 Q
theorem Uj {c:Expr}(hc:PT X c tA)(ha:PE X a ta)(hb:PE X b tb):PE X (.IfExp c a b pos) (tIf tA ta tb):=by
 intro qQ s σ H Q I h;refine wpAny_IfExp (thn (hc qQ s σ H _ I h) λd s1 ⟨H1,I1,q1⟩=>?_);cases d with
 | true=>exact ha qQ s1 σ H1 Q I1 q1
 | false=>exact hb qQ s1 σ H1 Q I1 q1
end
end L2
namespace L2
open PySem PySem.Spec PyProof.Rows
def SqL (K:W.Frag)(H:Hp)(a:Addr)(xs:List V):Prop:=
 Rd H a (.lst xs) \/
  ∃(o:Obj)(its:Array Value)(n:Nat),K.lookup a=some o/\o.cls=.type "list" /\ o.dict=none/\o.data=.seq its n/\its.size<=sizeLine/\Vals xs its.toList
def SqT (K:W.Frag)(H:Hp)(a:Addr)(xs:List V):Prop:=
 Rd H a (.tup xs) \/
  ∃(o:Obj)(its:Array Value)(n:Nat),K.lookup a=some o/\o.cls=.type "tuple" /\ o.data=.seq its n/\its.size<=sizeLine/\Vals xs its.toList
def Zg8:Value->Option V
 | .none=>some .non
 | .bool b=>some (.bl b)
 | .int i _=>some (.int i)
 | .str x _=>some (.str x)
 | .bytes b _=>some (.byt b)
 | .float b _=>some (.flt b)
 | .ref a=>some (.ref a)
 | .type n=>some (.ty n)
 | _=>none
theorem RelV.abs {x:V}{u:Value}(r:RelV x u):Zg8 u=some x:=by
 cases x with
 | non=>cases r;rfl
 | bl _=>cases r;rfl
 | int _=>obtain ⟨t,rfl⟩:=r;rfl
 | str _=>obtain ⟨t,rfl⟩:=r;rfl
 | byt _=>obtain ⟨t,rfl⟩:=r;rfl
 | flt _=>obtain ⟨t,rfl⟩:=r;rfl
 | ref _=>cases r;rfl
 | ty _=>cases r;rfl
theorem RelV.inj {x y:V}{u:Value}(r:RelV x u)(q:RelV y u):x=y:=Option.some.inj (r.abs.symm.trans q.abs)
theorem Vals.inj:∀{xs ys:List V}{us:List Value},Vals xs us->Vals ys us->xs=ys
 | _,_,_,.nil,.nil=>rfl
 | _,_,_,.cons r t,.cons r' t'=>by rw [r.inj r',Vals.inj t t']
section
variable {X:Cx}{qQ:List (Addr×Obj)}{σ:St}{H:Hp}{s:Shared}{a:Addr}{xs ys:List V}
theorem SqL.of {K:W.Frag}(h:H a=some (.lst xs)):SqL K H a xs:=.inl (.inl h)
theorem SqT.of {K:W.Frag}(h:H a=some (.tup xs)):SqT K H a xs:=.inl (.inl h)
theorem Inv.list (I:Inv X qQ σ H s)(h:SqL X.K H a xs):∃its:List Value,Vals xs its/\PlainL s.heap a its.toArray/\xs.length<=sizeLine:=by
 rcases h with h | ⟨o,its,n,hk,hc,hd,hs,hz,r⟩
 ·obtain ⟨z,its,n,r,e⟩:=h.ok I.hok;exact ⟨its,r,⟨_,n,e,rfl,rfl,rfl⟩,z⟩
 ·refine ⟨its.toList,r,⟨o,n,I.kIn a o hk,hc,hd,by simpa using hs⟩,?_⟩;have e:=r.length;simp only [Array.length_toList] at e
  lia
theorem Inv.tuple (I:Inv X qQ σ H s)(h:SqT X.K H a xs):∃its:List Value,Vals xs its/\IsTup s.heap a its.toArray/\xs.length<=sizeLine:=by
 rcases h with h | ⟨o,its,n,hk,hc,hs,hz,r⟩
 ·obtain ⟨z,its,r,p⟩:=h.ok I.hok;exact ⟨its,r,p,z⟩
 ·refine ⟨its.toList,r,⟨o,I.kIn a o hk,hc,n,by simpa using hs⟩,?_⟩;have e:=r.length;simp only [Array.length_toList] at e
  lia
theorem Inv.list_inj (I:Inv X qQ σ H s)(h:SqL X.K H a xs)(h':SqL X.K H a ys):xs=ys:=by
 obtain ⟨its,r,⟨o,n,e,_,_,d⟩,_⟩:=I.list h;obtain ⟨its',r',⟨o',n',e',_,_,d'⟩,_⟩:=I.list h';rw [e] at e';cases e';rw [d] at d';injection d' with d1 _
 have:its=its':=by simpa using congrArg Array.toList d1
 subst this;exact r.inj r'
theorem Inv.tuple_inj (I:Inv X qQ σ H s)(h:SqT X.K H a xs)(h':SqT X.K H a ys):xs=ys:=by
 obtain ⟨its,r,⟨o,e,_,n,d⟩,_⟩:=I.tuple h;obtain ⟨its',r',⟨o',e',_,n',d'⟩,_⟩:=I.tuple h';rw [e] at e';cases e';rw [d] at d';injection d' with d1 _
 have:its=its':=by simpa using congrArg Array.toList d1
 subst this;exact r.inj r'
end
abbrev Cx.wish (X:Cx)(E:Value->Shared->Prop):Cx:={ X with xe:=E }
abbrev Cx.nox (X:Cx):Cx:=X.wish λ_ _=>False
theorem Cx.Ok.wish {X:Cx}(ok:X.Ok)(E:Value->Shared->Prop):(X.wish E).Ok:=
 ⟨ok.mod,ok.kind,ok.glob,ok.blt,ok.above,ok.inj,ok.has,ok.cab,ok.hd,ok.frames,ok.stk,ok.exf,ok.bs,ok.bsz,ok.noex,ok.exfs,ok.funs,ok.frf⟩
theorem Cx.Ok.unwish {X:Cx}{E:Value->Shared->Prop}(ok:(X.wish E).Ok):X.Ok:=
 ⟨ok.mod,ok.kind,ok.glob,ok.blt,ok.above,ok.inj,ok.has,ok.cab,ok.hd,ok.frames,ok.stk,ok.exf,ok.bs,ok.bsz,ok.noex,ok.exfs,ok.funs,ok.frf⟩
section
variable {X:Cx}{qQ:List (Addr×Obj)}{σ:St}{H:Hp}{s:Shared}{E:Value->Shared->Prop}
theorem Inv.wish (I:Inv X qQ σ H s)(E:Value->Shared->Prop):Inv (X.wish E) qQ σ H s:=⟨I.ok.wish E,I.os,I.bare,I.base,I.loc,I.cell,I.free,I.freeC,I.pin,I.hok,I.len⟩
theorem Inv.unwish (I:Inv (X.wish E) qQ σ H s):Inv X qQ σ H s:=⟨I.ok.unwish,I.os,I.bare,I.base,I.loc,I.cell,I.free,I.freeC,I.pin,I.hok,I.len⟩
theorem SP.unwish {D:Ends}{f:Flow}{s':Shared}(h:SP (X.wish E) qQ D f s'):SP X qQ D f s':=by
 cases f with
 | next=>obtain ⟨σ',H',I,q⟩:=h;exact ⟨σ',H',I.unwish,q⟩
 | brk=>obtain ⟨σ',H',I,q⟩:=h;exact ⟨σ',H',I.unwish,q⟩
 | cont=>obtain ⟨σ',H',I,q⟩:=h;exact ⟨σ',H',I.unwish,q⟩
 | ret u=>obtain ⟨v,σ',H',I,r,q⟩:=h;exact ⟨v,σ',H',I.unwish,r,q⟩
theorem PSs.nox {st:List Stmt}{t:TS}(h:PSs X.nox st t):PSs X st t:=λqQ s σ H D I hw=>
 wpAny_mono (h qQ s σ H D (I.wish _) hw) (λ_ _ q=>q.unwish) λ_ _ z=>False.elim z
end
section
variable {X:Cx}{st:Stmt}{rest:List Stmt}{t u:TS}{e:Expr}{te:TE}{pos:Pos}
def Zcr:TS:=λD σ H=>D.nx σ H
def Zgv (t u:TS):TS:=λD σ H=>t { D with nx:=u D } σ H
theorem GB:PSs X [] Zcr:=λ_ _ σ H _ I h=>wpAny_execs_nil ⟨σ,H,I,h⟩
theorem Gd (h1:PS X st t)(h2:PSs X rest u):PSs X (st::rest) (Zgv t u):=by
 intro qQ s σ H D I h;refine wpAny_execs_cons (thn (h1 qQ s σ H { D with nx:=u D } I h) λf s1 q=>?_);cases f with
 | next=>
  obtain ⟨σ',H',I',q⟩:=q;exact h2 qQ s1 σ' H' D I' q
 | ret v=>exact q
 | brk=>exact q
 | cont=>exact q
theorem Gf (h1:PS X st t):PSs X [st] t:=by
 intro qQ s σ H D I h;refine wpAny_execs_cons (thn (h1 qQ s σ H D I h) λf s1 q=>?_);cases f with
 | next=>exact wpAny_execs_nil q
 | ret v=>exact q
 | brk=>exact q
 | cont=>exact q
theorem Inv.quiet {qQ:List (Addr×Obj)}{σ:St}{H:Hp}{s:Shared}(I:Inv X qQ σ H s):interactive X.env=false:=by simp [interactive,I.ok.kind]
def ZdR (te:TE):TS:=λD σ H=>te σ H λ_ H1=>D.nx σ H1
theorem Jk (he:PE X e te)(hs:swapsWith e none pos.line X.env=pure false:=by rfl):PS X (.Expr e pos) (ZdR te):=by
 intro qQ s σ H D I h;exact wpAny_Expr_any (thn (he qQ s σ H _ I h) λv s1 ⟨x,H1,I1,r1,q1⟩=>⟨σ,H1,I1,q1⟩) I.quiet hs
def Zg9 (te:TE):TS:=λD σ H=>te σ H D.rt
theorem Gu (he:PE X e te):PS X (.Return (some e) pos) (Zg9 te):=by
 intro qQ s σ H D I h;exact wpAny_Return_some (thn (he qQ s σ H _ I h) λv s1 ⟨x,H1,I1,r1,q1⟩=>⟨x,σ,H1,I1,r1,q1⟩)
def Zgw (c:TT)(t u:TS):TS:=λD σ H=>c σ H λb H1=>if b=true then t D σ H1 else u D σ H1
theorem Je {c:Expr}{a b:List Stmt}{tc:TT}(hc:PT X c tc)(ha:PSs X a t)(hb:PSs X b u):PS X (.If c a b pos) (Zgw tc t u):=by
 intro qQ s σ H D I h;refine wpAny_If (thn (hc qQ s σ H _ I h) λd s1 ⟨H1,I1,q1⟩=>?_);cases d with
 | true=>exact ha qQ s1 σ H1 D I1 q1
 | false=>exact hb qQ s1 σ H1 D I1 q1
end
abbrev TG:=V->St->Hp->(St->Hp->Prop)->Prop
abbrev TGs:=List V->St->Hp->(St->Hp->Prop)->Prop
def PG (X:Cx)(qU:Expr)(t:TG):Prop:=
 ∀(qQ:List (Addr×Obj))(s:Shared)(σ:St)(H:Hp)(v:V)(u:Value)(Q:St->Hp->Prop),Inv X qQ σ H s->RelV v u->t v σ H Q ->
  wpAny (model X.prog X.w) X.A (assign qU X.env u) (λ_ s'=>∃ σ' H',Inv X qQ σ' H' s'/\Q σ' H') X.xe s
def PGs (X:Cx)(ts:List Expr)(t:TGs):Prop:=
 ∀(qQ:List (Addr×Obj))(s:Shared)(σ:St)(H:Hp)(vs:List V)(us:List Value)(Q:St->Hp->Prop),Inv X qQ σ H s->Vals vs us->t vs σ H Q ->
  wpAny (model X.prog X.w) X.A (assignInOrder ((assignEach ts X.env).map (·.2)) us) (λ_ s'=>∃ σ' H',Inv X qQ σ' H' s'/\Q σ' H') X.xe s
abbrev Zfk:=V->V->V->Hp->(Hp->Prop)->Prop
def Zgx (X:Cx)(t:Zfk):Prop:=
 ∀(qQ:List (Addr×Obj))(s:Shared)(σ:St)(H:Hp)(o i v:V)(ov iv u:Value)(Q:Hp->Prop),Inv X qQ σ H s->RelV o ov->RelV i iv->RelV v u->t o i v H Q ->
  wpAny (model X.prog X.w) X.A (setItem ov iv u) (λ_ s'=>∃H',Inv X qQ σ H' s'/\Q H') X.xe s
section
variable {X:Cx}{pos:Pos}
def G0 (i:Nat):TG:=λv σ H Q=>Q (σ.set i (some v)) H
theorem Gi {i:Nat}{x:Str}(hN:X.N.Nodup)(hi:X.N[i]?=some x)(hx:Loc X.env.scope x)(hf:X.fn x=true\/X.env.scope.names.lookup x=some .local:=by first | exact .inl rfl | exact .inr rfl | assumption):PG X (.Name x pos) (G0 i):=by
 intro qQ s σ H v u Q I r h;exact wpAny_assign_Name (XA I hN hi hx r (λs' I'=>⟨_,H,I',h⟩) hf)
def Zha:TGs:=λvs σ H Q=>vs=[]/\Q σ H
def Zfl (t:TG)(u:TGs):TGs:=λvs σ H Q=>∃v r,vs=v::r/\t v σ H λσ' H'=>u r σ' H' Q
theorem Jb:PGs X [] Zha:=by
 intro qQ s σ H vs us Q I r h;obtain ⟨e,h⟩:=h;subst e;cases r;exact assignInOrder_nil ⟨σ,H,I,h⟩
theorem Gv {e:Expr}{es:List Expr}{t:TG}{u:TGs}(h1:PG X e t)(h2:PGs X es u)(hs:(assignEach (e::es) X.env).map (·.2)=assign e X.env::(assignEach es X.env).map (·.2):=by rfl):PGs X (e::es) (Zfl t u):=by
 intro qQ s σ H vs us Q I r h;obtain ⟨v,vr,e1,h⟩:=h;subst e1;cases r with
 | cons r rr=>
  rw [hs];refine assignInOrder_cons (thn (h1 qQ s σ H _ _ _ I r h) λ_ s1 ⟨σ1,H1,I1,q1⟩=>?_);exact h2 qQ s1 σ1 H1 _ _ Q I1 rr q1
def Zgy (K:W.Frag)(n:Nat)(t:TGs):TG:=λv σ H Q=>∃a xs,v=.ref a/\SqT K H a xs/\xs.length=n/\t xs σ H Q
theorem ZdS {es:List Expr}{k:Nat}{t:TGs}{n:Nat}(hc:X.calm=true)(h:PGs X es t)(hn:(assignEach es X.env).length=n:=by rfl)(hst:(assignEach es X.env).findIdx? (·.1)=none:=by rfl):PG X (.Tuple es k pos) (Zgy X.K n t):=by
 intro qQ s σ H v u Q I r hw;obtain ⟨a,xs,e1,hq,hl,hw⟩:=hw;subst e1;cases r;obtain ⟨its,rv,ht,hz⟩:=I.tuple hq;refine assign_Tuple_tuple (I.ok.hd hc) ht (by simp [hn,<-hl,rv.length]) hst λh' hx=>?_;have I1:Inv X qQ σ H { s with heap:=h' }:=I.kept (t':=s.toks) λb o e=>hx b o (Nat.ne_of_lt (Heap.lt_size e)) e;exact h qQ _ σ H xs _ Q I1 (by simpa using rv) hw
def Zhb (to ti:TE)(t:Zfk):TG:=λv σ H Q=>to σ H λo H1=>ti σ H1 λi H2=>t o i v H2 λH3=>Q σ H3
theorem UV {o i:Expr}{to ti:TE}{t:Zfk}(ho:PE X o to)(hi:PE X i ti)(hs:Zgx X t)(ha:∀v,assign (.Subscript o i pos) X.env v=(do
   let ov <- holding [v] (eval o X.env)
   let iv <- holding [v,ov] (eval i X.env)
   standAt pos
   holding [v,ov,iv] (setItem ov iv v)
   release [v,ov,iv] []):=by intro _;rfl):PG X (.Subscript o i pos) (Zhb to ti t):=by
 intro qQ s σ H v u Q I r h;rw [ha];refine wpAny_bind (wpAny_holding (thn (ho qQ s σ H _ I h) λov s1 ⟨x,H1,I1,r1,q1⟩=>?_));refine wpAny_bind (wpAny_holding (thn (hi qQ s1 σ H1 _ I1 q1) λiv s2 ⟨y,H2,I2,r2,q2⟩=>?_));refine wpAny_bind (wpAny_standAt (wpAny_bind (wpAny_holding (thn (hs qQ s2 σ H2 x y v ov iv u _ I2 r1 r2 r q2) λ_ s3 ⟨H3,I3,q3⟩=>?_))));exact wpAny_release ⟨σ,H3,I3,q3⟩
def Zfm (te:TE)(g:TG):TS:=λD σ H=>te σ H λx H1=>g x σ H1 D.nx
theorem JZ {tg e:Expr}{te:TE}{g:TG}(he:PE X e te)(hg:PG X tg g)(hs:swapsWithSole [tg] e pos.line X.env=pure false:=by rfl)(hw:swappedStores [tg] e X.env=pure none:=by rfl)(h1:(assignEach [tg] X.env).map (·.2)=[assign tg X.env]:=by rfl):PS X (.Assign [tg] e pos) (Zfm te g):=by
 intro qQ s σ H D I h;refine wpAny_Assign_stores (thn (he qQ s σ H _ I h) λv s1 ⟨x,H1,I1,r1,q1⟩=>?_) hs hw;rw [h1];exact thn (hg qQ s1 σ H1 x v _ I1 r1 q1) λ_ s2 q=>q
theorem Gs {i:Nat}{x:Str}{e:Expr}{te:TE}{pos':Pos}(hN:X.N.Nodup)(hi:X.N[i]?=some x)(hx:Loc X.env.scope x)(he:PE X e te)(hs:swapsWith e (some (.Name x pos')) pos.line X.env=pure false:=by rfl)(hf:X.fn x=true\/X.env.scope.names.lookup x=some .local:=by first | exact .inl rfl | exact .inr rfl | assumption) :
  PS X (.Assign [.Name x pos'] e pos) (Zfm te (G0 i)):=by
 intro qQ s σ H D I h;refine wpAny_Assign_Name (thn (he qQ s σ H _ I h) λv s1 ⟨y,H1,I1,r1,q1⟩=>?_) hs;exact XA I1 hN hi hx r1 (λs2 I2=>⟨_,H1,I2,q1⟩) hf
def ZdT (c:TT)(tb:TS):TS:=λD σ H=>∃W:Nat->St->Hp->Prop,(∃m,W m σ H)/\∀m σ H,W m σ H ->
 c σ H λb H1=>if b=true then ∃N:St->Hp->Prop,(∀ σ' H',N σ' H'->∃m',m'<m/\W m' σ' H')/\tb { D with nx:=N,ct:=N,bk:=D.nx } σ H1 else D.nx σ H1
theorem Vi {c:Expr}{body:List Stmt}{tc:TT}{tb:TS}(hp:PassesOwn (model X.prog X.w) X.A X.env X.xe)(hc:PT X c tc)(hb:PSs X body tb):PS X (.While c body [] pos) (ZdT tc tb):=by
 intro qQ s σ H D I h;obtain ⟨W,⟨m0,w0⟩,turn⟩:=h;refine wpAny_While (codeAny_whileLoop (λn s'=>∃ σ' H',Inv X qQ σ' H' s'/\W n σ' H') ?_ m0 ⟨σ,H,I,w0⟩);rintro n s1 ⟨σ1,H1,I1,w1⟩;refine wpAny_passesOwn hp (thn (hc qQ s1 σ1 H1 _ I1 (turn n σ1 H1 w1)) λb s2 ⟨H2,I2,q2⟩=>?_);cases b with
 | true=>
  obtain ⟨N,hN,q2⟩:=q2;rw [if_pos rfl];refine wpAny_passesOwn hp (thn (hb qQ s2 σ1 H2 _ I2 q2) λf s3 q3=>?_);cases f with
  | next=>
   obtain ⟨σ3,H3,I3,n3⟩:=q3;obtain ⟨m',hm,w3⟩:=hN σ3 H3 n3;exact ⟨m',hm,σ3,H3,I3,w3⟩
  | cont=>
   obtain ⟨σ3,H3,I3,n3⟩:=q3;obtain ⟨m',hm,w3⟩:=hN σ3 H3 n3;exact ⟨m',hm,σ3,H3,I3,w3⟩
  | brk=>exact q3
  | ret v=>exact q3
 | false=>
  rw [if_neg Bool.false_ne_true];exact wpAny_execs_nil ⟨σ1,H2,I2,q2⟩
end
structure It where
 go:Nat->Hp->Prop
 yld:Nat->Hp->V->Hp->Prop
 stop:Nat->Hp->Prop
def ZaB (X:Cx)(qQ:List (Addr×Obj))(H:Hp)(b:Addr):Prop:=
 H b=none/\b≠X.env.locals/\b ∉ X.fs/\(b∈X.ex\/X.s₀.heap.objs.size<=b)/\(∀x c,X.env.cells.lookup x=some c->c≠b)/\∀p∈X.pn++qQ,p.1≠b
theorem Inv.fpOk {X:Cx}{qQ:List (Addr×Obj)}{σ:St}{H H':Hp}{s:Shared}{b:Addr}(I:Inv X qQ σ H s)(hb:s.heap.objs.size<=b)(hn:H' b=none):ZaB X qQ H' b:=by
 refine ⟨hn,Nat.ne_of_gt (Nat.lt_of_lt_of_le I.lt hb),I.nofs hb,.inr (Nat.le_trans I.sz hb),λx c e z=>?_,λp hp z=>?_⟩
 ·obtain ⟨v,q⟩:=I.cell x c e;exact absurd (Nat.lt_of_lt_of_le q.lt (by rw [z];exact hb)) (Nat.lt_irrefl _)
 ·exact absurd (Nat.lt_of_lt_of_le (Heap.lt_size (I.pin p hp).1) (by rw [z];exact hb)) (Nat.lt_irrefl _)
structure ZbQ (P:Program)(w:World)(K:W.Frag)(tg:Expr)(J:It)(fp:List Addr)(it:Addr)(tn:Nat->Heap->Prop):Prop where
 mem:it∈fp
 obj:∀i h,tn i h->∀b∈fp,∃o,h.get? b=some o/\∀v,o.data≠.cell v
 keep:∀i h h',tn i h->(∀b∈fp,∀o,h.get? b=some o->h'.get? b=some o)->tn i h'
 item:∀(X:Cx),X.prog=P->X.w=w->X.K=K->X.calm=true->∀(i:Nat)(qQ:List (Addr×Obj))(s:Shared)(σ:St)(H:Hp)(E:Value->Shared->Prop),Inv X qQ σ H s->(∀b∈fp,ZaB X qQ H b)->tn i s.heap->J.go i H ->
  wpAny (model P w) X.A (pyNext (.ref it)) (λr s1=>∃u,r=some u /\
   wpAny (model P w) X.A (letOwnedTupleGo tg (.ref it) u) (λ_ s2=>∃x H',Inv X qQ σ H' s2/\RelV x u/\J.yld i H x H'/\tn (i+1) s2.heap/\∀b∈fp,H' b=none) E s1) E s
 done:∀(X:Cx),X.prog=P->X.w=w->X.K=K->X.calm=true->∀(i:Nat)(qQ:List (Addr×Obj))(s:Shared)(σ:St)(H:Hp)(E:Value->Shared->Prop),Inv X qQ σ H s->(∀b∈fp,ZaB X qQ H b)->tn i s.heap->J.stop i H ->
  wpAny (model P w) X.A (pyNext (.ref it)) (λr s1=>r=none/\Inv X qQ σ H s1) E s
 self:∀(A:Around)(i:Nat)(s:Shared)(Q:Value->Shared->Prop)(E:Value->Shared->Prop),tn i s.heap->Q (.ref it) s->wpAny (model P w) A (pyIter (.ref it)) Q E s
abbrev TI:=St->Hp->(It->Hp->Prop)->Prop
def PIE (X:Cx)(qQ:List (Addr×Obj))(σ:St)(tg:Expr)(R:It->Hp->Prop)(itv:Value)(s2:Shared):Prop:=
 ∃(it:Addr)(fp:List Addr)(tn:Nat->Heap->Prop)(J:It)(H':Hp),itv=.ref it/\Inv X qQ σ H' s2/\ZbQ X.prog X.w X.K tg J fp it tn/\tn 0 s2.heap/\(∀b∈fp,ZaB X qQ H' b)/\R J H'
def PI (X:Cx)(tg iter:Expr)(wi:TI):Prop:=
 ∀(qQ:List (Addr×Obj))(s:Shared)(σ:St)(H:Hp)(R:It->Hp->Prop),Inv X qQ σ H s->wi σ H R ->
  wpAny (model X.prog X.w) X.A (eval iter X.env) (λv s1=>wpAny (model X.prog X.w) X.A (pyIter v) (PIE X qQ σ tg R) X.xe s1) X.xe s
theorem YW {M:Model}{A:Around}{E:Value->Shared->Prop}{s:Shared}{tg:Expr}{it:Addr}{u:Value}{o:Obj}{n:String}{vs:Array Value}{Q:Unit->Shared->Prop}(ho:s.heap.get? it=some o)(hc:o.cls=.type n)(hd:o.data=.fields vs)(hn:["enumerate", "zip", "dict_itemiterator", "dict_reverseitemiterator", "odict_iterator", "itertools.zip_longest", "itertools.pairwise"].contains n=false)(hQ:Q () s):wpAny M A (letOwnedTupleGo tg (.ref it) u) Q E s:=by
 unfold letOwnedTupleGo;cases tg <;> first
  | exact wpAny_pure hQ
  | (cases u <;> first
    | exact wpAny_pure hQ
    | (refine wpAny_bind (wpAny_load ho ?_)
       rw [hc,hd];show wpAny M A (if (["enumerate", "zip", "dict_itemiterator", "dict_reverseitemiterator", "odict_iterator", "itertools.zip_longest", "itertools.pairwise"].contains n && vs[0]? == some (rawInt _))=true then _ else _) Q E s;rw [if_neg (by intro h;rw [hn,Bool.false_and] at h;cases h)];exact wpAny_pure hQ))
def Itl (K:W.Frag)(a:Addr):It:=
 ⟨λi H=>∃xs x,SqL K H a xs/\xs[i]?=some x,λi H x H'=>H'=H/\∀xs,SqL K H a xs->xs[i]?=some x,λi H=>∃xs,SqL K H a xs/\xs.length<=i⟩
def Itt (K:W.Frag)(a:Addr):It:=
 ⟨λi H=>∃xs x,SqT K H a xs/\xs[i]?=some x,λi H x H'=>H'=H/\∀xs,SqT K H a xs->xs[i]?=some x,λi H=>∃xs,SqT K H a xs/\xs.length<=i⟩
def Itr (lo:Int)(n:Nat):It:=⟨λi _=>i<n,λi H x H'=>H'=H/\x=.int (lo+i),λi _=>n<=i⟩
theorem YX {P:Program}{w:World}{K:W.Frag}{tg:Expr}(a it:Addr):ZbQ P w K tg (Itl K a) [it] it (λi h=>h.IsListIter it a i) where
 mem:=by simp
 obj:=λi h st b hb=>by
  have e:b=it:=by simpa using hb
  subst e;obtain ⟨o,e,c,d⟩:=st;exact ⟨o,e,λv z=>by rw [d] at z;cases z⟩
 keep:=λi h h' st k=>st.at λo e=>k it (by simp) o e
 item:=by
  intro X hP hw hK hc i qQ s σ H E I hf st hg;subst hP hw hK;obtain ⟨xs,x,hq,hx⟩:=hg;obtain ⟨its,rv,p,hz⟩:=I.list hq;obtain ⟨u,hu,ru⟩:=rv.get hx;obtain ⟨f0,f1,f2,f3,f4,f5⟩:=hf it (by simp);refine wpAny_pyNext_list_item st p.isList (x:=u) (by simpa using hu) λh' st' sb=>?_;have I1:Inv X qQ σ H { s with heap:=h' }:=I.turned (t':=s.toks) (λb o hb e=>(sb.2 b hb).trans e) f0 f1 f3 f4 f5;obtain ⟨o,e,c,d⟩:=id st';exact ⟨u,rfl,YW (s:={ s with heap:=h' }) e c d (by decide) ⟨x,H,I1,ru,⟨rfl,λys hy=>by rw [I.list_inj hy hq];exact hx⟩,st',λb hb=>(hf b hb).1⟩⟩
 done:=by
  intro X hP hw hK hc i qQ s σ H E I hf st hg;subst hP hw hK;obtain ⟨xs,hq,hx⟩:=hg;obtain ⟨its,rv,p,hz⟩:=I.list hq;obtain ⟨f0,f1,f2,f3,f4,f5⟩:=hf it (by simp);have hl:=rv.length;exact wpAny_pyNext_list_end (I.ok.hd hc) st p.isList (by simp;lia) λh' eb=>⟨rfl,I.turned (t':=s.toks) (λb o hb e=>eb b o hb e) f0 f1 f3 f4 f5⟩
 self:=λ_ _ _ _ _ st h=>wpAny_pyIter_listiter st h
theorem Yo {P:Program}{w:World}{K:W.Frag}{tg:Expr}(a it:Addr):ZbQ P w K tg (Itt K a) [it] it (λi h=>h.IsTupleIter it a i) where
 mem:=by simp
 obj:=λi h st b hb=>by
  have e:b=it:=by simpa using hb
  subst e;obtain ⟨o,e,c,d⟩:=st;exact ⟨o,e,λv z=>by rw [d] at z;cases z⟩
 keep:=λi h h' st k=>st.at λo e=>k it (by simp) o e
 item:=by
  intro X hP hw hK hc i qQ s σ H E I hf st hg;subst hP hw hK;obtain ⟨xs,x,hq,hx⟩:=hg;obtain ⟨its,rv,p,hz⟩:=I.tuple hq;obtain ⟨u,hu,ru⟩:=rv.get hx;obtain ⟨f0,f1,f2,f3,f4,f5⟩:=hf it (by simp);refine wpAny_pyNext_tuple_item st (show s.heap.IsTuple a its.toArray from p) (x:=u) (by simpa using hu) λh' st' sb=>?_;have I1:Inv X qQ σ H { s with heap:=h' }:=I.turned (t':=s.toks) (λb o hb e=>(sb.2 b hb).trans e) f0 f1 f3 f4 f5;obtain ⟨o,e,c,d⟩:=id st';exact ⟨u,rfl,YW (s:={ s with heap:=h' }) e c d (by decide) ⟨x,H,I1,ru,⟨rfl,λys hy=>by rw [I.tuple_inj hy hq];exact hx⟩,st',λb hb=>(hf b hb).1⟩⟩
 done:=by
  intro X hP hw hK hc i qQ s σ H E I hf st hg;subst hP hw hK;obtain ⟨xs,hq,hx⟩:=hg;obtain ⟨its,rv,p,hz⟩:=I.tuple hq;obtain ⟨f0,f1,f2,f3,f4,f5⟩:=hf it (by simp);have hl:=rv.length;exact wpAny_pyNext_tuple_end (I.ok.hd hc) st (show s.heap.IsTuple a its.toArray from p) (by simp;lia) λh' eb=>⟨rfl,I.turned (t':=s.toks) (λb o hb e=>eb b o hb e) f0 f1 f3 f4 f5⟩
 self:=λ_ _ _ _ _ st h=>wpAny_pyIter_tupleiter st h
theorem Yp {P:Program}{w:World}{K:PySem.W.Frag}{tg:Expr}(it:Addr)(lo:Int)(n:Nat):ZbQ P w K tg (Itr lo n) [it] it (λi h=>IsRangeIter h it (lo+(i:Nat) * 1) ((n:Int)-(i:Nat)) 1) where
 mem:=by simp
 obj:=λi h st b hb=>by
  have e:b=it:=by simpa using hb
  subst e;exact ⟨_,st,λv z=>by
   have z':Data.fields _=Data.cell v:=z;cases z'⟩
 keep:=λi h h' st k=>k it (by simp) _ st
 item:=by
  intro X hP hw hK hc i qQ s σ H E I hf st hg;subst hP hw hK;obtain ⟨f0,f1,f2,f3,f4,f5⟩:=hf it (by simp);have W:=Walks.range (prog:=X.prog) (w:=X.w) (I.ok.hd hc) it lo 1 n;refine W.item i s _ _ hg st λv h' tk hv st' kk=>?_;obtain ⟨t,rfl⟩:=hv;have I1:Inv X qQ σ H { s with heap:=h',toks:=tk }:=I.turned (λb o hb e=>kk b o (by simpa using hb) e) f0 f1 f3 f4 f5;refine ⟨_,rfl,YW (s:={ s with heap:=h',toks:=tk }) (n := "range_iterator") st' rfl rfl (by decide) ⟨.int (lo+i),H,I1,⟨t,?_⟩,⟨rfl,rfl⟩,st',λb hb=>(hf b hb).1⟩⟩;rw [Int.mul_one]
 done:=by
  intro X hP hw hK hc i qQ s σ H E I hf st hg;subst hP hw hK;obtain ⟨f0,f1,f2,f3,f4,f5⟩:=hf it (by simp);exact wpAny_pyNext_range_end (I.ok.hd hc) st (by have:n<=i:=hg;lia) λh' eb=>⟨rfl,I.turned (t':=s.toks) (λb o hb e=>eb b o hb e) f0 f1 f3 f4 f5⟩
 self:=λ_ _ _ _ _ st h=>wpAny_pyIter_rangeiter st h
end L2
namespace L2
open PySem PySem.Spec PyProof.Rows
section
variable {X:Cx}{tg:Expr}
def ZdU (K:W.Frag)(tl:TE):TI:=λσ H R=>tl σ H λx H1=>∃a,x=.ref a/\(∃xs,SqL K H1 a xs)/\R (Itl K a) H1
def Zgz (K:W.Frag)(tl:TE):TI:=λσ H R=>tl σ H λx H1=>∃a,x=.ref a/\(∃xs,SqT K H1 a xs)/\R (Itt K a) H1
theorem Zcs {l:Expr}{tl:TE}(hl:PE X l tl):PI X tg l (ZdU X.K tl):=by
 intro qQ s σ H R I h;refine thn (hl qQ s σ H _ I h) λv s1 ⟨x,H1,I1,r1,q1⟩=>?_;obtain ⟨a,e,⟨xs,hq⟩,q⟩:=q1;subst e;cases r1;obtain ⟨its,rv,p,hz⟩:=I1.list hq;refine wpAny_pyIter_list p.isList ?_;refine ⟨s1.heap.objs.size,[s1.heap.objs.size],_,_,H1,rfl,I1.kept (t':=s1.toks) λb o e=>Heap.get?_push_of_some _ e,YX a _,⟨_,Heap.get?_push_size _ rfl,rfl,rfl⟩,λb hb=>?_,q⟩;have e:b=s1.heap.objs.size:=by simpa using hb
 subst e;exact I1.fpOk (Nat.le_refl _) (I1.hok.fresh (Nat.le_refl _))
theorem ZdV {l:Expr}{tl:TE}(hl:PE X l tl):PI X tg l (Zgz X.K tl):=by
 intro qQ s σ H R I h;refine thn (hl qQ s σ H _ I h) λv s1 ⟨x,H1,I1,r1,q1⟩=>?_;obtain ⟨a,e,⟨xs,hq⟩,q⟩:=q1;subst e;cases r1;obtain ⟨its,rv,p,hz⟩:=I1.tuple hq;refine wpAny_pyIter_tuple (show s1.heap.IsTuple a its.toArray from p) ?_;refine ⟨s1.heap.objs.size,[s1.heap.objs.size],_,_,H1,rfl,I1.kept (t':=s1.toks) λb o e=>Heap.get?_push_of_some _ e,Yo a _,⟨_,Heap.get?_push_size _ rfl,rfl,rfl⟩,λb hb=>?_,q⟩;have e:b=s1.heap.objs.size:=by simpa using hb
 subst e;exact I1.fpOk (Nat.le_refl _) (I1.hok.fresh (Nat.le_refl _))
theorem XB {qQ:List (Addr×Obj)}{σ:St}{H:Hp}{s:Shared}{R:It->Hp->Prop}{E:Value->Shared->Prop}{lo hi:Int}{t u v:Tok}{tk:Nat}(I:Inv X qQ σ H s)(h1:-(2 ^ 62)<=lo)(h2:lo<2 ^ 62)(h3:-(2 ^ 62)<=hi)(h4:hi<2 ^ 62)(q:R (Itr lo (hi-lo).toNat) H):wpAny (model X.prog X.w) X.A (pyIter (.ref s.heap.objs.size)) (PIE X qQ σ tg R) E { s with heap:=s.heap.push { cls:=.type "range", data:=.fields #[.int lo t,.int hi u,.int 1 v] },toks:=tk }:=by
 refine wpAny_pyIter_range (IsRange.new ..) (small_one h1 h2 h3 h4) ?_;have I1:Inv X qQ σ H { s with heap:=s.heap.push { cls:=.type "range", data:=.fields #[.int lo t,.int hi u,.int 1 v] },toks:=tk }:=I.kept λb o e=>Heap.get?_push_of_some _ e;refine ⟨(s.heap.push { cls:=.type "range", data:=.fields #[.int lo t,.int hi u,.int 1 v] }).objs.size,[(s.heap.push { cls:=.type "range", data:=.fields #[.int lo t,.int hi u,.int 1 v] }).objs.size],_,_,H,rfl,
  I1.kept (t':=tk) λb o e=>Heap.get?_push_of_some _ e,Yp _ lo (hi-lo).toNat,?_,λb hb=>?_,q⟩
 ·have e1:lo+((0:Nat):Int) * 1=lo:=by simp
  have e2:(((hi-lo).toNat:Nat):Int)-((0:Nat):Int)=Builtin.Range.rangeSize lo hi 1:=by rw [rangeSize_one];split <;> lia
  show IsRangeIter _ _ (lo+((0:Nat):Int) * 1) ((((hi-lo).toNat:Nat):Int)-((0:Nat):Int)) 1;rw [e1,e2];exact Heap.get?_push_size _ rfl
 ·have e:b=(s.heap.push { cls:=.type "range", data:=.fields #[.int lo t,.int hi u,.int 1 v] }).objs.size:=by simpa using hb
  subst e;exact I1.fpOk (Nat.le_refl _) (I1.hok.fresh (Nat.le_refl _))
def Zfn (ta:TA):TI:=λσ H R=>ta σ H λvs H1=>∃j:Int,vs=[.int j]/\-(2 ^ 62)<=j/\j<2 ^ 62/\R (Itr 0 j.toNat) H1
def Zfo (ta:TA):TI:=λσ H R=>ta σ H λvs H1=>∃i j:Int,vs=[.int i,.int j]/\(-(2 ^ 62)<=i/\i<2 ^ 62/\-(2 ^ 62)<=j/\j<2 ^ 62)/\R (Itr i (j-i).toNat) H1
theorem V0 {a:Expr}{ta:TA}{p pos:Pos}(hg:Gl X "range")(hm:X.mg "range" = none)(ha:PA X [a] ta)(hs:starEach [a] X.env=[(false,eval a X.env)]:=by rfl):PI X tg (.Call (.Name "range" p) [a] [] pos) (Zfn ta):=by
 intro qQ s σ H R I h;refine Call_ (Ua I hg hm boot_range (PyProof.Rows.callWith_type1 (thn (ha pos qQ s σ H _ I h) λus s1 ⟨vs,H1,I1,r1,q1⟩=>?_) hs rfl));obtain ⟨j,e,q1,q2,q⟩:=q1;subst e;cases r1 with
 | cons r rr=>
  cases rr;obtain ⟨t,rfl⟩:=r;exact call_range_1 (XB I1 (by lia) (by lia) q1 q2 (by simpa using q))
theorem V1 {a b:Expr}{ta:TA}{p pos:Pos}(hg:Gl X "range")(hm:X.mg "range" = none)(ha:PA X [a,b] ta)(hs:starEach [a,b] X.env=[(false,eval a X.env),(false,eval b X.env)]:=by rfl)(hs2:starEach [b] X.env=[(false,eval b X.env)]:=by rfl) :
  PI X tg (.Call (.Name "range" p) [a,b] [] pos) (Zfo ta):=by
 intro qQ s σ H R I h;refine Call_ (Ua I hg hm boot_range (PyProof.Rows.callWith_type1 (thn (ha pos qQ s σ H _ I h) λus s1 ⟨vs,H1,I1,r1,q1⟩=>?_) (by rw [hs,hs2]) (by rw [hs2];rfl)));obtain ⟨i,j,e,⟨q1,q2,q3,q4⟩,q⟩:=q1;subst e;cases r1 with
 | cons r rr=>
  cases rr with
  | cons r' rr=>
   cases rr;obtain ⟨t,rfl⟩:=r;obtain ⟨t',rfl⟩:=r';exact call_range_2 (XB I1 q1 q2 q3 q4 q)
def Zhc (wi:TI)(g:TG)(tb:TS):TS:=λD σ H=>wi σ H λJ H1=>∃W:Nat->Nat->St->Hp->Prop,(∃m,W 0 m σ H1)/\∀i m σ H,W i m σ H ->
 (J.stop i H/\D.nx σ H)\/(J.go i H/\∃N:St->Hp->Prop,(∀ σ' H',N σ' H'->∃m',m'<m/\W (i+1) m' σ' H')/\∀x H',J.yld i H x H'->g x σ H' λσ2 H2=>tb { D with nx:=N,ct:=N,bk:=D.nx } σ2 H2)
def V2 (fp:List Addr)(h:Heap):List (Addr×Obj):=fp.filterMap λb=>(h.get? b).map λo=>(b,o)
theorem J8 {fp:List Addr}{h:Heap}{b:Addr}{o:Obj}(hb:b∈fp)(e:h.get? b=some o):(b,o)∈V2 fp h:=List.mem_filterMap.mpr ⟨b,hb,by rw [e];rfl⟩
theorem YY {fp:List Addr}{h:Heap}{p:Addr×Obj}(hp:p∈V2 fp h):p.1∈fp/\h.get? p.1=some p.2:=by
 obtain ⟨b,hb,e⟩:=List.mem_filterMap.mp hp;cases q:h.get? b with
 | none=>rw [q] at e;cases e
 | some o=>
  rw [q] at e;have e':(b,o)=p:=Option.some.inj e;subst e';exact ⟨hb,q⟩
theorem Inv.pinned {qQ:List (Addr×Obj)}{σ:St}{H:Hp}{s:Shared}{fp:List Addr}(I:Inv X qQ σ H s)(hf:∀b∈fp,ZaB X qQ H b)(ho:∀b∈fp,∃o,s.heap.get? b=some o/\∀v,o.data≠.cell v):Inv X (qQ++V2 fp s.heap) σ H s:=
 I.pins_of λp hp=>(List.mem_append.mp hp).elim (λz=>I.pin p (List.mem_append_right _ z)) λz=>by
  obtain ⟨hb,e⟩:=YY z;obtain ⟨f0,f1,f2,_⟩:=hf p.1 hb;obtain ⟨o,e',d⟩:=ho p.1 hb;rw [e] at e';cases e';exact ⟨e,f0,f1,f2,d⟩
theorem Inv.unpinned {qQ pl:List (Addr×Obj)}{σ:St}{H:Hp}{s:Shared}(I:Inv X (qQ++pl) σ H s):Inv X qQ σ H s:=I.pins_of λp hp=>I.pin p (List.mem_append_right _ (List.mem_append_left _ hp))
theorem JD {iter:Expr}{body:List Stmt}{wi:TI}{g:TG}{tb:TS}{pos:Pos}(hp:PassesOwn (model X.prog X.w) X.A X.env X.xe)(hc:X.calm=true)(hi:PI X tg iter wi)(hg:PG X tg g)(hb:PSs X body tb)(hs:∀x,foldedSetIterable iter X.env x=pure x:=by intro _;rfl):PS X (.For tg iter body [] pos) (Zhc wi g tb):=by
 intro qQ s σ H D I h;refine wpAny_For (thn (hi qQ s σ H _ I h) λv s1 h1=>thn h1 λitv s2 h2=>?_) hs;obtain ⟨it,fp,tn,J,H2,e,I2,T,st2,f2,W,⟨m0,w0⟩,turn⟩:=h2;subst e;have stat:∀{H':Hp},(∀b∈fp,H' b=none)->∀b∈fp,ZaB X qQ H' b:=λhn b hb=>⟨hn b hb,(f2 b hb).2⟩;refine codeAny_forLoop_any (λn s'=>∃i σ' H',Inv X qQ σ' H' s'/\tn i s'.heap/\(∀b∈fp,H' b=none)/\W i n σ' H') ?_ m0 ⟨0,σ,H2,I2,st2,λb hb=>(f2 b hb).1,w0⟩;rintro n s3 ⟨i,σ3,H3,I3,st3,fr3,w3⟩;rcases turn i n σ3 H3 w3 with ⟨stop,qn⟩ | ⟨go,N,hN,step⟩
 ·refine wpAny_passesOwn hp (thn (T.done X rfl rfl rfl hc i qQ s3 σ3 H3 X.xe I3 (stat fr3) st3 stop) λr s4 ⟨hr,I4⟩=>?_);subst hr;exact wpAny_execs_nil ⟨σ3,H3,I4,qn⟩
 ·refine wpAny_passesOwn hp (thn (T.item X rfl rfl rfl hc i qQ s3 σ3 H3 X.xe I3 (stat fr3) st3 go) λr s4 ⟨u,hr,h4⟩=>?_);subst hr;refine wpAny_passesOwn hp (thn h4 λ_ s5 ⟨x,H5,I5,r5,y5,st5,fr5⟩=>?_);have I5':=I5.pinned (stat fr5) (T.obj _ _ st5);refine wpAny_passesOwn hp (thn (hg _ s5 σ3 H5 x u _ I5' r5 (step x H5 y5)) λ_ s6 ⟨σ6,H6,I6,q6⟩=>?_);refine wpAny_passesOwn hp (thn (hb _ s6 σ6 H6 _ I6 q6) λf s7 q7=>?_);have again:∀{σ7:St}{H7:Hp},Inv X (qQ++V2 fp s5.heap) σ7 H7 s7->N σ7 H7->∃m,m<n/\∃i σ' H',Inv X qQ σ' H' s7/\tn i s7.heap/\(∀b∈fp,H' b=none)/\W i m σ' H':=λ{σ7 H7} I7 n7=>by
   obtain ⟨m',hm,w7⟩:=hN σ7 H7 n7;refine ⟨m',hm,i+1,σ7,H7,I7.unpinned,T.keep _ _ _ st5 λb hb o e=>(I7.pin (b,o) (List.mem_append_right _ (List.mem_append_right _ (J8 hb e)))).1,λb hb=>?_,w7⟩;obtain ⟨o,e,d⟩:=T.obj _ _ st5 b hb;exact (I7.pin (b,o) (List.mem_append_right _ (List.mem_append_right _ (J8 hb e)))).2.1
  cases f with
  | next=>obtain ⟨σ7,H7,I7,n7⟩:=q7;exact again I7 n7
  | cont=>obtain ⟨σ7,H7,I7,n7⟩:=q7;exact again I7 n7
  | brk=>obtain ⟨σ7,H7,I7,q7⟩:=q7;exact ⟨σ7,H7,I7.unpinned,q7⟩
  | ret v=>obtain ⟨x7,σ7,H7,I7,r7,q7⟩:=q7;exact ⟨x7,σ7,H7,I7.unpinned,r7,q7⟩
end
theorem OB {K:PySem.W.Frag}{a:Addr}{xs:List V}{g:TG}{tb:TS}{D:Ends}{σ:St}{H:Hp}(Pv:Nat->St->Hp->Prop)(h0:Pv 0 σ H)(hl:∀i σ H,i<=xs.length->Pv i σ H->SqL K H a xs)(hs:∀i x σ H,xs[i]?=some x->Pv i σ H->g x σ H λσ2 H2=>tb { D with nx:=Pv (i+1),ct:=Pv (i+1),bk:=D.nx } σ2 H2)(hd:∀ σ H,Pv xs.length σ H->D.nx σ H) :
  ∃W:Nat->Nat->St->Hp->Prop,(∃m,W 0 m σ H)/\∀i m σ H,W i m σ H ->
   ((Itl K a).stop i H/\D.nx σ H)\/((Itl K a).go i H/\∃N:St->Hp->Prop,(∀ σ' H',N σ' H'->∃m',m'<m/\W (i+1) m' σ' H')/\∀x H',(Itl K a).yld i H x H'->g x σ H' λσ2 H2=>tb { D with nx:=N,ct:=N,bk:=D.nx } σ2 H2):=by
 refine ⟨λi m σ H=>m=xs.length-i/\i<=xs.length/\Pv i σ H,⟨xs.length,by simp,Nat.zero_le _,h0⟩,?_⟩;rintro i m σ H ⟨rfl,hi,p⟩;have q:=hl i σ H hi p;by_cases hlt:i<xs.length
 ·refine .inr ⟨⟨xs,xs[i],q,by simp [hlt]⟩,Pv (i+1),λσ' H' p'=>⟨xs.length-(i+1),by lia,rfl,hlt,p'⟩,λx H' y=>?_⟩;obtain ⟨e,y⟩:=y;subst e;exact hs i x σ _ (y xs q) p
 ·have e:i=xs.length:=by lia
  subst e;exact .inl ⟨⟨xs,q,Nat.le_refl _⟩,hd σ H p⟩
theorem Zct {K:PySem.W.Frag}{a:Addr}{xs:List V}{g:TG}{tb:TS}{D:Ends}{σ:St}{H:Hp}(Pv:Nat->St->Hp->Prop)(h0:Pv 0 σ H)(hl:∀i σ H,i<=xs.length->Pv i σ H->SqT K H a xs)(hs:∀i x σ H,xs[i]?=some x->Pv i σ H->g x σ H λσ2 H2=>tb { D with nx:=Pv (i+1),ct:=Pv (i+1),bk:=D.nx } σ2 H2)(hd:∀ σ H,Pv xs.length σ H->D.nx σ H) :
  ∃W:Nat->Nat->St->Hp->Prop,(∃m,W 0 m σ H)/\∀i m σ H,W i m σ H ->
   ((Itt K a).stop i H/\D.nx σ H)\/((Itt K a).go i H/\∃N:St->Hp->Prop,(∀ σ' H',N σ' H'->∃m',m'<m/\W (i+1) m' σ' H')/\∀x H',(Itt K a).yld i H x H'->g x σ H' λσ2 H2=>tb { D with nx:=N,ct:=N,bk:=D.nx } σ2 H2):=by
 refine ⟨λi m σ H=>m=xs.length-i/\i<=xs.length/\Pv i σ H,⟨xs.length,by simp,Nat.zero_le _,h0⟩,?_⟩;rintro i m σ H ⟨rfl,hi,p⟩;have q:=hl i σ H hi p;by_cases hlt:i<xs.length
 ·refine .inr ⟨⟨xs,xs[i],q,by simp [hlt]⟩,Pv (i+1),λσ' H' p'=>⟨xs.length-(i+1),by lia,rfl,hlt,p'⟩,λx H' y=>?_⟩;obtain ⟨e,y⟩:=y;subst e;exact hs i x σ _ (y xs q) p
 ·have e:i=xs.length:=by lia
  subst e;exact .inl ⟨⟨xs,q,Nat.le_refl _⟩,hd σ H p⟩
theorem YZ {lo:Int}{n:Nat}{g:TG}{tb:TS}{D:Ends}{σ:St}{H:Hp}(Pv:Nat->St->Hp->Prop)(h0:Pv 0 σ H)(hs:∀i σ H,i<n->Pv i σ H->g (.int (lo+i)) σ H λσ2 H2=>tb { D with nx:=Pv (i+1),ct:=Pv (i+1),bk:=D.nx } σ2 H2)(hd:∀ σ H,Pv n σ H->D.nx σ H) :
  ∃W:Nat->Nat->St->Hp->Prop,(∃m,W 0 m σ H)/\∀i m σ H,W i m σ H ->
   ((Itr lo n).stop i H/\D.nx σ H)\/((Itr lo n).go i H/\∃N:St->Hp->Prop,(∀ σ' H',N σ' H'->∃m',m'<m/\W (i+1) m' σ' H')/\∀x H',(Itr lo n).yld i H x H'->g x σ H' λσ2 H2=>tb { D with nx:=N,ct:=N,bk:=D.nx } σ2 H2):=by
 refine ⟨λi m σ H=>m=n-i/\i<=n/\Pv i σ H,⟨n,by simp,Nat.zero_le _,h0⟩,?_⟩;rintro i m σ H ⟨rfl,hi,p⟩;by_cases hlt:i<n
 ·refine .inr ⟨hlt,Pv (i+1),λσ' H' p'=>⟨n-(i+1),by lia,rfl,hlt,p'⟩,λx H' y=>?_⟩;obtain ⟨e,y⟩:=y;subst e y;exact hs i σ _ hlt p
 ·have e:i=n:=by lia
  subst e;exact .inl ⟨Nat.le_refl _,hd σ H p⟩
end L2
namespace L2
open PySem PySem.Spec PyProof.Rows
abbrev R2:=V->V->Hp->VK->Prop
def OpR (X:Cx)(f:Value->Value->Sem Value)(r:R2):Prop:=
 ∀(qQ:List (Addr×Obj))(s:Shared)(σ:St)(H:Hp)(x y:V)(v u:Value)(Q:VK),Inv X qQ σ H s->RelV x v->RelV y u->r x y H Q ->
  wpAny (model X.prog X.w) X.A (f v u) (EP X qQ σ Q) X.xe s
def UnR (X:Cx)(f:Value->Sem Value)(r:V->Hp->VK->Prop):Prop:=
 ∀(qQ:List (Addr×Obj))(s:Shared)(σ:St)(H:Hp)(x:V)(v:Value)(Q:VK),Inv X qQ σ H s->RelV x v->r x H Q ->
  wpAny (model X.prog X.w) X.A (f v) (EP X qQ σ Q) X.xe s
def JC (X:Cx)(f:Value)(r:List V->Hp->VK->Prop):Prop:=
 ∀(qQ:List (Addr×Obj))(s:Shared)(σ:St)(H:Hp)(xs:List V)(us:List Value)(Q:VK),Inv X qQ σ H s->Vals xs us->r xs H Q ->
  wpAny (model X.prog X.w) X.A (call f us) (EP X qQ σ Q) X.xe s
def Zhd (X:Cx)(r:V->Hp->(Bool->Hp->Prop)->Prop):Prop:=
 ∀(qQ:List (Addr×Obj))(s:Shared)(σ:St)(H:Hp)(x:V)(v:Value)(Q:Bool->Hp->Prop),Inv X qQ σ H s->RelV x v->r x H Q ->
  wpAny (model X.prog X.w) X.A (truthy v) (TP X qQ σ Q) X.xe s
def tOp (r:R2)(ta tb:TE):TE:=λσ H Q=>ta σ H λx H1=>tb σ H1 λy H2=>r x y H2 Q
def tUn (r:V->Hp->VK->Prop)(ta:TE):TE:=λσ H Q=>ta σ H λx H1=>r x H1 Q
def rI (C:Int->Int->Prop)(g:Int->Int->V):R2:=λx y H Q=>∃i j,x=.int i/\y=.int j/\C i j/\Q (g i j) H
def rI0 (g:Int->Int->V):R2:=λx y H Q=>∃i j,x=.int i/\y=.int j/\Q (g i j) H
def rU (g:Int->V):V->Hp->VK->Prop:=λx H Q=>∃i,x=.int i/\Q (g i) H
section
variable {X:Cx}{a b c:Expr}{ta tb tc:TE}{pos:Pos}
theorem Zfp (ha:PE X a ta)(hb:PE X b tb){qQ:List (Addr×Obj)}{s:Shared}{σ:St}{H:Hp}{R:V->V->Hp->Prop}(I:Inv X qQ σ H s)(h:ta σ H λx H1=>tb σ H1 λy H2=>R x y H2){Q:Value->Shared->Prop}{f:Value->Value->Sem Value}(hf:∀v u s2 x y H2,Inv X qQ σ H2 s2->RelV x v->RelV y u->R x y H2->wpAny (model X.prog X.w) X.A (f v u) Q X.xe s2) :
  wpAny (model X.prog X.w) X.A (eval a X.env) (λv s₁=>wpAny (model X.prog X.w) X.A (eval b X.env) (λu s₂=>wpAny (model X.prog X.w) X.A (f v u) Q X.xe s₂) X.xe s₁) X.xe s:=by
 refine thn (ha qQ s σ H _ I h) λv s1 ⟨x,H1,I1,r1,q1⟩=>?_;refine thn (hb qQ s1 σ H1 _ I1 q1) λu s2 ⟨y,H2,I2,r2,q2⟩=>?_;exact hf v u s2 x y H2 I2 r1 r2 q2
theorem GF {op:Operator}{r:R2}(ho:OpR X (binaryOp op) r)(ha:PE X a ta)(hb:PE X b tb):PE X (.BinOp a op b pos) (tOp r ta tb):=by
 intro qQ s σ H Q I h;exact wpAny_BinOp (Zfp ha hb I h λv u s2 x y H2 I2 rx ry q=>ho qQ s2 σ H2 x y v u Q I2 rx ry q)
theorem Vj {op:UnaryOp}{r:V->Hp->VK->Prop}(ho:UnR X (unaryOp op) r)(ha:PE X a ta):PE X (.UnaryOp op a pos) (tUn r ta):=by
 intro qQ s σ H Q I h;exact UnaryOp_ (thn (ha qQ s σ H _ I h) λv s1 ⟨x,H1,I1,r1,q1⟩=>ho qQ s1 σ H1 x v Q I1 r1 q1)
theorem opI {f:Value->Value->Sem Value}{C:Int->Int->Prop}{g:Int->Int->Int}(rule:∀(i j:Int)(t u:Tok)(s:Shared)(Q:Value->Shared->Prop)(E:Value->Shared->Prop),C i j->Q (.int (g i j) s.toks) { s with toks:=s.toks+1 }->wpAny (model X.prog X.w) X.A (f (.int i t) (.int j u)) Q E s) :
  OpR X f (rI C λi j=>.int (g i j)):=by
 intro qQ s σ H x y v u Q I rx ry h;obtain ⟨i,j,rfl,rfl,hc,q⟩:=h;obtain ⟨t,rfl⟩:=rx;obtain ⟨t',rfl⟩:=ry;exact rule i j t t' s _ _ hc ⟨.int (g i j),H,I.tok _,⟨_,rfl⟩,q⟩
theorem ZgA {f:Value->Value->Sem Value}{g:Int->Int->Int}(rule:∀(i j:Int)(t u:Tok)(s:Shared)(Q:Value->Shared->Prop)(E:Value->Shared->Prop),Q (.int (g i j) s.toks) { s with toks:=s.toks+1 }->wpAny (model X.prog X.w) X.A (f (.int i t) (.int j u)) Q E s) :
  OpR X f (rI0 λi j=>.int (g i j)):=by
 intro qQ s σ H x y v u Q I rx ry h;obtain ⟨i,j,rfl,rfl,q⟩:=h;obtain ⟨t,rfl⟩:=rx;obtain ⟨t',rfl⟩:=ry;exact rule i j t t' s _ _ ⟨.int (g i j),H,I.tok _,⟨_,rfl⟩,q⟩
theorem Ze9 {f:Value->Value->Sem Value}{g:Int->Int->Bool}(rule:∀(i j:Int)(t u:Tok)(s:Shared)(Q:Value->Shared->Prop)(E:Value->Shared->Prop),Q (.bool (g i j)) s->wpAny (model X.prog X.w) X.A (f (.int i t) (.int j u)) Q E s) :
  OpR X f (rI0 λi j=>.bl (g i j)):=by
 intro qQ s σ H x y v u Q I rx ry h;obtain ⟨i,j,rfl,rfl,q⟩:=h;obtain ⟨t,rfl⟩:=rx;obtain ⟨t',rfl⟩:=ry;exact rule i j t t' s _ _ ⟨.bl (g i j),H,I,rfl,q⟩
def Zhe (i j:Int):Prop:=0<j/\j<1073741824
def Zhf (i j:Int):Prop:=0<=j/\j<=1000000/\i.natAbs<2 ^ 64
def CMul (i j:Int):Prop:=(-(2 ^ 64)<i/\i<2 ^ 64)\/(-(2 ^ 64)<j/\j<2 ^ 64)
theorem CMul.ok {i j:Int}(h:CMul i j):IntMulOk i j:=by
 rcases h with ⟨h1,h2⟩ | ⟨h1,h2⟩
 ·exact .of_left (intBits_le_64 h1 h2)
 ·exact .of_right (intBits_le_64 h1 h2)
theorem G7:OpR X (binaryOp .Add) (rI0 λi j=>.int (i+j)):=ZgA λ_ _ _ _ _ _ _ q=>add_int q
theorem UW:OpR X (binaryOp .Sub) (rI0 λi j=>.int (i-j)):=ZgA λ_ _ _ _ _ _ _ q=>sub_int q
theorem JS:OpR X (binaryOp .Mult) (rI CMul λi j=>.int (i * j)):=opI λ_ _ _ _ _ _ _ hc q=>mul_int q hc.ok
theorem UX:OpR X (binaryOp .Mod) (rI (λ_ j=>0<j) λi j=>.int (i % j)):=opI λi j _ _ _ _ _ hc q=>by
 have h1:(0:Int)<j:=hc;exact mod_int' (by lia) (by rw [Int.fmod_eq_emod_of_nonneg i (by lia)];exact q)
theorem ZdW:OpR X (binaryOp .Pow) (rI Zhf λi j=>.int (i ^ j.toNat)):=opI λ_ _ _ _ _ _ _ hc q=>pow_int_small hc.1 hc.2.1 hc.2.2 q
end
def ZgB:V->V->Bool
 | .non,.non=>true | .non,.int _=>true | .int _,.non=>true | .non,.bl _=>true | .bl _,.non=>true | .non,.str _=>true | .str _,.non=>true
 | .int _,.int _=>true | .bl _,.bl _=>true | .str _,.str _=>true | .byt _,.byt _=>true
 | .int _,.str _=>true | .str _,.int _=>true | .bl _,.str _=>true | .str _,.bl _=>true
 | _,_=>false
def rEq:R2:=λx y H Q=>ZgB x y=true/\Q (.bl (decide (x=y))) H
def rNe:R2:=λx y H Q=>ZgB x y=true/\Q (.bl (!decide (x=y))) H
theorem Y0 {i j:Int}:decide (V.int i=V.int j)=(i == j):=by
 rw [Bool.eq_iff_iff];simp
theorem ZbR {i j:Bool}:decide (V.bl i=V.bl j)=(i == j):=by
 rw [Bool.eq_iff_iff];simp
theorem Y1 {i j:Str}:decide (V.str i=V.str j)=(i == j):=by
 rw [Bool.eq_iff_iff];simp
theorem Y2 {i j:Array UInt8}:decide (V.byt i=V.byt j)=(i.toList == j.toList):=by
 rw [Bool.eq_iff_iff];cases i;cases j;simp
section
variable {X:Cx}{a b c:Expr}{ta tb tc:TE}{pos:Pos}
theorem GP {qQ:List (Addr×Obj)}{σ:St}{H:Hp}{s:Shared}{Q:VK}{k k':Bool}(I:Inv X qQ σ H s)(q:Q (.bl k) H)(e:k=k'):EP X qQ σ Q (.bool k') s:=by
 subst e;exact ⟨.bl k,H,I,rfl,q⟩
theorem UQ:OpR X (compareOp .Eq) rEq:=by
 intro qQ s σ H x y v u Q I rx ry h;obtain ⟨hs,q⟩:=h;cases x with
 | non=>
  cases rx;cases y with
  | non=>cases ry;exact PySem.EqNone.eq_none_none (GP I q (by simp))
  | bl j=>cases ry;exact PySem.EqNone.eq_none_bool (GP I q (by simp))
  | int j=>obtain ⟨t',rfl⟩:=ry;exact PySem.EqNone.eq_none_int (GP I q (by simp))
  | str j=>obtain ⟨t',rfl⟩:=ry;exact PySem.EqNone.eq_none_str (GP I q (by simp))
  | _=>exact absurd (show false=true from hs) Bool.false_ne_true
 | bl i=>
  cases rx;cases y with
  | non=>cases ry;exact PySem.EqNone.eq_bool_none (GP I q (by simp))
  | bl j=>cases ry;exact eq_bool (GP I q ZbR)
  | str j=>obtain ⟨t',rfl⟩:=ry;exact PySem.EqMixed.eq_bool_str (GP I q (by simp))
  | _=>exact absurd (show false=true from hs) Bool.false_ne_true
 | int i=>
  obtain ⟨t,rfl⟩:=rx;cases y with
  | non=>cases ry;exact PySem.EqNone.eq_int_none (GP I q (by simp))
  | int j=>obtain ⟨t',rfl⟩:=ry;exact eq_int (GP I q Y0)
  | str j=>obtain ⟨t',rfl⟩:=ry;exact PySem.EqMixed.eq_int_str (GP I q (by simp))
  | _=>exact absurd (show false=true from hs) Bool.false_ne_true
 | str i=>
  obtain ⟨t,rfl⟩:=rx;cases y with
  | non=>cases ry;exact PySem.EqNone.eq_str_none (GP I q (by simp))
  | bl j=>cases ry;exact PySem.EqMixed.eq_str_bool (GP I q (by simp))
  | int j=>obtain ⟨t',rfl⟩:=ry;exact PySem.EqMixed.eq_str_int (GP I q (by simp))
  | str j=>obtain ⟨t',rfl⟩:=ry;exact eq_str (GP I q Y1)
  | _=>exact absurd (show false=true from hs) Bool.false_ne_true
 | byt i=>
  obtain ⟨t,rfl⟩:=rx;cases y with
  | byt j=>obtain ⟨t',rfl⟩:=ry;exact W.eq_bytes (GP I q Y2)
  | _=>exact absurd (show false=true from hs) Bool.false_ne_true
 | _=>cases y <;> exact absurd (show false=true from hs) Bool.false_ne_true
theorem WU:OpR X (compareOp .NotEq) rNe:=by
 intro qQ s σ H x y v u Q I rx ry h;obtain ⟨hs,q⟩:=h;cases x with
 | non=>
  cases rx;cases y with
  | non=>cases ry;exact PySem.EqNone.ne_none_none (GP I q (by simp))
  | bl j=>cases ry;exact PySem.EqNone.ne_none_bool (GP I q (by simp))
  | int j=>obtain ⟨t',rfl⟩:=ry;exact PySem.EqNone.ne_none_int (GP I q (by simp))
  | str j=>obtain ⟨t',rfl⟩:=ry;exact PySem.EqNone.ne_none_str (GP I q (by simp))
  | _=>exact absurd (show false=true from hs) Bool.false_ne_true
 | bl i=>
  cases rx;cases y with
  | non=>cases ry;exact PySem.EqNone.ne_bool_none (GP I q (by simp))
  | bl j=>cases ry;exact ne_bool (GP I q (congrArg not ZbR))
  | str j=>obtain ⟨t',rfl⟩:=ry;exact PySem.EqMixed.ne_bool_str (GP I q (by simp))
  | _=>exact absurd (show false=true from hs) Bool.false_ne_true
 | int i=>
  obtain ⟨t,rfl⟩:=rx;cases y with
  | non=>cases ry;exact PySem.EqNone.ne_int_none (GP I q (by simp))
  | int j=>obtain ⟨t',rfl⟩:=ry;exact ne_int (GP I q (congrArg not Y0))
  | str j=>obtain ⟨t',rfl⟩:=ry;exact PySem.EqMixed.ne_int_str (GP I q (by simp))
  | _=>exact absurd (show false=true from hs) Bool.false_ne_true
 | str i=>
  obtain ⟨t,rfl⟩:=rx;cases y with
  | non=>cases ry;exact PySem.EqNone.ne_str_none (GP I q (by simp))
  | bl j=>cases ry;exact PySem.EqMixed.ne_str_bool (GP I q (by simp))
  | int j=>obtain ⟨t',rfl⟩:=ry;exact PySem.EqMixed.ne_str_int (GP I q (by simp))
  | str j=>obtain ⟨t',rfl⟩:=ry;exact ne_str (GP I q (congrArg not Y1))
  | _=>exact absurd (show false=true from hs) Bool.false_ne_true
 | byt i=>
  obtain ⟨t,rfl⟩:=rx;cases y with
  | byt j=>obtain ⟨t',rfl⟩:=ry;exact W.ne_bytes (GP I q (congrArg not Y2))
  | _=>exact absurd (show false=true from hs) Bool.false_ne_true
 | _=>cases y <;> exact absurd (show false=true from hs) Bool.false_ne_true
theorem Vk:OpR X (compareOp .Lt) (rI0 λi j=>.bl (decide (i<j))):=Ze9 λ_ _ _ _ _ _ _ q=>lt_int q
theorem Zcu:OpR X (compareOp .LtE) (rI0 λi j=>.bl (decide (i<=j))):=Ze9 λ_ _ _ _ _ _ _ q=>le_int q
theorem Zcv:OpR X (compareOp .Gt) (rI0 λi j=>.bl (decide (j<i))):=Ze9 λ_ _ _ _ _ _ _ q=>gt_int q
theorem ZaI:OpR X (compareOp .GtE) (rI0 λi j=>.bl (decide (j<=i))):=Ze9 λ_ _ _ _ _ _ _ q=>ge_int q
theorem ZdX:OpR X (compareOp .Is) (λx y H Q=>y=.non/\Q (.bl (decide (x=.non))) H):=by
 intro qQ s σ H x y v u Q I rx ry h;obtain ⟨rfl,q⟩:=h;cases ry;refine is_none_gen (GP I q ?_);cases x <;> first
  | (cases rx;rfl)
  | (obtain ⟨t,rfl⟩:=rx;rfl)
theorem Zcw:OpR X (compareOp .IsNot) (λx y H Q=>y=.non/\Q (.bl (!decide (x=.non))) H):=by
 intro qQ s σ H x y v u Q I rx ry h;obtain ⟨rfl,q⟩:=h;cases ry;refine isnot_none_gen (GP I q ?_);cases x <;> first
  | (cases rx;rfl)
  | (obtain ⟨t,rfl⟩:=rx;rfl)
theorem GE (b:Expr){op:CmpOp}(h:op≠.In:=by decide)(h2:op≠.NotIn:=by decide):behindInMarks op b=false:=by
 have e1:(op == CmpOp.In)=false:=by cases op <;> first | rfl | exact absurd rfl h
 have e2:(op == CmpOp.NotIn)=false:=by cases op <;> first | rfl | exact absurd rfl h2
 cases b <;> simp [behindInMarks,e1,e2]
theorem JJ {op:CmpOp}{r:R2}(ho:OpR X (compareOp op) r)(ha:PE X a ta)(hb:PE X b tb)(hm:behindInMarks op b=false):PE X (.Compare a [op] [b] pos) (tOp r ta tb):=by
 intro qQ s σ H Q I h;exact wpAny_Compare1 (Zfp ha hb I h λv u s2 x y H2 I2 rx ry q=>ho qQ s2 σ H2 x y v u Q I2 rx ry q) hm
def ZaJ (t:TE):TT:=λσ H Q=>t σ H λx H'=>∃k,x=.bl k/\Q k H'
theorem Gw {op:CmpOp}{r:R2}(ho:OpR X (compareOp op) r)(ha:PE X a ta)(hb:PE X b tb)(hm:behindInMarks op b=false):PT X (.Compare a [op] [b] pos) (ZaJ (tOp r ta tb)):=by
 intro qQ s σ H Q I h;refine wpAny_isTrue_Compare1 (thn (ha qQ s σ H _ I h) λv s1 ⟨x,H1,I1,r1,q1⟩=>thn (hb qQ s1 σ H1 _ I1 q1) λu s2 ⟨y,H2,I2,r2,q2⟩=>
  thn (ho qQ s2 σ H2 x y v u _ I2 r1 r2 q2) λc s3 ⟨z,H3,I3,r3,k,e,q3⟩=>?_) hm
 subst e;cases r3;exact wpAny_truthy_bool ⟨H3,I3,q3⟩
def ZbS (r r':R2)(ta tb tc:TE):TE:=λσ H Q=>ta σ H λx H1=>tb σ H1 λy H2=>r x y H2 λz H3=>∃k,z=.bl k /\
 (if k=true then tc σ H3 λw' H4=>r' y w' H4 Q else Q (.bl false) H3)
theorem ZaK {op op':CmpOp}{r r':R2}(ho:OpR X (compareOp op) r)(ho':OpR X (compareOp op') r')(ha:PE X a ta)(hb:PE X b tb)(hc:PE X c tc)(hm:lastMarks [op,op'] [b,c]=false:=by with_unfolding_all rfl):PE X (.Compare a [op,op'] [b,c] pos) (ZbS r r' ta tb tc):=by
 intro qQ s σ H Q I h;refine Compare_chain (thn (ha qQ s σ H _ I h) λv s1 ⟨x,H1,I1,r1,q1⟩=>chain_link (thn (hb qQ s1 σ H1 _ I1 q1) λu s2 ⟨y,H2,I2,r2,q2⟩=>
  thn (ho qQ s2 σ H2 x y v u _ I2 r1 r2 q2) λd s3 ⟨z,H3,I3,r3,k,e,q3⟩=>?_)) hm
 subst e;cases r3;refine wpAny_truthy_bool ?_;cases k with
 | false=>exact ite_ff ⟨.bl false,H3,I3,rfl,q3⟩
 | true=>exact ite_tt (chain_last (thn (hc qQ s3 σ H3 _ I3 q3) λw' s4 ⟨z',H4,I4,r4,q4⟩=>ho' qQ s4 σ H4 y z' u w' Q I4 r2 r4 q4))
theorem ZaL {op op':CmpOp}{r r':R2}(ho:OpR X (compareOp op) r)(ho':OpR X (compareOp op') r')(ha:PE X a ta)(hb:PE X b tb)(hc:PE X c tc)(hm:lastMarks [op,op'] [b,c]=false:=by with_unfolding_all rfl):PT X (.Compare a [op,op'] [b,c] pos) (ZaJ (ZbS r r' ta tb tc)):=by
 intro qQ s σ H Q I h;refine isTrue_chain (thn (ha qQ s σ H _ I h) λv s1 ⟨x,H1,I1,r1,q1⟩=>test_link (thn (hb qQ s1 σ H1 _ I1 q1) λu s2 ⟨y,H2,I2,r2,q2⟩=>
  thn (ho qQ s2 σ H2 x y v u _ I2 r1 r2 q2) λd s3 ⟨z,H3,I3,r3,k,e,q3⟩=>?_)) hm
 subst e;cases r3;refine wpAny_truthy_bool ?_;cases k with
 | false=>
  obtain ⟨k',e',q'⟩:=q3;cases e';exact ite_ff ⟨H3,I3,q'⟩
 | true=>
  refine ite_tt (test_last (thn (hc qQ s3 σ H3 _ I3 q3) λw' s4 ⟨z',H4,I4,r4,q4⟩=>thn (ho' qQ s4 σ H4 y z' u w' _ I4 r2 r4 q4) λd' s5 ⟨z2,H5,I5,r5,k2,e2,q5⟩=>?_));subst e2;cases r5;exact wpAny_truthy_bool ⟨H5,I5,q5⟩
def ZgC (K:W.Frag)(x:V)(H:Hp)(k:Bool):Prop:=
 match x with
 | .non=>k=false
 | .bl b=>k=b
 | .int i=>k=(i != 0)
 | .str y=>y.length<=sizeLine/\k=((y.length:Int) != 0)
 | .byt y=>y.size<=sizeLine/\k=((y.size:Int) != 0)
 | .ref p=>(∃xs,SqL K H p xs/\k=!xs.isEmpty)\/(∃xs,SqT K H p xs/\k=!xs.isEmpty)\/∃kvs,H p=some (.dK kvs)/\k=!kvs.isEmpty
 | _=>False
theorem UY {κ:Type}{kvs:List (κ×V)}{vs:List (κ×Value)}(r:KV kvs vs):(!vs.isEmpty)=!kvs.isEmpty:=by
 cases r <;> rfl
theorem OW {xs:List V}{its:List Value}(r:Vals xs its):(!its.toArray.isEmpty)=!xs.isEmpty:=by
 cases r <;> simp
theorem Uc:(sizeLine:Nat)<2 ^ 63:=by rw [sizeLine_eq];decide
theorem ZdY:Zhd X (λx H Q=>∃k,ZgC X.K x H k/\Q k H):=by
 intro qQ s σ H x v Q I rx h;obtain ⟨k,e,q⟩:=h;have hl:=Uc;have hs:sizeLine=16777216:=sizeLine_eq;cases x with
 | non=>
  cases rx;have e':k=false:=e;subst e';exact truthy_none ⟨H,I,q⟩
 | bl b=>
  cases rx;have e':k=b:=e;subst e';exact wpAny_truthy_bool ⟨H,I,q⟩
 | int i=>
  obtain ⟨t,rfl⟩:=rx;have e':k=(i != 0):=e;subst e';exact PySem.P.truthy_int ⟨H,I,q⟩
 | str y=>
  obtain ⟨t,rfl⟩:=rx;obtain ⟨hy,e'⟩:y.length<=sizeLine/\k=((y.length:Int) != 0):=e;subst e';exact PySem.P.truthy_str (by lia) ⟨H,I.tok _,q⟩
 | byt y=>
  obtain ⟨t,rfl⟩:=rx;obtain ⟨hy,e'⟩:y.size<=sizeLine/\k=((y.size:Int) != 0):=e;subst e';exact W.truthy_bytes (by lia) ⟨H,I.tok _,q⟩
 | ref p=>
  cases rx;have e':(∃xs,SqL X.K H p xs/\k=!xs.isEmpty)\/(∃xs,SqT X.K H p xs/\k=!xs.isEmpty)\/∃kvs,H p=some (.dK kvs)/\k=!kvs.isEmpty:=e;rcases e' with ⟨xs,hx,e'⟩ | ⟨xs,hx,e'⟩ | ⟨kvs,hx,e'⟩
  ·subst e';obtain ⟨its,r,pl,hz⟩:=I.list hx;have qV:=r.length;exact wpAny_truthy_list pl.isList (by simp only [List.size_toArray];lia) ⟨H,I.tok _,by rw [OW r];exact q⟩
  ·subst e';obtain ⟨its,r,pl,hz⟩:=I.tuple hx;have qV:=r.length;exact truthy_tuple pl (by simp only [List.size_toArray];lia) ⟨H,I.tok _,by rw [OW r];exact q⟩
  ·subst e';obtain ⟨hz,hS,vs,r,m⟩:kvs.length<=sizeLine/\(p == sysModules)=false/\∃vs,KV kvs vs/\s.heap.DictOf (GM X.prog X.w) p vs:=I.hok p _ hx;have qV:kvs.length=vs.length:=Paired.length r;exact wpAny_truthy_dict hS m (by lia) ⟨H,I.tok _,by rw [UY r];exact q⟩
 | _=>exact (show False from e).elim
theorem Ju (ha:PE X a ta)(he:∀whole,isTrue a X.env whole=(do let v <- whole;standAt a.pos;holding [v] (truthy v))) :
  PT X a (λσ H Q=>ta σ H λx H'=>∃k,ZgC X.K x H' k/\Q k H'):=by
 intro qQ s σ H Q I h;exact isTrue_plain (thn (ha qQ s σ H _ I h) λv s1 ⟨x,H1,I1,r1,q1⟩=>ZdY qQ s1 σ H1 x v Q I1 r1 q1) (he _)
theorem Zcx {x:V}{us:List Value}(r:Vals [x] us):∃u,us=[u]/\RelV x u:=by
 cases r with
 | cons r1 r2=>cases r2;exact ⟨_,rfl,r1⟩
theorem Zcy {x y:V}{us:List Value}(r:Vals [x,y] us):∃u w',us=[u,w']/\RelV x u/\RelV y w':=by
 cases r with
 | cons r1 r2=>
  cases r2 with
  | cons r3 r4=>cases r4;exact ⟨_,_,rfl,r1,r3⟩
theorem Y3 (hc:X.calm=true):JC X (.builtin "max") (λxs H Q=>∃i j,xs=[.int i,.int j]/\Q (.int (if j > i then j else i)) H):=by
 intro qQ s σ H xs us Q I r h;obtain ⟨i,j,rfl,q⟩:=h;obtain ⟨u,w',rfl,⟨t,rfl⟩,⟨t',rfl⟩⟩:=Zcy r;refine max_two_ints (I.ok.hd hc) λh' tk k=>⟨_,H,I.kept k,?_,q⟩;by_cases hj:j > i
 ·rw [if_pos hj,if_pos hj];exact ⟨_,rfl⟩
 ·rw [if_neg hj,if_neg hj];exact ⟨_,rfl⟩
theorem Y4 (hc:X.calm=true):JC X (.builtin "min") (λxs H Q=>∃i j,xs=[.int i,.int j]/\Q (.int (if j<i then j else i)) H):=by
 intro qQ s σ H xs us Q I r h;obtain ⟨i,j,rfl,q⟩:=h;obtain ⟨u,w',rfl,⟨t,rfl⟩,⟨t',rfl⟩⟩:=Zcy r;refine min_two_ints (I.ok.hd hc) λh' tk k=>⟨_,H,I.kept k,?_,q⟩;by_cases hj:j<i
 ·rw [if_pos hj,if_pos hj];exact ⟨_,rfl⟩
 ·rw [if_neg hj,if_neg hj];exact ⟨_,rfl⟩
theorem Uw:JC X (.builtin "divmod") (λxs H Q=>∃i j,xs=[.int i,.int j]/\Zhe i j/\∀p,H p=none->Q (.ref p) (upd H p (.tup [.int (i / j),.int (i % j)]))):=by
 intro qQ s σ H xs us Q I r h;obtain ⟨i,j,rfl,⟨h1,h2⟩,q⟩:=h;obtain ⟨u,w',rfl,⟨t,rfl⟩,⟨t',rfl⟩⟩:=Zcy r;refine divmod_int (by lia) ?_ (.inl (PyProof.noPylong_small (by lia)));rw [Int.fdiv_eq_ediv_of_nonneg i (by lia),Int.fmod_eq_emod_of_nonneg i (by lia)];have hn:H s.heap.objs.size=none:=I.hok.fresh (Nat.le_refl _);refine ⟨.ref s.heap.objs.size,_,?_,rfl,q _ hn⟩;refine I.laid (λb o e=>Heap.get?_push_of_some _ e) (Nat.le_refl _) ⟨by simp only [List.length_cons,List.length_nil];rw [sizeLine_eq];decide,[.int (i / j) s.toks,.int (i % j) (s.toks+1)],.cons ⟨_,rfl⟩ (.cons ⟨_,rfl⟩ .nil),?_⟩;exact ⟨_,Heap.get?_push_size s.heap rfl,rfl,0,rfl⟩
end
end L2
namespace L2
open PySem PySem.Spec PyProof.Rows
theorem RelO.some_of {v:V}{o:Option Value}(r:RelO (some v) o):∃u,o=some u/\RelV v u:=by
 cases o with
 | none=>exact (show False from r).elim
 | some u=>exact ⟨u,rfl,r⟩
end L2
namespace L2
open PySem PySem.Spec PyProof.Rows
structure Room (k:Nat)(A:Around):Prop where
 hd:A.handled=none
 dp:A.depth+3 * k+5<recursionLimit
 un:A.units+16 * k+200<cLine
theorem Room.mono {j k:Nat}{A:Around}(r:Room k A)(h:j<=k):Room j A:=⟨r.hd,by have:=r.dp;lia,by have:=r.un;lia⟩
theorem Room.deeper {k:Nat}{A:Around}(r:Room (k+1) A)(env:Env):Room k (A.deeper env):=
 ⟨r.hd,by have:=r.dp;show A.depth+1+3 * k+5<_;lia,by have:=r.un;show A.units+3+16 * k+200<_;lia⟩
theorem Room.depth {k:Nat}{A:Around}(r:Room k A):A.depth<recursionLimit:=by have:=r.dp;lia
theorem Room.units {k:Nat}{A:Around}(r:Room k A):A.units+64<cLine:=by have:=r.un;lia
def ZdZ:TA:=λ_ H Q=>Q [] H
def Y5 (ta:TE)(tr:TA):TA:=λσ H Q=>ta σ H λx H1=>tr σ H1 λxs H2=>Q (x::xs) H2
section
variable {X:Cx}{e:Expr}{es:List Expr}{te:TE}{t:TA}{pos:Pos}
theorem Ge:PA X [] ZdZ:=λ_ _ _ _ H Q I h=>Calls.spliced_nil ⟨[],H,I,.nil,h⟩
theorem Ga (ha:PE X e te)(hr:PA X es t)(hs:starEach (e::es) X.env=(false,eval e X.env)::starEach es X.env:=by rfl):PA X (e::es) (Y5 te t):=by
 intro pos qQ s σ H Q I h;rw [hs];show wpAny _ _ (spliced ((false,eval e X.env)::backTo pos (starEach es X.env))) _ _ s;refine Calls.spliced_cons (thn (ha qQ s σ H _ I h) λu s1 ⟨x,H1,I1,r1,q1⟩=>?_);exact thn (hr pos qQ s1 σ H1 _ I1 q1) λus s2 ⟨xs,H2,I2,r2,q2⟩=>⟨x::xs,H2,I2,.cons r1 r2,q2⟩
def ZgD (t:TA):TE:=λσ H Q=>t σ H λxs H1=>xs.length<=sizeLine/\∀p,H1 p=none->Q (.ref p) (upd H1 p (.tup xs))
def Zhg (t:TA):TE:=λσ H Q=>t σ H λxs H1=>xs.length<=sizeLine/\∀p,H1 p=none->Q (.ref p) (upd H1 p (.lst xs))
theorem Jo {x1}(h:PA X es t):PE X (.Tuple es x1 pos) (ZgD t):=by
 intro qQ s σ H Q I hq;refine wpAny_Tuple_spliced (thn (h pos qQ s σ H _ I hq) λus s1 ⟨xs,H1,I1,r,z,q⟩=>⟨by rw [<-r.length];exact z,?_⟩);have hf:H1 s1.heap.objs.size=none:=I1.hok.fresh (Nat.le_refl _);refine ⟨.ref s1.heap.objs.size,upd H1 s1.heap.objs.size (.tup xs),I1.laid (t':=s1.toks) (λb u e=>Heap.get?_push_of_some _ e) (Nat.le_refl _) ?_,rfl,q _ hf⟩;exact ⟨z,us,r,⟨_,Heap.get?_push_size _ rfl,rfl,_,rfl⟩⟩
theorem Jd (h:PA X es t):PE X (.List es pos) (Zhg t):=by
 intro qQ s σ H Q I hq;refine wpAny_List_spliced (thn (h pos qQ s σ H _ I hq) λus s1 ⟨xs,H1,I1,r,z,q⟩=>⟨by rw [<-r.length];exact z,?_⟩);have hf:H1 s1.heap.objs.size=none:=I1.hok.fresh (Nat.le_refl _);refine ⟨.ref s1.heap.objs.size,upd H1 s1.heap.objs.size (.lst xs),I1.laid (t':=s1.toks) (λb u e=>Heap.get?_push_of_some _ e) (Nat.le_refl _) ?_,rfl,q _ hf⟩;exact ⟨z,us,0,r,Heap.get?_push_size _ rfl⟩
end
abbrev Sp:=List V->Hp->VK->XK->Prop
abbrev CXT:=List Env->Hp->Shared->XK->Value->Shared->Prop
structure Zfa (P:Program)(w:World)(K:W.Frag)(mg:Str->Option Value)(base:Heap)(A:Around)(outer:List Env)(s:Shared)(H:Hp):Prop where
 frames:A.frames=some outer
 mod:Mod K mg base
 bs:∀b o,base.get? b=some o->s.heap.get? b=some o/\H b=none
 bsz:base.objs.size<=s.heap.objs.size
 funs:s.heap.FunFrames base outer
 frf:∀b∈frs outer,H b=none
 hok:HOk P w H s.heap
 bare:AllBare s.gens
def CE (outer:List Env)(P:Program)(w:World)(H:Hp)(s:Shared)(Q:VK)(u:Value)(s':Shared):Prop:=
 ∃v H',s'.os=s.os/\AllBare s'.gens/\Un (frs outer) [] H H' s.heap s'.heap/\HOk P w H' s'.heap/\RelV v u/\Q v H'
def CR (CX:CXT)(outer:List Env)(P:Program)(w:World)(H:Hp)(s:Shared)(Q:VK)(E:XK)(r:Result)(s':Shared):Prop:=
 match r with
 | .ok (.ret u)=>CE outer P w H s Q u s'
 | .ok _=>False
 | .error e=>CX outer H s E e s'
structure GG (P:Program)(w:World)(K:W.Frag)(mg:Str->Option Value)(base:Heap)(CX:CXT)(k:Nat)(f:Addr)(fd:FuncData)(ps:List Str)(sp:Sp):Prop where
 len:∀vs H Q E,sp vs H Q E->vs.length=ps.length
 run:∀(A:Around)(outer:List Env)(s:Shared)(H:Hp)(args:Args)(us:List Value)(vs:List V)(Q:VK)(E:XK),Room k A->Zfa P w K mg base A outer s H->BindsTo s fd args (ps.zip us)->Vals vs us->sp vs H Q E ->
  codeAny (model P w) A (.call (.ref f) args) (CR CX outer P w H s Q E) s
section
variable {X:Cx}{qQ:List (Addr×Obj)}{σ:St}{H:Hp}{s s':Shared}
theorem Inv.env0 (I:Inv X qQ σ H s):Zfa X.prog X.w X.K X.mg X.base X.A X.stack s H:=
 ⟨I.ok.frames,I.ok.mod,I.bs,Nat.le_trans I.ok.bsz I.sz,I.stack,I.stkFree,I.hok,I.bare⟩
theorem Inv.after {Q:VK}{u:Value}(I:Inv X qQ σ H s)(h:CE X.stack X.prog X.w H s Q u s'):EP X qQ σ Q u s':=by
 obtain ⟨v,H',os,bare,un,hok,r,q⟩:=h;obtain ⟨hh,g,d,t,os'⟩:=s';obtain rfl:os'=s.os:=os;exact ⟨v,H',I.call (h':=hh) (g':=g) (d':=d) (t':=t) (ch:=[]) un hok bare (λb z=>absurd z (by simp)),r,q⟩
end
def Zfq (sp:Sp)(dvs:List V)(E:XK)(t:TA):TE:=λσ H Q=>t σ H λvs H1=>sp (vs++dvs) H1 Q E
def Binds (K:W.Frag)(fd:FuncData)(ps:List Str)(ds:List Value):Prop:=
 ∀(s:Shared)(us:List Value),K.In s.heap->(us++ds).length=ps.length->BindsTo s fd ⟨us,[]⟩ (ps.zip (us++ds))
theorem Binds.all {K:W.Frag}{fd:FuncData}{ps:List Str}(h:∀us:List Value,us.length=ps.length->bindArgs fd ⟨us,[]⟩=pure (ps.zip us)):Binds K fd ps []:=λs us _ hl=>by
 rw [List.append_nil] at hl ⊢;exact .of_eq (h us hl)
def V3 (CX:CXT)(X:Cx)(E:XK):Prop:=∀(qQ:List (Addr×Obj))(σ:St)(H:Hp)(s:Shared)(e:Value)(s':Shared),Inv X qQ σ H s->CX X.stack H s E e s'->X.xe e s'
section
variable {X:Cx}{CX:CXT}{k:Nat}{f C:Addr}{fd:FuncData}{ps:List Str}{sp:Sp}{dvs:List V}{ds:List Value}{E:XK}{x m:Str}{p pos apos:Pos}{e o:Expr}{es:List Expr}{ta:TE}{t:TA}
theorem Zd0 {qQ:List (Addr×Obj)}{σ:St}{H:Hp}{s:Shared}{Q:VK}{us:List Value}{vs:List V}(F:GG X.prog X.w X.K X.mg X.base CX k f fd ps sp)(hr:Room k X.A)(hb:Binds X.K fd ps ds)(hd:Vals dvs ds)(hx:V3 CX X E)(I:Inv X qQ σ H s)(r:Vals vs us)(h:sp (vs++dvs) H Q E):wpAny (model X.prog X.w) X.A (call (.ref f) us) (EP X qQ σ Q) X.xe s:=by
 have r2:Vals (vs++dvs) (us++ds):=r.append hd;have hl:(us++ds).length=ps.length:=by rw [<-r2.length];exact F.len _ _ _ _ h
 refine wpAny_call (codeAny_mono (F.run X.A X.stack s H ⟨us,[]⟩ (us++ds) (vs++dvs) Q E hr I.env0 (hb s us I.kIn hl) r2 h) λr s' hq=>?_);cases r with
 | error e=>exact hx qQ σ H s e s' I hq
 | ok fl=>
  cases fl with
  | ret u=>exact I.after hq
  | next=>exact False.elim hq
  | brk=>exact False.elim hq
  | cont=>exact False.elim hq
theorem Gh (F:GG X.prog X.w X.K X.mg X.base CX k f fd ps sp)(hr:Room k X.A)(hg:Gl X x)(hm:X.mg x=some (.ref f))(hk:W.keepIn X.K (.ref f)=true)(hb:Binds X.K fd ps ds)(hd:Vals dvs ds)(hx:V3 CX X E)(ha:PA X (e::es) t)(hdb:(x == ("__debug__" : Str))=false:=by decide)(he:starEach (e::es) X.env=(false,eval e X.env)::starEach es X.env:=by rfl)(hpl:(backTo pos (starEach es X.env)).any (·.1)=false:=by rfl) :
  PE X (.Call (.Name x p) (e::es) [] pos) (Zfq sp dvs E t):=by
 intro qQ s σ H Q I h;refine wpAny_Call_Name_kw (WT I hg hm ?_ hdb);refine W.callWith_K (h₀:=X.base) I.ok.mod.kin hk (thn (ha pos qQ s σ H _ I h) λus s1 ⟨vs,H1,I1,r,q⟩=>⟨I1.kIn,?_⟩) he hpl;exact Zd0 F hr hb hd hx I1 r q
end
def PK (X:Cx)(kws:List Keyword)(t:TA):Prop:=
 ∀(pos:Pos)(qQ:List (Addr×Obj))(s:Shared)(σ:St)(H:Hp)(Q:List V->Hp->Prop),Inv X qQ σ H s->t σ H Q->wpAny (model X.prog X.w) X.A (evalAll ((backToKw pos (keywordEach kws X.env)).map (·.2))) (AP X qQ σ Q) X.xe s
section
variable {X:Cx}{CX:CXT}{k:Nat}{f C:Addr}{fd:FuncData}{ps ks:List Str}{sp:Sp}{E:XK}{x m:Str}{p pos apos kpos:Pos}{e o:Expr}{es:List Expr}{kws:List Keyword}{te ta:TE}{t tk:TA}{nm:Option Str}
theorem Zd1:PK X [] ZdZ:=λ_ _ _ _ H Q I h=>wpAny_evalAll_nil ⟨[],H,I,.nil,h⟩
theorem Zcz (ha:PE X e te)(hr:PK X kws t):PK X (⟨nm,e,kpos⟩::kws) (Y5 te t):=by
 intro pos qQ s σ H Q I h;show wpAny _ _ (evalAll ((do let v <- eval e X.env;standAt pos;pure v)::(backToKw pos (keywordEach kws X.env)).map (·.2))) _ _ s;refine wpAny_evalAll_cons (wpAny_bind (thn (ha qQ s σ H _ I h) λu s1 ⟨x,H1,I1,r1,q1⟩=>wpAny_bind (wpAny_standAt (wpAny_pure ?_))));exact thn (hr pos qQ s1 σ H1 _ I1 q1) λus s2 ⟨xs,H2,I2,r2,q2⟩=>⟨x::xs,H2,I2,.cons r1 r2,q2⟩
variable {g:List Value->List Value->List Value}{gV:List V->List V->List V}
end
structure Gr (N P:List Str)(sc:Scope):Prop where
 kind:sc.kind=.function
 co:sc.isCoroutine=false
 gen:sc.isGenerator=false
 nd:N.Nodup
 pre:N.take P.length=P
 par:∀x∈P,sc.names.lookup x=some .local\/sc.names.lookup x=some .cell
 nofree:∀y∈sc.names,y.2≠.free
theorem V4 {kindOf:Str->Option NameKind}{x:Str}:∀{binds:List (Str×Value)}{m:Str->Option Value},(∀v,(x,v) ∉ binds)->bindL kindOf binds m x=m x
 | [],_,_=>rfl
 | (n,v)::r,m,h=>by
  unfold bindL;rw [V4 λw hw=>h w (List.mem_cons_of_mem _ hw)];split
  ·have:x≠n:=by rintro rfl;exact h v List.mem_cons_self
   simp [this]
  ·rfl
theorem V5 {kindOf:Str->Option NameKind}{x:Str}:∀{binds:List (Str×Value)}{m:Str->Option Value},(∀v,(x,v) ∉ binds)->bindC kindOf binds m x=m x
 | [],_,_=>rfl
 | (n,v)::r,m,h=>by
  unfold bindC;rw [V5 λw hw=>h w (List.mem_cons_of_mem _ hw)];split
  ·rfl
  ·have:x≠n:=by rintro rfl;exact h v List.mem_cons_self
   simp [this]
theorem V6 {kindOf:Str->Option NameKind}{x:Str}{v:Value}:∀{P:List Str}{vs:List Value}{i:Nat}{m:Str->Option Value},P.Nodup->P[i]?=some x->vs[i]?=some v->kindOf x=some .local ->
  bindL kindOf (P.zip vs) m x=some v
 | [],_,_,_,_,h,_,_=>by simp at h
 | _::_,[],_,_,_,_,h,_=>by simp at h
 | p::P,w::vs,0,m,nd,h1,h2,hk=>by
  simp at h1 h2;subst h1;subst h2;show bindL kindOf ((p,w)::P.zip vs) m p=_;unfold bindL;rw [V4 λv hv=>(List.nodup_cons.mp nd).1 (List.of_mem_zip hv).1,if_pos hk];simp
 | p::P,w::vs,i+1,m,nd,h1,h2,hk=>by
  show bindL kindOf ((p,w)::P.zip vs) m x=_;unfold bindL;exact V6 (i:=i) (List.nodup_cons.mp nd).2 (by simpa using h1) (by simpa using h2) hk
theorem V7 {kindOf:Str->Option NameKind}{x:Str}{v:Value}:∀{P:List Str}{vs:List Value}{i:Nat}{m:Str->Option Value},P.Nodup->P[i]?=some x->vs[i]?=some v->kindOf x≠some .local ->
  bindC kindOf (P.zip vs) m x=some v
 | [],_,_,_,_,h,_,_=>by simp at h
 | _::_,[],_,_,_,_,h,_=>by simp at h
 | p::P,w::vs,0,m,nd,h1,h2,hk=>by
  simp at h1 h2;subst h1;subst h2;show bindC kindOf ((p,w)::P.zip vs) m p=_;unfold bindC;rw [V5 λv hv=>(List.nodup_cons.mp nd).1 (List.of_mem_zip hv).1,if_neg hk];simp
 | p::P,w::vs,i+1,m,nd,h1,h2,hk=>by
  show bindC kindOf ((p,w)::P.zip vs) m x=_;unfold bindC;exact V7 (i:=i) (List.nodup_cons.mp nd).2 (by simpa using h1) (by simpa using h2) hk
def start (N:List Str)(vs:List V):St:=vs.map some++List.replicate (N.length-vs.length) none
def Y6 (CX:CXT)(P:Program)(w:World)(K:W.Frag)(mg:Str->Option Value)(base:Heap)(N:List Str)(qual:Str)(scope:Scope)(f:Addr)(cd:Value)(A:Around)(outer:List Env)(s:Shared)(H:Hp)(E:XK):Cx where
 prog:=P
 w:=w
 K:=K
 mg:=mg
 base:=base
 A:=A.deeper (envOfC qual scope s.heap.objs.size f cd)
 N:=N
 s₀:=s
 H₀:=H
 env:=envOfC qual scope s.heap.objs.size f cd
 outer:=outer
 stack:=envOfC qual scope s.heap.objs.size f cd::outer
 ex:=[]
 calm:=true
 fn:=λ_=>true
 pn:=[]
 xe:=λe s'=>wpAny (model P w) (A.deeper (envOfC qual scope s.heap.objs.size f cd)) (leaving (envOfC qual scope s.heap.objs.size f cd) e) (λ_ s''=>CX outer H s E e s'') (λe' s''=>CX outer H s E e' s'') s'
theorem XC {sc:Scope}{n:Nat}{x:Str}(h:sc.names.lookup x=some .cell):∃c,(cellsFrom n sc.names []).lookup x=some c:=by
 have q:=W.cellsFrom_some sc.names n [] (.inl h);exact Option.isSome_iff_exists.mp q
theorem Y7 {CX:CXT}{P:Program}{w:World}{K:W.Frag}{mg:Str->Option Value}{base:Heap}{N ps:List Str}{qual:Str}{scope:Scope}{f:Addr}{cd:Value}{A:Around}{outer:List Env}{s s1:Shared}{H:Hp}{E:XK}{us:List Value}{vs:List V}(S:Gr N ps scope)(hd:A.handled=none)(e0:Zfa P w K mg base A outer s H)(hl:vs.length=ps.length)(r:Vals vs us)(x:InCallC s s.heap.objs.size (bindL (envOfC qual scope s.heap.objs.size f cd).kindOf (ps.zip us) λ_=>none) (cellsFrom (s.heap.objs.size+1) scope.names []) (bindC (envOfC qual scope s.heap.objs.size f cd).kindOf (ps.zip us) λ_=>none) s1) :
  Inv (Y6 CX P w K mg base N qual scope f cd A outer s H E) [] (start N vs) H s1:=by
 have hpl:ps.length<=N.length:=by have:=congrArg List.length S.pre;rw [List.length_take] at this;lia
 obtain ⟨h1,tk,rfl,hk⟩:=x.done;have noA:∀b:Addr,b ∉ (Y6 CX P w K mg base N qual scope f cd A outer s H E).ex:=λb z=>absurd (show b∈([]:List Addr) from z) (by simp);refine ⟨⟨e0.mod,S.kind,rfl,rfl,Nat.le_refl _,λy z c h1 h2=>?_,λy hy=>?_,λy c _ h=>?_,λ_=>hd,Around.frames_deeper e0.frames,.inr ⟨rfl,rfl⟩,λb z=>absurd z (noA b),e0.bs,e0.bsz,λb _ _=>noA b,λb z=>absurd z (noA b),e0.funs,e0.frf⟩,
  rfl,e0.bare,Un.kept hk,⟨_,x.toInCall.ns,λi y v h1 h2 h3=>?_⟩,λy c h=>⟨_,x.cell y c h⟩,e0.hok.fresh (Nat.le_refl _),λy c h=>?_,λp hp=>absurd (show p∈([]:List (Addr×Obj)) from hp) (by simp),e0.hok.kept hk,?_⟩
 ·exact name_of_addr x.apart (PySem.mem_of_lookup h1) (PySem.mem_of_lookup h2)
 ·have hy:scope.names.lookup y=some .cell\/scope.names.lookup y=some .free:=hy;rcases hy with hy | hy
  ·exact XC hy
  ·exact absurd rfl (S.nofree _ (PySem.mem_of_lookup hy))
 ·exact Nat.le_of_lt (x.above y c (PySem.mem_of_lookup h))
 ·have hi:i<vs.length:=by
   unfold start at h2;by_cases hi:i<vs.length
   ·exact hi
   ·rw [List.getElem?_append_right (by simpa using hi)] at h2;rw [List.getElem?_replicate] at h2;split at h2 <;> cases h2
  have ha:vs[i]?=some v:=by
   unfold start at h2;rw [List.getElem?_append_left (by simpa using hi),List.getElem?_map] at h2;cases e:vs[i]? with
   | none=>rw [e] at h2;cases h2
   | some a=>rw [e] at h2;cases h2;rfl
  obtain ⟨u,hu,rv⟩:=r.get ha;have hp:ps[i]?=some y:=by
   rw [<-S.pre,List.getElem?_take_of_lt (by lia)];exact h1
  have ndP:ps.Nodup:=by rw [<-S.pre];exact S.nd.sublist (List.take_sublist _ _)
  refine ⟨u,rv,?_⟩;rcases S.par y (List.mem_of_getElem? hp) with k | k
  ·exact .inl ⟨k,V6 ndP hp hu k⟩
  ·obtain ⟨c,e⟩:=XC (n:=s.heap.objs.size+1) k;refine .inr ⟨.inl k,c,e,?_⟩;have q:=x.cell y c e;rw [V7 ndP hp hu (by show scope.names.lookup y≠_;rw [k];decide)] at q;exact q
 ·exact e0.hok.fresh (Nat.le_of_lt (x.above y c (PySem.mem_of_lookup h)))
 ·unfold start;show _=N.length;rw [List.length_append,List.length_map,List.length_replicate]
  lia
theorem ZcA {CX:CXT}{P:Program}{w:World}{K:W.Frag}{mg:Str->Option Value}{base:Heap}{k:Nat}{f:Addr}{name qual:Str}{params:Arguments}{body:List Stmt}{scope:Scope}{dV kV doc pm cdv ct oc:Value}{an od:Option Addr}{osl:Array (Option Value)}{N ps:List Str}{sp:Sp}(lk:K.lookup f=some ⟨oc,od,.func (W.fnOf name qual params body scope dV kV doc pm an cdv ct),osl⟩)(hcd:W.codeIn K cdv qual=true)(S:Gr N ps scope)(len:∀vs H Q E,sp vs H Q E->vs.length=ps.length)(qG:∀(A:Around)(outer:List Env)(s:Shared)(H:Hp)(vs:List V)(Q:VK)(E:XK),Room k (A.deeper (envOfC qual scope s.heap.objs.size f cdv))->sp vs H Q E ->
   ∃t,PSs (Y6 CX P w K mg base N qual scope f cdv A outer s H E) body t/\t { nx:=λ_ H'=>Q .non H',rt:=Q } (start N vs) H) :
  GG P w K mg base CX (k+1) f (W.fnOf name qual params body scope dV kV doc pm an cdv ct) ps sp:=by
 refine ⟨len,λA outer s H args us vs Q E hr e0 hb r hsp=>?_⟩;have hl:=len _ _ _ _ hsp;have KX:K.In s.heap:=e0.mod.kin.keeps λb o e=>(e0.bs b o e).1;have lim:s.heap.NoLimit:=e0.mod.nolimit.keeps λb o e=>(e0.bs b o e).1;have hkind:∀y∈ps.zip us,scope.names.lookup y.1=some .local\/(scope.names.lookup y.1=some .cell/\((cellsFrom (s.heap.objs.size+1) scope.names []).lookup y.1).isSome=true):=λ⟨n,v⟩ hy=>by
  rcases S.par n (List.of_mem_zip hy).1 with q | q
  ·exact .inl q
  ·exact .inr ⟨q,W.cellsFrom_some _ _ _ (.inl q)⟩
 refine codeAny_call_function hr.depth (KX _ _ lk) rfl S.co S.gen rfl (W.codeRec_of KX hcd) (hb _ _ _ _ ?_);refine wpAny_newFunctionEnv_cells S.kind hkind λenv he s1 x=>?_;subst he;refine ⟨lim.keeps x.toInCall.keep,codeAny_func ?_⟩;obtain ⟨t,ht,hq⟩:=qG A outer s H vs Q E (hr.deeper _) hsp;have I:Inv (Y6 CX P w K mg base N qual scope f cdv A outer s H E) [] (start N vs) H s1:=Y7 S hr.hd e0 hl r x;refine wpAny_mono (ht [] s1 (start N vs) H _ I hq) (λfl s' hs=>?_) λe s' hs=>hs;have fin:∀{σ':St}{H':Hp}{v:V}{u:Value},Inv (Y6 CX P w K mg base N qual scope f cdv A outer s H E) [] σ' H' s'->RelV v u->Q v H'->CE outer P w H s Q u s':=
  λ{σ' H' v u} J rv q=>⟨v,H',J.os,J.bare,J.base,J.hok,rv,q⟩
 cases fl with
 | ret u=>
  obtain ⟨v,σ',H',J,rv,q⟩:=hs;exact fin J rv q
 | next=>
  obtain ⟨σ',H',J,q⟩:=hs;exact fin (v:=V.non) (u:=Value.none) J rfl q
 | brk=>
  obtain ⟨_,_,_,q⟩:=hs;exact False.elim q
 | cont=>
  obtain ⟨_,_,_,q⟩:=hs;exact False.elim q
end L2
namespace L2
open PySem PySem.Spec PyProof.Rows
section
variable {X:Cx}{x:Str}{p pos:Pos}{e:Expr}{es:List Expr}{t:TA}{id T:String}{r:List V->Hp->VK->Prop}
def tCB (r:List V->Hp->VK->Prop)(t:TA):TE:=λσ H Q=>t σ H λvs H1=>r vs H1 Q
theorem Gz (hc:JC X (.builtin id) r)(hg:Gl X x)(hm:X.mg x=none)(hv:bootBuiltins x=some (.builtin id))(ha:PA X (e::es) t)(hn:x ≠ "__name__" := by decide)(hdb:(x == ("__debug__" : Str))=false:=by decide)(he:starEach (e::es) X.env=(false,eval e X.env)::starEach es X.env:=by rfl)(hpl:(backTo pos (starEach es X.env)).any (·.1)=false:=by rfl):PE X (.Call (.Name x p) (e::es) [] pos) (tCB r t):=by
 intro qQ s σ H Q I h;refine wpAny_Call_Name_kw (Ua I hg hm hv ?_ hn hdb);exact PyProof.Rows.callWith_builtin1 (thn (ha pos qQ s σ H _ I h) λus s1 ⟨vs,H1,I1,r1,q1⟩=>hc qQ s1 σ H1 vs us Q I1 r1 q1) he hpl
theorem Jp (hc:JC X (.type T) r)(hg:Gl X x)(hm:X.mg x=none)(hv:bootBuiltins x=some (.type T))(ha:PA X (e::es) t)(hn:x ≠ "__name__" := by decide)(hdb:(x == ("__debug__" : Str))=false:=by decide)(he:starEach (e::es) X.env=(false,eval e X.env)::starEach es X.env:=by rfl)(hpl:(backTo pos (starEach es X.env)).any (·.1)=false:=by rfl):PE X (.Call (.Name x p) (e::es) [] pos) (tCB r t):=by
 intro qQ s σ H Q I h;refine wpAny_Call_Name_kw (Ua I hg hm hv ?_ hn hdb);exact PyProof.Rows.callWith_type1 (thn (ha pos qQ s σ H _ I h) λus s1 ⟨vs,H1,I1,r1,q1⟩=>hc qQ s1 σ H1 vs us Q I1 r1 q1) he hpl
end
end L2
namespace HT
open PySem PyProof.Rows
section
variable {prog:Program}{w:World}{A:Around}{E:Value->Shared->Prop}{s:Shared}
def sIx (n d:Nat):Option Int->Nat
 | none=>d
 | some v=>if v<0 then (v+(n:Int)).toNat else min v.toNat n
theorem sIx_none (n d:Nat):sIx n d none=d:=rfl
theorem sIx_nat (n d k:Nat):sIx n d (some (k:Int))=min k n:=by
 show (if (k:Int)<0 then ((k:Int)+(n:Int)).toNat else min (k:Int).toNat n)=min k n;rw [if_neg (by lia),Int.toNat_natCast]
end
end HT
namespace L2
open PySem PySem.Spec PyProof.Rows
abbrev TO:=St->Hp->(Option Int->Hp->Prop)->Prop
def PO (X:Cx)(e:Option Expr)(t:TO):Prop:=
 ∀(qQ:List (Addr×Obj))(s:Shared)(σ:St)(H:Hp)(Q:Option Int->Hp->Prop),Inv X qQ σ H s->t σ H Q ->
  wpAny (model X.prog X.w) X.A (evalPart e X.env) (λu s'=>∃o H',Inv X qQ σ H' s'/\IsPart u o/\Q o H') X.xe s
def ZcB:TO:=λ_ H Q=>Q none H
def Zfr (t:TE):TO:=λσ H Q=>t σ H λx H1=>∃i,x=.int i/\Q (some i) H1
theorem OX {ns:List Int}:∀{us:List Value},Vals (ns.map V.int) us->IntsAre us ns:=by
 induction ns with
 | nil=>intro us r;rw [List.map_nil] at r;cases r;exact .nil
 | cons n ns ih=>
  intro us r;rw [List.map_cons] at r;cases r with
  | cons r1 r2=>
   obtain ⟨t,e⟩:=r1;subst e;exact .cons n t (ih r2)
section
variable {X:Cx}{e:Expr}{te:TE}{lo hi:Option Expr}{tl th:TO}{pos p2:Pos}
theorem OY:PO X none ZcB:=by
 intro qQ s σ H Q I h;rw [evalPart_none];exact wpAny_pure ⟨none,H,I,.none,h⟩
theorem OZ (h:PE X e te):PO X (some e) (Zfr te):=by
 intro qQ s σ H Q I hw;rw [evalPart_some];refine thn (h qQ s σ H _ I hw) λu s1 ⟨x,H1,I1,r1,q1⟩=>?_;obtain ⟨i,rfl,q⟩:=q1;obtain ⟨t,rfl⟩:=r1;exact ⟨some i,H1,I1,.int i t,q⟩
def SlR (X:Cx)(r:V->Option Int->Option Int->Hp->VK->Prop):Prop:=
 ∀(qQ:List (Addr×Obj))(s:Shared)(σ:St)(H:Hp)(x:V)(v vl vu:Value)(lo hi:Option Int)(sl:Addr)(Q:VK),Inv X qQ σ H s->RelV x v->s.heap.IsSliceOf sl vl vu .none->IsPart vl lo->IsPart vu hi->r x lo hi H Q ->
  ∃T id,typeLookup (.type T) "__getitem__" = pure (some (.builtin id))/\s.TypeIs v T/\wpAny (model X.prog X.w) X.A (getItem v (.ref sl)) (EP X qQ σ Q) X.xe s
def tSl (r:V->Option Int->Option Int->Hp->VK->Prop)(te:TE)(tl th:TO):TE:=λσ H Q=>te σ H λx H1=>tl σ H1 λl H2=>th σ H2 λu H3=>r x l u H3 Q
theorem J9 {r:V->Option Int->Option Int->Hp->VK->Prop}(hr:SlR X r)(he:PE X e te)(hl:PO X lo tl)(hu:PO X hi th):PE X (.Subscript e (.Slice lo hi none p2) pos) (tSl r te tl th):=by
 intro qQ s σ H Q I h;refine Subscript_ (thn (he qQ s σ H _ I h) λv s1 ⟨x,H1,I1,r1,q1⟩=>?_);refine wpAny_Slice (thn (hl qQ s1 σ H1 _ I1 q1) λvl s2 ⟨l,H2,I2,pl,q2⟩=>thn (hu qQ s2 σ H2 _ I2 q2) λvu s3 ⟨u,H3,I3,pu,q3⟩=>?_);rw [evalPart_none];refine wpAny_pure ?_;have I4:Inv X qQ σ H3 { s3 with heap:=s3.heap.push { cls:=.type "slice", data:=.fields #[vl,vu,.none] } }:=I3.kept (t':=s3.toks) λb ob q=>Heap.get?_push_of_some _ q;obtain ⟨T,id,hT,ht,hg⟩:=hr qQ { s3 with heap:=s3.heap.push { cls:=.type "slice", data:=.fields #[vl,vu,.none] } } σ H3 x v vl vu l u s3.heap.objs.size Q I4 r1 (Heap.IsSliceOf.new ..) pl pu q3;show wpAny (model X.prog X.w) X.A (subscriptTail e (.Slice lo hi none p2) v (.ref s3.heap.objs.size)) (EP X qQ σ Q) X.xe { s3 with heap:=s3.heap.push { cls:=.type "slice", data:=.fields #[vl,vu,.none] } };exact tail_any (ops:=[.ref s3.heap.objs.size,v]) ht hT hg (by with_unfolding_all rfl)
def WL (xs:List V)(lo hi:Option Int):List V:=(xs.drop (HT.sIx xs.length 0 lo)).take (HT.sIx xs.length xs.length hi-HT.sIx xs.length 0 lo)
theorem WV (xs:List V)(lo hi:Option Int):(WL xs lo hi).length<=xs.length:=by
 unfold WL;rw [List.length_take,List.length_drop]
 lia
end
end L2
namespace L2
open PySem PySem.Spec PyProof.Rows
def ixN (n:Nat)(i:Int):Option Nat:=if 0<=i then (if i<n then some i.toNat else none) else if -(n:Int)<=i then some (i+n).toNat else none
def atI {α:Type}(xs:List α)(i:Int):Option α:=(ixN xs.length i).bind λj=>xs[j]?
theorem Y8 {n:Nat}{i:Int}{j:Nat}(h:ixN n i=some j):seqIndex? i n=some j/\j<n/\-(n:Int)<=i/\i<n:=by
 unfold ixN at h;by_cases h0:0<=i
 ·rw [if_pos h0] at h;by_cases h1:i<n
  ·rw [if_pos h1] at h;have e:i.toNat=j:=Option.some.inj h;exact ⟨by rw [seqIndex_of h0 h1,e],by lia,by lia,h1⟩
  ·rw [if_neg h1] at h;cases h
 ·rw [if_neg h0] at h;by_cases h1:-(n:Int)<=i
  ·rw [if_pos h1] at h;have e:(i+n).toNat=j:=Option.some.inj h;exact ⟨by rw [seqIndex_neg (by lia) h1,e],by lia,h1,by lia⟩
  ·rw [if_neg h1] at h;cases h
theorem WW {α:Type}{xs:List α}{i:Int}{v:α}(h:atI xs i=some v):∃j,seqIndex? i xs.length=some j/\xs[j]?=some v/\j<xs.length/\-(xs.length:Int)<=i/\i<xs.length:=by
 unfold atI at h;cases e:ixN xs.length i with
 | none=>rw [e] at h;cases h
 | some j=>
  rw [e] at h;obtain ⟨h1,h2,h3,h4⟩:=Y8 e;exact ⟨j,h1,h,h2,h3,h4⟩
theorem Gx {α:Type}{xs:List α}{j:Nat}{v:α}(h:xs[j]?=some v):atI xs (j:Int)=some v:=by
 have hj:j<xs.length:=(List.getElem?_eq_some_iff.mp h).1;have e:ixN xs.length (j:Int)=some j:=by
  unfold ixN;rw [if_pos (by lia),if_pos (by lia)];simp
 unfold atI;rw [e];exact h
def ZcC (b:Expr):Prop:=∀o i,subscripted b false o i=operate [o,i] (getItem o i)
def IxR (X:Cx)(r:R2):Prop:=
 ∀(value slice:Expr)(qQ:List (Addr×Obj))(s:Shared)(σ:St)(H:Hp)(x y:V)(v u:Value)(Q:VK),Inv X qQ σ H s->RelV x v->RelV y u->r x y H Q ->
  subscripted slice false v u=operate [v,u] (getItem v u)->wpAny (model X.prog X.w) X.A (subscriptTail value slice v u) (EP X qQ σ Q) X.xe s
def MtR (X:Cx)(id:String)(r:V->List V->Hp->VK->Prop):Prop:=
 ∀(qQ:List (Addr×Obj))(s:Shared)(σ:St)(H:Hp)(x:V)(xs:List V)(v:Value)(us:List Value)(Q:VK),Inv X qQ σ H s->RelV x v->Vals xs us->r x xs H Q ->
  wpAny (model X.prog X.w) X.A (call (.builtin id) (v::us)) (EP X qQ σ Q) X.xe s
section
variable {X:Cx}{a b:Expr}{ta tb:TE}{pos:Pos}
theorem GJ {r:R2}(hr:IxR X r)(ha:PE X a ta)(hb:PE X b tb)(hs:ZcC b):PE X (.Subscript a b pos) (tOp r ta tb):=by
 intro qQ s σ H Q I h;exact Subscript_ (Zfp ha hb I h λv u s2 x y H2 I2 rx ry q=>hr a b qQ s2 σ H2 x y v u Q I2 rx ry q (hs _ _))
def ZgE (K:W.Frag):R2:=λx y H Q=>∃p xs i v,x=.ref p/\y=.int i/\SqL K H p xs/\atI xs i=some v/\Q v H
def ZgF (K:W.Frag):R2:=λx y H Q=>∃p xs i v,x=.ref p/\y=.int i/\SqT K H p xs/\atI xs i=some v/\Q v H
def Zhh:R2:=λx y H Q=>∃z i c,x=.str z/\y=.int i/\z.length<=sizeLine/\atI z.cps.toList i=some c/\Q (.str ⟨#[c]⟩) H
theorem ZcD:IxR X (ZgE X.K):=by
 intro value slice qQ s σ H x y v u Q I rx ry h hs;obtain ⟨p,xs,i,z,rfl,rfl,hq,he,q⟩:=h;cases rx;obtain ⟨t,rfl⟩:=ry;obtain ⟨its,r,pl,hz⟩:=I.list hq;obtain ⟨j,h1,h2,h3,h4,h5⟩:=WW he;obtain ⟨w,ew,rw'⟩:=r.get h2;have hl:=r.length;have hn:=Uc;have fin:EP X qQ σ Q w s:=⟨z,H,I,rw',q⟩;by_cases h0:0<=i
 ·have hj:i.toNat=j:=by
   rw [seqIndex_of h0 h5] at h1;exact Option.some.inj h1
  exact item_listR pl.isList h0 (by lia) (by rw [hj];simpa using ew) fin hs
 ·have hj:(i+(its.toArray.size:Int)).toNat=j:=by
   rw [seqIndex_neg (by lia) h4] at h1;rw [List.size_toArray,<-hl];exact Option.some.inj h1
  exact subscriptTail_builtinR (x:=w) pl.isList.typeIs slot_list_getitem.lookup
   (wpAny_getItem_list_neg (Q:=λr s'=>r=w/\EP X qQ σ Q r s') pl.isList (by lia) (by rw [List.size_toArray] <;> lia) (by lia) (by rw [hj];simpa using ew) ⟨rfl,fin⟩) hs
theorem Zd2:IxR X (ZgF X.K):=by
 intro value slice qQ s σ H x y v u Q I rx ry h hs;obtain ⟨p,xs,i,z,rfl,rfl,hq,he,q⟩:=h;cases rx;obtain ⟨t,rfl⟩:=ry;obtain ⟨its,r,pl,hz⟩:=I.tuple hq;obtain ⟨j,h1,h2,h3,h4,h5⟩:=WW he;obtain ⟨w,ew,rw'⟩:=r.get h2;have hl:=r.length;have hn:=Uc;have fin:EP X qQ σ Q w s:=⟨z,H,I,rw',q⟩;exact subscriptTail_builtinR (x:=w) pl.typeIs slot_tuple_getitem.lookup
  (getItem_tuple (j:=j) (Q:=λr s'=>r=w/\EP X qQ σ Q r s') pl (by lia) (by lia) (by rw [List.size_toArray,<-hl];exact h1) (by simpa using ew) ⟨rfl,fin⟩) hs
theorem Zd3:IxR X Zhh:=by
 intro value slice qQ s σ H x y v u Q I rx ry h hs;obtain ⟨z,i,c,rfl,rfl,hz,he,q⟩:=h;obtain ⟨t,rfl⟩:=rx;obtain ⟨t',rfl⟩:=ry;obtain ⟨j,h1,h2,h3,h4,h5⟩:=WW he;have hl:z.cps.toList.length=z.length:=by simp [Str.length]
 rw [hl] at h1 h4 h5;have hn:=Uc;exact tail_any (typeIs_str s z t) slot_str_getitem.lookup (getItem_str (c:=c) (by
  have e1:decide (i < -(2 ^ 63:Int))=false:=decide_eq_false (by lia);have e2:decide (i>=2 ^ 63)=false:=decide_eq_false (by lia);rw [e1,e2,Bool.or_false]) (by rw [h1];simpa using h2) ⟨.str ⟨#[c]⟩,H,I.tok _,⟨_,rfl⟩,q⟩) hs
theorem Yq (its:List Value)(n j:Nat)(u:Value):Obj.mapSeq (·.setIfInBounds j u) { cls:=.type "list", data:=.seq its.toArray n }={ cls:=.type "list", data:=.seq (its.set j u).toArray n }:=by
 simp [Obj.mapSeq]
theorem Inv.lst {qQ:List (Addr×Obj)}{σ:St}{H:Hp}{s:Shared}{p:Addr}{xs:List V}(I:Inv X qQ σ H s)(h:H p=some (.lst xs)) :
  ∃(its:List Value)(n:Nat),Vals xs its/\s.heap.get? p=some { cls:=.type "list", data:=.seq its.toArray n }/\xs.length<=sizeLine:=by
 obtain ⟨z,its,n,r,e⟩:=I.hok p _ h;exact ⟨its,n,r,e,z⟩
theorem Inv.lstUpd {qQ:List (Addr×Obj)}{σ:St}{H:Hp}{s:Shared}{p:Addr}{xs ys:List V}{its its':List Value}{n n':Nat}{f:Obj->Obj}(I:Inv X qQ σ H s)(h:H p=some (.lst xs))(ho:s.heap.get? p=some { cls:=.type "list", data:=.seq its.toArray n })(hf:f { cls:=.type "list", data:=.seq its.toArray n }={ cls:=.type "list", data:=.seq its'.toArray n' })(r:Vals ys its')(hz:ys.length<=sizeLine)(t:Nat) :
  Inv X qQ σ (upd H p (.lst ys)) { s with heap:=s.heap.update p f,toks:=t }:=by
 have e:(s.heap.update p f).get? p=some { cls:=.type "list", data:=.seq its'.toArray n' }:=by
  rw [Heap.get?_update_self f ho (by rw [hf] <;> rfl),hf]
 refine I.write (x:=p) (e:=p) (by rw [h];trivial) (.inl rfl) (λb u hb q=>(Heap.get?_update_other _ _ (Ne.symm hb)).trans q) ⟨_,e⟩ ?_;exact ⟨hz,its',n',r,e⟩
def Zfs:V->V->V->Hp->(Hp->Prop)->Prop:=λo i v H Q=>∃p xs k j,o=.ref p/\i=.int k/\H p=some (.lst xs)/\ixN xs.length k=some j/\Q (upd H p (.lst (xs.set j v)))
theorem Oa:Zgx X Zfs:=by
 intro qQ s σ H o i v ov iv u Q I ro ri rv h;obtain ⟨p,xs,k,j,rfl,rfl,hp,hj,q⟩:=h;cases ro;obtain ⟨t,rfl⟩:=ri;obtain ⟨its,n,r,ho,hz⟩:=I.lst hp;obtain ⟨h1,h2,h3,h4⟩:=Y8 hj;have hl:=r.length;have hn:=Uc;have I':Inv X qQ σ (upd H p (.lst (xs.set j v))) { s with heap:=s.heap.update p (Obj.mapSeq (·.setIfInBounds j u)) }:=
  I.lstUpd hp ho (Yq its n j u) (r.set rv j) (by rw [List.length_set];exact hz) s.toks
 by_cases h0:0<=k
 ·have hk:k.toNat=j:=by
   rw [seqIndex_of h0 h4] at h1;exact Option.some.inj h1
  exact W.ki_setAt ho h0 (by lia) (by rw [List.size_toArray,<-hl];exact h4) (by rw [hk];exact ⟨_,I',q⟩)
 ·have hk:(k+(its.toArray.size:Int)).toNat=j:=by
   rw [seqIndex_neg (by lia) h3] at h1;rw [List.size_toArray,<-hl];exact Option.some.inj h1
  exact W.ki_setBack ho (by lia) (by rw [List.size_toArray,<-hl];exact h3) (by lia) (by rw [hk];exact ⟨_,I',q⟩)
theorem V8 (lo hi:Option Int)(n:Nat):(sliceBounds lo hi none n).1=((HT.sIx n 0 lo:Nat):Int)/\(sliceBounds lo hi none n).2.1=((HT.sIx n n hi:Nat):Int)/\(sliceBounds lo hi none n).2.2=1:=by
 refine ⟨?_,?_,rfl⟩
 ·cases lo with
  | none=>simp [sliceBounds,HT.sIx]
  | some i=>
   simp only [sliceBounds,HT.sIx,Option.getD_none,show (1:Int) > 0 by decide,if_true];by_cases h:i<0
   ·simp only [h,if_true] <;> lia
   ·simp only [h,if_false] <;> lia
 ·cases hi with
  | none=>simp [sliceBounds,HT.sIx]
  | some i=>
   simp only [sliceBounds,HT.sIx,Option.getD_none,show (1:Int) > 0 by decide,if_true];by_cases h:i<0
   ·simp only [h,if_true] <;> lia
   ·simp only [h,if_false] <;> lia
theorem Vl (its:List Value)(lo hi:Option Int):slicePick its.toArray lo hi none=((its.drop (HT.sIx its.length 0 lo)).take (HT.sIx its.length its.length hi-HT.sIx its.length 0 lo)).toArray:=by
 obtain ⟨h1,h2,h3⟩:=V8 lo hi its.toArray.size;unfold slicePick;rw [h1,h2,h3];simp only [sliceRange_one,pick_run,List.size_toArray] <;> rfl
def ZgG (K:W.Frag):V->Option Int->Option Int->Hp->VK->Prop:=λx lo hi H Q=>∃a xs,x=.ref a/\SqL K H a xs/\∀p,H p=none->Q (.ref p) (upd H p (.lst (WL xs lo hi)))
theorem ZcE:SlR X (ZgG X.K):=by
 intro qQ s σ H x v vl vu lo hi sl Q I rx hs pl pu h;obtain ⟨a,xs,rfl,hx,q⟩:=h;cases rx;obtain ⟨its,r,ht,hz⟩:=I.list hx;have qV:=r.length;refine ⟨"list", _,slot_list_getitem.lookup,ht.isList.typeIs,?_⟩;refine wpAny_getItem_list_slice ht.isList hs pl pu .none (by simp) ?_ (by rw [List.size_toArray] <;> lia);rw [Vl,<-qV];refine ⟨.ref s.heap.objs.size,_,I.laid (t':=s.toks) (o:=.lst (WL xs lo hi)) (λb ob q=>Heap.get?_push_of_some _ q) (Nat.le_refl _) ?_,rfl,q _ (I.hok.fresh (Nat.le_refl _))⟩;exact ⟨Nat.le_trans (WV xs lo hi) hz,_,0,(r.drop (HT.sIx xs.length 0 lo)).take (HT.sIx xs.length xs.length hi-HT.sIx xs.length 0 lo),Heap.get?_push_size _ rfl⟩
def Vm:V->Bool
 | .non=>true
 | .bl _=>true
 | .int _=>true
 | .str _=>true
 | _=>false
def eqV:V->V->Bool
 | .non,.non=>true
 | .bl a,.bl b=>a == b
 | .bl a,.int b=>(if a then 1 else 0) == b
 | .int a,.bl b=>a == (if b then 1 else 0)
 | .int a,.int b=>a == b
 | .str a,.str b=>a == b
 | _,_=>false
theorem Zd4 {A:Around}{s:Shared}{y x:V}{u v:Value}(ry:RelV y u)(rx:RelV x v)(fy:Vm y=true)(fx:Vm x=true):SeqAt.EqAt A s u v (eqV y x):=by
 cases y with
 | non=>
  cases ry;cases x with
  | non=>cases rx;exact SeqAt.EqAt.same _
  | bl b=>cases rx;exact SeqAt.EqAt.none_bool b
  | int b=>obtain ⟨t,rfl⟩:=rx;exact SeqAt.EqAt.none_int b t
  | str b=>obtain ⟨t,rfl⟩:=rx;exact SeqAt.EqAt.none_str b t
  | _=>exact absurd (show false=true from fx) Bool.false_ne_true
 | bl a=>
  cases ry;cases x with
  | non=>cases rx;exact SeqAt.EqAt.bool_none a
  | bl b=>cases rx;exact SeqAt.EqAt.bool_bool a b
  | int b=>obtain ⟨t,rfl⟩:=rx;exact SeqAt.EqAt.bool_int a b t
  | str b=>obtain ⟨t,rfl⟩:=rx;exact SeqAt.EqAt.bool_str a b t
  | _=>exact absurd (show false=true from fx) Bool.false_ne_true
 | int a=>
  obtain ⟨t',rfl⟩:=ry;cases x with
  | non=>cases rx;exact SeqAt.EqAt.int_none a t'
  | bl b=>cases rx;exact SeqAt.EqAt.int_bool a t' b
  | int b=>obtain ⟨t,rfl⟩:=rx;exact SeqAt.EqAt.int_int a t' b t
  | str b=>obtain ⟨t,rfl⟩:=rx;exact SeqAt.EqAt.int_str a t' b t
  | _=>exact absurd (show false=true from fx) Bool.false_ne_true
 | str a=>
  obtain ⟨t',rfl⟩:=ry;cases x with
  | non=>cases rx;exact SeqAt.EqAt.str_none a t'
  | bl b=>cases rx;exact SeqAt.EqAt.str_bool a t' b
  | int b=>obtain ⟨t,rfl⟩:=rx;exact SeqAt.EqAt.str_int a t' b t
  | str b=>obtain ⟨t,rfl⟩:=rx;exact SeqAt.EqAt.str_str a t' b t
  | _=>exact absurd (show false=true from fx) Bool.false_ne_true
 | _=>exact absurd (show false=true from fy) Bool.false_ne_true
def eqU (x:V)(u:Value):Bool:=match u with
 | .none=>eqV .non x
 | .bool b=>eqV (.bl b) x
 | .int i _=>eqV (.int i) x
 | .str z _=>eqV (.str z) x
 | _=>false
theorem ZbT {x y:V}{u:Value}(r:RelV y u)(f:Vm y=true):eqU x u=eqV y x:=by
 cases y with
 | non=>cases r;rfl
 | bl b=>cases r;rfl
 | int i=>obtain ⟨t,rfl⟩:=r;rfl
 | str z=>obtain ⟨t,rfl⟩:=r;rfl
 | _=>exact absurd (show false=true from f) Bool.false_ne_true
theorem Ux {x:V}:∀{xs:List V}{us:List Value},Vals xs us->xs.all Vm=true->us.any (eqU x)=xs.any λy=>eqV y x
 | _,_,.nil,_=>rfl
 | y::xs,u::us,.cons r t,f=>by
  rw [List.all_cons,Bool.and_eq_true] at f;rw [List.any_cons,List.any_cons,ZbT r f.1,Ux t f.2]
theorem OC {A:Around}{s:Shared}{x:V}{v:Value}(rx:RelV x v)(fx:Vm x=true):∀{xs:List V}{us:List Value},Vals xs us->xs.all Vm=true->∀u∈us,SeqAt.EqAt A s u v (eqU x u)
 | _,_,.nil,_=>λu hu=>by cases hu
 | y::xs,u::us,.cons r t,f=>λu' hu=>by
  rw [List.all_cons,Bool.and_eq_true] at f;rcases List.mem_cons.mp hu with rfl | hu
  ·rw [ZbT r f.1];exact Zd4 r rx f.1 fx
  ·exact OC rx fx t f.2 u' hu
def inV (x:V)(xs:List V):Bool:=xs.any λy=>eqV y x
def rIn (K:W.Frag)(neg:Bool):R2:=λx y H Q=>∃p xs,y=.ref p/\(SqL K H p xs\/SqT K H p xs)/\Vm x=true/\xs.all Vm=true/\Q (.bl (if neg then !inV x xs else inV x xs)) H
theorem Y9:OpR X (compareOp .In) (rIn X.K false):=by
 intro qQ s σ H x y v u Q I rx ry h;obtain ⟨p,xs,rfl,hq,fx,fs,q⟩:=h;cases ry;rcases hq with hq | hq
 ·obtain ⟨its,r,pl,hz⟩:=I.list hq;refine SeqAt.in_listAt (eqU x) pl.isList (λw hw=>OC rx fx r fs w (by simpa using hw)) ⟨.bl _,H,I,rfl,?_⟩;rw [show its.toArray.any (eqU x)=its.any (eqU x) by simp,Ux r fs];exact q
 ·obtain ⟨its,r,pl,hz⟩:=I.tuple hq;refine SeqAt.in_tupleAt (eqU x) pl (λw hw=>OC rx fx r fs w (by simpa using hw)) ⟨.bl _,H,I,rfl,?_⟩;rw [show its.toArray.any (eqU x)=its.any (eqU x) by simp,Ux r fs];exact q
theorem V9:OpR X (compareOp .NotIn) (rIn X.K true):=by
 intro qQ s σ H x y v u Q I rx ry h;obtain ⟨p,xs,rfl,hq,fx,fs,q⟩:=h;cases ry;rcases hq with hq | hq
 ·obtain ⟨its,r,pl,hz⟩:=I.list hq;refine SeqAt.notIn_listAt (eqU x) pl.isList (λw hw=>OC rx fx r fs w (by simpa using hw)) ⟨.bl _,H,I,rfl,?_⟩;rw [show its.toArray.any (eqU x)=its.any (eqU x) by simp,Ux r fs];exact q
 ·obtain ⟨its,r,pl,hz⟩:=I.tuple hq;refine SeqAt.notIn_tupleAt (eqU x) pl (λw hw=>OC rx fx r fs w (by simpa using hw)) ⟨.bl _,H,I,rfl,?_⟩;rw [show its.toArray.any (eqU x)=its.any (eqU x) by simp,Ux r fs];exact q
theorem Wa:JC X (.builtin "len") (λxs H Q=>∃p ys,xs=[.ref p]/\(SqL X.K H p ys\/SqT X.K H p ys)/\Q (.int ys.length) H):=by
 intro qQ s σ H xs us Q I r h;obtain ⟨p,ys,rfl,hq,q⟩:=h;obtain ⟨u,rfl,rx⟩:=Zcx r;cases rx;have hn:=Uc;rcases hq with hq | hq
 ·obtain ⟨its,r',pl,hz⟩:=I.list hq;have qV:=r'.length;exact Calls.call_len_list pl.isList (by simp only [List.size_toArray] <;> lia) ⟨.int ys.length,H,I.tok _,⟨s.toks+1,by rw [List.size_toArray,qV]⟩,q⟩
 ·obtain ⟨its,r',pl,hz⟩:=I.tuple hq;have qV:=r'.length;exact len_tuple pl (by simp only [List.size_toArray] <;> lia) ⟨.int ys.length,H,I.tok _,⟨s.toks+1,by rw [List.size_toArray,qV]⟩,q⟩
theorem Wb:JC X (.type "list") (λxs H Q=>∃p ys,xs=[.ref p]/\(SqL X.K H p ys\/SqT X.K H p ys)/\∀l,H l=none->Q (.ref l) (upd H l (.lst ys))):=by
 intro qQ s σ H xs us Q I r h;obtain ⟨p,ys,rfl,hq,q⟩:=h;obtain ⟨u,rfl,rx⟩:=Zcx r;cases rx;have fin:∀(its:List Value),Vals ys its->ys.length<=sizeLine->∀(h':Heap)(c':Nat),(∀b o',s.heap.get? b=some o'->h'.get? b=some o') ->
   h'.get? s.heap.objs.size=some { cls:=.type "list", dict:=none,data:=.seq its.toArray c',slots:=#[] }->EP X qQ σ Q (.ref s.heap.objs.size) { s with heap:=h' }:=λits r' hz h' c' kp e=>
  ⟨.ref s.heap.objs.size,_,I.laid (t':=s.toks) kp (Nat.le_refl _) (show ObjOk X.prog X.w _ h' _ (.lst ys) from ⟨hz,its,c',r',e⟩),rfl,q _ (I.hok.fresh (Nat.le_refl _))⟩
 rcases hq with hq | hq
 ·obtain ⟨its,r',pl,hz⟩:=I.list hq;have qV:=r'.length;obtain ⟨o,ho,hc,n,hd⟩:=pl.isList;exact call_list_seq p (.inl rfl) ho hc hd (λh' c' kp e=>fin its r' hz h' c' kp e) (by simp only [List.size_toArray] <;> lia)
 ·obtain ⟨its,r',pl,hz⟩:=I.tuple hq;have qV:=r'.length;obtain ⟨o,ho,hc,n,hd⟩:=pl;exact call_list_seq p (.inr rfl) ho hc hd (λh' c' kp e=>fin its r' hz h' c' kp e) (by simp only [List.size_toArray] <;> lia)
theorem Vn:JC X (.type "tuple") (λxs H Q=>∃p ys,xs=[.ref p]/\((SqL X.K H p ys/\∀l,H l=none->Q (.ref l) (upd H l (.tup ys)))\/(SqT X.K H p ys/\Q (.ref p) H))):=by
 intro qQ s σ H xs us Q I r h;obtain ⟨p,ys,rfl,h⟩:=h;obtain ⟨u,rfl,rx⟩:=Zcx r;cases rx;rcases h with ⟨hq,q⟩ | ⟨hq,q⟩
 ·obtain ⟨its,r',pl,hz⟩:=I.list hq;have qV:=r'.length;refine call_tuple_list pl.isList (λh' kp=>?_) (by simp only [List.size_toArray] <;> lia);have I1:Inv X qQ σ H { s with heap:=h' }:=I.kept (t':=s.toks) kp;have I2:Inv X qQ σ (upd H h'.objs.size (.tup ys)) { s with heap:=h'.push { cls:=.type "tuple", data:=.seq its.toArray } }:=
   I1.laid (t':=s.toks) (λb o e=>Heap.get?_push_of_some _ e) (Nat.le_refl _) (show ObjOk X.prog X.w _ _ _ (.tup ys) from ⟨hz,its,r',IsTup.new _ _⟩)
  exact ⟨.ref h'.objs.size,_,I2,rfl,q _ (I1.hok.fresh (Nat.le_refl _))⟩
 ·obtain ⟨its,r',pl,hz⟩:=I.tuple hq;exact call_tuple_same pl ⟨.ref p,H,I,rfl,q⟩
def tyV (K:W.Frag)(T:String)(x:V)(H:Hp):Prop:=match x with
 | .str _=>T = "str"
 | .int _=>T = "int"
 | .ref p=>(T = "list" /\ ∃xs,SqL K H p xs)\/(T = "tuple" /\ ∃o,K.lookup p=some o/\o.cls=.type "tuple" /\ o.dict=none) \/
   (T = "dict" /\ ((∃kvs,H p=some (.dK kvs))\/∃kvs,H p=some (.dT kvs)))\/(T = "set" /\ ∃S n,H p=some (.set S n))
 | _=>False
theorem ZbU {qQ:List (Addr×Obj)}{σ:St}{H:Hp}{s:Shared}{T:String}{x:V}{v:Value}(I:Inv X qQ σ H s)(r:RelV x v)(ty:tyV X.K T x H) :
  s.TypeIs v T/\∀a,v=.ref a->∃ob,s.heap.get? a=some ob/\ob.dict=none:=by
 cases x with
 | str z=>
  obtain ⟨t,rfl⟩:=r;cases (show T = "str" from ty);exact ⟨typeIs_str s z t,λ_ e=>nomatch e⟩
 | int i=>
  obtain ⟨t,rfl⟩:=r;cases (show T = "int" from ty);exact ⟨typeIs_int s i t,λ_ e=>nomatch e⟩
 | ref p=>
  cases r;rcases ty with ⟨rfl,xs,hq⟩ | ⟨rfl,o,hk,hc,hd⟩ | ⟨rfl,hk⟩ | ⟨rfl,S,n,hk⟩
  ·obtain ⟨its,_,pl,_⟩:=I.list hq;refine ⟨pl.isList.typeIs,λa e=>?_⟩;cases e;obtain ⟨o,n,e,c,hd,_⟩:=pl;exact ⟨o,e,hd⟩
  ·refine ⟨⟨o,I.kIn p o hk,hc⟩,λa e=>?_⟩;cases e;exact ⟨o,I.kIn _ o hk,hd⟩
  ·have z:∃o,s.heap.get? p=some o/\o.ExactDict:=by
    rcases hk with ⟨kvs,hk⟩ | ⟨kvs,hk⟩
    ·obtain ⟨_,_,_,_,o,_,_,e,ex,_⟩:=I.hok p _ hk;exact ⟨o,e,ex⟩
    ·obtain ⟨_,_,_,_,o,_,_,e,ex,_⟩:=I.hok p _ hk;exact ⟨o,e,ex⟩
   obtain ⟨o,e,ex⟩:=z;refine ⟨⟨o,e,ex.1⟩,λa e2=>?_⟩;cases e2;exact ⟨o,e,ex.2.1⟩
  ·obtain ⟨o,_,_,_,e,ex,_⟩:=I.hok p _ hk;refine ⟨⟨o,e,ex.1⟩,λa e2=>?_⟩;cases e2;exact ⟨o,e,ex.2.1⟩
 | _=>exact False.elim ty
def Zhi (K:W.Frag)(T:String)(r:V->List V->Hp->VK->Prop)(to:TE):TE:=λσ H Q=>to σ H λx H1=>tyV K T x H1/\r x [] H1 Q
def tBM (K:W.Frag)(T:String)(r:V->List V->Hp->VK->Prop)(to:TE)(t:TA):TE:=λσ H Q=>to σ H λx H1=>tyV K T x H1/\t σ H1 λxs H2=>r x xs H2 Q
variable {o e:Expr}{es:List Expr}{to:TE}{t:TA}{name:Str}{apos qK:Pos}{T id:String}{r:V->List V->Hp->VK->Prop}
theorem ZbV (pa:PlainAttrs T)(slot:Slot T name id)(hty:typeOf (.builtin id)=pure (.type "method_descriptor"))(hm:MtR X id r)(ho:PE X o to)(hbase:attributeBase o name X.env (eval o X.env)=eval o X.env:=by rfl)(hline:(apos.endLine == qK.line)=true:=by rfl):PE X (.Call (.Attribute o name apos) [] [] qK) (Zhi X.K T r to):=by
 intro qQ s σ H Q I h;refine wpAny_Call_method0_late hbase hline (thn (ho qQ s σ H _ I h) λv s1 ⟨x,H1,I1,r1,ty,q1⟩=>?_);obtain ⟨h1,h2⟩:=ZbU I1 r1 ty;exact ⟨T,id,pa,slot,hty,h1,h2,Calls.callWith_builtin rfl (PySem.evalArgs_none (hm qQ s1 σ H1 x [] v [] Q I1 r1 .nil q1))⟩
theorem O0 (pa:PlainAttrs T)(slot:Slot T name id)(hty:typeOf (.builtin id)=pure (.type "method_descriptor"))(hm:MtR X id r)(ho:PE X o to)(ha:PA X (e::es) t)(hbase:attributeBase o name X.env (eval o X.env)=eval o X.env:=by rfl)(hfew:((backTo qK (starEach (e::es) X.env)).all (λx=>!x.1) && (backToKw qK (keywordEach [] X.env)).all (λx=>x.1.isSome)
   && decide ((e::es).length+([]:List Keyword).length+(if ([]:List Keyword).isEmpty then 0 else 1)<30))=true:=by rfl)(hline:(apos.endLine == qK.line)=true:=by rfl)(hs:starEach (e::es) X.env=(false,eval e X.env)::starEach es X.env:=by rfl)(hplain:(backTo qK (starEach es X.env)).any (·.1)=false:=by rfl) :
  PE X (.Call (.Attribute o name apos) (e::es) [] qK) (tBM X.K T r to t):=by
 intro qQ s σ H Q I h;refine wpAny_Call_method_late hbase hfew hline rfl (thn (ho qQ s σ H _ I h) λv s1 ⟨x,H1,I1,r1,ty,q1⟩=>?_);obtain ⟨h1,h2⟩:=ZbU I1 r1 ty;refine ⟨T,id,pa,slot,hty,h1,h2,?_⟩;have hA:=ha qK qQ s1 σ H1 _ I1 q1;rw [hs] at hA ⊢;refine Calls.callWith_builtin (by show (false || (backTo qK (starEach es X.env)).any (·.1))=false;rw [hplain] <;> rfl) (Calls.evalArgs_plain ?_);exact thn hA λus s2 ⟨vs,H2,I2,r2,q2⟩=>hm qQ s2 σ H2 x vs v us Q I2 r1 r2 q2
/- xs.append(e),list.index on a module's tuple .. are MtR facts of 06m -/
end
end L2
namespace L2
open PySem PySem.Spec PyProof.Rows
def MtM (X:Cx)(id:String)(r:V->List V->Hp->VK->Prop):Prop:=
 ∀(qQ:List (Addr×Obj))(s:Shared)(σ:St)(H:Hp)(x:V)(xs:List V)(v:Value)(us:List Value)(Q:VK),Inv X qQ σ H s->RelV x v->Vals xs us->r x xs H Q ->
  wpAny (model X.prog X.w) X.A (call (.builtin id) (v::us)) (EP X qQ σ Q) X.xe s
theorem Vals.one:∀{x:V}{us:List Value},Vals [x] us->∃u,us=[u]/\RelV x u
 | _,_,.cons r .nil=>⟨_,rfl,r⟩
theorem Vals.two:∀{x y:V}{us:List Value},Vals [x,y] us->∃u v,us=[u,v]/\RelV x u/\RelV y v
 | _,_,_,.cons r (.cons q .nil)=>⟨_,_,rfl,r,q⟩
theorem Vals.zero:∀{us:List Value},Vals [] us->us=[]
 | _,.nil=>rfl
theorem Vals.dropLast {xs:List V}{us:List Value}(h:Vals xs us):Vals xs.dropLast us.dropLast:=by
 induction h with
 | nil=>exact .nil
 | cons r t ih=>
  cases t with
  | nil=>exact .nil
  | cons q t'=>exact .cons r ih
theorem Vals.eraseIdx:∀{xs:List V}{us:List Value}(i:Nat),Vals xs us->Vals (xs.eraseIdx i) (us.eraseIdx i)
 | _,_,_,.nil=>.nil
 | _,_,0,.cons _ t=>t
 | _,_,i+1,.cons r t=>.cons r (Vals.eraseIdx i t)
theorem Vals.rep {xs:List V}{us:List Value}(h:Vals xs us):∀k:Nat,Vals (List.replicate k xs).flatten (List.replicate k us).flatten
 | 0=>.nil
 | k+1=>by
  rw [List.replicate_succ,List.replicate_succ,List.flatten_cons,List.flatten_cons];exact Vals.append h (Vals.rep h k)
theorem Yr {α:Type}(l:List α):l.eraseIdx (l.length-1)=l.dropLast:=by
 induction l with
 | nil=>rfl
 | cons a r ih=>
  cases r with
  | nil=>rfl
  | cons b r=>
   have e:(a::b::r).length-1=((b::r).length-1)+1:=by
    have h1:(a::b::r).length=r.length+2:=rfl;have h2:(b::r).length=r.length+1:=rfl
    lia
   rw [e,List.eraseIdx_cons_succ,ih]
   all_goals rfl
theorem Uy {α:Type}:∀(l:List α)(i:Nat),(l.eraseIdx i).length<=l.length
 | [],_=>Nat.le_refl _
 | _::_,0=>Nat.le_succ _
 | _::r,i+1=>Nat.succ_le_succ (Uy r i)
theorem Wc (its:List Value):∀(k:Nat)(acc:List Value),
  List.foldl (λx1 x2=>x1++x2) acc.toArray (List.replicate k its.toArray)=(acc++(List.replicate k its).flatten).toArray
 | 0,acc=>by simp
 | k+1,acc=>by
  have e:acc.toArray++its.toArray=(acc++its).toArray:=by simp
  have e2:(acc++its)++(List.replicate k its).flatten=acc++(List.replicate (k+1) its).flatten:=by
   rw [List.replicate_succ,List.flatten_cons,List.append_assoc]
  rw [<-e2,<-Wc its k (acc++its),<-e,List.replicate_succ,List.foldl_cons]
section
variable {X:Cx}{qQ:List (Addr×Obj)}{σ:St}{H:Hp}{s:Shared}{l b:Addr}{xs ys zs:List V}
theorem Inv.lset {its its':List Value}{n:Nat}{f:Array Value->Array Value}{t':Nat}(I:Inv X qQ σ H s)(hH:H l=some (.lst xs))(e:s.heap.get? l=some { cls:=.type "list", data:=.seq its.toArray n })(hf:f its.toArray=its'.toArray)(hv:Vals ys its')(hz:ys.length<=sizeLine) :
  Inv X qQ σ (upd H l (.lst ys)) { s with heap:=s.heap.update l (Obj.mapSeq f),toks:=t' }:=by
 have q:=PySem.IsL.update e f;rw [hf] at q;refine I.write (x:=l) (e:=l) (by rw [hH];exact trivial) (.inl rfl) (λb' u hb hu=>(Heap.get?_update_other s.heap (Obj.mapSeq f) (Ne.symm hb)).trans hu) ⟨_,q⟩ ?_;exact ⟨hz,its',_,hv,q⟩
theorem Inv.lnew {its:List Value}{t':Nat}(I:Inv X qQ σ H s)(hv:Vals ys its)(hz:ys.length<=sizeLine) :
  Inv X qQ σ (upd H s.heap.objs.size (.lst ys)) { s with heap:=s.heap.push { cls:=.type "list", data:=.seq its.toArray },toks:=t' }:=
 I.laid (λ_ _ q=>Heap.get?_push_of_some _ q) (Nat.le_refl _) ⟨hz,its,0,hv,Heap.get?_push_size _ rfl⟩
theorem Inv.fresh (I:Inv X qQ σ H s):H s.heap.objs.size=none:=I.hok.fresh (Nat.le_refl _)
theorem Inv.lstM (I:Inv X qQ σ H s)(hH:H l=some (.lst xs)):xs.length<=sizeLine/\∃(its:List Value)(n:Nat),Vals xs its/\xs.length=its.length/\s.heap.get? l=some { cls:=.type "list", data:=.seq its.toArray n }:=by
 obtain ⟨z,its,n,r,e⟩:=I.hok l _ hH;exact ⟨z,its,n,r,r.length,e⟩
theorem XD {n:Nat}(h:n<=sizeLine):Builtin.List.listTooLong n=false:=by
 unfold Builtin.List.listTooLong;exact decide_eq_false (by lia)
end
section
variable {X:Cx}
def Za:V->List V->Hp->VK->Prop:=λx vs H Q=>∃l xs y,x=.ref l/\vs=[y]/\H l=some (.lst xs)/\xs.length<sizeLine/\Q .non (upd H l (.lst (xs++[y])))
theorem Ja:MtM X "list.append" Za:=by
 intro qQ s σ H x vs v us Q I rx rv h;obtain ⟨l,xs,y,rfl,rfl,hH,hz,q⟩:=h;cases rx;obtain ⟨u,rfl,ru⟩:=rv.one;obtain ⟨z,its,n,r,hl,e⟩:=I.lstM hH;refine call_meets F.slot_list_append ⟨_,e,rfl⟩ F.entry_list_append (F.args_list_append_2 _ _) (PySem.list_append l its.toArray n u (by rw [List.size_toArray];lia)) ⟨e,?_⟩;refine ⟨.non,_,I.lset (its':=its++[u]) hH e (by simp) (r.append (.cons ru .nil)) ?_,rfl,q⟩;rw [List.length_append,List.length_singleton]
 lia
def ZcF:V->List V->Hp->VK->Prop:=λx vs H Q=>∃l b xs zs,x=.ref l/\vs=[.ref b]/\H l=some (.lst xs)/\H b=some (.lst zs)/\xs.length+zs.length<=sizeLine/\Q .non (upd H l (.lst (xs++zs)))
theorem Zb:MtM X "list.extend" ZcF:=by
 intro qQ s σ H x vs v us Q I rx rv h;obtain ⟨l,b,xs,zs,rfl,rfl,hH,hB,hz,q⟩:=h;cases rx;obtain ⟨u,rfl,ru⟩:=rv.one;cases ru;obtain ⟨z,its,n,r,hl,e⟩:=I.lstM hH;obtain ⟨z2,its2,n2,r2,hl2,e2⟩:=I.lstM hB;have hsz:its.toArray.size+its2.toArray.size<=sizeLine:=by rw [List.size_toArray,List.size_toArray];lia
 have hlong:¬ (!its.toArray.isEmpty && Builtin.List.listTooLong (its.toArray.size+its2.toArray.size))=true:=by
  rw [XD hsz,Bool.and_false];exact Bool.false_ne_true
 refine call_meets F.slot_list_extend ⟨_,e,rfl⟩ F.entry_list_extend (F.args_list_extend_2 _ _)
  (AutoSeq1.list_extend_list_list_0 l its.toArray n b its2.toArray n2 hlong (by rw [List.size_toArray];lia) (by lia)) ⟨e,e2,?_⟩
 refine ⟨.non,_,I.lset (its':=its++its2) hH e (by simp) (r.append r2) ?_,rfl,q⟩;rw [List.length_append]
 lia
def Zhj:V->List V->Hp->VK->Prop:=λx vs H Q=>∃l xs y,x=.ref l/\vs=[]/\H l=some (.lst xs)/\xs[xs.length-1]?=some y/\Q y (upd H l (.lst xs.dropLast))
theorem ZbW:MtM X "list.pop" Zhj:=by
 intro qQ s σ H x vs v us Q I rx rv h;obtain ⟨l,xs,y,rfl,rfl,hH,hy,q⟩:=h;cases rx;have hus:=rv.zero;subst hus;obtain ⟨z,its,n,r,hl,e⟩:=I.lstM hH;obtain ⟨u,hu,ru⟩:=r.get hy;have hy':its.toArray[its.toArray.size-1]?=some u:=by
  show its.toArray[its.length-1]?=some u;rw [<-Array.getElem?_toList,<-hl];exact hu
 refine call_meets F.slot_list_pop ⟨_,e,rfl⟩ F.entry_list_pop (F.args_list_pop_1 _) (MeetsSeq.list_pop_last l its.toArray n u hy' (by rw [List.size_toArray];lia)) ⟨e,?_⟩;refine ⟨y,_,I.lset (its':=its.dropLast) hH e ?_ r.dropLast ?_,ru,q⟩
 ·show its.toArray.eraseIdxIfInBounds (its.toArray.size-1)=its.dropLast.toArray;rw [List.size_toArray,List.eraseIdxIfInBounds_toArray,Yr]
 ·rw [List.length_dropLast]
  lia
def Zhk:R2:=λx y H Q=>∃l b xs zs,x=.ref l/\y=.ref b/\H l=some (.lst xs)/\H b=some (.lst zs)/\xs.length+zs.length<=sizeLine/\∀p,H p=none->Q (.ref p) (upd H p (.lst (xs++zs)))
theorem XE:OpR X (binaryOp .Add) Zhk:=by
 intro qQ s σ H x y v u Q I rx ry h;obtain ⟨l,b,xs,zs,rfl,rfl,hH,hB,hz,q⟩:=h;cases rx;cases ry;obtain ⟨z,its,n,r,hl,e⟩:=I.lstM hH;obtain ⟨z2,its2,n2,r2,hl2,e2⟩:=I.lstM hB;refine PySem.P.add_list e e2 ?_ (by rw [List.size_toArray,List.size_toArray];lia);have ea:its.toArray++its2.toArray=(its++its2).toArray:=by simp
 rw [ea];exact ⟨.ref _,_,I.lnew (t':=s.toks) (r.append r2) (by rw [List.length_append];lia),rfl,q _ I.fresh⟩
def Zhl:R2:=λx y H Q=>∃l k xs,x=.ref l/\y=.int k/\H l=some (.lst xs)/\-(2 ^ 63)<=k/\k<2 ^ 63/\xs.length * k.toNat<=sizeLine /\
 ∀p,H p=none->Q (.ref p) (upd H p (.lst (List.replicate k.toNat xs).flatten))
theorem ZcG {α:Type}(xs:List α)(k:Nat):(List.replicate k xs).flatten.length=k * xs.length:=by
 induction k with
 | zero=>simp
 | succ k ih=>rw [List.replicate_succ,List.flatten_cons,List.length_append,ih,Nat.succ_mul,Nat.add_comm]
theorem ZbX:OpR X (binaryOp .Mult) Zhl:=by
 intro qQ s σ H x y v u Q I rx ry h;obtain ⟨l,k,xs,rfl,rfl,hH,h1,h2,hz,q⟩:=h;cases rx;obtain ⟨t,rfl⟩:=ry;obtain ⟨z,its,n,r,hl,e⟩:=I.lstM hH;have qV:its.toArray.size * k.toNat<=sizeLine:=by rw [List.size_toArray,<-hl];exact hz
 have hcap:¬ its.toArray.size * k.toNat > (2 ^ 63-1) / 8:=by
  have:(sizeLine:Nat)<=(2 ^ 63-1) / 8:=by decide
  lia
 have hfit:¬ (!Builtin.List.listFitsIndex k)=true:=by
  rw [fitsIndex_both h1 h2];exact Bool.false_ne_true
 have hlong:¬ Builtin.List.listTooLong (its.toArray.size * k.toNat)=true:=by
  rw [XD qV];exact Bool.false_ne_true
 have hnew:List.foldl (λx1 x2=>x1++x2) #[] (List.replicate (if its.toArray.isEmpty=true then 0 else k.toNat) its.toArray)=(List.replicate k.toNat its).flatten.toArray:=by
  have f0:∀m:Nat,List.foldl (λx1 x2=>x1++x2) #[] (List.replicate m its.toArray)=(List.replicate m its).flatten.toArray:=λm=>by
   have:=Wc its m [];rw [List.nil_append] at this;exact this
  rw [f0];cases its with
  | nil=>simp
  | cons a r'=>rw [if_neg (by simp)]
 refine wpAny_binaryOp_repeat_ref (T := "list") (U := "int") (by decide) ⟨_,e,rfl⟩ (λs'=>typeIs_int s' k t) noFill_list_mul F.fills_int_mul F.slot_int_rmul repeat_list F.slot_int_index.lookup
  (call_meets F.slot_int_rmul (typeIs_int s k t) F.entry_int_rmul (F.args_int_rmul_2 _ _) (int___rmul___int_list k t l its.toArray n)
   ⟨e,rfl,⟨_,e,rfl⟩,call_meets F.slot_list_mul ⟨_,e,rfl⟩ F.entry_list_mul (F.args_list_mul_2 _ _) (AutoListH.list___mul___list_int_3 l its.toArray n k t hfit hcap hlong) ⟨e,?_⟩⟩)
 rw [hnew];exact ⟨.ref _,_,I.lnew (t':=s.toks) (r.rep k.toNat) (by rw [ZcG,Nat.mul_comm];exact hz),rfl,q _ I.fresh⟩
end
end L2
namespace Att
open PySem PySem.W PySem.Calls PyProof.Rows
theorem Uz {P:Params}{h:Heap}:∀(ns:List Int)(vs:List Value),WellAll P h vs (ns.map WData.int)->IntsAre vs ns:=by
 intro ns
 induction ns with
 | nil=>
  intro vs w;rw [List.map_nil] at w;cases w;exact .nil
 | cons n ns ih=>
  intro vs w;rw [List.map_cons] at w;cases w with
  | cons a b=>
   cases a;exact .cons _ _ (ih _ b)
theorem Zc {l:OpenLaw}{n:Nat}(hn:l.most=some n){P:Params}{h:Heap}{args:List WData}{vals:List Value}(hpre:l.row.toRowW.claim.pre args=true)(hwl:WellAll P h vals args) :
  ∃a vs ns,vals=[Value.ref a]/\args=[WData.list (ns.map WData.int)]/\h.get? a=some { cls:=.type "list", data:=.seq vs.toArray }/\IntsAre vs ns/\ns.length<=n:=by
 have hsh:WShape.hasAll [] args [.list .int]=true:=(pre_splitW hpre).1;have hc:l.pre.holds [] { args:=args }=true:=(pre_splitW hpre).2;obtain ⟨d,r,rfl,h1,h2⟩:=hasAllW_cons hsh;obtain rfl:=hasAllW_nil h2;obtain ⟨xs,rfl,h3⟩:=hasW_list h1;obtain ⟨ns,rfl⟩:=items_int h3;have qV:ns.length<=n:=by
  unfold OpenLaw.pre at hc;have h4:(WTm.not (.lt (.lit (.int (n:Int))) (.len (.arg 0)))).holds [] { args:=[.list (ns.map .int)] }=true:=by
   have h4:=(holds_andW hc).1;rw [hn] at h4;exact h4
  have h5:=condW_of h4 (w_not (w_lt w_lit (w_len_list (w_arg rfl))));rw [List.length_map] at h5;refine Nat.le_of_not_lt λq=>?_;have q':(n:Int)<((ns.length:Nat):Int):=by lia
  first
   | (rw [decide_eq_true q'] at h5;exact absurd h5 (by decide))
   | (simp at h5;lia)
 cases hwl with
 | cons w1 w2=>
  cases w2;cases w1 with
  | list ho qY=>exact ⟨_,_,ns,rfl,rfl,ho,Uz ns _ qY,qV⟩
theorem Zd (l:OpenLaw)(args:List WData):l.row.toRowW.claim.post args (.bool true) args=true:=
 postW_of (r:=l.row.toRowW) (X:=(true == true))
  (show WShape.has [] (.bool true) .bool=true by first | rfl | decide | simp [WShape.has,WShape.arms,WShape.armsAll])
  (show (WTm.eq .res (.lit (.bool true))).value [] { args:=args,res:=some (.bool true),after:=args }=some (.bool (true == true)) from w_eq_bool (w_res rfl) w_lit) rfl
theorem attach_call {l:OpenLaw}{n:Nat}{q:Program}{loose:List Str}{XP:(Str->Option Value)->Heap->Prop}{YP:World->Heap->Prop}{d:DefRec}(hn:l.most=some n)(hdf:d.params.defaults=[])(call:∀(w:World)(s₀ s₁:Shared)(mg mb:Str->Option Value)(fa:Addr)(o:Obj)(pm cd doc:Value)(a:Addr)(vs:List Value)(ns:List Int),
   Ground q loose [] XP w s₀ mg mb s₁.heap->YP w s₁.heap ->
   s₁.heap.get? fa=some o->o.data=.func (docDef d.name d.params d.body d.scope pm cd doc)->s₁.heap.CodeRec cd d.name->mg d.name=some (.ref fa) ->
   s₁.heap.get? a=some { cls:=.type "list", data:=.seq vs.toArray }->IntsAre vs ns->ns.length<=n->s₁.gens=#[] ->
   codeAny (model l.prog w) callerA (.call (.ref fa) ⟨[.ref a],[]⟩) (λr s'=>r=.ok (.ret (.bool true))/\OldK s₁.heap s'.heap/\s'.os=s₁.os/\AllBare s'.gens) s₁) :
  WalkO q loose XP YP l.row.toRowW d [] (λf vs=>PySem.call f vs):=by
 intro w s₀ s₁ mg mb G Y fa o pm cd doc dV kV ho hd hcd hD hmg hg args vals as hpre hlay hrd hwl hlo;obtain rfl:dV=.none:=Dflts.none hD hdf;obtain rfl:kV=.none:=Dflts.noKw hD;obtain ⟨a,vs,ns,rfl,rfl,hobj,hints,qV⟩:=Zc hn hpre hwl;refine enter_call (codeAny_mono (call w s₀ s₁ mg mb fa o pm cd doc a vs ns G Y ho (fd_plain hd) hcd hmg hobj hints qV hg) λr s' hq=>?_);obtain ⟨rfl,h2,h3,h4⟩:=hq;exact ⟨.inl ⟨.bool true,.bool true,[],rfl,λ_=>rfl,.bool true,Zd l _,λ_=>⟨List.Pairwise.nil,λ_ hm=>(nomatch hm)⟩⟩,h2,h3,h4⟩
end Att
namespace L2
open PySem PySem.Spec PyProof.Rows
theorem UA:∀{vs:List Value}{ns:List Int},IntsAre vs ns->Vals (ns.map V.int) vs
 | _,_,.nil=>.nil
 | _,_,.cons n t h=>.cons ⟨t,rfl⟩ (UA h)
def Zft (H:Hp):Prop:=∀b,H b=none\/∃o xs,H b=some (.frz o (.lst xs))
theorem ZaM {P:Program}{w:World}{K:W.Frag}{mg mb:Str->Option Value}{CX:CXT}{k:Nat}{fa a:Addr}{fd:FuncData}{x:Str}{sp:Sp}{s₁:Shared}{vs:List Value}{ns:List Int}(KX:K.In s₁.heap)(hns:s₁.heap.Ns mainGlobals mg)(hb:s₁.heap.Ns builtinsNs mb)(hbb:∀x:Str,x ≠ "__name__" -> mb x=bootBuiltins x)(hlim:s₁.heap.NoLimit)(hg:s₁.gens=#[])(ha:s₁.heap.get? a=some { cls:=.type "list", data:=.seq vs.toArray })(hi:IntsAre vs ns)(hl:ns.length<=sizeLine)(hr:Room k callerA)(F:∀base:Heap,K.In base->base.Ns mainGlobals mg->GG P w K mg base CX k fa fd [x] sp)(hbind:∀(s:Shared)(u:Value),BindsTo s fd ⟨[u],[]⟩ [(x,u)])(hsp:∀H:Hp,Zft H->SqL K H a (ns.map V.int)->sp [.ref a] H (λv _=>v=.bl true) λ_ _ _=>False)(hCX:∀H e s',CX [] H s₁ (λ_ _ _=>False) e s'->False) :
  codeAny (model P w) callerA (.call (.ref fa) ⟨[.ref a],[]⟩) (λr s'=>r=.ok (.ret (.bool true))/\OldK s₁.heap s'.heap/\s'.os=s₁.os/\AllBare s'.gens) s₁:=by
 have rv:=UA hi;have lenV:=hi.length;have core:∀H:Hp,Zft H->SqL K H a (ns.map V.int)->HOk P w H s₁.heap->(∀b,H b≠none->b=a)->(H a≠none->K.lookup a=none) ->
   codeAny (model P w) callerA (.call (.ref fa) ⟨[.ref a],[]⟩) (λr s'=>r=.ok (.ret (.bool true))/\OldK s₁.heap s'.heap/\s'.os=s₁.os/\AllBare s'.gens) s₁:=by
  intro H hO hS hok hA hK;have base_of:∀{b:Addr}{o:Obj},s₁.heap.get? b=some o->H b=none->(ZaG s₁.heap H).get? b=some o:=λe n=>ZaH e n;have noA:∀{b:Addr}{o:Obj}{es:Array DictEntry}{ep:Nat},s₁.heap.get? b=some o->o.data=.dict es ep->H b=none:=λ{b o es ep} e d=>by
   cases q:H b with
   | none=>rfl
   | some u=>
    have e':b=a:=hA b (by rw [q];simp);subst e';rw [ha] at e;cases e;have d':Data.seq vs.toArray _=Data.dict es ep:=d;cases d'
  have nsK:∀{b:Addr}{m:Str->Option Value},s₁.heap.Ns b m->(ZaG s₁.heap H).Ns b m:=λ{b m} ⟨o,es,ep,e,d,r⟩=>⟨o,es,ep,base_of e (noA e d),d,r⟩;have hKb:K.In (ZaG s₁.heap H):=λb o e=>base_of (KX b o e) (by
   cases q:H b with
   | none=>rfl
   | some u=>
    have e':b=a:=hA b (by rw [q];simp);subst e';rw [hK (by rw [q];simp)] at e;cases e)
  have hM:Mod K mg (ZaG s₁.heap H):=⟨hKb,nsK hns,⟨mb,nsK hb,hbb⟩,let ⟨mc,h1,h2⟩:=hlim;⟨mc,nsK h1,h2⟩⟩;have e0:Zfa P w K mg (ZaG s₁.heap H) callerA [] s₁ H:=⟨rfl,hM,λb o e=>Zcq e,Nat.le_of_eq (YU _ _),trivial,λb hb=>absurd (show b∈([]:List Addr) from hb) (by simp),hok,.of_eq hg⟩;refine codeAny_mono ((F _ hKb (nsK hns)).run callerA [] s₁ H ⟨[.ref a],[]⟩ [.ref a] [.ref a] _ _ hr e0 (hbind s₁ (.ref a)) (.cons rfl .nil) (hsp H hO hS)) λr s' h=>?_;cases r with
  | error e=>exact (hCX H e s' h).elim
  | ok fl=>
   cases fl with
   | next=>exact False.elim h
   | brk=>exact False.elim h
   | cont=>exact False.elim h
   | ret u=>
    obtain ⟨v,H',os,bare,un,hok',r',q⟩:=h;have q':v=.bl true:=q;subst q';obtain rfl:u=Value.bool true:=r';refine ⟨rfl,OldK.of_keep λb o e=>?_,os,bare⟩;cases q:H b with
    | none=>exact un.keep b o e q (by intro z;exact absurd (show b∈([]:List Addr) from z) (by simp)) (by simp)
    | some u=>
     rcases hO b with z | ⟨ob,xs,z⟩
     ·rw [q] at z;cases z
     ·have z2:=un.frzs b ob _ z;obtain ⟨e1,_⟩:=hok b _ z;obtain ⟨e2,_⟩:=hok' b _ z2;rw [e] at e1;cases e1;exact e2
 cases hk:K.lookup a with
 | some o=>
  have e:=KX a o hk;rw [ha] at e;cases e;refine core (λ_=>none) (λ_=>.inl rfl) (.inr ⟨_,vs.toArray,_,hk,rfl,rfl,rfl,by rw [List.size_toArray,lenV];exact hl,by simpa using rv⟩) (λb u z=>by have z':(none:Option HO)=some u:=z;cases z') (λb z=>absurd rfl z) λz=>absurd rfl z
 | none=>
  refine core (λb=>if b=a then some (.frz { cls:=.type "list", data:=.seq vs.toArray } (.lst (ns.map V.int))) else none) (λb=>?_) (.inl (.inr ⟨{ cls:=.type "list", data:=.seq vs.toArray },if_pos rfl⟩)) (λb u z=>?_) (λb z=>?_) λ_=>hk
  ·by_cases hb:b=a
   ·exact .inr ⟨_,_,if_pos hb⟩
   ·exact .inl (if_neg hb)
  ·by_cases hb:b=a
   ·have z':=(if_pos hb).symm.trans z;cases z';subst hb;exact ⟨ha,by rw [List.length_map];exact hl,vs,_,rv,ha⟩
   ·have z':=(if_neg hb).symm.trans z;cases z'
  ·by_cases hb:b=a
   ·exact hb
   ·exact absurd (if_neg hb) z
end L2
namespace L2
open PySem PySem.Spec PyProof.Rows
theorem walk_of {l:W.OpenLaw}{n k:Nat}{q:Program}{loose:List Str}{XP:(Str->Option Value)->Heap->Prop}{YP:World->Heap->Prop}{d:DefRec}{K:Params->W.Frag}{CX:World->CXT}{sp:World->Sp}{x:Str}(hn:l.most=some n)(hn2:n<=sizeLine)(hdf:d.params.defaults=[])(hr:Room k callerA)(hY:∀(w:World)(h:Heap),YP w h->(K w.params).In h)(F:∀(w:World)(mg:Str->Option Value)(fa:Addr)(h:Heap),(K w.params).In h->h.Ns mainGlobals mg->mg d.name=some (.ref fa) ->
   ∃fd:FuncData,(∀(s:Shared)(u:Value),BindsTo s fd ⟨[u],[]⟩ [(x,u)]) /\
    ∀base:Heap,(K w.params).In base->base.Ns mainGlobals mg->GG l.prog w (K w.params) mg base (CX w) k fa fd [x] (sp w))(hsp:∀(w:World)(H:Hp)(a:Addr)(ns:List Int),ns.length<=n->Zft H->SqL (K w.params) H a (ns.map V.int)->sp w [.ref a] H (λv _=>v=.bl true) λ_ _ _=>False)(hCX:∀(w:World)(H:Hp)(s:Shared)(e:Value)(s':Shared),CX w [] H s (λ_ _ _=>False) e s'->False) :
  W.WalkO q loose XP YP l.row.toRowW d [] (λf vs=>PySem.call f vs):=by
 refine Att.attach_call hn hdf λw s₀ s₁ mg mb fa o pm cd doc a vs ns G Y ho hd hcd hmg hobj hints qV hg=>?_;have KX:=hY w _ Y;obtain ⟨fd,hb,hF⟩:=F w mg fa _ KX G.T.g hmg;exact ZaM KX G.T.g G.T.b G.T.builtins G.T.nolimit hg hobj hints (Nat.le_trans qV hn2) hr hF hb (λH hO hS=>hsp w H a ns qV hO hS) λH e s'=>hCX w H s₁ e s'
end L2
/- THE LAST THEOREM (shape;LID,My.* are yours):
  My.Adr: a structure of the addresses that your layer names (classes,functions);My.Txt K t: a structure (Prop) of the equations over K;
  My.txt_mk:{K} {implicit addresses ..} (e1:nsIn K mainGlobals "law" = some (some (.ref f))) (e2:K.lookup f=some ⟨oc,od,.func (fnOf "law" "law" params body scope dV kV doc pm an cdv ct),sl⟩) (e3:codeIn K cdv "law" = true) ..:∃t,My.Txt K t
set_option maxRecDepth 100000 in
set_option maxHeartbeats 0 in
theorem PySem.Challenge.cw_LID_holds:PySem.Challenge.rw_LID.Holds:=by
 w_on;o_law;k_head;(case hw=>w_witness2)
 k_fill
 refine L2.walk_of (l:=PySem.Challenge.rw_LID) (n:=63) (k:=40) (x := "script") (CX:=λw=>..) (sp:=λ_=>My.sp_law) rfl (by decide) rfl ⟨rfl,by decide,by decide⟩ (λw h Y=>W.kIn_of Y) ?F ?S ?C
 case F=>
  intro w mg fa h KX G hmg;have T:∃t,My.Txt (L2.KOf KX) t:=by
   dsimp only [L2.KOf]                          -- K must stand as «<heap const> w.params» for k_is
   refine' My.txt_mk ?e1 ?e2 ?e3 ..
   (case e1=>W.k_is)                    -- in the order: a name->its address->its object->its parts
   (case e2=>W.k_is)
   ..
  obtain ⟨t,T⟩:=T;have e0:=hmg.symm.trans (W.mg_of KX G T.law);cases e0                                       -- fa is the law's own address;exact ⟨_,λs u=>.of_eq rfl,λbase kb nb=>My.law_fn T kb nb⟩     -- if «.of_eq rfl» comes too early: refine' ⟨_,?b,λbase kb nb=>My.law_fn T kb nb⟩;exact λs u=>.of_eq rfl
 case S=>exact λw H a ns hl hO hS=>..
 case C=>exact ..
(the tactic k_is has no namespace: write k_is) -/
namespace L2
open PySem PySem.Spec PyProof.Rows
def Gp (s:Stmt):Arguments:=match s with
 | .FunctionDef _ a _ _ _ _ _ _ _ _=>a
 | _=>{ posonlyargs:=[],args:=[],vararg:=none,kwonlyargs:=[],kw_defaults:=[],kwarg:=none,defaults:=[] }
def Gn (s:Stmt):List Stmt:=match s with
 | .FunctionDef _ _ b _ _ _ _ _ _ _=>b
 | _=>[]
def Gc (s:Stmt):Scope:=match s with
 | .FunctionDef _ _ _ _ _ _ sc _ _ _=>sc
 | _=>{ kind:=.function,names:=[],isGenerator:=false,isCoroutine:=false }
abbrev CX0:CXT:=λ_ _ _ _ _ _=>False
abbrev E0:XK:=λ_ _ _=>False
theorem GQ {X:Cx}:V3 CX0 X E0:=λ_ _ _ _ _ _ _ h=>h.elim
structure Fun (K:W.Frag)(x qual:Str)(st:Stmt)(f:Addr)(fd:FuncData):Prop where
 ex:∃(oc:Value)(od:Option Addr)(kV doc pm:Value)(an:Option Addr)(cdv ct:Value)(osl:Array (Option Value)),
  fd=W.fnOf x qual (Gp st) (Gn st) (Gc st) .none kV doc pm an cdv ct/\K.lookup f=some ⟨oc,od,.func fd,osl⟩/\W.codeIn K cdv qual=true
 kp:W.keepIn K (.ref f)=true
section
variable {P:Program}{w:World}{K:W.Frag}{mg:Str->Option Value}{base:Heap}
theorem Zhm {α:Type}{l:List α}(h:l.length=0):l=[]:=List.length_eq_zero_iff.mp h
theorem ZcH {α:Type}{l:List α}{n:Nat}(h:l.length=n+1):∃a t,l=a::t/\t.length=n:=by
 cases l with
 | nil=>cases h
 | cons a t=>exact ⟨a,t,rfl,by simpa using h⟩
theorem ZaC {α:Type}{l:List α}(h:l.length=1):∃a,l=[a]:=by
 obtain ⟨a,t,rfl,g⟩:=ZcH h;exact ⟨a,by rw [Zhm g]⟩
theorem WM {α:Type}{l:List α}(h:l.length=2):∃x0 x1,l=[x0,x1]:=by
 obtain ⟨a,t,rfl,g⟩:=ZcH h;obtain ⟨x1,rfl⟩:=ZaC g;exact ⟨a,x1,rfl⟩
theorem XF {α:Type}{l:List α}(h:l.length=3):∃x0 x1 x2,l=[x0,x1,x2]:=by
 obtain ⟨a,t,rfl,g⟩:=ZcH h;obtain ⟨x1,x2,rfl⟩:=WM g;exact ⟨a,x1,x2,rfl⟩
theorem Zfu {α:Type}{l:List α}(h:l.length=4):∃x0 x1 x2 x3,l=[x0,x1,x2,x3]:=by
 obtain ⟨a,t,rfl,g⟩:=ZcH h;obtain ⟨x1,x2,x3,rfl⟩:=XF g;exact ⟨a,x1,x2,x3,rfl⟩
theorem Zhn {α:Type}{l:List α}(h:l.length=5):∃x0 x1 x2 x3 x4,l=[x0,x1,x2,x3,x4]:=by
 obtain ⟨a,t,rfl,g⟩:=ZcH h;obtain ⟨x1,x2,x3,x4,rfl⟩:=Zfu g;exact ⟨a,x1,x2,x3,x4,rfl⟩
theorem Zho {α:Type}{l:List α}(h:l.length=6):∃x0 x1 x2 x3 x4 x5,l=[x0,x1,x2,x3,x4,x5]:=by
 obtain ⟨a,t,rfl,g⟩:=ZcH h;obtain ⟨x1,x2,x3,x4,x5,rfl⟩:=Zhn g;exact ⟨a,x1,x2,x3,x4,x5,rfl⟩
theorem ZhG {α:Type}{l:List α}(h:l.length=7):∃x0 x1 x2 x3 x4 x5 x6,l=[x0,x1,x2,x3,x4,x5,x6]:=by
 obtain ⟨a,t,rfl,g⟩:=ZcH h;obtain ⟨x1,x2,x3,x4,x5,x6,rfl⟩:=Zho g;exact ⟨a,x1,x2,x3,x4,x5,x6,rfl⟩
theorem Fun.ok {x qual:Str}{st:Stmt}{f:Addr}{fd:FuncData}{N ps:List Str}{k:Nat}{sp:Sp}(F:Fun K x qual st f fd)(S:Gr N ps (Gc st))(len:∀vs H Q E,sp vs H Q E->vs.length=ps.length)(qG:∀(cdv:Value)(A:Around)(outer:List Env)(s:Shared)(H:Hp)(vs:List V)(Q:VK)(E:XK),Room k (A.deeper (envOfC qual (Gc st) s.heap.objs.size f cdv))->sp vs H Q E ->
   ∃t,PSs (Y6 CX0 P w K mg base N qual (Gc st) f cdv A outer s H E).nox (Gn st) t/\t { nx:=λ_ H'=>Q .non H',rt:=Q } (start N vs) H):GG P w K mg base CX0 (k+1) f fd ps sp:=by
 obtain ⟨oc,od,kV,doc,pm,an,cdv,ct,osl,rfl,lk,hcd⟩:=F.ex;refine ZcA lk hcd S len λA outer s H vs Q E hr hsp=>?_;obtain ⟨t,h,q⟩:=qG cdv A outer s H vs Q E hr hsp;exact ⟨t,h.nox,q⟩
theorem Fun.binds {x qual:Str}{st:Stmt}{f:Addr}{fd:FuncData}{ps:List Str}(F:Fun K x qual st f fd)(h:∀(kV doc pm:Value)(an:Option Addr)(cdv ct:Value)(us:List Value),us.length=ps.length->bindArgs (W.fnOf x qual (Gp st) (Gn st) (Gc st) .none kV doc pm an cdv ct) ⟨us,[]⟩=pure (ps.zip us)):Binds K fd ps []:=by
 obtain ⟨oc,od,kV,doc,pm,an,cdv,ct,osl,rfl,lk,hcd⟩:=F.ex;exact .all (h kV doc pm an cdv ct)
theorem GA {x qual:Str}{st:Stmt}{f:Addr}{oc:Value}{od an:Option Addr}{osl:Array (Option Value)}{kV doc pm cdv ct:Value}(l:K.lookup f=some ⟨oc,od,.func (W.fnOf x qual (Gp st) (Gn st) (Gc st) .none kV doc pm an cdv ct),osl⟩)(c:W.codeIn K cdv qual=true)(k:W.keepIn K (.ref f)=true):Fun K x qual st f (W.fnOf x qual (Gp st) (Gn st) (Gc st) .none kV doc pm an cdv ct):=⟨⟨oc,od,kV,doc,pm,an,cdv,ct,osl,rfl,l,c⟩,k⟩
end
section
variable {X:Cx}
theorem pv (i:Nat){x:Str}{pos:Pos}(hN:X.N[i]?=some x:=by rfl)(hv:Vis X.env.scope x:=by first | exact Or.inl rfl | exact Or.inr (Or.inl rfl) | exact Or.inr (Or.inr rfl))(hd:(x == ("__debug__" : Str))=false:=by decide)(hcd:(x == ("__classdict__" : Str))=false:=by decide):PE X (.Name x pos) (Yn i):=ZdO hN hv hd hcd
end
theorem Js {A B:Prop}(h:B):if false=true then A else B:=by
 rw [if_neg Bool.false_ne_true];exact h
theorem Jl {A B:Prop}(h:A):if true=true then A else B:=by
 rw [if_pos rfl];exact h
theorem Uk {c A B:Prop}[Decidable c](h1:c->A)(h2:¬ c->B):if c then A else B:=by
 by_cases h:c
 ·rw [if_pos h];exact h1 h
 ·rw [if_neg h];exact h2 h
def Same (H H':Hp):Prop:=∀b o,H b=some o->H' b=some o
theorem Same.refl (H:Hp):Same H H:=λ_ _ h=>h
theorem Same.trans {H H1 H2:Hp}(a:Same H H1)(b:Same H1 H2):Same H H2:=λc o h=>b c o (a c o h)
theorem Same.free {H H':Hp}(e:Same H H'){l:Addr}(h:H' l=Option.none):H l=Option.none:=by
 cases q:H l with
 | none=>rfl
 | some o=>
  rw [e l o q] at h;cases h
end L2
namespace L2
open PySem PySem.Spec PyProof.Rows
section
variable {prog:Program}{w:World}{A:Around}{R:Result->Shared->Prop}{s:Shared}
theorem Wd {elt qU iter:Expr}{ifs:List Expr}{scope:Scope}{pos:Pos}{it acc:Value}{env:Env}(I:Nat->Shared->Prop)(turn:∀n s,I n s->wpAny (model prog w) A (pyNext it) (λr s1=>match r with
   | none=>R (.ok .next) s1
   | some v=>wpAny (model prog w) A (letOwnedTupleGo qU it v) (λ_ s1'=>wpAny (model prog w) A (assign qU env v) (λ_ s2=>
     wpAny (model prog w) A (forIn ifs true λc r=>if r=true then do let ok <- isTrue c env (eval c env);pure (ForInStep.yield ok) else pure (ForInStep.yield r)) (λok s3=>
      if ok=true then wpAny (model prog w) A (eval elt env) (λx s4=>
       wpAny (model prog w) A (call (.builtin "list.append") [acc,x]) (λ_ s5=>∃m,m<n/\I m s5) (λ_ _=>False) s4) (λ_ _=>False) s3
      else ∃m,m<n/\I m s3) (λ_ _=>False) s2) (λ_ _=>False) s1') (λ_ _=>False) s1) (λ_ _=>False) s)(n:Nat)(h:I n s) :
  codeAny (model prog w) A (.compLoop (.ListComp elt [⟨qU,iter,ifs,0⟩] scope pos) 0 it acc env) R s:=by
 have ff:∀{E:Value->Shared->Prop},∀(x:Value)(s:Shared),(λ(_:Value) (_:Shared)=>False) x s->E x s:=λ_ _ z=>False.elim z;refine codeAny_loop rfl I (λn s hI=>?_) n h;show wpAny _ A ((compTurn (.ListComp elt [⟨qU,iter,ifs,0⟩] scope pos) 0 it acc env).onRaise (λx=>do noteFrame x env;theTreesLotGoes x)) _ _ s;refine wpAny_noted ?_;rw [compTurn_list];refine wpAny_bind (wpAny_standAt (wpAny_bind (wpAny_mono (turn n s hI) (λr s1 h1=>?_) ff)));cases r with
 | none=>exact wpAny_pure h1
 | some v=>
  refine wpAny_bind (wpAny_mono h1 (λ_ s1' h1'=>?_) ff);refine wpAny_bind (wpAny_mono h1' (λ_ s2 h2=>wpAny_bind (wpAny_mono h2 (λok s3 h3=>?_) ff)) ff);cases ok with
  | false=>exact wpAny_pure ⟨rfl,h3⟩
  | true=>
   exact wpAny_bind (wpAny_bind (wpAny_mono h3 (λx s4 h4=>wpAny_bind (wpAny_mono h4 (λ_ s5 h5=>wpAny_pure (wpAny_pure ⟨rfl,h5⟩)) ff)) ff))
end
def Cx.comp (X:Cx)(scope:Scope)(cl:List (Str×Addr))(N:List Str)(C:Addr)(s:Shared)(H:Hp)(fp:List Addr):Cx:=
 { X with N:=N,s₀:=s,H₀:=H,env:=compEnvC scope cl C X.env,outer:=X.stack,ex:=fp,fn:=λ_=>false,pn:=[],xe:=λ_ _=>False }
def Zd5 (X:Cx)(ifs:List Expr)(t:TT):Prop:=
 ∀(qQ:List (Addr×Obj))(s:Shared)(σ:St)(H:Hp)(Q:Bool->Hp->Prop),Inv X qQ σ H s->t σ H Q ->
  wpAny (model X.prog X.w) X.A (forIn ifs true λc r=>if r=true then do let ok <- isTrue c X.env (eval c X.env);pure (ForInStep.yield ok) else pure (ForInStep.yield r)) (TP X qQ σ Q) X.xe s
def Ys:TT:=λ_ H Q=>Q true H
theorem G5 {X:Cx}:Zd5 X [] Ys:=λ_ _ _ H _ I h=>wpAny_tests_nil ⟨H,I,h⟩
theorem JE {X:Cx}{c:Expr}{t:TT}(h:PT X c t):Zd5 X [c] t:=λqQ s σ H Q I hw=>wpAny_tests_one (h qQ s σ H Q I hw)
structure JK (X:Cx)(scope:Scope)(cl:List (Str×Addr))(own:List Str)(fr:List (Str×Nat)):Prop where
 clos:closureFor scope X.env=pure cl
 nocell:∀y∈scope.names,y.2≠.cell
 kind:scope.kind=.function
 names:∀y∈scope.names,y.2=.local->scope.names.lookup y.1=some .local
 cls:∀y c,cl.lookup y=some c->X.env.cells.lookup y=some c
 has:∀y,((relabel scope X.env).names.lookup y=some .cell\/(relabel scope X.env).names.lookup y=some .free)->∃c,cl.lookup y=some c
 free:∀p∈fr,X.N[p.2]?=some p.1/\(X.env.kindOf p.1=some .cell\/X.env.kindOf p.1=some .free)/\((relabel scope X.env).names.lookup p.1=some .cell\/(relabel scope X.env).names.lookup p.1=some .free)
def Om (own:List Str)(fr:List (Str×Nat))(σ:St):St:=own.map (λ_=>none)++fr.map λp=>(σ[p.2]?).join
def Oo:St->St->Prop
 | [],[]=>True
 | none::r,_::r'=>Oo r r'
 | some v::r,some v'::r'=>v=v'/\Oo r r'
 | _,_=>False
theorem Ob:∀{a b:St},Oo a b->∀(i:Nat)(v:V),a[i]?=some (some v)->b[i]?=some (some v)
 | [],[],_,i,v,h=>by simp at h
 | [],_::_,z,_,_,_=>z.elim
 | none::r,[],z,_,_,_=>z.elim
 | some _::r,[],z,_,_,_=>z.elim
 | some _::r,none::_,z,_,_,_=>z.elim
 | none::r,_::r',z,0,v,h=>by simp at h
 | none::r,_::r',z,i+1,v,h=>by
  have:=Ob (a:=r) (b:=r') z i v (by simpa using h);simpa using this
 | some x::r,some x'::r',z,0,v,h=>by
  obtain ⟨e,_⟩:=z;subst e;simpa using h
 | some x::r,some x'::r',z,i+1,v,h=>by
  have:=Ob (a:=r) (b:=r') z.2 i v (by simpa using h);simpa using this
def Jq (J:It)(D:Addr)(g:TG)(tc:TT)(te:TE)(σ0:St)(W:Nat->Nat->List V->Hp->Prop)(R:Hp->Prop):Prop:=
 ∀i m ys H2,W i m ys H2->(J.stop i H2/\R H2)\/(J.go i H2/\∃N:List V->Hp->Prop,(∀ys' H',N ys' H'->∃m',m'<m/\W (i+1) m' ys' H')/\∀x H3,J.yld i H2 x H3->g x σ0 H3 λσ4 H4=>Oo σ0 σ4/\tc σ4 H4 λb H5=>
  if b=true then te σ4 H5 λy H6=>H6 D=some (.lst ys)/\ys.length<sizeLine/\N (ys++[y]) (upd H6 D (.lst (ys++[y])))
  else N ys H5)
def Zd6 (wi:TI)(g:TG)(tc:TT)(te:TE)(own:List Str)(fr:List (Str×Nat)):TE:=λσ H Q=>wi σ H λJ H1=>∀D,H1 D=none ->
 ∃W:Nat->Nat->List V->Hp->Prop,(∃m,W 0 m [] (upd H1 D (.lst [])))/\Jq J D g tc te (Om own fr σ) W λH2=>Q (.ref D) H2
section
variable {X:Cx}{qU iter elt:Expr}{ifs:List Expr}{scope:Scope}{cl:List (Str×Addr)}{own:List Str}{fr:List (Str×Nat)}{pos:Pos}{wi:TI}{g:TG}{tc:TT}{te:TE}
theorem Inv.sub_pins {qQ pins':List (Addr×Obj)}{σ:St}{H:Hp}{s:Shared}(I:Inv X qQ σ H s)(h:∀p∈pins',p∈qQ):Inv X pins' σ H s:=I.pins_of λp hp=>I.pin p (List.mem_append_right _ (h p hp))
theorem ZcI {qQ:List (Addr×Obj)}{σ:St}{H:Hp}{s:Shared}{C:Addr}{fp:List Addr}(S:JK X scope cl own fr)(I:Inv X qQ σ H s)(hf:∀b∈fp,ZaB X qQ H b)(hC:s.heap.objs.size<=C)(hfl:∀b∈fp,b<s.heap.objs.size) :
  (X.comp scope cl (own++fr.map (·.1)) C s H fp).Ok:=by
 refine ⟨I.ok.mod,?_,I.ok.glob,I.ok.blt,hC,λx y c h1 h2=>I.ok.inj x y c (S.cls x c h1) (S.cls y c h2),S.has,λx c z=>absurd z (by simp [Cx.comp]),I.ok.hd,I.ok.frames,.inl rfl,
  λb hb=>⟨Nat.ne_of_lt (Nat.lt_of_lt_of_le (hfl b hb) hC),λx c h=>(hf b hb).2.2.2.2.1 x c (S.cls x c h)⟩,I.bs,Nat.le_trans I.ok.bsz I.sz,λb o e hb=>?_,λb hb z=>?_,I.stack,I.stkFree⟩
 ·show (relabel scope X.env).kind=.function;exact S.kind
 ·rcases (hf b hb).2.2.2.1 with z | z
  ·exact I.ok.noex b o e z
  ·exact absurd (Nat.lt_of_lt_of_le (Heap.lt_size e) (Nat.le_trans I.ok.bsz z)) (Nat.lt_irrefl _)
 ·rcases List.mem_cons.mp (I.stkSub b z) with q | q
  ·exact (hf b hb).2.1 q
  ·exact (hf b hb).2.2.1 q
theorem UZ (own:List Str)(fr:List (Str×Nat))(σ:St):(Om own fr σ).length=(own++fr.map (·.1)).length:=by
 unfold Om;simp
theorem U0 {qQ:List (Addr×Obj)}{σ:St}{H:Hp}{s:Shared}{it:Addr}{fp:List Addr}{tn:Nat->Heap->Prop}{J:It}{E:Value->Shared->Prop}{RR:Value->Addr->Result->Shared->Prop}{Rf:Addr->Hp->Prop}(hc:X.calm=true)(S:JK X scope cl own fr)(I:Inv X qQ σ H s)(T:ZbQ X.prog X.w X.K qU J fp it tn)(st:tn 0 s.heap)(hf:∀b∈fp,ZaB X qQ H b)(hg:∀C s H fp,PG (X.comp scope cl (own++fr.map (·.1)) C s H fp) qU g)(ht:∀C s H fp,Zd5 (X.comp scope cl (own++fr.map (·.1)) C s H fp) ifs tc)(he:∀C s H fp,PE (X.comp scope cl (own++fr.map (·.1)) C s H fp) elt te)(hw:∀D,H D=none->∃W:Nat->Nat->List V->Hp->Prop,(∃m,W 0 m [] (upd H D (.lst [])))/\Jq J D g tc te (Om own fr σ) W (Rf D))(hRR:∀D C s' H',s.heap.objs.size<=C->C≠D->(∃m,s'.heap.Ns C m)->H' C=none->Un (frs X.stack) fp H H' s.heap s'.heap->HOk X.prog X.w H' s'.heap->AllBare s'.gens->s'.os=s.os->Rf D H'->RR (.ref D) C (.ok .next) s') :
  wpAny (model X.prog X.w) X.A (newList []) (λacc s3=>wpAny (model X.prog X.w) X.A (newFunctionEnv scope X.env.globals cl [] X.env.qual none .none (some X.env)) (λcenv s4=>
   codeAny (model X.prog X.w) X.A (.compStart (.ListComp elt [⟨qU,iter,ifs,0⟩] scope pos) 0 (.ref it) acc { cenv with scope:=relabel scope X.env }) (RR acc cenv.locals) s4) E s3) E s:=by
 have hfl:∀b∈fp,b<s.heap.objs.size:=λb hb=>by
  obtain ⟨o,e,_⟩:=T.obj 0 s.heap st b hb;exact Heap.lt_size e
 have hD:H s.heap.objs.size=none:=I.fresh;obtain ⟨W,⟨m0,w0⟩,turns⟩:=hw s.heap.objs.size hD;have I1:Inv X qQ σ (upd H s.heap.objs.size (.lst [])) { s with heap:=s.heap.push { cls:=.type "list", data:=.seq ([]:List Value).toArray },toks:=s.toks }:=I.lnew .nil (Nat.zero_le _);refine wpAny_newObj_type (wpAny_newFunctionEnv S.nocell (by intro y hy;simp at hy) (λh1 hns1 hsb1=>?_) S.kind);dsimp only at hns1 hsb1 ⊢;generalize hH2:s.heap.push { cls:=.type "list", dict:=none,data:=.seq ([]:List Value).toArray }=H2 at hns1 hsb1 ⊢ I1;have hCs:H2.objs.size=s.heap.objs.size+1:=by rw [<-hH2,Heap.size_push]
 have hCle:s.heap.objs.size<=H2.objs.size:=by lia
 have hDC:s.heap.objs.size≠H2.objs.size:=by lia
 have up1:∀b o,H2.get? b=some o->h1.get? b=some o:=λb o e=>hsb1.extBut b o (Nat.ne_of_lt (Heap.lt_size e)) (Heap.get?_push_of_some _ e);have up:∀b o,s.heap.get? b=some o->h1.get? b=some o:=λb o e=>up1 b o (hH2▸Heap.get?_push_of_some _ e);have okY:=ZcI (C:=H2.objs.size) S I hf hCle hfl;have I0:∀tk,Inv (X.comp scope cl (own++fr.map (·.1)) H2.objs.size s H fp) [] (Om own fr σ) (upd H s.heap.objs.size (.lst [])) { s with heap:=h1,toks:=tk }:=by
  intro tk;have hok1:HOk X.prog X.w (upd H s.heap.objs.size (.lst [])) h1:=I1.hok.kept up1;refine ⟨okY,rfl,I.bare,⟨λb o e n _ _=>up b o e,λb o e n _ _=>⟨o.slots,up b o e⟩,λb o e n _=>?_,λb o e _=>⟨o,up b o e⟩,λb xs q=>?_,λb o u q=>?_,λb ps q=>⟨#[],?_⟩⟩,
   ⟨_,hns1,λi x v e1 e2 e3=>?_⟩,λx c e=>?_,?_,λx c e=>?_,λp hp=>?_,hok1,UZ own fr σ⟩
  ·have e':s.heap.get? b=some o:=e;show upd H s.heap.objs.size (.lst []) b=none;rw [Gy (Nat.ne_of_lt (Heap.lt_size e'))];exact n
  ·rw [Gy (Gm q hD)];exact q
  ·rw [Gy (Gm q hD)];exact q
  ·have q':H b=some (.tbl ps):=q;rw [Gy (Gm q' hD),q'];simp
  ·-- the free names
   have e2':(Om own fr σ)[i]?=some (some v):=e2;have e1':(own++fr.map (·.1))[i]?=some x:=e1;unfold Om at e2';by_cases hi:i<own.length
   ·rw [List.getElem?_append_left (by simpa using hi),List.getElem?_map] at e2';cases q:own[i]? with
    | none=>rw [q] at e2';cases e2'
    | some y=>rw [q] at e2';cases e2'
   ·rw [List.getElem?_append_right (by simpa using hi),List.length_map,List.getElem?_map] at e2';rw [List.getElem?_append_right (by lia),List.getElem?_map] at e1';cases q:fr[i-own.length]? with
    | none=>rw [q] at e2';cases e2'
    | some p=>
     rw [q] at e1' e2';have ex:p.1=x:=Option.some.inj e1';have ev:(σ[p.2]?).join=some v:=Option.some.inj e2';have ev':σ[p.2]?=some (some v):=by
      cases z:σ[p.2]? with
      | none=>rw [z] at ev;cases ev
      | some o=>rw [z] at ev;cases o with
       | none=>cases ev
       | some v'=>have:v'=v:=Option.some.inj ev;rw [this]
     obtain ⟨f1,f2,f3⟩:=S.free p (List.mem_of_getElem? q);subst ex;obtain ⟨m,hn,hl⟩:=I.loc;have vis:Vis X.env.scope p.1:=by
      rcases f2 with f2 | f2
      ·exact .inr (.inl f2)
      ·exact .inr (.inr f2)
     obtain ⟨u,ru,lk⟩:=hl p.2 p.1 v f1 ev' vis;refine ⟨u,ru,?_⟩;rcases lk with ⟨k,_⟩ | ⟨k,c,e,z⟩
     ·rcases f2 with f2 | f2 <;> (rw [f2] at k;cases k)
     ·obtain ⟨c',hc'⟩:=S.has p.1 f3;have e':=S.cls _ _ hc';rw [e] at e';cases e';obtain ⟨oc,ho,hd⟩:=z;exact .inr ⟨f3,c,hc',⟨oc,up _ _ ho,hd⟩⟩
  ·obtain ⟨v,oc,ho,hd⟩:=I.cell x c (S.cls x c e);exact ⟨v,oc,up _ _ ho,hd⟩
  ·show upd H s.heap.objs.size (.lst []) H2.objs.size=none;rw [Gy (Ne.symm hDC)];exact I.hok.fresh hCle
  ·obtain ⟨v,z⟩:=I.cell x c (S.cls x c e);show upd H s.heap.objs.size (.lst []) c=none;rw [Gy (Nat.ne_of_lt z.lt)];exact I.freeC x c (S.cls x c e)
  ·exact absurd (show p∈([]:List (Addr×Obj)) from hp) (by simp)
 have fpf:∀b∈fp,upd H s.heap.objs.size (.lst []) b=none:=λb hb=>by rw [Gy (Nat.ne_of_lt (hfl b hb))];exact (hf b hb).1
 have st1:tn 0 h1:=T.keep 0 _ _ st λb hb o e=>up b o e;have stat:∀{H':Hp},(∀b∈fp,H' b=none)->∀b∈fp,ZaB (X.comp scope cl (own++fr.map (·.1)) H2.objs.size s H fp) [] H' b:=λhn b hb=>
  ⟨hn b hb,(okY.exf b hb).1,okY.exfs b hb,.inl hb,(okY.exf b hb).2,λp hp=>absurd (show p∈([]:List (Addr×Obj)) from hp) (by simp)⟩
 have loop:∀s3:Shared,(∃tk,s3={ s with heap:=h1,toks:=tk }) ->
   codeAny (model X.prog X.w) X.A (.compLoop (.ListComp elt [⟨qU,iter,ifs,0⟩] scope pos) 0 (.ref it) (.ref s.heap.objs.size) (compEnvC scope cl H2.objs.size X.env)) (RR (.ref s.heap.objs.size) H2.objs.size) s3:=by
  rintro s3 ⟨tk,rfl⟩;refine Wd (λn s'=>∃i ys H',Inv (X.comp scope cl (own++fr.map (·.1)) H2.objs.size s H fp) [] (Om own fr σ) H' s'/\tn i s'.heap/\(∀b∈fp,H' b=none)/\W i n ys H') ?_ m0 ⟨0,[],_,I0 tk,st1,fpf,w0⟩;rintro n s4 ⟨i,ys,H4,I4,st4,fr4,w4⟩;rcases turns i n ys H4 w4 with ⟨stop,q⟩ | ⟨go,N,hN,step⟩
  ·refine thn (T.done (X.comp scope cl (own++fr.map (·.1)) H2.objs.size s H fp) rfl rfl rfl hc i [] s4 _ H4 _ I4 (stat fr4) st4 stop) λr s5 ⟨hr,I5⟩=>?_;subst hr;exact hRR _ _ s5 H4 hCle (Ne.symm hDC) ⟨_,I5.loc.choose_spec.1⟩ I5.free I5.base I5.hok I5.bare I5.os q
  ·refine thn (T.item (X.comp scope cl (own++fr.map (·.1)) H2.objs.size s H fp) rfl rfl rfl hc i [] s4 _ H4 _ I4 (stat fr4) st4 go) λr s5 ⟨u,hr,h5⟩=>?_;subst hr;refine thn h5 λ_ s6 ⟨x,H6,I6,r6,y6,st6,fr6⟩=>?_;have I6':=I6.pinned (stat fr6) (T.obj _ _ st6);refine thn (hg H2.objs.size s H fp _ s6 _ H6 x u _ I6' r6 (step x H6 y6)) λ_ s7 ⟨σ7,H7,I7,k7,q7⟩=>?_;refine thn (ht H2.objs.size s H fp _ s7 σ7 H7 _ I7 q7) λok s8 ⟨H8,I8,q8⟩=>?_;have again:∀{s9:Shared}{σ9:St}{H9:Hp}{zs:List V},Inv (X.comp scope cl (own++fr.map (·.1)) H2.objs.size s H fp) ([]++V2 fp s6.heap) σ9 H9 s9->(∀(i:Nat) v,(Om own fr σ)[i]?=some (some v)->σ9[i]?=some (some v))->(∃m',m'<n/\W (i+1) m' zs H9) ->
     ∃m,m<n/\∃i ys H',Inv (X.comp scope cl (own++fr.map (·.1)) H2.objs.size s H fp) [] (Om own fr σ) H' s9/\tn i s9.heap/\(∀b∈fp,H' b=none)/\W i m ys H':=by
    intro s9 σ9 H9 zs I9 hσ ⟨m',hm,w9⟩;refine ⟨m',hm,i+1,zs,H9,(I9.sub_pins (λp hp=>absurd (show p∈([]:List (Addr×Obj)) from hp) (by simp))).weak ?_ hσ,T.keep _ _ _ st6 λb hb o e=>(I9.pin (b,o) (List.mem_append_right _ (List.mem_append_right _ (J8 hb e)))).1,λb hb=>?_,w9⟩
    ·rw [I9.len];exact UZ own fr σ
    ·obtain ⟨o,e,d⟩:=T.obj _ _ st6 b hb;exact (I9.pin (b,o) (List.mem_append_right _ (List.mem_append_right _ (J8 hb e)))).2.1
   cases ok with
   | false=>exact (if_neg Bool.false_ne_true).mpr (again I8 (Ob k7) (hN _ _ ((if_neg Bool.false_ne_true).mp q8)))
   | true=>
    refine (if_pos rfl).mpr ?_;have q8':=(if_pos rfl).mp q8;refine thn (he H2.objs.size s H fp _ s8 σ7 H8 _ I8 q8') λy s9 ⟨yv,H9,I9,r9,hD9,hz,q9⟩=>?_;refine thn (Ja _ s9 σ7 H9 (.ref s.heap.objs.size) [yv] (.ref s.heap.objs.size) [y] (λ_ H'=>H'=upd H9 s.heap.objs.size (.lst (ys++[yv]))) I9 rfl (.cons r9 .nil) ⟨_,ys,yv,rfl,rfl,hD9,hz,rfl⟩) λ_ s10 ⟨_,H10,I10,_,e10⟩=>?_;subst e10;exact again I10 (Ob k7) (hN _ _ q9)
 exact codeAny_compStart_list (loop _ ⟨_,rfl⟩) (T.self _ 0 _ _ _ st1 (loop _ ⟨_,rfl⟩))
theorem U1 {qQ:List (Addr×Obj)}{σ:St}{H H':Hp}{s s':Shared}{fp:List Addr}(I:Inv X qQ σ H s)(hf:∀b∈fp,ZaB X qQ H b)(un:Un (frs X.stack) fp H H' s.heap s'.heap)(hok:HOk X.prog X.w H' s'.heap)(bare:AllBare s'.gens)(os:s'.os=s.os):Inv X qQ σ H' s':=
 I.call' os un hok bare λb hb=>⟨(hf b hb).2.2.2.1,(hf b hb).2.1,(hf b hb).2.2.2.2.1,(hf b hb).2.2.2.2.2⟩
theorem XG {qQ:List (Addr×Obj)}{σ σ':St}{H H':Hp}{s s':Shared}{C:Addr}{h':Heap}(I:Inv X qQ σ H s)(hC:s.heap.objs.size<=C)(hn:H' C=none)(I':Inv X qQ σ' H' s')(sb:Heap.SameBut C s'.heap h') :
  Inv X qQ σ' H' { s' with heap:=h' }:=by
 obtain ⟨f0,f1,f2,f3,f4,f5⟩:=I.fpOk hC hn;exact I'.turned (t':=s'.toks) (λb o hb e=>(sb.2 b hb).trans e) f0 f1 f3 f4 f5
theorem G9 (hc:X.calm=true)(S:JK X scope cl own fr)(hi:PI X qU iter wi)(hg:∀C s H fp,PG (X.comp scope cl (own++fr.map (·.1)) C s H fp) qU g)(ht:∀C s H fp,Zd5 (X.comp scope cl (own++fr.map (·.1)) C s H fp) ifs tc)(he:∀C s H fp,PE (X.comp scope cl (own++fr.map (·.1)) C s H fp) elt te)(hs:∀x,foldedSetIterable iter X.env x=pure x:=by intro _;rfl):PE X (.ListComp elt [⟨qU,iter,ifs,0⟩] scope pos) (Zd6 wi g tc te own fr):=by
 intro qQ s σ H Q I h;rw [eval_ListComp];refine wpAny_comprehension_free (use:=none) rfl hs S.clos S.kind S.names (thn (hi qQ s σ H _ I h) λv s1 h1=>thn h1 λitv s2 h2=>?_);obtain ⟨it,fp,tn,J,H2,e,I2,T,st2,f2,hw⟩:=h2;subst e;refine U0 (RR:=λacc C=>compPost (model X.prog X.w) X.A X.xe none (EP X qQ σ Q) acc C) hc S I2 T st2 f2 hg ht he hw ?_;rintro D C s' H' hC hDC ⟨m,hn⟩ hCf un hok bare os q;refine ⟨m,hn,λh' hs'=>⟨.ref D,H',?_,rfl,q⟩⟩;exact XG (C:=C) (σ:=σ) I2 hC hCf (U1 I2 f2 un hok bare os) hs'
theorem UB {i:Nat}{y:Str}{py spos:Pos}(hN:X.N.Nodup)(hi':X.N[i]?=some y)(hx:Loc X.env.scope y)(hc:X.calm=true)(S:JK X scope cl own fr)(hi:PI X qU iter wi)(hg:∀C s H fp,PG (X.comp scope cl (own++fr.map (·.1)) C s H fp) qU g)(ht:∀C s H fp,Zd5 (X.comp scope cl (own++fr.map (·.1)) C s H fp) ifs tc)(he:∀C s H fp,PE (X.comp scope cl (own++fr.map (·.1)) C s H fp) elt te)(hf:X.fn y=true\/X.env.scope.names.lookup y=some .local:=by first | exact .inl rfl | exact .inr rfl | assumption)(hsw:swapsWith (.ListComp elt [⟨qU,iter,ifs,0⟩] scope pos) (some (.Name y py)) spos.line X.env=pure true:=by rfl)(hs:∀x,foldedSetIterable iter X.env x=pure x:=by intro _;rfl):PS X (.Assign [.Name y py] (.ListComp elt [⟨qU,iter,ifs,0⟩] scope pos) spos) (Zfm (Zd6 wi g tc te own fr) (G0 i)):=by
 intro qQ s σ H Dn I h;rw [exec_Assign_Name_used _ _ _ _ hsw];refine wpAny_bind (wpAny_standAt (wpAny_bind ?_));show wpAny _ X.A (do let _ <- comprehension (.ListComp elt [⟨qU,iter,ifs,0⟩] scope pos) scope X.env _ (newList []) false (eval iter X.env) (some (assign (.Name y py) X.env))) _ _ s;refine wpAny_bind (wpAny_mono (wpAny_comprehension_free (use:=some (assign (.Name y py) X.env)) (Q:=λ_ s'=>SP X qQ Dn .next s') rfl hs S.clos S.kind S.names (thn (hi qQ s σ H _ I h) λv s1 h1=>thn h1 λitv s2 h2=>?_))
  (λ_ s' hq=>wpAny_pure (wpAny_pure hq)) λ_ _ e=>e)
 obtain ⟨it,fp,tn,J,H2,e,I2,T,st2,f2,hw⟩:=h2;subst e;refine U0 (RR:=λacc C=>compPost (model X.prog X.w) X.A X.xe (some (assign (.Name y py) X.env)) (λ_ s'=>SP X qQ Dn .next s') acc C) hc S I2 T st2 f2 hg ht he hw ?_;rintro D C s' H' hC hDC ⟨m,hn⟩ hCf un hok bare os q;have I3:Inv X qQ σ H' s':=U1 I2 f2 un hok bare os;show wpAny _ X.A (assign (.Name y py) X.env (.ref D)) _ _ s';refine wpAny_assign_Name (VZ I3 hN hi' hx (v:=.ref D) rfl (λs4 I4 ⟨a,hsa,ha⟩=>?_) hf);have hCa:C≠a:=by
  rcases ha with z | z
  ·rw [z];exact Nat.ne_of_gt (Nat.lt_of_lt_of_le I2.lt hC)
  ·obtain ⟨v,q⟩:=I2.cell y a z;exact Nat.ne_of_gt (Nat.lt_of_lt_of_le q.lt hC)
 refine ⟨m,hn.sameBut hsa hCa,λh' hs'=>⟨_,H',XG (C:=C) (σ:=σ) I2 hC hCf I4 hs',q⟩⟩
end
theorem GS {K:PySem.W.Frag}{a D:Addr}{xs:List V}{g:TG}{tc:TT}{te:TE}{σ0:St}{R:Hp->Prop}{H1:Hp}(Pv:Nat->List V->Hp->Prop)(h0:Pv 0 [] (upd H1 D (.lst [])))(hl:∀i ys H,i<=xs.length->Pv i ys H->SqL K H a xs)(hs:∀i x ys H,xs[i]?=some x->Pv i ys H->g x σ0 H λσ4 H4=>Oo σ0 σ4/\tc σ4 H4 λb H5=>if b=true then te σ4 H5 λy H6=>H6 D=some (.lst ys)/\ys.length<sizeLine/\Pv (i+1) (ys++[y]) (upd H6 D (.lst (ys++[y]))) else Pv (i+1) ys H5)(hd:∀ys H,Pv xs.length ys H->R H):∃W:Nat->Nat->List V->Hp->Prop,(∃m,W 0 m [] (upd H1 D (.lst [])))/\Jq (Itl K a) D g tc te σ0 W R:=by
 refine ⟨λi m ys H=>m=xs.length-i/\i<=xs.length/\Pv i ys H,⟨_,rfl,Nat.zero_le _,h0⟩,?_⟩;rintro i m ys H ⟨rfl,hi,p⟩;have q:=hl i ys H hi p;by_cases hlt:i<xs.length
 ·refine .inr ⟨⟨xs,xs[i],q,by simp [hlt]⟩,Pv (i+1),λys' H' p'=>⟨xs.length-(i+1),by lia,rfl,hlt,p'⟩,λx H' y=>?_⟩;obtain ⟨e,y⟩:=y;subst e;exact hs i x ys _ (y xs q) p
 ·have e:i=xs.length:=by lia
  subst e;exact .inl ⟨⟨xs,q,Nat.le_refl _⟩,hd ys H p⟩
theorem O1 {lo:Int}{n:Nat}{D:Addr}{g:TG}{tc:TT}{te:TE}{σ0:St}{R:Hp->Prop}{H1:Hp}(Pv:Nat->List V->Hp->Prop)(h0:Pv 0 [] (upd H1 D (.lst [])))(hs:∀i ys H,i<n->Pv i ys H->g (.int (lo+i)) σ0 H λσ4 H4=>Oo σ0 σ4/\tc σ4 H4 λb H5=>if b=true then te σ4 H5 λy H6=>H6 D=some (.lst ys)/\ys.length<sizeLine/\Pv (i+1) (ys++[y]) (upd H6 D (.lst (ys++[y]))) else Pv (i+1) ys H5)(hd:∀ys H,Pv n ys H->R H):∃W:Nat->Nat->List V->Hp->Prop,(∃m,W 0 m [] (upd H1 D (.lst [])))/\Jq (Itr lo n) D g tc te σ0 W R:=by
 refine ⟨λi m ys H=>m=n-i/\i<=n/\Pv i ys H,⟨_,rfl,Nat.zero_le _,h0⟩,?_⟩;rintro i m ys H ⟨rfl,hi,p⟩;by_cases hlt:i<n
 ·refine .inr ⟨hlt,Pv (i+1),λys' H' p'=>⟨n-(i+1),by lia,rfl,hlt,p'⟩,λx H' y=>?_⟩;obtain ⟨e,y⟩:=y;subst e y;exact hs i ys _ hlt p
 ·have e:i=n:=by lia
  subst e;exact .inl ⟨Nat.le_refl _,hd ys H p⟩
theorem Jx {X:Cx}{scope:Scope}{own:List Str}(hf:∀y∈scope.names,y.2≠.free)(hc:∀y∈scope.names,y.2≠.cell)(hk:scope.kind=.function)(hn:∀y∈scope.names,y.2=.local->scope.names.lookup y.1=some .local):JK X scope [] own []:=by
 have rel:(relabel scope X.env).names=scope.names:=by
  unfold relabel;dsimp only;refine (List.map_congr_left λp hp=>?_).trans (List.map_id _);obtain ⟨n,k⟩:=p;have:(k == NameKind.free)=false:=by
   have:=hf _ hp;cases k <;> first | rfl | exact absurd rfl this
  simp [this]
 refine ⟨closureFor_none hf,hc,hk,hn,λy c h=>by simp at h,λy h=>?_,λp hp=>by simp at hp⟩;rw [rel] at h;rcases h with h | h
 ·exact absurd rfl (hc _ (PySem.mem_of_lookup h))
 ·exact absurd rfl (hf _ (PySem.mem_of_lookup h))
end L2
namespace L2
open PySem PySem.Spec PyProof.Rows
theorem ObjOk.there {P:Program}{w:World}{H:Hp}{h:Heap}{a:Addr}{u:HO}(ok:ObjOk P w H h a u):∃v,h.get? a=some v:=by
 cases u with
 | lst xs=>obtain ⟨_,_,_,_,e⟩:=ok;exact ⟨_,e⟩
 | tup xs=>obtain ⟨_,_,_,o,e,_⟩:=ok;exact ⟨_,e⟩
 | dK kvs=>obtain ⟨_,_,_,_,o,_,_,e,_⟩:=ok;exact ⟨_,e⟩
 | dT kvs=>obtain ⟨_,_,_,_,o,_,_,e,_⟩:=ok;exact ⟨_,e⟩
 | set S n=>obtain ⟨o,_,_,_,e,_⟩:=ok;exact ⟨_,e⟩
 | ins C dx fs=>obtain ⟨_,_,_,e,_⟩:=ok;exact ⟨_,e⟩
 | own y=>obtain ⟨_,e⟩:=ok;exact ⟨_,e⟩
 | xd fs=>obtain ⟨_,⟨_,_,_,e,_⟩,_⟩:=ok;exact ⟨_,e⟩
 | rng lo hi=>obtain ⟨_,_,_,e⟩:=ok;exact ⟨_,e⟩
 | frz ob u=>obtain ⟨e,_⟩:=ok;exact ⟨_,e⟩
 | tbl ps=>exact ⟨_,show h.get? a=some _ from ok⟩
 | met f y=>exact ⟨_,show h.get? a=some _ from ok⟩
 | ext φ=>obtain ⟨_,⟨_,e⟩,_⟩:=ok;exact ⟨_,e⟩
def Zfv (P:Program)(w:World)(outer:List Env)(H H':Hp)(s:Shared)(a C:Addr)(s':Shared):Prop:=
 ∃(t:Addr)(B:Heap),s'.os=s.os/\AllBare s'.gens/\Un (frs outer) [] H H' s.heap s'.heap/\HOk P w H' s'.heap/\Heap.FlyingW B outer a (.ref C) (.ref t) s'.heap /\
  (∀b o,s'.heap.get? b=some o->H' b≠none->B.get? b=some o)/\(∀b o0 o,s.heap.get? b=some o0->s'.heap.get? b=some o->b ∉ frs outer->B.get? b=some o)
def CXr (P:Program)(w:World):CXT:=λouter H s E e s'=>∃(a C:Addr)(H':Hp),e=.ref a/\Zfv P w outer H H' s a C s'/\E (.ref C) none H'
section
variable {X:Cx}{qQ:List (Addr×Obj)}{σ:St}{H:Hp}{s:Shared}
def XH (X:Cx)(E:XK):Prop:=∀(qQ:List (Addr×Obj))(σ:St)(H:Hp)(s:Shared)(h':Heap)(a C:Addr)(vs:List Value),Inv X qQ σ H s->Heap.MadeExcOf s.heap h' a (.ref C) vs->E (.ref C) none H->X.xe (.ref a) { s with heap:=h' }
theorem G3 {P:Program}{w:World}{K:W.Frag}{mg:Str->Option Value}{base:Heap}{N:List Str}{qual:Str}{scope:Scope}{f:Addr}{cd:Value}{A:Around}{outer:List Env}{s:Shared}{H:Hp}{E:XK} :
  XH (Y6 (CXr P w) P w K mg base N qual scope f cd A outer s H E) E:=by
 intro qQ σ H1 s1 h' a C vs I hx hE;have hfr:=I.ok.frames;have hst:s1.heap.FunFrames base (envOfC qual scope s.heap.objs.size f cd::outer):=I.stack;have hin:∀env∈(envOfC qual scope s.heap.objs.size f cd::outer),∀b,env.frame=some b->b∈frs (envOfC qual scope s.heap.objs.size f cd::outer):=λenv he b hb=>List.mem_filterMap.mpr ⟨env,he,hb⟩;have inB:∀b o,s1.heap.get? b=some o->b ∉ frs (envOfC qual scope s.heap.objs.size f cd::outer)->(W.hideAll s1.heap (frs (envOfC qual scope s.heap.objs.size f cd::outer))).get? b=some o:=λb o e n=>W.hideAll_get _ e n;refine wpAny_leaves_madeW (base:=W.hideAll s1.heap (frs (envOfC qual scope s.heap.objs.size f cd::outer))) hfr rfl (λb o q=>W.of_hideAll _ q) (W.funFrames_hide hst hin) hx λh2 t fl tu tn sm=>?_;refine ⟨a,C,H1,rfl,⟨t,_,I.os,I.bare,⟨λb o e n hb _=>?_,λb o e n hb _=>?_,λb o e n _=>?_,λb o e _=>?_,I.base.tups,I.base.frzs,I.base.tbls⟩,λb u e=>?_,fl,λb o e n=>?_,λb o0 o e0 e nb=>?_⟩,hE⟩
 ·have e1:s1.heap.get? b=some o:=I.base.keep b o e n hb (by intro z;exact absurd (show b∈([]:List Addr) from z) (by simp));refine fl.1 b o (inB b o e1 λz=>?_);rcases List.mem_cons.mp (I.stkSub b z) with q | q
  ·exact absurd (Nat.lt_of_lt_of_le (Heap.lt_size e) I.ok.above) (by rw [q];exact Nat.lt_irrefl _)
  ·exact hb q
 ·obtain ⟨sl,e1⟩:=I.base.slot b o e n hb (by intro z;exact absurd (show b∈([]:List Addr) from z) (by simp));have nf:∀vs,o.data≠.fields vs:=by
   obtain ⟨_,o',ho',hnf⟩:=I.funs.mem (show b∈(outer.filterMap (·.frame)) from hb);rw [e1] at ho';cases ho';exact hnf
  obtain ⟨sl',e2⟩:=sm b { o with slots:=sl } (hx.keeps b _ e1) nf;exact ⟨sl',e2⟩
 ·exact I.base.free b o e n (by intro z;exact absurd (show b∈([]:List Addr) from z) (by simp))
 ·obtain ⟨o1,e1⟩:=I.base.there b o e (by intro z;exact absurd (show b∈([]:List Addr) from z) (by simp));by_cases hb:b∈frs (envOfC qual scope s.heap.objs.size f cd::outer)
  ·obtain ⟨_,o',ho',hnf⟩:=hst.mem hb;rw [e1] at ho';cases ho';obtain ⟨sl',e2⟩:=sm b o1 (hx.keeps b _ e1) hnf;exact ⟨_,e2⟩
  ·exact ⟨o1,fl.1 b o1 (inB b o1 e1 hb)⟩
 ·have trk:∀c v,s1.heap.get? c=some v->H1 c≠none->h2.get? c=some v:=λc v q hc=>fl.1 c v (inB c v q λz=>hc (I.stkFree c z));refine (I.hok b u e).stay (λc v hc q=>trk c v q ?_) (λ_ q=>q) λ_ _ q=>q;rcases hc with z | z
  ·rw [z,e];simp
  ·rw [z];simp
 ·cases q':H1 b with
  | none=>exact absurd q' n
  | some u=>
   obtain ⟨v,q⟩:=(I.hok b u q').there;have nb:b ∉ frs (envOfC qual scope s.heap.objs.size f cd::outer):=λz=>n (I.stkFree b z);have e2:=fl.1 b v (inB b v q nb);rw [e] at e2;cases e2;exact inB b _ q nb
 ·obtain ⟨o1,e1⟩:=I.base.there b o0 e0 (by intro z;exact absurd (show b∈([]:List Addr) from z) (by simp));have nb':b ∉ frs (envOfC qual scope s.heap.objs.size f cd::outer):=λz=>by
   rcases List.mem_cons.mp (I.stkSub b z) with q | q
   ·exact absurd (Nat.lt_of_lt_of_le (Heap.lt_size e0) I.ok.above) (by rw [q];exact Nat.lt_irrefl _)
   ·exact nb q
  have e2:=fl.1 b o1 (inB b o1 e1 nb');have e':h2.get? b=some o:=e;rw [e'] at e2;cases e2;exact inB b _ e1 nb'
theorem ZaN {P:Program}{w:World}{outer:List Env}{H H':Hp}{s s':Shared}{a C t:Addr}{B h2:Heap}(un:Un (frs outer) [] H H' s.heap s'.heap)(hok:HOk P w H' s'.heap)(fr:s'.heap.FunFrames B outer)(trk:∀b o,s'.heap.get? b=some o->H' b≠none->B.get? b=some o)(old:∀b o0 o,s.heap.get? b=some o0->s'.heap.get? b=some o->b ∉ frs outer->B.get? b=some o)(st:B.StaysIn h2)(sm:s'.heap.UpToSlots h2) :
  Un (frs outer) [] H H' s.heap h2/\HOk P w H' h2:=by
 refine ⟨⟨λb o e n hb hx=>st b o (old b o o e (un.keep b o e n hb hx) hb),λb o e n hb hx=>?_,un.free,λb o e hx=>?_,un.tups,un.frzs,un.tbls⟩,λb u e=>?_⟩
 ·obtain ⟨sl,e1⟩:=un.slot b o e n hb hx;obtain ⟨_,o',ho',hnf⟩:=fr.mem hb;rw [e1] at ho';cases ho';obtain ⟨sl',e2⟩:=sm b _ e1 hnf;exact ⟨sl',e2⟩
 ·obtain ⟨o1,e1⟩:=un.there b o e hx;by_cases hb:b∈frs outer
  ·obtain ⟨_,o',ho',hnf⟩:=fr.mem hb;rw [e1] at ho';cases ho';obtain ⟨sl',e2⟩:=sm b _ e1 hnf;exact ⟨_,e2⟩
  ·exact ⟨o1,st b o1 (old b o o1 e e1 hb)⟩
 ·refine (hok b u e).stay (λc v hc q=>st c v (trk c v q ?_)) (λ_ q=>q) λ_ _ q=>q;rcases hc with z | z
  ·rw [z,e];simp
  ·rw [z];simp
end
end L2
namespace L2
open PySem PySem.Spec PyProof.Rows
abbrev ZgH:List Value:=[.type "ValueError", .type "Exception", .type "BaseException", .type "object"]
abbrev ExcC (K:W.Frag)(C:Addr):Prop:=W.excIn K C ZgH "ValueError.__new__" = true
theorem ZcJ {K:W.Frag}{h:Heap}{C:Addr}(KX:K.In h)(ex:ExcC K C):∃mro' ns' mN',(∃nm' qn' bs' hd' sn' sub' ab' col' dd' j0 j1 j2 j3 j5,
  h.get? C=some (excClassObj nm' qn' C ns' bs' mro' hd' sn' sub' ab' col' dd' j0 j1 j2 j3 j5 "ValueError.__new__"))/\h.Ns ns' mN'/\mN' "__init__" = none/\OwnTail h ZgH mro':=by
 have ex':=ex;unfold ExcC W.excIn at ex';split at ex'
 ·rename_i dd' cd' sl' lk;have lk':=KX _ _ lk;split at ex'
  ·rename_i C' rest' j0 j1 j2 j3 n' j5 hm hs;rw [Bool.and_eq_true,Bool.and_eq_true,Bool.and_eq_true,Bool.and_eq_true,Bool.and_eq_true,beq_iff_eq,beq_iff_eq,beq_iff_eq] at ex';obtain ⟨⟨⟨⟨⟨z1,z2⟩,z3⟩,z4⟩,z5⟩,z6⟩:=ex';have z3':cd'.hasDel=false:=by simpa using z3
   subst z1 z2;cases cd' with
   | mk a1 a2 a3 a4 a5 a6 a7 a8 a9 a10 a11=>
    have hm':a3=.ref C'::rest':=hm;have h11:a11=false:=z3';subst hm' h11;have es:sl'=#[j0,j1,j2,j3,some (.builtin "ValueError.__new__"),j5]:=by
     cases sl' with
     | mk l=>exact congrArg Array.mk hs
    subst es;exact ⟨rest',a4,_,⟨_,_,_,_,_,_,_,_,_,_,_,_,_,_,lk'⟩,.of_isNs (W.isNs_of_in KX z5),W.nsMap_none_of_in KX z5 z6,W.tail_of_in KX z4⟩
  ·cases ex'
 ·cases ex'
section
variable {X:Cx}
def Zd7 (C:Addr)(E:XK)(t:TA):TS:=λ_ σ H=>t σ H λvs H1=>vs.length<=sizeLine/\E (.ref C) none H1
theorem JM {C:Addr}{E:XK}{x:Str}{np qK pos:Pos}{e:Expr}{es:List Expr}{t:TA}(hc:X.calm=true)(hR:XH X E)(hg:Gl X x)(hm:X.mg x=some (.ref C))(ex:ExcC X.K C)(ha:PA X (e::es) t)(hdb:(x == ("__debug__" : Str))=false:=by decide)(he:starEach (e::es) X.env=(false,eval e X.env)::starEach es X.env:=by rfl)(hpl:(backTo qK (starEach es X.env)).any (·.1)=false:=by rfl) :
  PS X (.Raise (some (.Call (.Name x np) (e::es) [] qK)) none pos) (Zd7 C E t):=by
 intro qQ s σ H D I h;obtain ⟨mro',ns',mN',⟨nm',qn',bs',hd',sn',sub',ab',col',dd',j0,j1,j2,j3,j5,hC⟩,hN,hni,T⟩:=ZcJ I.mod.kin ex;refine wpAny_Raise_call_subT (C:=C) (nm:=nm') (q:=qn') (N:=ns') (bs:=bs') (bm:=mro') (hdct:=hd') (sn:=sn') (sub:=sub') (ab:=ab') (col:=col') (dd:=dd') (k0:=j0) (k1:=j1) (k2:=j2) (k3:=j3) (k5:=j5)
  PySem.F.excBase_ValueError (mN:=mN') (T.hasType PySem.F.excBase_ValueError.hasBase) (I.ok.hd hc) (by rw [he];show (false || (backTo qK (starEach es X.env)).any (·.1))=false;rw [hpl];rfl) hni (WT I hg hm ⟨rfl,?_⟩ hdb)
 have hA:=ha qK qQ s σ H _ I h;rw [he] at hA ⊢;refine Calls.evalArgs_plain (thn hA λus s2 ⟨vs,H2,I2,r2,hl,q2⟩=>?_);exact ⟨rfl,by rw [<-r2.length];exact hl,I2.bk _ _ hC,hN.keeps I2.bk,T.keeps I2.bk,λh' a hm=>hR qQ σ H2 s2 h' a C us I2 hm q2⟩
variable {qQ:List (Addr×Obj)}{σ:St}{H:Hp}{s:Shared}
end
end L2
namespace L2
open PySem PySem.Spec PyProof.Rows
mutual
inductive DatV (K:W.Frag)(H:Hp):V->PyData->Prop
 | non:DatV K H .non .none
 | bl (b:Bool):DatV K H (.bl b) (.bool b)
 | int (i:Int):DatV K H (.int i) (.int i)
 | str (x:Str):DatV K H (.str x) (.str x)
 | lst {a:Addr} {xs:List V} {ds:List PyData}:SqL K H a xs->DatVs K H xs ds->DatV K H (.ref a) (.list ds)
 | tup {a:Addr} {xs:List V} {ds:List PyData}:SqT K H a xs->DatVs K H xs ds->DatV K H (.ref a) (.tuple ds)
inductive DatVs (K:W.Frag)(H:Hp):List V->List PyData->Prop
 | nil:DatVs K H [] []
 | cons {x:V} {d:PyData} {xs:List V} {ds:List PyData}:DatV K H x d->DatVs K H xs ds->DatVs K H (x::xs) (d::ds)
end
section
variable {X:Cx}{qQ:List (Addr×Obj)}{σ:St}{H:Hp}{s:Shared}
mutual
theorem DatV.reads (I:Inv X qQ σ H s):∀{x:V}{d:PyData}{u:Value},DatV X.K H x d->RelV x u->∃as,Reads s.heap u d as
 | _,_,_,.non,r=>by cases r;exact ⟨_,.none⟩
 | _,_,_,.bl b,r=>by cases r;exact ⟨_,.bool b⟩
 | _,_,_,.int i,r=>by obtain ⟨t,rfl⟩:=r;exact ⟨_,.int i t⟩
 | _,_,_,.str x,r=>by obtain ⟨t,rfl⟩:=r;exact ⟨_,.str x t⟩
 | _,_,_,.lst hq hs,r=>by
  cases r;obtain ⟨its,rv,⟨o,n,e,c,dd,dt⟩,_⟩:=I.list hq;obtain ⟨as,ra⟩:=DatVs.reads I hs rv;exact ⟨_,.list e c dt (by simpa using ra)⟩
 | _,_,_,.tup hq hs,r=>by
  cases r;obtain ⟨its,rv,⟨o,e,c,n,dt⟩,_⟩:=I.tuple hq;obtain ⟨as,ra⟩:=DatVs.reads I hs rv;exact ⟨_,.tuple e c dt (by simpa using ra)⟩
theorem DatVs.reads (I:Inv X qQ σ H s):∀{xs:List V}{ds:List PyData}{us:List Value},DatVs X.K H xs ds->Vals xs us->∃as,ReadsAll s.heap us ds as
 | _,_,_,.nil,.nil=>⟨_,.nil⟩
 | _,_,_,.cons h hs,.cons r rs=>by
  obtain ⟨as,ra⟩:=DatV.reads I h r;obtain ⟨bs,rb⟩:=DatVs.reads I hs rs;exact ⟨_,.cons ra rb⟩
end
end
def ZgI (K:W.Frag)(neg:Bool):R2:=λx y H Q=>∃d1 d2,DatV K H x d1/\DatV K H y d2/\SeqAt.shaped d1=true/\SeqAt.shaped d2=true/\Q (.bl (neg != PyData.eqv d1 d2)) H
theorem Zd8 {X:Cx}(hu:X.A.units+64<cLine):OpR X (compareOp .NotEq) (ZgI X.K true):=by
 intro qQ s σ H x y v u Q I rx ry h;obtain ⟨d1,d2,h1,h2,s1,s2,q⟩:=h;obtain ⟨as,r1⟩:=h1.reads I rx;obtain ⟨bs,r2⟩:=h2.reads I ry;exact ne_dataH r1 r2 s1 s2 hu ⟨.bl _,H,I,by cases PyData.eqv d1 d2 <;> rfl,q⟩
def Lt2 (p:Nat)(a:Int):Prop:=a.natAbs<2 ^ p
def Zfw (i j:Int):Prop:=0<j/\Lt2 9000 j
theorem ZaO {X:Cx}:OpR X (binaryOp .FloorDiv) (rI Zfw λi j=>.int (i / j)):=opI λi j _ _ _ _ _ hc q=>by
 have h1:(0:Int)<j:=hc.1;have h2:j.natAbs<2 ^ 9000:=hc.2;refine floordiv_int (by lia) (by rw [Int.fdiv_eq_ediv_of_nonneg i (by lia)];exact q) (.inl (PyProof.noPylong_of_log2 ?_));exact (Nat.log2_lt (by lia)).mpr h2
theorem Same.new {H:Hp}{p:Addr}{o:HO}(h:H p=none):Same H (upd H p o):=λb u e=>by rw [Gy (Gm e h)];exact e
theorem Same.put {H H1:Hp}{p:Addr}{o:HO}(s:Same H H1)(h:H p=none):Same H (upd H1 p o):=λb u e=>by rw [Gy (Gm e h)];exact s b u e
theorem Gq {H:Hp}{p b:Addr}{o u:HO}(h:H b=some u)(n:b≠p):upd H p o b=some u:=by rw [Gy n];exact h
inductive Prs (H:Hp):List V->List (Int×Int)->Prop
 | nil:Prs H [] []
 | cons {p:Addr} {a b:Int} {xs:List V} {rs:List (Int×Int)}:H p=some (.tup [.int a,.int b])->Prs H xs rs->Prs H (.ref p::xs) ((a,b)::rs)
theorem Prs.len {H:Hp}{xs:List V}{rs:List (Int×Int)}(h:Prs H xs rs):xs.length=rs.length:=by
 induction h with
 | nil=>rfl
 | cons _ _ ih=>rw [List.length_cons,List.length_cons,ih]
theorem Prs.snoc {H:Hp}{xs:List V}{rs:List (Int×Int)}(h:Prs H xs rs){p:Addr}{a b:Int}(e:H p=some (.tup [.int a,.int b])):Prs H (xs++[.ref p]) (rs++[(a,b)]):=by
 induction h with
 | nil=>exact .cons e .nil
 | cons e1 _ ih=>exact .cons e1 ih
theorem Prs.keep {H H':Hp}{xs:List V}{rs:List (Int×Int)}(h:Prs H xs rs)(k:∀p ys,H p=some (.tup ys)->H' p=some (.tup ys)):Prs H' xs rs:=by
 induction h with
 | nil=>exact .nil
 | cons e1 _ ih=>exact .cons (k _ _ e1) ih
theorem Prs.same {H H':Hp}{xs:List V}{rs:List (Int×Int)}(h:Prs H xs rs)(k:Same H H'):Prs H' xs rs:=h.keep λp ys e=>k p _ e
theorem Ul {H:Hp}{l:Addr}{zs:List V}{o:HO}(h:H l=some (.lst zs)):∀p ys,H p=some (.tup ys)->upd H l o p=some (.tup ys):=λp ys e=>Gq e (JY e h (λz=>by cases z))
theorem XI {H:Hp}{l:Addr}{o:HO}(h:H l=none):∀p ys,H p=some (.tup ys)->upd H l o p=some (.tup ys):=λp ys e=>Gq e (Gm e h)
def prD (r:Int×Int):PyData:=.tuple [.int r.1,.int r.2]
theorem Prs.dats {K:W.Frag}{H:Hp}{xs:List V}{rs:List (Int×Int)}(h:Prs H xs rs):DatVs K H xs (rs.map prD):=by
 induction h with
 | nil=>exact .nil
 | cons e _ ih=>exact .cons (.tup (SqT.of e) (.cons (.int _) (.cons (.int _) .nil))) ih
theorem Ze (r q:Int×Int):PyData.eqv (prD r) (prD q)=decide (r=q):=by
 obtain ⟨a,b⟩:=r;obtain ⟨c,d⟩:=q;simp only [prD,PyData.eqv,PyData.eqvAll,Prod.mk.injEq];by_cases h1:a=c <;> by_cases h2:b=d <;> simp [h1,h2]
end L2
namespace L2
open PySem PySem.Spec PyProof.Rows
section
variable {P:Program}{w:World}{K:W.Frag}{mg:Str->Option Value}{base:Heap}
theorem Fun.okR {x qual:Str}{st:Stmt}{f:Addr}{fd:FuncData}{N ps:List Str}{k:Nat}{sp:Sp}(F:Fun K x qual st f fd)(S:Gr N ps (Gc st))(len:∀vs H Q E,sp vs H Q E->vs.length=ps.length)(qG:∀(cdv:Value)(A:Around)(outer:List Env)(s:Shared)(H:Hp)(vs:List V)(Q:VK)(E:XK),Room k (A.deeper (envOfC qual (Gc st) s.heap.objs.size f cdv))->sp vs H Q E ->
   ∃t,PSs (Y6 (CXr P w) P w K mg base N qual (Gc st) f cdv A outer s H E) (Gn st) t/\t { nx:=λ_ H'=>Q .non H',rt:=Q } (start N vs) H):GG P w K mg base (CXr P w) (k+1) f fd ps sp:=by
 obtain ⟨oc,od,kV,doc,pm,an,cdv,ct,osl,rfl,lk,hcd⟩:=F.ex;refine ZcA lk hcd S len λA outer s H vs Q E hr hsp=>?_;obtain ⟨t,h,q⟩:=qG cdv A outer s H vs Q E hr hsp;exact ⟨t,h,q⟩
theorem Vo {X:Cx}:V3 (CXr X.prog X.w) X E0:=λ_ _ _ _ _ _ _ ⟨_,_,_,_,_,h⟩=>h.elim
end
theorem O2:bootBuiltins "tuple" = some (.type "tuple"):=by first | rfl | decide +kernel
theorem J0:bootBuiltins "list" = some (.type "list"):=by first | rfl | decide +kernel
section
variable {X:Cx}(K:W.Frag)
theorem UR (h:X.K=K:=by rfl):IxR X (ZgE K):=h▸ZcD
theorem Op (h:X.K=K:=by rfl):IxR X (ZgF K):=h▸Zd2
theorem kIn (h:X.K=K:=by rfl):OpR X (compareOp .In) (rIn K false):=h▸Y9
theorem Zf (h:X.K=K:=by rfl):OpR X (compareOp .NotIn) (rIn K true):=h▸V9
theorem ZbY (h:X.K=K:=by rfl):JC X (.builtin "len") (λxs H Q=>∃p ys,xs=[.ref p]/\(SqL K H p ys\/SqT K H p ys)/\Q (.int ys.length) H):=h▸Wa
theorem Vp (h:X.K=K:=by rfl):JC X (.type "list") (λxs H Q=>∃p ys,xs=[.ref p]/\(SqL K H p ys\/SqT K H p ys)/\∀l,H l=none->Q (.ref l) (upd H l (.lst ys))):=h▸Wb
theorem Zfb (hu:X.A.units+64<cLine)(h:X.K=K:=by rfl):OpR X (compareOp .NotEq) (ZgI K true):=h▸Zd8 hu
theorem kSl (h:X.K=K:=by rfl):SlR X (ZgG K):=h▸ZcE
theorem WX {es:List Expr}{k:Nat}{t:TGs}{n:Nat}{pos:Pos}(hc:X.calm=true)(h:PGs X es t)(hK:X.K=K:=by rfl)(hn:(assignEach es X.env).length=n:=by rfl)(hst:(assignEach es X.env).findIdx? (·.1)=none:=by rfl):PG X (.Tuple es k pos) (Zgy K n t):=hK▸ZdS hc h hn hst
theorem JV {tg l:Expr}{tl:TE}(hl:PE X l tl)(h:X.K=K:=by rfl):PI X tg l (ZdU K tl):=h▸Zcs hl
end
end L2
namespace L2
open PySem
def WY (r c:Nat)(p:Nat):List (Int×Int):=
 (if ((p:Int)+1) % (c:Int)=0 then [] else [((p:Int),(p:Int)+1)])++(if (p:Int)+(c:Int)<(r:Int) * (c:Int) then [((p:Int),(p:Int)+(c:Int))] else [])
def gRoads (r c i:Nat):List (Int×Int):=(List.range i).flatMap (WY r c)
theorem Ou (r c i:Nat):gRoads r c (i+1)=gRoads r c i++WY r c i:=by
 unfold gRoads;rw [List.range_succ,List.flatMap_append,List.flatMap_singleton]
theorem XJ {H H2:Hp}{l t:Addr}{xs:List V}{rs:List (Int×Int)}{a b:Int}(s:Same H H2)(hl:H l=none)(h2:H2 l=some (.lst xs))(hp:Prs H2 xs rs)(ht:H2 t=none) :
  Same H (upd (upd H2 t (.tup [.int a,.int b])) l (.lst (xs++[.ref t])))/\upd (upd H2 t (.tup [.int a,.int b])) l (.lst (xs++[.ref t])) l=some (.lst (xs++[.ref t])) /\
   Prs (upd (upd H2 t (.tup [.int a,.int b])) l (.lst (xs++[.ref t]))) (xs++[.ref t]) (rs++[(a,b)]):=by
 have hne:t≠l:=λz=>by rw [z,h2] at ht;cases ht
 have s1:Same H (upd H2 t (.tup [.int a,.int b])):=s.put (s.free ht);refine ⟨s1.put hl,Gb,?_⟩;have k1:=hp.keep (XI (o:=.tup [.int a,.int b]) ht);have k2:=k1.keep (Ul (H:=upd H2 t (.tup [.int a,.int b])) (l:=l) (zs:=xs) (o:=.lst (xs++[.ref t])) (Gq h2 (Ne.symm hne)));exact k2.snoc (by rw [Gy hne,Gb])
end L2
namespace L2
open PySem PySem.Spec PyProof.Rows
def AllP {α:Type}(P:α->Prop):List α->Prop
 | []=>True
 | x::r=>P x/\AllP P r
theorem AllP.mem {α:Type}{P:α->Prop}:∀{l:List α},AllP P l->∀x∈l,P x
 | _::_,h,_,.head _=>h.1
 | _::_,h,x,.tail _ m=>AllP.mem h.2 x m
theorem Go {X:Cx}{scope:Scope}{cl:List (Str×Addr)}{own:List Str}{fr:List (Str×Nat)}(L:List (Str×NameKind))(hcl:closureFor scope X.env=pure cl)(hL:(relabel scope X.env).names=L)(hc:∀y∈scope.names,y.2≠.cell)(hk:scope.kind=.function)(hn:∀y∈scope.names,y.2=.local->scope.names.lookup y.1=some .local)(hcs:AllP (λp=>X.env.cells.lookup p.1=some p.2) cl)(qY:AllP (λp=>(p.2=.cell\/p.2=.free)->∃c,cl.lookup p.1=some c) L)(hfr:AllP (λp=>X.N[p.2]?=some p.1/\(X.env.kindOf p.1=some .cell\/X.env.kindOf p.1=some .free)/\(L.lookup p.1=some .cell\/L.lookup p.1=some .free)) fr):JK X scope cl own fr:=
 ⟨hcl,hc,hk,hn,λy c h=>hcs.mem (y,c) (PySem.mem_of_lookup h),λy h=>by
  rw [hL] at h;rcases h with h | h
  ·exact qY.mem _ (PySem.mem_of_lookup h) (.inl rfl)
  ·exact qY.mem _ (PySem.mem_of_lookup h) (.inr rfl),λp hp=>by
  rw [hL];exact hfr.mem p hp⟩
theorem GN {k:NameKind}{P:Prop}(h:k=.cell\/k=.free)(h1:(k == .cell)=false:=by rfl)(h2:(k == .free)=false:=by rfl):P:=by
 rcases h with z | z
 ·subst z;exact absurd h1 (by decide)
 ·subst z;exact absurd h2 (by decide)
theorem ZaP:bootBuiltins "min" = some (.builtin "min"):=by first | rfl | decide +kernel
def Gk (n:Int)(rs:List (Int×Int)):Prop:=1<=n/\n<=16/\rs.length<=30/\(∀p∈rs,0<=p.1/\p.1<p.2/\p.2<n)/\rs.Nodup
instance (n:Int) (rs:List (Int×Int)):Decidable (Gk n rs):=by unfold Gk;infer_instance
theorem Prs.get {H:Hp}:∀{xs:List V}{rs:List (Int×Int)},Prs H xs rs->∀{i:Nat}{x:V},xs[i]?=some x->∃t r,x=.ref t/\H t=some (.tup [.int r.1,.int r.2])/\rs[i]?=some r
 | _,_,.nil,_,_,h=>by simp at h
 | _,_,.cons (a:=a) (b:=b) e _,0,_,h=>by
  simp at h;subst h;exact ⟨_,(a,b),rfl,e,rfl⟩
 | _,_,.cons _ r,i+1,x,h=>by
  obtain ⟨t,q,h1,h2,h3⟩:=Prs.get r (i:=i) (x:=x) (by simpa using h);exact ⟨t,q,h1,h2,by simpa using h3⟩
theorem Prs.erase {H:Hp}:∀{xs:List V}{rs:List (Int×Int)},Prs H xs rs->∀i:Nat,Prs H (xs.eraseIdx i) (rs.eraseIdx i)
 | _,_,.nil,_=>.nil
 | _,_,.cons _ r,0=>r
 | _,_,.cons e r,i+1=>.cons e (Prs.erase r i)
theorem JN {t u:TS}{D:Ends}{σ:St}{H:Hp}(Pm:St->Hp->Prop)(h2:∀ σ' H',Pm σ' H'->u D σ' H')(h1:(∀ σ' H',Pm σ' H'->u D σ' H')->t { D with nx:=u D } σ H):Zgv t u D σ H:=h1 h2
end L2
namespace L2
open PySem PySem.Spec PyProof.Rows
section
variable {X:Cx}(K:W.Frag)
def ZcK:List V->Hp->VK->Prop:=λxs H Q=>∃(p:Addr)(ns:List Int),xs=[.ref p]/\SqL K H p (ns.map V.int)/\ns.length<64/\∀(l:Addr)(ns':List Int),H l=none->ns'.Perm ns->ns'.Pairwise (· <= ·)->Q (.ref l) (upd H l (.lst (ns'.map V.int)))
theorem Zg (h:X.K=K:=by rfl):JC X (.builtin "sorted") (ZcK K):=by
 subst h;intro qQ s σ H xs us Q I rv h;obtain ⟨p,ns,rfl,hq,h64,q⟩:=h;obtain ⟨u,rfl,ru⟩:=rv.one;cases ru;obtain ⟨its,r,pl,hz⟩:=I.list hq;have hl:=r.length;rw [List.length_map] at hl;refine sorted_ints pl.isList (OX r) (by lia) λout ns' h1 h2 h3=>?_;obtain ⟨e,he⟩:=sortedAll_at s.heap its out;have rv':=UA h1;have qV:(ns'.map V.int).length<=sizeLine:=by
  have:=h2.length_eq;rw [List.length_map] at hz ⊢
  lia
 refine ⟨.ref _,_,I.laid (a:=s.heap.objs.size+1) (t':=s.toks) (o:=.lst (ns'.map V.int)) (λb o e=>sortedAll_old e) (Nat.le_succ _) ⟨qV,out.toList,e,rv',he⟩,rfl,q _ ns' (I.hok.fresh (Nat.le_succ _)) h2 h3⟩
end
section
variable {X:Cx}
theorem JO:UnR X (unaryOp .USub) (rU λi=>.int (-i)):=by
 intro qQ s σ H x v Q I rx h;obtain ⟨i,rfl,q⟩:=h;obtain ⟨t,rfl⟩:=rx;exact neg_int ⟨.int (-i),H,I.tok _,⟨_,rfl⟩,q⟩
end
theorem Zd9 {xs:List V}{k:Nat}:WL xs none (some (k:Int))=xs.take k:=by
 unfold WL;rw [HT.sIx_none,HT.sIx_nat,List.drop_zero,Nat.sub_zero];by_cases h:k<=xs.length
 ·rw [Nat.min_eq_left h]
 ·rw [Nat.min_eq_right (by lia),List.take_length,List.take_of_length_le (by lia)]
theorem XM {xs:List V}{k:Nat}:WL xs (some (k:Int)) none=xs.drop k:=by
 unfold WL;rw [HT.sIx_none,HT.sIx_nat];by_cases h:k<=xs.length
 ·rw [Nat.min_eq_left h,List.take_of_length_le (by rw [List.length_drop];exact Nat.le_refl _)]
 ·rw [Nat.min_eq_right (by lia),List.drop_length,List.drop_of_length_le (by lia),List.take_nil]
theorem Jy {K:W.Frag}{H:Hp}:∀ns:List Int,DatVs K H (ns.map V.int) (ns.map PyData.int)
 | []=>.nil
 | n::ns=>.cons (.int n) (Jy ns)
theorem XN:∀ns:List Int,PyData.canLayAll0 (ns.map PyData.int)=true
 | []=>by simp [PyData.canLayAll0]
 | n::ns=>by
  rw [List.map_cons];simp [PyData.canLayAll0,PyData.canLay0,XN ns]
theorem U2:∀ns:List Int,PyData.depthAll (ns.map PyData.int)<=1
 | []=>by simp [PyData.depthAll]
 | n::ns=>by
  have ih:=U2 ns;rw [List.map_cons];simp only [PyData.depthAll,PyData.depth]
  lia
theorem Jm (ns:List Int):SeqAt.shaped (.list (ns.map PyData.int))=true:=by
 unfold SeqAt.shaped;rw [Bool.and_eq_true];have:=U2 ns;refine ⟨by simp only [PyData.canLay0];exact XN ns,decide_eq_true ?_⟩;simp only [PyData.depth]
 lia
theorem Vq (ns ms:List Int):PyData.eqv (.list (ns.map PyData.int)) (.list (ms.map PyData.int))=decide (ns=ms):=by
 rw [<-W.ked_eqvAll];simp only [PyData.eqv]
end L2
namespace L2
open PySem PySem.Spec PyProof.Rows
theorem We {P:Program}{w:World}{K:W.Frag}{mg:Str->Option Value}{base:Heap}{N:List Str}{qual:Str}{scope:Scope}{f:Addr}{cd:Value}{A:Around}{outer:List Env}{s:Shared}{H:Hp}{E:XK} :
  V3 (CXr P w) (Y6 (CXr P w) P w K mg base N qual scope f cd A outer s H E) E:=by
 intro qQ σ H1 s1 ev s' I h;obtain ⟨a,C,H',rfl,⟨t,B,os,bare,un,hok,fl,trk,old⟩,hE⟩:=h;have hfr:=I.ok.frames;have nox:∀b:Addr,b ∉ (Y6 (CXr P w) P w K mg base N qual scope f cd A outer s H E).ex:=λb z=>absurd (show b∈([]:List Addr) from z) (by simp);refine wpAny_leaves_onW hfr rfl fl λh2 fl2 sm=>?_;obtain ⟨u2,k2⟩:=ZaN (t:=t) (a:=a) (C:=C) un hok fl.2.2.1 trk old fl2.1 sm;have u1:Un (frs (envOfC qual scope s.heap.objs.size f cd::outer)) [] H H1 s.heap s1.heap:=Un.mono I.base (λb hb=>by
  have hb':b∈frs outer:=hb;obtain ⟨env,he,q⟩:=List.mem_filterMap.mp hb';exact List.mem_filterMap.mpr ⟨env,List.mem_cons_of_mem _ he,q⟩) (λb hb=>absurd hb (nox b))
 have u3:=u1.trans u2;have nst:∀b o,s.heap.get? b=some o->b ∉ frs outer->b ∉ frs (envOfC qual scope s.heap.objs.size f cd::outer):=λb o e hb z=>by
  rcases List.mem_cons.mp (I.stkSub b z) with q | q
  ·exact absurd (Nat.lt_of_lt_of_le (Heap.lt_size e) I.ok.above) (by rw [q];exact Nat.lt_irrefl _)
  ·exact hb q
 have inst:∀b,b∈frs outer->b∈frs (envOfC qual scope s.heap.objs.size f cd::outer):=λb hb=>by
  obtain ⟨env,he,q⟩:=List.mem_filterMap.mp hb;exact List.mem_filterMap.mpr ⟨env,List.mem_cons_of_mem _ he,q⟩
 refine ⟨a,C,H',rfl,⟨t,B,os.trans I.os,bare,⟨λb o e n hb hx=>u3.keep b o e n (nst b o e hb) hx,λb o e n hb hx=>u3.slot b o e n (inst b hb) hx,u3.free,u3.there,u3.tups,u3.frzs,u3.tbls⟩,k2,fl2,λb o e n=>?_,λb o0 o e0 e nb=>?_⟩,hE⟩
 ·cases q':H' b with
  | none=>exact absurd q' n
  | some u=>
   obtain ⟨v,q⟩:=(hok b u q').there;have e1:=trk b v q n;have e2:=fl2.1 b v e1;have e':h2.get? b=some o:=e;rw [e'] at e2;cases e2;exact e1
 ·obtain ⟨o1,e1⟩:=u1.there b o0 e0 (by simp);obtain ⟨o2,e2⟩:=un.there b o1 e1 (by simp);have e3:=old b o1 o2 e1 e2 (nst b o0 e0 nb);have e4:=fl2.1 b o2 e3;have e':h2.get? b=some o:=e;rw [e'] at e4;cases e4;exact e3
section
variable {X:Cx}
def ZgJ (K:W.Frag)(neg:Bool):R2:=λx y H Q=>∃p xs d ds,y=.ref p/\(SqL K H p xs\/SqT K H p xs)/\DatV K H x d/\DatVs K H xs ds/\SeqAt.shaped d=true/\(∀e∈ds,SeqAt.shaped e=true)/\Q (.bl (neg != ds.any λe=>PyData.eqv e d)) H
open Classical in
noncomputable def Ov (h:Heap)(u:Value):PyData:=if q:∃d as,Reads h u d as/\SeqAt.shaped d=true then choose q else .none
theorem ZaQ {h:Heap}{u:Value}{d:PyData}{as:List Addr}(r:Reads h u d as)(hs:SeqAt.shaped d=true):Ov h u=d:=by
 have q:∃d as,Reads h u d as/\SeqAt.shaped d=true:=⟨d,as,r,hs⟩;unfold Ov;rw [dif_pos q];obtain ⟨as',r',s'⟩:=Classical.choose_spec q;exact SeqAt.Reads.unique _ _ _ _ _ (SeqAt.canLay_of_shaped s') r' r
theorem Zh {h:Heap}:∀{us:List Value}{ds:List PyData}{as:List Addr},ReadsAll h us ds as->(∀e∈ds,SeqAt.shaped e=true)->(∀u∈us,∃as',Reads h u (Ov h u) as'/\SeqAt.shaped (Ov h u)=true)/\us.map (Ov h)=ds
 | _,_,_,.nil,_=>⟨λu hu=>by simp at hu,rfl⟩
 | _,_,_,.cons r rs,hs=>by
  obtain ⟨i1,i2⟩:=Zh rs λe he=>hs e (List.mem_cons_of_mem _ he);have h0:=hs _ (List.mem_cons_self ..);have e0:=ZaQ r h0;refine ⟨λu hu=>?_,by rw [List.map_cons,e0,i2]⟩;rcases List.mem_cons.mp hu with rfl | hu
  ·rw [e0];exact ⟨_,r,h0⟩
  ·exact i1 u hu
theorem ZaR {h:Heap}{us:List Value}{ds:List PyData}{d:PyData}(e:us.map (Ov h)=ds):us.any (λu=>PyData.eqv (Ov h u) d)=ds.any λe=>PyData.eqv e d:=by
 rw [<-e,List.any_map]
 rfl
theorem Zea {neg:Bool}{c:CmpOp}(hc:(neg=false/\c=.In)\/(neg=true/\c=.NotIn))(hu:X.A.units+65<cLine):OpR X (compareOp c) (ZgJ X.K neg):=by
 intro qQ s σ H x y v u Q I rx ry h;obtain ⟨p,xs,d,ds,rfl,hq,hd,hds,sd,sds,q⟩:=h;cases ry;obtain ⟨as,ra⟩:=hd.reads I rx;have hu1:X.A.in1.units+64<cLine:=by rw [Around.in1_units];lia
 have key:∀its:List Value,Vals xs its->(∀w∈its,SeqAt.EqAt X.A.in1 s w v (PyData.eqv (Ov s.heap w) d))/\its.toArray.any (λw=>PyData.eqv (Ov s.heap w) d)=ds.any λe=>PyData.eqv e d:=λits r=>by
  obtain ⟨bs,rb⟩:=hds.reads I r;obtain ⟨k1,k2⟩:=Zh rb sds;refine ⟨λw hw=>?_,?_⟩
  ·obtain ⟨as',r',s'⟩:=k1 w hw;exact W.keq_at r' ra s' sd hu1
  ·rw [List.any_toArray];exact ZaR k2
 rcases hq with hq | hq
 ·obtain ⟨its,r,pl,hz⟩:=I.list hq;obtain ⟨k1,k2⟩:=key its r;rcases hc with ⟨rfl,rfl⟩ | ⟨rfl,rfl⟩
  ·refine SeqAt.in_listAt (λw=>PyData.eqv (Ov s.heap w) d) pl.isList (λw hw=>k1 w (by simpa using hw)) ⟨.bl _,H,I,rfl,?_⟩;rw [k2];simpa using q
  ·refine SeqAt.notIn_listAt (λw=>PyData.eqv (Ov s.heap w) d) pl.isList (λw hw=>k1 w (by simpa using hw)) ⟨.bl _,H,I,rfl,?_⟩;rw [k2];simpa using q
 ·obtain ⟨its,r,pl,hz⟩:=I.tuple hq;obtain ⟨k1,k2⟩:=key its r;rcases hc with ⟨rfl,rfl⟩ | ⟨rfl,rfl⟩
  ·refine SeqAt.in_tupleAt (λw=>PyData.eqv (Ov s.heap w) d) pl (λw hw=>k1 w (by simpa using hw)) ⟨.bl _,H,I,rfl,?_⟩;rw [k2];simpa using q
  ·refine SeqAt.notIn_tupleAt (λw=>PyData.eqv (Ov s.heap w) d) pl (λw hw=>k1 w (by simpa using hw)) ⟨.bl _,H,I,rfl,?_⟩;rw [k2];simpa using q
theorem Zhp (K:W.Frag)(hu:X.A.units+65<cLine)(h:X.K=K:=by rfl):OpR X (compareOp .In) (ZgJ K false):=h▸Zea (.inl ⟨rfl,rfl⟩) hu
theorem U3 (r:Int×Int):SeqAt.shaped (prD r)=true:=by
 unfold SeqAt.shaped prD;simp [PyData.canLay0,PyData.canLayAll0,PyData.depth,PyData.depthAll]
theorem ZaS (rs:List (Int×Int)):∀e∈rs.map prD,SeqAt.shaped e=true:=λe he=>by
 obtain ⟨r,_,rfl⟩:=List.mem_map.mp he;exact U3 r
end
end L2
namespace L2
open PySem PySem.Spec PyProof.Rows
section
variable {X:Cx}
def Ite (K:W.Frag)(a:Addr):It:=
 ⟨λi H=>∃xs x,SqL K H a xs/\xs[i]?=some x,λi H x H'=>∃T y,x=.ref T/\H T=none/\H'=upd H T (.tup [.int (i:Nat),y])/\∀xs,SqL K H a xs->xs[i]?=some y,λi H=>∃xs,SqL K H a xs/\xs.length<=i⟩
theorem Zi {P:Program}{w:World}{K:W.Frag}{elts:List Expr}{k:Nat}{pos:Pos}(a e it:Addr)(hne:e≠it) :
  ZbQ P w K (.Tuple elts k pos) (Ite K a) [e,it] e (λi h=>(∃old,IsEnum h e it ((i:Nat):Int) old)/\h.IsListIter it a i) where
 mem:=by simp
 obj:=λi h st b hb=>by
  obtain ⟨⟨old,he⟩,⟨o,ei,c,d⟩⟩:=st;rcases List.mem_cons.mp hb with rfl | hb
  ·exact ⟨_,he,λv z=>by
    have z':Data.fields _=Data.cell v:=z;cases z'⟩
  ·have eb:b=it:=by simpa using hb
   subst eb;exact ⟨o,ei,λv z=>by rw [d] at z;cases z⟩
 keep:=λi h h' st q=>by
  obtain ⟨⟨old,he⟩,hi⟩:=st;exact ⟨⟨old,q e (by simp) _ he⟩,hi.at λo ho=>q it (by simp) o ho⟩
 item:=by
  intro X hP hw hK hc i qQ s σ H E I hf st hg;subst hP hw hK;obtain ⟨xs,x,hq,hx⟩:=hg;obtain ⟨its,rv,p,hz⟩:=I.list hq;obtain ⟨u,hu,ru⟩:=rv.get hx;obtain ⟨⟨old,he⟩,hit⟩:=st;refine wpAny_pyNext_enum_item he hit p.isList (x:=u) (by simpa using hu) hne λh1 heo hit1 ht1 hz1 hk1=>?_;refine ⟨_,rfl,wpAny_letOwnedTupleGo_enum (s:={ s with heap:=h1,toks:=s.toks+1 }) heo λh2 he2 hs2=>?_⟩;have hs2':Heap.SameBut e h1 h2:=hs2;have hfr:H s.heap.objs.size=none:=I.fresh;have hel:e<s.heap.objs.size:=Heap.lt_size he;have kk:∀b o,b ∉ [e,it]->s.heap.get? b=some o->h2.get? b=some o:=λb o hb q=>by
   have n1:b≠e:=λz=>hb (by simp [z]);have n2:b≠it:=λz=>hb (by simp [z]);exact (hs2'.2 b n1).trans (hk1 b o n1 n2 q)
  have nT:∀b o,s.heap.get? b=some o->b≠s.heap.objs.size:=λb o q=>Nat.ne_of_lt (Heap.lt_size q);have trk:∀c u,H c=some u->c ∉ [e,it]:=λc u q z=>by
   rw [(hf c z).1] at q;cases q
  refine ⟨.ref s.heap.objs.size,upd H s.heap.objs.size (.tup [.int (i:Nat),x]),I.call' (ch:=[e,it]) rfl ⟨λb o q _ _ hb=>kk b o hb q,λb o q _ _ hb=>⟨o.slots,kk b o hb q⟩,λb o q n _=>by rw [Gy (nT b o q)];exact n,
   λb o q hb=>⟨o,kk b o hb q⟩,λb ys q=>by rw [Gy (Gm q hfr)];exact q,λb o u q=>by rw [Gy (Gm q hfr)];exact q,λb ps q=>⟨#[],by rw [Gy (Gm q hfr),q];simp⟩⟩ (λb v q=>?_) I.bare (λb hb=>?_),
   rfl,⟨_,x,rfl,hfr,rfl,λys hy=>by rw [I.list_inj hy hq];exact hx⟩,⟨⟨_,by rw [Int.natCast_add];exact he2⟩,hit1.extBut hs2'.extBut (Ne.symm hne)⟩,λb hb=>?_⟩
  ·by_cases hb:b=s.heap.objs.size
   ·subst hb;rw [Gb] at q;cases q;refine ⟨by have h16:(16777216:Nat)=sizeLine:=sizeLine_eq.symm;rw [<-h16];show 2<=16777216;lia,[.int (i:Nat) s.toks,u],.cons ⟨_,rfl⟩ (.cons ru .nil),⟨_,(hs2'.2 _ (Nat.ne_of_gt hel)).trans ht1,rfl,_,rfl⟩⟩
   ·rw [Gy hb] at q;refine (I.hok b v q).stay (λc v' hc z=>kk c v' ?_ z) (λc z=>by rw [Gy (Gm z hfr)];exact z) λc ys z=>by rw [Gy (Gm z hfr)];exact z
    rcases hc with rfl | hc
    ·exact trk _ _ q
    ·exact trk _ _ hc
  ·obtain ⟨f0,f1,f2,f3,f4,f5⟩:=hf b hb;exact ⟨f3,f1,f4,f5⟩
  ·have ho:∃o,s.heap.get? b=some o:=by
    rcases List.mem_cons.mp hb with rfl | hb
    ·exact ⟨_,he⟩
    ·have eb:b=it:=by simpa using hb
     subst eb;obtain ⟨o,ei,_⟩:=hit;exact ⟨o,ei⟩
   obtain ⟨o,ho⟩:=ho;rw [Gy (nT b o ho)];exact (hf b hb).1
 done:=by
  intro X hP hw hK hc i qQ s σ H E I hf st hg;subst hP hw hK;obtain ⟨xs,hq,hx⟩:=hg;obtain ⟨its,rv,p,hz⟩:=I.list hq;obtain ⟨⟨old,he⟩,hit⟩:=st;obtain ⟨f0,f1,f2,f3,f4,f5⟩:=hf it (by simp);have hl:=rv.length;exact wpAny_pyNext_enum_end (I.ok.hd hc) he hit p.isList (by simp;lia) λh' eb=>⟨rfl,I.turned (t':=s.toks) (λb o hb q=>eb b o hb q) f0 f1 f3 f4 f5⟩
 self:=λ_ _ _ _ _ ⟨⟨_,he⟩,_⟩ h=>wpAny_pyIter_enum he h
def Zeb (K:W.Frag)(ta:TA):TI:=λσ H R=>ta σ H λvs H1=>∃a xs,vs=[.ref a]/\SqL K H1 a xs/\R (Ite K a) H1
theorem ZcL {elts:List Expr}{k:Nat}{p0:Pos}{l:Expr}{ta:TA}{p pos:Pos}(hg:Gl X "enumerate")(hm:X.mg "enumerate" = none)(ha:PA X [l] ta)(hs:starEach [l] X.env=[(false,eval l X.env)]:=by rfl) :
  PI X (.Tuple elts k p0) (.Call (.Name "enumerate" p) [l] [] pos) (Zeb X.K ta):=by
 intro qQ s σ H R I h;refine Call_ (Ua I hg hm boot_enumerate (PyProof.Rows.callWith_type1 (thn (ha pos qQ s σ H _ I h) λus s1 ⟨vs,H1,I1,r1,q1⟩=>?_) hs rfl));obtain ⟨a,xs,e,hq,q⟩:=q1;subst e;obtain ⟨u,rfl,ru⟩:=r1.one;cases ru;obtain ⟨its,rv,pl,hz⟩:=I1.list hq;refine call_enumerate_list pl.isList λh' hE hI hsz hk=>?_;refine wpAny_pyIter_enum hE ?_;refine ⟨s1.heap.objs.size+1,[s1.heap.objs.size+1,s1.heap.objs.size],_,_,H1,rfl,I1.kept (t':=s1.toks) hk,Zi a _ _ (Nat.succ_ne_self _),⟨⟨_,hE⟩,hI⟩,λb hb=>?_,q⟩;have e:s1.heap.objs.size<=b:=by
  rcases List.mem_cons.mp hb with rfl | hb
  ·exact Nat.le_succ _
  ·have eb:b=s1.heap.objs.size:=by simpa using hb
   rw [eb];exact Nat.le_refl _
 exact I1.fpOk e (I1.hok.fresh e)
theorem Wf (K:W.Frag){elts:List Expr}{k:Nat}{p0:Pos}{l:Expr}{ta:TA}{p pos:Pos}(hg:Gl X "enumerate")(hm:X.mg "enumerate" = none)(ha:PA X [l] ta)(h:X.K=K:=by rfl)(hs:starEach [l] X.env=[(false,eval l X.env)]:=by rfl) :
  PI X (.Tuple elts k p0) (.Call (.Name "enumerate" p) [l] [] pos) (Zeb K ta):=h▸ZcL hg hm ha hs
end
theorem Wg {K:PySem.W.Frag}{a D:Addr}{xs:List V}{g:TG}{tc:TT}{te:TE}{σ0:St}{R:Hp->Prop}{H1:Hp}(Pv:Nat->List V->Hp->Prop)(h0:Pv 0 [] (upd H1 D (.lst [])))(hl:∀i ys H,i<=xs.length->Pv i ys H->SqL K H a xs)(hs:∀i x ys H T,xs[i]?=some x->Pv i ys H->H T=none->g (.ref T) σ0 (upd H T (.tup [.int (i:Nat),x])) λσ4 H4=>Oo σ0 σ4/\tc σ4 H4 λb H5=>if b=true then te σ4 H5 λy H6=>H6 D=some (.lst ys)/\ys.length<sizeLine/\Pv (i+1) (ys++[y]) (upd H6 D (.lst (ys++[y]))) else Pv (i+1) ys H5)(hd:∀ys H,Pv xs.length ys H->R H):∃W:Nat->Nat->List V->Hp->Prop,(∃m,W 0 m [] (upd H1 D (.lst [])))/\Jq (Ite K a) D g tc te σ0 W R:=by
 refine ⟨λi m ys H=>m=xs.length-i/\i<=xs.length/\Pv i ys H,⟨_,rfl,Nat.zero_le _,h0⟩,?_⟩;rintro i m ys H ⟨rfl,hi,p⟩;have q:=hl i ys H hi p;by_cases hlt:i<xs.length
 ·refine .inr ⟨⟨xs,xs[i],q,by simp [hlt]⟩,Pv (i+1),λys' H' p'=>⟨xs.length-(i+1),by lia,rfl,hlt,p'⟩,λx H' y=>?_⟩;obtain ⟨T,y',rfl,hT,rfl,y⟩:=y;exact hs i y' ys _ T (y xs q) p hT
 ·have e:i=xs.length:=by lia
  subst e;exact .inl ⟨⟨xs,q,Nat.le_refl _⟩,hd ys H p⟩
end L2
namespace L2
open PySem PySem.Spec PyProof.Rows
section
variable {X:Cx}{a b c d:Expr}{ta tb tc td:TE}{pos:Pos}
theorem Vr:bootBuiltins "all" = some (.builtin "all"):=by first | rfl | decide +kernel
theorem ZaT:bootBuiltins "set" = some (.type "set"):=by first | rfl | decide +kernel
theorem UC:∀{bs:List Bool}{us:List Value},Vals (bs.map V.bl) us->us=bs.map Value.bool
 | [],_,.nil=>rfl
 | b::bs,_,.cons r t=>by rw [List.map_cons,<-UC t];cases r;rfl
theorem Zj (bs:List Bool):(List.range bs.length).all (λi=>bs.getD i false)=bs.all id:=by
 induction bs with
 | nil=>rfl
 | cons b bs ih=>
  rw [List.length_cons,List.range_succ_eq_map,List.all_cons,List.all_map,List.all_cons];show (b && _)=(b && _)
  congr 1
theorem ZgK (K:W.Frag)(hc:X.calm=true)(h:X.K=K:=by rfl):JC X (.builtin "all") (λxs H Q=>∃(p:Addr)(bs:List Bool),xs=[.ref p]/\SqL K H p (bs.map V.bl)/\Q (.bl (bs.all id)) H):=by
 subst h;intro qQ s σ H xs us Q I rv h;obtain ⟨p,bs,rfl,hq,q⟩:=h;obtain ⟨u,rfl,ru⟩:=rv.one;cases ru;obtain ⟨its,r,pl,hz⟩:=I.list hq;have e:=UC r;have hh:X.A.in1.handled=none:=I.ok.hd hc;obtain ⟨o,eo,_⟩:=id pl.isList;have hlt:p<s.heap.objs.size:=Heap.lt_size eo;refine call_all_walk (wpAny_pyIter_list pl.isList ?_);refine ⟨s.heap.objs.size,_,_,_,_,_,λi=>bs.getD i false,rfl,Walks.list hh s.heap.objs.size p (Nat.ne_of_lt hlt) its.toArray,⟨⟨_,Heap.get?_push_size _ rfl,rfl,rfl⟩,pl.isList.at λo e=>Heap.get?_push_of_some _ e⟩,?_,λh' tk hk=>?_⟩
 ·intro i v s' Q' E' hv hq';have hv':its[i]?=some v:=by simpa using hv
  rw [e,List.getElem?_map] at hv';cases z:bs[i]? with
  | none=>rw [z] at hv';cases hv'
  | some b=>
   rw [z] at hv';cases hv';have eb:bs.getD i false=b:=by rw [List.getD_eq_getElem?_getD,z];rfl
   exact wpAny_truthy_bool (by rw [<-eb];exact hq')
 ·have hl:its.toArray.size=bs.length:=by rw [List.size_toArray,e,List.length_map]
  have I1:Inv X qQ σ H { s with heap:=s.heap.push { cls:=.type "list_iterator", data:=.fields #[.ref p,.int 0 0] } }:=I.kept (t':=s.toks) λb o e=>Heap.get?_push_of_some _ e;refine ⟨.bl _,H,I.kept λb o e'=>hk b o ?_ (Heap.get?_push_of_some _ e'),?_,q⟩
  ·intro z;have:b=s.heap.objs.size:=by simpa using z
   exact absurd (Heap.lt_size e') (by rw [this];exact Nat.lt_irrefl _)
  ·show Value.bool _=Value.bool _;rw [hl,Zj]
theorem Zfx (K:W.Frag)(hc:X.calm=true)(h:X.K=K:=by rfl):JC X (.type "set") (λxs H Q=>∃(p:Addr)(ns:List Int),xs=[.ref p]/\SqL K H p (ns.map V.int)/\ns.length<1000 /\
  ∀l,H l=none->Q (.ref l) (upd H l (.set (λk'=>(firstMet (λi=>ns.getD i 0) ns.length).any (· == k')) (firstMet (λi=>ns.getD i 0) ns.length).length))):=by
 subst h;intro qQ s σ H xs us Q I rv h;obtain ⟨p,ns,rfl,hq,hn,q⟩:=h;obtain ⟨u,rfl,ru⟩:=rv.one;cases ru;obtain ⟨its,r,pl,hz⟩:=I.list hq;have hl:=r.length;rw [List.length_map] at hl;refine call_set_list (I.ok.hd hc) pl.isList (by simpa using OX r) (by rw [List.size_toArray,<-hl];exact Nat.lt_of_lt_of_le (Nat.succ_lt_succ hn) (by decide)) λh' tk hS hk=>?_;have es:its.toArray.size=ns.length:=by rw [List.size_toArray];exact hl.symm
 rw [es] at hS;exact ⟨.ref _,_,I.laid (o:=.set _ _) (λb o e=>hk b o (Heap.lt_size e) e) (Nat.le_refl _) hS,rfl,q _ I.fresh⟩
theorem ZcM:JC X (.builtin "len") (λxs H Q=>∃p S n,xs=[.ref p]/\H p=some (.set S n)/\n<2 ^ 60/\Q (.int (n:Nat)) H):=by
 intro qQ s σ H xs us Q I rv h;obtain ⟨p,S,n,rfl,hp,hn,q⟩:=h;obtain ⟨u,rfl,ru⟩:=rv.one;cases ru;obtain ⟨o,es,ep,t,e1,e2,e3,e4,e5,e6,e7,rfl⟩:=I.hok p _ hp;refine call_len_set e1 e2 e3 e7 (by lia) ?_;exact ⟨.int _,H,I.tok _,⟨_,rfl⟩,q⟩
end
end L2
namespace L2
open PySem PySem.Spec PyProof.Rows
section
variable {κ:Type}[DecidableEq κ]
def J1 (kvs:List (κ×V))(k:κ):Option V:=(kvs.find? λkv=>decide (kv.1=k)).map (·.2)
def O3 (kvs:List (κ×V))(k:κ)(v:V):List (κ×V):=
 if (kvs.any λkv=>decide (kv.1=k))=true then kvs.map (λkv=>if kv.1=k then (kv.1,v) else kv) else kvs++[(k,v)]
theorem Jg {p:κ×V}{r:List (κ×V)}{k:κ}(e:p.1=k):J1 (p::r) k=some p.2:=by simp [J1,List.find?_cons,e]
theorem Jh {p:κ×V}{r:List (κ×V)}{k:κ}(e:¬ p.1=k):J1 (p::r) k=J1 r k:=by simp [J1,List.find?_cons,e]
theorem Oc (k:κ):∀kvs:List (κ×V),(kvs.any λkv=>decide (kv.1=k))=(J1 kvs k).isSome
 | []=>rfl
 | p::r=>by
  rw [List.any_cons];by_cases e:p.1=k
  ·simp only [Jg e,decide_eq_true e,Bool.true_or,Option.isSome_some]
  ·rw [Jh e,decide_eq_false e,Bool.false_or];exact Oc k r
theorem XO (k j:κ)(y:V):∀kvs:List (κ×V),J1 (kvs.map λkv=>if kv.1=k then (kv.1,y) else kv) j=(J1 kvs j).map λx=>if j=k then y else x
 | []=>rfl
 | p::r=>by
  have ih:=XO k j y r;rw [List.map_cons];by_cases h:p.1=k
  ·rw [if_pos h];by_cases e:p.1=j
   ·rw [Jg (p:=(p.1,y)) e,Jg e,Option.map_some,if_pos (e.symm.trans h)]
   ·rw [Jh (p:=(p.1,y)) e,Jh e,ih]
  ·rw [if_neg h];by_cases e:p.1=j
   ·rw [Jg (p:=p) e,Jg e,Option.map_some,if_neg (λz=>h (e.trans z))]
   ·rw [Jh (p:=p) e,Jh e,ih]
theorem Wh (k j:κ)(y:V):∀kvs:List (κ×V),J1 kvs k=none->J1 (kvs++[(k,y)]) j=if j=k then some y else J1 kvs j
 | [],_=>by
  by_cases e:k=j
  ·rw [if_pos e.symm];exact Jg (p:=(k,y)) e
  ·rw [if_neg (λz=>e z.symm)];exact Jh (p:=(k,y)) e
 | p::r,hn=>by
  rw [List.cons_append];have hk:¬ p.1=k:=λz=>by rw [Jg z] at hn;cases hn
  rw [Jh hk] at hn;have ih:=Wh k j y r hn;by_cases e:p.1=j
  ·rw [Jg e,Jg e,if_neg (λz=>hk (e.trans z))]
  ·rw [Jh e,Jh e,ih]
theorem Um (kvs:List (κ×V))(k j:κ)(y:V):J1 (O3 kvs k y) j=if j=k then some y else J1 kvs j:=by
 unfold O3;by_cases a:(kvs.any λkv=>decide (kv.1=k))=true
 ·rw [if_pos a,XO];rw [Oc] at a;by_cases e:j=k
  ·obtain ⟨x,hx⟩:=Option.isSome_iff_exists.mp a;rw [if_pos e,e,hx,Option.map_some,if_pos rfl]
  ·rw [if_neg e];cases J1 kvs j with
   | none=>rfl
   | some x=>rw [Option.map_some,if_neg e]
 ·rw [if_neg a];refine Wh k j y kvs ?_;rw [Oc] at a;cases q:J1 kvs k with
  | none=>rfl
  | some x=>rw [q] at a;exact (a rfl).elim
theorem Jc (kvs:List (κ×V))(k:κ)(v:V):(O3 kvs k v).length<=kvs.length+1:=by
 unfold O3;split
 ·rw [List.length_map];lia
 ·rw [List.length_append,List.length_cons,List.length_nil];lia
theorem ZaU {kvs:List (κ×V)}{k:κ}(v:V)(h:J1 kvs k=none):O3 kvs k v=kvs++[(k,v)]:=by
 unfold O3;rw [Oc,h];exact if_neg (by decide)
theorem RelO.isSome_eq {o:Option V}{u:Option Value}(r:RelO o u):o.isSome=u.isSome:=by
 cases o with
 | none=>cases u with
  | none=>rfl
  | some _=>exact (show False from r).elim
 | some _=>cases u with
  | none=>exact (show False from r).elim
  | some _=>rfl
theorem RelO.getD {o:Option V}{u:Option Value}{d:V}{d':Value}(r:RelO o u)(rd:RelV d d'):RelV (o.getD d) (u.getD d'):=by
 cases o with
 | none=>cases u with
  | none=>exact rd
  | some _=>exact (show False from r).elim
 | some _=>cases u with
  | none=>exact (show False from r).elim
  | some _=>exact r
theorem KV.val {kvs:List (κ×V)}{vs:List (κ×Value)}(r:KV kvs vs)(k:κ):RelO (J1 kvs k) (valueAt vs k):=by
 unfold KV at r
 induction r with
 | nil=>exact True.intro
 | @cons p q ps qs h t ih=>
  obtain ⟨h1,h2⟩:=h;by_cases e:p.1=k
  ·have e':q.1=k:=h1.symm.trans e;have b:valueAt (q::qs) k=some q.2:=by simp [valueAt,List.find?_cons,e']
   rw [Jg e,b];exact h2
  ·have e':¬ q.1=k:=λz=>e (h1.trans z);have b:valueAt (q::qs) k=valueAt qs k:=by simp [valueAt,List.find?_cons,e']
   rw [Jh e,b];exact ih
theorem KV.any {kvs:List (κ×V)}{vs:List (κ×Value)}(r:KV kvs vs)(k:κ):(kvs.any λkv=>decide (kv.1=k))=vs.any λkv=>decide (kv.1=k):=by
 unfold KV at r
 induction r with
 | nil=>rfl
 | cons h t ih=>rw [List.any_cons,List.any_cons,ih,h.1]
theorem KV.repl {kvs:List (κ×V)}{vs:List (κ×Value)}(r:KV kvs vs)(k:κ){y:V}{u:Value}(ry:RelV y u) :
  KV (kvs.map λkv=>if kv.1=k then (kv.1,y) else kv) (vs.map λkv=>if kv.1=k then (kv.1,u) else kv):=by
 unfold KV at r ⊢
 induction r with
 | nil=>exact .nil
 | @cons p q ps qs h t ih=>
  rw [List.map_cons,List.map_cons];refine .cons ?_ ih;obtain ⟨h1,h2⟩:=h;by_cases e:p.1=k
  ·rw [if_pos e,if_pos (h1.symm.trans e)];exact ⟨h1,ry⟩
  ·rw [if_neg e,if_neg (λz=>e (h1.trans z))];exact ⟨h1,h2⟩
theorem KV.put {kvs:List (κ×V)}{vs:List (κ×Value)}(r:KV kvs vs)(k:κ){y:V}{u:Value}(ry:RelV y u):KV (O3 kvs k y) (stored vs k u):=by
 unfold O3 stored;rw [r.any k];by_cases e:(vs.any λkv=>decide (kv.1=k))=true
 ·rw [if_pos e,if_pos e];exact r.repl k ry
 ·rw [if_neg e,if_neg e];exact Paired.snoc r ⟨rfl,ry⟩
theorem KV.length {kvs:List (κ×V)}{vs:List (κ×Value)}(r:KV kvs vs):kvs.length=vs.length:=Paired.length r
end
theorem WZ {P:Program}{w:World}{k:Key}{u:Value}(r:RelV (kV k) u):(GM P w).is k u=true:=by
 cases k with
 | inl i=>obtain ⟨t,e⟩:=(show ∃t,u=Value.int i t from r);subst e;exact WR P w i t
 | inr x=>obtain ⟨t,e⟩:=(show ∃t,u=Value.str x t from r);subst e;exact WS P w x t
theorem Wi {P:Program}{w:World}:∀{ks:List Key}{us:List Value},Vals (ks.map kV) us->ItemsAre (GM P w) ks us
 | [],_,r=>by rw [List.map_nil] at r;cases r;exact .nil
 | k::ks,_,r=>by
  rw [List.map_cons] at r;cases r with
  | cons h t=>exact .cons (WZ h) (Wi t)
abbrev KT (H:Hp):List (List Key×V)->List (List Key×Addr×Value)->Prop:=Paired λp q=>p.1=q.1/\H q.2.1=some (.tup (p.1.map kV))/\RelV p.2 q.2.2
theorem KT.val {H:Hp}{kvs:List (List Key×V)}{xs:List (List Key×Addr×Value)}(r:KT H kvs xs)(k:List Key):RelO (J1 kvs k) ((atKey xs k).map (·.2)):=by
 induction r with
 | nil=>exact True.intro
 | @cons p q ps qs h t ih=>
  obtain ⟨h1,_,h2⟩:=h;by_cases e:p.1=k
  ·have e':q.1=k:=h1.symm.trans e;have b:atKey (q::qs) k=some q.2:=by simp [atKey,List.find?_cons,e']
   rw [Jg e,b];exact h2
  ·have e':¬ q.1=k:=λz=>e (h1.trans z);have b:atKey (q::qs) k=atKey qs k:=by simp [atKey,List.find?_cons,e']
   rw [Jh e,b];exact ih
theorem KT.repl {H:Hp}{kvs:List (List Key×V)}{xs:List (List Key×Addr×Value)}(r:KT H kvs xs)(k:List Key){y:V}{u:Value}(ry:RelV y u) :
  KT H (kvs.map λkv=>if kv.1=k then (kv.1,y) else kv) (xs.map (putAt k u)):=by
 induction r with
 | nil=>exact .nil
 | @cons p q ps qs h t ih=>
  rw [List.map_cons,List.map_cons];refine .cons ?_ ih;obtain ⟨h1,h2,h3⟩:=h;unfold putAt;by_cases e:p.1=k
  ·rw [if_pos e,if_pos (h1.symm.trans e)];exact ⟨h1,h2,ry⟩
  ·rw [if_neg e,if_neg (λz=>e (h1.trans z))];exact ⟨h1,h2,h3⟩
theorem KT.put {H:Hp}{kvs:List (List Key×V)}{xs:List (List Key×Addr×Value)}(r:KT H kvs xs)(k:List Key){b:Addr}{y:V}{u:Value}(hb:H b=some (.tup (k.map kV)))(ry:RelV y u) :
  KT H (O3 kvs k y) (storedH xs k b u):=by
 have e:(kvs.any λkv=>decide (kv.1=k))=(atKey xs k).isSome:=by
  rw [Oc,(r.val k).isSome_eq,Option.isSome_map]
 unfold O3 storedH;rw [e];by_cases q:(atKey xs k).isSome=true
 ·rw [if_pos q,if_pos q];exact r.repl k ry
 ·rw [if_neg q,if_neg q];exact Paired.snoc r ⟨rfl,hb,ry⟩
theorem KT.keeps {H H':Hp}{kvs:List (List Key×V)}{xs:List (List Key×Addr×Value)}(r:KT H kvs xs)(ht:∀b ys,H b=some (.tup ys)->H' b=some (.tup ys)):KT H' kvs xs:=
 Paired.mapP r λ_ _ z=>⟨z.1,ht _ _ z.2.1,z.2.2⟩
section
variable {P:Program}{w:World}{H:Hp}{h:Heap}{a:Addr}
theorem Zec {u:HO}(ok:HOk P w H h)(e:Rd H a u):ObjOk P w H h a u:=e.ok ok
theorem Wj {kvs:List (Key×V)}(ok:HOk P w H h)(e:Rd H a (.dK kvs)):kvs.length<=sizeLine/\(a == sysModules)=false/\∃vs,KV kvs vs/\h.DictOf (GM P w) a vs:=
 show ObjOk P w H h a (.dK kvs) from Zec ok e
theorem Zed {kvs:List (Key×V)}(ok:HOk P w H h)(e:H a=some (.dK kvs)):kvs.length<=sizeLine/\(a == sysModules)=false/\∃vs,KV kvs vs/\h.DictOf (GM P w) a vs:=Wj ok (.inl e)
theorem U4 {ks:List Key}(ok:HOk P w H h)(e:H a=some (.tup (ks.map kV))):(tupleKind (GM P w)).is h ks a:=by
 obtain ⟨_,its,r,o,h1,h2,n,h3⟩:=(show ObjOk P w H h a (.tup (ks.map kV)) from ok a _ e);exact ⟨o,its.toArray,n,h1,h2,h3,by simpa using Wi r⟩
theorem W0 {kvs:List (List Key×V)}(ok:HOk P w H h)(e:Rd H a (.dT kvs)):kvs.length<=sizeLine/\(a == sysModules)=false /\
  ∃xs,KT H kvs xs/\h.DictOfH (tupleKind (GM P w)) a xs:=by
 obtain ⟨z,y,xs,r,o,es,ep,h1,h2,h3,h4,h5⟩:=(show ObjOk P w H h a (.dT kvs) from Zec ok e);refine ⟨z,y,xs,r,o,es,ep,h1,h2,h3,h4,λx hx=>?_,h5⟩;have all:∀{l:List (List Key×V)}{m:List (List Key×Addr×Value)},KT H l m->∀x∈m,(tupleKind (GM P w)).is h x.1 x.2.1:=by
  intro l m q
  induction q with
  | nil=>intro x hx;exact nomatch hx
  | @cons p q ps qs hq t ih=>
   intro x hx;rcases List.mem_cons.mp hx with e | hx
   ·subst e;exact U4 ok (by rw [<-hq.1];exact hq.2.1)
   ·exact ih x hx
 exact all r x hx
theorem Zfy {kvs:List (List Key×V)}(ok:HOk P w H h)(e:H a=some (.dT kvs)):kvs.length<=sizeLine/\(a == sysModules)=false /\
  ∃xs,KT H kvs xs/\h.DictOfH (tupleKind (GM P w)) a xs:=W0 ok (.inl e)
end
def DGet (H:Hp)(a:Addr)(y:V)(r:Option V):Prop:=
 (∃kvs k,Rd H a (.dK kvs)/\y=kV k/\r=J1 kvs k)\/∃kvs k b,Rd H a (.dT kvs)/\y=.ref b/\H b=some (.tup (k.map kV))/\r=J1 kvs k
def DPut (H:Hp)(a:Addr)(y v:V)(H':Hp):Prop:=
 (∃kvs k,H a=some (.dK kvs)/\y=kV k/\kvs.length<sizeLine/\H'=upd H a (.dK (O3 kvs k v))) \/
 ∃kvs k b,H a=some (.dT kvs)/\y=.ref b/\H b=some (.tup (k.map kV))/\kvs.length<sizeLine/\H'=upd H a (.dT (O3 kvs k v))
theorem DGet.k {H:Hp}{a:Addr}{kvs:List (Key×V)}{k:Key}(e:H a=some (.dK kvs)):DGet H a (kV k) (J1 kvs k):=.inl ⟨kvs,k,.inl e,rfl,rfl⟩
theorem DGet.t {H:Hp}{a b:Addr}{kvs:List (List Key×V)}{k:List Key}(e:H a=some (.dT kvs))(eb:H b=some (.tup (k.map kV))):DGet H a (.ref b) (J1 kvs k):=.inr ⟨kvs,k,b,.inl e,rfl,eb,rfl⟩
theorem DPut.k {H:Hp}{a:Addr}{kvs:List (Key×V)}{k:Key}{v:V}(e:H a=some (.dK kvs))(hl:kvs.length<sizeLine):DPut H a (kV k) v (upd H a (.dK (O3 kvs k v))):=.inl ⟨kvs,k,e,rfl,hl,rfl⟩
theorem DPut.t {H:Hp}{a b:Addr}{kvs:List (List Key×V)}{k:List Key}{v:V}(e:H a=some (.dT kvs))(eb:H b=some (.tup (k.map kV)))(hl:kvs.length<sizeLine) :
  DPut H a (.ref b) v (upd H a (.dT (O3 kvs k v))):=.inr ⟨kvs,k,b,e,rfl,eb,hl,rfl⟩
section
variable {X:Cx}{qQ:List (Addr×Obj)}{σ:St}{H:Hp}{s:Shared}{a:Addr}{y v:V}{u r:Value}{o:Option V}{A:Around}{E:Value->Shared->Prop}
theorem Inv.big (I:Inv X qQ σ H s):sysModules<s.heap.objs.size:=by
 have h:mainGlobals<s.heap.objs.size:=(I.mod.glob.keeps I.bk).lt;exact Nat.lt_trans (by decide) h
theorem Zk {Q:Value->Shared->Prop}(hu:A.units+1<cLine)(I:Inv X qQ σ H s)(g:DGet H a y (some v))(ry:RelV y u)(h:∀w' s',Inv X qQ σ H s'->RelV v w'->Q w' s') :
  wpAny (model X.prog X.w) A (getItem (.ref a) u) Q E s:=by
 rcases g with ⟨kvs,k,e,ey,l⟩ | ⟨kvs,k,b,e,ey,eb,l⟩
 ·subst ey;obtain ⟨z,hd,vs,rel,dd⟩:=Wj I.hok e;obtain ⟨w',hw,rw'⟩:=RelO.some_of (v:=v) (o:=valueAt vs k) (by rw [l];exact rel.val k);exact wpAny_getItem_of (WZ ry) dd.mapOf hw (h w' _ (I.tok _) rw')
 ·subst ey;cases (show u=Value.ref b from ry);obtain ⟨z,hd,xs,rel,dd⟩:=W0 I.hok e;obtain ⟨w',hw,rw'⟩:=RelO.some_of (v:=v) (o:=(atKey xs k).map (·.2)) (by rw [l];exact rel.val k);obtain ⟨p,hp,hp2⟩:=Option.map_eq_some_iff.mp hw;refine wpAny_getItem_heap (tupleKind_room_in1 hu) (U4 I.hok eb) dd hp ?_;rw [hp2];exact h w' _ (I.tok _) rw'
theorem Zhq {Q:Value->Shared->Prop}(hu:A.units+1<cLine)(I:Inv X qQ σ H s)(g:DGet H a y o)(ry:RelV y u)(h:∀s',Inv X qQ σ H s'->Q (.bool o.isSome) s') :
  wpAny (model X.prog X.w) A (compareOp .In u (.ref a)) Q E s:=by
 rcases g with ⟨kvs,k,e,ey,l⟩ | ⟨kvs,k,b,e,ey,eb,l⟩
 ·subst ey;obtain ⟨z,hd,vs,rel,dd⟩:=Wj I.hok e;refine wpAny_in_of (WZ ry) hd dd.mapOf ?_;rw [<-(rel.val k).isSome_eq,<-l];exact h _ (I.tok _)
 ·subst ey;cases (show u=Value.ref b from ry);obtain ⟨z,hd,xs,rel,dd⟩:=W0 I.hok e;refine wpAny_in_heap (tupleKind_room_in1 hu) (U4 I.hok eb) hd dd ?_;have q:=(rel.val k).isSome_eq;rw [Option.isSome_map] at q;rw [<-q,<-l];exact h _ (I.tok _)
theorem ZcN {Q:Value->Shared->Prop}(hu:A.units+1<cLine)(I:Inv X qQ σ H s)(g:DGet H a y o)(ry:RelV y u)(h:∀s',Inv X qQ σ H s'->Q (.bool (!o.isSome)) s') :
  wpAny (model X.prog X.w) A (compareOp .NotIn u (.ref a)) Q E s:=by
 rcases g with ⟨kvs,k,e,ey,l⟩ | ⟨kvs,k,b,e,ey,eb,l⟩
 ·subst ey;obtain ⟨z,hd,vs,rel,dd⟩:=Wj I.hok e;refine wpAny_notIn_of (WZ ry) hd dd.mapOf ?_;rw [<-(rel.val k).isSome_eq,<-l];exact h _ (I.tok _)
 ·subst ey;cases (show u=Value.ref b from ry);obtain ⟨z,hd,xs,rel,dd⟩:=W0 I.hok e;refine wpAny_notIn_heap (tupleKind_room_in1 hu) (U4 I.hok eb) hd dd ?_;have q:=(rel.val k).isSome_eq;rw [Option.isSome_map] at q;rw [<-q,<-l];exact h _ (I.tok _)
theorem W4 {h':Heap}{t':Nat}{ob:HO}(I:Inv X qQ σ H s)(mu:Mut (H a))(hs:Heap.SameBut a s.heap h')(he:∃q,h'.get? a=some q)(new:ObjOk X.prog X.w (upd H a ob) h' a ob) :
  Inv X qQ σ (upd H a ob) { s with heap:=h',toks:=t' }:=
 I.write (x:=a) (e:=a) mu (.inl rfl) (λb q hb z=>(hs.2 b hb).trans z) he new
theorem ZbZ {P:Program}{w:World}{H':Hp}{h':Heap}{kvs:List (Key×V)}{vs:List (Key×Value)}(z:kvs.length<=sizeLine)(hd:(a == sysModules)=false)(rel:KV kvs vs)(dd:h'.DictOf (GM P w) a vs) :
  ObjOk P w H' h' a (.dK kvs):=⟨z,hd,vs,rel,dd⟩
theorem Zl {H':Hp}{Q:Unit->Shared->Prop}(hu:A.units+1<cLine)(I:Inv X qQ σ H s)(g:DPut H a y v H')(ry:RelV y u)(rv:RelV v r)(h:∀s',Inv X qQ σ H' s'->Q () s') :
  wpAny (model X.prog X.w) A (setItem (.ref a) u r) Q E s:=by
 rcases g with ⟨kvs,k,e,ey,l,eH⟩ | ⟨kvs,k,b,e,ey,eb,l,eH⟩
 ·subst ey eH;obtain ⟨z,hd,vs,rel,dd⟩:=Zed I.hok e;have hz:vs.length<=sizeLine:=by rw [<-rel.length];exact z
  have hl:(O3 kvs k v).length<=sizeLine:=by have:=Jc kvs k v;lia
  refine wpAny_setItem_pairs (hsz:=hz) (WZ ry) dd λh' dd' hs=>h _ ?_;have he:∃q,h'.get? a=some q:=let ⟨q,_,_,hq,_⟩:=dd';⟨q,hq⟩;exact W4 I (by rw [e];exact True.intro) hs he (ZbZ hl hd (rel.put k rv) dd')
 ·subst ey eH;cases (show u=Value.ref b from ry);obtain ⟨z,hd,xs,rel,dd⟩:=Zfy I.hok e;have hz:xs.length<=sizeLine:=by rw [<-Paired.length rel];exact z
  have hl:(O3 kvs k v).length<=sizeLine:=by have:=Jc kvs k v;lia
  refine wpAny_setItem_heap (hsz:=hz) (tupleKind_room_in1 hu) (U4 I.hok eb) dd λh' dd' hs=>h _ ?_;obtain ⟨q,es,ep,hq,h2,h3,h4,_,h5⟩:=dd';refine W4 I (by rw [e];exact True.intro) hs ⟨q,hq⟩ ⟨hl,hd,_,(rel.put k eb rv).keeps λc ys ec=>?_,q,es,ep,hq,h2,h3,h4,h5⟩;rw [Gy (JY ec e (λz=>nomatch z))];exact ec
end
def ZgL (i:Expr):Prop:=∀ov iv,subscripted i false ov iv=operate [ov,iv] (getItem ov iv)
theorem ZcO {prog:Program}{w:World}{A:Around}{E:Value->Shared->Prop}{s:Shared}{env:Env}{value slice:Expr}{pos:Pos}{T id:String}{Q:Value->Shared->Prop}(hl:typeLookup (.type T) "__getitem__" = pure (some (.builtin id)))(hs:ZgL slice)(h:wpAny (model prog w) A (eval value env) (λo s₁=>wpAny (model prog w) A (eval slice env) (λi s₂=>s₂.TypeIs o T/\wpAny (model prog w) A (getItem o i) Q E s₂) E s₁) E s) :
  wpAny (model prog w) A (eval (.Subscript value slice pos) env) Q E s:=by
 refine Subscript_ (wpAny_mono h (λo s₁ h₁=>wpAny_mono h₁ (λi s₂ h₂=>?_) λ_ _ x=>x) λ_ _ x=>x);obtain ⟨hT,h₂⟩:=h₂;unfold subscriptTail;refine wpAny_bind ?_;rw [getitemInPython_of_ne hT.not_modules];refine wpAny_bind (wpAny_specialOf hT hl ?_);have fin:wpAny (model prog w) A (subscripted slice false o i) (λr s₃=>wpAny (model prog w) A (letTemporaryGo value o r >>= λ_=>pure r) Q E s₃) E s₂:=by
  rw [hs o i];exact wpAny_operating (wpAny_mono h₂ (λr s₃ h₃=>wpAny_bind (wpAny_letTemporaryGo (wpAny_pure h₃))) λ_ _ x=>x)
 first
  | exact wpAny_pure (wpAny_bind fin)
  | exact wpAny_bind (wpAny_pure (wpAny_bind fin))
  | exact wpAny_bind fin
theorem W6 {X:Cx}{qQ:List (Addr×Obj)}{σ:St}{H:Hp}{s:Shared}{a:Addr}{y:V}{o:Option V}(I:Inv X qQ σ H s)(g:DGet H a y o):s.TypeIs (.ref a) "dict" := by
 rcases g with ⟨kvs,k,e,_,_⟩ | ⟨kvs,k,b,e,_,_,_⟩
 ·obtain ⟨_,_,vs,_,dd⟩:=Wj I.hok e;exact dd.typeIs
 ·obtain ⟨_,_,xs,_,dd⟩:=W0 I.hok e;exact dd.typeIs
def Zfz (td ty:TE):TE:=λσ H Q=>td σ H λx H1=>ty σ H1 λy H2=>∃a v,x=.ref a/\DGet H2 a y (some v)/\Q v H2
def ZgM (ty td:TE):TE:=λσ H Q=>ty σ H λy H1=>td σ H1 λx H2=>∃a o,x=.ref a/\DGet H2 a y o/\Q (.bl o.isSome) H2
def ZcP (ty td:TE):TE:=λσ H Q=>ty σ H λy H1=>td σ H1 λx H2=>∃a o,x=.ref a/\DGet H2 a y o/\Q (.bl (!o.isSome)) H2
def ZfA (td ty tv:TE):TS:=λD σ H=>tv σ H λv H1=>td σ H1 λx H2=>ty σ H2 λy H3=>∃a H4,x=.ref a/\DPut H3 a y v H4/\D.nx σ H4
section
variable {X:Cx}{o i e value:Expr}{pos pos' tpos:Pos}{td ty tv:TE}
theorem UD (hu:X.A.units+1<cLine)(ho:PE X o td)(hi:PE X i ty)(hs:ZgL i):PE X (.Subscript o i pos) (Zfz td ty):=by
 intro qQ s σ H Q I h;refine ZcO PySem.F.slot_dict_getitem.lookup hs (thn (ho qQ s σ H _ I h) λu s1 ⟨x,H1,I1,rx,q1⟩=>thn (hi qQ s1 σ H1 _ I1 q1) λiv s2 ⟨y,H2,I2,ry,a,v,ex,g,q2⟩=>?_);subst ex;obtain rfl:u=Value.ref a:=rx;exact ⟨W6 I2 g,Zk hu I2 g ry λw' s3 I3 rw'=>⟨v,H2,I3,rw',q2⟩⟩
theorem Zm (hu:X.A.units+1<cLine)(hi:PE X i ty)(ho:PE X o td):PC X .In i o (ZgM ty td):=by
 intro qQ s σ H Q I h;refine thn (hi qQ s σ H _ I h) λiv s1 ⟨y,H1,I1,ry,q1⟩=>thn (ho qQ s1 σ H1 _ I1 q1) λu s2 ⟨x,H2,I2,rx,a,ov,ex,g,q2⟩=>?_;subst ex;obtain rfl:u=Value.ref a:=rx;exact Zhq hu I2 g ry λs3 I3=>⟨.bl ov.isSome,H2,I3,rfl,q2⟩
theorem Zn (hu:X.A.units+1<cLine)(hi:PE X i ty)(ho:PE X o td):PC X .NotIn i o (ZcP ty td):=by
 intro qQ s σ H Q I h;refine thn (hi qQ s σ H _ I h) λiv s1 ⟨y,H1,I1,ry,q1⟩=>thn (ho qQ s1 σ H1 _ I1 q1) λu s2 ⟨x,H2,I2,rx,a,ov,ex,g,q2⟩=>?_;subst ex;obtain rfl:u=Value.ref a:=rx;exact ZcN hu I2 g ry λs3 I3=>⟨.bl (!ov.isSome),H2,I3,rfl,q2⟩
theorem Ow (hu:X.A.units+1<cLine)(ho:PE X o td)(hi:PE X i ty)(hv:PE X value tv)(hs:swapsWith value (some (.Subscript o i pos')) pos.line X.env=pure false) :
  PS X (.Assign [.Subscript o i pos'] value pos) (ZfA td ty tv):=by
 intro qQ s σ H D I h;refine wpAny_Assign_Subscript (thn (hv qQ s σ H _ I h) λr s1 ⟨v,H1,I1,rv,q1⟩=>thn (ho qQ s1 σ H1 _ I1 q1) λu s2 ⟨x,H2,I2,rx,q2⟩=>thn (hi qQ s2 σ H2 _ I2 q2) λiv s3 ⟨y,H3,I3,ry,a,H4,ex,g,q3⟩=>?_) hs;subst ex;obtain rfl:u=Value.ref a:=rx;exact Zl hu I3 g ry rv λs4 I4=>⟨σ,H4,I4,q3⟩
end
theorem Vs {P:Program}{w:World}{H:Hp}(h:Heap)(hb:sysModules<h.objs.size):ObjOk P w H (h.push { cls:=.type "dict", data:=.dict #[] }) h.objs.size (.dK []):=
 ⟨Nat.zero_le _,beq_eq_false_iff_ne.mpr (Ne.symm (Nat.ne_of_lt hb)),[],.nil,Heap.DictOf.new h⟩
theorem ZaV {P:Program}{w:World}{H:Hp}(h:Heap)(hb:sysModules<h.objs.size):ObjOk P w H (h.push { cls:=.type "dict", data:=.dict #[] }) h.objs.size (.dT []):=
 ⟨Nat.zero_le _,beq_eq_false_iff_ne.mpr (Ne.symm (Nat.ne_of_lt hb)),[],.nil,_,#[],0,Heap.get?_push_size _ rfl,⟨rfl,rfl,rfl⟩,rfl,rfl,List.nodup_nil⟩
def Zee:TE:=λ_ H Q=>∀p,H p=none->Q (.ref p) (upd H p (.dK []))
def Zef:TE:=λ_ H Q=>∀p,H p=none->Q (.ref p) (upd H p (.dT []))
section
variable {X:Cx}{pos:Pos}
theorem ZaW:PE X (.Dict [] [] pos) Zee:=λqQ s σ H Q I h=>
 wpAny_Dict_empty ⟨.ref s.heap.objs.size,_,I.laid (a:=s.heap.objs.size) (o:=.dK []) (t':=s.toks) (λ_ _ q=>Heap.get?_push_of_some _ q) (Nat.le_refl _) (Vs s.heap I.big),rfl,h _ (I.hok.fresh (Nat.le_refl _))⟩
theorem Vt:PE X (.Dict [] [] pos) Zef:=λqQ s σ H Q I h=>
 wpAny_Dict_empty ⟨.ref s.heap.objs.size,_,I.laid (a:=s.heap.objs.size) (o:=.dT []) (t':=s.toks) (λ_ _ q=>Heap.get?_push_of_some _ q) (Nat.le_refl _) (ZaV s.heap I.big),rfl,h _ (I.hok.fresh (Nat.le_refl _))⟩
end
def Zo:List (TE×TE)->St->Hp->(List (V×V)->Hp->Prop)->Prop
 | [],_,H,Q=>Q [] H
 | (tk,tv)::r,σ,H,Q=>tk σ H λx H1=>tv σ H1 λy H2=>Zo r σ H2 λps H3=>Q ((x,y)::ps) H3
abbrev VV:List (V×V)->List (Value×Value)->Prop:=Paired λp q=>RelV p.1 q.1/\RelV p.2 q.2
def PPs (X:Cx)(pos:Pos)(keys:List (Option Expr))(values:List Expr)(trs:List (TE×TE)):Prop:=
 ∀(qQ:List (Addr×Obj))(s:Shared)(σ:St)(H:Hp)(Q:List (V×V)->Hp->Prop),Inv X qQ σ H s->Zo trs σ H Q ->
  wpAny (model X.prog X.w) X.A (evalPairs (pairTrees keys values X.env pos)) (λvs s'=>∃ps H',Inv X qQ σ H' s'/\VV ps vs/\Q ps H') X.xe s
theorem ZcQ {X:Cx}{pos:Pos}:PPs X pos [] [] []:=λqQ s σ H Q I h=>pairTrees_nil_walk ⟨[],H,I,.nil,h⟩
theorem ZaX {X:Cx}{pos:Pos}{k v:Expr}{ks:List (Option Expr)}{vs:List Expr}{tk tv:TE}{trs:List (TE×TE)}(hk:PE X k tk)(hv:PE X v tv)(hr:PPs X pos ks vs trs) :
  PPs X pos (some k::ks) (v::vs) ((tk,tv)::trs):=λqQ s σ H Q I h=>
 pairTrees_cons_walk (thn (hk qQ s σ H _ I h) λu s1 ⟨x,H1,I1,rx,q1⟩=>thn (hv qQ s1 σ H1 _ I1 q1) λw2 s2 ⟨y,H2,I2,ry,q2⟩=>
  thn (hr qQ s2 σ H2 _ I2 q2) λws s3 ⟨ps,H3,I3,rel,q3⟩=>⟨(x,y)::ps,H3,I3,.cons ⟨rx,ry⟩ rel,q3⟩)
def Ud (kvs more:List (Key×V)):List (Key×V):=more.foldl (λacc kv=>O3 acc kv.1 kv.2) kvs
theorem KV.merge:∀{more:List (Key×V)}{rs:List (Key×Value)}{kvs:List (Key×V)}{vs:List (Key×Value)},KV more rs->KV kvs vs->KV (Ud kvs more) (merged vs rs):=by
 intro more rs kvs vs r;unfold KV at r
 induction r generalizing kvs vs with
 | nil=>intro q;exact q
 | @cons p q ps qs h t ih=>
  intro r0;have e:KV (O3 kvs p.1 p.2) (stored vs q.1 q.2):=by
   have:=r0.put p.1 h.2;rw [<-h.1];exact this
  exact ih e
theorem OD:∀(more kvs:List (Key×V)),(Ud kvs more).length<=kvs.length+more.length
 | [],kvs=>by show kvs.length<=kvs.length+0;lia
 | p::r,kvs=>by
  have h1:=OD r (O3 kvs p.1 p.2);have h2:=Jc kvs p.1 p.2;show (Ud (O3 kvs p.1 p.2) r).length<=_;rw [List.length_cons];lia
theorem U5 {P:Program}{w:World}:∀{kvs:List (Key×V)}{ws:List (Value×Value)},VV (kvs.map λkv=>(kV kv.1,kv.2)) ws->∃rs,Carries (GM P w) ws rs/\KV kvs rs
 | [],_,r=>by rw [List.map_nil] at r;cases r;exact ⟨[],True.intro,.nil⟩
 | p::kvs,_,r=>by
  rw [List.map_cons] at r;cases r with
  | @cons a b as bs h t=>
   obtain ⟨rs,c,q⟩:=U5 (P:=P) (w:=w) t;obtain ⟨b1,b2⟩:=b;exact ⟨(p.1,b2)::rs,⟨WZ h.1,rfl,c⟩,.cons ⟨rfl,h.2⟩ q⟩
def ZfB (trs:List (TE×TE)):TE:=λσ H Q=>∀p,H p=none->Zo trs σ (upd H p (.dK [])) λps H2=>H2 p=some (.dK [])/\∃kvs:List (Key×V),ps=kvs.map (λkv=>(kV kv.1,kv.2))/\kvs.length<=15/\Q (.ref p) (upd H2 p (.dK (Ud [] kvs)))
theorem ZcR {X:Cx}{pos:Pos}{keys:List (Option Expr)}{values:List Expr}{trs:List (TE×TE)}(h:PPs X pos keys values trs)(qY:keys.all (·.isSome)=true)(hl:keys.length=values.length)(h0:keys≠[])(h15:keys.length<=15):PE X (.Dict keys values pos) (ZfB trs):=by
 intro qQ s σ H Q I q;have hn:=I.hok.fresh (Nat.le_refl s.heap.objs.size);have I1:=I.laid (a:=s.heap.objs.size) (o:=.dK []) (h':=s.heap.push { cls:=.type "dict", data:=.dict #[] }) (t':=s.toks) (λ_ _ q=>Heap.get?_push_of_some _ q) (Nat.le_refl _) (Vs s.heap I.big);refine wpAny_Dict_walk (knd:=GM X.prog X.w) qY hl h0 h15 (thn (h qQ _ σ _ _ I1 (q _ hn)) λws s2 ⟨ps,H2,I2,rel,e,kvs,ep,lk,q2⟩=>?_);subst ep;obtain ⟨rs,c,rk⟩:=U5 (P:=X.prog) (w:=X.w) rel;obtain ⟨z,hd,vs0,r0,dd⟩:=Zed I2.hok e;cases r0;refine ⟨rs,c,dd,λh' dd' hs=>⟨.ref s.heap.objs.size,_,?_,rfl,q2⟩⟩;have hz:(Ud [] kvs).length<=sizeLine:=by
  have h1:=OD kvs [];rw [List.length_nil] at h1;rw [sizeLine_eq];lia
 have he:∃q,h'.get? s.heap.objs.size=some q:=let ⟨q,_,_,hq,_⟩:=dd';⟨q,hq⟩;exact W4 I2 (by rw [e];exact True.intro) hs he (ZbZ hz hd (rk.merge .nil) dd')
structure M2 (X:Cx)(o:Expr)(m:Str)(apos:Pos)(e f:Expr)(qK:Pos):Prop where
 base:attributeBase o m X.env (eval o X.env)=eval o X.env
 few:((backTo qK (starEach [e,f] X.env)).all (λx=>!x.1) && (backToKw qK (keywordEach [] X.env)).all (λx=>x.1.isSome)
  && decide (([e,f]:List Expr).length+([]:List Keyword).length+(if ([]:List Keyword).isEmpty then 0 else 1)<30))=true
 line:(apos.endLine == qK.line)=true
 trees:backTo qK (starEach [e,f] X.env)=[(false,eval e X.env),(false,eval f X.env)]
def IsD (H:Hp)(a:Addr):Prop:=(∃kvs,Rd H a (.dK kvs))\/∃kvs,Rd H a (.dT kvs)
theorem Zeg {X:Cx}{qQ:List (Addr×Obj)}{σ:St}{H:Hp}{s:Shared}{a:Addr}(I:Inv X qQ σ H s)(d:IsD H a) :
  s.TypeIs (.ref a) "dict" /\ (∀b,Value.ref a=.ref b->∃ob,s.heap.get? b=some ob/\ob.dict=none)/\(a == sysModules)=false:=by
 rcases d with ⟨kvs,e⟩ | ⟨kvs,e⟩
 ·obtain ⟨_,hd,vs,_,dd⟩:=Wj I.hok e;refine ⟨dd.typeIs,λb q=>?_,hd⟩;cases q;obtain ⟨ob,_,_,h1,h2,_⟩:=dd;exact ⟨ob,h1,h2.2.1⟩
 ·obtain ⟨_,hd,xs,_,dd⟩:=W0 I.hok e;refine ⟨dd.typeIs,λb q=>?_,hd⟩;cases q;obtain ⟨ob,_,_,h1,h2,_⟩:=dd;exact ⟨ob,h1,h2.2.1⟩
section
variable {X:Cx}{qQ:List (Addr×Obj)}{σ:St}{H:Hp}{s:Shared}{a:Addr}{y d:V}{u r:Value}{o:Option V}{A:Around}{E:Value->Shared->Prop}
theorem Zeh {Q:Value->Shared->Prop}(hu:A.units+1<cLine)(I:Inv X qQ σ H s)(g:DGet H a y o)(ry:RelV y u)(rd:RelV d r)(h:∀w' s',Inv X qQ σ H s'->RelV (o.getD d) w'->Q w' s') :
  wpAny (model X.prog X.w) A (call (.builtin "dict.get") [.ref a,u,r]) Q E s:=by
 rcases g with ⟨kvs,k,e,ey,l⟩ | ⟨kvs,k,b,e,ey,eb,l⟩
 ·subst ey;obtain ⟨z,hd,vs,rel,dd⟩:=Wj I.hok e;refine call_meetsIn PySem.F.slot_dict_get dd.typeIs PySem.F.entry_dict_get (PySem.F.args_dict_get_3 _ _ _) (meets_dict_get_default (GM X.prog X.w) a (WZ ry) hd r) ⟨_,dd.mapOf,h _ _ (I.tok _) ?_⟩;rw [l];exact (rel.val k).getD rd
 ·subst ey;cases (show u=Value.ref b from ry);obtain ⟨z,hd,xs,rel,dd⟩:=W0 I.hok e;refine call_meetsIn PySem.F.slot_dict_get dd.typeIs PySem.F.entry_dict_get (PySem.F.args_dict_get_3 _ _ _) (meetsH_dict_get_default (tupleKind (GM X.prog X.w)) a b hd r) ⟨tupleKind_room_in1 hu,k,xs,U4 I.hok eb,dd,h _ _ (I.tok _) ?_⟩;rw [l];exact (rel.val k).getD rd
end
def Zei (td ty tx:TE):TE:=λσ H Q=>td σ H λx H1=>∃a,x=.ref a/\IsD H1 a/\ty σ H1 λy H2=>tx σ H2 λz H3=>∃o,DGet H3 a y o/\Q (o.getD z) H3
section
variable {X:Cx}{o e f:Expr}{apos qK:Pos}{td ty tx:TE}
theorem XQ (hu:X.A.units+1<cLine)(ho:PE X o td)(he:PE X e ty)(hf:PE X f tx)(m:M2 X o "get" apos e f qK):PE X (.Call (.Attribute o "get" apos) [e,f] [] qK) (Zei td ty tx):=by
 intro qQ s σ H Q I h;refine wpAny_Call_method m.base m.few m.line PySem.F.plainAttrs_dict PySem.F.slot_dict_get PySem.F.type_dict_get (thn (ho qQ s σ H _ I h) λu s1 ⟨x,H1,I1,rx,a,ex,d,q1⟩=>?_);subst ex;obtain rfl:u=Value.ref a:=rx;obtain ⟨t1,t2,_⟩:=Zeg I1 d;refine ⟨t1,t2,?_⟩;rw [m.trees];refine Calls.callWith_builtin rfl (Calls.evalArgs_plain (Calls.spliced_cons (thn (he qQ s1 σ H1 _ I1 q1) λiv s2 ⟨y,H2,I2,ry,q2⟩=>
  Calls.spliced_cons (thn (hf qQ s2 σ H2 _ I2 q2) λfv s3 ⟨z,H3,I3,rz,ov,g,q3⟩=>Calls.spliced_nil ?_))))
 exact Zeh hu I3 g ry rz λw' s4 I4 rw'=>⟨_,H3,I4,rw',q3⟩
end
end L2
namespace L2
open PySem PySem.Spec PyProof.Rows
structure Lane where
 it:Addr
 l:Addr
 xs:Array Value
def Lane.On (r:Lane)(k:Nat)(h:Heap):Prop:=h.IsListIter r.it r.l k/\h.IsList r.l r.xs
theorem Lane.On.keep {r:Lane}{k:Nat}{h h':Heap}(x:r.On k h)(e:∀c,c=r.it\/c=r.l->∀o,h.get? c=some o->h'.get? c=some o):r.On k h':=
 ⟨x.1.at (e _ (.inl rfl)),x.2.at (e _ (.inr rfl))⟩
structure Zej (rs:List Lane):Prop where
 nd:(rs.map Lane.it).Nodup
 ls:∀r∈rs,∀q∈rs,q.l≠r.it
abbrev W9 (h:Heap)(z TI TO:Addr)(f0:Value)(f1:Bool):Prop:=
 h.get? z=some { cls:=.type "zip", dict:=none,data:=.fields #[f0,.bool f1,.bool false,.ref TI,.ref TO],slots:=#[] }
section
variable {prog:Program}{w:World}{A:Around}{E:Value->Shared->Prop}{s:Shared}
theorem Zp {z TI TO T:Addr}{f1:Bool}{o:Obj}{Q:Bool->Shared->Prop}(hz:W9 s.heap z TI TO (rawInt T) f1)(hT:s.heap.get? T=some o)(h:∀h',W9 h' z TI TO (rawInt T) true->Heap.SameBut z s.heap h'->Q false { s with heap:=h' }):wpAny (model prog w) A (Builtin.SmallTypes.ownedTupleIsFree (.ref z)) Q E s:=by
 wp_walk using wpAny_field hz rfl rfl
 refine W.kdx_alive (a:=T) hT ?_;cases f1
 ·wp_walk using wpAny_field hz rfl rfl
  exact h _ (Heap.get?_update_self _ hz rfl) (Heap.SameBut.update ..)
 ·wp_walk using wpAny_field hz rfl rfl
  exact h s.heap hz ⟨rfl,λ_ _=>rfl⟩
theorem ZaY {z TI TO T:Addr}{f1:Bool}{o:Obj}{rs:List Lane}{k:Nat}{Q:Value->Shared->Prop}(hh:A.handled=none)(ap:Zej rs)(hz:W9 s.heap z TI TO (rawInt T) f1)(hT:s.heap.get? T=some o)(hr:∀r∈rs,r.it≠z/\r.l≠z)(hTI:s.heap.get? TI=some { cls:=.type "tuple", data:=.seq (rs.map λr=>Value.ref r.it).toArray })(h0:rs≠[])(hl:rs.length<=64)(on:∀r∈rs,r.On k s.heap)(hQ:∀(vs:List Value) h',rs.map (λr=>r.xs[k]?)=vs.map some->W9 h' z TI TO (rawInt T) true->(∀r∈rs,r.On (k+1) h')->h'.get? s.heap.objs.size=some { cls:=.type "tuple", data:=.seq vs.toArray }->h'.objs.size=s.heap.objs.size+1 ->
   (∀c o,c≠z->c ∉ rs.map Lane.it->s.heap.get? c=some o->h'.get? c=some o)->Q (.ref s.heap.objs.size) { s with heap:=h' })(hE:∀h' e,(∃r∈rs,r.xs[k]?=none)->(∀c o,c≠z->c ∉ rs.map Lane.it->s.heap.get? c=some o->h'.get? c=some o)->(∃o,h'.get? e=some o/\o.cls=.type "StopIteration")->E (.ref e) { s with heap:=h' }) :
  wpAny (model prog w) A (Builtin.«zip.__next__» ⟨[.ref z],[]⟩) (λfin s'=>∃v,fin=.done (.ret v)/\Q v s') E s:=by
 have hne:(rs.map λr=>Value.ref r.it).toArray.isEmpty=false:=by cases rs with
  | nil=>exact absurd rfl h0
  | cons=>rfl
 wp_walk using wpAny_field hz rfl rfl,wpAny_seqItems hTI rfl,Zp hz hT
 intro h1 z1 s1
 wp_walk
 refine MeetsSeq2.wpAny_forIn_array _ (λrest b s'=>∃dn rm h',rs=dn++rm/\rest=rm.map (λr=>Value.ref r.it)/\b.1=none/\dn.map (λr=>r.xs[k]?)=b.2.toList.map some/\s'={ s with heap:=h' }/\h'.objs.size=s.heap.objs.size /\
   (∀r∈dn,r.On (k+1) h')/\(∀r∈rm,r.On k h')/\∀c o,c ∉ rs.map Lane.it->h1.get? c=some o->h'.get? c=some o) _ ?_ ?_ _ _ ?_
 ·rintro x rest ⟨b1,b2⟩ s' ⟨dn,rm,h',hd,hx,hb,hv,rfl,hsz,on1,on0,kp⟩;cases rm with
  | nil=>cases hx
  | cons r rm=>
   obtain ⟨rfl,rfl⟩:x=Value.ref r.it/\rest=rm.map (λr=>Value.ref r.it):=by cases hx;exact ⟨rfl,rfl⟩
   have mr:r∈rs:=by rw [hd];simp
   have nd:=ap.nd;rw [hd,List.map_append,List.map_cons,List.nodup_append] at nd;obtain ⟨-,nd2,nd3⟩:=nd;have nr:∀q,q∈dn\/q∈rm->q.it≠r.it/\q.l≠r.it:=λq hq=>⟨hq.elim (λy=>nd3 _ (List.mem_map_of_mem y) _ List.mem_cons_self) (λy e=>(List.nodup_cons.1 nd2).1 (e▸List.mem_map_of_mem y)),ap.ls r mr q (by rw [hd];rcases hq with y | y <;> simp [y])⟩;have o0:=on0 r List.mem_cons_self;refine wpAny_bind (wpAny_holding (?_:wpAny _ _ (Builtin.SmallTypes.nextOf (.ref r.it) >>= λv=>pure (some v)) _ _ _));cases e:r.xs[k]? with
   | none=>
    refine wpAny_bind (wpAny_nextOf_list_end hh o0.1 o0.2 e λh2 e2 x2 c2=>?_);exact hE h2 e2 ⟨r,mr,e⟩ (λc o c1 c3 q=>x2 c o (λy=>c3 (y▸List.mem_map_of_mem mr)) (kp c o c3 (by rw [s1.2 c c1];exact q))) c2
   | some v=>
    refine wpAny_bind (wpAny_nextOf_list_item o0.1 o0.2 e λh2 on2 x2=>?_)
    wp_walk
    have ot:∀q,q∈dn\/q∈rm->∀c,c=q.it\/c=q.l->∀o,h'.get? c=some o->h2.get? c=some o:=λq hq c hc o y=>by
     rw [x2.2 c (hc.elim (λy=>y▸(nr q hq).1) (λy=>y▸(nr q hq).2))];exact y
    refine ⟨dn++[r],rm,h2,by rw [hd];simp,rfl,rfl,?_,rfl,x2.1.trans hsz,λq hq=>?_,λq hq=>(on0 q (List.mem_cons_of_mem _ hq)).keep (ot q (.inr hq)),λc o c1 q=>?_⟩
    ·rw [List.map_append,hv];simp [e]
    ·rcases List.mem_append.1 hq with y | y
     ·exact (on1 q y).keep (ot q (.inl y))
     ·cases List.mem_singleton.1 y;exact ⟨on2,o0.2.at λo y=>by rw [x2.2 _ (ap.ls r mr r mr)];exact y⟩
    ·rw [x2.2 c (λy=>c1 (y▸List.mem_map_of_mem mr))];exact kp c o c1 q
 ·rintro ⟨b1,b2⟩ s' ⟨dn,rm,h',hd,hx,hb,hv,rfl,hsz,on1,on0,kp⟩;cases rm with
  | cons=>cases hx
  | nil=>
   cases hb;rw [List.append_nil] at hd;subst hd;have hlv:b2.toList.length<=sizeLine:=by
    have:=congrArg List.length hv;rw [List.length_map,List.length_map] at this;rw [<-this,sizeLine_eq];lia
   wp_walk using wpAny_newTuple (hsz:=hlv)
   have pu:∀c o,h'.get? c=some o->(h'.push { cls:=.type "tuple", data:=.seq b2.toList.toArray }).get? c=some o:=λc o=>Heap.get?_push_of_some _;refine ⟨_,rfl,?_⟩;rw [hsz];refine hQ b2.toList _ hv (pu _ _ (kp _ _ (λy=>?_) z1)) (λr y=>(on1 r y).keep λc _=>pu c) ?_ (by rw [Heap.size_push,hsz]) λc o c1 c2 q=>pu _ _ (kp _ _ c2 (by rw [s1.2 c c1];exact q))
   ·obtain ⟨r,y,e⟩:=List.mem_map.1 y;exact (hr r y).1 e
   ·rw [<-hsz];exact Heap.get?_push_size _ rfl
 ·exact ⟨[],rs,h1,rfl,rfl,rfl,rfl,rfl,s1.1,λ_ y=>absurd y (List.not_mem_nil),λr y=>(on r y).keep λc hc o q=>by rw [s1.2 c (hc.elim (λe=>e▸(hr r y).1) (λe=>e▸(hr r y).2))];exact q,λ_ _ _ q=>q⟩
theorem ZaZ {z TI TO T:Addr}{f1:Bool}{o:Obj}{rs:List Lane}{k:Nat}{Q:Option Value->Shared->Prop}(hh:A.in1.handled=none)(ap:Zej rs)(hz:W9 s.heap z TI TO (rawInt T) f1)(hT:s.heap.get? T=some o)(hr:∀r∈rs,r.it≠z/\r.l≠z)(hTI:s.heap.get? TI=some { cls:=.type "tuple", data:=.seq (rs.map λr=>Value.ref r.it).toArray })(h0:rs≠[])(hl:rs.length<=64)(on:∀r∈rs,r.On k s.heap)(hQ:∀(vs:List Value) h',rs.map (λr=>r.xs[k]?)=vs.map some->W9 h' z TI TO (rawInt T) true->(∀r∈rs,r.On (k+1) h')->h'.get? s.heap.objs.size=some { cls:=.type "tuple", data:=.seq vs.toArray }->h'.objs.size=s.heap.objs.size+1 ->
   (∀c o,c≠z->c ∉ rs.map Lane.it->s.heap.get? c=some o->h'.get? c=some o)->Q (some (.ref s.heap.objs.size)) { s with heap:=h' })(hN:∀h',(∃r∈rs,r.xs[k]?=none)->(∀c o,c≠z->c ∉ rs.map Lane.it->s.heap.get? c=some o->h'.get? c=some o)->Q none { s with heap:=h' }):wpAny (model prog w) A (pyNext (.ref z)) Q E s:=by
 have ty:s.TypeIs (.ref z) "zip" := ⟨_,hz,rfl⟩;refine wpAny_bind (wpAny_attempt (wpAny_callSpecial?_slot ty F.slot_zip_next (wpAny_call_entry F.slot_zip_next ty F.entry_zip_next (ZaY hh ap hz hT hr hTI h0 hl on ?_ ?_) (F.args_zip_next_1 _))))
 ·intro vs h' a1 a2 a3 a4 a5 a6
  wp_walk
  exact hQ vs h' a1 a2 a3 a4 a5 a6
 ·rintro h' e a1 a2 ⟨o',e1,e2⟩;exact wpAny_bind (wpAny_isInstance ⟨o',e1,e2⟩ isSubtype_stop (wpAny_pure (hN h' a1 a2)))
def ZipSt (S z TI TO:Addr)(a b:Lane)(i:Nat)(h:Heap):Prop:=
 ((IsZip h z TI TO .none/\∃x y,IsPair h TO x y)\/∃(T:Addr)(f1:Bool)(o:Obj),W9 h z TI TO (rawInt T) f1/\h.get? T=some o/\T≠z/\T≠a.it/\T≠b.it/\T≠S)/\IsPair h TI (.ref a.it) (.ref b.it)/\a.On i h/\b.On i h/\S<h.objs.size
abbrev Zap (z TI TO:Addr)(a b:Lane):Prop:=ZipApart z TI TO a.it b.it a.l b.l
theorem ZipSt.next {S z TI TO:Addr}{a b:Lane}{i:Nat}{Q:Option Value->Shared->Prop}(hh:A.in1.handled=none)(D:Zap z TI TO a b)(st:ZipSt S z TI TO a b i s.heap)(hQ:∀x y h',a.xs[i]?=some x->b.xs[i]?=some y->ZipSt S z TI TO a b (i+1) h'->IsPair h' s.heap.objs.size x y->h'.objs.size=s.heap.objs.size+1->(∀c o,c ∉ [z,TO,a.it,b.it]->s.heap.get? c=some o->h'.get? c=some o)->Q (some (.ref s.heap.objs.size)) { s with heap:=h' })(hN:∀h',a.xs[i]?=none\/b.xs[i]?=none->(∀c o,c ∉ [z,TO,a.it,b.it]->s.heap.get? c=some o->h'.get? c=some o)->Q none { s with heap:=h' }) :
  wpAny (model prog w) A (pyNext (.ref z)) Q E s:=by
 obtain ⟨st,hTI,oa,ob,lS⟩:=st;have new:∀c,(∃o,s.heap.get? c=some o)->s.heap.objs.size≠c:=λc ⟨o,y⟩ e=>Nat.lt_irrefl _ (e▸Heap.lt_size y);have na:=new a.it ⟨_,oa.1.choose_spec.1⟩;have nb:=new b.it ⟨_,ob.1.choose_spec.1⟩;have four:∀{c},c≠z->c≠TO->c≠a.it->c≠b.it->c ∉ [z,TO,a.it,b.it]:=λh1 h2 h3 h4 h=>by simp [h1,h2,h3,h4] at h
 have not4:∀{c},c ∉ [z,TO,a.it,b.it]->c≠z/\c≠TO/\c≠a.it/\c≠b.it:=λh=>by simpa using h
 rcases st with ⟨hz,p,q,hTO⟩ | ⟨T,f1,o,hz,hT,t1,t2,t3,t4⟩
 ·have nz:=new z ⟨_,hz⟩;cases ea:a.xs[i]? with
  | none=>exact wpAny_pyNext_zip_end hh D hz hTI hTO oa.1 ob.1 oa.2 ob.2 (.inl ea) λh' k1=>hN h' (.inl ea) λc o y=>k1 c o (not4 y).1 (not4 y).2.1 (not4 y).2.2.1 (not4 y).2.2.2
  | some x=>
   cases eb:b.xs[i]? with
   | none=>exact wpAny_pyNext_zip_end hh D hz hTI hTO oa.1 ob.1 oa.2 ob.2 (.inr eb) λh' k1=>hN h' (.inr eb) λc o y=>k1 c o (not4 y).1 (not4 y).2.1 (not4 y).2.2.1 (not4 y).2.2.2
   | some y=>
    refine wpAny_pyNext_zip_item D hz hTI hTO oa.1 ob.1 oa.2 ob.2 ea eb λh' b1 b2 b3 b4 b5 b6 k1=>hQ x y h' ea eb ⟨.inr ⟨_,_,_,b1,b5,nz,na,nb,Nat.ne_of_gt lS⟩,?_,⟨b3,oa.2.at λo=>?_⟩,⟨b4,ob.2.at λo=>?_⟩,by rw [b6];exact Nat.lt_succ_of_lt lS⟩ b5 b6 λc o y=>k1 c o (not4 y).1 (not4 y).2.1 (not4 y).2.2.1 (not4 y).2.2.2
    ·exact k1 _ _ D.TIz D.TITO D.TIi1 D.TIi2 hTI
    ·exact k1 _ o D.l1z D.l1TO D.l1i1 D.l1i2
    ·exact k1 _ o D.l2z D.l2TO D.l2i1 D.l2i2
 ·refine ZaZ (rs:=[a,b]) hh ⟨?_,?_⟩ hz hT ?_ hTI (by simp) (by simp) (k:=i) (λr hr=>?_) ?_ ?_
  ·simpa using D.i12
  ·simpa using ⟨⟨D.l1i1,D.l2i1⟩,D.l1i2,D.l2i2⟩
  ·simpa using ⟨⟨D.i1z,D.l1z⟩,D.i2z,D.l2z⟩
  ·simp only [List.mem_cons,List.not_mem_nil,or_false] at hr;rcases hr with rfl | rfl
   ·exact oa
   ·exact ob
  ·intro vs h' e b1 on b5 b6 k1
   match vs,e with
   | [x,y],e=>
    simp only [List.map_cons,List.map_nil,List.cons.injEq,and_true] at e;refine hQ x y h' e.1 e.2 ⟨.inr ⟨T,true,o,b1,k1 _ _ t1 (by simp [t2,t3]) hT,t1,t2,t3,t4⟩,k1 _ _ D.TIz (by simp [D.TIi1,D.TIi2]) hTI,on a (by simp),on b (by simp),by rw [b6];exact Nat.lt_succ_of_lt lS⟩ b5 b6 λc o y=>k1 c o (not4 y).1 (by simp [(not4 y).2.2.1,(not4 y).2.2.2])
   | [],e=>simp at e
   | [_],e=>simp at e
   | _::_::_::_,e=>simp at e
  ·intro h' e k1;refine hN h' (by simpa using e) λc o y=>k1 c o (not4 y).1 (by simp [(not4 y).2.2.1,(not4 y).2.2.2])
theorem ZipSt.aside {S z TI TO:Addr}{a b:Lane}{i:Nat}{h:Heap}(f:Obj->Obj)(hS:S ∉ [z,TI,TO,a.it,b.it,a.l,b.l])(st:ZipSt S z TI TO a b i h):ZipSt S z TI TO a b i (h.update S f):=by
 obtain ⟨st,hTI,oa,ob,lS⟩:=st;have kp:∀c o,c≠S->h.get? c=some o->(h.update S f).get? c=some o:=λc o hc y=>(Heap.get?_update_other _ _ (Ne.symm hc)).trans y;have k1:∀c,c∈[z,TI,TO,a.it,b.it,a.l,b.l]->∀o,h.get? c=some o->(h.update S f).get? c=some o:=λc hc o=>kp c o λe=>hS (e▸hc);refine ⟨st.imp (λ⟨hz,x,y,p⟩=>⟨k1 z (by simp) _ hz,x,y,k1 TO (by simp) _ p⟩) λ⟨T,f1,o,hz,hT,t1,t2,t3,t4⟩=>⟨T,f1,o,k1 z (by simp) _ hz,kp T o t4 hT,t1,t2,t3,t4⟩,k1 TI (by simp) _ hTI,oa.keep λc hc=>k1 c (by rcases hc with rfl | rfl <;> simp),
  ob.keep λc hc=>k1 c (by rcases hc with rfl | rfl <;> simp),by rw [Heap.size_update];exact lS⟩
end
end L2
namespace L2
open PySem PySem.Spec PyProof.Rows
theorem HOk.stayOn {P:Program}{w:World}{H:Hp}{h h':Heap}(x:HOk P w H h)(k:∀b u o,H b=some u->h.get? b=some o->h'.get? b=some o):HOk P w H h':=λa o e=>
 (x a o e).stay (λb u hb q=>hb.elim (λz=>k b o u (by rw [z];exact e) q) (λz=>k b _ u z q)) (λ_ q=>q) λ_ _ q=>q
def ZL (P:Program)(w:World)(H0:Hp)(h0:Heap)(z TO i1 i2 S:Addr)(ns ms:List Int)(i:Nat)(h:Heap)(acc:Array Value):Prop:=
 ∃(Hj:Hp)(vs:List V),Same H0 Hj/\(∀b o,Hj b=some o->H0 b=none->h0.objs.size<=b)/\(Hj z=none/\Hj TO=none/\Hj i1=none/\Hj i2=none/\Hj S=none)/\HOk P w Hj h/\Vals vs acc.toList/\Prs Hj vs ((ns.zip ms).take i) /\
  (∀b o,h0.get? b=some o->h.get? b=some o)/\h0.objs.size<=h.objs.size
section
variable {P:Program}{w:World}{H0:Hp}{h0:Heap}{z TO i1 i2 S:Addr}{ns ms:List Int}{i:Nat}{h h':Heap}{acc:Array Value}
theorem ZL.put (L:ZL P w H0 h0 z TO i1 i2 S ns ms i h acc)(hS:h0.objs.size<=S)(hk:∀b o,b≠S->h.get? b=some o->h'.get? b=some o)(hsz:h.objs.size<=h'.objs.size):ZL P w H0 h0 z TO i1 i2 S ns ms i h' acc:=by
 obtain ⟨Hj,vs,a1,a2,a3,a4,a5,a6,a7,a8⟩:=L;refine ⟨Hj,vs,a1,a2,a3,a4.stayOn λb u o e q=>hk b o (λy=>?_) q,a5,a6,λb o e=>hk b o (Nat.ne_of_lt (Nat.lt_of_lt_of_le (Heap.lt_size e) hS)) (a7 b o e),Nat.le_trans a8 hsz⟩;rw [y,a3.2.2.2.2] at e;cases e
theorem ZL.next {a b:Int}{x y:Value}(L:ZL P w H0 h0 z TO i1 i2 S ns ms i h acc)(hlt:z<h.objs.size/\TO<h.objs.size/\i1<h.objs.size/\i2<h.objs.size/\S<h.objs.size)(hge:h0.objs.size<=z/\h0.objs.size<=TO/\h0.objs.size<=i1/\h0.objs.size<=i2)(ha:ns[i]?=some a)(hb:ms[i]?=some b)(rx:RelV (.int a) x)(ry:RelV (.int b) y)(hT:IsPair h' h.objs.size x y)(hsz:h'.objs.size=h.objs.size+1)(hk:∀c o,c≠z->c≠TO->c≠i1->c≠i2->h.get? c=some o->h'.get? c=some o):ZL P w H0 h0 z TO i1 i2 S ns ms (i+1) h' (acc.push (.ref h.objs.size)):=by
 obtain ⟨Hj,vs,a1,a2,⟨f1,f2,f3,f4,f5⟩,a4,a5,a6,a7,a8⟩:=L;obtain ⟨l1,l2,l3,l4,l5⟩:=hlt;obtain ⟨g1,g2,g3,g4⟩:=hge;have hn:Hj h.objs.size=none:=a4.fresh (Nat.le_refl _);have nn:∀c o,Hj c=some o->c≠z/\c≠TO/\c≠i1/\c≠i2:=λc o e=>⟨λq=>(by rw [q,f1] at e;cases e),λq=>(by rw [q,f2] at e;cases e),λq=>(by rw [q,f3] at e;cases e),λq=>(by rw [q,f4] at e;cases e)⟩;have b1:HOk P w Hj h':=a4.stayOn λc u o e q=>hk c o (nn c u e).1 (nn c u e).2.1 (nn c u e).2.2.1 (nn c u e).2.2.2 q;have sm:Same Hj (upd Hj h.objs.size (.tup [.int a,.int b])):=Same.new hn;refine ⟨upd Hj h.objs.size (.tup [.int a,.int b]),vs++[.ref h.objs.size],a1.trans sm,λc o e n=>?_,⟨?_,?_,?_,?_,?_⟩,λc o e=>?_,?_,?_,λc o e=>?_,by lia⟩
 ·by_cases hc:c=h.objs.size
  ·rw [hc];exact a8
  ·rw [Gy hc] at e;exact a2 c o e n
 ·rw [Gy (Nat.ne_of_lt l1)];exact f1
 ·rw [Gy (Nat.ne_of_lt l2)];exact f2
 ·rw [Gy (Nat.ne_of_lt l3)];exact f3
 ·rw [Gy (Nat.ne_of_lt l4)];exact f4
 ·rw [Gy (Nat.ne_of_lt l5)];exact f5
 ·by_cases hc:c=h.objs.size
  ·subst hc;rw [Gb] at e;cases e;exact ⟨by show 2<=sizeLine;decide,[x,y],.cons rx (.cons ry .nil),⟨_,hT,rfl,_,rfl⟩⟩
  ·rw [Gy hc] at e;exact (b1 c o e).stay (λ_ _ _ q=>q) (λd q=>sm _ _ q) λd xs q=>sm _ _ q
 ·rw [Array.toList_push];exact a5.append (.cons rfl .nil)
 ·have e:(ns.zip ms)[i]?=some (a,b):=by
   rw [List.getElem?_zip_eq_some];exact ⟨ha,hb⟩
  rw [List.take_add_one,e];exact (a6.same sm).snoc Gb
 ·have hc:=Heap.lt_size e;exact hk c o (Nat.ne_of_lt (Nat.lt_of_lt_of_le hc g1)) (Nat.ne_of_lt (Nat.lt_of_lt_of_le hc g2)) (Nat.ne_of_lt (Nat.lt_of_lt_of_le hc g3)) (Nat.ne_of_lt (Nat.lt_of_lt_of_le hc g4)) (a7 c o e)
end
abbrev Za0 (h:Heap)(S:Addr)(acc:Array Value)(c:Nat):Prop:=h.get? S=some { cls:=.type "list", dict:=none,data:=.seq acc c,slots:=#[] }
structure Fed (prog:Program)(w:World)(A:Around)(I S:Addr)(n:Nat)(St:Nat->Heap->Array Value->Prop)(Fi:Heap->Array Value->Prop):Prop where
 give:∀i (s:Shared) acc (Q:Option Value->Shared->Prop) E,i<n->St i s.heap acc ->
  (∀v h',(∀o,s.heap.get? S=some o->h'.get? S=some o)->St (i+1) h' (acc.push v)->Q (some v) { s with heap:=h' })->wpAny (model prog w) A (pyNext (.ref I)) Q E s
 stop:∀(s:Shared) acc (o:Obj) (Q:Option Value->Shared->Prop) E,s.heap.get? S=some o->St n s.heap acc->(∀h',(∀o,s.heap.get? S=some o->h'.get? S=some o)->Fi h' acc->Q none { s with heap:=h' })->wpAny (model prog w) A (pyNext (.ref I)) Q E s
 aside:∀i h f acc,St i h acc->St i (h.update S f) acc
section
variable {prog:Program}{w:World}{A:Around}{I S:Addr}{n:Nat}{St:Nat->Heap->Array Value->Prop}{Fi:Heap->Array Value->Prop}
theorem Fed.loop (W:Fed prog w A.in1 I S n St Fi)(hn:n<=1000)(res:Value){R:Result->Shared->Prop}:∀(k:Nat)(s:Shared)(acc:Array Value)(c:Nat),acc.size+k=n->St acc.size s.heap acc->Za0 s.heap S acc c ->
  (∀h' acc' c',acc'.size=n->Fi h' acc'->Za0 h' S acc' c'->R (.ok (.ret res)) { s with heap:=h' })->codeAny (model prog w) A (.builtin "list.extend.loop" ⟨[.ref S,.ref I,res],[]⟩) R s
 | 0,s,acc,c,e,st,hS,hR=>codeAny_builtin F.entry_extend_loop <| (Around.under_plainId F.plain_extend_loop _)▸wpAny_bind (W.stop s acc _ _ _ hS (by rw [Nat.add_zero] at e;exact e▸st) λh' k1 f=>wpAny_pure (hR h' acc c e f (k1 _ hS)))
 | k+1,s,acc,c,e,st,hS,hR=>codeAny_builtin F.entry_extend_loop <| (Around.under_plainId F.plain_extend_loop _)▸wpAny_bind (W.give _ s acc _ _ (by lia) st λv h' k1 st1=>by
   have h16:=sizeLine_eq;have hS1:=k1 _ hS;refine wpAny_bind (wpAny_updateSeq (s:={ s with heap:=h' }) (f:=(·.push v)) hS1 rfl (wpAny_pure ⟨plainId_quiet F.plain_extend_loop _,?_⟩) (by lia) (by rw [Array.size_push];lia));have es:acc.size+1=(acc.push v).size:=(Array.size_push ..).symm;exact W.loop hn res k _ (acc.push v) _ (by lia) (W.aside _ _ _ _ (es▸st1)) (Heap.get?_update_self _ hS1 rfl) hR)
end
section
variable {prog:Program}{w:World}{A:Around}{E:Value->Shared->Prop}{s:Shared}
namespace ZF
theorem no_len:typeLookup (.type "zip") "__len__" = pure none:=by rw [typeLookup_type,builtinLookup_eq_fast];kernel_rfl
theorem no_hint:typeLookup (.type "zip") "__length_hint__" = pure none:=by rw [typeLookup_type,builtinLookup_eq_fast];kernel_rfl
end ZF
theorem Za1 {z TI TO:Addr}{f0:Value}{n:Nat}{St:Nat->Heap->Array Value->Prop}{Fi:Heap->Array Value->Prop}{Q:Value->Shared->Prop}(hz:IsZip s.heap z TI TO f0)(W:Fed prog w A.in1.in1 z s.heap.objs.size n St Fi)(hn:n<=1000)(st:St 0 (s.heap.push { cls:=.type "list", data:=.seq #[] }) #[])(hQ:∀h' acc c,acc.size=n->Fi h' acc->Za0 h' s.heap.objs.size acc c->Q (.ref s.heap.objs.size) { s with heap:=h' }):wpAny (model prog w) A (call (.type "list") [.ref z]) Q E s:=by
 have hS:Za0 (s.heap.push { cls:=.type "list", data:=.seq #[] }) s.heap.objs.size #[] 0:=Heap.get?_push_size _ rfl;have hz1:IsZip (s.heap.push { cls:=.type "list", data:=.seq #[] }) z TI TO f0:=Heap.get?_push_of_some _ hz;have nz:s.heap.objs.size≠z:=λe=>Nat.lt_irrefl _ (e▸Heap.lt_size hz);refine callType_codes F.called_list (F.typeCall_list_1 _) F.entry_list_init (code_list_new (.ref z) (Q₁:=λv t=>v=.ref s.heap.objs.size/\t.heap=s.heap.push { cls:=.type "list", data:=.seq #[] }/\t={ s with heap:=t.heap }) ⟨rfl,rfl,rfl⟩) ?_;rintro _ t ⟨rfl,ht,he⟩;rw [he,ht];clear he ht t;refine ⟨⟨_,hS,rfl⟩,F.args_list_init_2 _ _,?_⟩;generalize s.heap.push { cls:=.type "list", data:=.seq #[] }=h1 at *;generalize s.heap.objs.size=S at *
 wp_walk
 rw [if_neg (by simp [Builtin.List.listSameRef,nz])];have hz2:IsZip (h1.update S (Obj.mapSeq λ_=>#[])) z TI TO f0:=(Heap.get?_update_other _ _ nz).trans hz1;have hS2:=Heap.get?_update_self (Obj.mapSeq λ_=>(#[]:Array Value)) hS rfl;have st2:=W.aside 0 h1 (Obj.mapSeq λ_=>#[]) _ st;generalize h1.update S (Obj.mapSeq λ_=>#[])=h2 at *;refine wpAny_bind (wpAny_pyIter_zip hz2 ?_);have nl:=ZF.no_len;have nh:=ZF.no_hint;have ty:Shared.TypeIs { s with heap:=h2 } (.ref z) "zip" := ⟨_,hz2,rfl⟩
 wp_walk
 exact ⟨plainId_quiet F.plain_extend_loop _,W.loop hn .none n _ #[] _ (by simp) (W.aside _ _ _ _ (W.aside _ _ _ _ st2)) (Heap.get?_update_self _ (Heap.get?_update_self _ hS2 rfl) rfl) λh' acc c e f l=>⟨rfl,hQ h' acc c e f l⟩⟩
theorem ZcS {P:Program}{H0:Hp}{h0:Heap}{z TI TO S:Addr}{a b:Lane}{ns ms:List Int}(hh:A.in1.handled=none)(D:Zap z TI TO a b)(hS:S ∉ [z,TI,TO,a.it,b.it,a.l,b.l])(hlt:z<S/\TO<S/\a.it<S/\b.it<S)(hge:h0.objs.size<=z/\h0.objs.size<=TO/\h0.objs.size<=a.it/\h0.objs.size<=b.it)(hgS:h0.objs.size<=S)(vx:Vals (ns.map V.int) a.xs.toList)(vy:Vals (ms.map V.int) b.xs.toList) :
  Fed prog w A z S (min ns.length ms.length) (λi h acc=>ZipSt S z TI TO a b i h/\ZL P w H0 h0 z TO a.it b.it S ns ms i h acc) (ZL P w H0 h0 z TO a.it b.it S ns ms (min ns.length ms.length)):=by
 have S4:S ∉ [z,TO,a.it,b.it]:=λh=>hS (by simp only [List.mem_cons,List.not_mem_nil,or_false] at h ⊢;rcases h with h | h | h | h <;> simp [h]);have item:∀{ls:List Int}{r:Lane}{i:Nat},Vals (ls.map V.int) r.xs.toList->(hi:i<ls.length)->∃u,r.xs[i]?=some u/\RelV (.int ls[i]) u:=λ{ls r i} v hi=>by
  obtain ⟨u,g,x⟩:=v.get (show (ls.map V.int)[i]?=some (.int ls[i]) by rw [List.getElem?_map,List.getElem?_eq_getElem hi];rfl);exact ⟨u,by simpa using g,x⟩
 have last:∀{ls:List Int}{r:Lane}{i:Nat}{u:Value},Vals (ls.map V.int) r.xs.toList->r.xs[i]?=some u->i<ls.length:=λ{ls r i u} v e=>by
  have l:=v.length;rw [List.length_map] at l;rw [l,Array.length_toList];exact (Array.getElem?_eq_some_iff.1 e).1
 have out:∀{c},c≠z->c≠TO->c≠a.it->c≠b.it->c ∉ [z,TO,a.it,b.it]:=λh1 h2 h3 h4 h=>by simp [h1,h2,h3,h4] at h
 refine ⟨λi s acc Q E hi ⟨st,L⟩ hQ=>?_,λs acc oS Q E eS ⟨st,L⟩ hQ=>?_,λi h f acc ⟨st,L⟩=>⟨st.aside f hS,L.put hgS (λc o hc y=>(Heap.get?_update_other _ _ (Ne.symm hc)).trans y) (Nat.le_of_eq (Heap.size_update ..).symm)⟩⟩
 ·obtain ⟨x,ex,rx⟩:=item (i:=i) vx (by lia);obtain ⟨y,ey,ry⟩:=item (i:=i) vy (by lia);have lS:=st.2.2.2.2;refine st.next hh D (λx' y' h' fx fy st' p sz k1=>?_) λh' e=>?_
  ·rw [ex] at fx;rw [ey] at fy;cases fx;cases fy;exact hQ _ h' (λo=>k1 S o S4) ⟨st',L.next ⟨Nat.lt_trans hlt.1 lS,Nat.lt_trans hlt.2.1 lS,Nat.lt_trans hlt.2.2.1 lS,Nat.lt_trans hlt.2.2.2 lS,lS⟩ hge (List.getElem?_eq_getElem (by lia)) (List.getElem?_eq_getElem (by lia)) rx ry p sz λc o h1 h2 h3 h4=>k1 c o (out h1 h2 h3 h4)⟩
  ·rw [ex,ey] at e;simp at e
 ·refine st.next hh D (λx' y' h' fx fy=>?_) λh' e k1=>hQ h' (λo=>k1 S o S4) ?_
  ·have:=last vx fx;have:=last vy fy;lia
  ·obtain ⟨Hj,vs,a1,a2,a3,a4,a5,a6,a7,a8⟩:=L;have old:∀c,h0.objs.size > c->c ∉ [z,TO,a.it,b.it]:=λc hc=>out (Nat.ne_of_lt (Nat.lt_of_lt_of_le hc hge.1)) (Nat.ne_of_lt (Nat.lt_of_lt_of_le hc hge.2.1)) (Nat.ne_of_lt (Nat.lt_of_lt_of_le hc hge.2.2.1)) (Nat.ne_of_lt (Nat.lt_of_lt_of_le hc hge.2.2.2));have ours:∀c o,Hj c=some o->c ∉ [z,TO,a.it,b.it]:=λc o y h=>by
    simp only [List.mem_cons,List.not_mem_nil,or_false] at h;rcases h with rfl | rfl | rfl | rfl <;> simp [a3] at y
   exact ⟨Hj,vs,a1,a2,a3,a4.stayOn λc u o e y=>k1 c o (ours c u e) y,a5,a6,λc o y=>k1 c o (old c (Heap.lt_size y)) (a7 c o y),Nat.le_of_lt (Nat.lt_of_le_of_lt hgS (Heap.lt_size (k1 S oS S4 eS)))⟩
end
section
variable {X:Cx}
theorem Zq:bootBuiltins "zip" = some (.type "zip"):=by first | rfl | decide +kernel
def Za2 (K:W.Frag)(ta:TA):TE:=λσ H Q=>ta σ H λvs H1=>∃(l1 l2:Addr)(ns ms:List Int),vs=[.ref l1,.ref l2]/\SqL K H1 l1 (ns.map V.int)/\SqL K H1 l2 (ms.map V.int)/\ns.length<=1000 /\
 ∀(S:Addr)(ws:List V)(H':Hp),Same H1 H'->H1 S=none->H' S=some (.lst ws)->Prs H' ws (ns.zip ms)->Q (.ref S) H'
theorem Yt {a b:Expr}{ta:TA}{p p2 pos pos2:Pos}(K:W.Frag)(hc:X.calm=true)(hg:Gl X "list")(hm:X.mg "list" = none)(hg2:Gl X "zip")(hm2:X.mg "zip" = none)(ha:PA X [a,b] ta)(hK:X.K=K:=by rfl)(hs:starEach [Expr.Call (.Name "zip" p2) [a,b] [] pos2] X.env=[(false,eval (.Call (.Name "zip" p2) [a,b] [] pos2) X.env)]:=by rfl)(hs2:starEach [a,b] X.env=(false,eval a X.env)::starEach [b] X.env:=by rfl)(hp2:(backTo pos2 (starEach [b] X.env)).any (·.1)=false:=by rfl) :
  PE X (.Call (.Name "list" p) [.Call (.Name "zip" p2) [a,b] [] pos2] [] pos) (Za2 K ta):=by
 subst hK;intro qQ s σ H Q I h;refine wpAny_Call_Name_kw (Ua I hg hm J0 (PyProof.Rows.callWith_type1 ?_ hs rfl) (by decide) (by decide));rw [hs];refine Calls.spliced_cons ?_;refine wpAny_Call_Name_kw (Ua I hg2 hm2 Zq (PyProof.Rows.callWith_type1 (thn (ha pos2 qQ s σ H _ I h) λus s1 ⟨vs,H1,I1,r1,q1⟩=>?_) hs2 hp2) (by decide) (by decide));obtain ⟨l1,l2,ns,ms,rfl,hq1,hq2,hn,q⟩:=q1;obtain ⟨u1,u2,rfl,ru1,ru2⟩:=r1.two;cases ru1;cases ru2;obtain ⟨xs,v1,p1,hz1⟩:=I1.list hq1;obtain ⟨ys,v2,p2',hz2⟩:=I1.list hq2;refine call_zip_2 p1.isList p2'.isList λh' hz hTI hTO hi1 hi2 hsz hk=>?_;refine Calls.spliced_nil ?_;have lt1:l1<s1.heap.objs.size:=by obtain ⟨_,e,_⟩:=p1.isList;exact Heap.lt_size e
 have lt2:l2<s1.heap.objs.size:=by obtain ⟨_,e,_⟩:=p2'.isList;exact Heap.lt_size e
 have D:ZipApart (s1.heap.objs.size+4) (s1.heap.objs.size+2) (s1.heap.objs.size+3) s1.heap.objs.size (s1.heap.objs.size+1) l1 l2:=by
  constructor <;> (first | exact Nat.ne_of_lt (by lia) | exact Nat.ne_of_gt (by lia) | (apply Nat.ne_of_lt;exact Nat.lt_of_lt_of_le (by assumption) (by lia)))
 have l1x:=v1.length;rw [List.length_map] at l1x;have fr:∀b,s1.heap.objs.size<=b->H1 b=none:=λb hb=>I1.hok.fresh hb;have hS:h'.objs.size ∉ [s1.heap.objs.size+4,s1.heap.objs.size+2,s1.heap.objs.size+3,s1.heap.objs.size,s1.heap.objs.size+1,l1,l2]:=by
  simp only [List.mem_cons,List.not_mem_nil,or_false];have g1:l1<h'.objs.size:=by rw [hsz];exact Nat.lt_of_lt_of_le lt1 (by lia)
  have g2:l2<h'.objs.size:=by rw [hsz];exact Nat.lt_of_lt_of_le lt2 (by lia)
  rintro (e | e | e | e | e | e | e) <;> first | lia | exact Nat.ne_of_gt g1 e | exact Nat.ne_of_gt g2 e
 have up:∀b o,s1.heap.get? b=some o->(h'.push { cls:=.type "list", data:=.seq #[] }).get? b=some o:=λb o e=>Heap.get?_push_of_some _ (hk b o e);have pu:∀b o,h'.get? b=some o->(h'.push { cls:=.type "list", data:=.seq #[] }).get? b=some o:=λb o e=>Heap.get?_push_of_some _ e;have l2x:=v2.length;rw [List.length_map] at l2x;refine Za1 hz (ZcS (P:=X.prog) (H0:=H1) (h0:=s1.heap) (a:=⟨s1.heap.objs.size,l1,xs.toArray⟩) (b:=⟨s1.heap.objs.size+1,l2,ys.toArray⟩) (I1.ok.hd hc) D hS ⟨by show _<h'.objs.size;lia,by show _<h'.objs.size;lia,by show s1.heap.objs.size<h'.objs.size;lia,by show s1.heap.objs.size+1<h'.objs.size;lia⟩
  ⟨by lia,by lia,Nat.le_refl _,by show _<=s1.heap.objs.size+1;lia⟩ (by show _<=h'.objs.size;lia) v1 v2) (by lia)
  ⟨⟨.inl ⟨pu _ _ hz,_,_,pu _ _ hTO⟩,pu _ _ hTI,⟨hi1.at λo=>pu _ o,p1.isList.at λo=>up _ o⟩,⟨hi2.at λo=>pu _ o,p2'.isList.at λo=>up _ o⟩,by rw [Heap.size_push];exact Nat.lt_succ_self _⟩,
   H1,[],Same.refl _,λb o e n=>(by rw [n] at e;cases e),⟨fr _ (by lia),fr _ (by lia),fr _ (Nat.le_refl _),fr _ (by show _<=s1.heap.objs.size+1;lia),fr _ (by show _<=h'.objs.size;lia)⟩,I1.hok.kept λb u e=>up b u e,.nil,.nil,up,by rw [Heap.size_push];show _<=h'.objs.size+1;lia⟩ ?_
 ·intro h2 acc c z2 L e2;obtain ⟨Hj,ws,a1,a2,⟨f1,f2,f3,f4,f5⟩,a4,a5,a6,a7,a8⟩:=L;have h16:(16777216:Nat)=sizeLine:=sizeLine_eq.symm;have hzl:(ns.zip ms).take (min ns.length ms.length)=ns.zip ms:=List.take_of_length_le (by rw [List.length_zip];lia);rw [hzl] at a6;have hwl:ws.length<=sizeLine:=by rw [a5.length,Array.length_toList,z2];lia
  have sm:Same Hj (upd Hj h'.objs.size (.lst ws)):=Same.new f5;have S1:=a1.trans sm;refine ⟨.ref h'.objs.size,upd Hj h'.objs.size (.lst ws),I1.un (h':=h2) (t':=s1.toks) ⟨λb o e _ _ _=>a7 b o e,λb o e _ _ _=>⟨o.slots,a7 b o e⟩,λb o e n _=>?_,λb o e _=>⟨o,a7 b o e⟩,λb ys e=>S1 _ _ e,λb o u e=>S1 _ _ e,λb ps e=>⟨#[],by rw [S1 _ _ e];simp⟩⟩ (λb o e=>?_),rfl,?_⟩
  ·have hb:=Heap.lt_size e;rw [Gy (Nat.ne_of_lt (Nat.lt_of_lt_of_le hb (show s1.heap.objs.size<=h'.objs.size by lia)))];cases z:Hj b with
   | none=>rfl
   | some u=>exact absurd (Nat.lt_of_lt_of_le hb (a2 b u z n)) (Nat.lt_irrefl _)
  ·by_cases hb:b=h'.objs.size
   ·subst hb;rw [Gb] at e;cases e;exact ⟨hwl,acc.toList,c,a5,e2⟩
   ·rw [Gy hb] at e;exact (a4 b o e).stay (λ_ _ _ q=>q) (λd q=>sm _ _ q) λd xs q=>sm _ _ q
  ·refine q _ ws _ S1 ?_ Gb (a6.same sm);exact I1.hok.fresh (by lia)
end
end L2
namespace L2
open PySem PySem.Spec PyProof.Rows
theorem Wl:bootBuiltins "min" = some (.builtin "min"):=by first | rfl | decide +kernel
section
variable {X:Cx}
theorem Zhr (K:W.Frag)(hc:X.calm=true)(h:X.K=K:=by rfl):JC X (.builtin "min") (λxs H Q=>∃(p:Addr)(ns:List Int),xs=[.ref p]/\SqL K H p (ns.map V.int)/\ns≠[]/\∀m,m∈ns->(∀n∈ns,m<=n)->Q (.int m) H):=by
 subst h;intro qQ s σ H xs us Q I rv h;obtain ⟨p,ns,rfl,hq,hne,q⟩:=h;obtain ⟨u,rfl,ru⟩:=rv.one;cases ru;obtain ⟨its,r,pl,hz⟩:=I.list hq;have hh:X.A.in1.handled=none:=I.ok.hd hc;have hl:=r.length;rw [List.length_map] at hl;have hpos:0<ns.length:=List.length_pos_iff.mpr hne;obtain ⟨o,eo,_⟩:=id pl.isList;have hlt:p<s.heap.objs.size:=Heap.lt_size eo;have hval:∀(i:Nat)(v:Value),its.toArray[i]?=some v->∃t,v=Value.int (ns.getD i 0) t:=λi v hv=>by
  have hv':its[i]?=some v:=by simpa using hv
  have hi:i<its.length:=(List.getElem?_eq_some_iff.mp hv').1;have ex:(ns.map V.int)[i]?=some (.int (ns[i]'(by lia))):=by rw [List.getElem?_map,List.getElem?_eq_getElem (by lia)];rfl
  obtain ⟨u,gu,ru⟩:=r.get ex;rw [gu] at hv';cases hv';obtain ⟨t,rfl⟩:=ru;exact ⟨t,by rw [List.getD_eq_getElem?_getD,List.getElem?_eq_getElem (by lia)];rfl⟩
 refine call_min_walk (wpAny_pyIter_list pl.isList ?_);refine ⟨s.heap.objs.size,_,_,_,_,_,_,rfl,Walks.list hh s.heap.objs.size p (Nat.ne_of_lt hlt) its.toArray,⟨⟨_,Heap.get?_push_size _ rfl,rfl,rfl⟩,pl.isList.at λo e=>Heap.get?_push_of_some _ e⟩,?_,by rw [List.size_toArray];lia,CmpOf.ints_lt (λi=>ns.getD i 0) hval,λv h' tk hv hk=>?_⟩
 ·intro b hb;have e:b=s.heap.objs.size\/b=p:=by simpa using hb
  have hsz:(s.heap.push { cls:=.type "list_iterator", data:=.fields #[.ref p,.int 0 0] }).objs.size=s.heap.objs.size+1:=Heap.size_push ..;show b<(s.heap.push { cls:=.type "list_iterator", data:=.fields #[.ref p,.int 0 0] }).objs.size;rw [hsz];rcases e with e | e
  ·rw [e];exact Nat.lt_succ_self _
  ·rw [e];exact Nat.lt_succ_of_lt hlt
 ·obtain ⟨t,rfl⟩:=hval _ v hv;have hA:=argBest_lt (λi=>ns.getD i 0) (its.toArray.size-1);have hsz:its.toArray.size=ns.length:=by rw [List.size_toArray];exact hl.symm
  generalize hg:argBest (λi j=>decide (ns.getD i 0<ns.getD j 0)) (its.toArray.size-1)=g at hA ⊢;have hg1:g<ns.length:=by lia
  have eg:ns.getD g 0=ns[g]:=by rw [List.getD_eq_getElem?_getD,List.getElem?_eq_getElem hg1];rfl
  refine ⟨.int (ns.getD g 0),H,I.kept λb o e'=>hk b o ?_ (Heap.get?_push_of_some _ e'),⟨t,rfl⟩,q _ (by rw [eg];exact List.getElem_mem hg1) λn hn=>?_⟩
  ·intro z;have:b=s.heap.objs.size:=by simpa using z
   exact absurd (Heap.lt_size e') (by rw [this];exact Nat.lt_irrefl _)
  ·obtain ⟨j,hj,rfl⟩:=List.getElem_of_mem hn;have:=hA.2 j (by lia);have ej:ns.getD j 0=ns[j]:=by rw [List.getD_eq_getElem?_getD,List.getElem?_eq_getElem hj];rfl
   rw [<-ej];exact this
end
theorem Od {K:PySem.W.Frag}{a:Addr}{xs:List V}{g:TG}{tb:TS}{D:Ends}{σ:St}{H:Hp}(Pv:Nat->St->Hp->Prop)(h0:Pv 0 σ H)(hl:∀i σ H,i<=xs.length->Pv i σ H->SqL K H a xs)(hs:∀i x σ H T,xs[i]?=some x->Pv i σ H->H T=none->g (.ref T) σ (upd H T (.tup [.int (i:Nat),x])) λσ2 H2=>tb { D with nx:=Pv (i+1),ct:=Pv (i+1),bk:=D.nx } σ2 H2)(hd:∀ σ H,Pv xs.length σ H->D.nx σ H) :
  ∃W:Nat->Nat->St->Hp->Prop,(∃m,W 0 m σ H)/\∀i m σ H,W i m σ H ->
   ((Ite K a).stop i H/\D.nx σ H)\/((Ite K a).go i H/\∃N:St->Hp->Prop,(∀ σ' H',N σ' H'->∃m',m'<m/\W (i+1) m' σ' H')/\∀x H',(Ite K a).yld i H x H'->g x σ H' λσ2 H2=>tb { D with nx:=N,ct:=N,bk:=D.nx } σ2 H2):=by
 refine ⟨λi m σ H=>m=xs.length-i/\i<=xs.length/\Pv i σ H,⟨xs.length,by simp,Nat.zero_le _,h0⟩,?_⟩;rintro i m σ H ⟨rfl,hi,p⟩;have q:=hl i σ H hi p;by_cases hlt:i<xs.length
 ·refine .inr ⟨⟨xs,xs[i],q,by simp [hlt]⟩,Pv (i+1),λσ' H' p'=>⟨xs.length-(i+1),by lia,rfl,hlt,p'⟩,λx H' y=>?_⟩;obtain ⟨T,y',rfl,hT,rfl,hy⟩:=y;exact hs i y' σ H T (hy xs q) p hT
 ·have e:i=xs.length:=by lia
  subst e;exact .inl ⟨⟨xs,q,Nat.le_refl _⟩,hd σ H p⟩
end L2
namespace L2
open PySem PySem.Spec PyProof.Rows
structure FunD (K:W.Frag)(x qual:Str)(st:Stmt)(dV:Value)(f:Addr)(fd:FuncData):Prop where
 ex:∃(oc:Value)(od:Option Addr)(kV doc pm:Value)(an:Option Addr)(cdv ct:Value)(osl:Array (Option Value)),
  fd=W.fnOf x qual (Gp st) (Gn st) (Gc st) dV kV doc pm an cdv ct/\K.lookup f=some ⟨oc,od,.func fd,osl⟩/\W.codeIn K cdv qual=true
 kp:W.keepIn K (.ref f)=true
section
variable {P:Program}{w:World}{K:W.Frag}{mg:Str->Option Value}{base:Heap}
theorem FunD.ok {x qual:Str}{st:Stmt}{dV:Value}{f:Addr}{fd:FuncData}{N ps:List Str}{k:Nat}{sp:Sp}(F:FunD K x qual st dV f fd)(S:Gr N ps (Gc st))(len:∀vs H Q E,sp vs H Q E->vs.length=ps.length)(qG:∀(cdv:Value)(A:Around)(outer:List Env)(s:Shared)(H:Hp)(vs:List V)(Q:VK)(E:XK),Room k (A.deeper (envOfC qual (Gc st) s.heap.objs.size f cdv))->sp vs H Q E ->
   ∃t,PSs (Y6 CX0 P w K mg base N qual (Gc st) f cdv A outer s H E).nox (Gn st) t/\t { nx:=λ_ H'=>Q .non H',rt:=Q } (start N vs) H):GG P w K mg base CX0 (k+1) f fd ps sp:=by
 obtain ⟨oc,od,kV,doc,pm,an,cdv,ct,osl,rfl,lk,hcd⟩:=F.ex;refine ZcA lk hcd S len λA outer s H vs Q E hr hsp=>?_;obtain ⟨t,h,q⟩:=qG cdv A outer s H vs Q E hr hsp;exact ⟨t,h.nox,q⟩
theorem ZcT {x qual:Str}{st:Stmt}{f:Addr}{oc:Value}{od an:Option Addr}{osl:Array (Option Value)}{dV kV doc pm cdv ct:Value}(l:K.lookup f=some ⟨oc,od,.func (W.fnOf x qual (Gp st) (Gn st) (Gc st) dV kV doc pm an cdv ct),osl⟩)(c:W.codeIn K cdv qual=true)(k:W.keepIn K (.ref f)=true):FunD K x qual st dV f (W.fnOf x qual (Gp st) (Gn st) (Gc st) dV kV doc pm an cdv ct):=⟨⟨oc,od,kV,doc,pm,an,cdv,ct,osl,rfl,l,c⟩,k⟩
end
end L2
namespace L2
open PySem PySem.Spec PyProof.Rows
section
variable {X:Cx}(K:W.Frag)
theorem Zek {tg:Expr}{l:Expr}{tl:TE}(hl:PE X l tl)(h:X.K=K:=by rfl):PI X tg l (Zgz K tl):=h▸ZdV hl
end
end L2
namespace L2
open PySem PySem.Spec PyProof.Rows
theorem Za3 {K:PySem.W.Frag}{a D:Addr}{xs:List V}{g:TG}{tc:TT}{te:TE}{σ0:St}{R:Hp->Prop}{H1:Hp}(Pv:Nat->List V->Hp->Prop)(h0:Pv 0 [] (upd H1 D (.lst [])))(hl:∀i ys H,i<=xs.length->Pv i ys H->SqT K H a xs)(hs:∀i x ys H,xs[i]?=some x->Pv i ys H->g x σ0 H λσ4 H4=>Oo σ0 σ4/\tc σ4 H4 λb H5=>if b=true then te σ4 H5 λy H6=>H6 D=some (.lst ys)/\ys.length<sizeLine/\Pv (i+1) (ys++[y]) (upd H6 D (.lst (ys++[y]))) else Pv (i+1) ys H5)(hd:∀ys H,Pv xs.length ys H->R H):∃W:Nat->Nat->List V->Hp->Prop,(∃m,W 0 m [] (upd H1 D (.lst [])))/\Jq (Itt K a) D g tc te σ0 W R:=by
 refine ⟨λi m ys H=>m=xs.length-i/\i<=xs.length/\Pv i ys H,⟨_,rfl,Nat.zero_le _,h0⟩,?_⟩;rintro i m ys H ⟨rfl,hi,p⟩;have q:=hl i ys H hi p;by_cases hlt:i<xs.length
 ·refine .inr ⟨⟨xs,xs[i],q,by simp [hlt]⟩,Pv (i+1),λys' H' p'=>⟨xs.length-(i+1),by lia,rfl,hlt,p'⟩,λx H' y=>?_⟩;obtain ⟨e,y⟩:=y;subst e;exact hs i x ys _ (y xs q) p
 ·have e:i=xs.length:=by lia
  subst e;exact .inl ⟨⟨xs,q,Nat.le_refl _⟩,hd ys H p⟩
end L2
namespace L2
open PySem PySem.Spec PyProof.Rows
open AutoSeq1 (wpAny_loadPart') in
theorem Xa (L:Addr)(its:Array Value)(c:Nat)(y:Value)(ev:Value->Bool)(at_:Nat)(ha:at_<its.size)(yes:ev its[at_]=true)(room:its.size<=sizeLine):∀(left i:Nat),at_-i=left->i<=at_ ->
  (∀m (hm:m<its.size),i<=m->m<at_->ev its[m]=false)->Meets (Builtin.«list.remove.loop» ⟨[.ref L,y,rawInt i],[]⟩)
   (λA R s=>s.heap.get? L=some { cls:=.type "list", dict:=none,data:=.seq its c,slots:=#[] }/\(∀z,z∈its->SeqAt.EqAt A.in1 s z y (ev z))/\R (.ok (.ret .none)) { s with heap:=s.heap.update L (Obj.mapSeq λzs=>zs.eraseIdxIfInBounds at_) }):=by
 intro left
 induction left with
 | zero=>
  intro i hk hle no prog w A R s ⟨hl,he,h⟩;obtain ⟨hp,g,d,tk,os⟩:=s;have e:i=at_:=by lia
  subst e
  wp_walk using wpAny_loadPart' hl
  have g1:its[((i:Nat):Int).toNat]?=some its[i]:=by simp [ha]
  rw [g1];refine wpAny_bind (he _ (Array.getElem_mem ha) prog w _ _ ?_);rw [yes];have g2:(its.eraseIdxIfInBounds i).size<=sizeLine+1:=Nat.le_trans (MeetsSeq.size_erased its _) (Nat.le_succ_of_le room)
  wp_walk using (wpAny_updateSeq hl rfl (hz:=room) (_hz':=g2)),wpAny_loadPart' hl
  simpa using h
 | succ left ih=>
  intro i hk hle no prog w A R s ⟨hl,he,h⟩;obtain ⟨hp,g,d,tk,os⟩:=s;have hi:i<its.size:=by lia
  wp_walk using wpAny_loadPart' hl
  have g1:its[((i:Nat):Int).toNat]?=some its[i]:=by simp [hi]
  have g2:((i:Int)+1)=((i+1:Nat):Int):=by lia
  rw [g1];refine wpAny_bind (he _ (Array.getElem_mem hi) prog w _ _ ?_);rw [no i hi (Nat.le_refl _) (by lia)]
  wp_walk
  rw [g2];refine ⟨plainId_quiet MeetsSeq.plain_remove_loop _,codeAny_builtin MeetsSeq.entry_remove_loop ?_⟩;rw [Around.under_plainId MeetsSeq.plain_remove_loop _];exact ih (i+1) (by lia) (by lia) (λm hm m1 m2=>no m hm (by lia) m2) prog w A R _ ⟨hl,he,h⟩
open AutoSeq1 (wpAny_loadPart') in
theorem Yu (L:Addr)(its:Array Value)(c:Nat)(y:Value)(ev:Value->Bool)(at_:Nat)(ha:at_<its.size)(yes:ev its[at_]=true)(no:∀m (hm:m<its.size),m<at_->ev its[m]=false)(room:its.size<=sizeLine):Meets (Builtin.«list.remove» ⟨[.ref L,y],[]⟩)
   (λA R s=>s.heap.get? L=some { cls:=.type "list", dict:=none,data:=.seq its c,slots:=#[] }/\(∀z,z∈its->SeqAt.EqAt A.in1 s z y (ev z))/\R (.ok (.ret .none)) { s with heap:=s.heap.update L (Obj.mapSeq λzs=>zs.eraseIdxIfInBounds at_) }):=by
 intro prog w A R s ⟨hl,he,h⟩;obtain ⟨hp,g,d,tk,os⟩:=s
 wp_walk using wpAny_loadPart' hl
 refine ⟨plainId_quiet MeetsSeq.plain_remove_loop _,codeAny_builtin MeetsSeq.entry_remove_loop ?_⟩;rw [Around.under_plainId MeetsSeq.plain_remove_loop _];exact Xa L its c y ev at_ ha yes room _ 0 rfl (Nat.zero_le _) (λm hm _ m2=>no m hm m2) prog w A R _ ⟨hl,he,h⟩
section
variable {X:Cx}
def Zel (K:W.Frag):V->List V->Hp->VK->Prop:=λx vs H Q=>∃l xs y d ds j,x=.ref l/\vs=[y]/\H l=some (.lst xs)/\DatV K H y d/\DatVs K H xs ds/\SeqAt.shaped d=true/\(∀e∈ds,SeqAt.shaped e=true) /\
 j<xs.length/\(∀e,ds[j]?=some e->PyData.eqv e d=true)/\(∀m,m<j->∀e,ds[m]?=some e->PyData.eqv e d=false)/\Q .non (upd H l (.lst (xs.eraseIdx j)))
theorem ZfC (K:W.Frag)(hu:X.A.units+65<cLine)(hK:X.K=K:=by rfl):MtM X "list.remove" (Zel K):=by
 subst hK;intro qQ s σ H x vs v us Q I rx rv h;obtain ⟨l,xs,y,d,ds,j,rfl,rfl,hH,hd,hds,sd,sds,hj,yes,no,q⟩:=h;cases rx;obtain ⟨u,rfl,ru⟩:=rv.one;obtain ⟨z,its,n,r,hl,e⟩:=I.lstM hH;obtain ⟨as,ra⟩:=hd.reads I ru;obtain ⟨bs,rb⟩:=hds.reads I r;obtain ⟨k1,k2⟩:=Zh rb sds;have hu1:X.A.in1.units+64<cLine:=by rw [Around.in1_units];lia
 have qV:its.length=xs.length:=hl.symm;have at_:∀m (hm:m<its.length),ds[m]?=some (Ov s.heap its[m]):=λm hm=>by
  rw [<-k2,List.getElem?_map,List.getElem?_eq_getElem hm]
  rfl
 have room:its.toArray.size<=sizeLine:=by rw [List.size_toArray];lia
 refine call_meets PySem.F.slot_list_remove ⟨_,e,rfl⟩ PySem.F.entry_list_remove (PySem.F.args_list_remove_2 _ _) (Yu l its.toArray n u (λw=>PyData.eqv (Ov s.heap w) d) j (by rw [List.size_toArray];lia) (yes _ (at_ j (by lia))) (λm hm hlt=>no m hlt _ (at_ m (by simpa using hm))) room) ⟨e,λw hw=>?_,?_⟩
 ·obtain ⟨as',r',s'⟩:=k1 w (by simpa using hw);exact W.keq_at r' ra s' sd hu1
 ·refine ⟨.non,_,I.lset (its':=its.eraseIdx j) hH e ?_ (r.eraseIdx j) ?_,rfl,q⟩
  ·show its.toArray.eraseIdxIfInBounds j=(its.eraseIdx j).toArray;rw [List.eraseIdxIfInBounds_toArray]
  ·have:=Uy xs j
   lia
theorem Zhs {K:W.Frag}{H:Hp}{l p:Addr}{xs:List V}{rs:List (Int×Int)}{t:Int×Int}{Q:VK}(hl:H l=some (.lst xs))(pr:Prs H xs rs)(hp:H p=some (.tup [.int t.1,.int t.2]))(hm:t∈rs)(q:∀xs':List V,xs'.length<=xs.length->Prs H xs' (rs.erase t)->Q .non (upd H l (.lst xs'))):Zel K (.ref l) [.ref p] H Q:=by
 have hj:rs.idxOf t<rs.length:=List.idxOf_lt_length_iff.mpr hm;have hx:=pr.len;refine ⟨l,xs,.ref p,prD t,rs.map prD,rs.idxOf t,rfl,rfl,hl,.tup (SqT.of hp) (.cons (.int _) (.cons (.int _) .nil)),pr.dats,U3 t,ZaS rs,by lia,λe he=>?_,λm hlt e he=>?_,?_⟩
 ·rw [List.getElem?_map,List.getElem?_eq_getElem hj] at he;cases he;rw [Ze];exact decide_eq_true (List.getElem_idxOf hj)
 ·rw [List.getElem?_map,List.getElem?_eq_getElem (by lia)] at he;cases he;rw [Ze];refine decide_eq_false λz=>?_;have:=List.not_of_lt_findIdx hlt;rw [z] at this;simp at this
 ·have:=Uy xs (rs.idxOf t);refine q _ (by lia) ?_;rw [List.erase_eq_eraseIdx_of_idxOf (i:=rs.idxOf t) rfl];exact pr.erase _
end
end L2
namespace L2
open PySem PySem.Spec PyProof.Rows
def ltP (x y:Int×Int):Bool:=decide (x.1<y.1) || (decide (x.1=y.1) && decide (x.2<y.2))
section
variable {prog:Program}{w:World}{A:Around}{E:Value->Shared->Prop}{s:Shared}
theorem lt_int {x y:Int}{t u:Tok}{Q:Value->Shared->Prop}(h:Q (.bool (decide (x<y))) s):wpAny (model prog w) A (richCompare .Lt (.int x t) (.int y u)) Q E s:=
 CmpOf.ints_lt (P:=λi v=>∃t,v=.int (if i=0 then x else y) t) (λi=>if i=0 then x else y) (λ_ _ p=>p) 0 1 _ _ s Q E ⟨t,rfl⟩ ⟨u,rfl⟩ h
theorem ZcU {a b:Addr}{x y:Int×Int}{t1 t2 u1 u2:Tok}{P:PySem.Fin->Shared->Prop}(ha:s.heap.IsTuple a #[.int x.1 t1,.int x.2 t2])(hb:s.heap.IsTuple b #[.int y.1 u1,.int y.2 u2])(h:P (.done (.ret (.bool (ltP x y)))) s) :
  wpAny (model prog w) A (Builtin.«tuple.__lt__» ⟨[.ref a,.ref b],[]⟩) P E s:=by
 obtain ⟨oa,ga,ca,na,da⟩:=ha;obtain ⟨ob,gb,cb,nb,db⟩:=hb;show wpAny _ _ (isInstance (.ref b) (.type "tuple") >>= _) _ _ s;refine wpAny_bind (wpAny_isInstance (T := "tuple") ⟨ob,gb,cb⟩ isSubtype_tuple_tuple ?_);simp only [Bool.not_true,Bool.false_eq_true,if_false];refine wpAny_bind (wpAny_tupleItemsOf ga da (wpAny_bind (wpAny_tupleItemsOf gb db (wpAny_bind ?_))));show wpAny _ _ (forIn [(Value.int x.1 t1,Value.int y.1 u1),(Value.int x.2 t2,Value.int y.2 u2)] _ _) _ _ s;rw [List.forIn_cons];refine wpAny_bind (wpAny_bind (wpAny_eqBool_int ?_));by_cases h1:x.1=y.1
 ·rw [show (x.1 == y.1)=true by rw [h1];exact beq_self_eq_true _];simp only [Bool.not_true,Bool.false_eq_true,if_false];refine wpAny_pure ?_;show wpAny _ _ (forIn [(Value.int x.2 t2,Value.int y.2 u2)] _ _) _ _ s;rw [List.forIn_cons];refine wpAny_bind (wpAny_bind (wpAny_eqBool_int ?_));by_cases h2:x.2=y.2
  ·rw [show (x.2 == y.2)=true by rw [h2];exact beq_self_eq_true _];simp only [Bool.not_true,Bool.false_eq_true,if_false];refine wpAny_pure ?_;show wpAny _ _ (forIn [] _ _) _ _ s;rw [List.forIn_nil];refine wpAny_pure (wpAny_pure ?_);have e:ltP x y=false:=by unfold ltP;rw [h1,h2];simp
   rw [e] at h;exact h
  ·rw [show (x.2 == y.2)=false by rw [beq_eq_false_iff_ne];exact h2];simp only [Bool.not_false,if_true];refine wpAny_bind (wpAny_rule (wpAny_bind (lt_int ?_)));have e:ltP x y=decide (x.2<y.2):=by unfold ltP;rw [h1];simp
   rw [e] at h;exact wpAny_bind (wpAny_pure (wpAny_pure (wpAny_pure (wpAny_pure h))))
 ·rw [show (x.1 == y.1)=false by rw [beq_eq_false_iff_ne];exact h1];simp only [Bool.not_false,if_true];refine wpAny_bind (wpAny_rule (wpAny_bind (lt_int ?_)));have e:ltP x y=decide (x.1<y.1):=by unfold ltP;rw [decide_eq_false h1];simp
  rw [e] at h;exact wpAny_bind (wpAny_pure (wpAny_pure (wpAny_pure (wpAny_pure h))))
theorem ZcV {a b:Addr}{x y:Int×Int}{t1 t2 u1 u2:Tok}{Q:Value->Shared->Prop}(ha:s.heap.IsTuple a #[.int x.1 t1,.int x.2 t2])(hb:s.heap.IsTuple b #[.int y.1 u1,.int y.2 u2])(hu:A.units<cLine)(h:Q (.bool (ltP x y)) s):wpAny (model prog w) A (richCompare .Lt (.ref a) (.ref b)) Q E s:=by
 have Ta:s.TypeIs (.ref a) "tuple" := ha.elim λo z=>⟨o,z.1,z.2.1⟩;have Tb:s.TypeIs (.ref b) "tuple" := hb.elim λo z=>⟨o,z.1,z.2.1⟩;exact wpAny_richCompare_same_room (op:=.Lt) Ta Tb F.slot_tuple_lt (wpAny_call_entry F.slot_tuple_lt Ta F.entry_tuple_lt (ZcU ha hb ⟨_,rfl,(λe=>nomatch e),h⟩) (F.args_tuple_lt_2 _ _)) hu
end
def Zem (prog:Program)(w:World)(A:Around)(op:CmpOp)(J:Heap->Prop)(P:Nat->Value->Prop)(bt:Nat->Nat->Bool):Prop:=
 ∀(s:Shared)(i j:Nat)(vi vj:Value)(Q E:Value->Shared->Prop),J s.heap->P i vi->P j vj->Q (.bool (bt i j)) s->wpAny (model prog w) A (richCompare op vi vj) Q E s
section
variable {prog:Program}{w:World}{A:Around}{R:Result->Shared->Prop}{I:Addr}{fp wr:List Addr}{n:Nat}{P:Nat->Value->Prop}{St:Nat->Heap->Prop}{J:Heap->Prop}{kw:List (Str×Value)}
theorem Zr (W:Walks prog w A.in1 I fp wr n P St)(bt:Nat->Nat->Bool)(cmp:Zem prog w A.in1 .Lt J P bt)(D:Addr)(hD:D ∉ fp)(keepJ:∀h h':Heap,J h->(∀b o,b ∉ wr->b≠D->h.get? b=some o->h'.get? b=some o)->J h') :
  ∀(left m:Nat)(s:Shared)(best:Value)(c:Nat),n-(m+1)=left->m+1<=n->St (m+1) s.heap->J s.heap->P (argBest bt m) best ->
  s.heap.get? D=some { cls:=.type "list", dict:=none,data:=.seq #[best,best] c,slots:=#[] } ->
  (∀v h' tk,P (argBest bt (n-1)) v->(∀b o,b ∉ wr->b≠D->s.heap.get? b=some o->h'.get? b=some o)->R (.ok (.ret v)) { s with heap:=h',toks:=tk }) ->
  codeAny (model prog w) A (.builtin "min.loop" ⟨[.ref I,.none,.ref D],kw⟩) R s:=by
 have hDw:D ∉ wr:=λz=>hD (W.sub _ z);have nm:(toString "min" ++ toString ".loop" : String) = "min.loop" := by decide
 intro left
 induction left with
 | zero=>
  intro m s best c hl hm st j pb gD hR;have en:m+1=n:=by lia
  refine codeAny_builtin F.entry_min_loop ?_;rw [Around.under_plainId F.plain_min_loop _];show wpAny _ A.in1 (seqItems? (.ref D) >>= _) _ _ s;refine wpAny_bind (wpAny_seqItems gD rfl (show wpAny _ A.in1 (tryCatch (pyNext (.ref I)) _ >>= _) _ _ s from wpAny_bind (wpAny_tryCatch (W.done s _ _ (en▸st) λh' tk kept=>?_))));show wpAny _ A.in1 (updateSeq D (λ_=>#[]) >>= _) _ _ _;refine wpAny_bind (wpAny_updateSeq (kept D _ hDw gD) rfl (wpAny_bind (wpAny_letGo (wpAny_pure (hR best _ tk (by rw [<-en];exact pb) λb o nw nD e=>?_)))));exact (Heap.get?_update_other _ _ (Ne.symm nD)).trans (kept b o nw e)
 | succ left ih=>
  intro m s best c hl hm st j pb gD hR;refine codeAny_builtin F.entry_min_loop ?_;rw [Around.under_plainId F.plain_min_loop _];show wpAny _ A.in1 (seqItems? (.ref D) >>= _) _ _ s;refine wpAny_bind (wpAny_seqItems gD rfl (show wpAny _ A.in1 (tryCatch (pyNext (.ref I)) _ >>= _) _ _ s from wpAny_bind (wpAny_tryCatch (W.item (m+1) s _ _ (by lia) st λv h' tk pv st' kept=>?_))));have gD':=kept D _ hDw gD;have j':J h':=keepJ _ _ j λb o nw _ e=>kept b o nw e;show wpAny _ A.in1 (tryCatch (holding [v,v] (richCompare .Lt v best >>= _)) _ >>= _) _ _ _;refine wpAny_bind (wpAny_tryCatch (wpAny_holding (wpAny_bind (cmp _ (m+1) (argBest bt m) v best _ _ j' pv pb (wpAny_bind (wpAny_holding (wpAny_truthy_bool (wpAny_bind (wpAny_letGo (wpAny_pure ?_))))))))));cases hb:bt (m+1) (argBest bt m) with
  | true=>
   simp only [if_true];refine wpAny_bind (wpAny_updateSeq gD' rfl (wpAny_bind (wpAny_letGo ?_)));rw [nm];refine wpAny_pure ⟨plainId_quiet F.plain_min_loop _,ih (m+1) _ v _ (by lia) (by lia) (W.frame _ _ _ st' λb bf o e=>?_) (keepJ _ _ j' λb o _ nD e=>(Heap.get?_update_other _ _ (Ne.symm nD)).trans e) (by simp only [argBest,hb,if_true];exact pv) (Heap.get?_update_self _ gD' rfl) λv' h2 tk2 pv' k2=>?_⟩
   ·exact (Heap.get?_update_other _ _ (λz:D=b=>hD (by rw [z];exact bf))).trans e
   ·exact hR v' h2 tk2 pv' λb o nw nD e=>k2 b o nw nD ((Heap.get?_update_other _ _ (Ne.symm nD)).trans (kept b o nw e))
  | false=>
   simp only [Bool.false_eq_true,if_false];refine wpAny_bind (wpAny_letGo ?_);rw [nm];refine wpAny_pure ⟨plainId_quiet F.plain_min_loop _,ih (m+1) _ best c (by lia) (by lia) st' j' (by simp only [argBest,hb,Bool.false_eq_true,if_false];exact pb) gD' λv' h2 tk2 pv' k2=>?_⟩;exact hR v' h2 tk2 pv' λb o nw nD e=>k2 b o nw nD (kept b o nw e)
theorem Yv (W:Walks prog w A.in1 I fp wr n P St)(bt:Nat->Nat->Bool)(cmp:Zem prog w A.in1 .Lt J P bt)(D:Addr)(hD:D ∉ fp)(keepJ:∀h h':Heap,J h->(∀b o,b ∉ wr->b≠D->h.get? b=some o->h'.get? b=some o)->J h')(hn:0<n){s:Shared}{c:Nat}(st:St 0 s.heap)(j:J s.heap)(gD:s.heap.get? D=some { cls:=.type "list", dict:=none,data:=.seq #[] c,slots:=#[] })(hR:∀v h' tk,P (argBest bt (n-1)) v->(∀b o,b ∉ wr->b≠D->s.heap.get? b=some o->h'.get? b=some o)->R (.ok (.ret v)) { s with heap:=h',toks:=tk }) :
  codeAny (model prog w) A (.builtin "min.loop" ⟨[.ref I,.none,.ref D],kw⟩) R s:=by
 have hDw:D ∉ wr:=λz=>hD (W.sub _ z);have nm:(toString "min" ++ toString ".loop" : String) = "min.loop" := by decide
 refine codeAny_builtin F.entry_min_loop ?_;rw [Around.under_plainId F.plain_min_loop _];show wpAny _ A.in1 (seqItems? (.ref D) >>= _) _ _ s;refine wpAny_bind (wpAny_seqItems gD rfl (show wpAny _ A.in1 (tryCatch (pyNext (.ref I)) _ >>= _) _ _ s from wpAny_bind (wpAny_tryCatch (W.item 0 s _ _ hn st λv h' tk pv st' kept=>?_))));have gD':=kept D _ hDw gD;have j':J h':=keepJ _ _ j λb o nw _ e=>kept b o nw e;show wpAny _ A.in1 (updateSeq D (λ_=>#[v,v]) >>= _) _ _ _;refine wpAny_bind (wpAny_updateSeq gD' rfl ?_);rw [nm];refine wpAny_pure ⟨plainId_quiet F.plain_min_loop _,Zr W bt cmp D hD keepJ _ 0 _ v _ rfl hn (W.frame _ _ _ st' λb bf o e=>?_) (keepJ _ _ j' λb o _ nD e=>(Heap.get?_update_other _ _ (Ne.symm nD)).trans e) pv (Heap.get?_update_self _ gD' rfl) λv' h2 tk2 pv' k2=>?_⟩
 ·exact (Heap.get?_update_other _ _ (λz:D=b=>hD (by rw [z];exact bf))).trans e
 ·exact hR v' h2 tk2 pv' λb o nw nD e=>k2 b o nw nD ((Heap.get?_update_other _ _ (Ne.symm nD)).trans (kept b o nw e))
end
theorem ltP_iff {x y:Int×Int}:ltP x y=true↔x.1<y.1\/(x.1=y.1/\x.2<y.2):=by
 unfold ltP;rw [Bool.or_eq_true,Bool.and_eq_true,decide_eq_true_iff,decide_eq_true_iff,decide_eq_true_iff]
theorem Wm (f:Nat->Int×Int):∀k,argBest (λi j=>ltP (f i) (f j)) k<=k/\∀j,j<=k->ltP (f j) (f (argBest (λi j=>ltP (f i) (f j)) k))=false
 | 0=>⟨Nat.le_refl _,λj hj=>by
  have:j=0:=by lia
  subst this;rw [<-Bool.not_eq_true];intro z;have:=ltP_iff.mp z;have e:argBest (λi j=>ltP (f i) (f j)) 0=0:=rfl;rw [e] at this
  lia⟩
 | k+1=>by
  obtain ⟨i1,i2⟩:=Wm f k;have e:argBest (λi j=>ltP (f i) (f j)) (k+1)=if ltP (f (k+1)) (f (argBest (λi j=>ltP (f i) (f j)) k))=true then k+1 else argBest (λi j=>ltP (f i) (f j)) k:=rfl
  rw [e];generalize argBest (λi j=>ltP (f i) (f j)) k=g at i1 i2;by_cases z:ltP (f (k+1)) (f g)=true
  ·rw [if_pos z];refine ⟨Nat.le_refl _,λj hj=>?_⟩;rw [<-Bool.not_eq_true];intro y;have z1:=ltP_iff.mp z;have y1:=ltP_iff.mp y;by_cases hk:j=k+1
   ·subst hk;lia
   ·have:=i2 j (by lia);rw [<-Bool.not_eq_true,ltP_iff] at this
    lia
  ·rw [if_neg z];refine ⟨by lia,λj hj=>?_⟩;by_cases hk:j=k+1
   ·rw [hk];exact Bool.eq_false_iff.mpr z
   ·exact i2 j (by lia)
section
variable {X:Cx}
def Zb0 (xs:List V)(rs:List (Int×Int))(t:Addr)(r:Int×Int):Prop:=(∃i:Nat,xs[i]?=some (.ref t)/\rs[i]?=some r)/\∀r'∈rs,ltP r' r=false
theorem Za4 {qQ:List (Addr×Obj)}{s:Shared}{σ:St}{H:Hp}{Q:VK}{p:Addr}{xs:List V}{rs:List (Int×Int)}{its:List Value}{kw:List (Str×Value)}(hc:X.calm=true)(hu:X.A.units+1<cLine)(I:Inv X qQ σ H s)(r:Vals xs its)(pl:PlainL s.heap p its.toArray)(pr:Prs H xs rs)(hne:rs≠[])(q:∀t r,Zb0 xs rs t r->Q (.ref t) H){R:Result->Shared->Prop}(hR:∀v s',EP X qQ σ Q v s'->R (.ok (.ret v)) s'):∀c:Nat,
  codeAny (model X.prog X.w) X.A (.builtin "min.loop" ⟨[.ref s.heap.objs.size,.none,.ref (s.heap.objs.size+1)],kw⟩) R { s with heap:=(s.heap.push { cls:=.type "list_iterator", data:=.fields #[.ref p,.int 0 0] }).push { cls:=.type "list", dict:=none,data:=.seq #[] c,slots:=#[] } }:=by
 intro c;have hl:=r.length;have hx:=pr.len;have hpos:0<rs.length:=List.length_pos_iff.mpr hne;have hh:X.A.in1.handled=none:=I.ok.hd hc;obtain ⟨o,eo,_⟩:=id pl.isList;have hlt:p<s.heap.objs.size:=Heap.lt_size eo;have e1:(s.heap.push { cls:=.type "list_iterator", data:=.fields #[.ref p,.int 0 0] }).objs.size=s.heap.objs.size+1:=Heap.size_push ..;have at_:∀i v,its[i]?=some v->∃t u1 u2,v=.ref t/\xs[i]?=some (.ref t)/\rs[i]?=some (rs.getD i (0,0))/\s.heap.IsTuple t #[.int (rs.getD i (0,0)).1 u1,.int (rs.getD i (0,0)).2 u2]:=λi v hv=>by
  have hi:i<its.length:=(List.getElem?_eq_some_iff.mp hv).1;have hxi:xs[i]?=some xs[i]:=List.getElem?_eq_getElem (by lia);obtain ⟨t,q',et,eh,er⟩:=pr.get hxi;obtain ⟨u,gu,ru⟩:=r.get hxi;rw [gu] at hv;cases hv;rw [et] at ru;cases ru;have eg:rs.getD i (0,0)=q':=by rw [List.getD_eq_getElem?_getD,er];rfl
  obtain ⟨its2,r2,pl2,_⟩:=I.tuple (SqT.of eh);cases r2 with
  | cons a1 r3=>
   cases r3 with
   | cons a2 r4=>
    cases r4;obtain ⟨u1,rfl⟩:=a1;obtain ⟨u2,rfl⟩:=a2;exact ⟨t,u1,u2,rfl,by rw [hxi,et],by rw [eg];exact er,by rw [eg];exact pl2⟩
 have kept0:∀b o,s.heap.get? b=some o->((s.heap.push { cls:=.type "list_iterator", data:=.fields #[.ref p,.int 0 0] }).push { cls:=.type "list", dict:=none,data:=.seq #[] c,slots:=#[] }).get? b=some o:=λb o e=>Heap.get?_push_of_some _ (Heap.get?_push_of_some _ e);have W:=Walks.list (prog:=X.prog) (w:=X.w) hh s.heap.objs.size p (Nat.ne_of_lt hlt) its.toArray;have hsz:its.toArray.size=rs.length:=by rw [List.size_toArray];lia
 refine Yv (J:=λh=>∀i t u1 u2,its[i]?=some (.ref t)->s.heap.IsTuple t #[.int (rs.getD i (0,0)).1 u1,.int (rs.getD i (0,0)).2 u2]->h.IsTuple t #[.int (rs.getD i (0,0)).1 u1,.int (rs.getD i (0,0)).2 u2]) W (λi j=>ltP (rs.getD i (0,0)) (rs.getD j (0,0))) ?cmp (s.heap.objs.size+1) ?hD ?kJ (by rw [hsz];exact hpos) ?st ?j (by rw [<-e1];exact Heap.get?_push_size _ rfl) ?fin
 case cmp=>
  intro s' i j vi vj Q' E' hJ hi hj hq;obtain ⟨a,u1,u2,rfl,_,_,ha⟩:=at_ i vi (by simpa using hi);obtain ⟨b,w1,w2,rfl,_,_,hb⟩:=at_ j vj (by simpa using hj);exact ZcV (hJ i a u1 u2 (by simpa using hi) ha) (hJ j b w1 w2 (by simpa using hj) hb) (by rw [Around.in1_units];exact hu) hq
 case hD=>
  intro z;have:s.heap.objs.size+1=s.heap.objs.size\/s.heap.objs.size+1=p:=by simpa using z
  rcases this with e | e
  ·exact absurd e (Nat.succ_ne_self _)
  ·exact absurd hlt (by rw [<-e];exact Nat.not_lt.mpr (Nat.le_succ _))
 case kJ=>
  intro h h' hJ kp i t u1 u2 hi hT;obtain ⟨o',g',rest⟩:=hJ i t u1 u2 hi hT;obtain ⟨o0,g0,_⟩:=hT;have ht:t<s.heap.objs.size:=Heap.lt_size g0;refine ⟨o',kp t o' (λz=>?_) (Nat.ne_of_lt (Nat.lt_succ_of_lt ht)) g',rest⟩;have:t=s.heap.objs.size:=by simpa using z
  exact absurd ht (by rw [this];exact Nat.lt_irrefl _)
 case st=>
  refine ⟨⟨_,Heap.get?_push_of_some _ (Heap.get?_push_size _ rfl),rfl,rfl⟩,pl.isList.at λo e=>kept0 _ _ e⟩
 case j=>
  intro i t u1 u2 hi hT;obtain ⟨o0,g0,rest⟩:=hT;exact ⟨o0,kept0 _ _ g0,rest⟩
 case fin=>
  intro v h' tk hv hk;obtain ⟨b1,b2⟩:=Wm (λi=>rs.getD i (0,0)) (its.toArray.size-1);generalize argBest (λi j=>ltP (rs.getD i (0,0)) (rs.getD j (0,0))) (its.toArray.size-1)=g at hv b1 b2;obtain ⟨t,u1,u2,rfl,ex,er,_⟩:=at_ g v (by simpa using hv);refine hR _ _ ⟨.ref t,H,I.kept λb o e'=>hk b o ?_ ?_ (kept0 b o e'),rfl,q t _ ⟨⟨g,ex,er⟩,λr' hr'=>?_⟩⟩
  ·intro z;have:b=s.heap.objs.size:=by simpa using z
   exact absurd (Heap.lt_size e') (by rw [this];exact Nat.lt_irrefl _)
  ·exact Nat.ne_of_lt (Nat.lt_succ_of_lt (Heap.lt_size e'))
  ·obtain ⟨j,hj,rfl⟩:=List.getElem_of_mem hr';have:=b2 j (by lia);rw [List.getD_eq_getElem?_getD,List.getElem?_eq_getElem hj] at this;exact this
def Zb1 (X:Cx)(f:Value)(ks:List Str)(r:List V->List V->Hp->VK->Prop):Prop:=∀(qQ:List (Addr×Obj))(s:Shared)(σ:St)(H:Hp)(xs:List V)(us:List Value)(zs:List V)(ws:List Value)(Q:VK),Inv X qQ σ H s->Vals xs us->Vals zs ws->r xs zs H Q->wpAny (model X.prog X.w) X.A (call f us (ks.zip ws)) (EP X qQ σ Q) X.xe s
def Zht (r:List V->List V->Hp->VK->Prop)(t tk:TA):TE:=λσ H Q=>t σ H λvs H1=>tk σ H1 λzs H2=>r vs zs H2 Q
theorem Zs {id:String}{ks:List Str}{r:List V->List V->Hp->VK->Prop}{x:Str}{p pos:Pos}{e:Expr}{es:List Expr}{kws:List Keyword}{t tk:TA}(hc:Zb1 X (.builtin id) ks r)(hg:Gl X x)(hm:X.mg x=none)(hv:bootBuiltins x=some (.builtin id))(ha:PA X (e::es) t)(hkw:PK X kws tk)(hks:(backToKw pos (keywordEach kws X.env)).filterMap (·.1)=ks:=by rfl)(hn:x ≠ "__name__" := by decide)(hdb:(x == ("__debug__" : Str))=false:=by decide)(he:backTo pos (starEach (e::es) X.env)=(false,eval e X.env)::backTo pos (starEach es X.env):=by rfl)(hpl:(backTo pos (starEach (e::es) X.env)).any (·.1)=false:=by rfl)(qY:(backToKw pos (keywordEach kws X.env)).all (·.1.isSome)=true:=by rfl)(hno:(backToKw pos (keywordEach kws X.env)).any (·.1.isNone)=false:=by rfl):PE X (.Call (.Name x p) (e::es) kws pos) (Zht r t tk):=by
 intro qQ s σ H Q I h;refine wpAny_Call_Name_kw (Ua I hg hm hv ?_ hn hdb);refine PyProof.Rows.callWith_kw (thn (ha pos qQ s σ H _ I h) λus s1 ⟨vs,H1,I1,r1,q1⟩=>thn (hkw pos qQ s1 σ H1 _ I1 q1) λws s2 ⟨zs,H2,I2,r2,q2⟩=>?_) he hpl qY hno;rw [hks];exact hc qQ s2 σ H2 vs us zs ws Q I2 r1 r2 q2
theorem Wn {prog:Program}{w:World}{A:Around}{E:Value->Shared->Prop}{s:Shared}{id:String}{b:Builtin}{args:Args}{Q:Value->Shared->Prop}(nk:builtinKind id=none)(np:plainId id=true)(nb:entryFor table id=some b)(na:argsOk id args)(h:wpAny (model prog w) A.in1 (b args) (λfin z=>match fin with
   | .done f=>(match (Except.ok f:Result) with | .ok (.ret v)=>Q v z | .ok _=>False | .error e=>E e z)
   | .again c=>c.quiet=true/\codeAny (model prog w) A c (λr z=>match r with | .ok (.ret v)=>Q v z | .ok _=>False | .error e=>E e z) z) E s) :
  wpAny (model prog w) A (call (.builtin id) args.pos args.kw) Q E s:=by
 refine wpAny_call (codeAny_call_builtin np nb ?_);simp only [checkBuiltinCall,nk];cases sg:Manifest.signature? id with
 | none=>exact wpAny_pure h
 | some sig=>
  have na2:Bind.checkArgs id sig args=pure ():=by simpa only [argsOk,sg] using na
  show wpAny _ A.in1 (Bind.checkArgs id sig args) _ _ s;rw [na2];exact wpAny_pure h
theorem Zt (a b:Value):argsOk "min" ⟨[a],[(Str.ofString "default", b)]⟩:=by unfold argsOk;kernel_rfl
theorem Zen (K:PySem.W.Frag)(hc:X.calm=true)(hu:X.A.units+1<cLine)(h:X.K=K:=by rfl):Zb1 X (.builtin "min") ["default"] (λvs zs H Q=>∃(p:Addr)(xs:List V)(rs:List (Int×Int))(d:V),vs=[.ref p]/\zs=[d]/\SqL K H p xs/\Prs H xs rs/\(rs=[]->Q d H)/\∀t r,Zb0 xs rs t r->Q (.ref t) H):=by
 subst h;intro qQ s σ H xs us zs ws Q I rv rz h;obtain ⟨p,xs,rs,d,rfl,rfl,hq,pr,q0,q⟩:=h;obtain ⟨u,rfl,ru⟩:=rv.one;obtain ⟨du,rfl,rd⟩:=rz.one;cases ru;obtain ⟨its,r,pl,hz⟩:=I.list hq;have nm:(toString "min" ++ toString ".loop" : String) = "min.loop" := by decide
 refine Wn (args:=⟨[.ref p],[(Str.ofString "default", du)]⟩) F.kind_min F.plain_min F.entry_min (Zt _ _) ?_;refine wpAny_bind (wpAny_of_eq (show Builtin.Builtins.bindParams "min" ["key", "default"] 0 ⟨[],[(Str.ofString "default", du)]⟩=pure [none,some du] from rfl) (wpAny_bind (wpAny_pure (wpAny_bind (wpAny_pyIter_list pl.isList (wpAny_bind (wpAny_newObj_type ?_)))))));rw [nm];have e1:(s.heap.push { cls:=.type "list_iterator", data:=.fields #[.ref p,.int 0 0] }).objs.size=s.heap.objs.size+1:=Heap.size_push ..;refine wpAny_pure ⟨plainId_quiet F.plain_min_loop _,?_⟩;show codeAny _ _ (.builtin "min.loop" ⟨[.ref s.heap.objs.size,.none,.ref (s.heap.push { cls:=.type "list_iterator", data:=.fields #[.ref p,.int 0 0] }).objs.size],[(Str.ofString "default", du)]⟩) _ _;rw [e1];by_cases hne:rs=[]
 ·have hh:X.A.in1.handled=none:=I.ok.hd hc;obtain ⟨o,eo,_⟩:=id pl.isList;have hlt:p<s.heap.objs.size:=Heap.lt_size eo;have hi0:its=[]:=by
   have:=r.length;have:=pr.len;rw [hne,List.length_nil] at this;exact List.length_eq_zero_iff.mp (by lia)
  have W:=Walks.list (prog:=X.prog) (w:=X.w) hh s.heap.objs.size p (Nat.ne_of_lt hlt) its.toArray;refine codeAny_builtin F.entry_min_loop ?_;rw [Around.under_plainId F.plain_min_loop _];show wpAny _ X.A.in1 (seqItems? (.ref (s.heap.objs.size+1)) >>= _) _ _ _;refine wpAny_bind (wpAny_seqItems (by rw [<-e1];exact Heap.get?_push_size _ rfl) rfl ?_);refine wpAny_bind (wpAny_tryCatch (W.done _ _ _ ?_ λh' tk kept=>?_))
  ·rw [hi0];exact ⟨⟨_,Heap.get?_push_of_some _ (Heap.get?_push_size _ rfl),rfl,rfl⟩,by rw [<-hi0];exact pl.isList.at λo e=>Heap.get?_push_of_some _ (Heap.get?_push_of_some _ e)⟩
  ·refine wpAny_bind (wpAny_rule (wpAny_pure ⟨d,H,I.kept λb o e'=>kept b o ?_ (Heap.get?_push_of_some _ (Heap.get?_push_of_some _ e')),rd,q0 hne⟩));intro z;have:b=s.heap.objs.size:=by simpa using z
   exact absurd (Heap.lt_size e') (by rw [this];exact Nat.lt_irrefl _)
 ·exact Za4 hc hu I r pl pr hne q (λv s' h=>h) 0
end
end L2
namespace L2
open PySem PySem.Spec PyProof.Rows
def J2:Bool->Keyed->Array Keyed->Nat->Nat->Nat->StateT SortSt Sem (Option Nat):=sortPriv% PySem.Builtin.gallop
def Vu:Array Keyed->Array Keyed->StateT SortSt Sem (Array Keyed):=sortPriv% PySem.Builtin.mergeLo
def Vv:Array Keyed->Array Keyed->StateT SortSt Sem (Array Keyed):=sortPriv% PySem.Builtin.mergeHi
def UE:Nat->StateT SortSt Sem Unit:=sortPriv% PySem.Builtin.setMinGallop
def O4 (left:Bool)(key:Keyed)(arr:Array Keyed)(base i:Nat):StateT SortSt Sem (Option Bool):=do
 let x <- elem' arr (base+i)
 if left then lt' x key else return (<- lt' key x).map (!·)
def OE (left:Bool)(key:Keyed)(arr:Array Keyed)(base n lo hi:Nat):StateT SortSt Sem (Option Nat):=do
 let mut lo:=lo
 let mut hi:=hi
 for _ in [:n] do
  if lo>=hi then break
  let m:=lo+(hi-lo) / 2
  let some more <- O4 left key arr base m | return none
  if more then lo:=m+1
  else hi:=m
 return some hi
def Vw (left:Bool)(key:Keyed)(arr:Array Keyed)(base n hint:Nat):StateT SortSt Sem (Option Nat):=do
 let mut lastofs:=0
 let mut ofs:=1
 let maxofs:=n-hint
 for _ in [:n] do
  if ofs>=maxofs then break
  let some more <- O4 left key arr base (hint+ofs) | return none
  if !more then break
  lastofs:=ofs
  ofs:=2 * ofs+1
 OE left key arr base n (hint+lastofs+1) (hint+min ofs maxofs)
def O5 (left:Bool)(key:Keyed)(arr:Array Keyed)(base n hint:Nat):StateT SortSt Sem (Option Nat):=do
 let mut lastofs:=0
 let mut ofs:=1
 let maxofs:=hint+1
 for _ in [:n] do
  if ofs>=maxofs then break
  let some found <- O4 left key arr base (hint-ofs) | return none
  if found then break
  lastofs:=ofs
  ofs:=2 * ofs+1
 OE left key arr base n (hint+1-min ofs maxofs) (hint-lastofs)
theorem Yw (left:Bool)(key:Keyed)(arr:Array Keyed)(base n hint:Nat):J2 left key arr base n hint=(do
  let some right <- O4 left key arr base hint | return none
  if right then Vw left key arr base n hint else O5 left key arr base n hint):=rfl
section
variable {M:Model}{A:Around}{E:Value->Shared->Prop}{s:Shared}{kd:SortKind}{b:Keyed->Keyed->Bool}{good:Keyed->Prop}
structure WO (b:Keyed->Keyed->Bool):Prop where
 irr:∀x,b x x=false
 tr:∀x y z,b x y=true->b y z=true->b x z=true
 neg:∀x y z,b x z=true->b x y=true\/b y z=true
def Ue (M:Model)(A:Around)(E:Value->Shared->Prop)(s:Shared)(kd:SortKind)(b:Keyed->Keyed->Bool)(good:Keyed->Prop):Prop:=
 ∀(x y:Keyed)(st:SortSt)(Q:Option Bool->SortSt->Prop),good x->good y->kindOf st=kd->Q (some (b x y)) st->wpS M A E s (lt' x y) Q st
theorem GD {arr:Array Keyed}{i:Nat}{x:Keyed}{st:SortSt}{Q:Keyed->SortSt->Prop}(h:arr[i]?=some x)(q:Q x st):wpS M A E s (elem' arr i) Q st:=by
 rw [elem'_eq,h];exact wpS_pure q
def byd (b:Keyed->Keyed->Bool)(left:Bool)(key:Keyed)(arr:Array Keyed)(base i:Nat):Bool:=match arr[base+i]? with
 | some x=>if left then b x key else !b key x
 | none=>false
theorem Oe {left:Bool}{key:Keyed}{arr:Array Keyed}{base i:Nat}{x:Keyed}{st:SortSt}{Q:Option Bool->SortSt->Prop}(L:Ue M A E s kd b good)(hk:good key)(hx:arr[base+i]?=some x)(gx:good x)(hs:kindOf st=kd)(q:Q (some (byd b left key arr base i)) st):wpS M A E s (O4 left key arr base i) Q st:=by
 unfold O4;refine wpS_bind (GD hx ?_);unfold byd at q;rw [hx] at q;cases left with
 | true=>exact L x key st Q gx hk hs q
 | false=>exact wpS_bind (L key x st _ hk gx hs (wpS_pure q))
section
variable {left:Bool}{key:Keyed}{arr:Array Keyed}{base n hint:Nat}{st:SortSt}{Q:Option Nat->SortSt->Prop}
structure Gal (b:Keyed->Keyed->Bool)(good:Keyed->Prop)(left:Bool)(key:Keyed)(arr:Array Keyed)(base n:Nat):Prop where
 gk:good key
 it:∀i,i<n->∃x,arr[base+i]?=some x/\good x
 mono:∀i j,i<=j->j<n->byd b left key arr base j=true->byd b left key arr base i=true
theorem G6 {lo hi:Nat}(L:Ue M A E s kd b good)(G:Gal b good left key arr base n)(hs:kindOf st=kd)(h1:lo<=hi)(h2:hi<=n)(h3:∀i,i<lo->byd b left key arr base i=true)(h4:∀i,hi<=i->i<n->byd b left key arr base i=false)(q:∀k,k<=n->(∀i,i<k->byd b left key arr base i=true)->(∀i,k<=i->i<n->byd b left key arr base i=false)->Q (some k) st):wpS M A E s (OE left key arr base n lo hi) Q st:=by
 unfold OE;refine wpS_bind (wpS_forRange (λk c st'=>st'=st/\∃lo hi,c=(none,lo,hi)/\lo<=hi/\hi<=n/\hi-lo<=n-k/\(∀i,i<lo->byd b left key arr base i=true)/\(∀i,hi<=i->i<n->byd b left key arr base i=false)) ?_ ?_ ⟨rfl,lo,hi,rfl,h1,h2,by lia,h3,h4⟩)
 ·rintro k c st' _ hk ⟨rfl,lo,hi,rfl,h1,h2,h5,h3,h4⟩;dsimp only;split
  ·rename_i h6;have:lo=hi:=by lia
   subst this;refine wpS_pure ?_;dsimp only;exact wpS_pure (q lo h2 h3 h4)
  ·rename_i h6;obtain ⟨x,hx,gx⟩:=G.it (lo+(hi-lo) / 2) (by lia);refine wpS_bind (Oe L G.gk hx gx hs ?_);dsimp only;cases hb:byd b left key arr base (lo+(hi-lo) / 2) with
   | true=>
    refine wpS_pure ⟨rfl,_,_,rfl,by lia,h2,by lia,λi hi'=>G.mono i (lo+(hi-lo) / 2) (by lia) (by lia) hb,h4⟩
   | false=>
    refine wpS_pure ⟨rfl,_,_,rfl,by lia,by lia,by lia,h3,λi h8 h9=>?_⟩;cases hc:byd b left key arr base i with
    | false=>rfl
    | true=>rw [G.mono _ i h8 h9 hc] at hb;cases hb
 ·rintro c st' ⟨rfl,lo,hi,rfl,h1,h2,h5,h3,h4⟩;have:lo=hi:=by simp at h5;lia
  subst this;exact wpS_pure (q lo h2 h3 h4)
theorem Jv (L:Ue M A E s kd b good)(G:Gal b good left key arr base n)(hs:kindOf st=kd)(hn:hint<n)(q:∀k,k<=n->(∀i,i<k->byd b left key arr base i=true)->(∀i,k<=i->i<n->byd b left key arr base i=false)->Q (some k) st):wpS M A E s (J2 left key arr base n hint) Q st:=by
 rw [Yw];obtain ⟨x,hx,gx⟩:=G.it hint hn;have anti:∀i j,byd b left key arr base i=false->i<=j->j<n->byd b left key arr base j=false:=λi j h1 h2 h3=>by
  cases hc:byd b left key arr base j with
  | false=>rfl
  | true=>rw [G.mono _ j h2 h3 hc] at h1;cases h1
 refine wpS_bind (Oe L G.gk hx gx hs ?_);cases hb:byd b left key arr base hint with
 | true=>
  show wpS M A E s (Vw left key arr base n hint) Q st;unfold Vw;refine wpS_bind (wpS_forRange (λk c st'=>st'=st/\∃last ofs,c=(none,last,ofs)/\last<ofs/\k+1<=ofs/\hint+last<n/\byd b left key arr base (hint+last)=true) ?_ ?_ ⟨rfl,0,1,rfl,by lia,by lia,hn,hb⟩)
  ·rintro k c st' _ hk ⟨rfl,last,ofs,rfl,h1,h2,h3,h4⟩;dsimp only;split
   ·rename_i h5;refine wpS_pure ?_;dsimp only;rw [Nat.min_eq_right h5];exact G6 L G hs (by lia) (by lia) (λi hi=>G.mono i _ (show i<=hint+last by lia) h3 h4) (λi h6 h7=>by lia) q
   ·rename_i h5;obtain ⟨y,hy,gy⟩:=G.it (hint+ofs) (by lia);refine wpS_bind (Oe L G.gk hy gy hs ?_);dsimp only;cases hb2:byd b left key arr base (hint+ofs) with
    | true=>exact wpS_pure ⟨rfl,_,_,rfl,by lia,by lia,by lia,hb2⟩
    | false=>
     refine wpS_pure ?_;dsimp only;rw [Nat.min_eq_left (by lia)];exact G6 L G hs (by lia) (by lia) (λi hi=>G.mono i _ (show i<=hint+last by lia) h3 h4) (λi h6 h7=>anti _ i hb2 h6 h7) q
  ·rintro c st' ⟨rfl,last,ofs,rfl,h1,h2,h3,h4⟩;dsimp only;have h5:n-hint<=ofs:=by simp at h2;lia
   rw [Nat.min_eq_right h5];exact G6 L G hs (by lia) (by lia) (λi hi=>G.mono i _ (show i<=hint+last by lia) h3 h4) (λi h6 h7=>by lia) q
 | false=>
  show wpS M A E s (O5 left key arr base n hint) Q st;unfold O5;refine wpS_bind (wpS_forRange (λk c st'=>st'=st/\∃last ofs,c=(none,last,ofs)/\last<ofs/\k+1<=ofs/\last<=hint/\byd b left key arr base (hint-last)=false) ?_ ?_ ⟨rfl,0,1,rfl,by lia,by lia,by lia,hb⟩)
  ·rintro k c st' _ hk ⟨rfl,last,ofs,rfl,h1,h2,h3,h4⟩;dsimp only;split
   ·rename_i h5;refine wpS_pure ?_;dsimp only;rw [Nat.min_eq_right h5];exact G6 L G hs (by lia) (by lia) (λi hi=>by lia) (λi h6 h7=>anti _ i h4 h6 h7) q
   ·rename_i h5;obtain ⟨y,hy,gy⟩:=G.it (hint-ofs) (by lia);refine wpS_bind (Oe L G.gk hy gy hs ?_);dsimp only;cases hb2:byd b left key arr base (hint-ofs) with
    | false=>exact wpS_pure ⟨rfl,_,_,rfl,by lia,by lia,by lia,hb2⟩
    | true=>
     refine wpS_pure ?_;dsimp only;rw [Nat.min_eq_left (by lia)];exact G6 L G hs (by lia) (by lia) (λi hi=>G.mono i (hint-ofs) (by lia) (by lia) hb2) (λi h6 h7=>anti _ i h4 h6 h7) q
  ·rintro c st' ⟨rfl,last,ofs,rfl,h1,h2,h3,h4⟩;dsimp only;have h5:hint+1<=ofs:=by simp at h2;lia
   rw [Nat.min_eq_right h5];exact G6 L G hs (by lia) (by lia) (λi hi=>by lia) (λi h6 h7=>anti _ i h4 h6 h7) q
end
end
end L2
namespace L2
open PySem PySem.Spec PyProof.Rows
abbrev MLs:=Option (Array Keyed)×Array Keyed×Nat×Nat×Nat×Nat
abbrev MLt:=Option (Array Keyed)×Array Keyed×Nat×Nat×Nat×Nat×Nat
def Oq (a b out:Array Keyed)(ia ib:Nat):Array Keyed:=out++a.extract ia++b.extract ib
def U6 (a b out:Array Keyed)(ia ib:Nat):Array Keyed:=out++b.extract ib++a.extract ia
def Za5 (a b:Array Keyed)(mg:Nat):Nat->MLs->StateT SortSt Sem (ForInStep MLs):=λ_ r=>
 let out:=r.2.1;let ia:=r.2.2.1;let ib:=r.2.2.2.1;let qZ:=r.2.2.2.2.1;let qX:=r.2.2.2.2.2
 do
 let x <- elem' b ib
 let y <- elem' a ia
 match <- lt' x y with
 | some bWins=>
  if bWins=true then do
   let z <- elem' b ib
   let out:=out.push z
   let ib:=ib+1
   let qX:=qX+1
   let qZ:=0
   if (ib == b.size)=true then pure (.done (some (Oq a b out ia ib),out,ia,ib,qZ,qX))
   else if qX>=mg then pure (.done (none,out,ia,ib,qZ,qX))
   else pure (.yield (none,out,ia,ib,qZ,qX))
  else do
   let z <- elem' a ia
   let out:=out.push z
   let ia:=ia+1
   let qZ:=qZ+1
   let qX:=0
   if (ia+1 == a.size)=true then pure (.done (some (U6 a b out ia ib),out,ia,ib,qZ,qX))
   else if qZ>=mg then pure (.done (none,out,ia,ib,qZ,qX))
   else pure (.yield (none,out,ia,ib,qZ,qX))
 | _=>pure (.done (some (Oq a b out ia ib),out,ia,ib,qZ,qX))
def mlD (a b:Array Keyed)(qJ qZ k:Nat)(out:Array Keyed)(ia ib:Nat):StateT SortSt Sem (ForInStep MLt):=do
 let qX:=k
 let z <- elem' a ia
 let out:=out.push z
 let ia:=ia+1
 if (ia+1 == a.size)=true then pure (.done (some (U6 a b out ia ib),out,ia,ib,qJ,qZ,qX))
 else if (decide (qZ<7) && decide (qX<7))=true then pure (.done (none,out,ia,ib,qJ,qZ,qX))
 else pure (.yield (none,out,ia,ib,qJ,qZ,qX))
def mlC (a b:Array Keyed)(qJ qZ qX:Nat)(out:Array Keyed)(ia ib:Nat):StateT SortSt Sem (ForInStep MLt):=do
 let z <- elem' b ib
 let out:=out.push z
 let ib:=ib+1
 if (ib == b.size)=true then pure (.done (some (Oq a b out ia ib),out,ia,ib,qJ,qZ,qX))
 else do
  let y <- elem' a ia
  match <- J2 true y b ib (b.size-ib) 0 with
  | some k=>
   let qX:=k
   if k > 0 then
    let out:=out++b.extract ib (ib+k)
    let ib:=ib+k
    if (ib == b.size)=true then pure (.done (some (Oq a b out ia ib),out,ia,ib,qJ,qZ,qX))
    else mlD a b qJ qZ k out ia ib
   else mlD a b qJ qZ k out ia ib
  | _=>pure (.done (some (Oq a b out ia ib),out,ia,ib,qJ,qZ,qX))
def mlB (a b:Array Keyed)(qJ qZ qX:Nat)(out:Array Keyed)(ia ib:Nat):StateT SortSt Sem (ForInStep MLt):=do
 UE qJ
 let x <- elem' b ib
 match <- J2 false x a ia (a.size-ia) 0 with
 | some k=>
  let qZ:=k
  if k > 0 then
   let out:=out++a.extract ia (ia+k)
   let ia:=ia+k
   if (ia+1 == a.size)=true then pure (.done (some (U6 a b out ia ib),out,ia,ib,qJ,qZ,qX))
   else if (ia == a.size)=true then pure (.done (some (Oq a b out ia ib),out,ia,ib,qJ,qZ,qX))
   else mlC a b qJ qZ qX out ia ib
  else mlC a b qJ qZ qX out ia ib
 | _=>pure (.done (some (Oq a b out ia ib),out,ia,ib,qJ,qZ,qX))
def Za6 (a b:Array Keyed):Nat->MLt->StateT SortSt Sem (ForInStep MLt):=λ_ r=>
 let out:=r.2.1;let ia:=r.2.2.1;let ib:=r.2.2.2.1;let qJ:=r.2.2.2.2.1;let qZ:=r.2.2.2.2.2.1;let qX:=r.2.2.2.2.2.2
 if qJ > 1 then mlB a b (qJ-1) qZ qX out ia ib else mlB a b qJ qZ qX out ia ib
abbrev MLo:=Option (Array Keyed)×Array Keyed×Nat×Nat×Nat
def Za7 (a b:Array Keyed):Nat->MLo->StateT SortSt Sem (ForInStep MLo):=λ_ r=>
 let out:=r.2.1;let ia:=r.2.2.1;let ib:=r.2.2.2.1;let qJ:=r.2.2.2.2
 do
 let r <- forIn [:a.size+b.size] ((none,out,ia,ib,0,0):MLs) (Za5 a b qJ)
 match r.1 with
 | some x=>pure (.done (some x,r.2.1,r.2.2.1,r.2.2.2.1,qJ))
 | none=>do
  liftM (rule "list.sort.gallop")
  let r <- forIn [:a.size+b.size] ((none,r.2.1,r.2.2.1,r.2.2.2.1,qJ+1,r.2.2.2.2.1,r.2.2.2.2.2):MLt) (Za6 a b)
  match r.1 with
  | some x=>pure (.done (some x,r.2.1,r.2.2.1,r.2.2.2.1,r.2.2.2.2.1))
  | none=>do
   UE (r.2.2.2.2.1+1)
   pure (.yield (none,r.2.1,r.2.2.1,r.2.2.2.1,r.2.2.2.2.1+1))
theorem Jj {α β:Type}{m:StateT SortSt Sem α}{f g:α->StateT SortSt Sem β}(h:∀x,f x=g x):m >>= f=m >>= g:=by rw [funext h]
theorem Vx {α:Type}{c:Prop}[Decidable c]{x y u v:α}(h1:x=y)(h2:u=v):(if c then x else u)=if c then y else v:=by rw [h1,h2]
theorem UF {β:Type}{r:Std.Legacy.Range}{c:β}{f g:Nat->β->StateT SortSt Sem (ForInStep β)}(h:∀i x,f i x=g i x):forIn r c f=forIn r c g:=by rw [funext λi=>funext (h i)]
theorem Xb (a b:Array Keyed):Vu a b=(do
  liftM (rule "list.sort.merge-lo")
  let x <- elem' b 0
  let out:=#[x]
  if (1 == b.size)=true then pure (Oq a b out 0 1)
  else if (0+1 == a.size)=true then pure (U6 a b out 0 1)
  else do
   let st <- get
   let r <- forIn [:a.size+b.size] ((none,out,0,1,gallopOf st):MLo) (Za7 a b)
   match r.1 with
   | some r=>pure r
   | none=>liftM (unsupported "internal:list.sort.merge-bound")):=by
 refine Jj (m:=liftM (rule "list.sort.merge-lo")) λ_=>?_;refine Jj (m:=elem' b 0) λx=>?_;refine Vx (c:=(1 == b.size)=true) rfl ?_;refine Vx (c:=(0+1 == a.size)=true) rfl ?_;refine Jj (m:=get) λst=>?_;refine (congrArg (λm:StateT SortSt Sem MLo=>m >>= _) (UF (r:=[:a.size+b.size]) (c:=((none,#[x],0,1,gallopOf st):MLo)) (g:=Za7 a b) λi r=>?_)).trans ?_;rotate_left
 ·refine Jj λr=>?_;obtain ⟨r1,r2⟩:=r;cases r1 <;> rfl
 unfold Za7;refine (congrArg (λm:StateT SortSt Sem MLs=>m >>= _) (UF (r:=[:a.size+b.size]) (g:=Za5 a b r.2.2.2.2) λi r=>rfl)).trans ?_;refine Jj λq=>?_;obtain ⟨q1,q2⟩:=q;cases q1 with
 | some z=>rfl
 | none=>
  refine Jj (m:=liftM (rule "list.sort.gallop")) λ_=>?_;refine (congrArg (λm:StateT SortSt Sem MLt=>m >>= _) (UF (r:=[:a.size+b.size]) (g:=Za6 a b) λi r=>rfl)).trans ?_;refine Jj λq=>?_;obtain ⟨q1,q2⟩:=q;cases q1 <;> rfl
end L2
namespace L2
open PySem PySem.Spec PyProof.Rows
section
variable {b:Keyed->Keyed->Bool}
abbrev kle (b:Keyed->Keyed->Bool)(x y:Keyed):Prop:=b y x=false
theorem WO.le_trans (W:WO b){x y z:Keyed}(h1:kle b x y)(h2:kle b y z):kle b x z:=by
 cases h:b z x with
 | false=>exact h
 | true=>
  rcases W.neg z y x h with q | q
  ·rw [show b z y=false from h2] at q;cases q
  ·rw [show b y x=false from h1] at q;cases q
theorem WO.le_of_lt (W:WO b){x y:Keyed}(h:b x y=true):kle b x y:=by
 cases q:b y x with
 | false=>exact q
 | true=>
  have:=W.tr _ _ _ h q;rw [W.irr] at this;cases this
theorem WO.le_refl (W:WO b)(x:Keyed):kle b x x:=W.irr x
structure Mrg (b:Keyed->Keyed->Bool)(all out ra rb:List Keyed):Prop where
 perm:(out++ra++rb).Perm all
 so:out.Pairwise (kle b)
 le:∀x∈out,∀y∈ra++rb,kle b x y
 sa:ra.Pairwise (kle b)
 sb:rb.Pairwise (kle b)
theorem Mrg.len {all out ra rb:List Keyed}(h:Mrg b all out ra rb):out.length+ra.length+rb.length=all.length:=by
 have:=h.perm.length_eq;rw [List.length_append,List.length_append] at this;exact this
theorem Mrg.moveA {all out u ra rb:List Keyed}(h:Mrg b all out (u++ra) rb)(hu:∀x∈u,∀y∈rb,kle b x y):Mrg b all (out++u) ra rb:=by
 have sa:=List.pairwise_append.mp h.sa;refine ⟨by rw [List.append_assoc out u ra];exact h.perm,List.pairwise_append.mpr ⟨h.so,sa.1,λx hx y hy=>h.le x hx y (by simp [hy])⟩,λx hx y hy=>?_,sa.2.1,h.sb⟩;rcases List.mem_append.mp hx with hx | hx
 ·refine h.le x hx y ?_;rcases List.mem_append.mp hy with hy | hy
  ·simp [hy]
  ·simp [hy]
 ·rcases List.mem_append.mp hy with hy | hy
  ·exact sa.2.2 x hx y hy
  ·exact hu x hx y hy
theorem Mrg.moveB {all out u ra rb:List Keyed}(h:Mrg b all out ra (u++rb))(hu:∀x∈u,∀y∈ra,kle b x y):Mrg b all (out++u) ra rb:=by
 have sb:=List.pairwise_append.mp h.sb;refine ⟨?_,List.pairwise_append.mpr ⟨h.so,sb.1,λx hx y hy=>h.le x hx y (by simp [hy])⟩,λx hx y hy=>?_,h.sa,sb.2.1⟩
 ·refine List.Perm.trans ?_ h.perm;simp only [List.append_assoc];refine List.Perm.append_left _ ?_;rw [<-List.append_assoc,<-List.append_assoc];exact List.Perm.append_right _ List.perm_append_comm
 ·rcases List.mem_append.mp hx with hx | hx
  ·refine h.le x hx y ?_;rcases List.mem_append.mp hy with hy | hy
   ·simp [hy]
   ·simp [hy]
  ·rcases List.mem_append.mp hy with hy | hy
   ·exact hu x hx y hy
   ·exact sb.2.2 x hx y hy
def Jr (b:Keyed->Keyed->Bool)(all r:List Keyed):Prop:=r.Perm all/\r.Pairwise (kle b)
theorem Mrg.endA {all out ra rb:List Keyed}(h:Mrg b all out ra rb)(hz:∀x∈ra,∀y∈rb,kle b x y):Jr b all (out++ra++rb):=by
 refine ⟨h.perm,?_⟩;rw [List.append_assoc];exact List.pairwise_append.mpr ⟨h.so,List.pairwise_append.mpr ⟨h.sa,h.sb,hz⟩,h.le⟩
theorem Mrg.endB {all out ra rb:List Keyed}(h:Mrg b all out ra rb)(hz:∀x∈rb,∀y∈ra,kle b x y):Jr b all (out++rb++ra):=by
 refine ⟨?_,?_⟩
 ·refine List.Perm.trans ?_ h.perm;rw [List.append_assoc,List.append_assoc];exact List.Perm.append_left _ List.perm_append_comm
 ·rw [List.append_assoc];exact List.pairwise_append.mpr ⟨h.so,List.pairwise_append.mpr ⟨h.sb,h.sa,hz⟩,λx hx y hy=>h.le x hx y (by
   rcases List.mem_append.mp hy with hy | hy <;> simp [hy])⟩
end
theorem Uo (a:Array Keyed)(i:Nat):(a.extract i).toList=a.toList.drop i:=by
 rw [Array.toList_extract,List.extract_eq_take_drop,List.take_of_length_le];rw [List.length_drop];exact Nat.le_refl _
theorem XR (a:Array Keyed)(i k:Nat):(a.extract i (i+k)).toList=(a.toList.drop i).take k:=by
 rw [Array.toList_extract,List.extract_eq_take_drop,Nat.add_sub_cancel_left]
theorem Jz {a:Array Keyed}{i:Nat}{x:Keyed}(h:a[i]?=some x):a.toList.drop i=x::a.toList.drop (i+1):=by
 rw [<-Array.getElem?_toList] at h;obtain ⟨h1,h2⟩:=List.getElem?_eq_some_iff.mp h;rw [List.drop_eq_getElem_cons h1,h2]
def SameG (st st':SortSt):Prop:=kindOf st'=kindOf st/\arrOf st'=arrOf st/\pendingOf st'=pendingOf st/\failedOf st'=failedOf st
theorem SameG.refl (st:SortSt):SameG st st:=⟨rfl,rfl,rfl,rfl⟩
theorem SameG.trans {st st' st'':SortSt}(h:SameG st st')(k:SameG st' st''):SameG st st'':=⟨k.1.trans h.1,k.2.1.trans h.2.1,k.2.2.1.trans h.2.2.1,k.2.2.2.trans h.2.2.2⟩
section
variable {M:Model}{A:Around}{E:Value->Shared->Prop}{s:Shared}{kd:SortKind}{b:Keyed->Keyed->Bool}{good:Keyed->Prop}
theorem Of {g:Nat}{st:SortSt}{Q:Unit->SortSt->Prop}(q:∀st',SameG st st'->Q () st'):wpS M A E s (UE g) Q st:=by
 refine wpS_modify (f:=λs=>SortSt.mk' (kindOf s) (arrOf s) (pendingOf s) g (failedOf s)) (q _ ⟨rfl,rfl,rfl,rfl⟩)
structure Two (b:Keyed->Keyed->Bool)(good:Keyed->Prop)(a c:Array Keyed):Prop where
 ga:∀x∈a.toList,good x
 gc:∀x∈c.toList,good x
 sa:a.toList.Pairwise (kle b)
 sc:c.toList.Pairwise (kle b)
 na:0<a.size
 nc:0<c.size
 first:∀x,c[0]?=some x->∀y∈a.toList,kle b x y
 last:∀z,a[a.size-1]?=some z->∀y∈c.toList,kle b y z
variable {a c:Array Keyed}
theorem Two.at (T:Two b good a c){i:Nat}(h:i<a.size):∃x,a[i]?=some x/\good x:=⟨a[i],by simp [h],T.ga _ (by simp)⟩
theorem Two.ct (T:Two b good a c){i:Nat}(h:i<c.size):∃x,c[i]?=some x/\good x:=⟨c[i],by simp [h],T.gc _ (by simp)⟩
def ML (b:Keyed->Keyed->Bool)(a c out:Array Keyed)(ia ib:Nat):Prop:=Mrg b (a.toList++c.toList) out.toList (a.toList.drop ia) (c.toList.drop ib)
theorem ML.done {out:Array Keyed}{ia ib:Nat}(h:ML b a c out ia ib)(e:ib=c.size\/ia=a.size):Jr b (a.toList++c.toList) (Oq a c out ia ib).toList:=by
 unfold Oq;rw [Array.toList_append,Array.toList_append,Uo,Uo];refine Mrg.endA h λx hx y hy=>?_;rcases e with e | e
 ·rw [List.drop_of_length_le (by rw [e,Array.length_toList];exact Nat.le_refl _)] at hy;cases hy
 ·rw [List.drop_of_length_le (by rw [e,Array.length_toList];exact Nat.le_refl _)] at hx;cases hx
theorem ML.last {out:Array Keyed}{ia ib:Nat}(T:Two b good a c)(h:ML b a c out ia ib)(e:ia+1=a.size):Jr b (a.toList++c.toList) (U6 a c out ia ib).toList:=by
 unfold U6;rw [Array.toList_append,Array.toList_append,Uo,Uo];refine Mrg.endB h λx hx y hy=>?_;obtain ⟨z,hz,_⟩:=T.at (i:=ia) (by lia);rw [Jz hz,List.drop_of_length_le (by rw [Array.length_toList];lia)] at hy;have:y=z:=by simpa using hy
 subst this;exact T.last y (by rw [<-e];exact hz) x (List.mem_of_mem_drop hx)
theorem ML.pushB {out:Array Keyed}{ia ib:Nat}{x:Keyed}(h:ML b a c out ia ib)(hx:c[ib]?=some x)(hl:∀y∈a.toList.drop ia,kle b x y):ML b a c (out.push x) ia (ib+1):=by
 unfold ML at h ⊢;rw [Array.toList_push];rw [Jz hx] at h;exact Mrg.moveB (u:=[x]) h λz hz y hy=>by
  have:z=x:=by simpa using hz
  subst this;exact hl y hy
theorem ML.pushA {out:Array Keyed}{ia ib:Nat}{x:Keyed}(h:ML b a c out ia ib)(hx:a[ia]?=some x)(hl:∀y∈c.toList.drop ib,kle b x y):ML b a c (out.push x) (ia+1) ib:=by
 unfold ML at h ⊢;rw [Array.toList_push];rw [Jz hx] at h;exact Mrg.moveA (u:=[x]) h λz hz y hy=>by
  have:z=x:=by simpa using hz
  subst this;exact hl y hy
theorem ML.takeA {out:Array Keyed}{ia ib k:Nat}(h:ML b a c out ia ib)(hl:∀x∈(a.toList.drop ia).take k,∀y∈c.toList.drop ib,kle b x y):ML b a c (out++a.extract ia (ia+k)) (ia+k) ib:=by
 unfold ML at h ⊢;rw [Array.toList_append,XR];rw [<-List.take_append_drop k (a.toList.drop ia),List.drop_drop] at h;exact Mrg.moveA h hl
theorem ML.takeB {out:Array Keyed}{ia ib k:Nat}(h:ML b a c out ia ib)(hl:∀x∈(c.toList.drop ib).take k,∀y∈a.toList.drop ia,kle b x y):ML b a c (out++c.extract ib (ib+k)) ia (ib+k):=by
 unfold ML at h ⊢;rw [Array.toList_append,XR];rw [<-List.take_append_drop k (c.toList.drop ib),List.drop_drop] at h;exact Mrg.moveB h hl
theorem Vy {l:List Keyed}{x:Keyed}(W:WO b)(h:(x::l).Pairwise (kle b)):∀y∈x::l,kle b x y:=λy hy=>by
 rcases List.mem_cons.mp hy with rfl | hy
 ·exact W.le_refl _
 ·exact (List.pairwise_cons.mp h).1 y hy
theorem Zu (W:WO b)(L:Ue M A E s kd b good)(T:Two b good a c){out:Array Keyed}{ia ib mg:Nat}{st:SortSt}(hs:kindOf st=kd)(h:ML b a c out ia ib)(h1:ia+1<a.size)(h2:ib<c.size){Q:MLs->SortSt->Prop}(q1:∀r y st',SameG st st'->Jr b (a.toList++c.toList) r.toList->Q (some r,y) st')(q2:∀out' ia' ib' ac bc st',SameG st st'->ML b a c out' ia' ib'->ia'+1<a.size->ib'<c.size->out.size<out'.size->Q (none,out',ia',ib',ac,bc) st') :
  wpS M A E s (forIn [:a.size+c.size] ((none,out,ia,ib,0,0):MLs) (Za5 a c mg)) Q st:=by
 refine wpS_forRange (λk r st'=>SameG st st'/\∃out' ia' ib' ac bc,r=(none,out',ia',ib',ac,bc)/\ML b a c out' ia' ib'/\ia'+1<a.size/\ib'<c.size/\out.size+k<=out'.size) ?_ ?_ ⟨SameG.refl _,_,_,_,_,_,rfl,h,h1,h2,Nat.le_refl _⟩
 ·rintro k r st1 _ hk ⟨sg,out',ia',ib',ac,bc,rfl,h,h1,h2,h3⟩;have hs1:kindOf st1=kd:=sg.1.trans hs;unfold Za5;dsimp only;obtain ⟨x,hx,gx⟩:=T.ct h2;obtain ⟨y,hy,gy⟩:=T.at (i:=ia') (by lia);refine wpS_bind (GD hx (wpS_bind (GD hy (wpS_bind (L x y st1 _ gx gy hs1 ?_)))));have sA:(a.toList.drop ia').Pairwise (kle b):=h.sa;have sB:(c.toList.drop ib').Pairwise (kle b):=h.sb;rw [Jz hy] at sA;rw [Jz hx] at sB;dsimp only;cases hb:b x y with
  | true=>
   rw [if_pos rfl];refine wpS_bind (GD hx ?_);have h':=h.pushB hx λz hz=>by
    rw [Jz hy] at hz;exact W.le_trans (W.le_of_lt hb) (Vy W sA z hz)
   split
   ·rename_i e;exact wpS_pure (q1 _ _ _ sg (h'.done (.inl (eq_of_beq e))))
   ·rename_i e;have e:ib'+1<c.size:=by
     have:ib'+1≠c.size:=λz=>e (beq_iff_eq.mpr z)
     lia
    split
    ·exact wpS_pure (q2 _ _ _ _ _ _ sg h' h1 e (by rw [Array.size_push];lia))
    ·exact wpS_pure ⟨sg,_,_,_,_,_,rfl,h',h1,e,by rw [Array.size_push];lia⟩
  | false=>
   rw [if_neg Bool.false_ne_true];refine wpS_bind (GD hy ?_);have h':=h.pushA hy λz hz=>by
    rw [Jz hx] at hz;exact W.le_trans hb (Vy W sB z hz)
   split
   ·rename_i e;exact wpS_pure (q1 _ _ _ sg (h'.last T (eq_of_beq e)))
   ·rename_i e;have e:ia'+1+1<a.size:=by
     have:ia'+1+1≠a.size:=λz=>e (beq_iff_eq.mpr z)
     lia
    split
    ·exact wpS_pure (q2 _ _ _ _ _ _ sg h' e h2 (by rw [Array.size_push];lia))
    ·exact wpS_pure ⟨sg,_,_,_,_,_,rfl,h',e,h2,by rw [Array.size_push];lia⟩
 ·rintro r st1 ⟨sg,out',ia',ib',ac,bc,rfl,h,h1,h2,h3⟩;exact q2 _ _ _ _ _ _ sg h h1 h2 (by have:=T.na;simp at h3;lia)
end
end L2
namespace L2
open PySem PySem.Spec PyProof.Rows
def Rng (b:Keyed->Keyed->Bool)(arr:Array Keyed)(lo hi:Nat):Prop:=∀i j x y,lo<=i->i<=j->j<hi->arr[i]?=some x->arr[j]?=some y->kle b x y
section
variable {M:Model}{A:Around}{E:Value->Shared->Prop}{s:Shared}{kd:SortKind}{b:Keyed->Keyed->Bool}{good:Keyed->Prop}
theorem Za8 (W:WO b):∀{l:List Keyed}{i j:Nat}{x y:Keyed},l.Pairwise (kle b)->i<=j->l[i]?=some x->l[j]?=some y->kle b x y
 | [],_,_,_,_,_,_,h,_=>by simp at h
 | z::l,0,0,x,y,_,_,h1,h2=>by
  simp at h1 h2;subst h1 h2;exact W.le_refl _
 | z::l,0,j+1,x,y,h,_,h1,h2=>by
  simp at h1 h2;subst h1;exact (List.pairwise_cons.mp h).1 y (List.mem_of_getElem? h2)
 | z::l,i+1,0,_,_,_,h,_,_=>by lia
 | z::l,i+1,j+1,x,y,h,hij,h1,h2=>by
  simp at h1 h2;exact Za8 W (List.pairwise_cons.mp h).2 (by lia) h1 h2
theorem Zb2 (W:WO b){arr:Array Keyed}{lo:Nat}(h:(arr.toList.drop lo).Pairwise (kle b)):Rng b arr lo arr.size:=λi j x y h1 h2 h3 e1 e2=>by
 refine Za8 (i:=i-lo) (j:=j-lo) W h (by lia) ?_ ?_
 ·rw [List.getElem?_drop,Nat.add_sub_cancel' h1,Array.getElem?_toList];exact e1
 ·rw [List.getElem?_drop,Nat.add_sub_cancel' (Nat.le_trans h1 h2),Array.getElem?_toList];exact e2
theorem U7 (W:WO b){left:Bool}{key:Keyed}{arr:Array Keyed}{base n:Nat}(hk:good key)(hg:∀i,i<n->∃x,arr[base+i]?=some x/\good x)(h:Rng b arr base (base+n)):Gal b good left key arr base n:=by
 refine ⟨hk,hg,λi j h1 h2 h3=>?_⟩;obtain ⟨x,hx,_⟩:=hg i (by lia);obtain ⟨y,hy,_⟩:=hg j h2;have hxy:=h (base+i) (base+j) x y (by lia) (by lia) (by lia) hx hy;unfold byd at h3 ⊢;rw [hy] at h3;rw [hx];dsimp only at h3 ⊢;cases left with
 | true=>
  rw [if_pos rfl] at h3 ⊢;rcases W.neg y x key h3 with z | z
  ·rw [show b y x=false from hxy] at z;cases z
  ·exact z
 | false=>
  rw [if_neg Bool.false_ne_true] at h3 ⊢;rw [Bool.not_eq_true'] at h3 ⊢;exact W.le_trans (x:=x) (y:=y) (z:=key) hxy h3
variable {a c:Array Keyed}
theorem XS {arr:Array Keyed}{base k:Nat}{x:Keyed}(h:x∈(arr.toList.drop base).take k):∃i,i<k/\arr[base+i]?=some x:=by
 obtain ⟨i,hi⟩:=List.mem_iff_getElem?.mp h;rw [List.getElem?_take] at hi;split at hi
 ·rw [List.getElem?_drop,Array.getElem?_toList] at hi;exact ⟨i,by assumption,hi⟩
 ·cases hi
theorem XT {arr:Array Keyed}{base:Nat}{x:Keyed}(h:x∈arr.toList.drop base):∃i,base+i<arr.size/\arr[base+i]?=some x:=by
 obtain ⟨i,hi⟩:=List.mem_iff_getElem?.mp h;rw [List.getElem?_drop,Array.getElem?_toList] at hi;exact ⟨i,(Array.getElem?_eq_some_iff.mp hi).1,hi⟩
section
variable {out:Array Keyed}{ia ib:Nat}{st:SortSt}{Q:ForInStep MLt->SortSt->Prop}
structure Za9 (b:Keyed->Keyed->Bool)(a c:Array Keyed)(n:Nat)(st:SortSt)(Q:ForInStep MLt->SortSt->Prop):Prop where
 fin:∀r y st',SameG st st'->Jr b (a.toList++c.toList) r.toList->Q (.done (some r,y)) st'
 brk:∀out' ia' ib' y st',SameG st st'->ML b a c out' ia' ib'->ia'+1<a.size->ib'<c.size->n<=out'.size->Q (.done (none,out',ia',ib',y)) st'
 go:∀out' ia' ib' y st',SameG st st'->ML b a c out' ia' ib'->ia'+1<a.size->ib'<c.size->n<=out'.size->Q (.yield (none,out',ia',ib',y)) st'
theorem Zv (T:Two b good a c){mg ac k n:Nat}(R:Za9 b a c n st Q)(h:ML b a c out ia ib)(h1:ia+1<a.size)(h2:ib<c.size)(hn:n<=out.size)(hl:∀x,a[ia]?=some x->∀y∈c.toList.drop ib,kle b x y) :
  wpS M A E s (mlD a c mg ac k out ia ib) Q st:=by
 unfold mlD;obtain ⟨x,hx,gx⟩:=T.at (i:=ia) (by lia);refine wpS_bind (GD hx ?_);have h':=h.pushA hx (hl x hx);have hn':n<=(out.push x).size:=by rw [Array.size_push];lia
 dsimp only;split
 ·rename_i e;exact wpS_pure (R.fin _ _ _ (SameG.refl _) (h'.last T (eq_of_beq e)))
 ·rename_i e;have e:ia+1+1<a.size:=by
   have:ia+1+1≠a.size:=λz=>e (beq_iff_eq.mpr z)
   lia
  split
  ·exact wpS_pure (R.brk _ _ _ _ _ (SameG.refl _) h' e h2 hn')
  ·exact wpS_pure (R.go _ _ _ _ _ (SameG.refl _) h' e h2 hn')
theorem Zw (W:WO b)(L:Ue M A E s kd b good)(T:Two b good a c){mg ac bc n:Nat}(R:Za9 b a c n st Q)(hs:kindOf st=kd)(h:ML b a c out ia ib)(h1:ia+1<a.size)(h2:ib<c.size)(hn:n<=out.size)(hl:∀x,c[ib]?=some x->∀y∈a.toList.drop ia,kle b x y):wpS M A E s (mlC a c mg ac bc out ia ib) Q st:=by
 unfold mlC;obtain ⟨x,hx,gx⟩:=T.ct h2;obtain ⟨y,hy,gy⟩:=T.at (i:=ia) (by lia);refine wpS_bind (GD hx ?_);have h':=h.pushB hx (hl x hx);have hn':n<=(out.push x).size:=by rw [Array.size_push];lia
 generalize out.push x=out1 at h' hn';dsimp only;split
 ·rename_i e;exact wpS_pure (R.fin _ _ _ (SameG.refl _) (h'.done (.inl (eq_of_beq e))))
 ·rename_i e;have e:ib+1<c.size:=by
   have:ib+1≠c.size:=λz=>e (beq_iff_eq.mpr z)
   lia
  refine wpS_bind (GD hy ?_);have sB:Rng b c (ib+1) c.size:=Zb2 W h'.sb;have sA:(a.toList.drop ia).Pairwise (kle b):=h'.sa;rw [Jz hy] at sA;have G:Gal b good true y c (ib+1) (c.size-(ib+1)):=U7 W gy (λi hi=>T.ct (by lia)) (by rw [Nat.add_sub_cancel' (by lia)];exact sB);refine wpS_bind (Jv L G hs (by lia) λk hk k1 k2=>?_);dsimp only;have tk:∀z∈(c.toList.drop (ib+1)).take k,∀v∈a.toList.drop ia,kle b z v:=λz hz v hv=>by
   obtain ⟨i,hi,ez⟩:=XS hz;have:=k1 i hi;unfold byd at this;rw [ez] at this;dsimp only at this;rw [if_pos rfl] at this;rw [Jz hy] at hv;exact W.le_trans (W.le_of_lt this) (Vy W sA v hv)
  have tr:∀v∈c.toList.drop (ib+1+k),kle b y v:=λv hv=>by
   obtain ⟨i,hi,ev⟩:=XT hv;have:=k2 (k+i) (by lia) (by lia);unfold byd at this;rw [show ib+1+(k+i)=ib+1+k+i by lia,ev] at this;dsimp only at this;rw [if_pos rfl] at this;exact this
  split
  ·have h3:=h'.takeB tk;have hn3:n<=(out1++c.extract (ib+1) (ib+1+k)).size:=by rw [Array.size_append];lia
   split
   ·rename_i e2;exact wpS_pure (R.fin _ _ _ (SameG.refl _) (h3.done (.inl (eq_of_beq e2))))
   ·rename_i e2;have e2:ib+1+k<c.size:=by
     have:ib+1+k≠c.size:=λz=>e2 (beq_iff_eq.mpr z)
     lia
    exact Zv T R h3 h1 e2 hn3 λx' hx' v hv=>by
     rw [hy] at hx';cases hx';exact tr v hv
  ·rename_i hk0;have:k=0:=by lia
   subst this;exact Zv T R h' h1 e hn' λx' hx' v hv=>by
    rw [hy] at hx';cases hx';exact tr v hv
theorem ZcW (W:WO b)(L:Ue M A E s kd b good)(T:Two b good a c){mg ac bc n:Nat}(R:∀st',SameG st st'->Za9 b a c n st' Q)(hs:kindOf st=kd)(h:ML b a c out ia ib)(h1:ia+1<a.size)(h2:ib<c.size)(hn:n<=out.size) :
  wpS M A E s (mlB a c mg ac bc out ia ib) Q st:=by
 unfold mlB;refine wpS_bind (Of λst1 sg=>?_);have R:=R st1 sg;have hs1:kindOf st1=kd:=sg.1.trans hs;obtain ⟨x,hx,gx⟩:=T.ct h2;refine wpS_bind (GD hx ?_);have sA:Rng b a ia a.size:=Zb2 W h.sa;have sB:(c.toList.drop ib).Pairwise (kle b):=h.sb;rw [Jz hx] at sB;have G:Gal b good false x a ia (a.size-ia):=U7 W gx (λi hi=>T.at (by lia)) (by rw [Nat.add_sub_cancel' (by lia)];exact sA);refine wpS_bind (Jv L G hs1 (by lia) λk hk k1 k2=>?_);dsimp only;have tk:∀z∈(a.toList.drop ia).take k,∀v∈c.toList.drop ib,kle b z v:=λz hz v hv=>by
  obtain ⟨i,hi,ez⟩:=XS hz;have:=k1 i hi;unfold byd at this;rw [ez] at this;dsimp only at this;rw [if_neg Bool.false_ne_true,Bool.not_eq_true'] at this;rw [Jz hx] at hv;exact W.le_trans this (Vy W sB v hv)
 have tr:∀v∈a.toList.drop (ia+k),kle b x v:=λv hv=>by
  obtain ⟨i,hi,ev⟩:=XT hv;have:=k2 (k+i) (by lia) (by lia);unfold byd at this;rw [show ia+(k+i)=ia+k+i by lia,ev] at this;dsimp only at this;rw [if_neg Bool.false_ne_true,Bool.not_eq_false'] at this;exact W.le_of_lt this
 split
 ·have h3:=h.takeA tk;have hn3:n<=(out++a.extract ia (ia+k)).size:=by rw [Array.size_append];lia
  split
  ·rename_i e2;exact wpS_pure (R.fin _ _ _ (SameG.refl _) (h3.last T (eq_of_beq e2)))
  ·rename_i e2;split
   ·rename_i e3;exact wpS_pure (R.fin _ _ _ (SameG.refl _) (h3.done (.inr (eq_of_beq e3))))
   ·rename_i e3;have e4:ia+k+1<a.size:=by
     have:ia+k+1≠a.size:=λz=>e2 (beq_iff_eq.mpr z);have:ia+k≠a.size:=λz=>e3 (beq_iff_eq.mpr z)
     lia
    exact Zw W L T R hs1 h3 e4 h2 hn3 λx' hx' v hv=>by
     rw [hx] at hx';cases hx';exact tr v hv
 ·have:k=0:=by lia
  subst this;exact Zw W L T R hs1 h h1 h2 hn λx' hx' v hv=>by
   rw [hx] at hx';cases hx';exact tr v hv
end
theorem Zx (W:WO b)(L:Ue M A E s kd b good)(T:Two b good a c){out:Array Keyed}{ia ib n:Nat}{y:Nat×Nat×Nat}{st:SortSt}(hs:kindOf st=kd)(h:ML b a c out ia ib)(h1:ia+1<a.size)(h2:ib<c.size){Q:MLt->SortSt->Prop}(q1:∀r y st',SameG st st'->Jr b (a.toList++c.toList) r.toList->Q (some r,y) st')(q2:∀out' ia' ib' y st',SameG st st'->ML b a c out' ia' ib'->ia'+1<a.size->ib'<c.size->out.size<=out'.size->Q (none,out',ia',ib',y) st') :
  wpS M A E s (forIn [:n] ((none,out,ia,ib,y):MLt) (Za6 a c)) Q st:=by
 refine wpS_forRange (λk r st'=>SameG st st'/\∃out' ia' ib' y,r=(none,out',ia',ib',y)/\ML b a c out' ia' ib'/\ia'+1<a.size/\ib'<c.size/\out.size<=out'.size) ?_ ?_ ⟨SameG.refl _,_,_,_,_,rfl,h,h1,h2,Nat.le_refl _⟩
 ·rintro k r st1 _ hk ⟨sg,out',ia',ib',y,rfl,h,h1,h2,h3⟩;have hs1:kindOf st1=kd:=sg.1.trans hs;have R:∀st',SameG st1 st'->Za9 b a c out.size st' (λr st'=>match r with
   | .done c'=>Q c' st'
   | .yield c'=>SameG st st'/\∃out' ia' ib' y,c'=(none,out',ia',ib',y)/\ML b a c out' ia' ib'/\ia'+1<a.size/\ib'<c.size/\out.size<=out'.size):=λst' sg'=>
   ⟨λr y st2 g m=>q1 r y st2 ((sg.trans sg').trans g) m,λo i j y st2 g m p1 p2 p3=>q2 o i j y st2 ((sg.trans sg').trans g) m p1 p2 p3,λo i j y st2 g m p1 p2 p3=>⟨(sg.trans sg').trans g,o,i,j,y,rfl,m,p1,p2,p3⟩⟩
  unfold Za6;dsimp only;have mono:∀mg,wpS M A E s (mlB a c mg y.2.1 y.2.2 out' ia' ib') _ st1:=λmg=>ZcW W L T R hs1 h h1 h2 h3;split
  ·exact wpS_mono (mono _) λr st' hr=>by cases r <;> exact hr
  ·exact wpS_mono (mono _) λr st' hr=>by cases r <;> exact hr
 ·rintro r st1 ⟨sg,out',ia',ib',y,rfl,h,h1,h2,h3⟩;exact q2 _ _ _ _ _ sg h h1 h2 h3
theorem Xc (W:WO b)(L:Ue M A E s kd b good)(T:Two b good a c){st:SortSt}(hs:kindOf st=kd){Q:Array Keyed->SortSt->Prop}(q:∀r st',SameG st st'->Jr b (a.toList++c.toList) r.toList->Q r st'):wpS M A E s (Vu a c) Q st:=by
 rw [Xb];refine wpS_bind (wpS_lift (wpAny_rule ⟨rfl,?_⟩));obtain ⟨x,hx,gx⟩:=T.ct T.nc;refine wpS_bind (GD hx ?_);have h0:ML b a c #[x] 0 1:=by
  have z:ML b a c #[] 0 0:=⟨by simp,by simp,by simp,by simpa using T.sa,by simpa using T.sc⟩;exact z.pushB hx λy hy=>T.first x hx y (by simpa using hy)
 have hc:=T.nc;have ha:=T.na;dsimp only;split
 ·rename_i e;exact wpS_pure (q _ _ (SameG.refl _) (h0.done (.inl (eq_of_beq e))))
 ·rename_i e;have e:1<c.size:=by
   have:1≠c.size:=λz=>e (beq_iff_eq.mpr z)
   lia
  split
  ·rename_i e2;exact wpS_pure (q _ _ (SameG.refl _) (h0.last T (eq_of_beq e2)))
  ·rename_i e2;have e2:0+1<a.size:=by
    have:0+1≠a.size:=λz=>e2 (beq_iff_eq.mpr z)
    lia
   refine wpS_bind (wpS_get ?_);refine wpS_bind (wpS_forRange (λk r st'=>SameG st st'/\∃out' ia' ib' mg,r=(none,out',ia',ib',mg)/\ML b a c out' ia' ib'/\ia'+1<a.size/\ib'<c.size/\k<out'.size) ?_ ?_ ⟨SameG.refl _,_,_,_,_,rfl,h0,e2,e,by simp⟩)
   ·rintro k r st1 _ hk ⟨sg,out',ia',ib',mg,rfl,h,h1,h2,h3⟩;have hs1:kindOf st1=kd:=sg.1.trans hs;unfold Za7;dsimp only;refine wpS_bind (Zu W L T hs1 h h1 h2 (λr y st2 g m=>?_) (λo i j ac bc st2 g m p1 p2 p3=>?_))
    ·refine wpS_pure ?_;dsimp only;exact wpS_pure (q r st2 (sg.trans g) m)
    ·dsimp only;refine wpS_bind (wpS_lift (wpAny_rule ⟨rfl,?_⟩));refine wpS_bind (Zx W L T (g.1.trans hs1) m p1 p2 (λr y st3 g3 m3=>?_) (λo3 i3 j3 y3 st3 g3 m3 r1 r2 r3=>?_))
     ·refine wpS_pure ?_;dsimp only;exact wpS_pure (q r st3 ((sg.trans g).trans g3) m3)
     ·dsimp only;refine wpS_bind (Of λst4 g4=>?_);exact wpS_pure ⟨((sg.trans g).trans g3).trans g4,_,_,_,_,rfl,m3,r1,r2,by lia⟩
   ·rintro r st1 ⟨sg,out',ia',ib',mg,rfl,h,h1,h2,h3⟩;exfalso;have:=Mrg.len h;rw [List.length_append,List.length_drop,List.length_drop,Array.length_toList,Array.length_toList,Array.length_toList] at this;simp at h3
    lia
end
end L2
namespace L2
open PySem PySem.Spec PyProof.Rows
abbrev MHs:=Option (Array Keyed)×Nat×Nat×Array Keyed×Nat×Nat
abbrev MHt:=Option (Array Keyed)×Nat×Nat×Array Keyed×Nat×Nat×Nat
abbrev MHo:=Option (Array Keyed)×Nat×Nat×Array Keyed×Nat
def Os (a b out:Array Keyed)(na nb:Nat):Array Keyed:=a.extract 0 na++b.extract 0 nb++out.reverse
def O6 (a b out:Array Keyed)(na nb:Nat):Array Keyed:=b.extract 0 nb++a.extract 0 na++out.reverse
def Zba (a b:Array Keyed)(mg:Nat):Nat->MHs->StateT SortSt Sem (ForInStep MHs):=λ_ r=>
 let na:=r.2.1;let nb:=r.2.2.1;let out:=r.2.2.2.1;let qZ:=r.2.2.2.2.1;let qX:=r.2.2.2.2.2
 do
 let x <- elem' b (nb-1)
 let y <- elem' a (na-1)
 match <- lt' x y with
 | some aWins=>
  if aWins=true then do
   let na:=na-1
   let z <- elem' a na
   let out:=out.push z
   let qZ:=qZ+1
   let qX:=0
   if (na == 0)=true then pure (.done (some (Os a b out na nb),na,nb,out,qZ,qX))
   else if qZ>=mg then pure (.done (none,na,nb,out,qZ,qX))
   else pure (.yield (none,na,nb,out,qZ,qX))
  else do
   let nb:=nb-1
   let z <- elem' b nb
   let out:=out.push z
   let qX:=qX+1
   let qZ:=0
   if (nb == 1)=true then pure (.done (some (O6 a b out na nb),na,nb,out,qZ,qX))
   else if qX>=mg then pure (.done (none,na,nb,out,qZ,qX))
   else pure (.yield (none,na,nb,out,qZ,qX))
 | _=>pure (.done (some (Os a b out na nb),na,nb,out,qZ,qX))
def mhD (a b:Array Keyed)(qJ qZ qX:Nat)(na nb:Nat)(out:Array Keyed):StateT SortSt Sem (ForInStep MHt):=do
 let na:=na-1
 let z <- elem' a na
 let out:=out.push z
 if (na == 0)=true then pure (.done (some (Os a b out na nb),na,nb,out,qJ,qZ,qX))
 else if (decide (qZ<7) && decide (qX<7))=true then pure (.done (none,na,nb,out,qJ,qZ,qX))
 else pure (.yield (none,na,nb,out,qJ,qZ,qX))
def mhC (a b:Array Keyed)(qJ qZ qX:Nat)(na nb:Nat)(out:Array Keyed):StateT SortSt Sem (ForInStep MHt):=do
 let nb:=nb-1
 let z <- elem' b nb
 let out:=out.push z
 if (nb == 1)=true then pure (.done (some (O6 a b out na nb),na,nb,out,qJ,qZ,qX))
 else do
  let y <- elem' a (na-1)
  match <- J2 true y b 0 nb (nb-1) with
  | some at_=>
   let k:=nb-at_
   let qX:=k
   if k > 0 then
    let out:=out++(b.extract at_ nb).reverse
    let nb:=at_
    if (nb == 1)=true then pure (.done (some (O6 a b out na nb),na,nb,out,qJ,qZ,qX))
    else if (nb == 0)=true then pure (.done (some (Os a b out na nb),na,nb,out,qJ,qZ,qX))
    else mhD a b qJ qZ qX na nb out
   else mhD a b qJ qZ qX na nb out
  | _=>pure (.done (some (Os a b out na nb),na,nb,out,qJ,qZ,qX))
def mhB (a b:Array Keyed)(qJ qZ qX:Nat)(na nb:Nat)(out:Array Keyed):StateT SortSt Sem (ForInStep MHt):=do
 UE qJ
 let x <- elem' b (nb-1)
 match <- J2 false x a 0 na (na-1) with
 | some at_=>
  let k:=na-at_
  let qZ:=k
  if k > 0 then
   let out:=out++(a.extract at_ na).reverse
   let na:=at_
   if (na == 0)=true then pure (.done (some (Os a b out na nb),na,nb,out,qJ,qZ,qX))
   else mhC a b qJ qZ qX na nb out
  else mhC a b qJ qZ qX na nb out
 | _=>pure (.done (some (Os a b out na nb),na,nb,out,qJ,qZ,qX))
def Zbb (a b:Array Keyed):Nat->MHt->StateT SortSt Sem (ForInStep MHt):=λ_ r=>
 let na:=r.2.1;let nb:=r.2.2.1;let out:=r.2.2.2.1;let qJ:=r.2.2.2.2.1;let qZ:=r.2.2.2.2.2.1;let qX:=r.2.2.2.2.2.2
 if qJ > 1 then mhB a b (qJ-1) qZ qX na nb out else mhB a b qJ qZ qX na nb out
def Zbc (a b:Array Keyed):Nat->MHo->StateT SortSt Sem (ForInStep MHo):=λ_ r=>
 let na:=r.2.1;let nb:=r.2.2.1;let out:=r.2.2.2.1;let qJ:=r.2.2.2.2
 do
 let r <- forIn [:a.size+b.size] ((none,na,nb,out,0,0):MHs) (Zba a b qJ)
 match r.1 with
 | some x=>pure (.done (some x,r.2.1,r.2.2.1,r.2.2.2.1,qJ))
 | none=>do
  liftM (rule "list.sort.gallop")
  let r <- forIn [:a.size+b.size] ((none,r.2.1,r.2.2.1,r.2.2.2.1,qJ+1,r.2.2.2.2.1,r.2.2.2.2.2):MHt) (Zbb a b)
  match r.1 with
  | some x=>pure (.done (some x,r.2.1,r.2.2.1,r.2.2.2.1,r.2.2.2.2.1))
  | none=>do
   UE (r.2.2.2.2.1+1)
   pure (.yield (none,r.2.1,r.2.2.1,r.2.2.2.1,r.2.2.2.2.1+1))
theorem Xd (a b:Array Keyed):Vv a b=(do
  liftM (rule "list.sort.merge-hi")
  let x <- elem' a (a.size-1)
  let out:=#[x]
  if (a.size-1 == 0)=true then pure (Os a b out (a.size-1) b.size)
  else if (b.size == 1)=true then pure (O6 a b out (a.size-1) b.size)
  else do
   let st <- get
   let r <- forIn [:a.size+b.size] ((none,a.size-1,b.size,out,gallopOf st):MHo) (Zbc a b)
   match r.1 with
   | some r=>pure r
   | none=>liftM (unsupported "internal:list.sort.merge-bound")):=by
 refine Jj (m:=liftM (rule "list.sort.merge-hi")) λ_=>?_;refine Jj (m:=elem' a (a.size-1)) λx=>?_;refine Vx (c:=(a.size-1 == 0)=true) rfl ?_;refine Vx (c:=(b.size == 1)=true) rfl ?_;refine Jj (m:=get) λst=>?_;refine (congrArg (λm:StateT SortSt Sem MHo=>m >>= _) (UF (r:=[:a.size+b.size]) (c:=((none,a.size-1,b.size,#[x],gallopOf st):MHo)) (g:=Zbc a b) λi r=>?_)).trans ?_;rotate_left
 ·refine Jj λr=>?_;obtain ⟨r1,r2⟩:=r;cases r1 <;> rfl
 unfold Zbc;refine (congrArg (λm:StateT SortSt Sem MHs=>m >>= _) (UF (r:=[:a.size+b.size]) (g:=Zba a b r.2.2.2.2) λi r=>rfl)).trans ?_;refine Jj λq=>?_;obtain ⟨q1,q2⟩:=q;cases q1 with
 | some z=>rfl
 | none=>
  refine Jj (m:=liftM (rule "list.sort.gallop")) λ_=>?_;refine (congrArg (λm:StateT SortSt Sem MHt=>m >>= _) (UF (r:=[:a.size+b.size]) (g:=Zbb a b) λi r=>rfl)).trans ?_;refine Jj λq=>?_;obtain ⟨q1,q2⟩:=q;cases q1 <;> rfl
end L2
namespace L2
open PySem PySem.Spec PyProof.Rows
section
variable {b:Keyed->Keyed->Bool}
structure MrgH (b:Keyed->Keyed->Bool)(all out ra rb:List Keyed):Prop where
 perm:(ra++rb++out).Perm all
 so:out.Pairwise (kle b)
 le:∀x∈ra++rb,∀y∈out,kle b x y
 sa:ra.Pairwise (kle b)
 sb:rb.Pairwise (kle b)
theorem MrgH.len {all out ra rb:List Keyed}(h:MrgH b all out ra rb):ra.length+rb.length+out.length=all.length:=by
 have:=h.perm.length_eq;rw [List.length_append,List.length_append] at this;exact this
theorem MrgH.moveB {all out u ra rb:List Keyed}(h:MrgH b all out ra (rb++u))(hu:∀x∈u,∀y∈ra,kle b y x):MrgH b all (u++out) ra rb:=by
 have sb:=List.pairwise_append.mp h.sb;refine ⟨?_,List.pairwise_append.mpr ⟨sb.2.1,h.so,λx hx y hy=>h.le x (by simp [hx]) y hy⟩,λx hx y hy=>?_,h.sa,sb.1⟩
 ·have:=h.perm;simp only [List.append_assoc] at this ⊢;exact this
 ·rcases List.mem_append.mp hy with hy | hy
  ·rcases List.mem_append.mp hx with hx | hx
   ·exact hu y hy x hx
   ·exact sb.2.2 x hx y hy
  ·refine h.le x ?_ y hy;rcases List.mem_append.mp hx with hx | hx <;> simp [hx]
theorem MrgH.moveA {all out u ra rb:List Keyed}(h:MrgH b all out (ra++u) rb)(hu:∀x∈u,∀y∈rb,kle b y x):MrgH b all (u++out) ra rb:=by
 have sa:=List.pairwise_append.mp h.sa;refine ⟨?_,List.pairwise_append.mpr ⟨sa.2.1,h.so,λx hx y hy=>h.le x (by simp [hx]) y hy⟩,λx hx y hy=>?_,sa.1,h.sb⟩
 ·refine List.Perm.trans ?_ h.perm;simp only [List.append_assoc];refine List.Perm.append_left _ ?_;rw [<-List.append_assoc,<-List.append_assoc];exact List.Perm.append_right _ List.perm_append_comm
 ·rcases List.mem_append.mp hy with hy | hy
  ·rcases List.mem_append.mp hx with hx | hx
   ·exact sa.2.2 x hx y hy
   ·exact hu y hy x hx
  ·refine h.le x ?_ y hy;rcases List.mem_append.mp hx with hx | hx <;> simp [hx]
theorem MrgH.endA {all out ra rb:List Keyed}(h:MrgH b all out ra rb)(hz:∀x∈ra,∀y∈rb,kle b x y):Jr b all (ra++rb++out):=
 ⟨h.perm,List.pairwise_append.mpr ⟨List.pairwise_append.mpr ⟨h.sa,h.sb,hz⟩,h.so,h.le⟩⟩
theorem MrgH.endB {all out ra rb:List Keyed}(h:MrgH b all out ra rb)(hz:∀x∈rb,∀y∈ra,kle b x y):Jr b all (rb++ra++out):=by
 refine ⟨List.Perm.trans (List.Perm.append_right _ List.perm_append_comm) h.perm,List.pairwise_append.mpr ⟨List.pairwise_append.mpr ⟨h.sb,h.sa,hz⟩,h.so,λx hx y hy=>h.le x ?_ y hy⟩⟩;rcases List.mem_append.mp hx with hx | hx <;> simp [hx]
end
theorem XU (a:Array Keyed)(k:Nat):(a.extract 0 k).toList=a.toList.take k:=by
 rw [Array.toList_extract,List.extract_eq_take_drop,List.drop_zero,Nat.sub_zero]
theorem Zy (a:Array Keyed){i j:Nat}(h:i<=j):a.toList.take j=a.toList.take i++(a.extract i j).toList:=by
 rw [Array.toList_extract,List.extract_eq_take_drop];have:=List.take_append_drop i (a.toList.take j);rw [List.take_take,Nat.min_eq_left h,List.drop_take] at this;exact this.symm
theorem Zz {a:Array Keyed}{i:Nat}{x:Keyed}(h:a[i]?=some x):a.toList.take (i+1)=a.toList.take i++[x]:=by
 rw [<-Array.getElem?_toList] at h;rw [List.take_add_one,h]
 rfl
theorem taken {arr:Array Keyed}{k:Nat}{x:Keyed}(h:x∈arr.toList.take k):∃i,i<k/\arr[i]?=some x:=by
 obtain ⟨i,hi⟩:=List.mem_iff_getElem?.mp h;rw [List.getElem?_take] at hi;split at hi
 ·rw [Array.getElem?_toList] at hi;exact ⟨i,by assumption,hi⟩
 ·cases hi
theorem Xe {arr:Array Keyed}{i j:Nat}{x:Keyed}(h:x∈(arr.extract i j).toList):∃k,i<=k/\k<j/\arr[k]?=some x:=by
 rw [Array.toList_extract,List.extract_eq_take_drop] at h;obtain ⟨k,hk⟩:=List.mem_iff_getElem?.mp h;rw [List.getElem?_take] at hk;split at hk
 ·rw [List.getElem?_drop,Array.getElem?_toList] at hk;exact ⟨i+k,by lia,by lia,hk⟩
 ·cases hk
section
variable {M:Model}{A:Around}{E:Value->Shared->Prop}{s:Shared}{kd:SortKind}{b:Keyed->Keyed->Bool}{good:Keyed->Prop}{a c:Array Keyed}
def MH (b:Keyed->Keyed->Bool)(a c:Array Keyed)(na nb:Nat)(out:Array Keyed):Prop:=MrgH b (a.toList++c.toList) out.toList.reverse (a.toList.take na) (c.toList.take nb)
theorem ZA (W:WO b){arr:Array Keyed}{hi:Nat}(h:(arr.toList.take hi).Pairwise (kle b)):Rng b arr 0 (0+hi):=λi j x y h1 h2 h3 e1 e2=>by
 refine Za8 (i:=i) (j:=j) W h h2 ?_ ?_
 ·rw [List.getElem?_take,if_pos (by lia),Array.getElem?_toList];exact e1
 ·rw [List.getElem?_take,if_pos (by lia),Array.getElem?_toList];exact e2
theorem MH.done {out:Array Keyed}{na nb:Nat}(h:MH b a c na nb out)(e:na=0\/nb=0):Jr b (a.toList++c.toList) (Os a c out na nb).toList:=by
 unfold Os;rw [Array.toList_append,Array.toList_append,XU,XU,Array.toList_reverse];refine MrgH.endA h λx hx y hy=>?_;rcases e with e | e
 ·rw [e] at hx;simp at hx
 ·rw [e] at hy;simp at hy
theorem MH.first {out:Array Keyed}{na nb:Nat}(T:Two b good a c)(h:MH b a c na nb out)(e:nb=1):Jr b (a.toList++c.toList) (O6 a c out na nb).toList:=by
 unfold O6;rw [Array.toList_append,Array.toList_append,XU,XU,Array.toList_reverse];refine MrgH.endB h λx hx y hy=>?_;obtain ⟨i,hi,ex⟩:=taken hx;have:i=0:=by lia
 subst this;exact T.first x ex y (List.mem_of_mem_take hy)
theorem MH.pushB {out:Array Keyed}{na nb:Nat}{x:Keyed}(h:MH b a c na (nb+1) out)(hx:c[nb]?=some x)(hl:∀y∈a.toList.take na,kle b y x):MH b a c na nb (out.push x):=by
 unfold MH at h ⊢;rw [Array.toList_push,List.reverse_append];rw [Zz hx] at h;exact MrgH.moveB (u:=[x]) h λz hz y hy=>by
  have:z=x:=by simpa using hz
  subst this;exact hl y hy
theorem MH.pushA {out:Array Keyed}{na nb:Nat}{x:Keyed}(h:MH b a c (na+1) nb out)(hx:a[na]?=some x)(hl:∀y∈c.toList.take nb,kle b y x):MH b a c na nb (out.push x):=by
 unfold MH at h ⊢;rw [Array.toList_push,List.reverse_append];rw [Zz hx] at h;exact MrgH.moveA (u:=[x]) h λz hz y hy=>by
  have:z=x:=by simpa using hz
  subst this;exact hl y hy
theorem MH.takeA {out:Array Keyed}{na nb k:Nat}(h:MH b a c na nb out)(hk:k<=na)(hl:∀x∈(a.extract k na).toList,∀y∈c.toList.take nb,kle b y x):MH b a c k nb (out++(a.extract k na).reverse):=by
 unfold MH at h ⊢;rw [Array.toList_append,Array.toList_reverse,List.reverse_append,List.reverse_reverse];rw [Zy a hk] at h;exact MrgH.moveA h hl
theorem MH.takeB {out:Array Keyed}{na nb k:Nat}(h:MH b a c na nb out)(hk:k<=nb)(hl:∀x∈(c.extract k nb).toList,∀y∈a.toList.take na,kle b y x):MH b a c na k (out++(c.extract k nb).reverse):=by
 unfold MH at h ⊢;rw [Array.toList_append,Array.toList_reverse,List.reverse_append,List.reverse_reverse];rw [Zy c hk] at h;exact MrgH.moveB h hl
theorem Vz (W:WO b){arr:Array Keyed}{k:Nat}{x:Keyed}(h:(arr.toList.take (k+1)).Pairwise (kle b))(hx:arr[k]?=some x):∀y∈arr.toList.take (k+1),kle b y x:=λy hy=>by
 obtain ⟨i,hi,ey⟩:=taken hy;exact ZA W h i k y x (Nat.zero_le _) (by lia) (by lia) ey hx
theorem ZB (W:WO b)(L:Ue M A E s kd b good)(T:Two b good a c){out:Array Keyed}{na nb mg:Nat}{st:SortSt}(hs:kindOf st=kd)(h:MH b a c na nb out)(h1:0<na/\na<=a.size)(h2:1<nb/\nb<=c.size){Q:MHs->SortSt->Prop}(q1:∀r y st',SameG st st'->Jr b (a.toList++c.toList) r.toList->Q (some r,y) st')(q2:∀na' nb' out' ac bc st',SameG st st'->MH b a c na' nb' out'->(0<na'/\na'<=a.size)->(1<nb'/\nb'<=c.size)->out.size<out'.size->Q (none,na',nb',out',ac,bc) st') :
  wpS M A E s (forIn [:a.size+c.size] ((none,na,nb,out,0,0):MHs) (Zba a c mg)) Q st:=by
 refine wpS_forRange (λk r st'=>SameG st st'/\∃na' nb' out' ac bc,r=(none,na',nb',out',ac,bc)/\MH b a c na' nb' out'/\(0<na'/\na'<=a.size)/\(1<nb'/\nb'<=c.size)/\out.size+k<=out'.size) ?_ ?_ ⟨SameG.refl _,_,_,_,_,_,rfl,h,h1,h2,Nat.le_refl _⟩
 ·rintro k r st1 _ hk ⟨sg,na',nb',out',ac,bc,rfl,h,h1,h2,h3⟩;have hs1:kindOf st1=kd:=sg.1.trans hs;obtain ⟨na',rfl⟩:∃n,na'=n+1:=⟨na' - 1,by lia⟩;obtain ⟨nb',rfl⟩:∃n,nb'=n+1:=⟨nb' - 1,by lia⟩;unfold Zba;dsimp only [Nat.add_sub_cancel];obtain ⟨x,hx,gx⟩:=T.ct (i:=nb') (by lia);obtain ⟨y,hy,gy⟩:=T.at (i:=na') (by lia);refine wpS_bind (GD hx (wpS_bind (GD hy (wpS_bind (L x y st1 _ gx gy hs1 ?_)))));dsimp only;cases hb:b x y with
  | true=>
   rw [if_pos rfl];refine wpS_bind (GD hy ?_);have h':=h.pushA hy λz hz=>W.le_trans (Vz W h.sb hx z hz) (W.le_of_lt hb);split
   ·rename_i e;exact wpS_pure (q1 _ _ _ sg (h'.done (.inl (eq_of_beq e))))
   ·rename_i e;have e:0<na':=by
     have:na'≠0:=λz=>e (beq_iff_eq.mpr z)
     lia
    split
    ·exact wpS_pure (q2 _ _ _ _ _ _ sg h' ⟨e,by lia⟩ h2 (by rw [Array.size_push];lia))
    ·exact wpS_pure ⟨sg,_,_,_,_,_,rfl,h',⟨e,by lia⟩,h2,by rw [Array.size_push];lia⟩
  | false=>
   rw [if_neg Bool.false_ne_true];refine wpS_bind (GD hx ?_);have h':=h.pushB hx λz hz=>W.le_trans (Vz W h.sa hy z hz) hb;split
   ·rename_i e;exact wpS_pure (q1 _ _ _ sg (h'.first T (eq_of_beq e)))
   ·rename_i e;have e:1<nb':=by
     have:nb'≠1:=λz=>e (beq_iff_eq.mpr z)
     lia
    split
    ·exact wpS_pure (q2 _ _ _ _ _ _ sg h' h1 ⟨e,by lia⟩ (by rw [Array.size_push];lia))
    ·exact wpS_pure ⟨sg,_,_,_,_,_,rfl,h',h1,⟨e,by lia⟩,by rw [Array.size_push];lia⟩
 ·rintro r st1 ⟨sg,na',nb',out',ac,bc,rfl,h,h1,h2,h3⟩;exact q2 _ _ _ _ _ _ sg h h1 h2 (by have:=T.na;simp at h3;lia)
section
variable {out:Array Keyed}{na nb:Nat}{st:SortSt}{Q:ForInStep MHt->SortSt->Prop}
structure Zbd (b:Keyed->Keyed->Bool)(a c:Array Keyed)(n:Nat)(st:SortSt)(Q:ForInStep MHt->SortSt->Prop):Prop where
 fin:∀r y st',SameG st st'->Jr b (a.toList++c.toList) r.toList->Q (.done (some r,y)) st'
 brk:∀na' nb' out' y st',SameG st st'->MH b a c na' nb' out'->(0<na'/\na'<=a.size)->(1<nb'/\nb'<=c.size)->n<=out'.size->Q (.done (none,na',nb',out',y)) st'
 go:∀na' nb' out' y st',SameG st st'->MH b a c na' nb' out'->(0<na'/\na'<=a.size)->(1<nb'/\nb'<=c.size)->n<=out'.size->Q (.yield (none,na',nb',out',y)) st'
theorem ZC (T:Two b good a c){mg ac bc n:Nat}(R:Zbd b a c n st Q)(h:MH b a c (na+1) nb out)(h1:na+1<=a.size)(h2:1<nb/\nb<=c.size)(hn:n<=out.size)(hl:∀x,a[na]?=some x->∀y∈c.toList.take nb,kle b y x) :
  wpS M A E s (mhD a c mg ac bc (na+1) nb out) Q st:=by
 unfold mhD;dsimp only [Nat.add_sub_cancel];obtain ⟨x,hx,gx⟩:=T.at (i:=na) (by lia);refine wpS_bind (GD hx ?_);have h':=h.pushA hx (hl x hx);have hn':n<=(out.push x).size:=by rw [Array.size_push];lia
 split
 ·rename_i e;exact wpS_pure (R.fin _ _ _ (SameG.refl _) (h'.done (.inl (eq_of_beq e))))
 ·rename_i e;have e:0<na:=by
   have:na≠0:=λz=>e (beq_iff_eq.mpr z)
   lia
  split
  ·exact wpS_pure (R.brk _ _ _ _ _ (SameG.refl _) h' ⟨e,by lia⟩ h2 hn')
  ·exact wpS_pure (R.go _ _ _ _ _ (SameG.refl _) h' ⟨e,by lia⟩ h2 hn')
theorem ZD (W:WO b)(L:Ue M A E s kd b good)(T:Two b good a c){mg ac bc n:Nat}(R:Zbd b a c n st Q)(hs:kindOf st=kd)(h:MH b a c (na+1) (nb+1) out)(h1:na+1<=a.size)(h2:0<nb/\nb+1<=c.size)(hn:n<=out.size)(hl:∀x,c[nb]?=some x->∀y∈a.toList.take (na+1),kle b y x):wpS M A E s (mhC a c mg ac bc (na+1) (nb+1) out) Q st:=by
 unfold mhC;dsimp only [Nat.add_sub_cancel];obtain ⟨x,hx,gx⟩:=T.ct (i:=nb) (by lia);obtain ⟨y,hy,gy⟩:=T.at (i:=na) (by lia);refine wpS_bind (GD hx ?_);have h':=h.pushB hx (hl x hx);have hn':n<=(out.push x).size:=by rw [Array.size_push];lia
 generalize out.push x=out1 at h' hn';split
 ·rename_i e;exact wpS_pure (R.fin _ _ _ (SameG.refl _) (h'.first T (eq_of_beq e)))
 ·rename_i e;have e:1<nb:=by
   have:nb≠1:=λz=>e (beq_iff_eq.mpr z)
   lia
  refine wpS_bind (GD hy ?_);have G:Gal b good true y c 0 nb:=U7 W gy (λi hi=>by rw [Nat.zero_add];exact T.ct (by lia)) (ZA W h'.sb);refine wpS_bind (Jv L G hs (by lia) λk hk k1 k2=>?_);dsimp only;have tk:∀z∈(c.extract k nb).toList,∀v∈a.toList.take (na+1),kle b v z:=λz hz v hv=>by
   obtain ⟨i,hi,hj,ez⟩:=Xe hz;have:=k2 i hi hj;unfold byd at this;rw [Nat.zero_add,ez] at this;dsimp only at this;rw [if_pos rfl] at this;exact W.le_trans (Vz W h'.sa hy v hv) this
  have tr:∀v∈c.toList.take k,kle b v y:=λv hv=>by
   obtain ⟨i,hi,ev⟩:=taken hv;have:=k1 i hi;unfold byd at this;rw [Nat.zero_add,ev] at this;dsimp only at this;rw [if_pos rfl] at this;exact W.le_of_lt this
  split
  ·have h3:=h'.takeB hk tk;have hn3:n<=(out1++(c.extract k nb).reverse).size:=by rw [Array.size_append];lia
   split
   ·rename_i e2;exact wpS_pure (R.fin _ _ _ (SameG.refl _) (h3.first T (eq_of_beq e2)))
   ·rename_i e2;split
    ·rename_i e3;exact wpS_pure (R.fin _ _ _ (SameG.refl _) (h3.done (.inr (eq_of_beq e3))))
    ·rename_i e3;have e4:1<k:=by
      have:k≠1:=λz=>e2 (beq_iff_eq.mpr z);have:k≠0:=λz=>e3 (beq_iff_eq.mpr z)
      lia
     exact ZC T R h3 h1 ⟨e4,by lia⟩ hn3 λx' hx' v hv=>by
      rw [hy] at hx';cases hx';exact tr v hv
  ·have:k=nb:=by lia
   subst this;exact ZC T R h' h1 ⟨e,by lia⟩ hn' λx' hx' v hv=>by
    rw [hy] at hx';cases hx';exact tr v hv
theorem ZcX (W:WO b)(L:Ue M A E s kd b good)(T:Two b good a c){mg ac bc n:Nat}(R:∀st',SameG st st'->Zbd b a c n st' Q)(hs:kindOf st=kd)(h:MH b a c na (nb+1) out)(h1:0<na/\na<=a.size)(h2:0<nb/\nb+1<=c.size)(hn:n<=out.size) :
  wpS M A E s (mhB a c mg ac bc na (nb+1) out) Q st:=by
 unfold mhB;refine wpS_bind (Of λst1 sg=>?_);have R:=R st1 sg;have hs1:kindOf st1=kd:=sg.1.trans hs;dsimp only [Nat.add_sub_cancel];obtain ⟨x,hx,gx⟩:=T.ct (i:=nb) (by lia);refine wpS_bind (GD hx ?_);have G:Gal b good false x a 0 na:=U7 W gx (λi hi=>by rw [Nat.zero_add];exact T.at (by lia)) (ZA W h.sa);refine wpS_bind (Jv L G hs1 (by lia) λk hk k1 k2=>?_);dsimp only;have tk:∀z∈(a.extract k na).toList,∀v∈c.toList.take (nb+1),kle b v z:=λz hz v hv=>by
  obtain ⟨i,hi,hj,ez⟩:=Xe hz;have:=k2 i hi hj;unfold byd at this;rw [Nat.zero_add,ez] at this;dsimp only at this;rw [if_neg Bool.false_ne_true,Bool.not_eq_false'] at this;exact W.le_trans (Vz W h.sb hx v hv) (W.le_of_lt this)
 have tr:∀v∈a.toList.take k,kle b v x:=λv hv=>by
  obtain ⟨i,hi,ev⟩:=taken hv;have:=k1 i hi;unfold byd at this;rw [Nat.zero_add,ev] at this;dsimp only at this;rw [if_neg Bool.false_ne_true,Bool.not_eq_true'] at this;exact this
 split
 ·have h3:=h.takeA hk tk;have hn3:n<=(out++(a.extract k na).reverse).size:=by rw [Array.size_append];lia
  split
  ·rename_i e2;exact wpS_pure (R.fin _ _ _ (SameG.refl _) (h3.done (.inl (eq_of_beq e2))))
  ·rename_i e2;have:k≠0:=λz=>e2 (beq_iff_eq.mpr z);obtain ⟨k,rfl⟩:∃n,k=n+1:=⟨k-1,by lia⟩;exact ZD W L T R hs1 h3 (by lia) h2 hn3 λx' hx' v hv=>by
    rw [hx] at hx';cases hx';exact tr v hv
 ·have:k=na:=by lia
  subst this;obtain ⟨k,rfl⟩:∃n,k=n+1:=⟨k-1,by lia⟩;exact ZD W L T R hs1 h (by lia) h2 hn λx' hx' v hv=>by
   rw [hx] at hx';cases hx';exact tr v hv
end
theorem ZE (W:WO b)(L:Ue M A E s kd b good)(T:Two b good a c){out:Array Keyed}{na nb n:Nat}{y:Nat×Nat×Nat}{st:SortSt}(hs:kindOf st=kd)(h:MH b a c na nb out)(h1:0<na/\na<=a.size)(h2:1<nb/\nb<=c.size){Q:MHt->SortSt->Prop}(q1:∀r y st',SameG st st'->Jr b (a.toList++c.toList) r.toList->Q (some r,y) st')(q2:∀na' nb' out' y st',SameG st st'->MH b a c na' nb' out'->(0<na'/\na'<=a.size)->(1<nb'/\nb'<=c.size)->out.size<=out'.size->Q (none,na',nb',out',y) st') :
  wpS M A E s (forIn [:n] ((none,na,nb,out,y):MHt) (Zbb a c)) Q st:=by
 refine wpS_forRange (λk r st'=>SameG st st'/\∃na' nb' out' y,r=(none,na',nb',out',y)/\MH b a c na' nb' out'/\(0<na'/\na'<=a.size)/\(1<nb'/\nb'<=c.size)/\out.size<=out'.size) ?_ ?_ ⟨SameG.refl _,_,_,_,_,rfl,h,h1,h2,Nat.le_refl _⟩
 ·rintro k r st1 _ hk ⟨sg,na',nb',out',y,rfl,h,h1,h2,h3⟩;have hs1:kindOf st1=kd:=sg.1.trans hs;have R:∀st',SameG st1 st'->Zbd b a c out.size st' (λr st'=>match r with
   | .done c'=>Q c' st'
   | .yield c'=>SameG st st'/\∃na' nb' out' y,c'=(none,na',nb',out',y)/\MH b a c na' nb' out'/\(0<na'/\na'<=a.size)/\(1<nb'/\nb'<=c.size)/\out.size<=out'.size):=λst' sg'=>
   ⟨λr y st2 g m=>q1 r y st2 ((sg.trans sg').trans g) m,λo i j y st2 g m p1 p2 p3=>q2 o i j y st2 ((sg.trans sg').trans g) m p1 p2 p3,λo i j y st2 g m p1 p2 p3=>⟨(sg.trans sg').trans g,o,i,j,y,rfl,m,p1,p2,p3⟩⟩
  unfold Zbb;dsimp only;obtain ⟨nb',rfl⟩:∃n,nb'=n+1:=⟨nb' - 1,by lia⟩;have mono:∀mg,wpS M A E s (mhB a c mg y.2.1 y.2.2 na' (nb'+1) out') _ st1:=λmg=>ZcX W L T R hs1 h h1 ⟨by lia,h2.2⟩ h3;split
  ·exact wpS_mono (mono _) λr st' hr=>by cases r <;> exact hr
  ·exact wpS_mono (mono _) λr st' hr=>by cases r <;> exact hr
 ·rintro r st1 ⟨sg,na',nb',out',y,rfl,h,h1,h2,h3⟩;exact q2 _ _ _ _ _ sg h h1 h2 h3
theorem Xf (W:WO b)(L:Ue M A E s kd b good)(T:Two b good a c){st:SortSt}(hs:kindOf st=kd){Q:Array Keyed->SortSt->Prop}(q:∀r st',SameG st st'->Jr b (a.toList++c.toList) r.toList->Q r st'):wpS M A E s (Vv a c) Q st:=by
 rw [Xd];refine wpS_bind (wpS_lift (wpAny_rule ⟨rfl,?_⟩));have hc:=T.nc;have ha:=T.na;obtain ⟨x,hx,gx⟩:=T.at (i:=a.size-1) (by lia);refine wpS_bind (GD hx ?_);have h0:MH b a c (a.size-1) c.size #[x]:=by
  have z:MH b a c (a.size-1+1) c.size #[]:=by
   unfold MH;rw [Nat.sub_add_cancel (by lia),List.take_of_length_le (by simp),List.take_of_length_le (by simp)];exact ⟨by simp,by simp,by simp,T.sa,T.sc⟩
  exact z.pushA hx λy hy=>T.last x hx y (List.mem_of_mem_take hy)
 dsimp only;split
 ·rename_i e;exact wpS_pure (q _ _ (SameG.refl _) (h0.done (.inl (eq_of_beq e))))
 ·rename_i e;have e:0<a.size-1:=by
   have:a.size-1≠0:=λz=>e (beq_iff_eq.mpr z)
   lia
  split
  ·rename_i e2;exact wpS_pure (q _ _ (SameG.refl _) (h0.first T (eq_of_beq e2)))
  ·rename_i e2;have e2:1<c.size:=by
    have:c.size≠1:=λz=>e2 (beq_iff_eq.mpr z)
    lia
   refine wpS_bind (wpS_get ?_);refine wpS_bind (wpS_forRange (λk r st'=>SameG st st'/\∃na' nb' out' mg,r=(none,na',nb',out',mg)/\MH b a c na' nb' out'/\(0<na'/\na'<=a.size)/\(1<nb'/\nb'<=c.size)/\k<out'.size) ?_ ?_ ⟨SameG.refl _,_,_,_,_,rfl,h0,⟨e,by lia⟩,⟨e2,Nat.le_refl _⟩,by simp⟩)
   ·rintro k r st1 _ hk ⟨sg,na',nb',out',mg,rfl,h,h1,h2,h3⟩;have hs1:kindOf st1=kd:=sg.1.trans hs;unfold Zbc;dsimp only;refine wpS_bind (ZB W L T hs1 h h1 h2 (λr y st2 g m=>?_) (λo i j ac bc st2 g m p1 p2 p3=>?_))
    ·refine wpS_pure ?_;dsimp only;exact wpS_pure (q r st2 (sg.trans g) m)
    ·dsimp only;refine wpS_bind (wpS_lift (wpAny_rule ⟨rfl,?_⟩));refine wpS_bind (ZE W L T (g.1.trans hs1) m p1 p2 (λr y st3 g3 m3=>?_) (λo3 i3 j3 y3 st3 g3 m3 r1 r2 r3=>?_))
     ·refine wpS_pure ?_;dsimp only;exact wpS_pure (q r st3 ((sg.trans g).trans g3) m3)
     ·dsimp only;refine wpS_bind (Of λst4 g4=>?_);exact wpS_pure ⟨((sg.trans g).trans g3).trans g4,_,_,_,_,rfl,m3,r1,r2,by lia⟩
   ·rintro r st1 ⟨sg,na',nb',out',mg,rfl,h,h1,h2,h3⟩;exfalso;have:=MrgH.len h;rw [List.length_append,List.length_take,List.length_take,List.length_reverse,Array.length_toList,Array.length_toList,Array.length_toList] at this;simp at h3
    lia
end
end L2
namespace L2
open PySem PySem.Spec PyProof.Rows
abbrev Asc:=Option (Option Nat)×Nat
abbrev Dsc:=Option (Option Nat)×Nat×Nat
def ZcY (lo:Nat):Nat->Asc->StateT SortSt Sem (ForInStep Asc):=λ_ r=>do
 match <- ltAt' (lo+r.2) (lo+r.2-1) with
 | some smaller=>if smaller=true then pure (.done (none,r.2)) else pure (.yield (none,r.2+1))
 | _=>pure (.done (some none,r.2))
def Zfc (lo:Nat):Nat->Dsc->StateT SortSt Sem (ForInStep Dsc):=λ_ r=>do
 match <- ltAt' (lo+r.2.1) (lo+r.2.1-1) with
 | some smaller=>
  if smaller=true then
   if r.2.2 > 0 then do
    reverseSlice' (lo+r.2.1-(r.2.2+1)) (lo+r.2.1)
    pure (.yield (none,r.2.1+1,0))
   else pure (.yield (none,r.2.1+1,0))
  else do
   match <- ltAt' (lo+r.2.1-1) (lo+r.2.1) with
   | some larger=>if larger=true then pure (.done (none,r.2.1,r.2.2)) else pure (.yield (none,r.2.1+1,r.2.2+1))
   | _=>pure (.done (some none,r.2.1,r.2.2))
 | _=>pure (.done (some none,r.2.1,r.2.2))
def Wo (lo n qW:Nat):StateT SortSt Sem (Option Nat):=do
 reverseSlice' lo (lo+n)
 let r <- forIn [n:qW] ((none,n):Asc) (ZcY lo)
 match r.1 with
 | some x=>pure x
 | none=>pure (some r.2)
def Yx (lo n qW:Nat):StateT SortSt Sem (Option Nat):=do
 liftM (rule "list.sort.descending-run")
 let r <- forIn [n+1:qW] ((none,n+1,0):Dsc) (Zfc lo)
 match r.1 with
 | some x=>pure x
 | none=>(if r.2.2 > 0 then (do
   reverseSlice' (lo+r.2.1-(r.2.2+1)) (lo+r.2.1)
   Wo lo r.2.1 qW) else Wo lo r.2.1 qW)
theorem Xg (lo qW:Nat):countRun' lo qW=(do
  let r <- forIn [1:qW] ((none,1):Asc) (ZcY lo)
  match r.1 with
  | some x=>pure x
  | none=>(if (r.2 == qW)=true then pure (some r.2) else (if r.2 > 1 then (do
    match <- ltAt' lo (lo+r.2-1) with
    | some rose=>(if rose=true then pure (some r.2) else (do
      reverseSlice' lo (lo+r.2)
      Yx lo r.2 qW))
    | _=>pure none)
   else Yx lo r.2 qW))):=by
 rw [countRun'_eq];refine (congrArg (λm:StateT SortSt Sem Asc=>m >>= _) (UF (r:=[1:qW]) (c:=((none,1):Asc)) (g:=ZcY lo) λi r=>rfl)).trans ?_;refine Jj λr=>?_;obtain ⟨r1,r2⟩:=r;cases r1 with
 | some z=>rfl
 | none=>
  refine Vx (c:=(r2 == qW)=true) rfl ?_;refine Vx (c:=r2 > 1) ?_ ?_
  ·refine Jj λz=>?_;cases z with
   | none=>rfl
   | some z=>
    refine Vx (c:=z=true) rfl ?_;refine Jj λ_=>?_;unfold Yx;refine Jj λ_=>?_;refine (congrArg (λm:StateT SortSt Sem Dsc=>m >>= _) (UF (r:=[r2+1:qW]) (c:=((none,r2+1,0):Dsc)) (g:=Zfc lo) λi r=>rfl)).trans ?_;refine Jj λr=>?_;obtain ⟨r1,r2,r3⟩:=r;cases r1 with
    | some z=>rfl
    | none=>
     refine Vx (c:=r3 > 0) (Jj λ_=>?_) ?_
     all_goals
      unfold Wo;refine Jj λ_=>?_;refine (congrArg (λm:StateT SortSt Sem Asc=>m >>= _) (UF (r:=[r2:qW]) (c:=((none,r2):Asc)) (g:=ZcY lo) λi r=>rfl)).trans ?_;refine Jj λr=>?_;obtain ⟨r1,r2⟩:=r;cases r1 <;> rfl
  ·unfold Yx;refine Jj λ_=>?_;refine (congrArg (λm:StateT SortSt Sem Dsc=>m >>= _) (UF (r:=[r2+1:qW]) (c:=((none,r2+1,0):Dsc)) (g:=Zfc lo) λi r=>rfl)).trans ?_;refine Jj λr=>?_;obtain ⟨r1,r2,r3⟩:=r;cases r1 with
   | some z=>rfl
   | none=>
    refine Vx (c:=r3 > 0) (Jj λ_=>?_) ?_
    all_goals
     unfold Wo;refine Jj λ_=>?_;refine (congrArg (λm:StateT SortSt Sem Asc=>m >>= _) (UF (r:=[r2:qW]) (c:=((none,r2):Asc)) (g:=ZcY lo) λi r=>rfl)).trans ?_;refine Jj λr=>?_;obtain ⟨r1,r2⟩:=r;cases r1 <;> rfl
end L2
namespace L2
open PySem PySem.Spec PyProof.Rows
structure Ah (lo:Nat)(st st':SortSt):Prop where
 kd:kindOf st'=kindOf st
 pe:pendingOf st'=pendingOf st
 fa:failedOf st'=failedOf st
 pm:(arrOf st').Perm (arrOf st)
 lw:∀i,i<lo->(arrOf st')[i]?=(arrOf st)[i]?
theorem Ah.refl (lo:Nat)(st:SortSt):Ah lo st st:=⟨rfl,rfl,rfl,.refl _,λ_ _=>rfl⟩
theorem Ah.trans {lo:Nat}{st st' st'':SortSt}(h:Ah lo st st')(k:Ah lo st' st''):Ah lo st st'':=
 ⟨k.kd.trans h.kd,k.pe.trans h.pe,k.fa.trans h.fa,k.pm.trans h.pm,λi hi=>(k.lw i hi).trans (h.lw i hi)⟩
theorem Ah.size {lo:Nat}{st st':SortSt}(h:Ah lo st st'):(arrOf st').size=(arrOf st).size:=h.pm.size_eq
def AllG (good:Keyed->Prop)(arr:Array Keyed):Prop:=∀x∈arr.toList,good x
theorem AllG.perm {good:Keyed->Prop}{a c:Array Keyed}(h:AllG good a)(p:c.Perm a):AllG good c:=λx hx=>h x (p.toList.mem_iff.mp hx)
theorem AllG.at {good:Keyed->Prop}{a:Array Keyed}(h:AllG good a){i:Nat}(hi:i<a.size):∃x,a[i]?=some x/\good x:=⟨a[i],by simp [hi],h _ (by simp)⟩
def ZaD (b:Keyed->Keyed->Bool)(arr:Array Keyed)(lo hi:Nat):Prop:=∀i j x y,lo<=i->i<=j->j<hi->arr[i]?=some x->arr[j]?=some y->kle b y x
section
variable {M:Model}{A:Around}{E:Value->Shared->Prop}{s:Shared}{kd:SortKind}{b:Keyed->Keyed->Bool}{good:Keyed->Prop}
theorem OF {st:SortSt}{i j:Nat}{Q:Option Bool->SortSt->Prop}(L:Ue M A E s kd b good)(hs:kindOf st=kd)(G:AllG good (arrOf st))(hi:i<(arrOf st).size)(hj:j<(arrOf st).size)(q:∀x y,(arrOf st)[i]?=some x->(arrOf st)[j]?=some y->Q (some (b x y)) st):wpS M A E s (ltAt' i j) Q st:=by
 obtain ⟨x,hx,gx⟩:=G.at hi;obtain ⟨y,hy,gy⟩:=G.at hj;rw [ltAt'_eq];refine wpS_bind (wpS_get ?_);exact wpS_bind (GD hx (wpS_bind (GD hy (L x y st Q gx gy hs (q x y hx hy)))))
theorem ZcZ (arr:Array Keyed)(W:WO b)(lo:Nat):Rng b arr lo (lo+1):=λi j x y h1 h2 h3 e1 e2=>by
 have:i=j:=by lia
 subst this;rw [e1] at e2;cases e2;exact W.le_refl _
theorem Zbe {arr:Array Keyed}(W:WO b){lo n:Nat}{x y:Keyed}(h:Rng b arr lo (lo+n))(hn:0<n)(hx:arr[lo+n-1]?=some x)(hy:arr[lo+n]?=some y)(hxy:kle b x y):Rng b arr lo (lo+n+1):=λi j u v h1 h2 h3 e1 e2=>by
 by_cases hj:j<lo+n
 ·exact h i j u v h1 h2 hj e1 e2
 ·have:j=lo+n:=by lia
  subst this;rw [hy] at e2;cases e2;by_cases hi:i=lo+n
  ·subst hi;rw [hy] at e1;cases e1;exact W.le_refl _
  ·exact W.le_trans (h i (lo+n-1) u x h1 (by lia) (by lia) e1 hx) hxy
theorem J3 {arr:Array Keyed}(W:WO b){lo n:Nat}{x y:Keyed}(h:ZaD b arr lo (lo+n))(hn:0<n)(hx:arr[lo+n-1]?=some x)(hy:arr[lo+n]?=some y)(hxy:kle b y x):ZaD b arr lo (lo+n+1):=λi j u v h1 h2 h3 e1 e2=>by
 by_cases hj:j<lo+n
 ·exact h i j u v h1 h2 hj e1 e2
 ·have:j=lo+n:=by lia
  subst this;rw [hy] at e2;cases e2;by_cases hi:i=lo+n
  ·subst hi;rw [hy] at e1;cases e1;exact W.le_refl _
  ·exact W.le_trans hxy (h i (lo+n-1) u x h1 (by lia) (by lia) e1 hx)
theorem ZG (W:WO b)(L:Ue M A E s kd b good){st:SortSt}{lo a qW:Nat}{Q:Asc->SortSt->Prop}(hs:kindOf st=kd)(G:AllG good (arrOf st))(hn:lo+qW<=(arrOf st).size)(h1:1<=a)(h2:a<=qW)(h3:Rng b (arrOf st) lo (lo+a))(q:∀n,a<=n->n<=qW->Rng b (arrOf st) lo (lo+n)->(n=qW\/∃x y,(arrOf st)[lo+n-1]?=some x/\(arrOf st)[lo+n]?=some y/\b y x=true)->Q (none,n) st):wpS M A E s (forIn [a:qW] ((none,a):Asc) (ZcY lo)) Q st:=by
 refine wpS_forRange (λk r st'=>st'=st/\r=(none,k)/\a<=k/\k<=qW/\Rng b (arrOf st) lo (lo+k)) ?_ ?_ ⟨rfl,rfl,Nat.le_refl _,h2,h3⟩
 ·rintro k r st' _ hk ⟨rfl,rfl,h4,h5,h6⟩;unfold ZcY;refine wpS_bind (OF L hs G (by show lo+k<_;lia) (by show lo+k-1<_;lia) λy x hy hx=>?_);dsimp only;split
  ·rename_i hb;exact wpS_pure (q k h4 h5 h6 (.inr ⟨x,y,hx,hy,hb⟩))
  ·rename_i hb;exact wpS_pure ⟨rfl,rfl,by lia,by lia,Zbe W h6 (by lia) hx hy (Bool.eq_false_iff.mpr hb)⟩
 ·rintro r st' ⟨rfl,rfl,h4,h5,h6⟩;rw [Nat.max_eq_right h2] at h6 ⊢;exact q qW h2 (Nat.le_refl _) h6 (.inl rfl)
def ZH (b:Keyed->Keyed->Bool)(arr:Array Keyed)(lo hi:Nat):Prop:=∀i j x y,lo<=i->i<hi->lo<=j->j<hi->arr[i]?=some x->arr[j]?=some y->kle b x y
theorem OG {st:SortSt}{lo i j:Nat}(h:lo<=i)(hj:j<=(arrOf st).size):Ah lo st (setArr st (mirror (arrOf st) i j ((j-i) / 2))):=by
 refine ⟨rfl,rfl,rfl,mirror_perm _ _ _ _,λk hk=>?_⟩;show (mirror (arrOf st) i j ((j-i) / 2))[k]?=_;rw [getElem?_mirror_all hj,if_neg (by lia)]
theorem Yy {arr:Array Keyed}{lo hi:Nat}(hj:hi<=arr.size)(h:ZaD b arr lo hi):Rng b (mirror arr lo hi ((hi-lo) / 2)) lo hi:=λi j x y h1 h2 h3 e1 e2=>by
 rw [getElem?_mirror_all hj,if_pos (by lia)] at e1 e2;exact h (lo+hi-1-j) (lo+hi-1-i) y x (by lia) (by lia) (by lia) e2 e1
theorem Ox {arr:Array Keyed}{lo hi i j:Nat}(hj:j<=arr.size)(h1:lo<=i)(h2:i<=j)(h3:j<=hi)(hA:ZH b arr i j)(h:ZaD b arr lo hi):ZaD b (mirror arr i j ((j-i) / 2)) lo hi:=λp q x y k1 k2 k3 e1 e2=>by
 rw [getElem?_mirror_all hj] at e1 e2;by_cases hp:i<=p/\p<j
 ·rw [if_pos hp] at e1;by_cases hq:i<=q/\q<j
  ·rw [if_pos hq] at e2;exact hA (i+j-1-q) (i+j-1-p) y x (by lia) (by lia) (by lia) (by lia) e2 e1
  ·rw [if_neg hq] at e2;exact h _ q x y (by lia) (by lia) k3 e1 e2
 ·rw [if_neg hp] at e1;by_cases hq:i<=q/\q<j
  ·rw [if_pos hq] at e2;exact h p _ x y k1 (by lia) (by lia) e1 e2
  ·rw [if_neg hq] at e2;exact h p q x y k1 k2 k3 e1 e2
def ZfD (b:Keyed->Keyed->Bool)(lo qW:Nat)(st:SortSt)(Q:Option Nat->SortSt->Prop):Prop:=∀m st',Ah lo st st'->1<=m->m<=qW->Rng b (arrOf st') lo (lo+m)->Q (some m) st'
theorem Wp (W:WO b)(L:Ue M A E s kd b good){st:SortSt}{lo n qW:Nat}{Q:Option Nat->SortSt->Prop}(hs:kindOf st=kd)(G:AllG good (arrOf st))(hn:lo+qW<=(arrOf st).size)(h1:1<=n)(h2:n<=qW)(h3:ZaD b (arrOf st) lo (lo+n))(q:ZfD b lo qW st Q):wpS M A E s (Wo lo n qW) Q st:=by
 unfold Wo;rw [reverseSlice'_eq];refine wpS_bind (wpS_modify ?_);have ah:=OG (st:=st) (lo:=lo) (i:=lo) (j:=lo+n) (Nat.le_refl _) (by lia);have r:=Yy (arr:=arrOf st) (lo:=lo) (hi:=lo+n) (by lia) h3;generalize hst:setArr st (mirror (arrOf st) lo (lo+n) ((lo+n-lo) / 2))=st1 at ah;have e1:arrOf st1=mirror (arrOf st) lo (lo+n) ((lo+n-lo) / 2):=by rw [<-hst]
 rw [<-e1] at r;refine wpS_bind (ZG W L (ah.kd.trans hs) (G.perm ah.pm) (by rw [ah.size];exact hn) h1 h2 r λm k1 k2 k3 _=>?_);dsimp only;exact wpS_pure (q m st1 ah (by lia) k2 k3)
theorem Wq (W:WO b)(L:Ue M A E s kd b good){st:SortSt}{lo n qW:Nat}{Q:Option Nat->SortSt->Prop}(hs:kindOf st=kd)(G:AllG good (arrOf st))(hn:lo+qW<=(arrOf st).size)(h2:n+1<=qW)(h3:ZaD b (arrOf st) lo (lo+(n+1)))(q:ZfD b lo qW st Q):wpS M A E s (Yx lo n qW) Q st:=by
 unfold Yx;refine wpS_bind (wpS_lift (wpAny_rule ⟨rfl,?_⟩));have fin:∀m neq st1,Ah lo st st1->n+1<=m->m<=qW->ZaD b (arrOf st1) lo (lo+m)->neq+1<=m->ZH b (arrOf st1) (lo+m-(neq+1)) (lo+m) ->
   wpS M A E s (if neq > 0 then (do reverseSlice' (lo+m-(neq+1)) (lo+m);Wo lo m qW) else Wo lo m qW) Q st1:=by
  intro m neq st1 ah k1 k2 k3 k4 k5;have G1:=G.perm ah.pm;have hn1:lo+qW<=(arrOf st1).size:=by rw [ah.size];exact hn
  split
  ·rw [reverseSlice'_eq];refine wpS_bind (wpS_modify ?_);have ah2:=OG (st:=st1) (lo:=lo) (i:=lo+m-(neq+1)) (j:=lo+m) (by lia) (by lia);have r:=Ox (arr:=arrOf st1) (lo:=lo) (hi:=lo+m) (i:=lo+m-(neq+1)) (j:=lo+m) (by lia) (by lia) (by lia) (Nat.le_refl _) k5 k3;generalize hst:setArr st1 (mirror (arrOf st1) (lo+m-(neq+1)) (lo+m) ((lo+m-(lo+m-(neq+1))) / 2))=st2 at ah2;have e1:arrOf st2=mirror (arrOf st1) (lo+m-(neq+1)) (lo+m) ((lo+m-(lo+m-(neq+1))) / 2):=by rw [<-hst]
   rw [<-e1] at r;have ah3:=ah.trans ah2;exact Wp W L (ah3.kd.trans hs) (G.perm ah3.pm) (by rw [ah3.size];exact hn) (by lia) k2 r λm' st' a'=>q m' st' (ah3.trans a')
  ·exact Wp W L (ah.kd.trans hs) G1 hn1 (by lia) k2 k3 λm' st' a'=>q m' st' (ah.trans a')
 have al0:∀(arr:Array Keyed) m,ZH b arr (lo+m-(0+1)) (lo+m):=λarr m i j x y i1 i2 i3 i4 e1 e2=>by
  have:i=j:=by lia
  subst this;rw [e1] at e2;cases e2;exact W.le_refl _
 refine wpS_bind (wpS_forRange (λk r st1=>Ah lo st st1/\∃neq,r=(none,k,neq)/\n+1<=k/\k<=qW/\ZaD b (arrOf st1) lo (lo+k)/\neq+1<=k/\ZH b (arrOf st1) (lo+k-(neq+1)) (lo+k)) ?_ ?_ ⟨Ah.refl _ _,0,rfl,Nat.le_refl _,h2,h3,by lia,al0 _ _⟩)
 ·rintro k r st1 _ hk ⟨ah,neq,rfl,k1,k2,k3,k4,k5⟩;have G1:=G.perm ah.pm;have hn1:lo+qW<=(arrOf st1).size:=by rw [ah.size];exact hn
  have hs1:=ah.kd.trans hs;unfold Zfc;refine wpS_bind (OF L hs1 G1 (by show lo+k<_;lia) (by show lo+k-1<_;lia) λy x hy hx=>?_);dsimp only;split
  ·rename_i hb;have hyx:=W.le_of_lt hb;split
   ·rw [reverseSlice'_eq];refine wpS_bind (wpS_modify ?_);have ah2:=OG (st:=st1) (lo:=lo) (i:=lo+k-(neq+1)) (j:=lo+k) (by lia) (by lia);have r:=Ox (arr:=arrOf st1) (lo:=lo) (hi:=lo+k) (i:=lo+k-(neq+1)) (j:=lo+k) (by lia) (by lia) (by lia) (Nat.le_refl _) k5 k3;have e3:(mirror (arrOf st1) (lo+k-(neq+1)) (lo+k) ((lo+k-(lo+k-(neq+1))) / 2))[lo+k]?=some y:=by rw [getElem?_mirror_all (by lia),if_neg (by lia)];exact hy
    have e4:∃z,(mirror (arrOf st1) (lo+k-(neq+1)) (lo+k) ((lo+k-(lo+k-(neq+1))) / 2))[lo+k-1]?=some z/\kle b y z:=by
     obtain ⟨z,hz,_⟩:=G1.at (i:=lo+k-(neq+1)) (by lia);refine ⟨z,?_,W.le_trans hyx (k3 (lo+k-(neq+1)) (lo+k-1) z x (by lia) (by lia) (by lia) hz hx)⟩;rw [getElem?_mirror_all (by lia),if_pos (by lia),<-hz]
     congr 1
     lia
    generalize hst:setArr st1 (mirror (arrOf st1) (lo+k-(neq+1)) (lo+k) ((lo+k-(lo+k-(neq+1))) / 2))=st2 at ah2;have e1:arrOf st2=mirror (arrOf st1) (lo+k-(neq+1)) (lo+k) ((lo+k-(lo+k-(neq+1))) / 2):=by rw [<-hst]
    rw [<-e1] at r e3 e4;obtain ⟨z,hz,hyz⟩:=e4;exact wpS_pure ⟨ah.trans ah2,0,rfl,by lia,by lia,J3 W r (by lia) hz e3 hyz,by lia,al0 _ _⟩
   ·exact wpS_pure ⟨ah,0,rfl,by lia,by lia,J3 W k3 (by lia) hx hy hyx,by lia,al0 _ _⟩
  ·rename_i hb;have hxy:kle b x y:=Bool.eq_false_iff.mpr hb;refine wpS_bind (OF L hs1 G1 (by show lo+k-1<_;lia) (by show lo+k<_;lia) λx' y' hx' hy'=>?_);rw [hx] at hx';cases hx';rw [hy] at hy';cases hy';dsimp only;split
   ·refine wpS_pure ?_;dsimp only;exact fin k neq st1 ah k1 k2 k3 k4 k5
   ·rename_i hb2;have hyx:kle b y x:=Bool.eq_false_iff.mpr hb2;refine wpS_pure ⟨ah,neq+1,rfl,by lia,by lia,J3 W k3 (by lia) hx hy hyx,by lia,λi j u v i1 i2 i3 i4 e1 e2=>?_⟩;have toX:∀i u,lo+k-(neq+1)<=i->i<lo+(k+1)->(arrOf st1)[i]?=some u->kle b u x/\kle b x u:=λi u p1 p2 e=>by
     by_cases hi:i<lo+k
     ·exact ⟨k5 i (lo+k-1) u x p1 hi (by lia) (by lia) e hx,k5 (lo+k-1) i x u (by lia) (by lia) p1 hi hx e⟩
     ·have:i=lo+k:=by lia
      subst this;rw [hy] at e;cases e;exact ⟨hyx,hxy⟩
    exact W.le_trans (toX i u (by lia) i2 e1).1 (toX j v (by lia) i4 e2).2
 ·rintro r st1 ⟨ah,neq,rfl,k1,k2,k3,k4,k5⟩;dsimp only;rw [Nat.max_eq_right h2] at *;exact fin qW neq st1 ah k1 k2 k3 k4 k5
theorem VA (W:WO b)(L:Ue M A E s kd b good){st:SortSt}{lo qW:Nat}{Q:Option Nat->SortSt->Prop}(hs:kindOf st=kd)(G:AllG good (arrOf st))(hn:lo+qW<=(arrOf st).size)(h1:1<=qW)(q:ZfD b lo qW st Q):wpS M A E s (countRun' lo qW) Q st:=by
 rw [Xg];refine wpS_bind (ZG W L hs G hn (Nat.le_refl _) h1 (ZcZ _ W _) λn k1 k2 k3 k4=>?_);dsimp only;split
 ·exact wpS_pure (q n st (Ah.refl _ _) k1 k2 k3)
 ·rename_i e;have e:n≠qW:=λz=>e (beq_iff_eq.mpr z);obtain ⟨x,y,hx,hy,hb⟩:=k4.resolve_left e;have hyx:=W.le_of_lt hb;split
  ·rename_i e1;refine wpS_bind (OF L hs G (by lia) (by lia) λu v hu hv=>?_);rw [hx] at hv;cases hv;dsimp only;split
   ·exact wpS_pure (q n st (Ah.refl _ _) k1 k2 k3)
   ·rename_i hb2;have hxu:kle b x u:=Bool.eq_false_iff.mpr hb2;have al:ZH b (arrOf st) lo (lo+n):=λi j p r i1 i2 i3 i4 e1 e2=>
     W.le_trans (k3 i (lo+n-1) p x i1 (by lia) (by lia) e1 hx) (W.le_trans hxu (k3 lo j u r (Nat.le_refl _) i3 i4 hu e2))
    have ni:ZaD b (arrOf st) lo (lo+n):=λi j p r i1 i2 i3 e1 e2=>al j i r p (by lia) i3 i1 (by lia) e2 e1;rw [reverseSlice'_eq];refine wpS_bind (wpS_modify ?_);have ah:=OG (st:=st) (lo:=lo) (i:=lo) (j:=lo+n) (Nat.le_refl _) (by lia);have r:=Ox (arr:=arrOf st) (lo:=lo) (hi:=lo+n) (i:=lo) (j:=lo+n) (by lia) (Nat.le_refl _) (by lia) (Nat.le_refl _) al ni;have e3:(mirror (arrOf st) lo (lo+n) ((lo+n-lo) / 2))[lo+n]?=some y:=by rw [getElem?_mirror_all (by lia),if_neg (by lia)];exact hy
    have e4:(mirror (arrOf st) lo (lo+n) ((lo+n-lo) / 2))[lo+n-1]?=some u:=by
     rw [getElem?_mirror_all (by lia),if_pos (by lia),<-hu]
     congr 1
     lia
    generalize hst:setArr st (mirror (arrOf st) lo (lo+n) ((lo+n-lo) / 2))=st2 at ah;have e1:arrOf st2=mirror (arrOf st) lo (lo+n) ((lo+n-lo) / 2):=by rw [<-hst]
    rw [<-e1] at r e3 e4;exact Wq W L (ah.kd.trans hs) (G.perm ah.pm) (by rw [ah.size];exact hn) (by lia) (J3 W r (by lia) e4 e3 (W.le_trans hyx hxu)) λm' st' a'=>q m' st' (ah.trans a')
  ·have:n=1:=by lia
   subst this;refine Wq W L hs G hn (by lia) (J3 W (λi j p r i1 i2 i3 e1 e2=>?_) (by lia) hx hy hyx) q;have:i=j:=by lia
   subst this;rw [e1] at e2;cases e2;exact W.le_refl _
end
end L2
namespace L2
open PySem PySem.Spec PyProof.Rows
section
variable {M:Model}{A:Around}{E:Value->Shared->Prop}{s:Shared}{kd:SortKind}{b:Keyed->Keyed->Bool}{good:Keyed->Prop}
theorem Yz (W:WO b){arr:Array Keyed}{lo k l:Nat}{p:Keyed}(hk:lo+k<arr.size)(hl:l<=k)(h:Rng b arr lo (lo+k))(hp:arr[lo+k]?=some p)(h1:∀i x,i<l->arr[lo+i]?=some x->kle b x p)(h2:∀i x,l<=i->i<k->arr[lo+i]?=some x->kle b p x) :
  Rng b (bubble arr (lo+k) (lo+k-(lo+l))) lo (lo+(k+1)):=by
 have e0:lo+k-(lo+k-(lo+l))=lo+l:=by lia
 have at_:∀q,(bubble arr (lo+k) (lo+k-(lo+l)))[q]?=if q=lo+l then some p else if lo+l<q/\q<=lo+k then arr[q-1]? else arr[q]?:=λq=>by
  rw [getElem?_bubble hk _ (by lia),e0,hp]
 intro i j x y i1 i2 i3 e1 e2;rw [at_] at e1 e2;have low:∀q z,lo<=q->q<lo+l->arr[q]?=some z->kle b z p:=λq z q1 q2 e=>h1 (q-lo) z (by lia) (by rw [Nat.add_sub_cancel' q1];exact e);have high:∀q z,lo+l<=q->q<lo+k->arr[q]?=some z->kle b p z:=λq z q1 q2 e=>h2 (q-lo) z (by lia) (by lia) (by rw [Nat.add_sub_cancel' (by lia)];exact e);by_cases ci:i=lo+l
 ·rw [if_pos ci] at e1;cases e1;by_cases cj:j=lo+l
  ·rw [if_pos cj] at e2;cases e2;exact W.le_refl _
  ·rw [if_neg cj,if_pos (by lia)] at e2;exact high (j-1) y (by lia) (by lia) e2
 ·rw [if_neg ci] at e1;by_cases di:lo+l<i/\i<=lo+k
  ·rw [if_pos di] at e1;rw [if_neg (by lia),if_pos (by lia)] at e2;exact h (i-1) (j-1) x y (by lia) (by lia) (by lia) e1 e2
  ·rw [if_neg di] at e1;by_cases cj:j=lo+l
   ·rw [if_pos cj] at e2;cases e2;exact low i x i1 (by lia) e1
   ·rw [if_neg cj] at e2;by_cases dj:lo+l<j/\j<=lo+k
    ·rw [if_pos dj] at e2;exact h i (j-1) x y i1 (by lia) (by lia) e1 e2
    ·rw [if_neg dj] at e2;exact h i j x y i1 i2 (by lia) e1 e2
theorem ZI {st:SortSt}{lo src d:Nat}(h1:src<(arrOf st).size)(h2:d<=src)(h3:lo<=src-d):Ah lo st (setArr st (bubble (arrOf st) src d)):=by
 refine ⟨rfl,rfl,rfl,bubble_perm _ _ _,λk hk=>?_⟩;show (bubble (arrOf st) src d)[k]?=_;rw [getElem?_bubble h1 _ h2,if_neg (by lia),if_neg (by lia)]
theorem YA (W:WO b)(L:Ue M A E s kd b good){st:SortSt}{lo n ok:Nat}{Q:Bool->SortSt->Prop}(hs:kindOf st=kd)(G:AllG good (arrOf st))(hn:lo+n<=(arrOf st).size)(h1:1<=ok)(h2:ok<=n)(h3:Rng b (arrOf st) lo (lo+ok))(q:∀st',Ah lo st st'->Rng b (arrOf st') lo (lo+n)->Q true st'):wpS M A E s (binarySort' lo n ok) Q st:=by
 rw [binarySort'_eq,Nat.max_eq_left h1];refine wpS_bind (wpS_forRange (λk r st1=>Ah lo st st1/\r=(none,())/\ok<=k/\k<=n/\Rng b (arrOf st1) lo (lo+k)) ?_ ?_ ⟨Ah.refl _ _,rfl,Nat.le_refl _,h2,h3⟩)
 ·rintro k r st1 _ hk ⟨ah,rfl,k1,k2,k3⟩;have G1:=G.perm ah.pm;have hn1:lo+n<=(arrOf st1).size:=by rw [ah.size];exact hn
  have hs1:=ah.kd.trans hs;obtain ⟨p,hp,gp⟩:=G1.at (i:=lo+k) (by lia);have fin:∀l,l<=k->(∀i x,i<l->(arrOf st1)[lo+i]?=some x->kle b x p)->(∀i x,l<=i->i<k->(arrOf st1)[lo+i]?=some x->kle b p x) ->
    wpS M A E s (do moveDown' (lo+k) (lo+l);pure (ForInStep.yield ((none,()):Option Bool×Unit))) (λr st'=>match r with
     | .done c'=>False
     | .yield c'=>Ah lo st st'/\c'=(none,())/\ok<=k+1/\k+1<=n/\Rng b (arrOf st') lo (lo+(k+1))) st1:=by
   intro l hl g1 g2;rw [moveDown'_eq];refine wpS_bind (wpS_modify ?_);have ah2:=ZI (st:=st1) (lo:=lo) (src:=lo+k) (d:=lo+k-(lo+l)) (by lia) (by lia) (by lia);exact wpS_pure ⟨ah.trans ah2,rfl,by lia,by lia,Yz W (by lia) hl k3 hp g1 g2⟩
  dsimp only;refine wpS_bind (wpS_forRange (λi c st'=>st'=st1/\∃l r,c=(none,l,r)/\l<=r/\r<=k/\r-l<=k-i/\(∀i x,i<l->(arrOf st1)[lo+i]?=some x->kle b x p)/\(∀i x,r<=i->i<k->(arrOf st1)[lo+i]?=some x->kle b p x)) ?_ ?_ ⟨rfl,0,k,rfl,by lia,by lia,by lia,λi x hi=>by lia,λi x h1 h2=>by lia⟩)
  ·rintro i c st' _ hi ⟨rfl,l,r,rfl,g1,g2,g3,g4,g5⟩;dsimp only;split
   ·have:l=r:=by lia
    subst this;refine wpS_pure ?_;dsimp only;exact wpS_mono (fin l g2 g4 g5) λr st' hr=>by
     cases r with
     | done z=>exact False.elim hr
     | yield z=>exact hr
   ·refine wpS_bind (OF L hs1 G1 (by lia) (by lia) λp' m hp' hm=>?_);rw [hp] at hp';cases hp';dsimp only;split
    ·rename_i hb;refine wpS_pure ⟨rfl,_,_,rfl,by lia,by lia,by lia,g4,λj x j1 j2 e=>?_⟩;exact W.le_trans (W.le_of_lt hb) (k3 _ (lo+j) m x (by lia) (by lia) (by lia) hm e)
    ·rename_i hb;refine wpS_pure ⟨rfl,_,_,rfl,by lia,by lia,by lia,λj x j1 e=>?_,g5⟩;exact W.le_trans (k3 (lo+j) _ x m (by lia) (by lia) (by lia) e hm) (Bool.eq_false_iff.mpr hb)
  ·rintro c st' ⟨rfl,l,r,rfl,g1,g2,g3,g4,g5⟩;have:l=r:=by simp at g3;lia
   subst this;dsimp only;exact wpS_mono (fin l g2 g4 g5) λr st' hr=>by
     cases r with
     | done z=>exact False.elim hr
     | yield z=>exact hr
 ·rintro r st1 ⟨ah,rfl,k1,k2,k3⟩;dsimp only;rw [Nat.max_eq_right h2] at k3;exact wpS_pure (q st1 ah k3)
end
end L2
namespace L2
open PySem PySem.Spec PyProof.Rows
def OH (arr:Array Keyed)(base:Nat)(l:List Keyed):Array Keyed:=List.foldl (λa (x:Keyed×Nat)=>a.setIfInBounds (base+x.2) x.1) arr l.zipIdx
def Zbf (sa:Nat)(merged:Array Keyed):StateT SortSt Sem Bool:=do
 modify λs=>setArr s (OH (arrOf s) sa merged.toList)
 let s <- get
 pure (failedOf s).isNone
def Zeo (st:SortSt)(sa na sb nb:Nat):StateT SortSt Sem Bool:=(if (nb == 0)=true then pure true else (if na<=nb then (do
  let m <- Vu ((arrOf st).extract sa sb) ((arrOf st).extract sb (sb+nb))
  Zbf sa m) else (do
  let m <- Vv ((arrOf st).extract sa sb) ((arrOf st).extract sb (sb+nb))
  Zbf sa m)))
def Zep (st:SortSt)(sa na sb nb:Nat):StateT SortSt Sem Bool:=(if (na == 0)=true then pure true else (do
  let y <- elem' (arrOf st) (sa+na-1)
  match <- J2 true y (arrOf st) sb nb (nb-1) with
  | some nb=>Zeo st sa na sb nb
  | _=>pure false))
theorem Xh (i:Nat):mergeAt' i=(do
  let st <- get
  match (pendingOf st)[i]?,(pendingOf st)[i+1]? with
  | some (sa,na,power),some (sb,nb,_)=>do
   set (setPending st (((pendingOf st).setIfInBounds i (sa,na+nb,power)).eraseIdxIfInBounds (i+1)))
   let x <- elem' (arrOf st) sb
   match <- J2 false x (arrOf st) sa na 0 with
   | some k=>Zep st (sa+k) (na-k) sb nb
   | _=>pure false
  | _,_=>liftM (unsupported "internal:list.sort.pending")):=by
 refine Jj (m:=get) λst=>?_;cases (pendingOf st)[i]? with
 | none=>rfl
 | some p=>
  cases (pendingOf st)[i+1]? with
  | none=>rfl
  | some q=>
   obtain ⟨sa,na,pw⟩:=p;obtain ⟨sb,nb,pw'⟩:=q
   rfl
end L2
namespace L2
open PySem PySem.Spec PyProof.Rows
theorem Zb3:∀(l:List Keyed)(arr:Array Keyed)(base n i:Nat),base+n+l.length<=arr.size ->
  (List.foldl (λa (x:Keyed×Nat)=>a.setIfInBounds (base+x.2) x.1) arr (l.zipIdx n))[i]?=if base+n<=i/\i<base+n+l.length then l[i-(base+n)]? else arr[i]?
 | [],arr,base,n,i,_=>by
  rw [if_neg (by simp)]
  rfl
 | x::l,arr,base,n,i,h=>by
  rw [List.zipIdx_cons,List.foldl_cons];rw [List.length_cons] at h;have ih:=Zb3 l (arr.setIfInBounds (base+n) x) base (n+1) i (by rw [Array.size_setIfInBounds];lia);refine ih.trans ?_;rw [List.length_cons];by_cases h1:base+(n+1)<=i/\i<base+(n+1)+l.length
  ·rw [if_pos h1,if_pos (by lia)];rw [show i-(base+n)=(i-(base+(n+1)))+1 by lia,List.getElem?_cons_succ]
  ·rw [if_neg h1,Array.getElem?_setIfInBounds];by_cases h2:base+n=i
   ·subst h2;rw [if_pos rfl,if_pos (by lia),if_pos (by lia),Nat.sub_self]
    rfl
   ·rw [if_neg h2,if_neg (by lia)]
theorem Zb4 {arr:Array Keyed}{base:Nat}{l:List Keyed}(h:base+l.length<=arr.size)(i:Nat):(OH arr base l)[i]?=if base<=i/\i<base+l.length then l[i-base]? else arr[i]?:=Zb3 l arr base 0 i h
theorem Zbg {arr:Array Keyed}{base:Nat}{l:List Keyed}(h:base+l.length<=arr.size)(p:l.Perm ((arr.toList.drop base).take l.length)):(OH arr base l).Perm arr:=by
 have e:(OH arr base l).toList=arr.toList.take base++l++arr.toList.drop (base+l.length):=by
  refine List.ext_getElem? λi=>?_;have hl:arr.toList.length=arr.size:=Array.length_toList;rw [Array.getElem?_toList,Zb4 h];rw [List.append_assoc,List.getElem?_append,List.length_take,hl,Nat.min_eq_left (by lia)];by_cases h1:i<base
  ·rw [if_neg (by lia),if_pos h1,List.getElem?_take,if_pos h1,Array.getElem?_toList]
  ·rw [if_neg h1,List.getElem?_append];by_cases h2:i<base+l.length
   ·rw [if_pos (by lia),if_pos (by lia)]
   ·rw [if_neg (by lia),if_neg (by lia),List.getElem?_drop,Array.getElem?_toList]
    congr 1
    lia
 have e2:arr.toList=arr.toList.take base++(arr.toList.drop base).take l.length++arr.toList.drop (base+l.length):=by
  rw [List.append_assoc,<-List.drop_drop,List.take_append_drop,List.take_append_drop]
 rw [Array.perm_iff_toList_perm,e];exact ((List.Perm.append_left _ p).append_right _).trans (.of_eq e2.symm)
section
variable {M:Model}{A:Around}{E:Value->Shared->Prop}{s:Shared}{kd:SortKind}{b:Keyed->Keyed->Bool}{good:Keyed->Prop}
theorem Up {arr:Array Keyed}{lo mid hi:Nat}(h1:Rng b arr lo mid)(h2:Rng b arr mid hi)(h3:∀i j x y,lo<=i->i<mid->mid<=j->j<hi->arr[i]?=some x->arr[j]?=some y->kle b x y):Rng b arr lo hi:=λi j x y i1 i2 i3 e1 e2=>by
 by_cases c1:j<mid
 ·exact h1 i j x y i1 i2 c1 e1 e2
 ·by_cases c2:i<mid
  ·exact h3 i j x y i1 c2 (by lia) i3 e1 e2
  ·exact h2 i j x y (by lia) i2 i3 e1 e2
theorem Zb5 {arr:Array Keyed}{lo hi:Nat}(hh:hi<=arr.size)(h:Rng b arr lo hi):(arr.extract lo hi).toList.Pairwise (kle b):=by
 rw [List.pairwise_iff_getElem];intro i j hi' hj' hij;have sz:(arr.extract lo hi).toList.length=hi-lo:=by rw [Array.length_toList,Array.size_extract,Nat.min_eq_left hh]
 refine h (lo+i) (lo+j) _ _ (by lia) (by lia) (by lia) ?_ ?_
 ·simp [Array.getElem_extract]
 ·simp [Array.getElem_extract]
end
end L2
namespace L2
open PySem PySem.Spec PyProof.Rows
section
variable {M:Model}{A:Around}{E:Value->Shared->Prop}{s:Shared}{kd:SortKind}{b:Keyed->Keyed->Bool}{good:Keyed->Prop}
def MgQ (b:Keyed->Keyed->Bool)(st:SortSt)(lo hi:Nat)(Q:Bool->SortSt->Prop):Prop:=∀st',kindOf st'=kindOf st->pendingOf st'=pendingOf st->failedOf st'=failedOf st->(arrOf st').Perm (arrOf st) ->
 (∀i,i<lo\/hi<=i->(arrOf st')[i]?=(arrOf st)[i]?)->Rng b (arrOf st') lo hi->Q true st'
structure GalF (b:Keyed->Keyed->Bool)(arr:Array Keyed)(sa k sb nb hi:Nat):Prop where
 k0:sa<=k
 k1:k<sb
 n0:0<nb
 n1:sb+nb<=hi
 ra:Rng b arr sa sb
 rb:Rng b arr sb hi
 lowA:∀i x y,sa<=i->i<k->arr[i]?=some x->arr[sb]?=some y->kle b x y
 highA:∀i x y,k<=i->i<sb->arr[i]?=some x->arr[sb]?=some y->kle b y x
 lowB:∀i x y,sb<=i->i<sb+nb->arr[i]?=some x->arr[sb-1]?=some y->kle b x y
 highB:∀i x y,sb+nb<=i->i<hi->arr[i]?=some x->arr[sb-1]?=some y->kle b y x
theorem GalF.two {arr:Array Keyed}{sa k sb nb hi:Nat}(F:GalF b arr sa k sb nb hi)(hh:hi<=arr.size)(G:AllG good arr):Two b good (arr.extract k sb) (arr.extract sb (sb+nb)):=by
 have h0:=F.k0;have h1:=F.k1;have h2:=F.n0;have h3:=F.n1;have memG:∀{i j x},x∈(arr.extract i j).toList->good x:=λ{i j x} hx=>by
  obtain ⟨q,_,_,e⟩:=Xe hx;rw [<-Array.getElem?_toList] at e;exact G x (List.mem_of_getElem? e)
 refine ⟨λx=>memG,λx=>memG,Zb5 (by lia) λi j x y i1 i2 i3=>F.ra i j x y (by lia) i2 i3,Zb5 (by lia) λi j x y i1 i2 i3=>F.rb i j x y i1 i2 (by lia),by rw [Array.size_extract];lia,by rw [Array.size_extract];lia,λx hx y hy=>?_,λz hz y hy=>?_⟩
 ·have hx:arr[sb]?=some x:=by
   rw [Array.getElem?_extract,if_pos (by lia)] at hx;exact hx
  obtain ⟨q,q1,q2,e⟩:=Xe hy;exact F.highA q y x q1 q2 e hx
 ·have hz:arr[sb-1]?=some z:=by
   rw [Array.size_extract,Array.getElem?_extract,if_pos (by lia)] at hz;rw [<-hz]
   congr 1
   lia
  obtain ⟨q,q1,q2,e⟩:=Xe hy;exact F.lowB q y z q1 (by lia) e hz
theorem GalF.fin (W:WO b){st:SortSt}{sa k sb nb hi:Nat}{Q:Bool->SortSt->Prop}(F:GalF b (arrOf st) sa k sb nb hi)(hh:hi<=(arrOf st).size)(q:MgQ b st sa hi Q)(hf:failedOf st=none){m:Array Keyed}{st1:SortSt}(sg:SameG st st1)(hm:Jr b (((arrOf st).extract k sb).toList++((arrOf st).extract sb (sb+nb)).toList) m.toList):wpS M A E s (Zbf k m) Q st1:=by
 have h0:=F.k0;have h1:=F.k1;have h2:=F.n0;have h3:=F.n1;unfold Zbf;refine wpS_bind (wpS_modify (wpS_bind (wpS_get (wpS_pure ?_))));show Q (failedOf st1).isNone _;rw [sg.2.2.2,hf];have hl:m.toList.length=sb+nb-k:=by
  have:=hm.1.length_eq;rw [List.length_append,Array.length_toList,Array.length_toList,Array.length_toList,Array.size_extract,Array.size_extract] at this;rw [Array.length_toList]
  lia
 have hb:k+m.toList.length<=(arrOf st).size:=by lia
 have e1:((arrOf st).toList.drop k).take m.toList.length=((arrOf st).extract k sb).toList++((arrOf st).extract sb (sb+nb)).toList:=by
  have x1:((arrOf st).extract k (sb+nb)).toList=((arrOf st).toList.drop k).take m.toList.length:=by
   rw [hl,Array.toList_extract,List.extract_eq_take_drop]
  rw [<-x1,<-Array.toList_append,Array.extract_append_extract]
  congr 2 <;> lia
 have at_:=Zb4 (arr:=arrOf st) (base:=k) (l:=m.toList) hb;have mem:∀i x,k<=i->i<sb+nb->(OH (arrOf st) k m.toList)[i]?=some x->(∃j,k<=j/\j<sb/\(arrOf st)[j]?=some x)\/(∃j,sb<=j/\j<sb+nb/\(arrOf st)[j]?=some x):=λi x i1 i2 e=>by
  rw [at_,if_pos (by lia)] at e;have hx:=hm.1.mem_iff.mp (List.mem_of_getElem? e);rcases List.mem_append.mp hx with hx | hx
  ·exact .inl (Xe hx)
  ·exact .inr (Xe hx)
 obtain ⟨b0,hb0⟩:∃x,(arrOf st)[sb]?=some x:=⟨_,Array.getElem?_eq_getElem (by lia)⟩;obtain ⟨aL,haL⟩:∃x,(arrOf st)[sb-1]?=some x:=⟨_,Array.getElem?_eq_getElem (by lia)⟩;refine q _ sg.1 sg.2.2.1 ?_ ?_ (λi hi'=>?_) ?_
 ·show failedOf st1=failedOf st;exact sg.2.2.2
 ·show (OH (arrOf st1) k m.toList).Perm (arrOf st);rw [sg.2.1];exact Zbg hb (hm.1.trans (.of_eq e1.symm))
 ·show (OH (arrOf st1) k m.toList)[i]?=_;rw [sg.2.1,at_,if_neg (by lia)]
 ·show Rng b (OH (arrOf st1) k m.toList) sa hi;rw [sg.2.1];have old:∀i,i<k\/sb+nb<=i->(OH (arrOf st) k m.toList)[i]?=(arrOf st)[i]?:=λi hi'=>by rw [at_,if_neg (by lia)]
  refine Up (mid:=k) (λi j x y i1 i2 i3 e1 e2=>?_) (Up (mid:=sb+nb) (λi j x y i1 i2 i3 e1 e2=>?_) (λi j x y i1 i2 i3 e1 e2=>?_) (λi j x y i1 i2 i3 i4 e1 e2=>?_)) (λi j x y i1 i2 i3 i4 e1 e2=>?_)
  ·rw [old i (by lia)] at e1;rw [old j (by lia)] at e2;exact F.ra i j x y i1 i2 (by lia) e1 e2
  ·rw [at_,if_pos (by lia)] at e1 e2;exact Za8 W hm.2 (by lia) e1 e2
  ·rw [old i (by lia)] at e1;rw [old j (by lia)] at e2;exact F.rb i j x y (by lia) i2 i3 e1 e2
  ·rw [old j (by lia)] at e2;rcases mem i x i1 i2 e1 with ⟨p,p1,p2,e⟩ | ⟨p,p1,p2,e⟩
   ·exact W.le_trans (F.ra p (sb-1) x aL (by lia) (by lia) (by lia) e haL) (F.highB j y aL i3 i4 e2 haL)
   ·exact F.rb p j x y p1 (by lia) i4 e e2
  ·rw [old i (by lia)] at e1;have xb:=F.lowA i x b0 i1 i2 e1 hb0;by_cases cj:j<sb+nb
   ·rcases mem j y i3 cj e2 with ⟨p,p1,p2,e⟩ | ⟨p,p1,p2,e⟩
    ·exact F.ra i p x y i1 (by lia) p2 e1 e
    ·exact W.le_trans xb (F.rb sb p b0 y (Nat.le_refl _) p1 (by lia) hb0 e)
   ·rw [old j (by lia)] at e2;exact W.le_trans xb (F.rb sb j b0 y (Nat.le_refl _) (by lia) i4 hb0 e2)
theorem Xi (W:WO b)(L:Ue M A E s kd b good){st:SortSt}{i sa na sb nb pw pw':Nat}{Q:Bool->SortSt->Prop}(hs:kindOf st=kd)(hf:failedOf st=none)(G:AllG good (arrOf st))(p1:(pendingOf st)[i]?=some (sa,na,pw))(p2:(pendingOf st)[i+1]?=some (sb,nb,pw'))(e:sb=sa+na)(hna:0<na)(hnb:0<nb)(hh:sb+nb<=(arrOf st).size)(ra:Rng b (arrOf st) sa sb)(rb:Rng b (arrOf st) sb (sb+nb))(q:MgQ b (setPending st (((pendingOf st).setIfInBounds i (sa,na+nb,pw)).eraseIdxIfInBounds (i+1))) sa (sb+nb) Q):wpS M A E s (mergeAt' i) Q st:=by
 subst e;rw [Xh];refine wpS_bind (wpS_get ?_);rw [p1,p2];dsimp only;refine wpS_bind ?_;show wpS M A E s (set _) _ st;refine (show wpS M A E s (modify λ_=>setPending st (((pendingOf st).setIfInBounds i (sa,na+nb,pw)).eraseIdxIfInBounds (i+1))) _ st from wpS_modify ?_);generalize hst:setPending st (((pendingOf st).setIfInBounds i (sa,na+nb,pw)).eraseIdxIfInBounds (i+1))=st1 at q;have ea:arrOf st1=arrOf st:=by rw [<-hst]
 have ek:kindOf st1=kd:=by rw [<-hst];exact hs
 have ef:failedOf st1=none:=by rw [<-hst];exact hf
 rw [<-ea] at G hh ra rb ⊢;obtain ⟨b0,hb0,gb0⟩:=G.at (i:=sa+na) (by lia);obtain ⟨aL,haL,gaL⟩:=G.at (i:=sa+na-1) (by lia);refine wpS_bind (GD hb0 ?_);have G1:Gal b good false b0 (arrOf st1) sa na:=U7 W gb0 (λi hi=>G.at (by lia)) ra;refine wpS_bind (Jv L G1 ek hna λk hk k1 k2=>?_);have lowA:∀i x y,sa<=i->i<sa+k->(arrOf st1)[i]?=some x->(arrOf st1)[sa+na]?=some y->kle b x y:=λi x y i1 i2 e1 e2=>by
  rw [hb0] at e2;cases e2;have:=k1 (i-sa) (by lia);unfold byd at this;rw [Nat.add_sub_cancel' i1,e1] at this;dsimp only at this;rw [if_neg Bool.false_ne_true,Bool.not_eq_true'] at this;exact this
 have highA:∀i x y,sa+k<=i->i<sa+na->(arrOf st1)[i]?=some x->(arrOf st1)[sa+na]?=some y->kle b y x:=λi x y i1 i2 e1 e2=>by
  rw [hb0] at e2;cases e2;have:=k2 (i-sa) (by lia) (by lia);unfold byd at this;rw [Nat.add_sub_cancel' (by lia),e1] at this;dsimp only at this;rw [if_neg Bool.false_ne_true,Bool.not_eq_false'] at this;exact W.le_of_lt this
 dsimp only;unfold Zep;rw [show arrOf st=arrOf st1 from ea.symm];split
 ·rename_i e0;have e0:na-k=0:=eq_of_beq e0;refine wpS_pure (q st1 rfl rfl rfl (.refl _) (λ_ _=>rfl) (Up ra rb λi j x y i1 i2 i3 i4 e1 e2=>?_));exact W.le_trans (lowA i x b0 i1 (by lia) e1 hb0) (rb (sa+na) j b0 y (Nat.le_refl _) i3 i4 hb0 e2)
 ·rename_i e0;have e0:na-k≠0:=λz=>e0 (beq_iff_eq.mpr z);refine wpS_bind (GD (show (arrOf st1)[sa+k+(na-k)-1]?=some aL by rw [<-haL];congr 1;lia) ?_);have G2:Gal b good true aL (arrOf st1) (sa+na) nb:=U7 W gaL (λi hi=>G.at (by lia)) rb;refine wpS_bind (Jv L G2 ek (by lia) λnb' hk' k1' k2'=>?_);have lowB:∀i x y,sa+na<=i->i<sa+na+nb'->(arrOf st1)[i]?=some x->(arrOf st1)[sa+na-1]?=some y->kle b x y:=λi x y i1 i2 e1 e2=>by
   rw [haL] at e2;cases e2;have:=k1' (i-(sa+na)) (by lia);unfold byd at this;rw [Nat.add_sub_cancel' i1,e1] at this;dsimp only at this;rw [if_pos rfl] at this;exact W.le_of_lt this
  have highB:∀i x y,sa+na+nb'<=i->i<sa+na+nb->(arrOf st1)[i]?=some x->(arrOf st1)[sa+na-1]?=some y->kle b y x:=λi x y i1 i2 e1 e2=>by
   rw [haL] at e2;cases e2;have:=k2' (i-(sa+na)) (by lia) (by lia);unfold byd at this;rw [Nat.add_sub_cancel' (by lia),e1] at this;dsimp only at this;rw [if_pos rfl] at this;exact this
  dsimp only;unfold Zeo;split
  ·rename_i e1;have e1:nb'=0:=eq_of_beq e1;refine wpS_pure (q st1 rfl rfl rfl (.refl _) (λ_ _=>rfl) (Up ra rb λi j x y i1 i2 i3 i4 f1 f2=>?_));exact W.le_trans (ra i (sa+na-1) x aL i1 (by lia) (by lia) f1 haL) (highB j y aL (by lia) i4 f2 haL)
  ·rename_i e1;have e1:nb'≠0:=λz=>e1 (beq_iff_eq.mpr z);have F:GalF b (arrOf st1) sa (sa+k) (sa+na) nb' (sa+na+nb):=⟨by lia,by lia,by lia,by lia,ra,rb,lowA,highA,lowB,highB⟩;have T:=F.two hh G;split
   ·refine wpS_bind ?_;rw [show arrOf st=arrOf st1 from ea.symm];exact Xc W L T ek λr st' sg m=>F.fin W hh q ef sg m
   ·refine wpS_bind ?_;rw [show arrOf st=arrOf st1 from ea.symm];exact Xf W L T ek λr st' sg m=>F.fin W hh q ef sg m
end
end L2
namespace L2
open PySem PySem.Spec PyProof.Rows
def Runs (b:Keyed->Keyed->Bool)(arr:Array Keyed):Nat->List (Nat×Nat×Nat)->Nat->Prop
 | s,[],e=>s=e
 | s,x::rest,e=>x.1=s/\0<x.2.1/\Rng b arr s (s+x.2.1)/\Runs b arr (s+x.2.1) rest e
section
variable {b:Keyed->Keyed->Bool}{arr arr':Array Keyed}
theorem Runs.le:∀{p:List (Nat×Nat×Nat)}{s e:Nat},Runs b arr s p e->s+p.length<=e
 | [],s,e,h=>by have h:s=e:=h;simp [h]
 | x::p,s,e,h=>by
  have:=Runs.le h.2.2.2;have:=h.2.1;rw [List.length_cons]
  lia
theorem Runs.app:∀{u v:List (Nat×Nat×Nat)}{s e:Nat},Runs b arr s (u++v) e↔∃m,Runs b arr s u m/\Runs b arr m v e
 | [],v,s,e=>⟨λh=>⟨s,rfl,h⟩,λ⟨m,h1,h2⟩=>by have h1:s=m:=h1;rw [h1];exact h2⟩
 | x::u,v,s,e=>by
  constructor
  ·rintro ⟨h1,h2,h3,h4⟩;obtain ⟨m,k1,k2⟩:=Runs.app.mp h4;exact ⟨m,⟨h1,h2,h3,k1⟩,k2⟩
  ·rintro ⟨m,⟨h1,h2,h3,k1⟩,k2⟩;exact ⟨h1,h2,h3,Runs.app.mpr ⟨m,k1,k2⟩⟩
theorem Runs.keep:∀{p:List (Nat×Nat×Nat)}{s e:Nat},Runs b arr s p e->(∀i,s<=i->i<e->arr'[i]?=arr[i]?)->Runs b arr' s p e
 | [],_,_,h,_=>h
 | x::p,s,e,h,k=>by
  have:=Runs.le h.2.2.2;refine ⟨h.1,h.2.1,λi j u v i1 i2 i3 e1 e2=>?_,Runs.keep h.2.2.2 λi i1 i2=>k i (by lia) i2⟩;rw [k i i1 (by lia)] at e1;rw [k j (by lia) (by lia)] at e2;exact h.2.2.1 i j u v i1 i2 i3 e1 e2
theorem Runs.push {p:List (Nat×Nat×Nat)}{s lo n pw:Nat}(h:Runs b arr s p lo)(hn:0<n)(hr:Rng b arr lo (lo+n)):Runs b arr s (p++[(lo,n,pw)]) (lo+n):=
 Runs.app.mpr ⟨lo,h,rfl,hn,hr,rfl⟩
theorem Runs.two {p:List (Nat×Nat×Nat)}{i e sa na pw sb nb pw':Nat}(h:Runs b arr 0 p e)(h1:p[i]?=some (sa,na,pw))(h2:p[i+1]?=some (sb,nb,pw')) :
  sb=sa+na/\0<na/\0<nb/\sb+nb<=e/\Rng b arr sa sb/\Rng b arr sb (sb+nb) /\
   ((∀i,i<sa\/sb+nb<=i->arr'[i]?=arr[i]?)->Rng b arr' sa (sb+nb)->Runs b arr' 0 ((p.set i (sa,na+nb,pw)).eraseIdx (i+1)) e):=by
 obtain ⟨l1,e1⟩:=List.getElem?_eq_some_iff.mp h1;obtain ⟨l2,e2⟩:=List.getElem?_eq_some_iff.mp h2;have d:p=p.take i++(sa,na,pw)::(sb,nb,pw')::p.drop (i+2):=by
  conv=>lhs;rw [<-List.take_append_drop i p,List.drop_eq_getElem_cons l1,e1,List.drop_eq_getElem_cons l2,e2]
 have hl:(p.take i).length=i:=by rw [List.length_take];lia
 generalize p.take i=u at d hl;generalize p.drop (i+2)=v at d;subst d;obtain ⟨m,k1,k2,k3,k4,k5,k6,k7,k8⟩:=Runs.app.mp h;have k2:sa=m:=k2;have k3:0<na:=k3;have k5:sb=m+na:=k5;have k6:0<nb:=k6;have k4:Rng b arr m (m+na):=k4;have k7:Rng b arr (m+na) (m+na+nb):=k7;have k8:Runs b arr (m+na+nb) v e:=k8;subst k2 k5;have k9:sa+na+nb+v.length<=e:=k8.le;refine ⟨rfl,k3,k6,by lia,k4,k7,λho hr=>?_⟩;have es:((u++(sa,na,pw)::(sa+na,nb,pw')::v).set i (sa,na+nb,pw)).eraseIdx (i+1)=u++(sa,na+nb,pw)::v:=by
  rw [List.set_append,if_neg (by lia),hl,Nat.sub_self,List.set_cons_zero,List.eraseIdx_append_of_length_le (by lia),hl,Nat.add_sub_cancel_left]
  rfl
 rw [es];refine Runs.app.mpr ⟨sa,k1.keep λj j1 j2=>ho j (.inl j2),rfl,by show 0<na+nb;lia,by show Rng b arr' sa (sa+(na+nb));rw [<-Nat.add_assoc];exact hr,?_⟩;show Runs b arr' (sa+(na+nb)) v e;rw [<-Nat.add_assoc];exact k8.keep λj j1 j2=>ho j (.inr j1)
theorem Runs.pow:∀{p:List (Nat×Nat×Nat)}{s e:Nat}(i:Nat)(f:Nat×Nat×Nat->Nat×Nat×Nat),(∀x,(f x).1=x.1/\(f x).2.1=x.2.1)->Runs b arr s p e->Runs b arr s (p.modify i f) e
 | [],_,_,i,f,_,h=>by cases i <;> exact h
 | x::p,s,e,0,f,hf,h=>by
  rw [List.modify_zero_cons];obtain ⟨q1,q2⟩:=hf x;refine ⟨q1.trans h.1,by rw [q2];exact h.2.1,by rw [q2];exact h.2.2.1,by rw [q2];exact h.2.2.2⟩
 | x::p,s,e,i+1,f,hf,h=>by
  rw [List.modify_succ_cons];exact ⟨h.1,h.2.1,h.2.2.1,Runs.pow i f hf h.2.2.2⟩
theorem Runs.one (W:WO b){p:List (Nat×Nat×Nat)}{e:Nat}(h:Runs b arr 0 p e)(hl:p.length<=1):Rng b arr 0 e:=by
 match p,h,hl with
 | [],h,_=>
  have h:0=e:=h;subst h;intro i j x y i1 i2 i3
  lia
 | [x],h,_=>
  have h4:0+x.2.1=e:=h.2.2.2;rw [<-h4];exact h.2.2.1
end
end L2
namespace L2
open PySem PySem.Spec PyProof.Rows
section
variable {M:Model}{A:Around}{E:Value->Shared->Prop}{s:Shared}{kd:SortKind}{b:Keyed->Keyed->Bool}{good:Keyed->Prop}
structure SI (b:Keyed->Keyed->Bool)(kd:SortKind)(st0 st:SortSt)(lo:Nat):Prop where
 ki:kindOf st=kd
 fa:failedOf st=none
 pm:(arrOf st).Perm (arrOf st0)
 ru:Runs b (arrOf st) 0 (pendingOf st).toList lo
theorem SI.size {st0 st:SortSt}{lo:Nat}(h:SI b kd st0 st lo):(arrOf st).size=(arrOf st0).size:=h.pm.size_eq
theorem SI.merge (W:WO b)(L:Ue M A E s kd b good){st0 st:SortSt}{lo i:Nat}{Q:Bool->SortSt->Prop}(G:AllG good (arrOf st0))(h:SI b kd st0 st lo)(hlo:lo<=(arrOf st0).size)(hi:i+1<(pendingOf st).size)(q:∀st',SI b kd st0 st' lo->(pendingOf st').size+1=(pendingOf st).size->(∀i,lo<=i->(arrOf st')[i]?=(arrOf st)[i]?)->Q true st'):wpS M A E s (mergeAt' i) Q st:=by
 obtain ⟨⟨sa,na,pw⟩,p1⟩:∃x,(pendingOf st)[i]?=some x:=⟨_,Array.getElem?_eq_getElem (by lia)⟩;obtain ⟨⟨sb,nb,pw'⟩,p2⟩:∃x,(pendingOf st)[i+1]?=some x:=⟨_,Array.getElem?_eq_getElem hi⟩;have two:=λarr'=>Runs.two (arr':=arr') h.ru (by rw [Array.getElem?_toList];exact p1) (by rw [Array.getElem?_toList];exact p2);obtain ⟨t1,t2,t3,t4,t5,t6,_⟩:=two (arrOf st);have hsz:=h.size;refine Xi W L h.ki h.fa (G.perm h.pm) p1 p2 t1 t2 t3 (by lia) t5 t6 λst' k1 k2 k3 k4 k5 k6=>?_;have e0:arrOf (setPending st (((pendingOf st).setIfInBounds i (sa,na+nb,pw)).eraseIdxIfInBounds (i+1)))=arrOf st:=rfl;rw [e0] at k4 k5;have e1:pendingOf st'=((pendingOf st).setIfInBounds i (sa,na+nb,pw)).eraseIdxIfInBounds (i+1):=k2;have e2:(pendingOf st').toList=((pendingOf st).toList.set i (sa,na+nb,pw)).eraseIdx (i+1):=by
  rw [e1,Array.toList_eraseIdxIfInBounds,Array.toList_setIfInBounds]
 refine q st' ⟨k1.trans h.ki,k3.trans h.fa,k4.trans h.pm,?_⟩ ?_ λj hj=>k5 j (.inr (by lia))
 ·rw [e2];exact (two (arrOf st')).2.2.2.2.2.2 k5 k6
 ·have:=congrArg List.length e2;rw [Array.length_toList,List.length_eraseIdx,List.length_set,Array.length_toList,if_pos hi] at this
  lia
theorem Ui (W:WO b)(L:Ue M A E s kd b good){st:SortSt}{Q:Unit->SortSt->Prop}(hs:kindOf st=kd)(hf:failedOf st=none)(hp:pendingOf st=#[])(G:AllG good (arrOf st))(q:∀st',(arrOf st').Perm (arrOf st)->failedOf st'=none->Rng b (arrOf st') 0 (arrOf st).size->Q () st'):wpS M A E s sortRuns' Q st:=by
 rw [sortRuns'_eq];refine wpS_bind (wpS_get ?_);dsimp only;generalize hsz:(arrOf st).size=size at q;generalize minRun' size size 0=minrun;refine wpS_bind (wpS_mono (Q:=λr st1=>r=(none,size)/\SI b kd st st1 size) (wpS_forRange (λk r st1=>∃lo,r=(none,lo)/\k<=lo/\lo<=size/\SI b kd st st1 lo) ?_ ?_ ⟨0,rfl,Nat.le_refl _,Nat.zero_le _,hs,hf,.refl _,by rw [hp];rfl⟩) ?_)
 ·rintro k r st1 _ hk ⟨lo,rfl,k1,k2,I⟩;dsimp only;split
  ·have:lo=size:=by lia
   subst this;exact wpS_pure ⟨rfl,I⟩
  ·rename_i hlo;have s1:(arrOf st1).size=size:=I.size.trans hsz;refine wpS_bind (VA W L I.ki (G.perm I.pm) (by lia) (by lia) λn st2 ah n1 n2 n3=>?_);have I2:SI b kd st st2 lo:=⟨ah.kd.trans I.ki,ah.fa.trans I.fa,ah.pm.trans I.pm,by rw [ah.pe];exact I.ru.keep λi _ hi=>ah.lw i hi⟩;dsimp only;have pushed:∀st3 n,SI b kd st st3 lo->0<n->Rng b (arrOf st3) lo (lo+n)->SI b kd st (setPending st3 ((pendingOf st3).push (lo,n,0))) (lo+n):=by
    intro st3 n I3 n1 n3;refine ⟨I3.ki,I3.fa,I3.pm,?_⟩;show Runs b (arrOf st3) 0 ((pendingOf st3).push (lo,n,0)).toList (lo+n);rw [Array.toList_push];exact I3.ru.push n1 n3
   have pow:∀st3 pw,SI b kd st st3 lo->SI b kd st (setPending st3 ((pendingOf st3).modify ((pendingOf st3).size-1) λx=>(x.1,x.2.1,pw))) lo:=by
    intro st3 pw I3;refine ⟨I3.ki,I3.fa,I3.pm,?_⟩;show Runs b (arrOf st3) 0 ((pendingOf st3).modify ((pendingOf st3).size-1) λx=>(x.1,x.2.1,pw)).toList lo;rw [Array.toList_modify];exact I3.ru.pow _ _ λx=>⟨rfl,rfl⟩
   split
   ·rename_i hmr;refine wpS_bind (wpS_lift (wpAny_rule ⟨rfl,?_⟩));have s2:(arrOf st2).size=size:=I2.size.trans hsz;refine wpS_bind (YA W L I2.ki (G.perm I2.pm) (by lia) n1 (by lia) n3 λst3 ah3 r3=>?_);have I3:SI b kd st st3 lo:=⟨ah3.kd.trans I2.ki,ah3.fa.trans I2.fa,ah3.pm.trans I2.pm,by rw [ah3.pe];exact I2.ru.keep λi _ hi=>ah3.lw i hi⟩;rw [show (!true)=false from rfl,if_neg Bool.false_ne_true];have hN:1<=min (size-lo) minrun/\lo+min (size-lo) minrun<=size:=by lia
    clear hmr;generalize min (size-lo) minrun=N at r3 hN;refine wpS_bind (wpS_get ?_);cases hbk:(pendingOf st3).back? with
    | none=>exact wpS_bind (wpS_modify (wpS_pure ⟨_,rfl,by lia,by lia,pushed st3 _ I3 (by lia) r3⟩))
    | some x=>
     obtain ⟨s1,n1,pw1⟩:=x;dsimp only;refine wpS_bind (wpS_mono (Q:=λr st4=>r=(none,())/\SI b kd st st4 lo/\∀i,lo<=i->(arrOf st4)[i]?=(arrOf st3)[i]?) (wpS_forRange (λ_ r st4=>r=(none,())/\SI b kd st st4 lo/\∀i,lo<=i->(arrOf st4)[i]?=(arrOf st3)[i]?) ?_ (λ_ _ z=>z) ⟨rfl,I3,λ_ _=>rfl⟩) ?_)
     ·rintro k' r st4 _ hk' ⟨rfl,I4,same⟩;refine wpS_bind (wpS_get ?_);by_cases hz:(pendingOf st4).size > 1
      ·obtain ⟨⟨z1,z2,z3⟩,pz⟩:∃x,(pendingOf st4)[(pendingOf st4).size-2]?=some x:=⟨_,Array.getElem?_eq_getElem (by lia)⟩;rw [if_pos hz,pz];dsimp only;split
       ·exact wpS_pure ⟨rfl,I4,same⟩
       ·refine wpS_bind (I4.merge W L G (by lia) (by lia) λst5 I5 _ same5=>?_);rw [show (!true)=false from rfl,if_neg Bool.false_ne_true];exact wpS_pure ⟨rfl,I5,λi hi=>(same5 i hi).trans (same i hi)⟩
      ·rw [if_neg hz];exact wpS_pure ⟨rfl,I4,same⟩
     ·rintro r st4 ⟨rfl,I4,same⟩;dsimp only;refine wpS_bind (wpS_modify (wpS_bind (wpS_modify (wpS_pure ⟨_,rfl,by lia,by lia,?_⟩))));refine pushed _ _ (pow st4 _ I4) (by lia) λi j x y i1 i2 i3 e1 e2=>?_;have e1:(arrOf st4)[i]?=some x:=e1;have e2:(arrOf st4)[j]?=some y:=e2;rw [same i i1] at e1;rw [same j (by lia)] at e2;exact r3 i j x y i1 i2 i3 e1 e2
   ·have hN:1<=n/\lo+n<=size:=by lia
    refine wpS_bind (wpS_get ?_);cases hbk:(pendingOf st2).back? with
    | none=>exact wpS_bind (wpS_modify (wpS_pure ⟨_,rfl,by lia,by lia,pushed st2 _ I2 (by lia) n3⟩))
    | some x=>
     obtain ⟨s1,n1,pw1⟩:=x;dsimp only;refine wpS_bind (wpS_mono (Q:=λr st4=>r=(none,())/\SI b kd st st4 lo/\∀i,lo<=i->(arrOf st4)[i]?=(arrOf st2)[i]?) (wpS_forRange (λ_ r st4=>r=(none,())/\SI b kd st st4 lo/\∀i,lo<=i->(arrOf st4)[i]?=(arrOf st2)[i]?) ?_ (λ_ _ z=>z) ⟨rfl,I2,λ_ _=>rfl⟩) ?_)
     ·rintro k' r st4 _ hk' ⟨rfl,I4,same⟩;refine wpS_bind (wpS_get ?_);by_cases hz:(pendingOf st4).size > 1
      ·obtain ⟨⟨z1,z2,z3⟩,pz⟩:∃x,(pendingOf st4)[(pendingOf st4).size-2]?=some x:=⟨_,Array.getElem?_eq_getElem (by lia)⟩;rw [if_pos hz,pz];dsimp only;split
       ·exact wpS_pure ⟨rfl,I4,same⟩
       ·refine wpS_bind (I4.merge W L G (by lia) (by lia) λst5 I5 _ same5=>?_);rw [show (!true)=false from rfl,if_neg Bool.false_ne_true];exact wpS_pure ⟨rfl,I5,λi hi=>(same5 i hi).trans (same i hi)⟩
      ·rw [if_neg hz];exact wpS_pure ⟨rfl,I4,same⟩
     ·rintro r st4 ⟨rfl,I4,same⟩;dsimp only;refine wpS_bind (wpS_modify (wpS_bind (wpS_modify (wpS_pure ⟨_,rfl,by lia,by lia,?_⟩))));refine pushed _ _ (pow st4 _ I4) (by lia) λi j x y i1 i2 i3 e1 e2=>?_;have e1:(arrOf st4)[i]?=some x:=e1;have e2:(arrOf st4)[j]?=some y:=e2;rw [same i i1] at e1;rw [same j (by lia)] at e2;exact n3 i j x y i1 i2 i3 e1 e2
 ·rintro r st1 ⟨lo,rfl,k1,k2,I⟩;have:lo=size:=by simp at k1;lia
  subst this;exact ⟨rfl,I⟩
 ·rintro r st1 ⟨rfl,I⟩;dsimp only;refine wpS_bind (wpS_mono (Q:=λr st2=>r=(none,())/\SI b kd st st2 size/\(pendingOf st2).size<=1) (wpS_forRange (λk r st2=>r=(none,())/\SI b kd st st2 size/\(pendingOf st2).size+k<=size+1) ?_ ?_ ⟨rfl,I,?_⟩) ?_)
  ·rintro k r st2 _ hk ⟨rfl,I2,hz⟩;refine wpS_bind (wpS_get ?_);split
   ·rename_i h1;exact wpS_pure ⟨rfl,I2,h1⟩
   ·rename_i h1;generalize hi:(if Option.any _ _=true then (pendingOf st2).size-2-1 else (pendingOf st2).size-2)=i;have hi2:i+1<(pendingOf st2).size:=by
     rw [<-hi];have key:∀(c:Prop)[Decidable c](m:Nat),(if c then m-1 else m)<=m:=λc _ m=>by split <;> lia
     refine Nat.lt_of_le_of_lt (Nat.succ_le_succ (key _ ((pendingOf st2).size-2))) ?_
     lia
    refine wpS_bind (I2.merge W L G (by lia) hi2 λst3 I3 h3 _=>?_);rw [show (!true)=false from rfl,if_neg Bool.false_ne_true];exact wpS_pure ⟨rfl,I3,by lia⟩
  ·rintro r st2 ⟨rfl,I2,hz⟩;exact ⟨rfl,I2,by simp at hz;lia⟩
  ·have:=I.ru.le;rw [Array.length_toList] at this
   lia
  ·rintro r st2 ⟨rfl,I2,h1⟩;refine wpS_pure (q st2 I2.pm I2.fa ?_);exact I2.ru.one W (by rw [Array.length_toList];exact h1)
end
end L2
namespace L2
open PySem PySem.Spec PyProof.Rows
section
variable {prog:Program}{w:World}{A:Around}{E:Value->Shared->Prop}{s:Shared}{kd:SortKind}{b:Keyed->Keyed->Bool}{good:Keyed->Prop}
def OI (s:Shared)(a:Addr)(vs:List Value):Shared:={ s with heap:=((s.heap.update a (Obj.mapSeq λ_=>#[])).push (seqObj "tuple" vs.toArray 0)).push (seqObj "list" #[] 0) }
theorem ZJ (W:WO b){arr:Array Keyed}(h:arr.size<2):Rng b arr 0 arr.size:=λi j x y i1 i2 i3 e1 e2=>by
 have:i=j:=by lia
 subst this;rw [e1] at e2;cases e2;exact W.le_refl _
theorem VB {a:Addr}{vs:List Value}{n:Nat}{P:PySem.Fin->Shared->Prop}(W:WO b)(ha:s.heap.get? a=some (seqObj "list" vs.toArray n))(hz:vs.length<=sizeLine)(hg:∀v∈vs,good (v,v))(hk:2<=vs.length->∀{E':Value->Shared->Prop}{R:SortKind->Shared->Prop},R kd (OI s a vs)->wpAny (model prog w) A (keyKind' vs.toArray) R E' (OI s a vs))(L:Ue (model prog w) A E (OI s a vs) kd b good)(q:∀out:Array Keyed,out.Perm (pairsOf vs)->Rng b out 0 vs.length->P (.done (.ret .none)) { s with heap:=sortedHeap s.heap a vs (out.map (·.2)) }) :
  wpAny (model prog w) A (Builtin.«list.sort» { pos:=[.ref a] }) P E s:=by
 rw [list_sort_plain];refine wpAny_bind (listItems_at ha rfl ?_);refine wpAny_bind (listUpdate_at ha rfl ?_ (by rw [List.size_toArray];exact hz) (Nat.zero_le _));have ha1:=get?_update_seq ha (λ_=>#[]);generalize (if ((#[]:Array Value).size == vs.toArray.size)=true then n else n+1)=n1 at ha1;refine wpAny_bind (seqEpoch_at ha1 rfl ?_);refine wpAny_bind (wpAny_newTuple ?_ hz);refine wpAny_bind (wpAny_newList ?_ (Nat.zero_le _));refine wpAny_holding ?_;have ha2:(OI s a vs).heap.get? a=some (seqObj "list" #[] n1):=Heap.get?_push_of_some _ (Heap.get?_push_of_some _ ha1);show wpAny (model prog w) A _ P E (OI s a vs);have hps:(pairsOf vs).size=vs.length:=pairsOf_size vs;dsimp only [List.size_toArray];split
 ·rename_i h2;have h2:vs.length<2:=by simpa using h2
  refine wpAny_bind (wpAny_pure ?_);refine wpAny_bind (wpAny_mono (Q:=λr s'=>s'=OI s a vs/\failedOf r.2=none/\(arrOf r.2).Perm (pairsOf vs)/\Rng b (arrOf r.2) 0 vs.length) (wpAny_pure ⟨rfl,rfl,.refl _,?_⟩) ?_ (λ_ _ z=>z))
  ·have:=ZJ W (arr:=pairsOf vs) (by lia);rw [hps] at this;exact this
  ·rintro ⟨_,st⟩ s' ⟨rfl,e2,hp,hr⟩;dsimp only;refine wpAny_bind (seqEpoch_at ha2 rfl ?_);have e2:failedOf st=none:=e2;have hl:((arrOf st).map (·.2)).size<=sizeLine+1:=by
    have this:(arrOf st).size=(pairsOf vs).size:=hp.size_eq;rw [pairsOf_size] at this;rw [Array.size_map]
    lia
   refine wpAny_bind (listUpdate_at ha2 rfl ?_ (Nat.zero_le _) hl);have:(n1 != n1)=false:=by simp
   rw [this,e2];exact wpAny_pure (q (arrOf st) hp hr)
 ·rename_i h2;have h2:¬ vs.length<2:=by simpa using h2
  refine wpAny_bind (hk (by lia) ?_);refine wpAny_bind (wpAny_mono (Q:=λr s'=>s'=OI s a vs/\failedOf r.2=none/\(arrOf r.2).Perm (pairsOf vs)/\Rng b (arrOf r.2) 0 vs.length) ?_ ?_ (λ_ _ z=>z))
  ·refine Ui (st:=SortSt.mk' kd (vs.toArray.zip vs.toArray) #[] 7 none) (Q:=λ_ st=>failedOf st=none/\(arrOf st).Perm (pairsOf vs)/\Rng b (arrOf st) 0 vs.length) W L rfl rfl rfl (λx hx=>?_) λst' k1 k2 k3=>⟨k2,k1,?_⟩
   ·have hx:x∈(pairsOf vs).toList:=hx;rw [pairsOf_toList] at hx;obtain ⟨e,hm⟩:=mem_zip_self hx;obtain ⟨x1,x2⟩:=x;have e:x1=x2:=e;subst e;exact hg _ hm
   ·have e:(arrOf (SortSt.mk' kd (vs.toArray.zip vs.toArray) #[] 7 none)).size=vs.length:=hps;rw [e] at k3;exact k3
  ·rintro ⟨_,st⟩ s' ⟨rfl,e2,hp,hr⟩;dsimp only;refine wpAny_bind (seqEpoch_at ha2 rfl ?_);have e2:failedOf st=none:=e2;have hl:((arrOf st).map (·.2)).size<=sizeLine+1:=by
    have this:(arrOf st).size=(pairsOf vs).size:=hp.size_eq;rw [pairsOf_size] at this;rw [Array.size_map]
    lia
   refine wpAny_bind (listUpdate_at ha2 rfl ?_ (Nat.zero_le _) hl);have:(n1 != n1)=false:=by simp
   rw [this,e2];exact wpAny_pure (q (arrOf st) hp hr)
theorem OJ {h:Heap}{a c:Addr}{o:Obj}{f:Obj->Obj}(hc:c≠a)(e:h.get? c=some o):(h.update a f).get? c=some o:=(Heap.get?_update_ne h c a f hc).trans e
theorem U8 {l:Addr}{vs:List Value}{Q:Value->Shared->Prop}(W:WO b)(hl:s.heap.IsList l vs.toArray)(hz:vs.length<=sizeLine)(hg:∀v∈vs,good (v,v))(hk:∀h':Heap,(∀c o,s.heap.get? c=some o->h'.get? c=some o)->2<=vs.length->∀{E':Value->Shared->Prop}{R:SortKind->Shared->Prop},R kd { s with heap:=h' }->wpAny (model prog w) A.in1.in1 (keyKind' vs.toArray) R E' { s with heap:=h' })(L:∀h':Heap,(∀c o,s.heap.get? c=some o->h'.get? c=some o)->Ue (model prog w) A.in1.in1 E { s with heap:=h' } kd b good)(q:∀out:Array Keyed,out.Perm (pairsOf vs)->Rng b out 0 vs.length->Q (.ref (s.heap.objs.size+1)) { s with heap:=sortedAll s.heap vs (out.map (·.2)) }) :
  wpAny (model prog w) A (call (.builtin "sorted") [.ref l]) Q E s:=by
 refine Calls.call_function_entry kind_sorted plain_sorted entry_sorted (args_sorted1 _) ?_;unfold Builtin.sorted;refine wpAny_bind (wpAny_pure ?_);refine wpAny_bind (collect_list hl ?_ hz);refine wpAny_bind (wpAny_newList ?_ hz);refine wpAny_bind (wpAny_holding ?_);generalize hh1:(s.heap.push (seqObj "list" #[] 0)).update s.heap.objs.size (Obj.mapSeq λx=>x++vs.toArray)=h1;have sz1:h1.objs.size=s.heap.objs.size+1:=by rw [<-hh1,Heap.size_update,Heap.size_push]
 have k1:∀c o,s.heap.get? c=some o->h1.get? c=some o:=λc o e=>by
  rw [<-hh1];exact OJ (Nat.ne_of_lt (Heap.lt_size e)) (Heap.get?_push_of_some _ e)
 generalize hh2:h1.push { cls:=Value.type "list", data:=Data.seq vs.toArray }=h2;have ha:h2.get? h1.objs.size=some (seqObj "list" vs.toArray 0):=by rw [<-hh2];exact Heap.get?_push_size _ rfl
 have k2:∀c o,s.heap.get? c=some o->h2.get? c=some o:=λc o e=>by
  rw [<-hh2];exact Heap.get?_push_of_some _ (k1 c o e)
 have k3:∀c o,s.heap.get? c=some o->(OI { s with heap:=h2 } h1.objs.size vs).heap.get? c=some o:=λc o e=>by
  unfold OI;refine Heap.get?_push_of_some _ (Heap.get?_push_of_some _ (OJ ?_ (k2 c o e)));have:=Heap.lt_size e;rw [sz1];exact Nat.ne_of_lt (Nat.lt_succ_of_lt this)
 refine wpAny_call_entry (s:={ s with heap:=h2 }) slot_list_sort ⟨_,ha,rfl⟩ entry_list_sort ?_ (args_list_sort _);refine VB (s:={ s with heap:=h2 }) W ha hz hg (λh=>hk _ k3 h) (L _ k3) λout p r=>⟨.none,rfl,wpAny_pure ⟨_,rfl,?_⟩⟩;have e:({ s with heap:=sortedHeap h2 h1.objs.size vs (out.map (·.2)) }:Shared)={ s with heap:=sortedAll s.heap vs (out.map (·.2)) }:=by
  unfold sortedAll;rw [sz1,<-hh2,<-hh1]
 show Q (.ref h1.objs.size) { s with heap:=sortedHeap h2 h1.objs.size vs (out.map (·.2)) };rw [e,sz1];exact q out p r
end
end L2
namespace L2
open PySem PySem.Spec PyProof.Rows
def OK:List Int->List Int->Bool
 | [],[]=>false
 | [],_::_=>true
 | _::_,[]=>false
 | x::xs,y::ys=>if x=y then OK xs ys else decide (x<y)
section
variable {prog:Program}{w:World}{A:Around}{E:Value->Shared->Prop}{s:Shared}
theorem VC:∀{its:List Value}{ns:List Int},IntsAre its ns->∀k:Nat,(its[k]?=none/\ns.drop k=[])\/∃i t,its[k]?=some (.int i t)/\ns.drop k=i::ns.drop (k+1)
 | _,_,.nil,k=>.inl ⟨by simp,by simp⟩
 | _,_,.cons n t h,0=>.inr ⟨n,t,rfl,rfl⟩
 | _,_,.cons n t h,k+1=>by
  rcases VC h k with ⟨h1,h2⟩ | ⟨i,t,h1,h2⟩
  ·exact .inl ⟨by simpa using h1,by simpa using h2⟩
  ·exact .inr ⟨i,t,by simpa using h1,by simpa using h2⟩
theorem Og {its:List Value}{ns:List Int}(h:IntsAre its ns):its.length=ns.length:=by
 induction h with
 | nil=>rfl
 | cons n t h ih=>simp [ih]
theorem Zc0 {a c:Addr}{oa oc:Obj}{xs ys:List Value}{ns ms:List Int}{na nc:Nat}{R:Result->Shared->Prop}(ga:s.heap.get? a=some oa)(gc:s.heap.get? c=some oc)(da:oa.data=.seq xs.toArray na)(dc:oc.data=.seq ys.toArray nc)(hx:IntsAre xs ns)(hy:IntsAre ys ms) :
  ∀left k:Nat,ns.length-k=left->k<=ns.length->k<=ms.length->R (.ok (.ret (.bool (OK (ns.drop k) (ms.drop k))))) s->codeAny (model prog w) A (.builtin "list.__eq__.loop" { pos:=[.ref a,.ref c,rawInt (k:Int),rawInt 0] }) R s:=by
 intro left
 induction left with
 | zero=>
  intro k hl h1 h2 hR;refine codeAny_builtin MeetsSeq3.entry_eq_loop ?_;rw [Around.under_plainId MeetsSeq3.plain_eq_loop _];show wpAny _ A.in1 (Builtin.List.listItems (.ref a) >>= _) _ _ s;refine wpAny_bind (listItems_at ga da (wpAny_bind (listItems_at gc dc ?_)));have e1:xs.toArray[((k:Int)).toNat]?=none:=by
   rw [Int.toNat_natCast];rcases VC hx k with ⟨h,_⟩ | ⟨i,t,h,_⟩
   ·simpa using h
   ·have:=(List.getElem?_eq_some_iff.mp h).1;have:=Og hx
    lia
  rw [e1];show wpAny _ A.in1 (Builtin.List.listItems (.ref a) >>= _) _ _ s;refine wpAny_bind (listItems_at ga da (wpAny_bind (listItems_at gc dc (wpAny_pure ?_))));show R (.ok (.ret (.bool (decide (xs.toArray.size<ys.toArray.size))))) s;have e2:OK (ns.drop k) (ms.drop k)=decide (xs.toArray.size<ys.toArray.size):=by
   rw [List.size_toArray,List.size_toArray,Og hx,Og hy];have:ns.drop k=[]:=List.drop_of_length_le (by lia);rw [this];cases hd:ms.drop k with
   | nil=>
    have:=List.drop_eq_nil_iff.mp hd;rw [decide_eq_false (by lia)]
    rfl
   | cons y l=>
    have:k<ms.length:=by
     refine Nat.lt_of_not_le λh=>?_;rw [List.drop_of_length_le h] at hd;cases hd
    rw [decide_eq_true (by lia)]
    rfl
  rw [<-e2];exact hR
 | succ left ih=>
  intro k hl h1 h2 hR;refine codeAny_builtin MeetsSeq3.entry_eq_loop ?_;rw [Around.under_plainId MeetsSeq3.plain_eq_loop _];show wpAny _ A.in1 (Builtin.List.listItems (.ref a) >>= _) _ _ s;refine wpAny_bind (listItems_at ga da (wpAny_bind (listItems_at gc dc ?_)));rw [Int.toNat_natCast];rcases VC hx k with ⟨h,z⟩ | ⟨i,t,hi,di⟩
  ·have:=List.drop_eq_nil_iff.mp z
   lia
  ·have e1:xs.toArray[k]?=some (.int i t):=by simpa using hi
   rw [e1];rcases VC hy k with ⟨h,z⟩ | ⟨j,u,hj,dj⟩
   ·have e2:ys.toArray[k]?=none:=by simpa using h
    rw [e2];show wpAny _ A.in1 (Builtin.List.listItems (.ref a) >>= _) _ _ s;refine wpAny_bind (listItems_at ga da (wpAny_bind (listItems_at gc dc (wpAny_pure ?_))));show R (.ok (.ret (.bool (decide (xs.toArray.size<ys.toArray.size))))) s;rw [di,z] at hR;have:=List.drop_eq_nil_iff.mp z;rw [List.size_toArray,List.size_toArray,Og hx,Og hy,decide_eq_false (by lia)];exact hR
   ·have e2:ys.toArray[k]?=some (.int j u):=by simpa using hj
    rw [e2];rw [di,dj] at hR;show wpAny _ A.in1 (eqBool (.int i t) (.int j u) >>= _) _ _ s;refine wpAny_bind (wpAny_eqBool_int ?_);have kl:k<ms.length:=by
     have:=(List.getElem?_eq_some_iff.mp hj).1;rw [Og hy] at this;exact this
    by_cases hij:i=j
    ·rw [show (i == j)=true by rw [hij];exact beq_self_eq_true _,if_pos rfl];refine wpAny_pure ⟨plainId_quiet MeetsSeq3.plain_eq_loop _,ih (k+1) (by lia) (by lia) (by lia) ?_⟩;unfold OK at hR;rw [if_pos hij] at hR;exact hR
    ·rw [show (i == j)=false by rw [beq_eq_false_iff_ne];exact hij,if_neg Bool.false_ne_true];refine wpAny_bind (listItems_at ga da (wpAny_bind (listItems_at gc dc ?_)));rw [e1,e2];refine wpAny_bind (lt_int (wpAny_pure ?_));unfold OK at hR;rw [if_neg hij] at hR;exact hR
theorem Zbh (a c:Addr)(xs ys:List Value)(ns ms:List Int)(na nc:Nat)(hx:IntsAre xs ns)(hy:IntsAre ys ms):Meets (Builtin.«list.__lt__» { pos:=[.ref a,.ref c] }) λA R s=>
  s.heap.IsList a xs.toArray/\s.heap.IsList c ys.toArray/\R (.ok (.ret (.bool (OK ns ms)))) s:=by
 intro prog w A R s ⟨ha,hc,hR⟩;obtain ⟨oa,ga,ca,n1,da⟩:=ha;obtain ⟨oc,gc,cc,n2,dc⟩:=hc;show wpAny _ A.in1 (isInstance (.ref c) (.type "list") >>= _) _ _ s;refine wpAny_bind (wpAny_isInstance (T := "list") ⟨oc,gc,cc⟩ (by first | rfl | decide +kernel) ?_);refine wpAny_pure ⟨plainId_quiet MeetsSeq3.plain_eq_loop _,?_⟩;exact Zc0 ga gc da dc hx hy _ 0 rfl (Nat.zero_le _) (Nat.zero_le _) hR
theorem YB {a c:Addr}{xs ys:List Value}{ns ms:List Int}{Q:Bool->Shared->Prop}(ha:s.heap.IsList a xs.toArray)(hc:s.heap.IsList c ys.toArray)(hx:IntsAre xs ns)(hy:IntsAre ys ms)(hu:A.units<cLine)(h:Q (OK ns ms) s) :
  wpAny (model prog w) A (oneLt' true (.ref a) (.ref c)) Q E s:=by
 rw [oneLt'_eq];dsimp only;rw [if_pos rfl];refine wpAny_bind (wpAny_cRoom hu ?_);have Ta:s.TypeIs (.ref a) "list" := ha.elim λo z=>⟨o,z.1,z.2.1⟩;refine wpAny_bind (wpAny_callSpecialIfBound?_slot Ta F.slot_list_lt (call_meets F.slot_list_lt Ta F.entry_list_lt (F.args_list_lt_2 _ _) (Zbh a c xs ys ns ms 0 0 hx hy) ⟨ha,hc,?_⟩));show wpAny _ A (truthOfDropped (.bool (OK ns ms))) Q E s;exact wpAny_truthy_bool h
end
end L2
namespace L2
open PySem PySem.Spec PyProof.Rows Classical
theorem XV:∀xs:List Int,OK xs xs=false
 | []=>rfl
 | x::xs=>by
  unfold OK;rw [if_pos rfl];exact XV xs
theorem ZK:∀{xs ys zs:List Int},OK xs ys=true->OK ys zs=true->OK xs zs=true
 | [],[],_,h,_=>by simp [OK] at h
 | [],_::_,[],_,h=>by simp [OK] at h
 | [],_::_,_::_,_,_=>rfl
 | _::_,[],_,h,_=>by simp [OK] at h
 | _::_,_::_,[],_,h=>by simp [OK] at h
 | x::xs,y::ys,z::zs,h1,h2=>by
  unfold OK at h1 h2 ⊢;by_cases e1:x=y
  ·rw [if_pos e1] at h1;by_cases e2:y=z
   ·rw [if_pos e2] at h2;rw [if_pos (e1.trans e2)];exact ZK h1 h2
   ·rw [if_neg e2] at h2;rw [if_neg (by rw [e1];exact e2),e1];exact h2
  ·rw [if_neg e1] at h1;have h1:=of_decide_eq_true h1;by_cases e2:y=z
   ·rw [if_neg (by rw [<-e2];exact e1),<-e2];exact decide_eq_true h1
   ·rw [if_neg e2] at h2;have h2:=of_decide_eq_true h2;rw [if_neg (by lia)];exact decide_eq_true (by lia)
theorem XW:∀{xs ys:List Int},OK xs ys=false->OK ys xs=false->xs=ys
 | [],[],_,_=>rfl
 | [],_::_,h,_=>by simp [OK] at h
 | _::_,[],_,h=>by simp [OK] at h
 | x::xs,y::ys,h1,h2=>by
  unfold OK at h1 h2;by_cases e:x=y
  ·rw [if_pos e] at h1;rw [if_pos e.symm] at h2;rw [e,XW h1 h2]
  ·rw [if_neg e] at h1;rw [if_neg (Ne.symm e)] at h2;have h1:=of_decide_eq_false h1;have h2:=of_decide_eq_false h2
   lia
theorem Zb6 {α:Type}{κ:Keyed->α}{lt:α->α->Bool}(irr:∀a,lt a a=false)(tr:∀{a b c},lt a b=true->lt b c=true->lt a c=true)(tot:∀{a b},lt a b=false->lt b a=false->a=b):WO (λx y=>lt (κ x) (κ y)):=by
 refine ⟨λx=>irr _,λx y z=>tr,λx y z h=>?_⟩;cases h1:lt (κ x) (κ y) with
 | true=>exact .inl rfl
 | false=>
  cases h2:lt (κ y) (κ x) with
  | true=>exact .inr (tr h2 h)
  | false=>
   rw [<-tot h1 h2];exact .inr h
theorem Wr {α β:Type}{f:α->β}:∀{l:List β}{zs:List α},l.Perm (zs.map f)->∃zs':List α,zs'.Perm zs/\zs'.map f=l:=by
 intro l zs h;generalize hm:zs.map f=m at h
 induction h generalizing zs with
 | nil=>exact ⟨zs,.refl _,by rw [hm]⟩
 | @cons x l1 l2 _ ih=>
  cases zs with
  | nil=>simp at hm
  | cons z zs=>
   simp at hm;obtain ⟨zs',h1,h2⟩:=ih hm.2;exact ⟨z::zs',h1.cons z,by rw [List.map_cons,h2,hm.1]⟩
 | swap x y l=>
  cases zs with
  | nil=>simp at hm
  | cons z zs=>
   cases zs with
   | nil=>simp at hm
   | cons z2 zs=>
    simp at hm;exact ⟨z2::z::zs,.swap _ _ _,by simp [hm.1,hm.2.1,hm.2.2]⟩
 | trans _ _ ih1 ih2=>
  obtain ⟨zs1,h1,h2⟩:=ih2 hm;obtain ⟨zs2,h3,h4⟩:=ih1 h2;exact ⟨zs2,h3.trans h1,h4⟩
section
variable {prog:Program}{w:World}{A:Around}{E:Value->Shared->Prop}{s:Shared}{b:Keyed->Keyed->Bool}{good:Keyed->Prop}
theorem Zbi (h:∀x y,good x->good y->∀{E':Value->Shared->Prop}{Q:Bool->Shared->Prop},Q (b x y) s->wpAny (model prog w) A (oneLt' true x.1 y.1) Q E' s):Ue (model prog w) A E s oneType' b good:=by
 intro x y st Q gx gy hs q;rw [lt'_eq];refine wpS_bind (wpS_get ?_);refine wpS_bind (wpS_lift ?_);rw [hs,keyLt'_oneType];exact wpAny_attempt (h x y gx gy ⟨rfl,wpS_pure q⟩)
theorem O7 {β:Type}{f:Value->Sem β}{g:Value->β}:∀{vs:List Value}{Q:List β->Shared->Prop},(∀v∈vs,∀{Q:β->Shared->Prop},Q (g v) s->wpAny (model prog w) A (f v) Q E s)->Q (vs.map g) s->wpAny (model prog w) A (List.mapM f vs) Q E s
 | [],Q,_,q=>by
  rw [List.mapM_nil];exact wpAny_pure q
 | v::vs,Q,h,q=>by
  rw [List.mapM_cons];refine wpAny_bind (h v (List.mem_cons_self ..) ?_);exact wpAny_bind (O7 (λu hu=>h u (List.mem_cons_of_mem _ hu)) (wpAny_pure q))
theorem Ws {α β:Type}{m:Sem α}{f:α->β}{Q:β->Shared->Prop}(h:wpAny (model prog w) A m (λa s'=>Q (f a) s') E s):wpAny (model prog w) A (f <$> m) Q E s:=by
 rw [map_eq_pure_bind];exact wpAny_bind (wpAny_mono h (λa s' z=>wpAny_pure z) λ_ _ z=>z)
theorem Xj {T:String}{vs:List Value}{R:SortKind->Shared->Prop}(hT:T ≠ "tuple")(h:∀v∈vs,s.TypeIs v T)(h2:2<=vs.length)(q:R oneType' s):wpAny (model prog w) A (keyKind' vs.toArray) R E s:=by
 rw [keyKind'_eq,List.mapM_toArray];have ne:(Value.type T != Value.type "tuple")=true:=by
  rw [bne_iff_ne];intro e;injection e with e
  exact hT e
 refine wpAny_bind (Ws (O7 (g:=λ_=>none) (λv hv Q q=>?_) ?_))
 ·show wpAny _ _ (typeOf v >>= _) _ _ s;refine wpAny_bind (wpAny_typeOf (h v hv) ?_);rw [if_pos ne];exact wpAny_pure q
 ·obtain ⟨v1,v2,rest,rfl⟩:∃v1 v2 rest,vs=v1::v2::rest:=by
   match vs,h2 with
   | v1::v2::rest,_=>exact ⟨v1,v2,rest,rfl⟩
  rw [if_neg (by simp)];rw [if_neg (by simp)];rw [oneTypeOnly'_eq,List.mapM_toArray];refine wpAny_bind (wpAny_bind (Ws (O7 (g:=λ_=>Value.type T) (λv hv Q q=>wpAny_typeOf (h v hv) q) ?_)));simp only [List.map_cons,List.getElem?_toArray,List.getElem?_cons_zero];refine wpAny_pure ?_;rw [if_pos (by simp)];exact wpAny_pure q
end
end L2
namespace L2
open PySem PySem.Spec PyProof.Rows Classical
theorem Uf {b:Keyed->Keyed->Bool}{out:Array Keyed}{n:Nat}(h:Rng b out 0 n)(hn:out.size=n):out.toList.Pairwise (kle b):=by
 rw [List.pairwise_iff_getElem];intro i j hi hj hij;rw [Array.length_toList] at hi hj;exact h i j _ _ (Nat.zero_le _) (by lia) (by lia) (by simp [hi]) (by simp [hj])
theorem XX {vs:List Value}{out:Array Keyed}(h:out.Perm (pairsOf vs)):(out.map (·.2)).toList.Perm vs/\(∀x∈out.toList,x.1=x.2/\x.1∈vs)/\out.size=vs.length:=by
 have p:out.toList.Perm (vs.zip vs):=by
  have:=h.toList;rw [pairsOf_toList] at this;exact this
 refine ⟨?_,λx hx=>mem_zip_self (p.mem_iff.mp hx),by rw [h.size_eq,pairsOf_size]⟩;rw [Array.toList_map];have:=p.map (λx:Keyed=>x.2);rw [show (vs.zip vs).map (λx:Keyed=>x.2)=vs from List.map_snd_zip (Nat.le_refl _)] at this;exact this
noncomputable def Zc1 (h:Heap)(v:Value):List Int:=if q:∃ns a its,v=.ref a/\h.IsList a its/\IntsAre its.toList ns then choose q else []
theorem XY:∀{its:List Value}{ns ms:List Int},IntsAre its ns->IntsAre its ms->ns=ms
 | _,_,_,.nil,.nil=>rfl
 | _,_,_,.cons n t h,.cons _ _ k=>by rw [XY h k]
theorem YC {h:Heap}{a:Addr}{xs ys:Array Value}(h1:h.IsList a xs)(h2:h.IsList a ys):xs=ys:=by
 obtain ⟨o,e,_,n,d⟩:=h1;obtain ⟨o',e',_,n',d'⟩:=h2;rw [e] at e';cases e';rw [d] at d';cases d'
 rfl
theorem VD {h:Heap}{a:Addr}{its:Array Value}{ns:List Int}(hl:h.IsList a its)(hi:IntsAre its.toList ns):Zc1 h (.ref a)=ns:=by
 have q:∃ns a' its,Value.ref a=.ref a'/\h.IsList a' its/\IntsAre its.toList ns:=⟨ns,a,its,rfl,hl,hi⟩;unfold Zc1;rw [dif_pos q];obtain ⟨a',its',e,h1,h2⟩:=choose_spec q;cases e;have:=YC hl h1;subst this;exact XY h2 hi
theorem Zc2 (h:Heap):WO (λx y=>OK (Zc1 h x.1) (Zc1 h y.1)):=Zb6 (κ:=λx:Keyed=>Zc1 h x.1) (lt:=OK) XV ZK XW
section
variable {X:Cx}(K:W.Frag)
def Zc3:List V->Hp->VK->Prop:=λxs H Q=>∃(p:Addr)(zs:List (Addr×List Int)),xs=[.ref p]/\SqL K H p (zs.map λz=>V.ref z.1)/\(∀z∈zs,SqL K H z.1 (z.2.map V.int)) /\
 ∀(l:Addr)(zs':List (Addr×List Int)),H l=none->zs'.Perm zs->(zs'.map (·.2)).Pairwise (λa b=>OK b a=false)->Q (.ref l) (upd H l (.lst (zs'.map λz=>V.ref z.1)))
theorem XZ:∀{zs:List (Addr×List Int)}{its:List Value},Vals (zs.map λz=>V.ref z.1) its->its=zs.map λz=>Value.ref z.1
 | [],_,h=>by cases h;rfl
 | z::zs,_,h=>by
  cases h with
  | cons r h=>
   cases r;rw [XZ h]
   rfl
theorem Wt:∀(zs:List (Addr×List Int)),Vals (zs.map λz=>V.ref z.1) (zs.map λz=>Value.ref z.1)
 | []=>.nil
 | z::zs=>.cons rfl (Wt zs)
theorem Zc4 (hu:X.A.units+64<cLine)(h:X.K=K:=by rfl):JC X (.builtin "sorted") (Zc3 K):=by
 subst h;intro qQ s σ H xs us Q I rv h;obtain ⟨p,zs,rfl,hq,hz,q⟩:=h;obtain ⟨u,rfl,ru⟩:=rv.one;cases ru;obtain ⟨its,r,pl,hzl⟩:=I.list hq;have hl:=r.length;rw [List.length_map] at hl hzl;have ei:=XZ r;have key:∀z∈zs,∃its:Array Value,s.heap.IsList z.1 its/\IntsAre its.toList z.2:=λz hzm=>by
  obtain ⟨iz,rz,pz,_⟩:=I.list (hz z hzm);exact ⟨iz.toArray,pz.isList,OX rz⟩
 have isL:∀v∈its,∃a,∃it:Array Value,∃ns,v=.ref a/\s.heap.IsList a it/\IntsAre it.toList ns:=λv hv=>by
  rw [ei] at hv;obtain ⟨z,hzm,rfl⟩:=List.mem_map.mp hv;obtain ⟨it,h1,h2⟩:=key z hzm;exact ⟨z.1,it,z.2,rfl,h1,h2⟩
 have keepL:∀{h':Heap}{a:Addr}{it:Array Value},(∀c o,s.heap.get? c=some o->h'.get? c=some o)->s.heap.IsList a it->h'.IsList a it:=λk hl=>by
  obtain ⟨o,e,r⟩:=hl;exact ⟨o,k _ _ e,r⟩
 refine U8 (good:=λx=>∃a,∃it:Array Value,∃ns,x.1=.ref a/\s.heap.IsList a it/\IntsAre it.toList ns) (Zc2 s.heap) pl.isList (by lia) isL (λh' k h2 E' R q=>?_) (λh' k=>Zbi λx y gx gy E' Q q=>?_) λout hp hr=>?_
 ·refine Xj (T := "list") (by decide) (λv hv=>?_) h2 q;obtain ⟨a,it,ns,rfl,h1,_⟩:=isL v hv;obtain ⟨o,e,c,_⟩:=keepL k h1;exact ⟨o,e,c⟩
 ·obtain ⟨a,it,ns,e1,h1,h2⟩:=gx;obtain ⟨c,jt,ms,e2,h3,h4⟩:=gy;simp only [e1,e2,VD h1 h2,VD h3 h4] at q ⊢;exact YB (xs:=it.toList) (ys:=jt.toList) (keepL k h1) (keepL k h3) h2 h4 (by rw [Around.in1_units,Around.in1_units];lia) q
 ·obtain ⟨o1,o2,o3⟩:=XX hp;obtain ⟨e,he⟩:=sortedAll_at s.heap its (out.map (·.2));rw [ei] at o1;obtain ⟨zs',p1,p2⟩:=Wr o1;have ps:(zs'.map (·.2)).Pairwise (λa b=>OK b a=false):=by
   have a1:=Uf hr o3;have a2:(out.toList.map (·.2)).Pairwise (λu v=>OK (Zc1 s.heap v) (Zc1 s.heap u)=false):=by
    rw [List.pairwise_map];refine a1.imp_of_mem λ{x y} hx hy hxy=>?_;rw [<-(o2 x hx).1,<-(o2 y hy).1];exact hxy
   rw [Array.toList_map] at p2;rw [<-p2,List.pairwise_map] at a2;rw [List.pairwise_map];refine a2.imp_of_mem λ{x y} hx hy hxy=>?_;obtain ⟨it,h1,h2⟩:=key x (p1.mem_iff.mp hx);obtain ⟨jt,h3,h4⟩:=key y (p1.mem_iff.mp hy);rw [VD h1 h2,VD h3 h4] at hxy;exact hxy
  refine ⟨.ref _,_,I.laid (a:=s.heap.objs.size+1) (t':=s.toks) (o:=.lst (zs'.map λz=>V.ref z.1)) (λb o e=>sortedAll_old e) (Nat.le_succ _) ⟨by rw [List.length_map,p1.length_eq];exact hzl,(out.map (·.2)).toList,e,by rw [<-p2];exact Wt zs',he⟩,rfl,q _ _ (I.hok.fresh (Nat.le_succ _)) p1 ps⟩
end
end L2
namespace L2
open PySem PySem.Spec PyProof.Rows
section
variable {X:Cx}
theorem Inv.freeze {qQ:List (Addr×Obj)}{σ:St}{H:Hp}{s:Shared}{a:Addr}{kvs:List (Key×V)}(I:Inv X qQ σ H s)(e:H a=some (.dK kvs)):∃o,Inv X qQ σ (upd H a (.frz o (.dK kvs))) s:=by
 have ob:ObjOk X.prog X.w H s.heap a (.dK kvs):=I.hok a _ e;obtain ⟨z,hd,vs,r,o,es,ep,h1,h2⟩:=id ob;refine ⟨o,?_⟩;have:=I.write (x:=a) (e:=a) (o:=.frz o (.dK kvs)) (h':=s.heap) (t':=s.toks) (by rw [e];exact True.intro) (.inl rfl) (λb u _ q=>q) ⟨_,h1⟩ ⟨h1,ob⟩;exact this
def ItD (a:Addr)(o:Obj)(kvs:List (Key×V)):It:=
 ⟨λi H=>H a=some (.frz o (.dK kvs))/\i<kvs.length,λi H x H'=>H'=H/\∃k v,kvs[i]?=some (k,v)/\x=kV k,λi H=>H a=some (.frz o (.dK kvs))/\kvs.length<=i⟩
theorem Zb7:∀{kvs:List (Key×V)}{vs:List (Key×Value)}{i:Nat}{k:Key}{v:V},KV kvs vs->kvs[i]?=some (k,v)->∃u,vs[i]?=some (k,u)
 | _,_,i,k,v,.nil,e=>by simp at e
 | p::ps,q::qs,0,k,v,.cons r t,e=>by
  simp at e;subst e;obtain ⟨q1,q2⟩:=q;have:k=q1:=r.1;subst this;exact ⟨q2,rfl⟩
 | p::ps,q::qs,i+1,k,v,.cons _ t,e=>by
  obtain ⟨u,h⟩:=Zb7 (i:=i) t (by simpa using e);exact ⟨u,by simpa using h⟩
theorem Zeq {P:Program}{w:World}{k:Key}{u:Value}(h:(GM P w).is k u=true):RelV (kV k) u:=by
 rcases GT (show WQ k u=true from h) with ⟨i,t,rfl,rfl⟩ | ⟨x,t,rfl,rfl⟩
 ·exact ⟨t,rfl⟩
 ·exact ⟨t,rfl⟩
theorem Xk {qQ:List (Addr×Obj)}{σ:St}{H:Hp}{s:Shared}{a:Addr}{o:Obj}{kvs:List (Key×V)}{es:Array DictEntry}{ep:Nat}(I:Inv X qQ σ H s)(e:H a=some (.frz o (.dK kvs)))(ho:o.data=.dict es ep) :
  ∃vs,KV kvs vs/\s.heap.DictAt (GM X.prog X.w) a vs ep:=by
 obtain ⟨h1,z,hd,vs,r,o',es',ep',h2,h3,h4,h5,h6,h7⟩:=(show ObjOk X.prog X.w H s.heap a (.frz o (.dK kvs)) from I.hok a _ e);rw [h1] at h2;cases h2;rw [ho] at h4;cases h4;exact ⟨vs,r,o,es,h1,h3,ho,h5,h6,h7⟩
theorem ZM {P:Program}{w:World}{K:W.Frag}{tg:Expr}(a it:Addr)(o:Obj)(kvs:List (Key×V))(es:Array DictEntry)(ep:Nat)(ho:o.data=.dict es ep) :
  ZbQ P w K tg (ItD a o kvs) [it] it (λi h=>h.IsKeyIter it a i kvs.length ep) where
 mem:=by simp
 obj:=λi h st b hb=>by
  have e:b=it:=by simpa using hb
  subst e;obtain ⟨o,e,c,d⟩:=st;exact ⟨o,e,λv z=>by rw [d] at z;cases z⟩
 keep:=λi h h' st k=>by
  obtain ⟨o,e,c,d⟩:=st;exact ⟨o,k it (by simp) o e,c,d⟩
 item:=by
  intro X hP hw hK hc i qQ s σ H E I hf st hg;subst hP hw hK;obtain ⟨hq,hi⟩:=hg;obtain ⟨vs,r,da⟩:=Xk I hq ho;have qV:kvs.length=vs.length:=Paired.length r;obtain ⟨⟨k,v⟩,hx⟩:∃x,kvs[i]?=some x:=⟨_,List.getElem?_eq_getElem hi⟩;obtain ⟨u,hu⟩:=Zb7 r hx;obtain ⟨f0,f1,f2,f3,f4,f5⟩:=hf it (by simp);refine wpAny_pyNext_dict_item (knd:=GM X.prog X.w) (kvs:=vs) (by rw [<-qV];exact st) da hu λkey h' hk st' sb=>?_;have I1:Inv X qQ σ H { s with heap:=h' }:=I.turned (t':=s.toks) (λb o hb e=>(sb.2 b hb).trans e) f0 f1 f3 f4 f5;obtain ⟨o',e,c,d⟩:=id st';exact ⟨key,rfl,YW (s:={ s with heap:=h' }) e c d (by decide) ⟨kV k,H,I1,Zeq hk,⟨rfl,k,v,hx,rfl⟩,by rw [qV];exact st',λb hb=>(hf b hb).1⟩⟩
 done:=by
  intro X hP hw hK hc i qQ s σ H E I hf st hg;subst hP hw hK;obtain ⟨hq,hi⟩:=hg;obtain ⟨vs,r,da⟩:=Xk I hq ho;have qV:kvs.length=vs.length:=Paired.length r;obtain ⟨f0,f1,f2,f3,f4,f5⟩:=hf it (by simp);exact wpAny_pyNext_dict_end (knd:=GM X.prog X.w) (I.ok.hd hc) (by rw [<-qV];exact st) da (List.getElem?_eq_none_iff.mpr (by lia)) λh' eb=>⟨rfl,I.turned (t':=s.toks) (λb o hb e=>eb b o hb e) f0 f1 f3 f4 f5⟩
 self:=λ_ _ _ _ _ st h=>wpAny_pyIter_keyiter st h
def Zer (tl:TE):TI:=λσ H R=>tl σ H λx H1=>∃a o kvs,x=.ref a/\H1 a=some (.frz o (.dK kvs))/\R (ItD a o kvs) H1
theorem Zbj {tg l:Expr}{tl:TE}(hl:PE X l tl):PI X tg l (Zer tl):=by
 intro qQ s σ H R I h;refine thn (hl qQ s σ H _ I h) λv s1 ⟨x,H1,I1,r1,q1⟩=>?_;obtain ⟨a,o,kvs,e,hq,q⟩:=q1;subst e;cases r1;obtain ⟨h1,z,hd,vs0,r0,o',es,ep,h2,h3,h4,h5⟩:=(show ObjOk X.prog X.w H1 s1.heap a (.frz o (.dK kvs)) from I1.hok a _ hq);rw [h1] at h2;cases h2;obtain ⟨vs,r,da⟩:=Xk I1 hq h4;have qV:kvs.length=vs.length:=Paired.length r;refine wpAny_pyIter_dict (knd:=GM X.prog X.w) hd da ?_;refine ⟨s1.heap.objs.size,[s1.heap.objs.size],_,_,H1,rfl,I1.kept (t':=s1.toks) λb o e=>Heap.get?_push_of_some _ e,ZM a _ o kvs es ep h4,⟨_,Heap.get?_push_size _ rfl,rfl,by rw [qV];rfl⟩,λb hb=>?_,q⟩;have e:b=s1.heap.objs.size:=by simpa using hb
 subst e;exact I1.fpOk (Nat.le_refl _) (I1.hok.fresh (Nat.le_refl _))
theorem YD {a D:Addr}{o:Obj}{kvs:List (Key×V)}{g:TG}{tc:TT}{te:TE}{σ0:St}{R:Hp->Prop}{H1:Hp}(Pv:Nat->List V->Hp->Prop)(h0:Pv 0 [] (upd H1 D (.lst [])))(hl:∀i ys H,i<=kvs.length->Pv i ys H->H a=some (.frz o (.dK kvs)))(hs:∀i k v ys H,kvs[i]?=some (k,v)->Pv i ys H->g (kV k) σ0 H λσ4 H4=>Oo σ0 σ4/\tc σ4 H4 λb H5=>if b=true then te σ4 H5 λy H6=>H6 D=some (.lst ys)/\ys.length<sizeLine/\Pv (i+1) (ys++[y]) (upd H6 D (.lst (ys++[y]))) else Pv (i+1) ys H5)(hd:∀ys H,Pv kvs.length ys H->R H):∃W:Nat->Nat->List V->Hp->Prop,(∃m,W 0 m [] (upd H1 D (.lst [])))/\Jq (ItD a o kvs) D g tc te σ0 W R:=by
 refine ⟨λi m ys H=>m=kvs.length-i/\i<=kvs.length/\Pv i ys H,⟨_,rfl,Nat.zero_le _,h0⟩,?_⟩;rintro i m ys H ⟨rfl,hi,p⟩;have q:=hl i ys H hi p;by_cases hlt:i<kvs.length
 ·refine .inr ⟨⟨q,hlt⟩,Pv (i+1),λys' H' p'=>⟨kvs.length-(i+1),by lia,rfl,hlt,p'⟩,λx H' y=>?_⟩;obtain ⟨e,k,v,ek,rfl⟩:=y;subst e;exact hs i k v ys _ ek p
 ·have e:i=kvs.length:=by lia
  subst e;exact .inl ⟨⟨q,Nat.le_refl _⟩,hd ys H p⟩
theorem Zhu {qQ:List (Addr×Obj)}{σ:St}{H:Hp}{s:Shared}{a:Addr}{kvs:List (Key×V)}{A:Around}{E:Value->Shared->Prop}{Q:Bool->Shared->Prop}(I:Inv X qQ σ H s)(e:Rd H a (.dK kvs))(q:∀s',Inv X qQ σ H s'->Q (!kvs.isEmpty) s'):wpAny (model X.prog X.w) A (truthy (.ref a)) Q E s:=by
 obtain ⟨hz,hS,vs,r,m⟩:=Wj I.hok e;have hl:=Uc;have qV:kvs.length=vs.length:=Paired.length r;exact wpAny_truthy_dict hS m (by lia) (by rw [UY r];exact q _ (I.tok _))
theorem ZN {a:Expr}{ta:TE}(ha:PE X a ta)(he:∀whole,isTrue a X.env whole=(do let v <- whole;standAt a.pos;holding [v] (truthy v))) :
  PT X a (λσ H Q=>ta σ H λx H'=>∃p kvs,x=.ref p/\Rd H' p (.dK kvs)/\Q (!kvs.isEmpty) H'):=by
 intro qQ s σ H Q I h;refine isTrue_plain (thn (ha qQ s σ H _ I h) λv s1 ⟨x,H1,I1,r1,p,kvs,e,rd,q1⟩=>?_) (he _);subst e;cases r1;exact Zhu I1 rd λs' I'=>⟨H1,I',q1⟩
theorem ZO {prog:Program}{w:World}{A:Around}{I:Addr}{fp wr:List Addr}{n:Nat}{P:Nat->Value->Prop}{St:Nat->Heap->Prop}{J:Heap->Prop}{R:Result->Shared->Prop}(W:Walks prog w A.in1 I fp wr n P St)(tr:Nat->Bool)(ht:∀(s:Shared)(i:Nat)(v:Value)(Q:Bool->Shared->Prop)(E:Value->Shared->Prop),J s.heap->P i v->(∀tk,Q (tr i) { s with toks:=tk })->wpAny (model prog w) A.in1 (truthy v) Q E s)(keepJ:∀h h':Heap,J h->(∀b o,b ∉ wr->h.get? b=some o->h'.get? b=some o)->J h') :
  ∀(k i:Nat)(s:Shared),n-i=k->i<=n->St i s.heap->J s.heap->(∀h' tk,(∀b o,b ∉ wr->s.heap.get? b=some o->h'.get? b=some o)->R (.ok (.ret (.bool (((List.range n).drop i).all tr)))) { s with heap:=h',toks:=tk }) ->
  codeAny (model prog w) A (.builtin "all.loop" ⟨[.ref I],[]⟩) R s:=by
 intro k
 induction k with
 | zero=>
  intro i s hk hi st j hR;have en:i=n:=by lia
  subst en;refine codeAny_builtin F.entry_all_loop ?_;rw [Around.under_plainId F.plain_all_loop _];unfold Builtin.«all.loop»;refine wpAny_bind (W.done s _ _ st λh' tk kept=>?_);refine wpAny_bind (wpAny_rule ?_);have:=hR h' tk kept;rw [List.drop_of_length_le (by rw [List.length_range];exact Nat.le_refl _)] at this;exact wpAny_pure this
 | succ k ih=>
  intro i s hk hi st j hR;refine codeAny_builtin F.entry_all_loop ?_;rw [Around.under_plainId F.plain_all_loop _];unfold Builtin.«all.loop»;refine wpAny_bind (W.item i s _ _ (by lia) st λv h' tk pv st' kept=>?_);have j':=keepJ _ _ j kept;refine wpAny_bind (wpAny_holding (ht _ i v _ _ j' pv λtk2=>wpAny_bind (wpAny_letGo ?_)));have ed:(List.range n).drop i=i::(List.range n).drop (i+1):=by
   rw [List.drop_eq_getElem_cons (by rw [List.length_range];lia),List.getElem_range]
  cases hb:tr i with
  | true=>
   rw [if_pos rfl];refine wpAny_pure ⟨plainId_quiet F.plain_all_loop _,ih (i+1) _ (by lia) (by lia) st' j' λh2 tk3 k2=>?_⟩;have:=hR h2 tk3 λb o nb e=>k2 b o nb (kept b o nb e);rw [ed,List.all_cons,hb,Bool.true_and] at this;exact this
  | false=>
   rw [if_neg Bool.false_ne_true];refine wpAny_bind (wpAny_rule ?_);have:=hR h' tk2 kept;rw [ed,List.all_cons,hb,Bool.false_and] at this;exact wpAny_pure this
theorem ZfE (K:PySem.W.Frag)(hc:X.calm=true)(h:X.K=K:=by rfl):JC X (.builtin "all") (λxs H Q=>∃(p:Addr)(zs:List (Addr×List V)),xs=[.ref p]/\SqL K H p (zs.map λz=>V.ref z.1)/\(∀z∈zs,SqL K H z.1 z.2)/\Q (.bl (zs.all λz=>!z.2.isEmpty)) H):=by
 subst h;intro qQ s σ H xs us Q I rv h;obtain ⟨p,zs,rfl,hq,hz,q⟩:=h;obtain ⟨u,rfl,ru⟩:=rv.one;cases ru;obtain ⟨its,r,pl,hzl⟩:=I.list hq;have hh:X.A.in1.handled=none:=I.ok.hd hc;obtain ⟨o,eo,_⟩:=id pl.isList;have hlt:p<s.heap.objs.size:=Heap.lt_size eo;have qV:=r.length;rw [List.length_map] at qV;have ge:∀(i:Nat)(v:Value),its.toArray[i]?=some v->∃z,zs[i]?=some z/\v=.ref z.1:=λi v hv=>by
  have hv':its[i]?=some v:=by simpa using hv
  have hi:i<its.length:=(List.getElem?_eq_some_iff.mp hv').1;obtain ⟨z,e⟩:∃z,zs[i]?=some z:=⟨_,List.getElem?_eq_getElem (by lia)⟩;obtain ⟨u,hu,ru⟩:=r.get (show (zs.map λz=>V.ref z.1)[i]?=some (V.ref z.1) by rw [List.getElem?_map,e];rfl);rw [hv'] at hu;cases hu;exact ⟨z,e,ru⟩
 refine call_function_tree PySem.F.kind_all PySem.F.plain_all PySem.F.entry_all (PySem.F.args_all1 _) ?_;show wpAny _ _ (oneArg "all" ⟨[.ref p],[]⟩ >>= _) _ _ s;refine wpAny_bind (wpAny_bind (wpAny_pure (wpAny_pure ?_)));refine wpAny_bind (wpAny_pyIter_list pl.isList ?_);refine wpAny_pure ⟨plainId_quiet F.plain_all_loop _,?_⟩;have kz:∀z∈zs,∃iz:List Value,Vals z.2 iz/\s.heap.IsList z.1 iz.toArray/\z.2.length<=sizeLine:=λz hzm=>by
  obtain ⟨iz,rz,pz,lz⟩:=I.list (hz z hzm);exact ⟨iz,rz,pz.isList,lz⟩
 have zlt:∀z∈zs,z.1<s.heap.objs.size:=λz hzm=>by
  obtain ⟨iz,_,pz,_⟩:=kz z hzm;obtain ⟨o,e,_⟩:=pz;exact Heap.lt_size e
 have W:=Walks.list (prog:=X.prog) (w:=X.w) hh s.heap.objs.size p (Nat.ne_of_lt hlt) its.toArray;refine ZO (J:=λh=>∀z∈zs,∃iz:List Value,Vals z.2 iz/\h.IsList z.1 iz.toArray/\z.2.length<=sizeLine/\z.1<s.heap.objs.size) W (λi=>match zs[i]? with | some z=>!z.2.isEmpty | none=>true) (λs' i v Q' E' j pv q'=>?_) (λh h' j k z hzm=>?_) its.toArray.size 0 _ rfl (Nat.zero_le _)
  ⟨⟨_,Heap.get?_push_size _ rfl,rfl,rfl⟩,pl.isList.at λo e=>Heap.get?_push_of_some _ e⟩ (λz hzm=>?_) (λh' tk hk=>?_)
 ·obtain ⟨z,ez,rfl⟩:=ge i v pv;obtain ⟨iz,rz,pz,lz,_⟩:=j z (List.mem_of_getElem? ez);rw [ez] at q';have hl:=Uc;have:=rz.length;exact wpAny_truthy_list pz (by simp only [List.size_toArray];lia) (by rw [OW rz];exact q' _)
 ·obtain ⟨iz,rz,pz,lz,zl⟩:=j z hzm;refine ⟨iz,rz,pz.at λo e=>k _ o ?_ e,lz,zl⟩;intro y;have:z.1=s.heap.objs.size:=by simpa using y
  exact absurd zl (by rw [this];exact Nat.lt_irrefl _)
 ·obtain ⟨iz,rz,pz,lz⟩:=kz z hzm;exact ⟨iz,rz,pz.at λo e=>Heap.get?_push_of_some _ e,lz,zlt z hzm⟩
 ·refine ⟨.bl _,H,I.kept λb o e'=>hk b o ?_ (Heap.get?_push_of_some _ e'),?_,q⟩
  ·intro z;have:b=s.heap.objs.size:=by simpa using z
   exact absurd (Heap.lt_size e') (by rw [this];exact Nat.lt_irrefl _)
  ·show Value.bool _=Value.bool _
   congr 1
   rw [List.size_toArray,<-qV,List.drop_zero];clear hk W kz zlt ge qV hzl pl r hq hz q
   induction zs with
   | nil=>rfl
   | cons z zs ih=>
    rw [List.length_cons,List.range_succ_eq_map,List.all_cons,List.all_map,List.all_cons]
    congr 1
theorem ZgN (K:W.Frag)(hc:X.calm=true)(h:X.K=K:=by rfl):JC X (.builtin "any") (λxs H Q=>∃(p:Addr)(bs:List Bool),xs=[.ref p]/\SqL K H p (bs.map V.bl)/\Q (.bl (bs.any id)) H):=by
 subst h;intro qQ s σ H xs us Q I rv h;obtain ⟨p,bs,rfl,hq,q⟩:=h;obtain ⟨u,rfl,ru⟩:=rv.one;cases ru;obtain ⟨its,r,pl,hz⟩:=I.list hq;have e:=UC r;have hh:X.A.in1.handled=none:=I.ok.hd hc;obtain ⟨o,eo,_⟩:=id pl.isList;have hlt:p<s.heap.objs.size:=Heap.lt_size eo;refine call_any_walk (wpAny_pyIter_list pl.isList ?_);refine ⟨s.heap.objs.size,_,_,_,_,_,λi=>bs.getD i false,rfl,Walks.list hh s.heap.objs.size p (Nat.ne_of_lt hlt) its.toArray,⟨⟨_,Heap.get?_push_size _ rfl,rfl,rfl⟩,pl.isList.at λo e=>Heap.get?_push_of_some _ e⟩,?_,λh' tk hk=>?_⟩
 ·intro i v s' Q' E' hv hq';have hv':its[i]?=some v:=by simpa using hv
  rw [e,List.getElem?_map] at hv';cases z:bs[i]? with
  | none=>rw [z] at hv';cases hv'
  | some b=>
   rw [z] at hv';cases hv';have eb:bs.getD i false=b:=by rw [List.getD_eq_getElem?_getD,z];rfl
   exact wpAny_truthy_bool (by rw [<-eb];exact hq')
 ·have hl:its.toArray.size=bs.length:=by rw [List.size_toArray,e,List.length_map]
  refine ⟨.bl _,H,I.kept λb o e'=>hk b o ?_ (Heap.get?_push_of_some _ e'),?_,q⟩
  ·intro z;have:b=s.heap.objs.size:=by simpa using z
   exact absurd (Heap.lt_size e') (by rw [this];exact Nat.lt_irrefl _)
  ·show Value.bool _=Value.bool _
   congr 1
   rw [hl];clear hk hl hz pl r hq e q
   induction bs with
   | nil=>rfl
   | cons b bs ih=>
    rw [List.length_cons,List.range_succ_eq_map,List.any_cons,List.any_map,List.any_cons];show (b || _)=(b || _)
    congr 1
theorem X0:bootBuiltins "any" = some (.builtin "any"):=by first | rfl | decide +kernel
theorem Zbk:bootBuiltins "sum" = some (.builtin "sum"):=by first | rfl | decide +kernel
end
end L2
namespace L2
open PySem PySem.Spec PyProof.Rows
mutual
inductive Th (H:Hp):V->PyData->Prop
 | non:Th H .non .none
 | bl (b:Bool):Th H (.bl b) (.bool b)
 | int (i:Int):Th H (.int i) (.int i)
 | str (x:Str):Th H (.str x) (.str x)
 | lst {a:Addr} {xs:List V} {ds:List PyData}:H a=some (.lst xs)->xs.length<=1000->Ths H xs ds->Th H (.ref a) (.list ds)
 | tup {a:Addr} {xs:List V} {ds:List PyData}:H a=some (.tup xs)->xs.length<=1000->Ths H xs ds->Th H (.ref a) (.tuple ds)
inductive Ths (H:Hp):List V->List PyData->Prop
 | nil:Ths H [] []
 | cons {x:V} {d:PyData} {xs:List V} {ds:List PyData}:Th H x d->Ths H xs ds->Ths H (x::xs) (d::ds)
end
mutual
theorem Th.same {H H':Hp}(s:Same H H'):∀{v:V}{d:PyData},Th H v d->Th H' v d
 | _,_,.non=>.non
 | _,_,.bl b=>.bl b
 | _,_,.int i=>.int i
 | _,_,.str x=>.str x
 | _,_,.lst e z h=>.lst (s _ _ e) z (Ths.same s h)
 | _,_,.tup e z h=>.tup (s _ _ e) z (Ths.same s h)
theorem Ths.same {H H':Hp}(s:Same H H'):∀{vs:List V}{ds:List PyData},Ths H vs ds->Ths H' vs ds
 | _,_,.nil=>.nil
 | _,_,.cons h t=>.cons (Th.same s h) (Ths.same s t)
end
section
variable {X:Cx}{a:Expr}{ta:TE}{pos:Pos}
theorem ZP (K:W.Frag)(h:X.K=K:=by rfl):JC X (.type "tuple") (λxs H Q=>∃p ys,xs=[.ref p]/\((SqL K H p ys/\∀l,H l=none->Q (.ref l) (upd H l (.tup ys)))\/(SqT K H p ys/\Q (.ref p) H))):=h▸Vn
end
end L2
namespace L2
open PySem PySem.Spec PyProof.Rows
section
variable {prog:Program}{w:World}{A:Around}{E:Value->Shared->Prop}{s:Shared}
theorem ZQ {it d:Addr}{i ep:Nat}{es:Array DictEntry}{o:Obj}{e:DictEntry}{Q:Value->Shared->Prop}(hit:s.heap.IsKeyIter it d i es.size ep)(ho:s.heap.get? d=some o)(hd:o.data=.dict es ep)(hi:es[i]?=some e)(q:∀h',h'.IsKeyIter it d (i+1) es.size ep->Heap.SameBut it s.heap h'->Q e.key { s with heap:=h' }):wpAny (model prog w) A (Builtin.«dict_keyiterator.__next__» ⟨[.ref it],[]⟩) (λfin s'=>∃v,fin=.done (.ret v)/\Q v s') E s:=by
 obtain ⟨⟨c0,d0,t0,sl0⟩,hoi,hci,hdi⟩:=id hit;subst hci hdi;have T:=hit.typeIs
 wp_walk using wpAny_fieldsOf hoi rfl,wpAny_dictEntries ho hd,wpAny_dictEpoch ho hd,wpAny_typeNameOfWhole_keyiter T,wpAny_isOneOf_keyiter T
 rw [if_neg (by lia),Int.toNat_natCast,hi]
 wp_walk using wpAny_typeNameOfWhole_keyiter T,wpAny_isOneOf_keyiter T,wpAny_setField hoi rfl
 case hi=>exact (by decide:(0:Nat)+1<4)
 case h=>
  have K1:(s.heap.update it (Obj.mapFields (·.setIfInBounds 1 (rawInt ((i:Int)+1))))).IsKeyIter it d (i+1) es.size ep:=by
   exact ⟨_,Heap.get?_update_self _ hoi rfl,rfl,rfl⟩
  have B1:Heap.SameBut it s.heap (s.heap.update it (Obj.mapFields (·.setIfInBounds 1 (rawInt ((i:Int)+1))))):=Heap.SameBut.update ..;have T1:=K1.typeIs (s:={ s with heap:=s.heap.update it (Obj.mapFields (·.setIfInBounds 1 (rawInt ((i:Int)+1)))) });show wpAny _ _ _ _ _ { s with heap:=s.heap.update it (Obj.mapFields (·.setIfInBounds 1 (rawInt ((i:Int)+1)))) };generalize s.heap.update it (Obj.mapFields (·.setIfInBounds 1 (rawInt ((i:Int)+1))))=h1 at K1 B1 T1 ⊢
  wp_walk using wpAny_isOneOf_keyiter T1
  exact ⟨_,rfl,q _ K1 B1⟩
theorem ZR {it d:Addr}{i ep:Nat}{es:Array DictEntry}{o:Obj}{Q:Value->Shared->Prop}(hh:A.handled=none)(hit:s.heap.IsKeyIter it d i es.size ep)(ho:s.heap.get? d=some o)(hd:o.data=.dict es ep)(hi:es[i]?=none)(q:∀h' e,(∀c o,c≠it->s.heap.get? c=some o->h'.get? c=some o)->(∃o,h'.get? e=some o/\o.cls=.type "StopIteration")->E (.ref e) { s with heap:=h' }):wpAny (model prog w) A (Builtin.«dict_keyiterator.__next__» ⟨[.ref it],[]⟩) (λfin s'=>∃v,fin=.done (.ret v)/\Q v s') E s:=by
 obtain ⟨⟨c0,d0,t0,sl0⟩,hoi,hci,hdi⟩:=id hit;subst hci hdi;have T:=hit.typeIs
 wp_walk using wpAny_fieldsOf hoi rfl,wpAny_dictEntries ho hd,wpAny_dictEpoch ho hd,wpAny_typeNameOfWhole_keyiter T,wpAny_isOneOf_keyiter T
 rw [if_neg (by lia),Int.toNat_natCast,hi]
 wp_walk using wpAny_typeNameOfWhole_keyiter T,wpAny_setField hoi rfl
 case hi=>exact (by decide:(0:Nat)<4)
 case h=>
  have B1:Heap.SameBut it s.heap (s.heap.update it (Obj.mapFields (·.setIfInBounds 0 Value.none))):=Heap.SameBut.update ..;show wpAny _ _ _ _ _ { s with heap:=s.heap.update it (Obj.mapFields (·.setIfInBounds 0 Value.none)) };generalize s.heap.update it (Obj.mapFields (·.setIfInBounds 0 Value.none))=h1 at B1 ⊢
  wp_walk using wpAny_raiseNew_none hh
  exact q _ _ (λc o n e=>Heap.get?_push_of_some _ (Heap.get?_push_of_some _ (by rw [B1.2 c n];exact e))) ⟨_,Heap.get?_push_size _ rfl,rfl⟩
theorem ZS {it d:Addr}{i ep:Nat}{es:Array DictEntry}{o:Obj}{e:DictEntry}{Q:Option Value->Shared->Prop}(hit:s.heap.IsKeyIter it d i es.size ep)(ho:s.heap.get? d=some o)(hd:o.data=.dict es ep)(hi:es[i]?=some e)(q:∀h',h'.IsKeyIter it d (i+1) es.size ep->Heap.SameBut it s.heap h'->Q (some e.key) { s with heap:=h' }):wpAny (model prog w) A (pyNext (.ref it)) Q E s:=by
 refine wpAny_bind (wpAny_attempt (wpAny_callSpecial?_slot hit.typeIs F.slot_dict_keyiterator_next (wpAny_call_entry F.slot_dict_keyiterator_next hit.typeIs F.entry_dict_keyiterator_next (ZQ hit ho hd hi λh' k b=>?_) (F.args_dict_keyiterator_next_1 _))))
 wp_walk
 exact q h' k b
theorem ZT {it d:Addr}{i ep:Nat}{es:Array DictEntry}{o:Obj}{Q:Option Value->Shared->Prop}(hh:A.in1.handled=none)(hit:s.heap.IsKeyIter it d i es.size ep)(ho:s.heap.get? d=some o)(hd:o.data=.dict es ep)(hi:es[i]?=none)(q:∀h',(∀c o,c≠it->s.heap.get? c=some o->h'.get? c=some o)->Q none { s with heap:=h' }):wpAny (model prog w) A (pyNext (.ref it)) Q E s:=by
 refine wpAny_bind (wpAny_attempt (wpAny_callSpecial?_slot hit.typeIs F.slot_dict_keyiterator_next (wpAny_call_entry F.slot_dict_keyiterator_next hit.typeIs F.entry_dict_keyiterator_next (ZR hh hit ho hd hi ?_) (F.args_dict_keyiterator_next_1 _))));rintro h' e k ⟨o',e1,e2⟩;exact wpAny_bind (wpAny_isInstance ⟨o',e1,e2⟩ isSubtype_stop (wpAny_pure (q h' k)))
theorem ZU {d:Addr}{ep:Nat}{es:Array DictEntry}{o:Obj}{Q:Value->Shared->Prop}(hs:(d == sysModules)=false)(ho:s.heap.get? d=some o)(hc:o.ExactDict)(hd:o.data=.dict es ep)(q:∀h',h'.IsKeyIter s.heap.objs.size d 0 es.size ep->(∀c o,s.heap.get? c=some o->h'.get? c=some o)->Q (.ref s.heap.objs.size) { s with heap:=h' }):wpAny (model prog w) A (pyIter (.ref d)) Q E s:=by
 have T:s.TypeIs (.ref d) "dict" := ⟨o,ho,hc.1⟩;refine wpAny_pyIter_slot T F.slot_dict_iter (wpAny_call_entry F.slot_dict_iter T F.entry_dict_iter ?_ (F.args_dict_iter_1 _))
 wp_walk using wpAny_notOrdered_dict T,wpAny_dictEntries ho hd,wpAny_dictEpoch ho hd
 exact ⟨_,rfl, "dict_keyiterator", _,⟨_,Heap.get?_push_size _ rfl,rfl⟩,F.slot_dict_keyiterator_next.lookup,q _ ⟨_,Heap.get?_push_size _ rfl,rfl,rfl⟩ λc o e=>Heap.get?_push_of_some _ e⟩
end
end L2
namespace L2
open PySem PySem.Spec PyProof.Rows
section
variable {X:Cx}
theorem Inv.freezeT {qQ:List (Addr×Obj)}{σ:St}{H:Hp}{s:Shared}{a:Addr}{kvs:List (List Key×V)}(I:Inv X qQ σ H s)(e:H a=some (.dT kvs)):∃o,Inv X qQ σ (upd H a (.frz o (.dT kvs))) s:=by
 have ob:ObjOk X.prog X.w H s.heap a (.dT kvs):=I.hok a _ e;obtain ⟨z,hd,xs,r,o,es,ep,h1,h2⟩:=id ob;have nt:∀b ys,H b=some (.tup ys)->upd H a (.frz o (.dT kvs)) b=some (.tup ys):=λb ys q=>by rw [Gy (JY q e (λz=>by cases z))];exact q
 refine ⟨o,I.write (x:=a) (e:=a) (o:=.frz o (.dT kvs)) (h':=s.heap) (t':=s.toks) (by rw [e];exact True.intro) (.inl rfl) (λb u _ q=>q) ⟨_,h1⟩ ⟨h1,z,hd,xs,Paired.mapP r λp q y=>⟨y.1,nt _ _ y.2.1,y.2.2⟩,o,es,ep,h1,h2⟩⟩
def ItT (a:Addr)(o:Obj)(kvs:List (List Key×V)):It:=
 ⟨λi H=>H a=some (.frz o (.dT kvs))/\i<kvs.length,λi H x H'=>H'=H/\∃k v b,kvs[i]?=some (k,v)/\x=.ref b/\H b=some (.tup (k.map kV)),λi H=>H a=some (.frz o (.dT kvs))/\kvs.length<=i⟩
theorem Zbl {α β:Type}{F:α->β->Prop}{l:List α}{m:List β}(h:Paired F l m):∀{i:Nat}{x:α},l[i]?=some x->∃y,m[i]?=some y/\F x y:=by
 induction h with
 | nil=>intro i x e;simp at e
 | @cons p q _ _ r _ ih=>
  intro i x e;cases i with
  | zero=>simp at e;subst e;exact ⟨q,by simp,r⟩
  | succ i=>simp at e;obtain ⟨y,h1,h2⟩:=ih e;exact ⟨y,by simpa using h1,h2⟩
theorem VE {qQ:List (Addr×Obj)}{σ:St}{H:Hp}{s:Shared}{a:Addr}{o:Obj}{kvs:List (List Key×V)}(I:Inv X qQ σ H s)(e:H a=some (.frz o (.dT kvs))) :
  (a == sysModules)=false/\s.heap.get? a=some o/\o.ExactDict/\∃es ep,o.data=.dict es ep/\es.size=kvs.length/\∀(i:Nat) k v,kvs[i]?=some (k,v)->∃(de:DictEntry)(b:Addr),es[i]?=some de/\de.key=.ref b/\H b=some (.tup (k.map kV)):=by
 obtain ⟨h1,z,hd,xs,r,o',es,ep,h2,h3,h4,h5,h6⟩:=(show ObjOk X.prog X.w H s.heap a (.frz o (.dT kvs)) from I.hok a _ e);rw [h1] at h2;cases h2;refine ⟨hd,h1,h3,es,ep,h4,?_,λi k v hi=>?_⟩
 ·rw [<-Array.length_toList,h5,List.length_map,Paired.length r]
 ·obtain ⟨⟨k',b,u⟩,hq,e1,e2,_⟩:=Zbl r hi;refine ⟨entryOfKey (tupleKind (GM X.prog X.w)) (k',b,u),b,?_,rfl,e2⟩;rw [<-Array.getElem?_toList,h5,List.getElem?_map,hq]
  rfl
theorem YE {P:Program}{w:World}{K:W.Frag}{tg:Expr}(a it:Addr)(o:Obj)(kvs:List (List Key×V))(es:Array DictEntry)(ep:Nat)(ho:o.data=.dict es ep)(hsz:es.size=kvs.length) :
  ZbQ P w K tg (ItT a o kvs) [it] it (λi h=>h.IsKeyIter it a i es.size ep) where
 mem:=by simp
 obj:=λi h st b hb=>by
  have e:b=it:=by simpa using hb
  subst e;obtain ⟨o,e,c,d⟩:=st;exact ⟨o,e,λv z=>by rw [d] at z;cases z⟩
 keep:=λi h h' st k=>by
  obtain ⟨o,e,c,d⟩:=st;exact ⟨o,k it (by simp) o e,c,d⟩
 item:=by
  intro X hP hw hK hc i qQ s σ H E I hf st hg;subst hP hw hK;obtain ⟨hq,hi⟩:=hg;obtain ⟨hd,h1,h2,es',ep',h3,h4,h5⟩:=VE I hq;rw [ho] at h3;cases h3;obtain ⟨⟨k,v⟩,hx⟩:∃x,kvs[i]?=some x:=⟨_,List.getElem?_eq_getElem hi⟩;obtain ⟨de,b,hde,hkey,hb⟩:=h5 i k v hx;obtain ⟨f0,f1,f2,f3,f4,f5⟩:=hf it (by simp);refine ZS st h1 ho hde λh' st' sb=>?_;have I1:Inv X qQ σ H { s with heap:=h' }:=I.turned (t':=s.toks) (λb o hb e=>(sb.2 b hb).trans e) f0 f1 f3 f4 f5;obtain ⟨o',e,c,d⟩:=id st';exact ⟨de.key,rfl,YW (s:={ s with heap:=h' }) e c d (by decide) ⟨.ref b,H,I1,hkey,⟨rfl,k,v,b,hx,rfl,hb⟩,st',λb hb=>(hf b hb).1⟩⟩
 done:=by
  intro X hP hw hK hc i qQ s σ H E I hf st hg;subst hP hw hK;obtain ⟨hq,hi⟩:=hg;obtain ⟨hd,h1,h2,es',ep',h3,h4,h5⟩:=VE I hq;rw [ho] at h3;cases h3;obtain ⟨f0,f1,f2,f3,f4,f5⟩:=hf it (by simp);exact ZT (I.ok.hd hc) st h1 ho (Array.getElem?_eq_none (by lia)) λh' eb=>⟨rfl,I.turned (t':=s.toks) (λb o hb e=>eb b o hb e) f0 f1 f3 f4 f5⟩
 self:=λ_ _ _ _ _ st h=>wpAny_pyIter_keyiter st h
def Zes (tl:TE):TI:=λσ H R=>tl σ H λx H1=>∃a kvs,x=.ref a/\((H1 a=some (.dT kvs)/\∀o,R (ItT a o kvs) (upd H1 a (.frz o (.dT kvs))))\/∃o,H1 a=some (.frz o (.dT kvs))/\R (ItT a o kvs) H1)
theorem VF {tg l:Expr}{tl:TE}(hl:PE X l tl):PI X tg l (Zes tl):=by
 intro qQ s σ H R I h;refine thn (hl qQ s σ H _ I h) λv s1 ⟨x,H1,I1,r1,q1⟩=>?_;obtain ⟨a,kvs,e,q⟩:=q1;subst e;cases r1;obtain ⟨o,H2,I2,hq,q2⟩:∃o H2,Inv X qQ σ H2 s1/\H2 a=some (.frz o (.dT kvs))/\R (ItT a o kvs) H2:=by
  rcases q with ⟨e,q⟩ | ⟨o,e,q⟩
  ·obtain ⟨o,I2⟩:=I1.freezeT e;exact ⟨o,_,I2,Gb,q o⟩
  ·exact ⟨o,H1,I1,e,q⟩
 obtain ⟨hd,h1,h2,es,ep,h3,h4,h5⟩:=VE I2 hq;refine ZU hd h1 h2 h3 λh' st kp=>?_;refine ⟨s1.heap.objs.size,[s1.heap.objs.size],_,_,H2,rfl,I2.kept (t':=s1.toks) kp,YE a _ o kvs es ep h3 h4,st,λb hb=>?_,q2⟩;have e:b=s1.heap.objs.size:=by simpa using hb
 subst e;exact I2.fpOk (Nat.le_refl _) (I2.hok.fresh (Nat.le_refl _))
theorem ZV {a:Addr}{o:Obj}{kvs:List (List Key×V)}{g:TG}{tb:TS}{D:Ends}{σ:St}{H:Hp}(Pv:Nat->St->Hp->Prop)(h0:Pv 0 σ H)(hl:∀i σ H,i<=kvs.length->Pv i σ H->H a=some (.frz o (.dT kvs)))(hs:∀i k v b σ H,kvs[i]?=some (k,v)->H b=some (.tup (k.map kV))->Pv i σ H->g (.ref b) σ H λσ2 H2=>tb { D with nx:=Pv (i+1),ct:=Pv (i+1),bk:=D.nx } σ2 H2)(hd:∀ σ H,Pv kvs.length σ H->D.nx σ H) :
  ∃W:Nat->Nat->St->Hp->Prop,(∃m,W 0 m σ H)/\∀i m σ H,W i m σ H ->
   ((ItT a o kvs).stop i H/\D.nx σ H)\/((ItT a o kvs).go i H/\∃N:St->Hp->Prop,(∀ σ' H',N σ' H'->∃m',m'<m/\W (i+1) m' σ' H')/\∀x H',(ItT a o kvs).yld i H x H'->g x σ H' λσ2 H2=>tb { D with nx:=N,ct:=N,bk:=D.nx } σ2 H2):=by
 refine ⟨λi m σ H=>m=kvs.length-i/\i<=kvs.length/\Pv i σ H,⟨_,rfl,Nat.zero_le _,h0⟩,?_⟩;rintro i m σ H ⟨rfl,hi,p⟩;have q:=hl i σ H hi p;by_cases hlt:i<kvs.length
 ·refine .inr ⟨⟨q,hlt⟩,Pv (i+1),λσ' H' p'=>⟨kvs.length-(i+1),by lia,rfl,hlt,p'⟩,λx H' y=>?_⟩;obtain ⟨e,k,v,b,ek,rfl,eb⟩:=y;subst e;exact hs i k v b σ _ ek eb p
 ·have e:i=kvs.length:=by lia
  subst e;exact .inl ⟨⟨q,Nat.le_refl _⟩,hd σ H p⟩
theorem U9 {a D:Addr}{o:Obj}{kvs:List (List Key×V)}{g:TG}{tc:TT}{te:TE}{σ0:St}{R:Hp->Prop}{H1:Hp}(Pv:Nat->List V->Hp->Prop)(h0:Pv 0 [] (upd H1 D (.lst [])))(hl:∀i ys H,i<=kvs.length->Pv i ys H->H a=some (.frz o (.dT kvs)))(hs:∀i k v b ys H,kvs[i]?=some (k,v)->H b=some (.tup (k.map kV))->Pv i ys H->g (.ref b) σ0 H λσ4 H4=>Oo σ0 σ4/\tc σ4 H4 λc H5=>if c=true then te σ4 H5 λy H6=>H6 D=some (.lst ys)/\ys.length<sizeLine/\Pv (i+1) (ys++[y]) (upd H6 D (.lst (ys++[y]))) else Pv (i+1) ys H5)(hd:∀ys H,Pv kvs.length ys H->R H):∃W:Nat->Nat->List V->Hp->Prop,(∃m,W 0 m [] (upd H1 D (.lst [])))/\Jq (ItT a o kvs) D g tc te σ0 W R:=by
 refine ⟨λi m ys H=>m=kvs.length-i/\i<=kvs.length/\Pv i ys H,⟨_,rfl,Nat.zero_le _,h0⟩,?_⟩;rintro i m ys H ⟨rfl,hi,p⟩;have q:=hl i ys H hi p;by_cases hlt:i<kvs.length
 ·refine .inr ⟨⟨q,hlt⟩,Pv (i+1),λys' H' p'=>⟨kvs.length-(i+1),by lia,rfl,hlt,p'⟩,λx H' y=>?_⟩;obtain ⟨e,k,v,b,ek,rfl,eb⟩:=y;subst e;exact hs i k v b ys _ ek eb p
 ·have e:i=kvs.length:=by lia
  subst e;exact .inl ⟨⟨q,Nat.le_refl _⟩,hd ys H p⟩
end
end L2
namespace L2
open PySem PySem.Spec PyProof.Rows Classical
section
variable {prog:Program}{w:World}{A:Around}{E:Value->Shared->Prop}{s:Shared}{b:Keyed->Keyed->Bool}{good:Keyed->Prop}
theorem ZW (h:∀x y,good x->good y->∀{E':Value->Shared->Prop}{Q:Bool->Shared->Prop},Q (b x y) s->wpAny (model prog w) A (keyLt' (tuples' true) x.1 y.1) Q E' s):Ue (model prog w) A E s (tuples' true) b good:=by
 intro x y st Q gx gy hs q;rw [lt'_eq];refine wpS_bind (wpS_get ?_);refine wpS_bind (wpS_lift ?_);rw [hs];exact wpAny_attempt (h x y gx gy ⟨rfl,wpS_pure q⟩)
theorem Xl {h:Heap}{a:Addr}{xs ys:Array Value}(h1:h.IsTuple a xs)(h2:h.IsTuple a ys):xs=ys:=by
 obtain ⟨o,e,_,n,d⟩:=h1;obtain ⟨o',e',_,n',d'⟩:=h2;rw [e] at e';cases e';rw [d] at d';cases d'
 rfl
end
end L2
namespace L2
open PySem PySem.Spec PyProof.Rows
section
variable {X:Cx}
theorem UG (ns:List Int):∀n:Nat,n<=ns.length->preSum (λi=>ns.getD i 0) n=(ns.take n).sum
 | 0,_=>rfl
 | n+1,h=>by
  show preSum _ n+ns.getD n 0=_;rw [UG ns n (by lia),List.take_add_one,List.sum_append,List.getD_eq_getElem?_getD,List.getElem?_eq_getElem (by lia:n<ns.length)];simp
theorem ZfF (K:W.Frag)(hc:X.calm=true)(h:X.K=K:=by rfl):JC X (.builtin "sum") (λxs H Q=>∃(p:Addr)(ns:List Int),xs=[.ref p]/\SqL K H p (ns.map V.int)/\Q (.int ns.sum) H):=by
 subst h;intro qQ s σ H xs us Q I rv h;obtain ⟨p,ns,rfl,hq,q⟩:=h;obtain ⟨u,rfl,ru⟩:=rv.one;cases ru;obtain ⟨its,r,pl,hz⟩:=I.list hq;have hl:=r.length;rw [List.length_map] at hl;have hh:X.A.in1.handled=none:=I.ok.hd hc;have pl':s.heap.IsList p its.toArray:=pl.isList;obtain ⟨o,eo,_⟩:=id pl';have hlt:p<s.heap.objs.size:=Heap.lt_size eo;refine call_sum_walkAnyS (wpAny_pyIter_list pl' ?_);refine ⟨s.heap.objs.size,_,_,_,_,_,_,λi=>ns.getD i 0,rfl,(Walks.list hh s.heap.objs.size p (Nat.ne_of_lt hlt) its.toArray).toS,⟨⟨_,Heap.get?_push_size _ rfl,rfl,rfl⟩,?_⟩,?_,?_,λs' t' M=>?_⟩
 ·obtain ⟨o,e,c⟩:=pl';exact ⟨o,Heap.get?_push_of_some _ e,c⟩
 ·intro c hc';show c<(s.heap.push _).objs.size;rw [Heap.size_push];rcases List.mem_cons.mp hc' with z | z
  ·rw [z];exact Nat.lt_succ_self _
  ·rcases List.mem_cons.mp z with z | z
   ·rw [z];exact Nat.lt_succ_of_lt hlt
   ·cases z
 ·intro i v hv;have hv:its[i]?=some v:=by simpa using hv
  have hi:i<its.length:=(List.getElem?_eq_some_iff.mp hv).1;obtain ⟨u,hu,t,e⟩:=r.get (i:=i) (x:=.int (ns.getD i 0)) (by rw [List.getElem?_map,List.getElem?_eq_getElem (by lia:i<ns.length),List.getD_eq_getElem?_getD,List.getElem?_eq_getElem (by lia:i<ns.length)];rfl);rw [hv] at hu;cases hu;exact ⟨t,e⟩
 ·have es:preSum (λi=>ns.getD i 0) its.toArray.size=ns.sum:=by
   rw [List.size_toArray,<-hl,UG ns _ (Nat.le_refl _),List.take_length]
  rw [es];obtain ⟨h',g',d',tk',o'⟩:=s';have e1:g'=s.gens:=M.gens;have e2:d'=s.drawn:=M.drawn;have e3:o'=s.os:=M.os;subst e1 e2 e3;refine ⟨.int ns.sum,H,I.kept (t':=tk') λc o e'=>M.heap c o (λz=>?_) (Heap.get?_push_of_some _ e'),⟨t',rfl⟩,q⟩;have:c=s.heap.objs.size:=by simpa using z
  exact absurd (Heap.lt_size e') (by rw [this];exact Nat.lt_irrefl _)
end
end L2
namespace L2
open PySem PySem.Spec PyProof.Rows Classical
abbrev kvI (x:List Int×Int):List Key×V:=(x.1.map Sum.inl,.int x.2)
theorem Va (ns:List Int):(ns.map (Sum.inl:Int->Key)).map kV=ns.map V.int:=by rw [List.map_map];rfl
end L2
namespace L2
open PySem PySem.Spec PyProof.Rows
variable {X:Cx}
theorem Zet:JC X (.builtin "len") (λxs H Q=>∃x:Str,xs=[.str x]/\x.length<=16777216/\Q (.int x.length) H):=by
 intro qQ s σ H xs us Q I rv h;obtain ⟨x,rfl,hl,q⟩:=h;obtain ⟨u,rfl,ru⟩:=rv.one;obtain ⟨t,rfl⟩:=ru;refine P.len_str (by lia) ?_;exact ⟨.int _,H,I.tok _,⟨_,rfl⟩,q⟩
def ZfG (ta tb:TE):TE:=λσ H Q=>ta σ H λx H1=>tb σ H1 λy H2=>∃a b,x=.str a/\y=.str b/\a.length+b.length<=16777216/\Q (.str (a++b)) H2
theorem Zc5 {a b:Expr}{ta tb:TE}{pos:Pos}(ha:PE X a ta)(hb:PE X b tb):PE X (.BinOp a .Add b pos) (ZfG ta tb):=by
 intro qQ s σ H Q I h;refine wpAny_BinOp (bin ha hb I h λv u s2 x y H2 I2 rx ry q=>?_);obtain ⟨i,j,rfl,rfl,hl,q⟩:=q;obtain ⟨t,rfl⟩:=rx;obtain ⟨t',rfl⟩:=ry;exact SBL.add (hsz:=hl) λt' k _=>⟨.str _,H2,I2.tok _,⟨_,rfl⟩,q⟩
theorem Wu:∀{ys:List Str}{its:List Value},Vals (ys.map V.str) its->∃l:List (Str×Tok),strValues l=its/\l.map (·.1)=ys
 | [],_,h=>by cases h;exact ⟨[],rfl,rfl⟩
 | y::ys,_,h=>by
  cases h with
  | cons r h=>
   obtain ⟨t,rfl⟩:=r;obtain ⟨l,rfl,e⟩:=Wu h;exact ⟨(y,t)::l,rfl,by rw [List.map_cons,e]⟩
theorem Zc6 (K:W.Frag)(hK:X.K=K:=by rfl):MtR X "str.join" (λx xs H Q=>∃a l ys,x=.str a/\xs=[.ref l]/\SqL K H l (ys.map V.str)/\JoinOk a ys=true/\Q (.str (Txt.join a ys)) H):=by
 subst hK;intro qQ s σ H x xs v us Q I rx rv h;obtain ⟨a,l,ys,rfl,rfl,hl,hj,q⟩:=h;obtain ⟨u,rfl,ru⟩:=rv.one;cases ru;obtain ⟨t',rfl⟩:=rx;obtain ⟨its,hv,pl,_⟩:=I.list hl;obtain ⟨ls,rfl,e⟩:=Wu hv;exact SC.join pl.isList e hj λt' k=>⟨.str _,H,I.tok _,⟨_,rfl⟩,q⟩
end L2
namespace L2
open PySem PySem.Spec PyProof.Rows Classical
theorem ZX {a b:Str}(h:a.cps.toList=b.cps.toList):a=b:=by
 cases a;cases b
 congr 1
 exact Array.toList_inj.mp h
def US (a b:Str×Int):Bool:=decide (a.1.cps.toList<b.1.cps.toList) || (decide (a.1=b.1) && decide (a.2<b.2))
theorem slt_iff {a b:Str×Int}:US a b=true↔a.1.cps.toList<b.1.cps.toList\/(a.1=b.1/\a.2<b.2):=by simp [US]
theorem ZY (a:Str×Int):US a a=false:=by simp [US,List.lt_irrefl]
theorem Zeu {a b c:Str×Int}(h1:US a b=true)(h2:US b c=true):US a c=true:=by
 rcases slt_iff.mp h1 with h1 | ⟨h1,k1⟩ <;> rcases slt_iff.mp h2 with h2 | ⟨h2,k2⟩
 ·exact slt_iff.mpr (.inl (List.lt_trans h1 h2))
 ·exact slt_iff.mpr (.inl (h2▸h1))
 ·exact slt_iff.mpr (.inl (h1▸h2))
 ·exact slt_iff.mpr (.inr ⟨h1.trans h2,by lia⟩)
theorem Zc7 {a b:Str×Int}(h1:US a b=false)(h2:US b a=false):a=b:=by
 have h1:(a.1.cps.toList<b.1.cps.toList\/(a.1=b.1/\a.2<b.2))->False:=λz=>by rw [slt_iff.mpr z] at h1;cases h1
 have h2:(b.1.cps.toList<a.1.cps.toList\/(b.1=a.1/\b.2<a.2))->False:=λz=>by rw [slt_iff.mpr z] at h2;cases h2
 have e:a.1=b.1:=ZX (List.le_antisymm (List.not_lt.mp λz=>h2 (.inl z)) (List.not_lt.mp λz=>h1 (.inl z)));refine Prod.ext e ?_;rcases Int.lt_trichotomy a.2 b.2 with h | h | h
 ·exact (h1 (.inr ⟨e,h⟩)).elim
 ·exact h
 ·exact (h2 (.inr ⟨e.symm,h⟩)).elim
def IsSI (h:Heap)(a:Addr)(x:Str×Int):Prop:=∃t u:Tok,h.IsTuple a #[.str x.1 t,.int x.2 u]
theorem IsSI.one {h:Heap}{a:Addr}{x y:Str×Int}(h1:IsSI h a x)(h2:IsSI h a y):x=y:=by
 obtain ⟨t,u,p1⟩:=h1;obtain ⟨t',u',q1⟩:=h2;have e:=Xl p1 q1;simp only [Array.mk.injEq,List.cons.injEq,Value.int.injEq,Value.str.injEq,and_true] at e;exact Prod.ext e.1.1 e.2.1
noncomputable def Zc8 (h:Heap)(v:Value):Str×Int:=if q:∃x a,v=.ref a/\IsSI h a x then choose q else (Str.empty,0)
theorem VG {h:Heap}{a:Addr}{x:Str×Int}(hx:IsSI h a x):Zc8 h (.ref a)=x:=by
 have q:∃x a',Value.ref a=.ref a'/\IsSI h a' x:=⟨x,a,rfl,hx⟩;unfold Zc8;rw [dif_pos q];obtain ⟨a',e,h1⟩:=choose_spec q;cases e;exact h1.one hx
theorem ZfH (h:Heap):WO (λx y=>US (Zc8 h x.1) (Zc8 h y.1)):=Zb6 (κ:=λx:Keyed=>Zc8 h x.1) (lt:=US) ZY Zeu Zc7
theorem IsSI.keep {h h':Heap}{a:Addr}{x:Str×Int}(k:∀c o,h.get? c=some o->h'.get? c=some o)(p:IsSI h a x):IsSI h' a x:=by
 obtain ⟨t,u,⟨o,e,r⟩⟩:=p;exact ⟨t,u,⟨o,k _ _ e,r⟩⟩
section
variable {prog:Program}{w:World}{A:Around}{E:Value->Shared->Prop}{s:Shared}
theorem ZfI {a c:Addr}{x y:Str×Int}{Q:Bool->Shared->Prop}(px:IsSI s.heap a x)(py:IsSI s.heap c y)(q:Q (US x y) s):wpAny (model prog w) A.in1 (keyLt' (tuples' true) (.ref a) (.ref c)) Q E s:=by
 obtain ⟨t1,u1,⟨o1,g1,_,n1,d1⟩⟩:=px;obtain ⟨t2,u2,⟨o2,g2,_,n2,d2⟩⟩:=py;refine W.kat_lt g1 d1 g2 d2 ?_;refine W.kat_cons (PyProof.Rows.eqBool_str (W.kat_go (λhe=>W.kat_yes (W.kat_cons (wpAny_eqBool_int (W.kat_go (λhe2=>W.kat_yes (W.kat_nil ?_)) λhe2=>W.kat_no ?_)))) λhe=>W.kat_no ?_))
 ·have e1:x.1=y.1:=by simpa using he
  have e2:x.2=y.2:=by simpa using he2
  have:US x y=false:=by rw [Prod.ext e1 e2];exact ZY y
  rw [this] at q;simpa using q
 ·have e1:x.1=y.1:=by simpa using he
  have:US x y=decide (x.2<y.2):=by simp [US,e1,List.lt_irrefl]
  rw [this] at q;exact W.kat_one _ _ (PyProof.Rows.lt_int q)
 ·have e1:x.1≠y.1:=by simpa using he
  have:US x y=decide (x.1.cps.toList<y.1.cps.toList):=by simp [US,e1]
  rw [this] at q;exact oneLt_str q
end
section
variable {X:Cx}(K:W.Frag)
abbrev SIz:=Addr×(Str×Int)
def Zc9:List V->Hp->VK->Prop:=λxs H Q=>∃(p:Addr)(zs:List SIz),xs=[.ref p]/\SqL K H p (zs.map λz=>V.ref z.1)/\(∀z∈zs,SqT K H z.1 [.str z.2.1,.int z.2.2]) /\
 ∀(l:Addr)(zs':List SIz),H l=none->zs'.Perm zs->(zs'.map (·.2)).Pairwise (λa b=>US b a=false)->Q (.ref l) (upd H l (.lst (zs'.map λz=>V.ref z.1)))
theorem ZZ:∀{zs:List SIz}{its:List Value},Vals (zs.map λz=>V.ref z.1) its->its=zs.map λz=>Value.ref z.1
 | [],_,h=>by cases h;rfl
 | z::zs,_,h=>by
  cases h with
  | cons r h=>
   cases r;rw [ZZ h]
   rfl
theorem Z0:∀(zs:List SIz),Vals (zs.map λz=>V.ref z.1) (zs.map λz=>Value.ref z.1)
 | []=>.nil
 | z::zs=>.cons rfl (Z0 zs)
theorem Zda (h:X.K=K:=by rfl):JC X (.builtin "sorted") (Zc9 K):=by
 subst h;intro qQ s σ H xs us Q I rv h;obtain ⟨p,zs,rfl,hq,hz,q⟩:=h;obtain ⟨u,rfl,ru⟩:=rv.one;cases ru;obtain ⟨its,r,pl,hzl⟩:=I.list hq;have hl:=r.length;rw [List.length_map] at hl hzl;have ei:=ZZ r;have key:∀z∈zs,IsSI s.heap z.1 z.2:=λz hzm=>by
  obtain ⟨iz,rz,pz,_⟩:=I.tuple (hz z hzm);obtain ⟨u,v,rfl,⟨t,rfl⟩,⟨t',rfl⟩⟩:=rz.two;exact ⟨t,t',pz⟩
 have isL:∀v∈its,∃a x,v=.ref a/\IsSI s.heap a x:=λv hv=>by
  rw [ei] at hv;obtain ⟨z,hzm,rfl⟩:=List.mem_map.mp hv;exact ⟨z.1,_,rfl,key z hzm⟩
 have tups:∀(h':Heap),(∀c o,s.heap.get? c=some o->h'.get? c=some o)->∀vs:List Value,(∀v∈vs,∃a x,v=.ref a/\IsSI s.heap a x)->∃fs:List Value,W.KatTups h' vs fs/\fs.length=vs.length/\∀f∈fs,∃(b:Str)(t:Tok),f=.str b t:=by
  intro h' k vs
  induction vs with
  | nil=>intro _;exact ⟨[],.nil,rfl,λf hf=>by cases hf⟩
  | cons v vs ih=>
   intro h;obtain ⟨fs,h1,h2,h3⟩:=ih λx hx=>h x (List.mem_cons_of_mem _ hx);obtain ⟨a,x,rfl,px⟩:=h v (List.mem_cons_self ..);obtain ⟨t,u,⟨o,e,c,n,d⟩⟩:=px.keep k;refine ⟨.str x.1 t::fs,.cons e c d rfl h1,by simp [h2],λf hf=>?_⟩;rcases List.mem_cons.mp hf with rfl | hf
   ·exact ⟨_,_,rfl⟩
   ·exact h3 f hf
 refine U8 (kd:=tuples' true) (good:=λx=>∃a y,x.1=.ref a/\IsSI s.heap a y) (ZfH s.heap) pl.isList (by lia) isL (λh' k h2 E' R q=>?_) (λh' k=>ZW λx y gx gy E' Q q=>?_) λout hp hr=>?_
 ·obtain ⟨fs,t1,t2,t3⟩:=tups h' k its isL;exact W.kat_kind (T:=.type "str") t1 (by lia) (λv hv=>by obtain ⟨b,t,rfl⟩:=t3 v hv;exact .now) rfl q
 ·obtain ⟨a,y1,e1,h1⟩:=gx;obtain ⟨c,y2,e2,h2⟩:=gy;simp only [e1,e2,VG h1,VG h2] at q ⊢;exact ZfI (A:=X.A.in1) (h1.keep k) (h2.keep k) q
 ·obtain ⟨o1,o2,o3⟩:=XX hp;obtain ⟨e,he⟩:=sortedAll_at s.heap its (out.map (·.2));rw [ei] at o1;obtain ⟨zs',p1,p2⟩:=Wr o1;have ps:(zs'.map (·.2)).Pairwise (λa b=>US b a=false):=by
   have a1:=Uf hr o3;have a2:(out.toList.map (·.2)).Pairwise (λu v=>US (Zc8 s.heap v) (Zc8 s.heap u)=false):=by
    rw [List.pairwise_map];refine a1.imp_of_mem λ{x y} hx hy hxy=>?_;rw [<-(o2 x hx).1,<-(o2 y hy).1];exact hxy
   rw [Array.toList_map] at p2;rw [<-p2,List.pairwise_map] at a2;rw [List.pairwise_map];refine a2.imp_of_mem λ{x y} hx hy hxy=>?_;rw [VG (key x (p1.mem_iff.mp hx)),VG (key y (p1.mem_iff.mp hy))] at hxy;exact hxy
  refine ⟨.ref _,_,I.laid (a:=s.heap.objs.size+1) (t':=s.toks) (o:=.lst (zs'.map λz=>V.ref z.1)) (λb o e=>sortedAll_old e) (Nat.le_succ _) ⟨by rw [List.length_map,p1.length_eq];exact hzl,(out.map (·.2)).toList,e,by rw [<-p2];exact Z0 zs',he⟩,rfl,q _ _ (I.hok.fresh (Nat.le_succ _)) p1 ps⟩
end
end L2
namespace L2
open PySem PySem.Spec PyProof.Rows
def mkS (l:List Nat):Str:=⟨l.toArray⟩
end L2
namespace L2
open PySem PySem.Spec PyProof.Rows
def Zev:TE:=λ_ H Q=>∀p,H p=none->∀o,Q (.ref p) (upd H p (.frz o (.dK [])))
theorem Zbm (c:Nat)(n:Nat):(List.replicate n (#[c]:Array Nat)).foldl (·++·) #[]=(List.replicate n c).toArray:=by
 have key:∀(n:Nat)(a:Array Nat),((List.replicate n (#[c]:Array Nat)).foldl (·++·) a).toList=a.toList++List.replicate n c:=by
  intro n
  induction n with
  | zero=>intro a;simp
  | succ n ih=>intro a;rw [List.replicate_succ,List.foldl_cons,ih];simp [List.replicate_succ]
 apply Array.toList_inj.mp;rw [key];simp
section
variable {X:Cx}
theorem Uq {pos:Pos}:PE X (.Dict [] [] pos) Zev:=λqQ s σ H Q I h=>
 wpAny_Dict_empty (by
  have I1:=I.laid (a:=s.heap.objs.size) (o:=.dK []) (t':=s.toks) (λ_ _ q=>Heap.get?_push_of_some _ q) (Nat.le_refl _) (Vs s.heap I.big);obtain ⟨o,I2⟩:=I1.freeze Gb;rw [Us] at I2;exact ⟨.ref s.heap.objs.size,_,I2,rfl,h _ (I.hok.fresh (Nat.le_refl _)) o⟩)
def ZfJ:V->V->Hp->VK->Prop:=λx y H Q=>∃(c n:Nat),x=.str (mkS [c])/\y=.int (n:Int)/\1<=n/\n<=1000/\Q (.str (mkS (List.replicate n c))) H
theorem Xm:OpR X (binaryOp .Mult) ZfJ:=by
 intro qQ s σ H x y v u Q I rx ry h;obtain ⟨c,n,rfl,rfl,h1,h2,q⟩:=h;obtain ⟨t,rfl⟩:=rx;obtain ⟨t',rfl⟩:=ry;have hn:¬ ((n:Int)<1):=by lia
 have hl:(mkS [c]).length=1:=rfl;refine P.mul_str ?_ (λ_ _=>?_) (λ_ _=>?_) ?_
 ·rw [decide_eq_false (show ¬ ((n:Int) < -(2 ^ 63:Int)) by lia),decide_eq_false (show ¬ ((n:Int)>=2 ^ 63) by lia)]
  rfl
 ·rw [hl];intro z;have:(1:Int)<=(2 ^ 63-1) / (n:Int):=Int.le_ediv_of_mul_le (by lia) (by lia)
  lia
 ·rw [hl,Int.toNat_natCast];unfold Builtin.Str.tooLong;exact decide_eq_false (by have:=sizeLine_eq;lia)
 ·rw [if_neg hn];split
  ·rename_i z;rw [hl] at z;have:n=1:=(by have z:(n:Int)=1:=(by simpa using z);lia);subst this;exact ⟨.str _,H,I,⟨_,rfl⟩,q⟩
  ·rw [Int.toNat_natCast,show (mkS [c]).cps=#[c] from rfl,Zbm];refine ⟨?_,.str _,H,I.tok _,⟨_,rfl⟩,q⟩;have:=sizeLine_eq;show (List.replicate n c).toArray.size<=_;rw [List.size_toArray,List.length_replicate]
   lia
end
theorem Vb:∀(l:List Nat)(acc:Array Nat),((l.map λc=>mkS [c]).foldl (λacc p=>acc++(mkS []).cps++p.cps) acc).toList=acc.toList++l
 | [],acc=>by simp
 | c::l,acc=>by
  rw [List.map_cons,List.foldl_cons,Vb l];simp only [Array.toList_append];show acc.toList++[]++[c]++_=_;simp
theorem YF (l:List Nat):Txt.join (mkS []) (l.map λc=>mkS [c])=mkS l:=by
 have e:(Txt.join (mkS []) (l.map λc=>mkS [c])).cps=(mkS l).cps:=by
  apply Array.toList_inj.mp;cases l with
  | nil=>rfl
  | cons c l=>exact Vb l #[c]
 generalize Txt.join (mkS []) (l.map λc=>mkS [c])=x at e;cases x;cases e
 rfl
theorem Zbn (l:List Nat)(h:l.length<=1000):JoinOk (mkS []) (l.map λc=>mkS [c])=true:=by
 unfold PySem.JoinOk;have key:∀(l:List Nat)(a:Nat),(l.map λc=>mkS [c]).foldl (λa s=>a+s.length+(mkS []).length) a<=a+l.length:=by
  intro l
  induction l with
  | nil=>intro a;exact Nat.le_refl _
  | cons p l ih=>
   intro a;rw [List.map_cons,List.foldl_cons];refine Nat.le_trans (ih _) ?_;have h1:(mkS [p]).length=1:=rfl;have h2:(mkS []).length=0:=rfl;rw [List.length_cons]
   lia
 have h3:=key l 0;rw [List.foldl_toArray'] <;> try rfl
 simp only [Bool.not_eq_true'];unfold Builtin.Str.tooLong;apply decide_eq_false;rw [sizeLine_eq]
 lia
end L2
namespace L2
open PySem PySem.Spec PyProof.Rows
section
variable {X:Cx}
theorem Z1 {e:Expr}{t u:TT}(h1:PT X e t)(h2:PT X e u):PT X e (λσ H Q=>t σ H Q\/u σ H Q):=by
 intro qQ s σ H Q I h;rcases h with h | h
 ·exact h1 qQ s σ H Q I h
 ·exact h2 qQ s σ H Q I h
theorem Z2 {g l:Expr}{t u:TI}(h1:PI X g l t)(h2:PI X g l u):PI X g l (λσ H R=>t σ H R\/u σ H R):=by
 intro qQ s σ H R I h;rcases h with h | h
 ·exact h1 qQ s σ H R I h
 ·exact h2 qQ s σ H R I h
end
end L2
namespace L2
open PySem PySem.Spec PyProof.Rows
variable {X:Cx}
theorem VH (z:Str)(lo hi:Option Int):(StrLaws.sliceText z lo hi).length<=z.length/\∀c∈(StrLaws.sliceText z lo hi).cps.toList,c∈z.cps.toList:=by
 refine ⟨PyProof.Txt.length_slice_le z lo hi,?_⟩;unfold StrLaws.sliceText;split
 ·exact λc h=>h
 ·intro c h;have h:c∈List.filterMap (λi=>z.cps[i]?) (Builtin.Str.strSliceIndices lo hi 1 z.length):=h;obtain ⟨i,_,e⟩:=List.mem_filterMap.mp h;obtain ⟨h1,h2⟩:=Array.getElem?_eq_some_iff.mp e;rw [<-h2];simp
theorem ZgO:SlR X (λx lo hi H Q=>∃z:Str,x=.str z/\z.length<=sizeLine/\Q (.str (StrLaws.sliceText z lo hi)) H):=by
 intro qQ s σ H x v vl vu lo hi sl Q I rx hs pl pu h;obtain ⟨z,rfl,hz,q⟩:=h;obtain ⟨t,rfl⟩:=rx;refine ⟨"str", _,PyProof.Rows.slot_str_getitem.lookup,typeIs_str _ _ _,?_⟩;have key:∀(l u:Option (Int×Tok)),vl=partValue l->vu=partValue u->lo=l.map (·.1)->hi=u.map (·.1)->wpAny (model X.prog X.w) X.A (getItem (.str z t) (.ref sl)) (EP X qQ σ Q) X.xe s:=by
  intro l u e1 e2 e3 e4;subst e1 e2 e3 e4;refine wpAny_getItem_str_slice (l:=l) (u:=u) (st:=none) hs rfl ?_;have fin:∀(y:Str)(t':Tok)(k:Nat),y=StrLaws.sliceText z (l.map (·.1)) (u.map (·.1))->EP X qQ σ Q (.str y t') { s with toks:=k }:=λy t' k e=>⟨.str y,H,I.tok _,⟨_,rfl⟩,e▸q⟩;unfold sliceMade;split
  ·rename_i hc;rw [Made.post.eq_1];exact fin z t s.toks (if_pos hc).symm
  ·rename_i hc;have e:(⟨(List.filterMap (λi=>z.cps[i]?) (slicePicked z l u none)).toArray⟩:Str)=StrLaws.sliceText z (l.map (·.1)) (u.map (·.1)):=(if_neg hc).symm;rw [Made.post.eq_3];exact ⟨by rw [e];exact Nat.le_trans (VH z _ _).1 hz,fin _ _ _ e⟩
 cases pl <;> cases pu
 ·exact key none none rfl rfl rfl rfl
 ·exact key none (some (_,_)) rfl rfl rfl rfl
 ·exact key (some (_,_)) none rfl rfl rfl rfl
 ·exact key (some (_,_)) (some (_,_)) rfl rfl rfl rfl
end L2
namespace L2
open PySem PySem.Spec PyProof.Rows
theorem Zb8 (c:Nat):∀l:List Nat,cnt c l=(l.count c:Int)
 | []=>rfl
 | n::l=>by
  rw [cnt_cons,Zb8 c l,List.count_cons];by_cases h:n=c
  ·rw [if_pos h,if_pos (by rw [h];exact beq_self_eq_true c)]
   lia
  ·rw [if_neg h,if_neg (λz=>h (eq_of_beq z))]
   lia
variable {X:Cx}
theorem Z3:MtR X "str.count" (λx xs H Q=>∃(a:List Nat)(c:Nat),x=.str (mkS a)/\xs=[.str (mkS [c])]/\Q (.int (a.count c:Nat)) H):=by
 intro qQ s σ H x xs v us Q I rx rv h;obtain ⟨a,c,rfl,rfl,q⟩:=h;obtain ⟨u,rfl,ru⟩:=rv.one;obtain ⟨t,rfl⟩:=ru;obtain ⟨t',rfl⟩:=rx;have e:Txt.count (mkS a) (mkS [c])=((a.count c:Nat):Int):=(count_cnt (mkS a) c).trans (Zb8 c a);exact SC.count (by rw [e];exact ⟨.int _,H,I.tok _,⟨_,rfl⟩,q⟩)
end L2
namespace M
open PySem L2
def top (i:Nat):Stmt:=PySem.Challenge.pw_onceways_k72_whole_each_by_its_words.main.body.getD i (.Pass ⟨0,0,0,0⟩)
abbrev sGr:Stmt:=top 7
abbrev sIs:Stmt:=top 8
abbrev Zdb:Stmt:=top 9
abbrev Zbo:Stmt:=top 10
abbrev sLr:Stmt:=top 18
abbrev sSo:Stmt:=top 19
abbrev sFm:Stmt:=top 21
abbrev sId:Stmt:=top 22
abbrev sIl:Stmt:=top 23
abbrev sIf:Stmt:=top 24
abbrev sIm:Stmt:=top 25
abbrev sFe:Stmt:=top 26
abbrev sWr:Stmt:=top 27
abbrev sLb:Stmt:=top 28
abbrev sDe:Stmt:=top 29
abbrev Zbp:Stmt:=top 32
abbrev Zb9:Stmt:=top 33
abbrev Zca:Stmt:=top 35
abbrev Zdc:Stmt:=top 36
abbrev YN:Stmt:=top 37
abbrev Zcb:Stmt:=top 38
abbrev Zcc:Stmt:=top 39
abbrev Zbq:Stmt:=top 40
abbrev Zcd:Stmt:=top 41
abbrev Zce:Stmt:=top 42
abbrev Zdd:Stmt:=top 43
abbrev Zde:Stmt:=top 44
abbrev sBs:Stmt:=top 46
abbrev sNb:Stmt:=top 47
abbrev sRr:Stmt:=top 49
abbrev sSg:Stmt:=top 50
abbrev sWn:Stmt:=top 51
abbrev sWb:Stmt:=top 52
abbrev sCw:Stmt:=top 53
abbrev sCb:Stmt:=top 54
abbrev sWf:Stmt:=top 55
abbrev sIc:Stmt:=top 56
abbrev sSw:Stmt:=top 57
abbrev Zdf:Stmt:=top 59
abbrev sMi:Stmt:=top 60
abbrev Z4:Stmt:=top 61
end M
namespace M
open PySem L2
theorem JF:2<=sizeLine:=by decide
theorem VI (p:Int):∀ms:List Int,inV (.int p) (ms.map V.int)=decide (p∈ms):=by
 intro ms;unfold inV
 induction ms with
 | nil=>rfl
 | cons m ms ih=>
  rw [List.map_cons,List.any_cons,ih];by_cases h1:p=m <;> by_cases h2:p∈ms <;> simp [eqV,h1,h2] <;> (try lia) <;> (try (intro z;exact h1 z.symm))
theorem UH (ms:List Int):(ms.map V.int).all Vm=true:=by
 rw [List.all_map];exact List.all_eq_true.mpr λ_ _=>rfl
section
variable {P:Program}{w:World}{K:W.Frag}{mg:Str->Option Value}{base:Heap}
theorem Zbr:bootBuiltins "max" = some (.builtin "max"):=by first | rfl | decide +kernel
structure WebAt (H:Hp)(wb l:Addr)(k:Int)(xs:List V)(rs:List (Int×Int)):Prop where
 w:H wb=some (.tup [.int k,.ref l])
 l:H l=some (.lst xs)
 p:Prs H xs rs
theorem WebAt.same {H H':Hp}{wb l:Addr}{k:Int}{xs:List V}{rs:List (Int×Int)}(h:WebAt H wb l k xs rs)(s:Same H H'):WebAt H' wb l k xs rs:=⟨s _ _ h.w,s _ _ h.l,h.p.same s⟩
def JT (rs:List (Int×Int))(p q:Int):Nat->Option V
 | 0=>none
 | i+1=>if rs.getD i (0,0)=(p,q)\/rs.getD i (0,0)=(q,p) then some (.int (i:Nat)) else JT rs p q i
def ky (p q:Int):List Key:=[.inl p,.inl q]
theorem ky_inj {p q a b:Int}:ky p q=ky a b↔p=a/\q=b:=by
 unfold ky;constructor
 ·intro h;injection h with h1 h2
  injection h2 with h2 _
  exact ⟨Sum.inl.inj h1,Sum.inl.inj h2⟩
 ·rintro ⟨rfl,rfl⟩;rfl
def Zdg:Sp:=λvs H Q _=>∃(wb l:Addr)(k:Int)(xs:List V)(rs:List (Int×Int)),vs=[.ref wb]/\WebAt H wb l k xs rs/\xs.length<=30 /\
 ∀(d:Addr)(H':Hp)(kvs:List (List Key×V)),Same H H'->H d=none->H' d=some (.dT kvs)->(∀p q,J1 kvs (ky p q)=JT rs p q rs.length)->Q (.ref d) H'
theorem scNbs:Gr ["web", "numbers", "number", "road"] ["web"] (Gc Zbp):=⟨rfl,rfl,rfl,by decide +kernel,rfl,by decide +kernel,by decide +kernel⟩
theorem Zcf {f:Addr}{fd:FuncData}(F:Fun K "numbers_by_step" "numbers_by_step" Zbp f fd)(mEnum:mg "enumerate" = none):GG P w K mg base CX0 1 f fd ["web"] Zdg:=by
 refine F.ok scNbs (λvs H Q E h=>?_) (λcdv A outer s H vs Q E hr h=>?_)
 ·obtain ⟨_,_,_,_,_,rfl,_⟩:=h
  rfl
 ·obtain ⟨wb,l,k,xs,rs,rfl,W,hx,q⟩:=h;have hu1:(A.deeper (PyProof.Rows.envOfC "numbers_by_step" (Gc Zbp) s.heap.objs.size f cdv)).units+1<cLine:=by have:=hr.un;lia
  have h16:(16777216:Nat)=sizeLine:=sizeLine_eq.symm;refine ⟨_,Gd (Gs (i:=1) scNbs.nd rfl (Or.inl rfl) Vt)
    (Gd (JD PassesOwn.never rfl (Wf K rfl mEnum (Ga (GJ (Op K) (pv 0) Gg (λ_ _=>rfl)) Ge)) (WX K (n:=2) rfl (Gv (Gi (i:=2) scNbs.nd rfl (Or.inl rfl)) (Gv (Gi (i:=3) scNbs.nd rfl (Or.inl rfl)) Jb)))
    (Gd (Ow hu1 (pv 1) (pv 3) (pv 2) rfl)
    (Gf (Ow hu1 (pv 1) (Jo (Ga (GJ (Op K) (pv 3) Gg (λ_ _=>rfl)) (Ga (GJ (Op K) (pv 3) Gg (λ_ _=>rfl)) Ge))) (pv 2) rfl))))
    (Gf (Gu (pv 1)))),?_⟩
  refine λd hd=>?_;have s1:Same H (upd H d (.dT [])):=Same.new hd;refine ⟨_,rfl,wb,_,_,_,rfl,rfl,SqT.of (s1 _ _ W.w),Gx (j:=1) rfl,l,xs,rfl,SqL.of (s1 _ _ W.l),?_⟩;refine Od (K:=K) (a:=l) (xs:=xs) (λi σ H2=>∃(v2 v3:Option V)(kvs:List (List Key×V)),σ=[some (.ref wb),some (.ref d),v2,v3]/\Same H H2/\H2 d=some (.dT kvs)/\kvs.length<=2 * i/\∀p q,J1 kvs (ky p q)=JT rs p q i)
   ⟨none,none,[],rfl,s1,Gb,Nat.zero_le _,λ_ _=>rfl⟩ (λi σ H2 _ ⟨_,_,_,_,s2,_⟩=>SqL.of (s2 _ _ W.l)) ?_ ?_
  ·rintro i x σ H2 T hxi ⟨v2,v3,kvs,rfl,s2,e2,len,val⟩ hT;obtain ⟨t,r,rfl,et,er⟩:=(W.same s2).p.get hxi;have hi:i<xs.length:=(List.getElem?_eq_some_iff.mp hxi).1;have s3:Same H (upd H2 T (.tup [.int (i:Nat),.ref t])):=s2.put (s2.free hT);have s23:Same H2 (upd H2 T (.tup [.int (i:Nat),.ref t])):=Same.new hT;have hdT:d≠T:=Gm e2 hT;refine ⟨T,_,rfl,SqT.of Gb,rfl,_,_,rfl,_,_,rfl,rfl,?_⟩;refine ⟨_,rfl,_,rfl,_,rfl,d,_,rfl,DPut.t (k:=ky r.1 r.2) (Gq e2 hdT) (s23 _ _ et) (by lia),?_⟩;have s4:=s3.put (o:=.dT (O3 kvs (ky r.1 r.2) (.int (i:Nat)))) hd;have et4:upd (upd H2 T (.tup [.int (i:Nat),.ref t])) d (.dT (O3 kvs (ky r.1 r.2) (.int (i:Nat)))) t=some (.tup [.int r.1,.int r.2]):=Gq (s23 _ _ et) (JY (s23 _ _ et) (Gq e2 hdT) (λz=>by cases z));have hl1:=Jc kvs (ky r.1 r.2) (.int (i:Nat));refine ⟨_,rfl,_,rfl,_,rfl,t,_,_,_,rfl,rfl,SqT.of et4,Gx (j:=1) rfl,_,rfl,t,_,_,_,rfl,rfl,SqT.of et4,Gx (j:=0) rfl,(by show 2<=sizeLine;decide),λu hu=>?_⟩;have hdu:d≠u:=λz=>by rw [<-z,Gb] at hu;cases hu
   refine ⟨d,_,rfl,DPut.t (k:=ky r.2 r.1) (Gq Gb hdu) Gb (by lia),?_⟩;refine ⟨_,_,_,rfl,((s4.put (s4.free hu)).put hd),Gb,?_,λp q=>?_⟩
   ·have:=Jc (O3 kvs (ky r.1 r.2) (.int (i:Nat))) (ky r.2 r.1) (.int (i:Nat))
    lia
   ·rw [Um,Um,val p q];have e:rs.getD i (0,0)=r:=by rw [List.getD_eq_getElem?_getD,er];rfl
    show _=if rs.getD i (0,0)=(p,q)\/rs.getD i (0,0)=(q,p) then some (V.int (i:Nat)) else JT rs p q i
    rw [e];obtain ⟨r1,r2⟩:=r;by_cases h1:p=r2/\q=r1
    ·rw [if_pos (ky_inj.mpr h1),if_pos (.inr (by rw [h1.1,h1.2]))]
    ·rw [if_neg λz=>h1 (ky_inj.mp z)];by_cases h2:p=r1/\q=r2
     ·rw [if_pos (ky_inj.mpr h2),if_pos (.inl (by rw [h2.1,h2.2]))]
     ·rw [if_neg λz=>h2 (ky_inj.mp z),if_neg];rintro (z | z)
      ·injection z with z1 z2
       exact h2 ⟨z1.symm,z2.symm⟩
      ·injection z with z1 z2
       exact h1 ⟨z2.symm,z1.symm⟩
  ·rintro σ H2 ⟨v2,v3,kvs,rfl,s2,e2,len,val⟩;rw [W.p.len] at val;exact ⟨_,rfl,q d H2 kvs s2 hd e2 val⟩
def Gj (ns:List Int)(c:Bool):List (Int×Int):=ns.zip (ns.drop 1)++(if c=true then [(ns.getD (ns.length-1) 0,ns.getD 0 0)] else [])
def Zdh:Sp:=λvs H Q _=>∃(pl:Addr)(ns:List Int)(c:Bool),vs=[.ref pl,.bl c]/\H pl=some (.lst (ns.map V.int))/\ns.length<=100/\(c=true->ns≠[]) /\
 ∀(S:Addr)(ws:List V)(H':Hp),Same H H'->H S=none->H' S=some (.lst ws)->Prs H' ws (Gj ns c)->Q (.ref S) H'
theorem scSte:Gr ["places", "closed", "steps"] ["places", "closed"] (Gc Zb9):=⟨rfl,rfl,rfl,by decide +kernel,rfl,by decide +kernel,by decide +kernel⟩
theorem UI {ns:List Int}(h:ns≠[]):atI (ns.map V.int) (-1)=some (.int (ns.getD (ns.length-1) 0)):=by
 have hp:0<ns.length:=List.length_pos_iff.mpr h;have e:ixN (ns.map V.int).length (-1)=some (ns.length-1):=by
  unfold ixN;rw [if_neg (by decide),List.length_map,if_pos (by lia)]
  congr 1
  lia
 unfold atI;rw [e];show (ns.map V.int)[ns.length-1]?=_;rw [List.getElem?_map,List.getElem?_eq_getElem (show ns.length-1<ns.length by lia),List.getD_eq_getElem?_getD,List.getElem?_eq_getElem (show ns.length-1<ns.length by lia)]
 rfl
theorem JU {ns:List Int}{i:Int}(h0:0<=i)(h1:i<ns.length):atI (ns.map V.int) i=some (.int (ns.getD i.toNat 0)):=by
 obtain ⟨k,rfl⟩:=Int.eq_ofNat_of_zero_le h0;have hk:k<ns.length:=by lia
 refine Gx ?_;show (ns.map V.int)[k]?=some (.int (ns.getD k 0));rw [List.getElem?_map,List.getD_eq_getElem?_getD,List.getElem?_eq_getElem hk]
 rfl
theorem Zcg {f:Addr}{fd:FuncData}(F:Fun K "steps_of" "steps_of" Zb9 f fd)(mLst:mg "list" = none)(mZip:mg "zip" = none):GG P w K mg base CX0 1 f fd ["places", "closed"] Zdh:=by
 refine F.ok scSte (λvs H Q E h=>?_) (λcdv A outer s H vs Q E hr h=>?_)
 ·obtain ⟨_,_,_,rfl,_⟩:=h
  rfl
 ·obtain ⟨pl,ns,c,rfl,hp,hn,hc,q⟩:=h;have h16:(16777216:Nat)=sizeLine:=sizeLine_eq.symm;refine ⟨_,Gd (Gs (i:=2) scSte.nd rfl (Or.inl rfl) (Yt K rfl rfl mLst rfl mZip (Ga (pv 0) (Ga (J9 (kSl K) (pv 0) (OZ Gg) OY) Ge))))
    (Gd (Je (JR (pv 1)) (Gf (Jk (O0 PySem.F.plainAttrs_list PySem.F.slot_list_append PySem.F.type_list_append Ja (pv 2) (Ga (Jo (Ga (GJ (UR K) (pv 0) (Vj JO Gg) (λ_ _=>rfl)) (Ga (GJ (UR K) (pv 0) Gg (λ_ _=>rfl)) Ge))) Ge)))) GB)
    (Gf (Gu (pv 2)))),?_⟩
  refine ⟨_,rfl,_,rfl,_,rfl,pl,_,rfl,SqL.of hp,λp2 hp2=>?_⟩;have s1:Same H (upd H p2 (.lst (WL (ns.map V.int) (some 1) none))):=Same.new hp2;have ec:WL (ns.map V.int) (some 1) none=(ns.drop 1).map V.int:=by rw [show (some (1:Int))=some ((1:Nat):Int) from rfl,XM,List.map_drop]
  refine ⟨pl,p2,ns,ns.drop 1,rfl,SqL.of (s1 _ _ hp),by rw [<-ec];exact SqL.of Gb,by lia,λS ws H2 s2 hS eS pS=>?_⟩;have s12:=s1.trans s2;have hS0:=s1.free hS;have lws:ws.length<=100:=by rw [pS.len,List.length_zip];lia
  refine ⟨_,rfl,c,rfl,?_⟩;refine Uk (λz=>?_) (λz=>?_)
  ·have hne:=hc z;have hpos:0<ns.length:=List.length_pos_iff.mpr hne;refine ⟨_,rfl,.inl ⟨rfl,_,SqL.of eS⟩,_,rfl,_,rfl,pl,_,_,_,rfl,rfl,SqL.of (s12 _ _ hp),UI hne,_,rfl,pl,_,_,_,rfl,rfl,SqL.of (s12 _ _ hp),JU (i:=0) (by decide) (by lia),(by show 2<=sizeLine;decide),λt ht=>?_⟩;have hSt:S≠t:=Gm eS ht;refine ⟨S,_,_,rfl,rfl,Gq eS hSt,by lia,?_⟩;have s3:=(s12.put (o:=.tup [.int (ns.getD (ns.length-1) 0),.int (ns.getD 0 0)]) (s12.free ht));refine ⟨_,rfl,q S _ _ (s3.put hS0) hS0 Gb ?_⟩;unfold Gj;rw [if_pos z];have tg:∀p ys,(upd H2 t (.tup [.int (ns.getD (ns.length-1) 0),.int (ns.getD 0 0)])) p=some (.tup ys)->(upd (upd H2 t (.tup [.int (ns.getD (ns.length-1) 0),.int (ns.getD 0 0)])) S (.lst (ws++[.ref t]))) p=some (.tup ys):=λp ys e=>Gq e (JY e (Gq eS hSt) (λz=>by cases z));exact Prs.keep (Prs.snoc (pS.same (Same.new ht)) Gb) tg
  ·refine ⟨_,rfl,q S ws H2 s12 hS0 eS ?_⟩;unfold Gj;rw [if_neg z,List.append_nil];exact pS
def Adj (rs:List (Int×Int))(p q:Int):Prop:=(p,q)∈rs\/(q,p)∈rs
theorem Oy (rs:List (Int×Int))(p q:Int):∀i,(JT rs p q i).isSome=true↔∃j,j<i/\(rs.getD j (0,0)=(p,q)\/rs.getD j (0,0)=(q,p))
 | 0=>⟨λh=>(by cases h),λ⟨j,hj,_⟩=>absurd hj (Nat.not_lt_zero j)⟩
 | i+1=>by
  have ih:=Oy rs p q i;show (if rs.getD i (0,0)=(p,q)\/rs.getD i (0,0)=(q,p) then some (V.int (i:Nat)) else JT rs p q i).isSome=true↔_;by_cases z:rs.getD i (0,0)=(p,q)\/rs.getD i (0,0)=(q,p)
  ·rw [if_pos z];exact ⟨λ_=>⟨i,Nat.lt_succ_self i,z⟩,λ_=>rfl⟩
  ·rw [if_neg z,ih];constructor
   ·rintro ⟨j,hj,e⟩;exact ⟨j,Nat.lt_succ_of_lt hj,e⟩
   ·rintro ⟨j,hj,e⟩;refine ⟨j,?_,e⟩;rcases Nat.lt_or_ge j i with h | h
    ·exact h
    ·have:j=i:=by lia
     subst this;exact absurd e z
theorem VJ (rs:List (Int×Int))(p q:Int):(JT rs p q rs.length).isSome=true↔Adj rs p q:=by
 rw [Oy];constructor
 ·rintro ⟨j,hj,e⟩;have hm:rs.getD j (0,0)∈rs:=by
   rw [List.getD_eq_getElem?_getD,List.getElem?_eq_getElem hj];exact List.getElem_mem hj
  rcases e with e | e
  ·exact .inl (e▸hm)
  ·exact .inr (e▸hm)
 ·rintro (h | h)
  ·obtain ⟨j,hj,e⟩:=List.getElem_of_mem h;exact ⟨j,hj,.inl (by rw [List.getD_eq_getElem?_getD,List.getElem?_eq_getElem hj];exact e)⟩
  ·obtain ⟨j,hj,e⟩:=List.getElem_of_mem h;exact ⟨j,hj,.inr (by rw [List.getD_eq_getElem?_getD,List.getElem?_eq_getElem hj];exact e)⟩
theorem Z5 (ns:List Int):∀i,i<=ns.length->((PyProof.Rows.firstMet (λi=>ns.getD i 0) i).length=i↔(ns.take i).Nodup)
 | 0,_=>⟨λ_=>by rw [List.take_zero];exact List.nodup_nil,λ_=>rfl⟩
 | i+1,h=>by
  have ih:=Z5 ns i (by lia);have hx:i<ns.length:=by lia
  have hle:=PyProof.Rows.firstMet_length_le (λi=>ns.getD i 0) i;have eg:ns.getD i 0=ns[i]:=by rw [List.getD_eq_getElem?_getD,List.getElem?_eq_getElem hx];rfl
  have eany:((List.range i).map λi=>ns.getD i 0)=ns.take i:=by
   refine List.ext_getElem (by rw [List.length_map,List.length_range,List.length_take];lia) λj h1 h2=>?_;rw [List.length_map,List.length_range] at h1;rw [List.getElem_map,List.getElem_range,List.getElem_take,List.getD_eq_getElem?_getD,List.getElem?_eq_getElem (by lia)]
   rfl
  have ea:=PyProof.Rows.firstMet_any (λi=>ns.getD i 0) i (ns.getD i 0);rw [eany] at ea;have emem:((ns.take i).any (· == ns.getD i 0))=decide (ns[i]∈ns.take i):=by
   rw [eg];by_cases z:ns[i]∈ns.take i
   ·rw [decide_eq_true z];exact List.any_eq_true.mpr ⟨_,z,by simp⟩
   ·rw [decide_eq_false z];refine List.any_eq_false.mpr λy hy e=>z ?_;have:y=ns[i]:=by simpa using e
    exact this▸hy
  rw [PyProof.Rows.firstMet_succ,List.take_add_one,List.getElem?_eq_getElem hx];show _↔(ns.take i++[ns[i]]).Nodup;have nd:(ns.take i++[ns[i]]).Nodup↔(ns.take i).Nodup/\ns[i] ∉ ns.take i:=by
   rw [List.nodup_append];constructor
   ·rintro ⟨h1,_,h3⟩;exact ⟨h1,λz=>h3 _ z _ (List.mem_singleton.mpr rfl) rfl⟩
   ·rintro ⟨h1,h2⟩;refine ⟨h1,List.nodup_cons.mpr ⟨List.not_mem_nil,List.nodup_nil⟩,λa ha b hb e=>?_⟩;rw [List.mem_singleton] at hb;subst hb;exact h2 (e▸ha)
  rw [nd,<-ih];by_cases z:ns[i]∈ns.take i
  ·rw [emem,decide_eq_true z] at ea;unfold PyProof.Rows.step_dedup;rw [if_pos ea];exact ⟨λe=>by lia,λe=>absurd z e.2⟩
  ·rw [emem,decide_eq_false z] at ea;unfold PyProof.Rows.step_dedup;rw [if_neg (by rw [ea];decide)];have el:∀(l:List Int)(x:Int),(l++[x]).length=l.length+1:=λl x=>by rw [List.length_append,List.length_singleton]
   first
    | (rw [el];exact ⟨λe=>⟨by lia,z⟩,λe=>by have:=e.1;lia⟩)
    | (rw [List.length_cons];exact ⟨λe=>⟨by lia,z⟩,λe=>by have:=e.1;lia⟩)
theorem Z6 (ns:List Int):(PyProof.Rows.firstMet (λi=>ns.getD i 0) ns.length).length=ns.length↔ns.Nodup:=by
 have h:=Z5 ns ns.length (Nat.le_refl _);rw [List.take_length] at h;exact h
def Vc (rs:List (Int×Int))(ns:List Int)(c:Bool):Prop:=(∀t∈Gj ns c,Adj rs t.1 t.2)/\ns.Nodup
def Zew:Sp:=λvs H Q _=>∃(wb l pl:Addr)(k:Int)(xs:List V)(rs:List (Int×Int))(ns:List Int)(c:Bool),vs=[.ref wb,.ref pl,.bl c]/\WebAt H wb l k xs rs/\xs.length<=30/\H pl=some (.lst (ns.map V.int))/\ns.length<=100/\(c=true->ns≠[]) /\
 ∀(b:Bool)(H':Hp),Same H H'->(b=true↔Vc rs ns c)->Q (.bl b) H'
theorem scOnc:Gr ["web", "places", "closed", "numbers", "by_roads"] ["web", "places", "closed"] (Gc Zca):=⟨rfl,rfl,rfl,by decide +kernel,rfl,by decide +kernel,by decide +kernel⟩
theorem Zex {f fU fV:Addr}{fd fdU fdV:FuncData}(F:Fun K "goes_once" "goes_once" Zca f fd)(FU:Fun K "numbers_by_step" "numbers_by_step" Zbp fU fdU)(bU:Binds K fdU ["web"] [])(mU:mg "numbers_by_step" = some (.ref fU))(FV:Fun K "steps_of" "steps_of" Zb9 fV fdV)(bV:Binds K fdV ["places", "closed"] [])(mV:mg "steps_of_ways" = some (.ref fV))(mEnum:mg "enumerate" = none)(mLst:mg "list" = none)(mZip:mg "zip" = none)(mAll:mg "all" = none)(mSet:mg "set" = none)(mLen:mg "len" = none):GG P w K mg base CX0 2 f fd ["web", "places", "closed"] Zew:=by
 have GU:GG P w K mg base CX0 1 fU fdU ["web"] Zdg:=Zcf FU mEnum;have GV:GG P w K mg base CX0 1 fV fdV ["places", "closed"] Zdh:=Zcg FV mLst mZip;refine F.ok scOnc (λvs H Q E h=>?_) (λcdv A outer s H vs Q E hr h=>?_)
 ·obtain ⟨_,_,_,_,_,_,_,_,rfl,_⟩:=h
  rfl
 ·obtain ⟨wb,l,pl,k,xs,rs,ns,c,rfl,W,hx,hp,hn,hc,q⟩:=h;have hu1:(A.deeper (PyProof.Rows.envOfC "goes_once" (Gc Zca) s.heap.objs.size f cdv)).units+1<cLine:=by have:=hr.un;lia
  have h16:(16777216:Nat)=sizeLine:=sizeLine_eq.symm;refine ⟨_,Gd (Gs (i:=3) scOnc.nd rfl (Or.inr rfl) (Gh GU (hr.mono (by decide)) rfl mU FU.kp bU .nil GQ (Ga (pv 0) Ge)))
    (Gd (Gs (i:=4) scOnc.nd rfl (Or.inl rfl) (Gz (ZgK K rfl) rfl mAll Vr (Ga (G9 (own:=["step"]) rfl (Go (fr:=[("numbers", 3)]) [(".0", .local),("step", .local),("numbers", .cell)] rfl rfl (by decide +kernel) rfl (by decide +kernel) ⟨rfl,trivial⟩ ⟨λh=>GN h,λh=>GN h,λ_=>⟨_,rfl⟩,trivial⟩ ⟨⟨rfl,.inl rfl,.inl rfl⟩,trivial⟩) (JV K (Gh GV (hr.mono (by decide)) rfl mV FV.kp bV .nil GQ (Ga (pv 1) (Ga (pv 2) Ge)))) (λ_ _ _ _=>Gi (i:=0) (show List.Nodup (["step", "numbers"]:List Str) by decide +kernel) rfl (Or.inl rfl)) (λ_ _ _ _=>G5) (λ_ _ _ _=>ZdP (Zm hu1 (pv 0) (pv 1)) rfl)) Ge)))
    (Gf (Gu (ZdQ (pv 4) (ZbP (JJ UQ (Gz ZcM rfl mLen PySem.boot_len (Ga (Jp (Zfx K rfl) rfl mSet ZaT (Ga (pv 1) Ge)) Ge)) (Gz (ZbY K) rfl mLen PySem.boot_len (Ga (pv 1) Ge)) (GE _))))))),?_⟩
  refine ⟨_,rfl,wb,l,k,xs,rs,rfl,W,hx,λd H1 kvs s1 hd ed val=>?_⟩;refine ⟨_,rfl,_,rfl,pl,ns,c,rfl,s1 _ _ hp,hn,hc,λS ws H2 s2 hS eS pS=>?_⟩;have s12:=s1.trans s2;have ed2:=s2 _ _ ed;have lws:ws.length<=102:=by
   rw [pS.len];unfold Gj;rw [List.length_append,List.length_zip];split <;> simp <;> lia
  refine ⟨S,rfl,⟨_,SqL.of eS⟩,λD hD=>?_⟩;refine GS (K:=K) (a:=S) (xs:=ws) (λi ys H3=>Same H2 H3/\H3 D=some (.lst ys)/\ys=(((Gj ns c).take i).map λt=>(JT rs t.1 t.2 rs.length).isSome).map V.bl) ⟨Same.new hD,Gb,rfl⟩ (λi ys H3 _ ⟨s3,_⟩=>SqL.of (s3 _ _ eS)) ?_ ?_
  ·rintro i x ys H3 hxi ⟨s3,hD3,rfl⟩;obtain ⟨t,r,rfl,et,er⟩:=(pS.same s3).get hxi;have hi:i<ws.length:=(List.getElem?_eq_some_iff.mp hxi).1;refine ⟨⟨rfl,trivial⟩,?_⟩;unfold Ys;refine Jl ?_;refine ⟨_,rfl,_,rfl,d,_,rfl,DGet.t (k:=ky r.1 r.2) (s3 _ _ ed2) et,hD3,?_,s3.put hD,Gb,?_⟩
   ·rw [List.length_map,List.length_map,List.length_take]
    lia
   ·rw [List.take_add_one,er,List.map_append,List.map_append,val r.1 r.2]
    rfl
  rintro ys H3 ⟨s3,hD3,rfl⟩;rw [pS.len,List.take_length] at hD3;refine ⟨D,_,rfl,SqL.of hD3,?_⟩;refine ⟨_,rfl,_,rfl,?_⟩;have s13:=s12.trans s3;have eall:(((Gj ns c).map λt=>(JT rs t.1 t.2 rs.length).isSome).all id=true)↔∀t∈Gj ns c,Adj rs t.1 t.2:=by
   rw [List.all_eq_true];constructor
   ·intro h t ht;exact (VJ rs t.1 t.2).mp (h _ (List.mem_map.mpr ⟨t,ht,rfl⟩))
   ·intro h y hy;obtain ⟨t,ht,rfl⟩:=List.mem_map.mp hy;exact (VJ rs t.1 t.2).mpr (h t ht)
  refine Uk (λz=>?_) (λz=>?_)
  ·refine ⟨_,rfl,pl,ns,rfl,SqL.of (s13 _ _ hp),by lia,λse hse=>?_⟩;have s4:Same H3 (upd H3 se (.set (λk'=>(PyProof.Rows.firstMet (λi=>ns.getD i 0) ns.length).any (· == k')) (PyProof.Rows.firstMet (λi=>ns.getD i 0) ns.length).length)):=Same.new hse;have hml:=PyProof.Rows.firstMet_length_le (λi=>ns.getD i 0) ns.length;refine ⟨se,_,_,rfl,Gb,by lia,_,rfl,pl,_,rfl,.inl (SqL.of (s4 _ _ (s13 _ _ hp))),rfl,?_⟩;refine q _ _ (s13.trans s4) ?_;rw [List.length_map];constructor
   ·intro e;have e1:=of_decide_eq_true e;have e2:(PyProof.Rows.firstMet (λi=>ns.getD i 0) ns.length).length=ns.length:=by
     have:=V.int.inj e1
     lia
    exact ⟨eall.mp z,(Z6 ns).mp e2⟩
   ·rintro ⟨_,nd⟩;rw [(Z6 ns).mpr nd];exact decide_eq_true rfl
  ·exact q _ _ s13 ⟨λe=>(by cases e),λo=>absurd (eall.mpr o.1) z⟩
end
end M
namespace M
open PySem L2
section
variable {P:Program}{w:World}{K:W.Frag}{mg:Str->Option Value}{base:Heap}
theorem GY {ns:List Int}{i:Nat}(h:i<ns.length):ns.getD i 0=ns[i]:=by
 rw [List.getD_eq_getElem?_getD,List.getElem?_eq_getElem h]
 rfl
theorem zip_mem {ns:List Int}{t:Int×Int}:t∈ns.zip (ns.drop 1)↔∃j,j+1<ns.length/\t=(ns.getD j 0,ns.getD (j+1) 0):=by
 constructor
 ·intro h;obtain ⟨j,hj,e⟩:=List.getElem_of_mem h;rw [List.length_zip,List.length_drop] at hj;have h1:j+1<ns.length:=by lia
  refine ⟨j,h1,?_⟩;rw [<-e,List.getElem_zip,List.getElem_drop,GY (by lia),GY h1]
  congr 2
  lia
 ·rintro ⟨j,hj,rfl⟩;have h1:j<(ns.zip (ns.drop 1)).length:=by rw [List.length_zip,List.length_drop];lia
  have e:(ns.zip (ns.drop 1))[j]=(ns.getD j 0,ns.getD (j+1) 0):=by
   rw [List.getElem_zip,List.getElem_drop,GY (by lia),GY hj]
   congr 2
   lia
  rw [<-e];exact List.getElem_mem h1
theorem Oh {ns:List Int}{i:Nat}(h:i<ns.length):ns.getD i 0∈ns:=by
 rw [GY h];exact List.getElem_mem h
theorem JG {ns:List Int}(nd:ns.Nodup){i j:Nat}(hi:i<ns.length)(hj:j<ns.length)(h:i≠j):ns.getD i 0≠ns.getD j 0:=by
 rw [GY hi,GY hj];exact λe=>h ((List.getElem_inj nd).mp e)
def Mt (rs:List (Int×Int))(p q:Int)(j:Nat):Prop:=rs.getD j (0,0)=(p,q)\/rs.getD j (0,0)=(q,p)
theorem OL {rs:List (Int×Int)}{j:Nat}(h:j<rs.length):rs.getD j (0,0)∈rs:=by
 rw [List.getD_eq_getElem?_getD,List.getElem?_eq_getElem h];exact List.getElem_mem h
theorem OM {rs:List (Int×Int)}(nd:rs.Nodup){i j:Nat}(hi:i<rs.length)(hj:j<rs.length)(h:rs.getD i (0,0)=rs.getD j (0,0)):i=j:=by
 rw [List.getD_eq_getElem?_getD,List.getElem?_eq_getElem hi,List.getD_eq_getElem?_getD,List.getElem?_eq_getElem hj] at h;exact (List.getElem_inj nd).mp h
theorem Zey {k:Int}{rs:List (Int×Int)}(g:Gk k rs){p q:Int}{i j:Nat}(hi:i<rs.length)(hj:j<rs.length)(a:Mt rs p q i)(b:Mt rs p q j):i=j:=by
 have gi:=(g.2.2.2.1 _ (OL hi)).2.1;have gj:=(g.2.2.2.1 _ (OL hj)).2.1;rcases a with a | a <;> rcases b with b | b
 ·exact OM g.2.2.2.2 hi hj (a.trans b.symm)
 ·rw [a] at gi;rw [b] at gj;dsimp only at gi gj;lia
 ·rw [a] at gi;rw [b] at gj;dsimp only at gi gj;lia
 ·exact OM g.2.2.2.2 hi hj (a.trans b.symm)
theorem UJ {k:Int}{rs:List (Int×Int)}(g:Gk k rs){p q:Int}{j:Nat}(m:Mt rs p q j):∀i,j<i->i<=rs.length->JT rs p q i=some (.int (j:Nat))
 | 0,h,_=>absurd h (Nat.not_lt_zero j)
 | i+1,h,hl=>by
  show (if rs.getD i (0,0)=(p,q)\/rs.getD i (0,0)=(q,p) then some (V.int (i:Nat)) else JT rs p q i)=_;by_cases z:rs.getD i (0,0)=(p,q)\/rs.getD i (0,0)=(q,p)
  ·rw [if_pos z,Zey g (i:=i) (j:=j) (by lia) (by lia) z m]
  ·rw [if_neg z];refine UJ g m i ?_ (by lia);rcases Nat.lt_or_ge j i with h' | h'
   ·exact h'
   ·have:j=i:=by lia
    subst this;exact absurd m z
theorem Zch {rs:List (Int×Int)}{p q:Int}(h:Adj rs p q):∃j,j<rs.length/\Mt rs p q j:=by
 obtain ⟨j,hj,e⟩:=(Oy rs p q rs.length).mp ((VJ rs p q).mpr h);exact ⟨j,hj,e⟩
def VX (rs:List (Int×Int))(t:Int×Int):Int:=match JT rs t.1 t.2 rs.length with
 | some (.int j)=>j
 | _=>0
theorem Z7 {k:Int}{rs:List (Int×Int)}(g:Gk k rs){t:Int×Int}{j:Nat}(hj:j<rs.length)(m:Mt rs t.1 t.2 j):VX rs t=(j:Int):=by
 unfold VX;rw [UJ g m rs.length hj (Nat.le_refl _)]
theorem Zci {ns:List Int}{i:Nat}(h:i+1<ns.length)(hz:i<(ns.zip (ns.drop 1)).length):(ns.zip (ns.drop 1))[i]=(ns.getD i 0,ns.getD (i+1) 0):=by
 rw [List.getElem_zip,List.getElem_drop,GY (by lia),GY h]
 congr 2
 lia
theorem YG {ns:List Int}{c:Bool}(nd:ns.Nodup)(hc:c=true->3<=ns.length):(Gj ns c).Pairwise (λt u=>¬ (t=u\/t=(u.2,u.1))):=by
 unfold Gj;have zl:(ns.zip (ns.drop 1)).length=ns.length-1:=by rw [List.length_zip,List.length_drop];lia
 have hz:(ns.zip (ns.drop 1)).Pairwise (λt u=>¬ (t=u\/t=(u.2,u.1))):=by
  rw [List.pairwise_iff_getElem];intro i j hi hj hij;rw [Zci (by lia) hi,Zci (by lia) hj];rintro (e | e)
  ·injection e with e1 e2
   exact JG nd (i:=i) (j:=j) (by lia) (by lia) (by lia) e1
  ·injection e with e1 e2
   exact JG nd (i:=i) (j:=j+1) (by lia) (by lia) (by lia) e1
 cases c with
 | false=>rw [if_neg (by decide),List.append_nil];exact hz
 | true=>
  have h3:=hc rfl;rw [if_pos rfl,List.pairwise_append];refine ⟨hz,List.pairwise_singleton _ _,λt ht u hu=>?_⟩;rw [List.mem_singleton] at hu;subst hu;obtain ⟨i,hi,rfl⟩:=zip_mem.mp ht;rintro (e | e)
  ·injection e with e1 e2
   exact JG nd (i:=i) (j:=ns.length-1) (by lia) (by lia) (by lia) e1
  ·injection e with e1 e2
   by_cases h0:i=0
   ·subst h0;exact JG nd (i:=0+1) (j:=ns.length-1) (by lia) (by lia) (by lia) e2
   ·exact JG nd (i:=i) (j:=0) (by lia) (by lia) h0 e1
theorem Zez {rs:List (Int×Int)}(hlt:∀r∈rs,r.1<r.2)(x y:Int):((if y<x then y else x),(if y > x then y else x))∈rs↔Adj rs x y:=by
 unfold Adj;by_cases h1:y<x
 ·rw [if_pos h1,if_neg (show ¬ y > x by lia)];refine ⟨.inr,λh=>h.elim (λh=>?_) id⟩;have:=hlt _ h;dsimp only at this
  lia
 ·rw [if_neg h1];by_cases h2:y > x
  ·rw [if_pos h2];refine ⟨.inl,λh=>h.elim id (λh=>?_)⟩;have:=hlt _ h;dsimp only at this
   lia
  ·have e:x=y:=by lia
   subst e;rw [if_neg h2];exact ⟨.inl,λh=>h.elim id id⟩
theorem Ug {k:Int}{rs:List (Int×Int)}(g:Gk k rs){x y:Int}(h:Adj rs x y):0<=y/\y<k:=by
 rcases h with h | h
 ·have:=g.2.2.2.1 _ h;dsimp only at this
  lia
 ·have:=g.2.2.2.1 _ h;dsimp only at this
  lia
def ZgP:Sp:=λvs H Q _=>∃(wb l:Addr)(k p:Int),vs=[.ref wb,.int p]/\H wb=some (.tup [.int k,.ref l])/\Q (.bl (decide (0<=p/\p<k))) H
theorem Zhv:Gr ["web", "place"] ["web", "place"] (Gc sIs):=⟨rfl,rfl,rfl,by decide +kernel,rfl,by decide +kernel,by decide +kernel⟩
theorem ZfK {f:Addr}{fd:FuncData}(F:Fun K "is_place" "is_place" sIs f fd):GG P w K mg base CX0 1 f fd ["web", "place"] ZgP:=by
 refine F.ok Zhv (λvs H Q E h=>?_) (λcdv A outer s H vs Q E hr h=>?_)
 ·obtain ⟨_,_,_,_,rfl,_⟩:=h
  rfl
 ·obtain ⟨wb,l,k,p,rfl,hw,q⟩:=h;refine ⟨_,Gf (Gu (ZaK Zcu Vk Gg (pv 1) (GJ (Op K) (pv 0) Gg (λ_ _=>rfl)))),?_⟩;refine ⟨_,rfl,_,_,rfl,rfl,_,rfl,Uk (λh0=>?_) (λh0=>?_)⟩
  ·refine ⟨_,rfl,wb,_,_,_,rfl,rfl,SqT.of hw,Gx (j:=0) rfl,_,_,rfl,rfl,?_⟩;have h0':=of_decide_eq_true h0;have e:decide (p<k)=decide (0<=p/\p<k):=by
    by_cases h1:p<k
    ·rw [decide_eq_true h1,decide_eq_true (⟨h0',h1⟩:0<=p/\p<k)]
    ·rw [decide_eq_false h1,decide_eq_false λz=>h1 z.2]
   show Q (.bl (decide (p<k))) H;rw [e];exact q
  ·have h0':¬ 0<=p:=λz=>h0 (decide_eq_true z);have e:decide (0<=p/\p<k)=false:=decide_eq_false λz=>h0' z.1;rw [e] at q;exact q
def Ends (k p q:Int):Prop:=(0<=p/\p<k)/\(0<=q/\q<k)/\p≠q
def Way (rs:List (Int×Int))(p q:Int)(ns:List Int):Prop:=ns≠[]/\ns.getD 0 0=p/\ns.getD (ns.length-1) 0=q/\Vc rs ns false
def Zcj (rs:List (Int×Int))(ns:List Int):Prop:=3<=ns.length/\(∀x∈ns,ns.getD 0 0<=x)/\ns.getD 1 0<ns.getD (ns.length-1) 0/\Vc rs ns true
def ZeA:Sp:=λvs H Q _=>∃(wb l pl:Addr)(k:Int)(xs:List V)(rs:List (Int×Int))(ns:List Int),vs=[.ref wb,.ref pl]/\WebAt H wb l k xs rs/\xs.length<=30/\H pl=some (.lst (ns.map V.int))/\ns.length<=100 /\
 ∀(b:Bool)(H':Hp),Same H H'->(b=true↔Zcj rs ns)->Q (.bl b) H'
theorem ZfL:Gr ["web", "places"] ["web", "places"] (Gc Zdc):=⟨rfl,rfl,rfl,by decide +kernel,rfl,by decide +kernel,by decide +kernel⟩
theorem ZeB {f fO:Addr}{fd fdO:FuncData}(F:Fun K "is_closed" "is_closed" Zdc f fd)(FO:Fun K "goes_once" "goes_once" Zca fO fdO)(bO:Binds K fdO ["web", "places", "closed"] [])(mO:mg "goes_once" = some (.ref fO))(GO:GG P w K mg base CX0 2 fO fdO ["web", "places", "closed"] Zew)(mLen:mg "len" = none)(mMin:mg "min" = none):GG P w K mg base CX0 3 f fd ["web", "places"] ZeA:=by
 refine F.ok ZfL (λvs H Q E h=>?_) (λcdv A outer s H vs Q E hr h=>?_)
 ·obtain ⟨_,_,_,_,_,_,_,rfl,_⟩:=h
  rfl
 ·obtain ⟨wb,l,pl,k,xs,rs,ns,rfl,W,hx,hp,hn,q⟩:=h;have h16:(16777216:Nat)=sizeLine:=sizeLine_eq.symm;have no:¬ Zcj rs ns->Q (.bl false) H:=λz=>q false H (Same.refl _) ⟨λe=>(by cases e),λr=>absurd r z⟩;refine ⟨_,Gd (Je (PW.pt (Uv (Gw Vk (Gz (ZbY K) rfl mLen PySem.boot_len (Ga (pv 1) Ge)) Gg (GE _)) (Uv (Gw WU (GJ (UR K) (pv 1) Gg (λ_ _=>rfl)) (Gz (Zhr K rfl) rfl mMin Wl (Ga (pv 1) Ge)) (GE _)) (Ut (Gw Zcv (GJ (UR K) (pv 1) Gg (λ_ _=>rfl)) (GJ (UR K) (pv 1) (Vj JO Gg) (λ_ _=>rfl)) (GE _)))))) (Gf (Gu Uh)) GB)
    (Gf (Gu (Gh GO (hr.mono (by decide)) rfl mO FO.kp bO .nil GQ (Ga (pv 0) (Ga (pv 1) (Ga Uh Ge)))))),?_⟩
  refine ⟨_,rfl,pl,_,rfl,.inl (SqL.of hp),_,_,rfl,rfl,_,rfl,?_⟩;rw [List.length_map];refine Uk (λz=>no λr=>?_) (λz=>?_)
  ·have:=of_decide_eq_true z;have:=r.1
   lia
  have h3:3<=ns.length:=by
   have:¬ ((ns.length:Int)<3):=λy=>z (decide_eq_true y)
   lia
  have hne:ns≠[]:=λe=>by rw [e] at h3;exact absurd h3 (by decide)
  refine ⟨_,rfl,pl,_,_,_,rfl,rfl,SqL.of hp,JU (i:=0) (by decide) (by lia),_,rfl,pl,ns,rfl,SqL.of hp,hne,λm hm hl=>⟨rfl,_,rfl,?_⟩⟩;refine Uk (λz=>no λr=>?_) (λz=>?_)
  ·have hle:=r.2.1 m hm;have hge:=hl _ (Oh (show 0<ns.length by lia));have e:ns.getD 0 0=m:=Int.le_antisymm hle hge;have z':(!decide (V.int (ns.getD (0:Int).toNat 0)=V.int m))=true:=z;rw [show (0:Int).toNat=0 from rfl,e,decide_eq_true rfl] at z';cases z'
  have e0:ns.getD 0 0=m:=by
   by_cases y:ns.getD 0 0=m
   ·exact y
   ·exfalso;apply z;show (!decide (V.int (ns.getD 0 0)=V.int m))=true;rw [decide_eq_false λe=>y (V.int.inj e)]
    rfl
  refine ⟨_,rfl,pl,_,_,_,rfl,rfl,SqL.of hp,JU (i:=1) (by decide) (by lia),_,rfl,_,rfl,pl,_,_,_,rfl,rfl,SqL.of hp,UI hne,_,_,rfl,rfl,_,rfl,?_⟩;refine Uk (λz=>no λr=>?_) (λz=>?_)
  ·have z':=of_decide_eq_true z;have:=r.2.2.1;rw [show (1:Int).toNat=1 from rfl] at z'
   lia
  have h1:ns.getD 1 0<=ns.getD (ns.length-1) 0:=by
   have:¬ (ns.getD (ns.length-1) 0<ns.getD (1:Int).toNat 0):=λy=>z (decide_eq_true y);rw [show (1:Int).toNat=1 from rfl] at this
   lia
  refine ⟨_,rfl,_,rfl,wb,l,pl,k,xs,rs,ns,true,rfl,W,hx,hp,hn,λ_=>hne,λb H1 s1 hb=>q b H1 s1 ?_⟩;rw [hb];refine ⟨λo=>⟨h3,λx hx=>by rw [e0];exact hl x hx,?_,o⟩,λr=>r.2.2.2⟩;have:=JG o.2 (i:=1) (j:=ns.length-1) (by lia) (by lia) (by lia)
  lia
end
end M
namespace M
open PySem L2
def Jf (p q:Int):Int×Int:=((if q<p then q else p),(if q > p then q else p))
theorem Jn {ls:List (Int×Int)}(hlt:∀r∈ls,r.1<r.2)(x y:Int):Jf x y∈ls↔Adj ls x y:=Zez hlt x y
def hit (p:Int)(t:Int×Int):Nat:=(if t.1=p then 1 else 0)+(if t.2=p then 1 else 0)
theorem ZeC (p x y:Int):hit p (Jf x y)=hit p (x,y):=by
 unfold hit Jf;dsimp only;by_cases h1:y<x
 ·rw [if_pos h1,if_neg (show ¬ y > x by lia)];exact Nat.add_comm _ _
 ·rw [if_neg h1];by_cases h2:y > x
  ·rw [if_pos h2]
  ·rw [if_neg h2,show x=y by lia]
def Zbs (p:Int)(ls:List (Int×Int)):Nat:=(ls.map (hit p)).sum
theorem UK {p:Int}{ls ms:List (Int×Int)}(h:ls.Perm ms):Zbs p ls=Zbs p ms:=(h.map (hit p)).sum_nat
theorem Wv (p:Int)(t:Int×Int)(ls:List (Int×Int)):Zbs p (t::ls)=hit p t+Zbs p ls:=by unfold Zbs;rw [List.map_cons,List.sum_cons]
def GX (ns:List Int):List (Int×Int):=(ns.zip (ns.drop 1)).map λt=>Jf t.1 t.2
theorem GW (a b:Int)(tl:List Int):GX (a::b::tl)=Jf a b::GX (b::tl):=rfl
def Oz (p q:Int):Nat:=if p=q then 1 else 0
theorem O8 (p:Int):∀(tl:List Int)(a:Int),Zbs p (GX (a::tl))+Oz a p+Oz ((a::tl).getD tl.length 0) p=2 * (a::tl).count p
 | [],a=>by
  show 0+Oz a p+Oz a p=2 * List.count p [a];unfold Oz;by_cases h:a=p
  ·rw [if_pos h,h,List.count_singleton_self]
  ·rw [if_neg h,List.count_eq_zero_of_not_mem (λz=>h (List.mem_singleton.mp z).symm)]
 | b::tl,a=>by
  have ih:=O8 p tl b;rw [GW,Wv,ZeC];show hit p (a,b)+Zbs p (GX (b::tl))+Oz a p+Oz ((b::tl).getD tl.length 0) p=_;rw [List.count_cons];have e1:hit p (a,b)=Oz a p+Oz b p:=rfl;have e2:(if (a == p)=true then 1 else 0)=Oz a p:=by
   unfold Oz;by_cases h:a=p
   ·rw [if_pos h,if_pos (by rw [h];exact beq_self_eq_true p)]
   ·rw [if_neg h,if_neg (by rw [beq_iff_eq];exact h)]
  rw [e1,e2]
  lia
inductive Wk:List (Int×Int)->Int->List Int->List (Int×Int)->Prop
 | stop {ls:List (Int×Int)} {p:Int}:(∀q,¬ Adj ls p q)->Wk ls p [] ls
 | go {ls rest:List (Int×Int)} {p q:Int} {row:List Int}:Adj ls p q->(∀q',Adj ls p q'->q<=q')->Wk (ls.erase (Jf p q)) q row rest->Wk ls p (q::row) rest
theorem Wk.det {ls e1:List (Int×Int)}{p:Int}{r1:List Int}(h:Wk ls p r1 e1):∀{r2:List Int}{e2:List (Int×Int)},Wk ls p r2 e2->r1=r2:=by
 induction h with
 | stop n=>
  intro r2 e2 k;cases k with
  | stop _=>rfl
  | go a _ _=>exact absurd a (n _)
 | go a l w ih=>
  intro r2 e2 k;cases k with
  | stop n=>exact absurd a (n _)
  | go a' l' w'=>
   have e:=Int.le_antisymm (l _ a') (l' _ a);subst e;rw [ih w']
theorem VL {ls:List (Int×Int)}{t:Int×Int}(hlt:∀r∈ls,r.1<r.2):∀r∈ls.erase t,r.1<r.2:=λr hr=>hlt r (List.mem_of_mem_erase hr)
theorem Wk.perm {ls rest:List (Int×Int)}{p:Int}{row:List Int}(h:Wk ls p row rest)(hlt:∀r∈ls,r.1<r.2):ls.Perm (GX (p::row)++rest):=by
 induction h with
 | stop _=>exact List.Perm.refl _
 | @go ls rest p q row a _ _ ih=>
  rw [GW];exact (List.perm_cons_erase ((Jn hlt _ _).mpr a)).trans ((ih (VL hlt)).cons _)
theorem Vd (a:Int)(tl:List Int):(GX (a::tl)).length=tl.length:=by
 unfold GX;rw [List.length_map,List.length_zip,List.length_drop,List.length_cons]
 lia
theorem Wk.len {ls rest:List (Int×Int)}{p:Int}{row:List Int}(h:Wk ls p row rest)(hlt:∀r∈ls,r.1<r.2):ls.length=row.length+rest.length:=by
 rw [(h.perm hlt).length_eq,List.length_append,Vd]
def Ww (rs:List (Int×Int))(ks:List Int):Prop:=ks.Pairwise (· < ·)/\∀x∈ks,0<=x/\x<(rs.length:Int)
def road (rs:List (Int×Int))(x:Int):Int×Int:=rs.getD x.toNat (0,0)
def cho (rs:List (Int×Int))(ks:List Int)(i:Nat):List (Int×Int):=((List.range i).filter λ(j:Nat)=>decide ((j:Int)∈ks)).map λ(j:Nat)=>rs.getD j (0,0)
theorem X1 (rs:List (Int×Int))(ks:List Int)(i:Nat):cho rs ks (i+1)=cho rs ks i++(if (i:Int)∈ks then [rs.getD i (0,0)] else []):=by
 unfold cho;rw [List.range_succ,List.filter_append,List.map_append];by_cases h:(i:Int)∈ks
 ·rw [if_pos h,List.filter_cons,if_pos (decide_eq_true h)];rfl
 ·rw [if_neg h,List.filter_cons,if_neg (by rw [decide_eq_false h];decide)];rfl
theorem VM {rs:List (Int×Int)}{ks:List Int}{t:Int×Int}(h:t∈cho rs ks rs.length):t∈rs:=by
 unfold cho at h;obtain ⟨j,hj,rfl⟩:=List.mem_map.mp h;exact OL (List.mem_range.mp (List.mem_filter.mp hj).1)
theorem Xn (rs:List (Int×Int))(ks:List Int)(i:Nat):(cho rs ks i).length<=i:=by
 unfold cho;rw [List.length_map];exact Nat.le_trans (List.length_filter_le _ _) (Nat.le_of_eq List.length_range)
theorem Zck {xs ys:List Int}(hx:xs.Pairwise (· < ·))(hy:ys.Pairwise (· < ·))(h:∀z,z∈xs↔z∈ys):xs=ys:=by
 induction xs generalizing ys with
 | nil=>
  cases ys with
  | nil=>rfl
  | cons y ys=>exact absurd ((h y).mpr (List.mem_cons_self ..)) List.not_mem_nil
 | cons x xs ih=>
  cases ys with
  | nil=>exact absurd ((h x).mp (List.mem_cons_self ..)) List.not_mem_nil
  | cons y ys=>
   have hx':=List.pairwise_cons.mp hx;have hy':=List.pairwise_cons.mp hy;have e:x=y:=by
    rcases List.mem_cons.mp ((h x).mp (List.mem_cons_self ..)) with z | z
    ·exact z
    ·rcases List.mem_cons.mp ((h y).mpr (List.mem_cons_self ..)) with u | u
     ·exact u.symm
     ·have:=hy'.1 _ z;have:=hx'.1 _ u
      lia
   subst e;rw [ih hx'.2 hy'.2 λz=>⟨λhz=>?_,λhz=>?_⟩]
   ·rcases List.mem_cons.mp ((h z).mp (List.mem_cons_of_mem _ hz)) with u | u
    ·have:=hx'.1 _ hz;lia
    ·exact u
   ·rcases List.mem_cons.mp ((h z).mpr (List.mem_cons_of_mem _ hz)) with u | u
    ·have:=hy'.1 _ hz;lia
    ·exact u
theorem Xo {rs:List (Int×Int)}{ks:List Int}(h:Ww rs ks):cho rs ks rs.length=ks.map (road rs):=by
 have e:((List.range rs.length).filter λ(j:Nat)=>decide ((j:Int)∈ks)).map (λ(j:Nat)=>(j:Int))=ks:=by
  refine Zck ?_ h.1 λz=>?_
  ·rw [List.pairwise_map];exact (List.pairwise_lt_range.filter _).imp λhlt=>by lia
  ·rw [List.mem_map];constructor
   ·rintro ⟨j,hj,rfl⟩;exact of_decide_eq_true (List.mem_filter.mp hj).2
   ·intro hz;obtain ⟨z0,z1⟩:=h.2 z hz;exact ⟨z.toNat,List.mem_filter.mpr ⟨List.mem_range.mpr (by lia),decide_eq_true (by rw [Int.toNat_of_nonneg z0];exact hz)⟩,Int.toNat_of_nonneg z0⟩
 unfold cho
 conv=>rhs;rw [<-e]
 rw [List.map_map]
 rfl
theorem Zbt {k:Int}{rs:List (Int×Int)}(g:Gk k rs){t:Int×Int}(h:t∈rs)(p:Int):hit p t=if t.1=p\/t.2=p then 1 else 0:=by
 have:=g.2.2.2.1 t h;unfold hit;by_cases h1:t.1=p
 ·rw [if_pos h1,if_neg (by lia),if_pos (.inl h1)]
 ·rw [if_neg h1];by_cases h2:t.2=p
  ·rw [if_pos h2,if_pos (.inr h2)]
  ·rw [if_neg h2,if_neg (λz=>z.elim h1 h2)]
def Zfd (rs:List (Int×Int))(ks:List Int)(p:Int):Nat:=(ks.filter λx=>decide ((road rs x).1=p\/(road rs x).2=p)).length
theorem X2 {rs:List (Int×Int)}{x:Int}(h:0<=x/\x<(rs.length:Int)):road rs x∈rs:=OL (by lia)
theorem ON {k:Int}{rs:List (Int×Int)}(g:Gk k rs)(p:Int):∀{ks:List Int},(∀x∈ks,0<=x/\x<(rs.length:Int))->Zfd rs ks p=Zbs p (ks.map (road rs))
 | [],_=>rfl
 | x::ks,h=>by
  have ih:=ON g p (ks:=ks) λy hy=>h y (List.mem_cons_of_mem _ hy);have hx:=Zbt g (X2 (h x (List.mem_cons_self ..))) p;rw [List.map_cons,Wv,<-ih,hx];unfold Zfd;rw [List.filter_cons];by_cases z:(road rs x).1=p\/(road rs x).2=p
  ·rw [if_pos (decide_eq_true z),if_pos z,List.length_cons,Nat.add_comm]
  ·rw [if_neg (by rw [decide_eq_false z];decide),if_neg z,Nat.zero_add]
theorem Zdi {rs:List (Int×Int)}{p q:Int}{x:Int}(m:Mt rs p q x.toNat)(hlt:(road rs x).1<(road rs x).2):road rs x=Jf p q:=by
 unfold road at hlt ⊢;unfold Jf;rcases m with e | e
 ·rw [e] at hlt ⊢;dsimp only at hlt;rw [if_neg (by lia),if_pos (by lia)]
 ·rw [e] at hlt ⊢;dsimp only at hlt;rw [if_pos (by lia),if_neg (by lia)]
theorem OO {k:Int}{rs:List (Int×Int)}(g:Gk k rs){t:Int×Int}(a:Adj rs t.1 t.2):(0<=VX rs t/\VX rs t<(rs.length:Int))/\road rs (VX rs t)=Jf t.1 t.2:=by
 obtain ⟨j,hj,m⟩:=Zch a;rw [Z7 g hj m];have hr:0<=(j:Int)/\(j:Int)<(rs.length:Int):=by lia
 refine ⟨hr,Zdi ?_ (g.2.2.2.1 _ (X2 hr)).2.1⟩;rw [Int.toNat_natCast];exact m
theorem X3 {k:Int}{rs:List (Int×Int)}(g:Gk k rs){x y:Int}(hx:0<=x/\x<(rs.length:Int))(hy:0<=y/\y<(rs.length:Int))(e:road rs x=road rs y):x=y:=by
 have:=OM g.2.2.2.2 (i:=x.toNat) (j:=y.toNat) (by lia) (by lia) e
 lia
theorem Wx {k:Int}{rs:List (Int×Int)}(g:Gk k rs){xs ys:List Int}(hx:∀x∈xs,0<=x/\x<(rs.length:Int))(hy:∀y∈ys,0<=y/\y<(rs.length:Int))(p:(xs.map (road rs)).Perm (ys.map (road rs))):xs.Perm ys:=by
 induction xs generalizing ys with
 | nil=>
  have:=p.length_eq;rw [List.length_map,List.length_map] at this;cases ys with
  | nil=>exact .nil
  | cons y ys=>simp at this
 | cons x xs ih=>
  rw [List.map_cons] at p;have hm:road rs x∈ys.map (road rs):=p.mem_iff.mp (List.mem_cons_self ..);obtain ⟨y,hym,e⟩:=List.mem_map.mp hm;have exy:=X3 g (hx x (List.mem_cons_self ..)) (hy y hym) e.symm;subst exy;have p2:=List.perm_cons_erase hym;have p3:(xs.map (road rs)).Perm ((ys.erase x).map (road rs)):=by
   have:=p.trans (p2.map (road rs));rw [List.map_cons] at this;exact this.cons_inv
  exact ((ih (λz hz=>hx z (List.mem_cons_of_mem _ hz)) (λz hz=>hy z (List.mem_of_mem_erase hz)) p3).cons x).trans p2.symm
theorem Oi {k:Int}{rs:List (Int×Int)}(g:Gk k rs):∀{ts:List (Int×Int)},(∀t∈ts,Adj rs t.1 t.2)->(ts.map (VX rs)).map (road rs)=ts.map λt=>Jf t.1 t.2
 | [],_=>rfl
 | t::ts,h=>by
  rw [List.map_cons,List.map_cons,List.map_cons,(OO g (h t (List.mem_cons_self ..))).2,Oi g λu hu=>h u (List.mem_cons_of_mem _ hu)]
theorem YH {ms:List Int}(h:ms.Pairwise (· <= ·))(nd:ms.Nodup):ms.Pairwise (· < ·):=(h.and nd).imp λh=>by have:=h.1;have:=h.2;lia
theorem VN {k:Int}{rs:List (Int×Int)}(g:Gk k rs){ns ms:List Int}{c:Bool}(o:Vc rs ns c)(hc:c=true->3<=ns.length)(pm:ms.Perm ((Gj ns c).map (VX rs)))(so:ms.Pairwise (· <= ·)):Ww rs ms:=by
 have nd:((Gj ns c).map (VX rs)).Nodup:=by
  unfold List.Nodup;rw [List.pairwise_map];refine (YG o.2 hc).imp_of_mem λ{t u} ht hu h e=>h ?_;have rt:=OO g (o.1 t ht);have ru:=OO g (o.1 u hu);have e2:Jf t.1 t.2=Jf u.1 u.2:=by rw [<-rt.2,<-ru.2,e]
  unfold Jf at e2;have e3:=Prod.mk.inj e2;obtain ⟨t1,t2⟩:=t;obtain ⟨u1,u2⟩:=u;dsimp only at e3 ⊢;rw [Prod.mk.injEq,Prod.mk.injEq];split at e3 <;> split at e3 <;> split at e3 <;> split at e3 <;> lia
 refine ⟨YH so (pm.nodup_iff.mpr nd),λx hx=>?_⟩;obtain ⟨t,ht,rfl⟩:=List.mem_map.mp (pm.mem_iff.mp hx);exact (OO g (o.1 t ht)).1
end M
namespace M
open PySem L2
theorem Z8 {k:Int}{rs:List (Int×Int)}(g:Gk k rs)(ks:List Int):∀r∈cho rs ks rs.length,r.1<r.2:=λr hr=>(g.2.2.2.1 r (VM hr)).2.1
theorem VO {ls rs:List (Int×Int)}(h:∀r∈ls,r∈rs){p q:Int}(a:Adj ls p q):Adj rs p q:=a.elim (λz=>.inl (h _ z)) λz=>.inr (h _ z)
theorem Z9 {ls:List (Int×Int)}{p q:Int}(a:Adj ls p q):Adj ls q p:=a.elim .inr .inl
theorem Wk.met {ls rest:List (Int×Int)}{p:Int}{row:List Int}(h:Wk ls p row rest):∀x∈row,∃y,Adj ls y x:=by
 induction h with
 | stop _=>exact λx hx=>absurd hx List.not_mem_nil
 | go a _ _ ih=>
  intro x hx;rcases List.mem_cons.mp hx with rfl | hx
  ·exact ⟨_,a⟩
  ·obtain ⟨y,hy⟩:=ih x hx;exact ⟨y,VO (λr hr=>List.mem_of_mem_erase hr) hy⟩
theorem Wy (ns:List Int):GX ns=(Gj ns false).map λt=>Jf t.1 t.2:=by
 unfold GX Gj;rw [if_neg Bool.false_ne_true,List.append_nil]
theorem Zaa {k:Int}{rs ls:List (Int×Int)}{ns:List Int}{c:Bool}(g:Gk k rs)(hs:∀r∈ls,r∈rs)(h:ls.Perm ((Gj ns c).map λt=>Jf t.1 t.2)):∀t∈Gj ns c,Adj rs t.1 t.2:=λt ht=>
 (Jn (λr hr=>(g.2.2.2.1 r hr).2.1) _ _).mp (hs _ (h.mem_iff.mpr (List.mem_map.mpr ⟨t,ht,rfl⟩)))
theorem Zab {k:Int}{rs:List (Int×Int)}{ns ks ms:List Int}{c:Bool}(g:Gk k rs)(S:Ww rs ks)(o:Vc rs ns c)(hc:c=true->3<=ns.length)(h:(ks.map (road rs)).Perm ((Gj ns c).map λt=>Jf t.1 t.2))(pm:ms.Perm ((Gj ns c).map (VX rs)))(so:ms.Pairwise (· <= ·)):ms=ks:=by
 have T:=VN g o hc pm so;have p1:(ms.map (road rs)).Perm (ks.map (road rs)):=by
  have:=pm.map (road rs);rw [Oi g o.1] at this;exact this.trans h.symm
 have p2:=Wx g T.2 S.2 p1;exact Zck T.1 S.1 λz=>p2.mem_iff
theorem VP:∀(tl:List Int)(a x:Int),(a::(tl++[x])).zip (tl++[x])=(a::tl).zip tl++[((a::tl).getD tl.length 0,x)]
 | [],a,x=>rfl
 | b::tl,a,x=>by
  have ih:=VP tl b x;show (a,b)::(b::(tl++[x])).zip (tl++[x])=_;rw [ih]
  rfl
theorem J4 (s:Int)(tl:List Int):(Gj (s::tl) true).map (λt=>Jf t.1 t.2)=GX (s::(tl++[s])):=by
 unfold GX Gj;rw [if_pos rfl];show _=((s::(tl++[s])).zip (tl++[s])).map _;rw [VP]
 rfl
theorem UL (p s:Int)(tl:List Int):Zbs p (GX (s::(tl++[s])))=2 * (s::tl).count p:=by
 have:=O8 p (tl++[s]) s;have e:(s::(tl++[s])).getD (tl++[s]).length 0=s:=by
  rw [List.length_append,List.length_singleton,List.getD_eq_getElem?_getD,List.getElem?_cons_succ,List.getElem?_append_right (Nat.le_refl _),Nat.sub_self]
  rfl
 have c:(s::(tl++[s])).count p=(s::tl).count p+Oz s p:=by
  rw [show s::(tl++[s])=(s::tl)++[s] from rfl,List.count_append]
  congr 1
  unfold Oz;by_cases h:s=p
  ·rw [if_pos h,h,List.count_singleton_self]
  ·rw [if_neg h,List.count_eq_zero_of_not_mem (λz=>h (List.mem_singleton.mp z).symm)]
 rw [e,c] at this
 lia
def ZfM (rs:List (Int×Int))(ks:List Int)(k:Int):Prop:=∀p,0<=p->p<k->Zfd rs ks p=0\/Zfd rs ks p=2
def Begins (ls:List (Int×Int))(s:Int):Prop:=(∀t∈ls,s<=t.1)/\∃t∈ls,t.1=s
theorem Begins.one {ls:List (Int×Int)}{s t:Int}(a:Begins ls s)(b:Begins ls t):s=t:=by
 obtain ⟨u,hu,e⟩:=a.2;obtain ⟨v,hv,f⟩:=b.2;have:=a.1 v hv;have:=b.1 u hu
 lia
theorem Zbu {k:Int}{rs rest:List (Int×Int)}{ks tl:List Int}{s:Int}(g:Gk k rs)(w:Wk (cho rs ks rs.length) s tl rest)(B:Begins (cho rs ks rs.length) s)(S:Ww rs ks)(h3:3<=ks.length)(D:ZfM rs ks k)(hl:tl.length=ks.length) :
  Zcj rs (s::tl).dropLast/\∀ms:List Int,ms.Perm ((Gj (s::tl).dropLast true).map (VX rs))->ms.Pairwise (· <= ·)->ms=ks:=by
 have hlt:=Z8 g ks;have hsub:∀r∈cho rs ks rs.length,r∈rs:=λr hr=>VM hr;have e:=Xo S;have ll:=w.len hlt;rw [e,List.length_map] at ll;have hr0:rest=[]:=List.length_eq_zero_iff.mp (by lia);have pm:=w.perm hlt;rw [hr0,List.append_nil] at pm;have rS:0<=s/\s<k:=by
  obtain ⟨t,ht,et⟩:=B.2;have:=g.2.2.2.1 t (hsub t ht)
  lia
 obtain ⟨tl',x,rfl⟩:∃tl' x,tl=tl'++[x]:=⟨tl.dropLast,tl.getLast (λz=>by rw [z] at hl;simp at hl;lia),(List.dropLast_concat_getLast _).symm⟩;have ex:x=s:=by
  have:=O8 s (tl'++[x]) s;have e2:(s::(tl'++[x])).getD (tl'++[x]).length 0=x:=by
   rw [List.length_append,List.length_singleton,List.getD_eq_getElem?_getD,List.getElem?_cons_succ,List.getElem?_append_right (Nat.le_refl _),Nat.sub_self]
   rfl
  rw [<-UK pm,e,<-ON g s S.2,e2,show Oz s s=1 from if_pos rfl] at this;by_cases z:x=s
  ·exact z
  ·rw [show Oz x s=0 from if_neg z] at this;have:=D s rS.1 rS.2
   lia
 subst ex;have rng:∀y∈x::tl',(0<=y/\y<k)/\x<=y:=λy hy=>by
  rcases List.mem_cons.mp hy with rfl | hy
  ·exact ⟨rS,Int.le_refl _⟩
  ·obtain ⟨z,hz⟩:=w.met y (List.mem_append_left _ hy);refine ⟨Ug g (VO hsub hz),?_⟩;rcases hz with hz | hz
   ·have:=B.1 _ hz;have:=hlt _ hz;dsimp only at *
    lia
   ·exact B.1 _ hz
 have nd:(x::tl').Nodup:=List.nodup_iff_count.mpr λp=>by
  by_cases hp:p∈x::tl'
  ·have r:=(rng p hp).1;have:=UL p x tl';rw [<-UK pm,e,<-ON g p S.2] at this;have:=D p r.1 r.2
   lia
  ·rw [List.count_eq_zero.mpr hp];exact Nat.zero_le _
 have ed:(x::(tl'++[x])).dropLast=x::tl':=by
  rw [show x::(tl'++[x])=(x::tl')++[x] from rfl,List.dropLast_concat]
 rw [ed];rw [List.length_append,List.length_singleton] at hl;rw [<-J4] at pm;have o:Vc rs (x::tl') true:=⟨Zaa g hsub pm,nd⟩;have h3':3<=(x::tl').length:=by rw [List.length_cons];lia
 refine ⟨⟨h3',λy hy=>(rng y hy).2,?_,o⟩,λms p so=>Zab g S o (λ_=>h3') (e▸pm) p so⟩;have hcl:Adj (cho rs ks rs.length) x ((x::tl').getD ((x::tl').length-1) 0):=by
  refine Z9 ((Jn hlt _ _).mp (pm.mem_iff.mpr (List.mem_map.mpr ⟨((x::tl').getD ((x::tl').length-1) 0,x),?_,rfl⟩)));unfold Gj;rw [if_pos rfl];exact List.mem_append_right _ (List.mem_singleton.mpr rfl)
 cases tl' with
 | nil=>exact absurd h3' (by simp)
 | cons q t2=>
  have w':Wk (cho rs ks rs.length) x (q::(t2++[x])) rest:=w;cases w' with
  | go a least _=>
   have:=least _ hcl;have ne:=JG nd (i:=1) (j:=(x::q::t2).length-1) (by lia) (by lia) (by lia);have e1:(x::q::t2).getD 1 0=q:=rfl;rw [e1] at ne ⊢
   lia
theorem X4 {k:Int}{rs:List (Int×Int)}{ks ns ms:List Int}(g:Gk k rs)(R:Zcj rs ns)(pm:ms.Perm ((Gj ns true).map (VX rs)))(so:ms.Pairwise (· <= ·))(e:ms=ks) :
  Ww rs ks/\3<=ks.length/\ZfM rs ks k/\ns.length=ks.length:=by
 subst e;have o:=R.2.2.2;have S:=VN g o (λ_=>R.1) pm so;obtain ⟨s,tl,rfl⟩:∃s tl,ns=s::tl:=by
  cases ns with
  | nil=>exact absurd R.1 (by simp)
  | cons s tl=>exact ⟨s,tl,rfl⟩
 have hp:(ms.map (road rs)).Perm (GX (s::(tl++[s]))):=by
  have:=pm.map (road rs);rw [Oi g o.1,J4] at this;exact this
 have hl:(s::tl).length=ms.length:=by
  have:=hp.length_eq;rw [List.length_map,Vd,List.length_append,List.length_singleton] at this;rw [List.length_cons]
  lia
 refine ⟨S,by have:=R.1;lia,λp _ _=>?_,hl⟩;rw [ON g p S.2,UK hp,UL,o.2.count];split <;> lia
end M
namespace M
open PySem L2
section
variable {P:Program}{w:World}{K:W.Frag}{mg:Str->Option Value}{base:Heap}
def Zdj:Sp:=λvs H Q _=>∃(wb l pl:Addr)(k:Int)(xs:List V)(rs:List (Int×Int))(ns:List Int)(c:Bool),vs=[.ref wb,.ref pl,.bl c]/\WebAt H wb l k xs rs/\Gk k rs/\H pl=some (.lst (ns.map V.int))/\ns.length<=50/\(c=true->ns≠[])/\(∀t∈Gj ns c,Adj rs t.1 t.2) /\
 ∀(re:Addr)(ms:List Int)(H':Hp),Same H H'->H re=none->H' re=some (.lst (ms.map V.int))->ms.Perm ((Gj ns c).map (VX rs))->ms.Pairwise (· <= ·)->Q (.ref re) H'
theorem scRds:Gr ["web", "places", "closed", "numbers"] ["web", "places", "closed"] (Gc YN):=⟨rfl,rfl,rfl,by decide +kernel,rfl,by decide +kernel,by decide +kernel⟩
theorem ZeD {f fU fV:Addr}{dV:Value}{fd fdU fdV:FuncData}(F:FunD K "roads_of" "roads_of" YN dV f fd)(FU:Fun K "numbers_by_step" "numbers_by_step" Zbp fU fdU)(bU:Binds K fdU ["web"] [])(mU:mg "numbers_by_step" = some (.ref fU))(FV:Fun K "steps_of" "steps_of" Zb9 fV fdV)(bV:Binds K fdV ["places", "closed"] [])(mV:mg "steps_of_ways" = some (.ref fV))(mEnum:mg "enumerate" = none)(mLst:mg "list" = none)(mZip:mg "zip" = none)(mSor:mg "sorted" = none):GG P w K mg base CX0 2 f fd ["web", "places", "closed"] Zdj:=by
 have GU:GG P w K mg base CX0 1 fU fdU ["web"] Zdg:=Zcf FU mEnum;have GV:GG P w K mg base CX0 1 fV fdV ["places", "closed"] Zdh:=Zcg FV mLst mZip;refine F.ok scRds (λvs H Q E h=>?_) (λcdv A outer s H vs Q E hr h=>?_)
 ·obtain ⟨_,_,_,_,_,_,_,_,rfl,_⟩:=h
  rfl
 ·obtain ⟨wb,l,pl,k,xs,rs,ns,c,rfl,W,g,hp,hn,hc,adj,q⟩:=h;have hu1:(A.deeper (PyProof.Rows.envOfC "roads_of" (Gc YN) s.heap.objs.size f cdv)).units+1<cLine:=by have:=hr.un;lia
  have h16:(16777216:Nat)=sizeLine:=sizeLine_eq.symm;have hx:xs.length<=30:=by rw [W.p.len];exact g.2.2.1
  refine ⟨_,Gd (Gs (i:=3) scRds.nd rfl (Or.inr rfl) (Gh GU (hr.mono (by decide)) rfl mU FU.kp bU .nil GQ (Ga (pv 0) Ge)))
    (Gf (Gu (Gz (Zg K) rfl mSor PyProof.Rows.boot_sorted (Ga (G9 (own:=["step"]) rfl (Go (fr:=[("numbers", 3)]) [(".0", .local),("step", .local),("numbers", .cell)] rfl rfl (by decide +kernel) rfl (by decide +kernel) ⟨rfl,trivial⟩ ⟨λh=>GN h,λh=>GN h,λ_=>⟨_,rfl⟩,trivial⟩ ⟨⟨rfl,.inl rfl,.inl rfl⟩,trivial⟩) (JV K (Gh GV (hr.mono (by decide)) rfl mV FV.kp bV .nil GQ (Ga (pv 1) (Ga (pv 2) Ge)))) (λ_ _ _ _=>Gi (i:=0) (show List.Nodup (["step", "numbers"]:List Str) by decide +kernel) rfl (Or.inl rfl)) (λ_ _ _ _=>G5) (λ_ _ _ _=>UD hu1 (pv 1) (pv 0) (λ_ _=>rfl))) Ge)))),?_⟩
  refine ⟨_,rfl,wb,l,k,xs,rs,rfl,W,hx,λd H1 kvs s1 hd ed val=>?_⟩;refine ⟨_,rfl,_,rfl,pl,ns,c,rfl,s1 _ _ hp,by lia,hc,λS ws H2 s2 hS eS pS=>?_⟩;have s12:=s1.trans s2;have ed2:=s2 _ _ ed;have lst:(Gj ns c).length<=51:=by
   unfold Gj;rw [List.length_append,List.length_zip];split <;> simp <;> lia
  have lws:ws.length<=51:=by rw [pS.len];exact lst
  refine ⟨S,rfl,⟨_,SqL.of eS⟩,λD hD=>?_⟩;refine GS (K:=K) (a:=S) (xs:=ws) (λi ys H3=>Same H2 H3/\H3 D=some (.lst ys)/\ys=(((Gj ns c).take i).map (VX rs)).map V.int) ⟨Same.new hD,Gb,rfl⟩ (λi ys H3 _ ⟨s3,_⟩=>SqL.of (s3 _ _ eS)) ?_ ?_
  ·rintro i x ys H3 hxi ⟨s3,hD3,rfl⟩;obtain ⟨t,r,rfl,et,er⟩:=(pS.same s3).get hxi;have hi:i<ws.length:=(List.getElem?_eq_some_iff.mp hxi).1;obtain ⟨j,hj,mj⟩:=Zch (adj r (List.mem_of_getElem? er));refine ⟨⟨rfl,trivial⟩,?_⟩;unfold Ys;refine Jl ?_;have dg:DGet H3 d (.ref t) (some (.int (j:Nat))):=by
    have:=DGet.t (k:=ky r.1 r.2) (s3 _ _ ed2) et;rw [val r.1 r.2,UJ g mj rs.length hj (Nat.le_refl _)] at this;exact this
   refine ⟨_,rfl,_,rfl,d,_,rfl,dg,hD3,?_,s3.put hD,Gb,?_⟩
   ·rw [List.length_map,List.length_map,List.length_take]
    lia
   ·rw [List.take_add_one,er,List.map_append,List.map_append];show _=_++[V.int (VX rs r)];rw [Z7 g hj mj]
  rintro ys H3 ⟨s3,hD3,rfl⟩;rw [pS.len,List.take_length] at hD3;refine ⟨D,_,rfl,SqL.of hD3,by rw [List.length_map];lia,λre ms hre pm so=>?_⟩;have s13:=s12.trans s3;exact q re ms _ (s13.put (s13.free hre)) (s13.free hre) Gb pm so
end
end M
namespace M
open PySem L2
section
variable {P:Program}{w:World}{K:W.Frag}{mg:Str->Option Value}{base:Heap}
def ZeE (C:Addr):Sp:=λvs H Q E=>∃(wb l:Addr)(k p:Int),vs=[.ref wb,.int p]/\H wb=some (.tup [.int k,.ref l])/\(((0<=p/\p<k)/\Q .non H)\/(¬ (0<=p/\p<k)/\E (.ref C) none H))
theorem ZfN:Gr ["web", "place"] ["web", "place"] (Gc Zdb):=⟨rfl,rfl,rfl,by decide +kernel,rfl,by decide +kernel,by decide +kernel⟩
theorem ZeF {f fI C:Addr}{fd fdI:FuncData}(F:Fun K "check_place" "check_place" Zdb f fd)(FI:Fun K "is_place" "is_place" sIs fI fdI)(bI:Binds K fdI ["web", "place"] [])(mI:mg "is_place" = some (.ref fI))(mC:mg "NoPlace" = some (.ref C))(xC:ExcC K C) :
  GG P w K mg base (CXr P w) 2 f fd ["web", "place"] (ZeE C):=by
 have GI:GG P w K mg base CX0 1 fI fdI ["web", "place"] ZgP:=ZfK FI;refine F.okR ZfN (λvs H Q E h=>?_) (λcdv A outer s H vs Q E hr h=>?_)
 ·obtain ⟨_,_,_,_,rfl,_⟩:=h
  rfl
 ·obtain ⟨wb,l,k,p,rfl,hw,h⟩:=h;refine ⟨_,Gf (Je (Ub (JR (Gh GI (hr.mono (by decide)) rfl mI FI.kp bI .nil GQ (Ga (pv 0) (Ga (pv 1) Ge))))) (Gf (JM (E:=E) rfl G3 rfl mC xC (Ga Jt Ge))) GB),?_⟩;refine ⟨_,rfl,_,rfl,wb,l,k,p,rfl,hw,⟨_,rfl,?_⟩⟩;rcases h with ⟨hin,q⟩ | ⟨hout,q⟩
  ·rw [decide_eq_true hin];refine Js ?_;exact q
  ·rw [decide_eq_false hout];refine Jl ?_;exact ⟨by decide,q⟩
def WA (r:Int×Int)(p:Int):Bool:=decide (r.1=p\/r.2=p)
theorem Zhw (p a b:Int):inV (.int p) [.int a,.int b]=WA (a,b) p:=by
 unfold inV WA;by_cases h1:a=p <;> by_cases h2:b=p <;> simp [eqV,h1,h2]
def Xp (rs:List (Int×Int))(p:Int):List Int:=(rs.filter λr=>WA r p).map λr=>r.1+r.2-p
theorem Zbv (rs:List (Int×Int))(p:Int):(Xp rs p).length<=rs.length:=by
 unfold Xp;rw [List.length_map];exact List.length_filter_le _ _
theorem Zac (rs:List (Int×Int))(p:Int)(i:Nat){r:Int×Int}(h:rs[i]?=some r):Xp (rs.take (i+1)) p=Xp (rs.take i) p++(if WA r p=true then [r.1+r.2-p] else []):=by
 unfold Xp;rw [List.take_add_one,h];show List.map _ (List.filter _ (rs.take i++[r]))=_;rw [List.filter_append,List.map_append,List.filter_cons,List.filter_nil];by_cases z:WA r p=true
 ·rw [if_pos z,if_pos z];rfl
 ·rw [if_neg z,if_neg z];rfl
def Zdk (C:Addr):Sp:=λvs H Q E=>∃(wb l:Addr)(k p:Int)(xs:List V)(rs:List (Int×Int)),vs=[.ref wb,.int p]/\WebAt H wb l k xs rs/\xs.length<=60 /\
 (((0<=p/\p<k)/\∀(r:Addr)(ns:List Int)(H':Hp),Same H H'->H r=none->H' r=some (.lst (ns.map V.int))->ns.Perm (Xp rs p)->ns.Pairwise (· <= ·)->Q (.ref r) H')\/(¬ (0<=p/\p<k)/\E (.ref C) none H))
theorem ZfO:Gr ["web", "place"] ["web", "place"] (Gc Zbo):=⟨rfl,rfl,rfl,by decide +kernel,rfl,by decide +kernel,by decide +kernel⟩
theorem ZeG {f fH C:Addr}{fd fdH:FuncData}(F:Fun K "beside" "beside" Zbo f fd)(FH:Fun K "check_place" "check_place" Zdb fH fdH)(bH:Binds K fdH ["web", "place"] [])(mH:mg "check_place" = some (.ref fH))(GH:GG P w K mg base (CXr P w) 2 fH fdH ["web", "place"] (ZeE C))(mSor:mg "sorted" = none):GG P w K mg base (CXr P w) 3 f fd ["web", "place"] (Zdk C):=by
 refine F.okR ZfO (λvs H Q E h=>?_) (λcdv A outer s H vs Q E hr h=>?_)
 ·obtain ⟨_,_,_,_,_,_,rfl,_⟩:=h
  rfl
 ·obtain ⟨wb,l,k,p,xs,rs,rfl,W,hx,h⟩:=h;have h16:(16777216:Nat)=sizeLine:=sizeLine_eq.symm;refine ⟨_,Gd (Jk (Gh GH (hr.mono (by decide)) rfl mH FH.kp bH .nil We (Ga (pv 0) (Ga (pv 1) Ge))))
    (Gf (Gu (Gz (Zg K) rfl mSor PyProof.Rows.boot_sorted (Ga (G9 (own:=["a", "b"]) rfl (Go (fr:=[("place", 1)]) [(".0", .local),("a", .local),("b", .local),("place", .cell)] rfl rfl (by decide +kernel) rfl (by decide +kernel) ⟨rfl,trivial⟩ ⟨λh=>GN h,λh=>GN h,λh=>GN h,λ_=>⟨_,rfl⟩,trivial⟩ ⟨⟨rfl,.inl rfl,.inl rfl⟩,trivial⟩) (JV K (GJ (Op K) (pv 0) Gg (λ_ _=>rfl))) (λ_ _ _ _=>WX K (n:=2) rfl (Gv (Gi (i:=0) (show List.Nodup (["a", "b", "place"]:List Str) by decide +kernel) rfl (Or.inl rfl)) (Gv (Gi (i:=1) (show List.Nodup (["a", "b", "place"]:List Str) by decide +kernel) rfl (Or.inl rfl)) Jb))) (λ_ _ _ _=>JE (Gw (kIn K) (pv 2) (Jo (Ga (pv 0) (Ga (pv 1) Ge))) (by with_unfolding_all rfl))) (λ_ _ _ _=>GF UW (GF G7 (pv 0) (pv 1)) (pv 2))) Ge)))),?_⟩
  rcases h with ⟨hin,q⟩ | ⟨hout,q⟩
  ·refine ⟨_,rfl,_,rfl,wb,l,k,p,rfl,W.w,.inl ⟨hin,?_⟩⟩;refine ⟨_,rfl,wb,_,_,_,rfl,rfl,SqT.of W.w,Gx (j:=1) rfl,l,rfl,⟨_,SqL.of W.l⟩,λD hD=>?_⟩;refine GS (K:=K) (a:=l) (xs:=xs) (λi ys H2=>Same H H2/\H2 D=some (.lst ys)/\ys=(Xp (rs.take i) p).map V.int) ⟨Same.new hD,Gb,rfl⟩ (λi ys H2 _ ⟨s2,_⟩=>SqL.of (s2 _ _ W.l)) ?_ ?_
   ·rintro i x ys H2 hxi ⟨s2,hD2,rfl⟩;obtain ⟨t,r,rfl,et,er⟩:=W.p.get hxi;have hi:i<xs.length:=(List.getElem?_eq_some_iff.mp hxi).1;refine ⟨t,_,rfl,SqT.of (s2 _ _ et),rfl,_,_,rfl,_,_,rfl,rfl,⟨rfl,trivial⟩,?_⟩;refine ⟨_,rfl,_,rfl,_,rfl,JF,λT hT=>⟨T,_,rfl,.inr (SqT.of Gb),rfl,rfl,_,rfl,?_⟩⟩;show if (inV (.int p) [.int r.1,.int r.2])=true then _ else _
    have sc:=Zac rs p i er;have s3:Same H (upd H2 T (.tup [.int r.1,.int r.2])):=s2.put (s2.free hT);have hDT:D≠T:=Gm hD2 hT;rw [Zhw];refine Uk (λz=>?_) (λz=>?_)
    ·rw [if_pos z] at sc;refine ⟨_,rfl,_,rfl,_,_,rfl,rfl,_,rfl,_,_,rfl,rfl,Gq hD2 hDT,?_,s3.put hD,Gb,by rw [sc,List.map_append];rfl⟩;rw [List.length_map];have:=Zbv (rs.take i) p;rw [List.length_take] at this
     lia
    ·rw [if_neg z,List.append_nil] at sc;exact ⟨s3,Gq hD2 hDT,by rw [sc]⟩
   ·rintro ys H2 ⟨s2,hD2,rfl⟩;rw [W.p.len,List.take_length] at hD2;refine ⟨D,_,rfl,SqL.of hD2,?_,λr ns hr hp hs=>q r ns _ (s2.put (s2.free hr)) (s2.free hr) Gb hp hs⟩;unfold Xp;rw [List.length_map];have:=List.length_filter_le (λr=>WA r p) rs;have:=W.p.len
    lia
  ·exact ⟨_,rfl,_,rfl,wb,l,k,p,rfl,W.w,.inr ⟨hout,q⟩⟩
end
end M
namespace M
open PySem L2
section
variable {P:Program}{w:World}{K:W.Frag}{mg:Str->Option Value}{base:Heap}
def Zdl:Sp:=λvs H Q _=>∃(wb l kl:Addr)(k:Int)(xs:List V)(rs:List (Int×Int))(ks:List Int),vs=[.ref wb,.ref kl]/\WebAt H wb l k xs rs/\xs.length<=30/\H kl=some (.lst (ks.map V.int)) /\
 ∀(r:Addr)(ys:List V)(H':Hp),Same H H'->H r=none->H' r=some (.lst ys)->Prs H' ys (cho rs ks rs.length)->Q (.ref r) H'
theorem ZfP:Gr ["web", "roads"] ["web", "roads"] (Gc Zcb):=⟨rfl,rfl,rfl,by decide +kernel,rfl,by decide +kernel,by decide +kernel⟩
theorem Zcl {f:Addr}{fd:FuncData}(F:Fun K "chosen_roads" "chosen_roads" Zcb f fd)(mEnum:mg "enumerate" = none):GG P w K mg base CX0 1 f fd ["web", "roads"] Zdl:=by
 refine F.ok ZfP (λvs H Q E h=>?_) (λcdv A outer s H vs Q E hr h=>?_)
 ·obtain ⟨_,_,_,_,_,_,_,rfl,_⟩:=h
  rfl
 ·obtain ⟨wb,l,kl,k,xs,rs,ks,rfl,W,hx,hk,q⟩:=h;have h16:(16777216:Nat)=sizeLine:=sizeLine_eq.symm;refine ⟨_,Gf (Gu (G9 (own:=["number", "road"]) rfl (Go (fr:=[("roads", 1)]) [(".0", .local),("number", .local),("road", .local),("roads", .cell)] rfl rfl (by decide +kernel) rfl (by decide +kernel) ⟨rfl,trivial⟩ ⟨λh=>GN h,λh=>GN h,λh=>GN h,λ_=>⟨_,rfl⟩,trivial⟩ ⟨⟨rfl,.inl rfl,.inl rfl⟩,trivial⟩) (Wf K rfl mEnum (Ga (GJ (Op K) (pv 0) Gg (λ_ _=>rfl)) Ge)) (λ_ _ _ _=>WX K (n:=2) rfl (Gv (Gi (i:=0) (show List.Nodup (["number", "road", "roads"]:List Str) by decide +kernel) rfl (Or.inl rfl)) (Gv (Gi (i:=1) (show List.Nodup (["number", "road", "roads"]:List Str) by decide +kernel) rfl (Or.inl rfl)) Jb))) (λ_ _ _ _=>JE (Gw (kIn K) (pv 0) (pv 2) (by with_unfolding_all rfl))) (λ_ _ _ _=>pv 1))),?_⟩;refine ⟨_,rfl,wb,_,_,_,rfl,rfl,SqT.of W.w,Gx (j:=1) rfl,l,xs,rfl,SqL.of W.l,λD hD=>?_⟩;refine Wg (K:=K) (a:=l) (xs:=xs) (λi ys H2=>Same H H2/\H2 D=some (.lst ys)/\Prs H2 ys (cho rs ks i)) ⟨Same.new hD,Gb,.nil⟩ (λi ys H2 _ ⟨s2,_⟩=>SqL.of (s2 _ _ W.l)) ?_ ?_
  ·rintro i x ys H2 T hxi ⟨s2,hD2,pr⟩ hT;obtain ⟨t,r,rfl,et,er⟩:=W.p.get hxi;have hi:i<xs.length:=(List.getElem?_eq_some_iff.mp hxi).1;have s23:Same H2 (upd H2 T (.tup [.int (i:Nat),.ref t])):=Same.new hT;have s3:Same H (upd H2 T (.tup [.int (i:Nat),.ref t])):=s2.put (s2.free hT);have hDT:D≠T:=Gm hD2 hT;have eg:rs.getD i (0,0)=r:=by rw [List.getD_eq_getElem?_getD,er];rfl
   refine ⟨T,_,rfl,SqT.of Gb,rfl,_,_,rfl,_,_,rfl,rfl,⟨rfl,trivial⟩,?_⟩;refine ⟨_,rfl,_,rfl,kl,_,rfl,.inl (SqL.of (s3 _ _ hk)),rfl,UH _,_,rfl,?_⟩;show if (inV (.int (i:Nat)) (ks.map V.int))=true then _ else _
   rw [VI];have hcl:=Xn rs ks i;have hpl:=pr.len;refine Uk (λz=>?_) (λz=>?_)
   ·refine ⟨_,rfl,Gq hD2 hDT,by lia,s3.put hD,Gb,?_⟩;rw [X1,if_pos (of_decide_eq_true z),eg];exact Prs.keep (Prs.snoc (pr.same s23) (s3 _ _ et)) (Ul (Gq hD2 hDT))
   ·refine ⟨s3,Gq hD2 hDT,?_⟩;rw [X1,if_neg (λy=>z (decide_eq_true y)),List.append_nil];exact pr.same s23
  ·rintro ys H2 ⟨s2,hD2,pr⟩;rw [W.p.len] at pr;exact q D ys H2 s2 hD hD2 pr
theorem mem_bes {ls:List (Int×Int)}{p x:Int}:x∈Xp ls p↔Adj ls p x:=by
 unfold Xp Adj;rw [List.mem_map];constructor
 ·rintro ⟨r,hr,rfl⟩;obtain ⟨h1,h2⟩:=List.mem_filter.mp hr;obtain ⟨a,b⟩:=r;rcases of_decide_eq_true h2 with e | e
  ·left;have:a=p:=e;subst this;rw [show a+b-a=b by lia];exact h1
  ·right;have:b=p:=e;subst this;rw [show a+b-b=a by lia];exact h1
 ·rintro (h | h)
  ·exact ⟨_,List.mem_filter.mpr ⟨h,decide_eq_true (.inl rfl)⟩,by dsimp only;lia⟩
  ·exact ⟨_,List.mem_filter.mpr ⟨h,decide_eq_true (.inr rfl)⟩,by dsimp only;lia⟩
def ZeH:Sp:=λvs H Q _=>∃(wb l kl:Addr)(k p:Int)(xs:List V)(rs:List (Int×Int))(ks:List Int),vs=[.ref wb,.int p,.ref kl]/\WebAt H wb l k xs rs/\Gk k rs/\H kl=some (.lst (ks.map V.int))/\(0<=p/\p<k) /\
 ∀(r:Addr)(tl:List Int)(rest:List (Int×Int))(H':Hp),Same H H'->H r=none->H' r=some (.lst ((p::tl).map V.int))->Wk (cho rs ks rs.length) p tl rest->Q (.ref r) H'
theorem scWal:Gr ["web", "start", "roads", "left", "places", "ahead"] ["web", "start", "roads"] (Gc Zcc):=⟨rfl,rfl,rfl,by decide +kernel,rfl,by decide +kernel,by decide +kernel⟩
theorem ZeI {f fC fZ C:Addr}{fd fdC fdZ:FuncData}(F:Fun K "walk" "walk" Zcc f fd)(FC:Fun K "chosen_roads" "chosen_roads" Zcb fC fdC)(bC:Binds K fdC ["web", "roads"] [])(mC:mg "chosen_roads" = some (.ref fC))(FZ:Fun K "beside" "beside" Zbo fZ fdZ)(bZ:Binds K fdZ ["web", "place"] [])(mZ:mg "beside" = some (.ref fZ))(GZ:GG P w K mg base (CXr P w) 3 fZ fdZ ["web", "place"] (Zdk C))(mEnum:mg "enumerate" = none)(mMin:mg "min" = none)(mMax:mg "max" = none):GG P w K mg base CX0 4 f fd ["web", "start", "roads"] ZeH:=by
 have GC:GG P w K mg base CX0 1 fC fdC ["web", "roads"] Zdl:=Zcl FC mEnum;refine F.ok scWal (λvs H Q E h=>?_) (λcdv A outer s H vs Q E hr h=>?_)
 ·obtain ⟨_,_,_,_,_,_,_,_,rfl,_⟩:=h
  rfl
 ·obtain ⟨wb,l,kl,k,p,xs,rs,ks,rfl,W,g,hk,hp,q⟩:=h;have h16:(16777216:Nat)=sizeLine:=sizeLine_eq.symm;have hu5:(A.deeper (PyProof.Rows.envOfC "walk" (Gc Zcc) s.heap.objs.size f cdv)).units+65<cLine:=by have:=hr.un;lia
  have hx:xs.length<=30:=by rw [W.p.len];exact g.2.2.1
  refine ⟨_,Gd (Gs (i:=3) scWal.nd rfl (Or.inl rfl) (Gh GC (hr.mono (by decide)) rfl mC FC.kp bC .nil GQ (Ga (pv 0) (Ga (pv 2) Ge))))
    (Gd (Gs (i:=4) scWal.nd rfl (Or.inl rfl) (Jd (Ga (pv 1) Ge)))
    (Gd (Gs (i:=5) scWal.nd rfl (Or.inl rfl) (Gh GZ (hr.mono (by decide)) rfl mZ FZ.kp bZ .nil Vo (Ga (Jo (Ga (GJ (Op K) (pv 0) Gg (λ_ _=>rfl)) (Ga (pv 3) Ge))) (Ga (pv 1) Ge))))
    (Gd (Vi PassesOwn.never (Ju (pv 5) (λ_=>rfl))
    (Gd (Jk (O0 PySem.F.plainAttrs_list PySem.F.slot_list_remove PySem.F.type_list_remove (ZfC K hu5) (pv 3) (Ga (Jo (Ga (Gz (Y4 rfl) rfl mMin ZaP (Ga (GJ (UR K) (pv 4) (Vj JO Gg) (λ_ _=>rfl)) (Ga (GJ (UR K) (pv 5) Gg (λ_ _=>rfl)) Ge))) (Ga (Gz (Y3 rfl) rfl mMax Zbr (Ga (GJ (UR K) (pv 4) (Vj JO Gg) (λ_ _=>rfl)) (Ga (GJ (UR K) (pv 5) Gg (λ_ _=>rfl)) Ge))) Ge))) Ge)))
    (Gd (Jk (O0 PySem.F.plainAttrs_list PySem.F.slot_list_append PySem.F.type_list_append Ja (pv 4) (Ga (GJ (UR K) (pv 5) Gg (λ_ _=>rfl)) Ge)))
    (Gf (Gs (i:=5) scWal.nd rfl (Or.inl rfl) (Gh GZ (hr.mono (by decide)) rfl mZ FZ.kp bZ .nil Vo (Ga (Jo (Ga (GJ (Op K) (pv 0) Gg (λ_ _=>rfl)) (Ga (pv 3) Ge))) (Ga (GJ (UR K) (pv 5) Gg (λ_ _=>rfl)) Ge))))))))
    (Gf (Gu (pv 4)))))),?_⟩
  refine ⟨_,rfl,_,rfl,wb,l,kl,k,xs,rs,ks,rfl,W,hx,hk,λla ys H1 s1 hla ela pla=>?_⟩;refine ⟨_,rfl,(by show 1<=sizeLine;lia),λpl hpl=>?_⟩;have s2:Same H1 (upd H1 pl (.lst [.int p])):=Same.new hpl;have epl:upd H1 pl (.lst [.int p]) pl=some (.lst ([p].map V.int)):=Gb;have hne:la≠pl:=Gm ela hpl;have hHpl:H pl=none:=s1.free hpl;generalize upd H1 pl (.lst [.int p])=H2 at s2 epl ⊢;have W2:=(W.same s1).same s2;refine ⟨_,rfl,wb,_,_,_,rfl,rfl,SqT.of W2.w,Gx (j:=0) rfl,_,rfl,JF,λw1 hw1=>?_⟩;have s3:Same H2 (upd H2 w1 (.tup [.int k,.ref la])):=Same.new hw1;have ew1:upd H2 w1 (.tup [.int k,.ref la]) w1=some (.tup [.int k,.ref la]):=Gb;generalize upd H2 w1 (.tup [.int k,.ref la])=H3 at s3 ew1 ⊢;have S3:=(s1.trans s2).trans s3;have la3:H3 la=some (.lst ys):=s3 _ _ (s2 _ _ ela);have pr3:Prs H3 ys (cho rs ks rs.length):=(pla.same s2).same s3;have hcl:(cho rs ks rs.length).length<=30:=Nat.le_trans (Xn rs ks _) g.2.2.1;have hyl:=pr3.len;refine ⟨_,rfl,w1,la,k,p,ys,_,rfl,⟨ew1,la3,pr3⟩,by lia,.inl ⟨hp,λar ns H4 s4 har ear perm so=>?_⟩⟩;have hal:ar≠la:=λz=>by rw [z,la3] at har;cases har
  have hap:ar≠pl:=λz=>by rw [z,s3 _ _ epl] at har;cases har
  refine ⟨λm σ' H'=>∃(ar:Addr)(xl:List V)(ls:List (Int×Int))(front:List Int)(c:Int)(pre ns:List Int),σ'=[some (.ref wb),some (.int p),some (.ref kl),some (.ref la),some (.ref pl),some (.ref ar)]/\Same H H'/\H' la=some (.lst xl)/\Prs H' xl ls/\H' pl=some (.lst ((front++[c]).map V.int))/\H' ar=some (.lst (ns.map V.int))/\ns.Perm (Xp ls c)/\ns.Pairwise (· <= ·)/\front++[c]=p::pre/\(0<=c/\c<k)/\(∀r∈ls,r∈rs)/\pre.length+ls.length<=30 /\
   (∀tl rest,Wk ls c tl rest->Wk (cho rs ks rs.length) p (pre++tl) rest)/\ar≠la/\ar≠pl/\m=ls.length,
   ⟨_,ar,ys,_,[],p,[],ns,rfl,S3.trans s4,s4 _ _ la3,pr3.same s4,s4 _ _ (s3 _ _ epl),ear,perm,so,rfl,hp,λr hr=>VM hr,by rw [List.length_nil];lia,λtl rest h=>h,hal,hap,rfl⟩,?_⟩
  clear ear perm so hal hap har s4 pr3 la3 S3 s3 ew1 W2 epl s2 pla ela;rintro m σ' H' ⟨ar,xl,ls,front,c,pre,ns,rfl,s4,ela,pr,epl,ear,perm,so,efp,hc,sub,qV,cont,hal,hap,rfl⟩;have hltl:∀r∈ls,r.1<r.2:=λr hr=>(g.2.2.2.1 r (sub r hr)).2.1;cases ns with
  | nil=>
   refine ⟨_,rfl,false,.inl ⟨_,SqL.of ear,rfl⟩,Js ?_⟩;have no:∀x,¬ Adj ls c x:=λx a=>by
    have:=perm.mem_iff.mpr (mem_bes.mpr a);cases this
   have wk:=cont [] ls (.stop no);rw [List.append_nil] at wk;rw [efp] at epl;exact ⟨_,rfl,q pl pre ls H' s4 hHpl epl wk⟩
  | cons x ns=>
   refine ⟨_,rfl,true,.inl ⟨_,SqL.of ear,rfl⟩,Jl ?_⟩;refine ⟨_,λ_ _ h=>h,?_⟩;have ax:Adj ls c x:=mem_bes.mp (perm.mem_iff.mp (List.mem_cons_self ..));have least:∀y,Adj ls c y->x<=y:=λy a=>by
    rcases List.mem_cons.mp (perm.mem_iff.mpr (mem_bes.mpr a)) with e | e
    ·lia
    ·exact (List.pairwise_cons.mp so).1 y e
   have mem:Jf c x∈ls:=(Jn hltl _ _).mpr ax;have rx:=Ug g (VO sub ax);have hlast:atI ((front++[c]).map V.int) (-1)=some (.int c):=by
    rw [UI (by simp)]
    congr 2
    rw [List.length_append,List.length_singleton,Nat.add_sub_cancel,List.getD_eq_getElem?_getD,List.getElem?_append_right (Nat.le_refl _),Nat.sub_self]
    rfl
   have hfst:atI ((x::ns).map V.int) 0=some (.int x):=Gx (j:=0) rfl;have hfl:(front++[c]).length<=31:=by rw [efp,List.length_cons];lia
   refine ⟨_,rfl,.inl ⟨rfl,_,SqL.of ela⟩,_,rfl,_,rfl,pl,_,_,_,rfl,rfl,SqL.of epl,hlast,_,rfl,ar,_,_,_,rfl,rfl,SqL.of ear,hfst,_,_,rfl,?_⟩;refine ⟨_,rfl,_,rfl,pl,_,_,_,rfl,rfl,SqL.of epl,hlast,_,rfl,ar,_,_,_,rfl,rfl,SqL.of ear,hfst,_,_,rfl,JF,λt ht=>?_⟩;have s5:Same H' (upd H' t (.tup [.int (Jf c x).1,.int (Jf c x).2])):=Same.new ht;have et:upd H' t (.tup [.int (Jf c x).1,.int (Jf c x).2]) t=some (.tup [.int (Jf c x).1,.int (Jf c x).2]):=Gb;dsimp only [ZdZ];refine Zhs (H:=upd H' t (.tup [.int (Jf c x).1,.int (Jf c x).2])) (t:=Jf c x) (s5 _ _ ela) (pr.same s5) et mem λxl' hxl pr'=>?_;generalize upd H' t (.tup [.int (Jf c x).1,.int (Jf c x).2])=H5 at s5 et pr' ⊢;have ela5:=s5 _ _ ela;have k6:=Ul (o:=.lst xl') ela5;have s6:Same H (upd H5 la (.lst xl')):=(s4.trans s5).put hla;have ela6:upd H5 la (.lst xl') la=some (.lst xl'):=Gb;have epl6:upd H5 la (.lst xl') pl=some (.lst ((front++[c]).map V.int)):=Gq (s5 _ _ epl) (Ne.symm hne);have ear6:upd H5 la (.lst xl') ar=some (.lst ((x::ns).map V.int)):=Gq (s5 _ _ ear) hal;have pr6:=pr'.keep k6;generalize upd H5 la (.lst xl')=H6 at k6 s6 ela6 epl6 ear6 pr6 ⊢;refine ⟨_,rfl,.inl ⟨rfl,_,SqL.of epl6⟩,_,rfl,ar,_,_,_,rfl,rfl,SqL.of ear6,hfst,pl,_,_,rfl,rfl,epl6,by rw [List.length_map];lia,?_⟩;have k7:=Ul (o:=.lst ((front++[c]).map V.int++[.int x])) epl6;have s7:Same H (upd H6 pl (.lst ((front++[c]).map V.int++[.int x]))):=s6.put hHpl;have ela7:upd H6 pl (.lst ((front++[c]).map V.int++[.int x])) la=some (.lst xl'):=Gq ela6 hne;have epl7:upd H6 pl (.lst ((front++[c]).map V.int++[.int x])) pl=some (.lst (((front++[c])++[x]).map V.int)):=by rw [Gb,List.map_append (l₁:=front++[c])];rfl
   have ear7:upd H6 pl (.lst ((front++[c]).map V.int++[.int x])) ar=some (.lst ((x::ns).map V.int)):=Gq ear6 hap;have pr7:=pr6.keep k7;generalize upd H6 pl (.lst ((front++[c]).map V.int++[.int x]))=H7 at k7 s7 ela7 epl7 ear7 pr7 ⊢;have W7:=W.same s7;refine ⟨_,rfl,wb,_,_,_,rfl,rfl,SqT.of W7.w,Gx (j:=0) rfl,_,rfl,JF,λw2 hw2=>?_⟩;have s8:Same H7 (upd H7 w2 (.tup [.int k,.ref la])):=Same.new hw2;have ew2:upd H7 w2 (.tup [.int k,.ref la]) w2=some (.tup [.int k,.ref la]):=Gb;generalize upd H7 w2 (.tup [.int k,.ref la])=H8 at s8 ew2 ⊢;have hll:(ls.erase (Jf c x)).length+1=ls.length:=by
    rw [List.length_erase_of_mem mem];have:=List.length_pos_of_mem mem
    lia
   have hpx:=pr7.len;have ela8:=s8 _ _ ela7;have epl8:=s8 _ _ epl7;refine ⟨_,rfl,ar,_,_,_,rfl,rfl,SqL.of (s8 _ _ ear7),hfst,w2,la,k,x,xl',_,rfl,⟨ew2,ela8,pr7.same s8⟩,by lia,.inl ⟨rx,λar' ns' H9 s9 har' ear' perm' so'=>?_⟩⟩;have hal':ar'≠la:=λz=>by rw [z,ela8] at har';cases har'
   have hap':ar'≠pl:=λz=>by rw [z,epl8] at har';cases har'
   have efp':(front++[c])++[x]=p::(pre++[x]):=by rw [efp];rfl
   refine ⟨_,?_,ar',xl',_,front++[c],x,pre++[x],ns',rfl,(s7.trans s8).trans s9,s9 _ _ ela8,(pr7.same s8).same s9,s9 _ _ epl8,ear',perm',so',efp',rx,λr hr=>sub r (List.mem_of_mem_erase hr),?_,λtl rest h=>?_,hal',hap',rfl⟩
   ·lia
   ·rw [List.length_append,List.length_singleton]
    lia
   ·have:=cont (x::tl) rest (.go ax least h);rw [List.append_assoc];exact this
end
end M
namespace M
open PySem L2
section
variable {P:Program}{w:World}{K:W.Frag}{mg:Str->Option Value}{base:Heap}
theorem Wk.few {k:Int}{rs rest:List (Int×Int)}{ks tl:List Int}{p:Int}(g:Gk k rs)(w:Wk (cho rs ks rs.length) p tl rest):tl.length<=30:=by
 have h1:=w.len (Z8 g ks);have h2:=Xn rs ks rs.length;have h3:=g.2.2.1
 lia
def YI (rs:List (Int×Int))(ks:List Int)(k:Int)(tl:List Int):Prop:=Ww rs ks/\3<=ks.length/\ZfM rs ks k/\tl.length=ks.length
def ZeJ (NW:Addr):Sp:=λvs H Q E=>∃(wb l kl:Addr)(k:Int)(xs:List V)(rs:List (Int×Int))(ks:List Int),vs=[.ref wb,.ref kl]/\WebAt H wb l k xs rs/\Gk k rs/\H kl=some (.lst (ks.map V.int)) /\
 ∀(s:Int)(tl:List Int)(rest:List (Int×Int)),(cho rs ks rs.length≠[]->Begins (cho rs ks rs.length) s)->Wk (cho rs ks rs.length) s tl rest->(YI rs ks k tl->∀(r:Addr)(H':Hp),Same H H'->H r=none->H' r=some (.lst ((s::tl).dropLast.map V.int))->Q (.ref r) H')/\(¬ YI rs ks k tl->∀H':Hp,Same H H'->E (.ref NW) none H')
theorem scCof:Gr ["web", "roads", "start", "places"] ["web", "roads"] (Gc Zbq):=⟨rfl,rfl,rfl,by decide +kernel,rfl,by decide +kernel,by decide +kernel⟩
theorem ZeK (ns:List Int):WL (ns.map V.int) none (some (-1))=ns.dropLast.map V.int:=by
 unfold WL;rw [List.length_map,HT.sIx_none,List.drop_zero,Nat.sub_zero,List.dropLast_eq_take,List.map_take]
 congr 1
 unfold HT.sIx;by_cases h:ns.length=0
 ·rw [h];rfl
 ·simp only [show (-1:Int)<0 by decide,if_true]
  lia
theorem ZeL {f fC fK fL fR NW:Addr}{dV:Value}{fd fdC fdK fdL fdR:FuncData}(F:Fun K "closed_of" "closed_of" Zbq f fd)(FC:Fun K "chosen_roads" "chosen_roads" Zcb fC fdC)(bC:Binds K fdC ["web", "roads"] [])(mC:mg "chosen_roads" = some (.ref fC))(FK:Fun K "walk" "walk" Zcc fK fdK)(bK:Binds K fdK ["web", "start", "roads"] [])(mK:mg "walk" = some (.ref fK))(GK:GG P w K mg base CX0 4 fK fdK ["web", "start", "roads"] ZeH)(FL:Fun K "is_closed" "is_closed" Zdc fL fdL)(bL:Binds K fdL ["web", "places"] [])(mL:mg "is_closed" = some (.ref fL))(GL:GG P w K mg base CX0 3 fL fdL ["web", "places"] ZeA)(FR:FunD K "roads_of" "roads_of" YN dV fR fdR)(bR:Binds K fdR ["web", "places", "closed"] [])(mR:mg "roads_of" = some (.ref fR))(GR:GG P w K mg base CX0 2 fR fdR ["web", "places", "closed"] Zdj)(mEnum:mg "enumerate" = none)(mMin:mg "min" = none)(mV:mg "NoWay" = some (.ref NW))(xV:ExcC K NW):GG P w K mg base (CXr P w) 5 f fd ["web", "roads"] (ZeJ NW):=by
 have GC:GG P w K mg base CX0 1 fC fdC ["web", "roads"] Zdl:=Zcl FC mEnum;refine F.okR scCof (λvs H Q E h=>?_) (λcdv A outer s H vs Q E hr h=>?_)
 ·obtain ⟨_,_,_,_,_,_,_,rfl,_⟩:=h
  rfl
 ·obtain ⟨wb,l,kl,k,xs,rs,ks,rfl,W,g,hk,h⟩:=h;have hu:(A.deeper (PyProof.Rows.envOfC "closed_of" (Gc Zbq) s.heap.objs.size f cdv)).units+64<cLine:=by have:=hr.un;lia
  have hu1:(A.deeper (PyProof.Rows.envOfC "closed_of" (Gc Zbq) s.heap.objs.size f cdv)).units+1<cLine:=by have:=hr.un;lia
  have hx:xs.length<=30:=by rw [W.p.len];exact g.2.2.1
  refine ⟨_,Gd (Gs (i:=2) scCof.nd rfl (Or.inl rfl) (GJ (Op K) (Zs (Zen K rfl hu1) rfl mMin Wl (Ga (Gh GC (hr.mono (by decide)) rfl mC FC.kp bC .nil GQ (Ga (pv 0) (Ga (pv 1) Ge))) Ge) (Zcz (Jo (Ga Gg (Ga Gg Ge))) Zd1)) Gg (λ_ _=>rfl)))
    (Gd (Gs (i:=3) scCof.nd rfl (Or.inl rfl) (J9 (kSl K) (Gh GK (hr.mono (by decide)) rfl mK FK.kp bK .nil GQ (Ga (pv 0) (Ga (pv 2) (Ga (pv 1) Ge)))) OY (OZ (Vj JO Gg))))
    (Gd (Je (PW.pt (Uv (Ub (JR (Gh GL (hr.mono (by decide)) rfl mL FL.kp bL .nil GQ (Ga (pv 0) (Ga (pv 3) Ge))))) (Ut (Gw (Zfb K hu) (Gh GR (hr.mono (by decide)) rfl mR FR.kp bR .nil GQ (Ga (pv 0) (Ga (pv 3) (Ga Uh Ge)))) (pv 1) (GE _))))) (Gf (JM (E:=E) rfl G3 rfl mV xV (Ga Jt Ge))) GB)
    (Gf (Gu (pv 3))))),?_⟩
  refine JN (λσ' H'=>∃a:Int,σ'=[some (.ref wb),some (.ref kl),some (.int a),none]/\Same H H'/\(0<=a/\a<k)/\(cho rs ks rs.length≠[]->Begins (cho rs ks rs.length) a)) ?sm ?fm
  case fm=>
   intro hkk;refine ⟨_,rfl,_,rfl,wb,l,kl,k,xs,rs,ks,rfl,W,hx,hk,λcl ys H1 s1 hcl ecl pcl=>?_⟩;refine ⟨JF,λd0 hd0=>?_⟩;have s2:Same H1 (upd H1 d0 (.tup [.int 0,.int 0])):=Same.new hd0;have ed0:upd H1 d0 (.tup [.int 0,.int 0]) d0=some (.tup [.int 0,.int 0]):=Gb;generalize upd H1 d0 (.tup [.int 0,.int 0])=H2 at s2 ed0 ⊢;have S2:=s1.trans s2;have pcl2:=pcl.same s2;refine ⟨cl,ys,cho rs ks rs.length,.ref d0,rfl,rfl,SqL.of (s2 _ _ ecl),pcl2,λe0=>?_,λt r lp=>?_⟩
   ·refine ⟨d0,_,_,_,rfl,rfl,SqT.of ed0,Gx (j:=0) rfl,?_⟩;exact hkk _ _ ⟨0,rfl,S2,⟨by decide,by have:=g.1;lia⟩,λz=>absurd e0 z⟩
   ·obtain ⟨⟨i,ex,er⟩,lst⟩:=lp;obtain ⟨t',r',et',eh,er'⟩:=pcl2.get ex;cases et';rw [er] at er';cases er';have hm:r∈cho rs ks rs.length:=List.mem_of_getElem? er;have hg:=g.2.2.2.1 r (VM hm);refine ⟨t,_,_,_,rfl,rfl,SqT.of eh,Gx (j:=0) rfl,?_⟩;refine hkk _ _ ⟨r.1,rfl,S2,⟨hg.1,by lia⟩,λ_=>⟨λu hu=>?_,r,hm,rfl⟩⟩;have:=lst u hu;rw [<-Bool.not_eq_true,ltP_iff] at this
    lia
  rintro σ' H1 ⟨a,rfl,s1,ra,bg⟩;have W1:=W.same s1;have hk1:=s1 _ _ hk;refine ⟨_,rfl,_,rfl,_,rfl,wb,l,kl,k,a,xs,rs,ks,rfl,W1,g,hk1,ra,λr tl rest H2 s2 hr0 er wk=>?_⟩;obtain ⟨hyes,hno⟩:=h a tl rest bg wk;have few:=wk.few g;refine ⟨_,rfl,_,rfl,r,_,rfl,SqL.of er,λpl hpl=>?_⟩;rw [show (-1:Int)=-1 from rfl,ZeK];have s3:Same H2 (upd H2 pl (.lst ((a::tl).dropLast.map V.int))):=Same.new hpl;have epl:upd H2 pl (.lst ((a::tl).dropLast.map V.int)) pl=some (.lst ((a::tl).dropLast.map V.int)):=Gb;generalize upd H2 pl (.lst ((a::tl).dropLast.map V.int))=H3 at s3 epl ⊢;have S3:=s2.trans s3;have hH:H pl=none:=s1.free (s2.free hpl);have hdl:(a::tl).dropLast.length<=30:=by rw [List.length_dropLast,List.length_cons];lia
  refine ⟨_,rfl,_,rfl,wb,l,pl,k,xs,rs,_,rfl,W1.same S3,hx,epl,by lia,λb H4 s4 hb=>?_⟩;refine ⟨_,rfl,?_⟩;have raise:∀H5:Hp,Same H1 H5->¬ YI rs ks k tl->E (.ref NW) none H5:=λH5 s5 n=>hno n H5 (s1.trans s5);have fwd:YI rs ks k tl->_:=λz=>Zbu g wk (bg λe=>by
   have:=Xo z.1;rw [e] at this;have l3:=z.2.1;have:ks=[]:=List.map_eq_nil_iff.mp this.symm;rw [this] at l3;exact absurd l3 (by decide)) z.1 z.2.1 z.2.2.1 z.2.2.2
  cases b with
  | false=>
   refine Jl (Jl ⟨by decide,raise _ (S3.trans s4) λz=>?_⟩);exact absurd (hb.mpr (fwd z).1) Bool.false_ne_true
  | true=>
   refine Js ?_;have ring:=hb.mp rfl;have ne:(a::tl).dropLast≠[]:=λz=>by have:=ring.1;rw [z] at this;exact absurd this (by decide)
   refine ⟨_,rfl,_,rfl,wb,l,pl,k,xs,rs,_,true,rfl,(W1.same S3).same s4,g,s4 _ _ epl,by lia,λ_=>ne,ring.2.2.2.1,λre ms H5 s5 hre ere pm so=>?_⟩;refine ⟨_,rfl,.list (ms.map PyData.int),.list (ks.map PyData.int),.lst (SqL.of ere) (Jy _),.lst (SqL.of (s5 _ _ (s4 _ _ (S3 _ _ hk1)))) (Jy _),Jm _,Jm _,_,rfl,?_⟩;rw [Vq];have S5:=(S3.trans s4).trans s5;by_cases e:ms=ks
   ·rw [decide_eq_true e];refine Js ?_;refine ⟨_,rfl,hyes ?_ pl H5 (s1.trans S5) hH (s5 _ _ (s4 _ _ epl))⟩;obtain ⟨b1,b2,b3,b4⟩:=X4 g ring pm so e;refine ⟨b1,b2,b3,?_⟩;rw [List.length_dropLast,List.length_cons] at b4
    lia
   ·rw [decide_eq_false e];refine Jl ⟨by decide,raise _ S5 λz=>e ?_⟩;exact (fwd z).2 ms pm so
end
end M
namespace M
open PySem L2
theorem G4:∀{k:Nat}{ns:List Int},ns.Nodup->(∀x∈ns,0<=x/\x<(k:Int))->ns.length<=k
 | 0,ns,_,h=>by
  cases ns with
  | nil=>exact Nat.le_refl _
  | cons a r=>have:=h a (List.mem_cons_self);lia
 | k+1,ns,nd,h=>by
  by_cases z:((k:Nat):Int)∈ns
  ·have hl:=List.length_erase_of_mem z;have hp:0<ns.length:=List.length_pos_of_mem z;have ih:=G4 (k:=k) (ns:=ns.erase ((k:Nat):Int)) (nd.erase _) λx hx=>by
    have h1:=(List.Nodup.mem_erase_iff nd).mp hx;have h2:=h x h1.2;have h3:=h1.1
    lia
   lia
  ·have ih:=G4 (k:=k) nd λx hx=>by
    have h2:=h x hx;have h3:x≠((k:Nat):Int):=λe=>z (e▸hx)
    lia
   lia
theorem Zdm {k:Int}{rs:List (Int×Int)}(g:Gk k rs){p m:Int}:m∈Xp rs p↔Adj rs p m:=by
 unfold Xp Adj;constructor
 ·intro h;obtain ⟨r,h1,e⟩:=List.mem_map.mp h;obtain ⟨h2,h3⟩:=List.mem_filter.mp h1;have h4:=of_decide_eq_true h3;obtain ⟨r1,r2⟩:=r;dsimp only at h4 e;rcases h4 with h4 | h4
  ·subst h4;exact .inl (by rw [<-e,show r1+r2-r1=r2 by lia];exact h2)
  ·subst h4;exact .inr (by rw [<-e,show r1+r2-r2=r1 by lia];exact h2)
 ·rintro (h | h)
  ·exact List.mem_map.mpr ⟨(p,m),List.mem_filter.mpr ⟨h,decide_eq_true (.inl rfl)⟩,by show p+m-p=m;lia⟩
  ·exact List.mem_map.mpr ⟨(m,p),List.mem_filter.mpr ⟨h,decide_eq_true (.inr rfl)⟩,by show m+p-p=m;lia⟩
section
variable {P:Program}{w:World}{K:W.Frag}{mg:Str->Option Value}{base:Heap}
def LinksAt (H:Hp)(lk:Addr)(k:Int)(rs:List (Int×Int)):Prop:=∃bl:List Addr,H lk=some (.lst (bl.map V.ref))/\bl.length=k.toNat/\∀(i:Nat)(a:Addr),bl[i]?=some a->∃ns:List Int,H a=some (.lst (ns.map V.int))/\ns.Nodup/\∀m,m∈ns↔Adj rs (i:Int) m
theorem LinksAt.same {H H':Hp}{lk:Addr}{k:Int}{rs:List (Int×Int)}(h:LinksAt H lk k rs)(s:Same H H'):LinksAt H' lk k rs:=by
 obtain ⟨bl,e,l,hb⟩:=h;exact ⟨bl,s _ _ e,l,λi a ha=>(hb i a ha).elim λns h=>⟨ns,s _ _ h.1,h.2⟩⟩
def kvF (F:List Int):List (Key×V):=F.map λx=>(Sum.inl x,V.bl true)
theorem Xq (F:List Int)(p:Int):(J1 (kvF F) (.inl p)).isSome=decide (p∈F):=by
 rw [<-Oc];unfold kvF;rw [List.any_map];by_cases z:p∈F
 ·rw [decide_eq_true z];exact List.any_eq_true.mpr ⟨p,z,by simp⟩
 ·rw [decide_eq_false z];refine List.any_eq_false.mpr λy hy e=>z ?_;have e1:(Sum.inl y:Key)=Sum.inl p:=of_decide_eq_true e;cases e1;exact hy
theorem Zdn {F:List Int}{p:Int}(h:p ∉ F):O3 (kvF F) (.inl p) (.bl true)=kvF (F++[p]):=by
 have hn:J1 (kvF F) (.inl p)=none:=by
  have:=Xq F p;rw [decide_eq_false h] at this;cases z:J1 (kvF F) (.inl p) with
  | none=>rfl
  | some v=>rw [z] at this;cases this
 rw [ZaU _ hn];unfold kvF;rw [List.map_append]
 rfl
def ZeM:Sp:=λvs H Q _=>∃(lk gl:Addr)(k st:Int)(rs:List (Int×Int))(gn:List Int),vs=[.ref lk,.int st,.ref gl]/\Gk k rs/\LinksAt H lk k rs/\H gl=some (.lst (gn.map V.int))/\(0<=st/\st<k) /\
 ∀(d:Addr)(F:List Int)(H':Hp),Same H H'->H d=none->H' d=some (.dK (kvF F))->F.Nodup->F.length<=16->st∈F->(∀x∈F,x=st\/x ∉ gn)->(∀x∈F,∀z,Adj rs x z->z ∉ gn->z∈F)->Q (.ref d) H'
theorem scRea:Gr ["links", "start", "gone", "found", "pending", "here", "place"] ["links", "start", "gone"] (Gc Zcd):=⟨rfl,rfl,rfl,by decide +kernel,rfl,by decide +kernel,by decide +kernel⟩
structure ReaI (k:Int)(rs:List (Int×Int))(st:Int)(gn F pd:List Int):Prop where
 nd:F.Nodup
 ir:∀x∈F,0<=x/\x<k
 ng:∀x∈F,x=st\/x ∉ gn
 me:st∈F
 sb:∀x∈pd,x∈F
theorem ReaI.len {k:Int}{rs:List (Int×Int)}{st:Int}{gn F pd:List Int}(h:ReaI k rs st gn F pd):F.length<=k.toNat:=by
 exact G4 (k:=k.toNat) h.nd λx hx=>by have:=h.ir x hx;lia
theorem ZeN {f:Addr}{fd:FuncData}(F:Fun K "reached" "reached" Zcd f fd):GG P w K mg base CX0 1 f fd ["links", "start", "gone"] ZeM:=by
 refine F.ok scRea (λvs H Q E h=>?_) (λcdv A outer s H vs Q E hr h=>?_)
 ·obtain ⟨_,_,_,_,_,_,rfl,_⟩:=h
  rfl
 ·obtain ⟨lk,gl,k,st,rs,gn,rfl,g,L,hgl,hst,q⟩:=h;have hu1:(A.deeper (PyProof.Rows.envOfC "reached" (Gc Zcd) s.heap.objs.size f cdv)).units+1<cLine:=by have:=hr.un;lia
  have h16:(16777216:Nat)=sizeLine:=sizeLine_eq.symm;have g1:=g.1;have g2:=g.2.1;refine ⟨_,Gd (Gs (i:=3) scRea.nd rfl (Or.inl rfl) (ZcR (ZaX (pv 1) Uh ZcQ) rfl rfl (by decide) (by decide)))
    (Gd (Gs (i:=4) scRea.nd rfl (Or.inl rfl) (Jd (Ga (pv 1) Ge)))
    (Gd (Vi PassesOwn.never (Ju (pv 4) (λ_=>rfl))
    (Gd (Gs (i:=5) scRea.nd rfl (Or.inl rfl) (ZbV PySem.F.plainAttrs_list PySem.F.slot_list_pop PySem.F.type_list_pop ZbW (pv 4)))
    (Gf (JD PassesOwn.never rfl (JV K (GJ (UR K) (pv 0) (pv 5) (λ_ _=>rfl))) (Gi (i:=6) scRea.nd rfl (Or.inl rfl))
    (Gf (Je (PW.pt (Uu (YV (Zn hu1 (pv 6) (pv 3)) rfl) (Ot (Gw (Zf K) (pv 6) (pv 2) (by with_unfolding_all rfl))))) (Gd (Ow hu1 (pv 3) (pv 6) Uh rfl)
    (Gf (Jk (O0 PySem.F.plainAttrs_list PySem.F.slot_list_append PySem.F.type_list_append Ja (pv 4) (Ga (pv 6) Ge))))) GB))))))
    (Gf (Gu (pv 3))))),?_⟩
  refine λd hd=>⟨_,rfl,Gb,[(Sum.inl st,.bl true)],rfl,by show 1<=15;decide,?_⟩;have s1:Same H (upd (upd H d (.dK [])) d (.dK (Ud [] [(Sum.inl st,.bl true)]))):=(Same.new hd).put hd;have e1:upd (upd H d (.dK [])) d (.dK (Ud [] [(Sum.inl st,.bl true)])) d=some (.dK (kvF [st])):=by rw [Gb];rfl
  generalize upd (upd H d (.dK [])) d (.dK (Ud [] [(Sum.inl st,.bl true)]))=H1 at s1 e1 ⊢;refine ⟨_,rfl,(by show 1<=sizeLine;decide),λpn hpn=>?_⟩;have hdp:d≠pn:=Gm e1 hpn;have hpn0:=s1.free hpn;refine ⟨λm σ H2=>∃(v5 v6:Option V)(F pd:List Int),σ=[some (.ref lk),some (.int st),some (.ref gl),some (.ref d),some (.ref pn),v5,v6]/\Same H H2/\H2 d=some (.dK (kvF F))/\H2 pn=some (.lst (pd.map V.int))/\ReaI k rs st gn F pd/\(∀y∈F,y ∉ pd->∀z,Adj rs y z->z ∉ gn->z∈F)/\2 * (k.toNat-F.length)+pd.length<=33/\m=2 * (k.toNat-F.length)+pd.length,⟨_,none,none,[st],[st],rfl,s1.put hpn0,Gq e1 hdp,Gb,⟨List.nodup_cons.mpr ⟨List.not_mem_nil,List.nodup_nil⟩,λx hx=>(by rw [List.mem_singleton] at hx;rw [hx];exact hst),λx hx=>.inl (List.mem_singleton.mp hx),List.mem_singleton.mpr rfl,λx hx=>hx⟩,λy hy hn=>absurd hy hn,(by show 2 * (k.toNat-1)+1<=33;lia),rfl⟩,?_⟩;rintro m σ H2 ⟨v5,v6,F,pd,rfl,s2,ed,ep,I,cl,m33,rfl⟩;refine ⟨_,rfl,_,.inl ⟨_,SqL.of ep,rfl⟩,?_⟩;cases hpd:pd.isEmpty with
  | true=>
   have e:pd=[]:=List.isEmpty_iff.mp hpd;subst e;refine Js ?_;exact ⟨_,rfl,q d F H2 s2 hd ed I.nd (by have:=I.len;lia) I.me I.ng λx hx z hz hn=>cl x hx (λz=>by cases z) z hz hn⟩
  | false=>
   have hne:pd≠[]:=λe=>by rw [e] at hpd;cases hpd
   have hpos:0<pd.length:=List.length_pos_iff.mpr hne;have et:(!(pd.map V.int).isEmpty)=true:=by
    cases pd with
    | nil=>exact absurd rfl hne
    | cons _ _=>rfl
   rw [et];refine Jl ?_;refine ⟨λσ' H'=>∃m',m'<2 * (k.toNat-F.length)+pd.length/\∃(v5 v6:Option V)(F pd:List Int),σ'=[some (.ref lk),some (.int st),some (.ref gl),some (.ref d),some (.ref pn),v5,v6]/\Same H H'/\H' d=some (.dK (kvF F))/\H' pn=some (.lst (pd.map V.int))/\ReaI k rs st gn F pd/\(∀y∈F,y ∉ pd->∀z,Adj rs y z->z ∉ gn->z∈F)/\2 * (k.toNat-F.length)+pd.length<=33/\m'=2 * (k.toNat-F.length)+pd.length,λσ' H' h=>h,?_⟩;have hx:(pd.map V.int)[(pd.map V.int).length-1]?=some (.int (pd.getD (pd.length-1) 0)):=by
    rw [List.length_map,List.getElem?_map,List.getElem?_eq_getElem (show pd.length-1<pd.length by lia),GY (show pd.length-1<pd.length by lia)]
    rfl
   refine ⟨_,rfl,.inl ⟨rfl,_,SqL.of ep⟩,pn,_,_,rfl,rfl,ep,hx,?_⟩;have hmem:pd.getD (pd.length-1) 0∈pd:=Oh (by lia);have hin:=I.ir _ (I.sb _ hmem);have s3:=s2.put (o:=.lst (pd.map V.int).dropLast) hpn0;have ed3:upd H2 pn (.lst (pd.map V.int).dropLast) d=some (.dK (kvF F)):=Gq ed hdp;have ep3:upd H2 pn (.lst (pd.map V.int).dropLast) pn=some (.lst (pd.dropLast.map V.int)):=by rw [Gb,List.map_dropLast]
   generalize upd H2 pn (.lst (pd.map V.int).dropLast)=H3 at s3 ed3 ep3 ⊢;have split:∀y∈pd,y∈pd.dropLast\/y=pd.getD (pd.length-1) 0:=λy hy=>by
    have e:=List.dropLast_concat_getLast hne;rw [<-e] at hy;rcases List.mem_append.mp hy with h | h
    ·exact .inl h
    ·refine .inr ?_;rw [List.mem_singleton] at h;rw [h,List.getLast_eq_getElem,GY (show pd.length-1<pd.length by lia)]
   have ldrop:pd.dropLast.length=pd.length-1:=List.length_dropLast ..;generalize pd.getD (pd.length-1) 0=he at hmem hin split ⊢;obtain ⟨bl,el,bll,hb⟩:=L;have hbi:bl[he.toNat]?=some (bl[he.toNat]'(by lia)):=List.getElem?_eq_getElem (by lia);generalize bl[he.toNat]'(by lia)=na at hbi;obtain ⟨nb,enb,ndb,hnb⟩:=hb _ _ hbi;have hee:((he.toNat:Nat):Int)=he:=by lia
   rw [hee] at hnb;have hat:atI (bl.map V.ref) he=some (.ref na):=by
    have:=Gx (xs:=bl.map V.ref) (j:=he.toNat) (by rw [List.getElem?_map,hbi];rfl);rw [hee] at this;exact this
   refine ⟨_,rfl,_,rfl,lk,_,_,_,rfl,rfl,SqL.of (s3 _ _ el),hat,na,rfl,⟨_,SqL.of (s3 _ _ enb)⟩,?_⟩;have heF:=I.sb _ hmem;refine OB (K:=K) (a:=na) (xs:=nb.map V.int) (λi σ H4=>∃(v6:Option V)(F' pd':List Int),σ=[some (.ref lk),some (.int st),some (.ref gl),some (.ref d),some (.ref pn),some (.int he),v6]/\Same H H4/\H4 d=some (.dK (kvF F'))/\H4 pn=some (.lst (pd'.map V.int))/\ReaI k rs st gn F' pd'/\he∈F'/\(∀y∈F',y ∉ pd'->y≠he->∀z,Adj rs y z->z ∉ gn->z∈F')/\(∀(j:Nat)(x:Int),j<i->nb[j]?=some x->x ∉ gn->x∈F')/\2 * (k.toNat-F'.length)+pd'.length+1<=2 * (k.toNat-F.length)+pd.length)
    ⟨_,F,pd.dropLast,rfl,s3,ed3,ep3,⟨I.nd,I.ir,I.ng,I.me,λx hx=>I.sb x (List.dropLast_subset _ hx)⟩,heF,λy hy hn hne' z hz hg=>cl y hy (λhp=>(split y hp).elim hn hne') z hz hg,λj x hj=>absurd hj (Nat.not_lt_zero j),by lia⟩ (λi σ H4 _ ⟨_,_,_,_,s4,_⟩=>SqL.of (s4 _ _ enb)) ?_ ?_
   ·rintro i x σ H4 hxi ⟨w6,F',pd',rfl,s4,ed4,ep4,I4,he4,cl4,in4,me4⟩;rw [List.getElem?_map] at hxi;cases hz:nb[i]? with
    | none=>rw [hz] at hxi;cases hxi
    | some p=>
     rw [hz] at hxi;cases hxi;have hadj:Adj rs he p:=(hnb p).mp (List.mem_of_getElem? hz);refine ⟨_,rfl,_,rfl,d,_,rfl,DGet.k (k:=.inl p) ed4,_,rfl,?_⟩;rw [Xq];have upto:(p ∉ gn->p∈F')->∀(j:Nat)(x:Int),j<i+1->nb[j]?=some x->x ∉ gn->x∈F':=λhp j x hj hx hg=>by
      rcases Nat.lt_or_ge j i with h | h
      ·exact in4 j x h hx hg
      ·have e:j=i:=by lia
       subst e;rw [hz] at hx;cases hx;exact hp hg
     refine Uk (λzz=>?_) (λzz=>?_)
     ·have hnot:p ∉ F':=λhp=>by rw [decide_eq_true hp] at zz;cases zz
      refine ⟨_,rfl,_,rfl,gl,_,rfl,.inl (SqL.of (s4 _ _ hgl)),rfl,UH _,_,rfl,?_⟩;show if (!inV (.int p) (gn.map V.int))=true then _ else _
      rw [VI];by_cases hpg:p∈gn
      ·rw [decide_eq_true hpg];refine Js ?_;exact ⟨_,F',pd',rfl,s4,ed4,ep4,I4,he4,cl4,upto (λz=>absurd hpg z),me4⟩
      rw [decide_eq_false hpg];refine Jl ?_;have l4:=I4.len;have I5:ReaI k rs st gn (F'++[p]) (pd'++[p]):=by
       refine ⟨List.nodup_append.mpr ⟨I4.nd,List.nodup_cons.mpr ⟨List.not_mem_nil,List.nodup_nil⟩,λa ha b hb e=>?_⟩,λx hx=>?_,λx hx=>?_,List.mem_append_left _ I4.me,λx hx=>?_⟩
       ·rw [List.mem_singleton] at hb;exact hnot (hb▸e▸ha)
       ·rcases List.mem_append.mp hx with h | h
        ·exact I4.ir x h
        ·rw [List.mem_singleton] at h;rw [h];exact Ug g hadj
       ·rcases List.mem_append.mp hx with h | h
        ·exact I4.ng x h
        ·rw [List.mem_singleton] at h;rw [h];exact .inr hpg
       ·rcases List.mem_append.mp hx with h | h
        ·exact List.mem_append_left _ (I4.sb x h)
        ·exact List.mem_append_right _ h
      have l5:=I5.len;rw [List.length_append,List.length_singleton] at l5;have lk4:(kvF F').length=F'.length:=List.length_map ..;refine ⟨_,rfl,_,rfl,d,_,rfl,DPut.k (k:=.inl p) ed4 (by lia),?_⟩;rw [Zdn hnot];have ep5:upd H4 d (.dK (kvF (F'++[p]))) pn=some (.lst (pd'.map V.int)):=Gq ep4 (Ne.symm hdp);have lpd:pd'.length<=1000:=by lia
      refine ⟨_,rfl,.inl ⟨rfl,_,SqL.of ep5⟩,_,rfl,pn,_,_,rfl,rfl,ep5,by rw [List.length_map];lia,?_⟩;refine ⟨_,F'++[p],pd'++[p],rfl,(s4.put hd).put hpn0,Gq Gb hdp,by rw [Gb,List.map_append];rfl,I5,List.mem_append_left _ he4,λy hy hn hne' z hz' hg=>?_,λj x hj hx hg=>?_,?_⟩
      ·have hyp:y≠p:=λe=>hn (List.mem_append_right _ (List.mem_singleton.mpr e));have hyF:y∈F':=(List.mem_append.mp hy).elim id λh=>absurd (List.mem_singleton.mp h) hyp;exact List.mem_append_left _ (cl4 y hyF (λh=>hn (List.mem_append_left _ h)) hne' z hz' hg)
      ·rcases Nat.lt_or_ge j i with h | h
       ·exact List.mem_append_left _ (in4 j x h hx hg)
       ·have e:j=i:=by lia
        subst e;rw [hz] at hx;cases hx;exact List.mem_append_right _ (List.mem_singleton.mpr rfl)
      ·rw [List.length_append,List.length_append,List.length_singleton]
       lia
     ·have hp:p∈F':=by
       by_cases h:p∈F'
       ·exact h
       ·rw [decide_eq_false h] at zz;exact absurd rfl zz
      refine Js ?_;exact ⟨_,F',pd',rfl,s4,ed4,ep4,I4,he4,cl4,upto (λ_=>hp),me4⟩
   ·rintro σ H4 ⟨w6,F',pd',rfl,s4,ed4,ep4,I4,he4,cl4,in4,me4⟩;rw [List.length_map] at in4;refine ⟨_,?_,_,_,F',pd',rfl,s4,ed4,ep4,I4,λy hy hn z hz hg=>?_,by lia,rfl⟩
    ·lia
    ·by_cases e:y=he
     ·subst e;obtain ⟨j,hj,ej⟩:=List.getElem_of_mem ((hnb z).mpr hz);exact in4 j z hj (by rw [List.getElem?_eq_getElem hj,ej]) hg
     ·exact cl4 y hy hn e z hz hg
end
end M
namespace M
open PySem L2
theorem YJ (p:List Int)(hp:p≠[])(q:Int):Gj (p++[q]) false=Gj p false++[(p.getD (p.length-1) 0,q)]:=by
 cases p with
 | nil=>exact absurd rfl hp
 | cons a tl=>
  unfold Gj;rw [if_neg Bool.false_ne_true,if_neg Bool.false_ne_true,List.append_nil,List.append_nil];show ((a::(tl++[q])).zip (tl++[q]))=(a::tl).zip tl++[((a::tl).getD (tl.length+1-1) 0,q)];rw [VP,Nat.add_sub_cancel]
theorem WB {rs:List (Int×Int)}{p:List Int}{q:Int}(hp:p≠[]):Vc rs (p++[q]) false↔Vc rs p false/\q ∉ p/\Adj rs (p.getD (p.length-1) 0) q:=by
 unfold Vc;rw [YJ p hp,List.nodup_append];constructor
 ·rintro ⟨h1,h2,_,h3⟩;exact ⟨⟨λt ht=>h1 t (List.mem_append_left _ ht),h2⟩,λhq=>h3 q hq q (List.mem_singleton.mpr rfl) rfl,h1 _ (List.mem_append_right _ (List.mem_singleton.mpr rfl))⟩
 ·rintro ⟨⟨h1,h2⟩,h3,h4⟩;refine ⟨λt ht=>?_,h2,List.nodup_cons.mpr ⟨List.not_mem_nil,List.nodup_nil⟩,λa ha b hb e=>?_⟩
  ·rcases List.mem_append.mp ht with h | h
   ·exact h1 t h
   ·rw [List.mem_singleton.mp h];exact h4
  ·rw [List.mem_singleton.mp hb] at e;exact h3 (e▸ha)
theorem WC (p:List Int)(hp:p≠[]):p=p.dropLast++[p.getD (p.length-1) 0]:=by
 have h0:0<p.length:=List.length_pos_iff.mpr hp
 conv=>lhs;rw [<-List.dropLast_concat_getLast hp]
 rw [List.getLast_eq_getElem,GY (by lia)]
structure Beg (rs:List (Int×Int))(k one other:Int)(p:List Int):Prop where
 ne:p≠[]
 hd:p.getD 0 0=one
 on:Vc rs p false
 ir:∀x∈p,0<=x/\x<k
 no:other ∉ p.dropLast
theorem Beg.len {rs:List (Int×Int)}{k one other:Int}{p:List Int}(h:Beg rs k one other p):p.length<=k.toNat:=G4 (k:=k.toNat) h.on.2 λx hx=>by have:=h.ir x hx;lia
theorem Beg.way {rs:List (Int×Int)}{k one other:Int}{p:List Int}(h:Beg rs k one other p)(e:p.getD (p.length-1) 0=other):Way rs one other p:=⟨h.ne,h.hd,e,h.on⟩
theorem Zad {p:List Int}(hp:p≠[])(r:List Int):(p++r).getD 0 0=p.getD 0 0:=by
 cases p with
 | nil=>exact absurd rfl hp
 | cons a p=>rfl
theorem Beg.notin {rs:List (Int×Int)}{k one other:Int}{p:List Int}(h:Beg rs k one other p)(e:p.getD (p.length-1) 0≠other):other ∉ p:=λz=>by
 rw [WC p h.ne] at z;rcases List.mem_append.mp z with z | z
 ·exact h.no z
 ·exact e (List.mem_singleton.mp z).symm
theorem Beg.more {rs:List (Int×Int)}{k one other q:Int}{p:List Int}(h:Beg rs k one other p)(g:Gk k rs)(e:p.getD (p.length-1) 0≠other)(a:Adj rs (p.getD (p.length-1) 0) q)(hq:q=other\/q ∉ p):Beg rs k one other (p++[q]):=by
 have hqp:q ∉ p:=hq.elim (λz=>z▸h.notin e) id;refine ⟨by simp,by rw [Zad h.ne];exact h.hd,(WB h.ne).mpr ⟨h.on,hqp,a⟩,λx hx=>?_,by rw [List.dropLast_concat];exact h.notin e⟩;rcases List.mem_append.mp hx with hx | hx
 ·exact h.ir x hx
 ·rw [List.mem_singleton.mp hx];exact Ug g a
def Inc (a b:List Int):Prop:=¬ a <+: b/\¬ b <+: a
theorem Inc.symm {a b:List Int}(h:Inc a b):Inc b a:=⟨h.2,h.1⟩
theorem WD {p r:List Int}(q:Int)(h:Inc p r):Inc (p++[q]) r:=by
 refine ⟨λz=>h.1 ((List.prefix_append p [q]).trans z),λz=>?_⟩;rcases List.prefix_concat_iff.mp z with z | z
 ·exact h.1 (z▸List.prefix_append p [q])
 ·exact h.2 z
theorem Zdo (p:List Int){x y:Int}(h:x≠y):Inc (p++[x]) (p++[y]):=by
 have key:∀{x y:Int},x≠y->¬ (p++[x]) <+: (p++[y]):=λh z=>by
  have:=z.eq_of_length (by simp);have:=List.append_cancel_left this;simp at this;exact h this
 exact ⟨key h,key (Ne.symm h)⟩
structure DFS (rs:List (Int×Int))(k one other:Int)(W P:List (List Int)):Prop where
 pp:∀p∈P,Beg rs k one other p
 ww:∀w∈W,Way rs one other w
 cov:∀w,Way rs one other w->w∈W\/∃p∈P,p <+: w
 pf:(W++P).Pairwise Inc
theorem Zbw (p:List Int):¬ Inc p p:=λh=>h.1 (List.prefix_refl p)
theorem DFS.nodup {rs:List (Int×Int)}{k one other:Int}{W P:List (List Int)}(h:DFS rs k one other W P):W.Nodup:=List.Pairwise.imp (R:=Inc) (λ{a b} hab (e:a=b)=>Zbw a (by rw [<-e] at hab;exact hab)) (List.pairwise_append.mp h.pf).1
theorem DFS.take {rs:List (Int×Int)}{k one other:Int}{W P:List (List Int)}{p:List Int}(h:DFS rs k one other W (P++[p]))(e:p.getD (p.length-1) 0=other):DFS rs k one other (W++[p]) P:=by
 refine ⟨λq hq=>h.pp q (List.mem_append_left _ hq),λw hw=>?_,λw hw=>?_,?_⟩
 ·rcases List.mem_append.mp hw with hw | hw
  ·exact h.ww w hw
  ·rw [List.mem_singleton.mp hw];exact (h.pp p (by simp)).way e
 ·rcases h.cov w hw with z | ⟨q,hq,z⟩
  ·exact .inl (List.mem_append_left _ z)
  ·rcases List.mem_append.mp hq with hq | hq
   ·exact .inr ⟨q,hq,z⟩
   ·rw [List.mem_singleton.mp hq] at z;refine .inl (List.mem_append_right _ (List.mem_singleton.mpr ?_));obtain ⟨r,rfl⟩:=z;have hp:=h.pp p (by simp);cases r with
    | nil=>simp
    | cons x r=>
     exfalso;have nd:=hw.2.2.2.2;have hl:=hw.2.2.1;have m1:other∈p:=by
      rw [WC p hp.ne,e];simp
     have m2:other∈x::r:=by
      have:(p++x::r).getD ((p++x::r).length-1) 0=(x::r).getD ((x::r).length-1) 0:=by
       rw [List.getD_eq_getElem?_getD,List.getElem?_append_right (by simp),List.getD_eq_getElem?_getD]
       congr 2
       simp
      rw [this] at hl;rw [<-hl];exact Oh (by simp)
     exact (List.nodup_append.mp nd).2.2 other m1 other m2 rfl
 ·have:(W++[p]++P).Perm (W++(P++[p])):=by
   rw [List.append_assoc];exact List.Perm.append_left _ List.perm_append_comm
  exact (this.pairwise_iff λ{a b} h=>h.symm).mpr h.pf
theorem DFS.grow {rs:List (Int×Int)}{k one other:Int}{W P:List (List Int)}{p nb F:List Int}(g:Gk k rs)(h:DFS rs k one other W (P++[p]))(e:p.getD (p.length-1) 0≠other)(nd:nb.Nodup)(hnb:∀m,m∈nb↔Adj rs (p.getD (p.length-1) 0) m)(f1:other∈F)(f2:∀x∈F,x=other\/x ∉ p)(f3:∀x∈F,∀z,Adj rs x z->z ∉ p->z∈F):DFS rs k one other W (P++(nb.filter λx=>decide (x∈F)).map λx=>p++[x]):=by
 have hp:=h.pp p (by simp);have pf:=List.pairwise_append.mp h.pf;have pf2:=List.pairwise_append.mp pf.2.1;refine ⟨λq hq=>?_,h.ww,λw hw=>?_,?_⟩
 ·rcases List.mem_append.mp hq with hq | hq
  ·exact h.pp q (List.mem_append_left _ hq)
  ·obtain ⟨x,hx,rfl⟩:=List.mem_map.mp hq;obtain ⟨h1,h2⟩:=List.mem_filter.mp hx;exact hp.more g e ((hnb x).mp h1) (f2 x (of_decide_eq_true h2))
 ·rcases h.cov w hw with z | ⟨q,hq,z⟩
  ·exact .inl z
  ·rcases List.mem_append.mp hq with hq | hq
   ·exact .inr ⟨q,List.mem_append_left _ hq,z⟩
   ·rw [List.mem_singleton.mp hq] at z;obtain ⟨r,rfl⟩:=z;have ow:=hw.2.2.2;have hl:=hw.2.2.1;cases r with
    | nil=>
     rw [List.append_nil] at hl;exact absurd hl e
    | cons x r=>
     have key:∀(r:List Int)(x:Int)(pre:List Int),Vc rs (pre++x::r) false->(x::r).getD ((x::r).length-1) 0=other->(∀y∈x::r,y ∉ p)->x∈F:=by
      intro r
      induction r with
      | nil=>
       intro x pre _ hl _;have hl:x=other:=hl;rw [hl];exact f1
      | cons y r ih=>
       intro x pre o hl hn;have iy:=ih y (pre++[x]) (by rw [List.append_assoc];exact o) (by rw [<-hl];rfl) λz hz=>hn z (List.mem_cons_of_mem _ hz);refine f3 y iy x ?_ (hn x (List.mem_cons_self ..));have:(x,y)∈Gj (pre++x::y::r) false:=by
        unfold Gj;rw [if_neg Bool.false_ne_true,List.append_nil];rw [List.mem_iff_getElem?];refine ⟨pre.length,?_⟩;rw [List.getElem?_zip_eq_some];constructor
        ·rw [List.getElem?_append_right (Nat.le_refl _),Nat.sub_self]
         rfl
        ·rw [List.getElem?_drop,List.getElem?_append_right (by lia),show 1+pre.length-pre.length=1 by lia]
         rfl
       exact Z9 (o.1 _ this)
     have hx:x∈F:=key r x p ow (by
      rw [<-hl,List.getD_eq_getElem?_getD,List.getD_eq_getElem?_getD,List.getElem?_append_right (by simp)]
      congr 2
      simp) λy hy hy'=>(List.nodup_append.mp ow.2).2.2 y hy' y hy rfl
     have ha:Adj rs (p.getD (p.length-1) 0) x:=by
      have o2:Vc rs (p++[x]) false:=by
       have:p++x::r=(p++[x])++r:=by simp
       rw [this] at ow;refine ⟨λt ht=>ow.1 t ?_,(List.nodup_append.mp ow.2).1⟩;unfold Gj at ht ⊢;rw [if_neg Bool.false_ne_true,List.append_nil] at ht ⊢;obtain ⟨i,hi⟩:=List.mem_iff_getElem?.mp ht;rw [List.getElem?_zip_eq_some] at hi;rw [List.mem_iff_getElem?];refine ⟨i,List.getElem?_zip_eq_some.mpr ⟨?_,?_⟩⟩
       ·rw [List.getElem?_append_left (List.getElem?_eq_some_iff.mp hi.1).1];exact hi.1
       ·have h2:=hi.2;rw [List.getElem?_drop] at h2 ⊢;rw [List.getElem?_append_left (List.getElem?_eq_some_iff.mp h2).1];exact h2
      exact ((WB hp.ne).mp o2).2.2
     refine .inr ⟨p++[x],List.mem_append_right _ (List.mem_map.mpr ⟨x,List.mem_filter.mpr ⟨(hnb x).mpr ha,decide_eq_true hx⟩,rfl⟩),r,by simp⟩
 ·refine List.pairwise_append.mpr ⟨pf.1,List.pairwise_append.mpr ⟨pf2.1,?_,λa ha b hb=>?_⟩,λa ha b hb=>?_⟩
  ·rw [List.pairwise_map];exact (nd.sublist List.filter_sublist).imp λh=>Zdo p h
  ·obtain ⟨x,_,rfl⟩:=List.mem_map.mp hb;exact (WD x (pf2.2.2 a ha p (by simp)).symm).symm
  ·rcases List.mem_append.mp hb with hb | hb
   ·exact pf.2.2 a ha b (List.mem_append_left _ hb)
   ·obtain ⟨x,_,rfl⟩:=List.mem_map.mp hb;exact (WD x (pf.2.2 a ha p (by simp)).symm).symm
def X5 (k:Nat)(P:List (List Int)):Nat:=(P.map λp=>(k+2) ^ (k-p.length)).sum
theorem VQ (k:Nat)(P R:List (List Int)):X5 k (P++R)=X5 k P+X5 k R:=by unfold X5;rw [List.map_append,List.sum_append]
theorem X6 (k:Nat)(p:List Int):X5 k [p]=(k+2) ^ (k-p.length):=by simp [X5]
theorem WE (k:Nat)(p:List Int):∀(xs:List Int),X5 k (xs.map λx=>p++[x])=xs.length * (k+2) ^ (k-(p.length+1))
 | []=>by simp [X5]
 | x::xs=>by
  have:=WE k p xs;unfold X5 at this ⊢;rw [List.map_cons,List.map_cons,List.sum_cons,this,List.length_append,List.length_singleton,List.length_cons,Nat.succ_mul]
  lia
theorem Zae {k:Int}{rs:List (Int×Int)}{one other:Int}{p nb F:List Int}{P:List (List Int)}(g:Gk k rs)(hp:Beg rs k one other p)(e:p.getD (p.length-1) 0≠other)(nd:nb.Nodup)(hnb:∀m,m∈nb↔Adj rs (p.getD (p.length-1) 0) m)(f2:∀x∈F,x=other\/x ∉ p) :
  X5 k.toNat (P++(nb.filter λx=>decide (x∈F)).map λx=>p++[x])<X5 k.toNat (P++[p]):=by
 rw [VQ,VQ,X6,WE];have hpos:0<(k.toNat+2) ^ (k.toNat-p.length):=Nat.pow_pos (by lia);generalize hxs:(nb.filter λx=>decide (x∈F))=xs;by_cases hx:xs=[]
 ·subst hx;simp;exact hpos
 ·obtain ⟨x,hxm⟩:=List.exists_mem_of_ne_nil xs hx;rw [<-hxs] at hxm;obtain ⟨h1,h2⟩:=List.mem_filter.mp hxm;have b:=(hp.more g e ((hnb x).mp h1) (f2 x (of_decide_eq_true h2))).len;rw [List.length_append,List.length_singleton] at b;have hl:xs.length<=k.toNat:=by
   rw [<-hxs];refine Nat.le_trans (List.length_filter_le _ _) (G4 (k:=k.toNat) nd λy hy=>?_);have:=Ug g ((hnb y).mp hy)
   lia
  have e2:(k.toNat+2) ^ (k.toNat-p.length)=(k.toNat+2) * (k.toNat+2) ^ (k.toNat-(p.length+1)):=by
   rw [show k.toNat-p.length=(k.toNat-(p.length+1))+1 by lia,Nat.pow_succ,Nat.mul_comm]
  rw [e2];have q:0<(k.toNat+2) ^ (k.toNat-(p.length+1)):=Nat.pow_pos (by lia);have:=Nat.mul_le_mul_right ((k.toNat+2) ^ (k.toNat-(p.length+1))) hl;have e3:(k.toNat+2) * (k.toNat+2) ^ (k.toNat-(p.length+1))=k.toNat * (k.toNat+2) ^ (k.toNat-(p.length+1))+2 * (k.toNat+2) ^ (k.toNat-(p.length+1)):=Nat.add_mul ..
  lia
end M
namespace M
open PySem L2
theorem YK {k:Int}{rs:List (Int×Int)}(g:Gk k rs)(p:Int):(Xp rs p).Nodup:=by
 unfold Xp;have nd:rs.Nodup:=g.2.2.2.2;refine List.Pairwise.map (R:=λa b:Int×Int=>(a∈rs/\b∈rs)/\(a≠b/\WA a p=true/\WA b p=true)) _ (λa b h e=>?_) ?_
 ·obtain ⟨⟨ha,hb⟩,hne,h1,h2⟩:=h;have g1:=g.2.2.2.1 a ha;have g2:=g.2.2.2.1 b hb;have h1:=of_decide_eq_true h1;have h2:=of_decide_eq_true h2;apply hne;obtain ⟨a1,a2⟩:=a;obtain ⟨b1,b2⟩:=b;dsimp only at *;have:a1=b1/\a2=b2:=by lia
  rw [this.1,this.2]
 ·refine List.Pairwise.imp_of_mem ?_ (nd.sublist List.filter_sublist);intro a b ha hb hab;obtain ⟨h1,h2⟩:=List.mem_filter.mp ha;obtain ⟨h3,h4⟩:=List.mem_filter.mp hb;exact ⟨⟨h1,h3⟩,hab,h2,h4⟩
def Lz (H:Hp)(zs:List (Addr×List Int)):Prop:=∀z∈zs,H z.1=some (.lst (z.2.map V.int))
theorem Lz.same {H H':Hp}{zs:List (Addr×List Int)}(h:Lz H zs)(s:Same H H'):Lz H' zs:=λz hz=>s _ _ (h z hz)
theorem Lz.put {H:Hp}{zs:List (Addr×List Int)}{a:Addr}{o:HO}(h:Lz H zs)(ha:∀z∈zs,z.1≠a):Lz (upd H a o) zs:=λz hz=>Gq (h z hz) (ha z hz)
section
variable {P:Program}{w:World}{K:W.Frag}{mg:Str->Option Value}{base:Heap}
structure Wys (rs:List (Int×Int))(p q:Int)(W:List (List Int)):Prop where
 ww:∀w∈W,Way rs p q w
 nd:W.Nodup
 ln:W.length<=301
 al:W.length<=300->∀w,Way rs p q w->w∈W
def ZeO:Sp:=λvs H Q _=>∃(wb l:Addr)(k p q:Int)(xs:List V)(rs:List (Int×Int)),vs=[.ref wb,.int p,.int q]/\WebAt H wb l k xs rs/\Gk k rs/\Ends k p q /\
 ∀(wa:Addr)(zs:List (Addr×List Int))(H':Hp),Same H H'->H wa=none->H' wa=some (.lst (zs.map λz=>V.ref z.1))->Lz H' zs->(∀z∈zs,H z.1=none)->Wys rs p q (zs.map (·.2))->Q (.ref wa) H'
theorem scWbt:Gr ["web", "one", "other", "links", "ways", "pending", "places", "hopeful"] ["web", "one", "other"] (Gc Zce):=⟨rfl,rfl,rfl,by decide +kernel,rfl,by decide +kernel,by decide +kernel⟩
def WbI (H HL:Hp)(k:Int)(rs:List (Int×Int))(p q:Int)(wb D wa pn:Addr)(m:Nat)(σ:St)(H2:Hp):Prop:=∃(v6 v7:Option V)(Wz Pz:List (Addr×List Int)),
 σ=[some (.ref wb),some (.int p),some (.int q),some (.ref D),some (.ref wa),some (.ref pn),v6,v7]/\Same HL H2/\H2 wa=some (.lst (Wz.map λz=>V.ref z.1))/\H2 pn=some (.lst (Pz.map λz=>V.ref z.1))/\Lz H2 Wz/\Lz H2 Pz /\
 (∀z∈Wz++Pz,z.1≠wa/\z.1≠pn/\HL z.1=none)/\DFS rs k p q (Wz.map (·.2)) (Pz.map (·.2))/\Wz.length<=301/\(∀(j:Nat)(z:Addr×List Int),Pz[j]?=some z->j<k.toNat * z.2.length)/\m=X5 k.toNat (Pz.map (·.2))
theorem ZeP {f fZ fRe C2:Addr}{fd fdZ fdRe:FuncData}{tM:Tok}(F:Fun K "ways_between" "ways_between" Zce f fd)(FZ:Fun K "beside" "beside" Zbo fZ fdZ)(bZ:Binds K fdZ ["web", "place"] [])(mZ:mg "beside" = some (.ref fZ))(GZ:GG P w K mg base (CXr P w) 3 fZ fdZ ["web", "place"] (Zdk C2))(FRe:Fun K "reached" "reached" Zcd fRe fdRe)(bRe:Binds K fdRe ["links", "start", "gone"] [])(mRe:mg "reached" = some (.ref fRe))(mMoW:mg "MOST_WAYS" = some (.int 300 tM))(mRange:mg "range" = none)(mLen:mg "len" = none):GG P w K mg base CX0 4 f fd ["web", "one", "other"] ZeO:=by
 have GRe:GG P w K mg base CX0 1 fRe fdRe ["links", "start", "gone"] ZeM:=ZeN FRe;refine F.ok scWbt (λvs H Q E h=>?_) (λcdv A outer s H vs Q E hr h=>?_)
 ·obtain ⟨_,_,_,_,_,_,_,rfl,_⟩:=h
  rfl
 ·obtain ⟨wb,l,k,p,q',xs,rs,rfl,W,g,en,q⟩:=h;have h16:(16777216:Nat)=sizeLine:=sizeLine_eq.symm;have hu1:(A.deeper (PyProof.Rows.envOfC "ways_between" (Gc Zce) s.heap.objs.size f cdv)).units+1<cLine:=by have:=hr.un;lia
  have hx:xs.length<=30:=by rw [W.p.len];exact g.2.2.1
  have g1:=g.1;have g2:=g.2.1;refine ⟨_,Gd (UB (i:=3) scWbt.nd rfl (Or.inl rfl) (own:=["place"]) rfl (Go (fr:=[("web", 0)]) [(".0", .local),("place", .local),("beside", .globalImplicit),("web", .cell)] rfl rfl (by decide +kernel) rfl (by decide +kernel) ⟨rfl,trivial⟩ ⟨λh=>GN h,λh=>GN h,λh=>GN h,λ_=>⟨_,rfl⟩,trivial⟩ ⟨⟨rfl,.inl rfl,.inl rfl⟩,trivial⟩) (V0 rfl mRange (Ga (GJ (Op K) (pv 0) Gg (λ_ _=>rfl)) Ge)) (λ_ _ _ _=>Gi (i:=0) (show List.Nodup (["place", "web"]:List Str) by decide +kernel) rfl (Or.inl rfl)) (λ_ _ _ _=>G5) (λ_ _ _ _=>Gh GZ (hr.mono (by decide)) rfl mZ FZ.kp bZ .nil Vo (Ga (pv 1) (Ga (pv 0) Ge))))
    (Gd (Gs (i:=4) scWbt.nd rfl (Or.inl rfl) (Jd Ge))
    (Gd (Gs (i:=5) scWbt.nd rfl (Or.inl rfl) (Jd (Ga (Jd (Ga (pv 1) Ge)) Ge)))
    (Gd (Vi PassesOwn.never (PW.pt (Uu (Ju (pv 5) (λ_=>rfl)) (Ot (Gw Zcu (Gz (ZbY K) rfl mLen PySem.boot_len (Ga (pv 4) Ge)) (G8 (v:=.int 300) rfl mMoW ⟨_,rfl⟩) (GE _)))))
    (Gd (Gs (i:=6) scWbt.nd rfl (Or.inr rfl) (ZbV PySem.F.plainAttrs_list PySem.F.slot_list_pop PySem.F.type_list_pop ZbW (pv 5)))
    (Gf (Je (Gw UQ (GJ (UR K) (pv 6) (Vj JO Gg) (λ_ _=>rfl)) (pv 2) (GE _)) (Gf (Jk (O0 PySem.F.plainAttrs_list PySem.F.slot_list_append PySem.F.type_list_append Ja (pv 4) (Ga (pv 6) Ge)))) (Gd (Gs (i:=7) scWbt.nd rfl (Or.inr rfl) (Gh GRe (hr.mono (by decide)) rfl mRe FRe.kp bRe .nil GQ (Ga (pv 3) (Ga (pv 2) (Ga (pv 6) Ge)))))
    (Gf (Jk (O0 PySem.F.plainAttrs_list PySem.F.slot_list_extend PySem.F.type_list_extend Zb (pv 5) (Ga (G9 (own:=["place"]) rfl (Go (fr:=[("places", 6),("hopeful", 7)]) [(".0", .local),("place", .local),("hopeful", .cell),("places", .cell)] rfl rfl (by decide +kernel) rfl (by decide +kernel) ⟨rfl,rfl,trivial⟩ ⟨λh=>GN h,λh=>GN h,λ_=>⟨_,rfl⟩,λ_=>⟨_,rfl⟩,trivial⟩ ⟨⟨rfl,.inl rfl,.inl rfl⟩,⟨rfl,.inl rfl,.inl rfl⟩,trivial⟩) (JV K (GJ (UR K) (pv 3) (GJ (UR K) (pv 6) (Vj JO Gg) (λ_ _=>rfl)) (λ_ _=>rfl))) (λ_ _ _ _=>Gi (i:=0) (show List.Nodup (["place", "places", "hopeful"]:List Str) by decide +kernel) rfl (Or.inl rfl)) (λ_ _ _ _=>JE (YV (Zm hu1 (pv 0) (pv 2)) rfl)) (λ_ _ _ _=>GF XE (pv 1) (Jd (Ga (pv 0) Ge)))) Ge)))))))))
    (Gf (Gu (pv 4)))))),?_⟩
  refine ⟨_,rfl,wb,_,_,_,rfl,rfl,SqT.of W.w,Gx (j:=0) rfl,_,rfl,by lia,by lia,λD hD=>?_⟩;refine O1 (lo:=0) (n:=k.toNat) (λi ys H2=>Same H H2/\H2 D=some (.lst ys)/\∃bl:List Addr,ys=bl.map V.ref/\bl.length=i/\∀(j:Nat)(a:Addr),bl[j]?=some a->∃ns:List Int,H2 a=some (.lst (ns.map V.int))/\a≠D/\ns.Nodup/\∀m,m∈ns↔Adj rs (j:Int) m) ⟨Same.new hD,Gb,[],rfl,rfl,λj a h=>(by cases h)⟩ ?_ ?_
  ·rintro i ys H2 hi ⟨s2,hD2,bl,rfl,hbl,hb⟩;rw [Int.zero_add];refine ⟨⟨rfl,trivial⟩,?_⟩;unfold Ys;refine Jl ?_;refine ⟨_,rfl,_,rfl,wb,l,k,(i:Int),xs,rs,rfl,W.same s2,by lia,.inl ⟨⟨by lia,by lia⟩,λr ns H3 s3 hr3 er3 pm so=>?_⟩⟩;have hrD:r≠D:=λz=>by rw [z,hD2] at hr3;cases hr3
   refine ⟨s3 _ _ hD2,by rw [List.length_map];lia,(s2.trans s3).put hD,Gb,bl++[r],by rw [List.map_append];rfl,by rw [List.length_append,List.length_singleton,hbl],λj a ha=>?_⟩;rcases Nat.lt_or_ge j bl.length with hj | hj
   ·rw [List.getElem?_append_left hj] at ha;obtain ⟨ms,e1,e2,e3⟩:=hb j a ha;exact ⟨ms,Gq (s3 _ _ e1) e2,e2,e3⟩
   ·rw [List.getElem?_append_right hj] at ha;have hj0:j-bl.length=0:=by
     by_cases z:j-bl.length=0
     ·exact z
     ·rw [List.getElem?_eq_none (by rw [List.length_singleton];lia)] at ha;cases ha
    rw [hj0] at ha;cases ha;refine ⟨ns,Gq er3 hrD,hrD,pm.nodup_iff.mpr (YK g _),λm=>?_⟩;rw [pm.mem_iff,show (j:Int)=(i:Int) by lia];exact Zdm g
  rintro ys H2 ⟨s2,hD2,bl,rfl,hbl,hb⟩;have L:LinksAt H2 D k rs:=⟨bl,hD2,hbl,λi a ha=>(hb i a ha).elim λns h=>⟨ns,h.1,h.2.2⟩⟩;clear hb hbl;refine ⟨Nat.zero_le _,λwa hwa=>?_⟩;have s3:Same H2 (upd H2 wa (.lst [])):=Same.new hwa;have e3:upd H2 wa (.lst []) wa=some (.lst []):=Gb;generalize upd H2 wa (.lst [])=H3 at s3 e3 ⊢;refine ⟨_,rfl,(by show 1<=sizeLine;lia),λp0 hp0=>⟨(by show 1<=sizeLine;lia),λpn hpn=>?_⟩⟩;have s4:Same H3 (upd H3 p0 (.lst [.int p])):=Same.new hp0;have e4:upd H3 p0 (.lst [.int p]) p0=some (.lst ([p].map V.int)):=Gb;generalize upd H3 p0 (.lst [.int p])=H4 at s4 e4 hpn ⊢;have s5:Same H4 (upd H4 pn (.lst [.ref p0])):=Same.new hpn;have e5:upd H4 pn (.lst [.ref p0]) pn=some (.lst [.ref p0]):=Gb;generalize upd H4 pn (.lst [.ref p0])=H5 at s5 e5 ⊢;have S5:=s3.trans (s4.trans s5);have hwa2:H2 wa=none:=hwa;have hpn2:H2 pn=none:=(s3.trans s4).free hpn;have hp02:H2 p0=none:=s3.free hp0;have hwp:wa≠pn:=Gm (s4 _ _ e3) hpn;have dfs0:DFS rs k p q' [] [[p]]:=by
   refine ⟨λr hr'=>?_,λr hr'=>(by cases hr'),λr hr'=>.inr ⟨[p],by simp,?_⟩,by simp⟩
   ·rw [List.mem_singleton.mp hr'];exact ⟨by simp,rfl,⟨λt ht=>by simp [Gj] at ht,by simp⟩,λx hx=>by rw [List.mem_singleton.mp hx];exact en.1,by simp⟩
   ·obtain ⟨h1,h2,_⟩:=hr';cases r with
    | nil=>exact absurd rfl h1
    | cons a r=>
     have h2:a=p:=h2;rw [h2];exact ⟨r,rfl⟩
  refine ⟨WbI H H2 k rs p q' wb D wa pn,⟨_,none,none,[],[(p0,[p])],rfl,S5,s5 _ _ (s4 _ _ e3),e5,λz hz=>(by cases hz),λz hz=>?_,λz hz=>?_,dfs0,by simp,λj z hj=>?_,rfl⟩,?_⟩
  ·rw [List.mem_singleton.mp hz];exact s5 _ _ e4
  ·have hz:z=(p0,[p]):=by simpa using hz
   rw [hz];exact ⟨Ne.symm (Gm e3 hp0),Gm e4 hpn,hp02⟩
  ·cases j with
   | zero=>
    simp at hj;rw [<-hj];show 0<k.toNat * 1
    lia
   | succ j=>simp at hj
  rintro m σ H6 ⟨v6,v7,Wz,Pz,rfl,s6,ew,ep,lw,lp,fr,dfs,l301,jn,rfl⟩;refine ⟨_,rfl,_,.inl ⟨_,SqL.of ep,rfl⟩,?_⟩;have hwaH:H wa=none:=s2.free hwa2;have frH:∀z∈Wz,H z.1=none:=λz hz=>s2.free (fr z (List.mem_append_left _ hz)).2.2;cases hpd:Pz.isEmpty with
  | true=>
   have e:Pz=[]:=List.isEmpty_iff.mp hpd;subst e;refine Js ?_;refine Js ?_;refine ⟨_,rfl,q wa Wz H6 (s2.trans s6) hwaH ew lw frH ⟨dfs.ww,dfs.nodup,by rw [List.length_map];exact l301,λ_ r hr'=>?_⟩⟩;rcases dfs.cov r hr' with z | ⟨_,z,_⟩
   ·exact z
   ·cases z
  | false=>
   have hne:Pz≠[]:=λe=>by rw [e] at hpd;cases hpd
   have hpos:0<Pz.length:=List.length_pos_iff.mpr hne;have et:(!(Pz.map λz=>V.ref z.1).isEmpty)=true:=by
    cases Pz with
    | nil=>exact absurd rfl hne
    | cons _ _=>rfl
   rw [et];refine Jl ?_;refine ⟨_,rfl,wa,_,rfl,.inl (SqL.of ew),_,_,rfl,rfl,_,rfl,?_⟩;rw [List.length_map];by_cases h300:(Wz.length:Int)<=300;rotate_left
   ·rw [decide_eq_false h300];refine Js ?_;exact ⟨_,rfl,q wa Wz H6 (s2.trans s6) hwaH ew lw frH ⟨dfs.ww,dfs.nodup,by rw [List.length_map];exact l301,λz=>by rw [List.length_map] at z;lia⟩⟩
   rw [decide_eq_true h300];refine Jl ?_;refine ⟨_,λσ' H' h=>h,?_⟩;obtain ⟨Pr,z0,rfl⟩:∃Pr z0,Pz=Pr++[z0]:=⟨Pz.dropLast,Pz.getLast hne,(List.dropLast_concat_getLast hne).symm⟩;obtain ⟨pa,pl⟩:=z0;have hxl:((Pr++[(pa,pl)]).map λz=>V.ref z.1)[((Pr++[(pa,pl)]).map λz=>V.ref z.1).length-1]?=some (.ref pa):=by simp
   refine ⟨_,rfl,.inl ⟨rfl,_,SqL.of ep⟩,pn,_,_,rfl,rfl,ep,hxl,?_⟩;have edl:((Pr++[(pa,pl)]).map λz=>V.ref z.1).dropLast=Pr.map λz=>V.ref z.1:=by rw [List.map_append];exact List.dropLast_concat
   rw [edl];dsimp only [G0];have s7:Same H2 (upd H6 pn (.lst (Pr.map λz=>V.ref z.1))):=s6.put hpn2;have ew7:upd H6 pn (.lst (Pr.map λz=>V.ref z.1)) wa=some (.lst (Wz.map λz=>V.ref z.1)):=Gq ew hwp;have ep7:upd H6 pn (.lst (Pr.map λz=>V.ref z.1)) pn=some (.lst (Pr.map λz=>V.ref z.1)):=Gb;have lw7:Lz (upd H6 pn (.lst (Pr.map λz=>V.ref z.1))) Wz:=lw.put λz hz=>(fr z (List.mem_append_left _ hz)).2.1;have lp7:Lz (upd H6 pn (.lst (Pr.map λz=>V.ref z.1))) (Pr++[(pa,pl)]):=lp.put λz hz=>(fr z (List.mem_append_right _ hz)).2.1;generalize upd H6 pn (.lst (Pr.map λz=>V.ref z.1))=H7 at s7 ew7 ep7 lw7 lp7 ⊢;have epa:H7 pa=some (.lst (pl.map V.int)):=lp7 (pa,pl) (by simp);have lpr:Lz H7 Pr:=λz hz=>lp7 z (List.mem_append_left _ hz);have fpa:=fr (pa,pl) (by simp);have emap:(Pr++[(pa,pl)]).map (·.2)=Pr.map (·.2)++[pl]:=by simp
   rw [emap] at dfs;have hB:Beg rs k p q' pl:=dfs.pp pl (by simp);have hlk:pl.length<=16:=by have:=hB.len;lia
   have jt:Pr.length<k.toNat * pl.length:=jn Pr.length (pa,pl) (by simp);have h256:Pr.length<=256:=by
    have h1:k.toNat * pl.length<=16 * 16:=Nat.mul_le_mul (by lia) hlk
    lia
   refine ⟨_,rfl,_,rfl,pa,_,_,_,rfl,rfl,SqL.of epa,UI hB.ne,_,rfl,rfl,_,rfl,?_⟩;refine Uk (λhe=>?_) (λhe=>?_)
   ·have he:pl.getD (pl.length-1) 0=q':=by
     have:=of_decide_eq_true he;injection this
    refine ⟨_,rfl,.inl ⟨rfl,_,SqL.of ew7⟩,_,rfl,wa,_,_,rfl,rfl,ew7,by rw [List.length_map];lia,?_⟩;refine ⟨X5 k.toNat (Pr.map (·.2)),?_,_,_,Wz++[(pa,pl)],Pr,rfl,s7.put hwa2,?_,Gq ep7 (Ne.symm hwp),?_,lpr.put λz hz=>(fr z (by simp [hz])).1,λz hz=>?_,?_,?_,λj z hj=>?_,rfl⟩
    ·rw [emap,VQ,X6];have:0<(k.toNat+2) ^ (k.toNat-pl.length):=Nat.pow_pos (by lia)
     lia
    ·rw [Gb,List.map_append]
     rfl
    ·refine Lz.put (λz hz=>?_) λz hz=>?_
     ·rcases List.mem_append.mp hz with hz | hz
      ·exact lw7 z hz
      ·rw [List.mem_singleton.mp hz];exact epa
     ·rcases List.mem_append.mp hz with hz | hz
      ·exact (fr z (List.mem_append_left _ hz)).1
      ·rw [List.mem_singleton.mp hz];exact fpa.1
    ·refine fr z ?_;simp at hz ⊢;rcases hz with hz | hz | hz
     ·exact .inl hz
     ·exact .inr (.inr hz)
     ·exact .inr (.inl hz)
    ·rw [List.map_append];exact dfs.take he
    ·rw [List.length_append,List.length_singleton]
     lia
    ·refine jn j z ?_;rw [List.getElem?_append_left (List.getElem?_eq_some_iff.mp hj).1];exact hj
   ·have he:pl.getD (pl.length-1) 0≠q':=λz=>he (decide_eq_true (by rw [z]));refine ⟨_,rfl,_,rfl,_,rfl,D,pa,k,q',rs,pl,rfl,g,L.same s7,epa,en.2.1,λd Fd H8 s8 hd ed nd8 fl8 me8 ng8 cl8=>?_⟩;dsimp only [G0];have s27:=s7.trans s8;have ep8:=s8 _ _ ep7;have epa8:=s8 _ _ epa;have ew8:=s8 _ _ ew7;obtain ⟨bl,el,bll,hb⟩:=L.same s27;have hin:=hB.ir _ (show pl.getD (pl.length-1) 0∈pl from Oh (by have:=List.length_pos_iff.mpr hB.ne;lia));generalize hla:pl.getD (pl.length-1) 0=la at he hin;have hbi:bl[la.toNat]?=some (bl[la.toNat]'(by lia)):=List.getElem?_eq_getElem (by lia);generalize bl[la.toNat]'(by lia)=na at hbi;obtain ⟨nb,enb,ndb,hnb⟩:=hb _ _ hbi;have hee:((la.toNat:Nat):Int)=la:=by lia
    rw [hee] at hnb;have hat:atI (bl.map V.ref) la=some (.ref na):=by
     have:=Gx (xs:=bl.map V.ref) (j:=la.toNat) (by rw [List.getElem?_map,hbi];rfl);rw [hee] at this;exact this
    have hatl:atI (pl.map V.int) (-1)=some (.int la):=by rw [<-hla];exact UI hB.ne
    refine ⟨_,rfl,.inl ⟨rfl,_,SqL.of ep8⟩,_,rfl,_,rfl,_,rfl,pa,_,_,_,rfl,rfl,SqL.of epa8,hatl,D,_,_,_,rfl,rfl,SqL.of el,hat,na,rfl,⟨_,SqL.of enb⟩,λDc hDc=>?_⟩;have lnb:nb.length<=16:=by
     have:=G4 (k:=k.toNat) ndb λy hy=>by have:=Ug g ((hnb y).mp hy);lia
     lia
    refine GS (K:=K) (a:=na) (xs:=nb.map V.int) (λj ys H9=>Same H8 H9/\H9 Dc=some (.lst ys)/\∃cz:List (Addr×List Int),ys=cz.map (λz=>V.ref z.1)/\Lz H9 cz/\(∀z∈cz,z.1≠Dc/\H8 z.1=none)/\cz.map (·.2)=((nb.take j).filter λx=>decide (x∈Fd)).map λx=>pl++[x]) ⟨Same.new hDc,Gb,[],rfl,λz hz=>(by cases hz),λz hz=>(by cases hz),rfl⟩ (λj ys H9 _ ⟨s9,_⟩=>SqL.of (s9 _ _ enb)) ?_ ?_
    ·rintro j x ys H9 hxj ⟨s9,eD9,cz,rfl,l9,f9,m9⟩;rw [List.getElem?_map] at hxj;cases hz:nb[j]? with
     | none=>rw [hz] at hxj;cases hxj
     | some x'=>
      rw [hz] at hxj;cases hxj;have hstep:nb.take (j+1)=nb.take j++[x']:=by rw [List.take_add_one,hz];rfl
      have lcz:cz.length<=16:=by
       have h1:cz.length=(cz.map (·.2)).length:=by rw [List.length_map]
       rw [h1,m9,List.length_map];have:=List.length_filter_le (λx=>decide (x∈Fd)) (nb.take j);rw [List.length_take] at this
       lia
      refine ⟨⟨rfl,rfl,trivial⟩,?_⟩;refine ⟨_,rfl,_,rfl,d,_,rfl,DGet.k (k:=.inl x') (s9 _ _ ed),_,rfl,?_⟩;rw [Xq];refine Uk (λhz2=>?_) (λhz2=>?_)
      ·have hxF:x'∈Fd:=of_decide_eq_true hz2;refine ⟨_,rfl,_,rfl,(by show 1<=sizeLine;lia),λe1 he1=>?_⟩;have s10:Same H9 (upd H9 e1 (.lst [.int x'])):=Same.new he1;have e10:upd H9 e1 (.lst [.int x']) e1=some (.lst [.int x']):=Gb;generalize upd H9 e1 (.lst [.int x'])=H10 at s10 e10 ⊢;refine ⟨pa,e1,_,_,rfl,rfl,s10 _ _ (s9 _ _ epa8),e10,by rw [List.length_map,List.length_singleton];lia,λnp hnp=>?_⟩;have s11:Same H10 (upd H10 np (.lst (pl.map V.int++[.int x']))):=Same.new hnp;have e11:upd H10 np (.lst (pl.map V.int++[.int x'])) np=some (.lst ((pl++[x']).map V.int)):=by rw [Gb,List.map_append];rfl
       have hDn:Dc≠np:=Gm (s10 _ _ eD9) hnp;have hn8:H8 np=none:=(s9.trans s10).free hnp;generalize upd H10 np (.lst (pl.map V.int++[.int x']))=H11 at s11 e11 ⊢;have S11:=s10.trans s11;refine ⟨S11 _ _ eD9,by rw [List.length_map];lia,(s9.trans S11).put hDc,Gb,cz++[(np,pl++[x'])],by rw [List.map_append];rfl,λz hz=>?_,λz hz=>?_,?_⟩
       ·rcases List.mem_append.mp hz with hz | hz
        ·exact Gq (S11 _ _ (l9 z hz)) (f9 z hz).1
        ·rw [List.mem_singleton.mp hz];exact Gq e11 (Ne.symm hDn)
       ·rcases List.mem_append.mp hz with hz | hz
        ·exact f9 z hz
        ·rw [List.mem_singleton.mp hz];exact ⟨Ne.symm hDn,hn8⟩
       ·rw [List.map_append,m9,hstep,List.filter_append,List.map_append,List.filter_cons,if_pos hz2]
        rfl
      ·refine ⟨s9,eD9,cz,rfl,l9,f9,?_⟩;rw [m9,hstep,List.filter_append,List.map_append,List.filter_cons,if_neg hz2];simp
    ·rintro ys H9 ⟨s9,eD9,cz,rfl,l9,f9,m9⟩;rw [List.length_map,List.take_length] at m9;have ep9:=s9 _ _ ep8;have ew9:=s9 _ _ ew8;have lcz:cz.length<=k.toNat:=by
      have h1:cz.length=(cz.map (·.2)).length:=by rw [List.length_map]
      rw [h1,m9,List.length_map];refine Nat.le_trans (List.length_filter_le _ _) (G4 (k:=k.toNat) ndb λy hy=>?_);have:=Ug g ((hnb y).mp hy)
      lia
     refine ⟨pn,Dc,_,_,rfl,rfl,ep9,eD9,by rw [List.length_map,List.length_map];lia,?_⟩;have s29:=s27.trans s9;have hczpn:∀z∈cz,z.1≠pn:=λz hz e=>by
      have:=(f9 z hz).2;rw [e,ep8] at this;cases this
     have hczwa:∀z∈cz,z.1≠wa:=λz hz e=>by
      have:=(f9 z hz).2;rw [e,ew8] at this;cases this
     rw [<-hla] at he hnb;refine ⟨X5 k.toNat ((Pr++cz).map (·.2)),?_,_,_,Wz,Pr++cz,rfl,s29.put hpn2,Gq ew9 hwp,?_,(lw7.same (s8.trans s9)).put λz hz=>(fr z (List.mem_append_left _ hz)).2.1,?_,λz hz=>?_,?_,l301,λj z hj=>?_,rfl⟩
     ·rw [List.map_append,m9,emap];exact Zae g hB he ndb hnb ng8
     ·rw [Gb,List.map_append]
     ·refine Lz.put (λz hz=>?_) λz hz=>?_
      ·rcases List.mem_append.mp hz with hz | hz
       ·exact s9 _ _ (s8 _ _ (lpr z hz))
       ·exact l9 z hz
      ·rcases List.mem_append.mp hz with hz | hz
       ·exact (fr z (by simp [hz])).2.1
       ·exact hczpn z hz
     ·simp only [List.mem_append] at hz;rcases hz with hz | hz | hz
      ·exact fr z (by simp [hz])
      ·exact fr z (by simp [hz])
      ·exact ⟨hczwa z hz,hczpn z hz,s27.free (f9 z hz).2⟩
     ·rw [List.map_append,m9];exact dfs.grow g he ndb hnb me8 ng8 cl8
     ·rcases Nat.lt_or_ge j Pr.length with h | h
      ·rw [List.getElem?_append_left h] at hj;refine jn j z ?_;rw [List.getElem?_append_left h];exact hj
      ·rw [List.getElem?_append_right h] at hj;have hjl:=(List.getElem?_eq_some_iff.mp hj).1;have hz2:z.2∈cz.map (·.2):=List.mem_map.mpr ⟨z,List.mem_of_getElem? hj,rfl⟩;rw [m9] at hz2;obtain ⟨x,_,ex⟩:=List.mem_map.mp hz2;rw [<-ex,List.length_append,List.length_singleton,Nat.mul_add,Nat.mul_one]
       lia
end
end M
namespace M
open PySem L2
def JX (rs:List (Int×Int))(c:Bool)(ns:List Int):List Int:=((Gj ns c).map (VX rs)).mergeSort λa b=>decide (a<=b)
theorem J5 (rs:List (Int×Int))(c:Bool)(ns:List Int):(JX rs c ns).Perm ((Gj ns c).map (VX rs)):=List.mergeSort_perm _ _
theorem Ur (rs:List (Int×Int))(c:Bool)(ns:List Int):(JX rs c ns).Pairwise (· <= ·):=by
 refine (List.pairwise_mergeSort (le:=λa b:Int=>decide (a<=b)) (λa b c h1 h2=>?_) (λa b=>?_) _).imp λh=>of_decide_eq_true h
 ·have h1:=of_decide_eq_true h1;have h2:=of_decide_eq_true h2;exact decide_eq_true (by lia)
 ·by_cases h:a<=b
  ·simp [h]
  ·have:b<=a:=by lia
   simp [this]
theorem Zaf {rs:List (Int×Int)}{c:Bool}{ns ms:List Int}(pm:ms.Perm ((Gj ns c).map (VX rs)))(so:ms.Pairwise (· <= ·)):ms=JX rs c ns:=
 W.ksm_same (pm.trans (J5 rs c ns).symm) so (Ur rs c ns)
theorem Way.ir {k:Int}{rs:List (Int×Int)}{p q:Int}{ns:List Int}(g:Gk k rs)(hp:0<=p/\p<k)(h:Way rs p q ns):∀x∈ns,0<=x/\x<k:=by
 obtain ⟨h1,h2,h3,h4⟩:=h;intro x hx;cases ns with
 | nil=>cases hx
 | cons a tl=>
  have h2:a=p:=h2;subst h2;rcases List.mem_cons.mp hx with rfl | hx
  ·exact hp
  ·obtain ⟨j,hj⟩:=List.mem_iff_getElem?.mp hx;have hlt:=(List.getElem?_eq_some_iff.mp hj).1;have:((a::tl)[j]'(by rw [List.length_cons];lia),x)∈Gj (a::tl) false:=by
    unfold Gj;rw [if_neg Bool.false_ne_true,List.append_nil];refine List.mem_iff_getElem?.mpr ⟨j,List.getElem?_zip_eq_some.mpr ⟨List.getElem?_eq_getElem _,?_⟩⟩;show tl[j]?=some x;exact hj
   exact Ug g (h4.1 _ this)
theorem Way.len {k:Int}{rs:List (Int×Int)}{p q:Int}{ns:List Int}(g:Gk k rs)(hp:0<=p/\p<k)(h:Way rs p q ns):ns.length<=16:=by
 have:=G4 (k:=k.toNat) h.2.2.2.2 λx hx=>by have:=h.ir g hp x hx;lia
 have:=g.2.1
 lia
section
variable {P:Program}{w:World}{K:W.Frag}{mg:Str->Option Value}{base:Heap}
def Srt (l:List (List Int)):Prop:=l.Pairwise λa b=>OK b a=false
def ZeQ (TM:Addr):Sp:=λvs H Q E=>∃(sl:Addr)(zs:List (Addr×List Int)),vs=[.ref sl]/\H sl=some (.lst (zs.map λz=>V.ref z.1))/\Lz H zs /\
 (300<zs.length->E (.ref TM) none H)/\(zs.length<=300->∀(l:Addr)(zs':List (Addr×List Int)),H l=none->zs'.Perm zs->Srt (zs'.map (·.2))->Q (.ref l) (upd H l (.lst (zs'.map λz=>V.ref z.1))))
theorem ZfQ:Gr ["sets"] ["sets"] (Gc Zdd):=⟨rfl,rfl,rfl,by decide +kernel,rfl,by decide +kernel,by decide +kernel⟩
theorem ZeR {f TM:Addr}{fd:FuncData}{tM:Tok}(F:Fun K "told_sets" "told_sets" Zdd f fd)(mMoW:mg "MOST_WAYS" = some (.int 300 tM))(mTM:mg "TooMany" = some (.ref TM))(xTM:ExcC K TM)(mLen:mg "len" = none)(mSor:mg "sorted" = none) :
  GG P w K mg base (CXr P w) 1 f fd ["sets"] (ZeQ TM):=by
 refine F.okR ZfQ (λvs H Q E h=>?_) (λcdv A outer s H vs Q E hr h=>?_)
 ·obtain ⟨_,_,rfl,_⟩:=h
  rfl
 ·obtain ⟨sl,zs,rfl,hs,lz,h1,h2⟩:=h;have hu:=hr.units;refine ⟨_,Gd (Je (Gw Zcv (Gz (ZbY K) rfl mLen PySem.boot_len (Ga (pv 0) Ge)) (G8 (v:=.int 300) rfl mMoW ⟨_,rfl⟩) (GE _)) (Gf (JM (E:=E) rfl G3 rfl mTM xTM (Ga Jt Ge))) GB)
    (Gf (Gu (Gz (Zc4 K hu) rfl mSor PyProof.Rows.boot_sorted (Ga (pv 0) Ge)))),?_⟩
  refine ⟨_,rfl,sl,_,rfl,.inl (SqL.of hs),_,_,rfl,rfl,_,rfl,?_⟩;rw [List.length_map];by_cases h:300<zs.length
  ·have:decide ((zs.length:Int) > 300)=true:=decide_eq_true (by lia);rw [this];refine Jl ?_;exact ⟨by show 1<=sizeLine;rw [sizeLine_eq];lia,h1 h⟩
  ·have:decide ((zs.length:Int) > 300)=false:=decide_eq_false (by lia);rw [this];refine Js ?_;exact ⟨_,rfl,sl,zs,rfl,SqL.of hs,λz hz=>SqL.of (lz z hz),λl zs' hl p so=>h2 (by lia) l zs' hl p so⟩
end
end M
namespace M
open PySem L2
section
variable {P:Program}{w:World}{K:W.Frag}{mg:Str->Option Value}{base:Heap}
theorem X7 {H:Hp}:∀{xs:List V}{rs:List (Int×Int)},Prs H xs rs->∀i:Nat,Prs H (xs.drop i) (rs.drop i)
 | _,_,.nil,i=>by rw [List.drop_nil,List.drop_nil];exact .nil
 | _,_,.cons e r,0=>.cons e r
 | _,_,.cons _ r,i+1=>by rw [List.drop_succ_cons,List.drop_succ_cons];exact X7 r i
def Wyc (rs:List (Int×Int))(j:Nat)(W:List (List Int)):Prop:=∃t,rs[j]?=some t/\Wys (rs.drop (j+1)) t.1 t.2 W
inductive Rgs (rs:List (Int×Int)):Nat->List (List Int)->Prop
 | nil:Rgs rs 0 []
 | one {j:Nat} {R W:List (List Int)}:Rgs rs j R->R.length<=300->Wyc rs j W->Rgs rs (j+1) (R++W)
def ZeS (TM:Addr):Sp:=λvs H Q E=>∃(wb l:Addr)(k:Int)(xs:List V)(rs:List (Int×Int)),vs=[.ref wb]/\WebAt H wb l k xs rs/\Gk k rs /\
 (∀j R,Rgs rs j R->j<=rs.length->300<R.length->∀H':Hp,Same H H'->E (.ref TM) none H') /\
 (∀R,Rgs rs rs.length R->R.length<=300->∀(l:Addr)(zs:List (Addr×List Int))(H':Hp),Same H H'->H l=none->H' l=some (.lst (zs.map λz=>V.ref z.1))->Lz H' zs->(∀z∈zs,H z.1=none/\z.1≠l)->(zs.map (·.2)).Perm (R.map (JX rs true))->Srt (zs.map (·.2))->Q (.ref l) H')
theorem scEvc:Gr ["web", "sets", "number", "road", "later", "ways"] ["web"] (Gc Zde):=⟨rfl,rfl,rfl,by decide +kernel,rfl,by decide +kernel,by decide +kernel⟩
theorem ZeT {f fWb fTs fR TM:Addr}{dV:Value}{fd fdWb fdTs fdR:FuncData}(F:Fun K "every_closed" "every_closed" Zde f fd)(FWb:Fun K "ways_between" "ways_between" Zce fWb fdWb)(bWb:Binds K fdWb ["web", "one", "other"] [])(mWb:mg "ways_between" = some (.ref fWb))(GWb:GG P w K mg base CX0 4 fWb fdWb ["web", "one", "other"] ZeO)(FTs:Fun K "told_sets" "told_sets" Zdd fTs fdTs)(bTs:Binds K fdTs ["sets"] [])(mTs:mg "told_sets" = some (.ref fTs))(GTs:GG P w K mg base (CXr P w) 1 fTs fdTs ["sets"] (ZeQ TM))(FR:FunD K "roads_of" "roads_of" YN dV fR fdR)(bR:Binds K fdR ["web", "places", "closed"] [])(mR:mg "roads_of" = some (.ref fR))(GR:GG P w K mg base CX0 2 fR fdR ["web", "places", "closed"] Zdj)(mEnum:mg "enumerate" = none) :
  GG P w K mg base (CXr P w) 5 f fd ["web"] (ZeS TM):=by
 refine F.okR scEvc (λvs H Q E h=>?_) (λcdv A outer s H vs Q E hr h=>?_)
 ·obtain ⟨_,_,_,_,_,rfl,_⟩:=h
  rfl
 ·obtain ⟨wb,l,k,xs,rs,rfl,W,g,hm,hl⟩:=h;have h16:(16777216:Nat)=sizeLine:=sizeLine_eq.symm;refine ⟨_,Gd (Gs (i:=1) scEvc.nd rfl (Or.inl rfl) (Jd Ge))
    (Gd (JD PassesOwn.leaving rfl (Wf K rfl mEnum (Ga (GJ (Op K) (pv 0) Gg (λ_ _=>rfl)) Ge)) (WX K (n:=2) rfl (Gv (Gi (i:=2) scEvc.nd rfl (Or.inl rfl)) (Gv (Gi (i:=3) scEvc.nd rfl (Or.inl rfl)) Jb)))
    (Gd (Gs (i:=4) scEvc.nd rfl (Or.inl rfl) (Jo (Ga (GJ (Op K) (pv 0) Gg (λ_ _=>rfl)) (Ga (J9 (kSl K) (GJ (Op K) (pv 0) Gg (λ_ _=>rfl)) (OZ (GF G7 (pv 2) Gg)) OY) Ge))))
    (Gd (Gs (i:=5) scEvc.nd rfl (Or.inl rfl) (Gh GWb (hr.mono (by decide)) rfl mWb FWb.kp bWb .nil GQ (Ga (pv 4) (Ga (GJ (Op K) (pv 3) Gg (λ_ _=>rfl)) (Ga (GJ (Op K) (pv 3) Gg (λ_ _=>rfl)) Ge)))))
    (Gf (Gs (i:=1) scEvc.nd rfl (Or.inl rfl) (Gh GTs (hr.mono (by decide)) rfl mTs FTs.kp bTs .nil We (Ga (GF XE (pv 1) (G9 (own:=["places"]) rfl (Go (fr:=[("web", 0)]) [(".0", .local),("places", .local),("roads_of", .globalImplicit),("web", .cell)] rfl rfl (by decide +kernel) rfl (by decide +kernel) ⟨rfl,trivial⟩ ⟨λh=>GN h,λh=>GN h,λh=>GN h,λ_=>⟨_,rfl⟩,trivial⟩ ⟨⟨rfl,.inl rfl,.inl rfl⟩,trivial⟩) (JV K (pv 5)) (λ_ _ _ _=>Gi (i:=0) (show List.Nodup (["places", "web"]:List Str) by decide +kernel) rfl (Or.inl rfl)) (λ_ _ _ _=>G5) (λ_ _ _ _=>Gh GR (hr.mono (by decide)) rfl mR FR.kp bR .nil GQ (Ga (pv 1) (Ga (pv 0) (Ga Uh Ge)))))) Ge)))))))
    (Gf (Gu (pv 1)))),?_⟩
  have hx:xs.length<=30:=by rw [W.p.len];exact g.2.2.1
  refine ⟨Nat.zero_le _,λs0 hs0=>?_⟩;have s1:Same H (upd H s0 (.lst [])):=Same.new hs0;refine ⟨_,rfl,wb,_,_,_,rfl,rfl,SqT.of (s1 _ _ W.w),Gx (j:=1) rfl,l,xs,rfl,SqL.of (s1 _ _ W.l),?_⟩;refine Od (K:=K) (a:=l) (xs:=xs) (λi σ H2=>∃(v2 v3 v4 v5:Option V)(sl:Addr)(zs:List (Addr×List Int))(R:List (List Int)),σ=[some (.ref wb),some (.ref sl),v2,v3,v4,v5]/\Same H H2/\H sl=none/\H2 sl=some (.lst (zs.map λz=>V.ref z.1))/\Lz H2 zs/\(∀z∈zs,H z.1=none/\z.1≠sl)/\Rgs rs i R/\R.length<=300/\(zs.map (·.2)).Perm (R.map (JX rs true))/\Srt (zs.map (·.2)))
   ⟨none,none,none,none,s0,[],[],rfl,s1,hs0,Gb,λz hz=>(by cases hz),λz hz=>(by cases hz),.nil,by simp,.refl _,.nil⟩ (λi σ H2 _ ⟨_,_,_,_,_,_,_,_,s2,_⟩=>SqL.of (s2 _ _ W.l)) ?_ ?_
  ·rintro i x σ H2 T hxi ⟨v2,v3,v4,v5,sl,zs,R,rfl,s2,hsl,esl,lz,fz,rg,r300,pm,so⟩ hT;obtain ⟨t,r,rfl,et,er⟩:=(W.same s2).p.get hxi;have hi:i<xs.length:=(List.getElem?_eq_some_iff.mp hxi).1;have lzR:zs.length=R.length:=by
    have:=pm.length_eq;rw [List.length_map,List.length_map] at this;exact this
   have s23:Same H2 (upd H2 T (.tup [.int (i:Nat),.ref t])):=Same.new hT;refine ⟨T,_,rfl,SqT.of Gb,rfl,_,_,rfl,_,_,rfl,rfl,?_⟩;generalize upd H2 T (.tup [.int (i:Nat),.ref t])=H3 at s23 ⊢;have s3:=s2.trans s23;have W3:=W.same s3;refine ⟨_,rfl,wb,_,_,_,rfl,rfl,SqT.of W3.w,Gx (j:=0) rfl,_,rfl,wb,_,_,_,rfl,rfl,SqT.of W3.w,Gx (j:=1) rfl,_,rfl,_,_,rfl,rfl,_,rfl,l,xs,rfl,SqL.of W3.l,λla hla=>⟨JF,λlt hlt=>?_⟩⟩;dsimp only [G0];have ecut:WL xs (some ((i:Int)+1)) none=xs.drop (i+1):=by
    have:=XM (xs:=xs) (k:=i+1);rw [<-this]
    congr 1
   have hla':=hla;rw [ecut] at hlt ⊢;have s4:Same H3 (upd H3 la (.lst (xs.drop (i+1)))):=Same.new hla;have e4:upd H3 la (.lst (xs.drop (i+1))) la=some (.lst (xs.drop (i+1))):=Gb;generalize upd H3 la (.lst (xs.drop (i+1)))=H4 at s4 e4 hlt ⊢;have s5:Same H4 (upd H4 lt (.tup [.int k,.ref la])):=Same.new hlt;have e5:upd H4 lt (.tup [.int k,.ref la]) lt=some (.tup [.int k,.ref la]):=Gb;generalize upd H4 lt (.tup [.int k,.ref la])=H5 at s5 e5 ⊢;have s35:=s4.trans s5;have S5:=s3.trans s35;have hr:r∈rs:=List.mem_of_getElem? er;have gr:=g.2.2.2.1 r hr;have en:Ends k r.1 r.2:=⟨⟨by lia,by lia⟩,⟨by lia,by lia⟩,by lia⟩;have g':Gk k (rs.drop (i+1)):=⟨g.1,g.2.1,by have:=g.2.2.1;rw [List.length_drop];lia,λy hy=>g.2.2.2.1 y (List.mem_of_mem_drop hy),g.2.2.2.2.sublist (List.drop_sublist _ _)⟩;have W5:WebAt H5 lt la k (xs.drop (i+1)) (rs.drop (i+1)):=⟨e5,s5 _ _ e4,X7 (W.same S5).p (i+1)⟩;have et5:=s35 _ _ (s23 _ _ et);refine ⟨_,rfl,_,rfl,t,_,_,_,rfl,rfl,SqT.of et5,Gx (j:=0) rfl,_,rfl,t,_,_,_,rfl,rfl,SqT.of et5,Gx (j:=1) rfl,?_⟩;refine ⟨lt,la,k,r.1,r.2,_,_,rfl,W5,g',en,λwa ws H6 s6 hwa ewa lw fw wy=>?_⟩;dsimp only [G0];have lws:ws.length<=301:=by have:=wy.ln;rw [List.length_map] at this;exact this
   have S6:=S5.trans s6;have s26:=s23.trans (s35.trans s6);have sub:∀y∈rs.drop (i+1),y∈rs:=λy hy=>List.mem_of_mem_drop hy;refine ⟨_,rfl,_,rfl,wa,rfl,⟨_,SqL.of ewa⟩,λD hD=>?_⟩;refine GS (K:=K) (a:=wa) (xs:=ws.map λz=>V.ref z.1) (λj ys H7=>Same H6 H7/\H7 D=some (.lst ys)/\∃cz:List (Addr×List Int),ys=cz.map (λz=>V.ref z.1)/\Lz H7 cz/\(∀z∈cz,z.1≠D/\H6 z.1=none)/\cz.map (·.2)=((ws.take j).map (·.2)).map (JX rs true)) ⟨Same.new hD,Gb,[],rfl,λz hz=>(by cases hz),λz hz=>(by cases hz),rfl⟩ (λj ys H7 _ ⟨s7,_⟩=>SqL.of (s7 _ _ ewa)) ?_ ?_
   ·rintro j x ys H7 hxj ⟨s7,eD7,cz,rfl,l7,f7,m7⟩;rw [List.getElem?_map] at hxj;cases hz:ws[j]? with
    | none=>rw [hz] at hxj;cases hxj
    | some z=>
     rw [hz] at hxj;cases hxj;have hzm:z∈ws:=List.mem_of_getElem? hz;have hw:Way (rs.drop (i+1)) r.1 r.2 z.2:=wy.ww z.2 (List.mem_map.mpr ⟨z,hzm,rfl⟩);have hstep:ws.take (j+1)=ws.take j++[z]:=by rw [List.take_add_one,hz];rfl
     have lcz:cz.length<=301:=by
      have h1:cz.length=(cz.map (·.2)).length:=by rw [List.length_map]
      rw [h1,m7,List.length_map,List.length_map,List.length_take]
      lia
     refine ⟨⟨rfl,trivial⟩,?_⟩;unfold Ys;refine Jl ?_;refine ⟨_,rfl,_,rfl,wb,l,z.1,k,xs,rs,z.2,true,rfl,W.same (S6.trans s7),g,s7 _ _ (lw z hzm),by have:=hw.len g' en.1;lia,λ_=>hw.1,?_,λre ms H8 s8 hre ere pm' so'=>?_⟩
     ·intro y hy;unfold Gj at hy;rw [if_pos rfl] at hy;rcases List.mem_append.mp hy with hy | hy
      ·refine VO sub (hw.2.2.2.1 y ?_);unfold Gj;rw [if_neg Bool.false_ne_true,List.append_nil];exact hy
      ·rw [List.mem_singleton.mp hy];show Adj rs (z.2.getD (z.2.length-1) 0) (z.2.getD 0 0);rw [hw.2.1,hw.2.2.1];exact .inr hr
     have hDr:D≠re:=λe=>by rw [<-e,eD7] at hre;cases hre
     refine ⟨s8 _ _ eD7,by rw [List.length_map];lia,(s7.trans s8).put hD,Gb,cz++[(re,ms)],by rw [List.map_append];rfl,λy hy=>?_,λy hy=>?_,?_⟩
     ·rcases List.mem_append.mp hy with hy | hy
      ·exact Gq (s8 _ _ (l7 y hy)) (f7 y hy).1
      ·rw [List.mem_singleton.mp hy];exact Gq ere (Ne.symm hDr)
     ·rcases List.mem_append.mp hy with hy | hy
      ·exact f7 y hy
      ·rw [List.mem_singleton.mp hy];exact ⟨Ne.symm hDr,s7.free hre⟩
     ·rw [List.map_append,m7,hstep,List.map_append,List.map_append,Zaf pm' so']
      rfl
   ·rintro ys H7 ⟨s7,eD7,cz,rfl,l7,f7,m7⟩;rw [List.length_map,List.take_length] at m7;have S7:=S6.trans s7;have s27:=s26.trans s7;have lc:cz.length=ws.length:=by
     have:=congrArg List.length m7;rw [List.length_map,List.length_map,List.length_map] at this;exact this
    refine ⟨sl,D,_,_,rfl,rfl,s27 _ _ esl,eD7,by rw [List.length_map,List.length_map];lia,λca hca=>?_⟩;have s8:Same H7 (upd H7 ca (.lst ((zs.map λz=>V.ref z.1)++(cz.map λz=>V.ref z.1)))):=Same.new hca;have e8:upd H7 ca (.lst ((zs.map λz=>V.ref z.1)++(cz.map λz=>V.ref z.1))) ca=some (.lst ((zs++cz).map λz=>V.ref z.1)):=by rw [Gb,List.map_append]
    generalize upd H7 ca (.lst ((zs.map λz=>V.ref z.1)++(cz.map λz=>V.ref z.1)))=H8 at s8 e8 ⊢;have l8:Lz H8 (zs++cz):=λy hy=>by
     rcases List.mem_append.mp hy with hy | hy
     ·exact s8 _ _ (s27 _ _ (lz y hy))
     ·exact s8 _ _ (l7 y hy)
    have f8:∀y∈zs++cz,H y.1=none:=λy hy=>by
     rcases List.mem_append.mp hy with hy | hy
     ·exact (fz y hy).1
     ·exact S6.free (f7 y hy).2
    have rg':Rgs rs (i+1) (R++ws.map (·.2)):=rg.one r300 ⟨r,er,wy⟩;have pm8:((zs++cz).map (·.2)).Perm ((R++ws.map (·.2)).map (JX rs true)):=by
     rw [List.map_append,List.map_append,m7];exact pm.append_right _
    have ln8:(zs++cz).length=(R++ws.map (·.2)).length:=by rw [List.length_append,List.length_append,List.length_map,lzR,lc]
    refine ⟨ca,zs++cz,rfl,e8,l8,λh3=>hm (i+1) _ rg' (by have:=W.p.len;lia) (by lia) H8 (S7.trans s8),λh3 rl zs' hrl pm' so'=>?_⟩;have S8:=S7.trans s8;refine ⟨_,_,_,_,rl,zs',R++ws.map (·.2),rfl,S8.put (S8.free hrl),S8.free hrl,Gb,λy hy=>?_,λy hy=>?_,rg',by lia,(pm'.map _).trans pm8,so'⟩
    ·have hy':=pm'.mem_iff.mp hy;exact Gq (l8 y hy') λe=>by rw [<-e,l8 y hy'] at hrl;cases hrl
    ·have hy':=pm'.mem_iff.mp hy;exact ⟨f8 y hy',λe=>by rw [<-e,l8 y hy'] at hrl;cases hrl⟩
  ·rintro σ H2 ⟨v2,v3,v4,v5,sl,zs,R,rfl,s2,hsl,esl,lz,fz,rg,r300,pm,so⟩;rw [W.p.len] at rg;exact ⟨_,rfl,hl R rg r300 sl zs H2 s2 hsl esl lz fz pm so⟩
end
end M
namespace M
open PySem L2
section
variable {P:Program}{w:World}{K:W.Frag}{mg:Str->Option Value}{base:Heap}
theorem Zdp {p:Nat}{a:Int}(h:a.natAbs<2 ^ p:=by decide +kernel):Lt2 p a:=h
def ZeU (K:W.Frag):Sp:=λvs H Q _=>∃(a:Addr)(ns:List Int)(k:Nat),vs=[.ref a,.int (k:Int)]/\SqL K H a (ns.map V.int)/\∀z:Int,Q (.int z) H
theorem ZfR:Gr ["script", "k"] ["script", "k"] (Gc Zdf):=⟨rfl,rfl,rfl,by decide +kernel,rfl,by decide +kernel,by decide +kernel⟩
theorem ZeV {f:Addr}{fd:FuncData}(F:Fun K "_law_cell_at" "_law_cell_at" Zdf f fd)(mLen:mg "len" = none):GG P w K mg base CX0 1 f fd ["script", "k"] (ZeU K):=by
 refine F.ok ZfR (λvs H Q E h=>?_) (λcdv A outer s H vs Q E hr h=>?_)
 ·obtain ⟨_,_,_,rfl,_⟩:=h
  rfl
 ·obtain ⟨a,ns,k,rfl,hS,q⟩:=h;refine ⟨_,Gd (Je (Gw Vk (pv 1) (Gz (ZbY K) rfl mLen PySem.boot_len (Ga (pv 0) Ge)) (GE _)) (Gf (Gu (GJ (UR K) (pv 0) (pv 1) (λ_ _=>rfl)))) GB)
    (Gf (Gu Gg)),?_⟩
  refine ⟨_,rfl,_,rfl,a,_,rfl,.inl hS,_,_,rfl,rfl,_,rfl,?_⟩;rw [List.length_map];refine Uk (λz=>?_) (λ_=>q 0);have z':=of_decide_eq_true z;exact ⟨_,rfl,_,rfl,a,_,_,_,rfl,rfl,hS,JU (by lia) z',q _⟩
end
end M
namespace M
open PySem L2
def VR (rs:List (Int×Int))(x:Int):Nat->Int
 | 0=>-1
 | j+1=>if (rs.getD j (0,0)).1=x\/(rs.getD j (0,0)).2=x then (j:Int) else VR rs x j
theorem X8 (rs:List (Int×Int))(x:Int){i:Nat}(h:(rs.getD i (0,0)).1=x\/(rs.getD i (0,0)).2=x):∀j:Nat,i<j->(i:Int)<=VR rs x j
 | 0,hi=>by lia
 | j+1,hi=>by
  unfold VR;split
  ·lia
  ·rename_i hn;rcases Nat.lt_or_ge i j with q | q
   ·exact X8 rs x h j q
   ·have:i=j:=by lia
    subst this;exact absurd h hn
def VS (rs:List (Int×Int))(x:Int):Int:=VR rs x rs.length
theorem Zbx {rs:List (Int×Int)}{j:Nat}(hj:j<rs.length){p:Int}(h:(rs.getD j (0,0)).1=p\/(rs.getD j (0,0)).2=p):(j:Int)<=VS rs p:=X8 rs p h rs.length hj
def gA (m:List Int)(p:Int):Int:=m.getD p.toNat 0
def Ji (q:Int):Bool:=decide (0<=q\/q=-3\/q=-4)
def JW (q:Int):Bool:=decide (q=-1\/q=-5)
def UT (q:Int):Bool:=decide (¬ (q=-2\/q=-5))
def YL (s t q:Int):Int:=if q=s then -3 else if q=t then -4 else q
def WN (s t:Int)(m:List Int)(a:Int):Int:=if gA m a=-2 then YL s t a else gA m a
def pW1 (m:List Int)(r:Int×Int)(fa fb:Int):List Int:=
 let c1:=(m.set r.1.toNat (-1)).set r.2.toNat (-1)
 let c2:=if 0<=fa then c1.set fa.toNat fb else c1
 if 0<=fb then c2.set fb.toNat fa else c2
abbrev nE:Int:=-9
def pC (s t:Int)(m:List Int)(r:Int×Int):List Int:=if gA m r.1=r.2 then (m.set r.1.toNat (-1)).set r.2.toNat (-1) else pW1 m r (WN s t m r.1) (WN s t m r.2)
def O9 (s t:Int)(m:List Int)(r:Int×Int):Option (List Int):=
 if m.getD (m.length-1) 0=0\/JW (gA m r.1)=true\/JW (gA m r.2)=true then none
 else if gA m r.1=r.2\/(WN s t m r.1<0/\WN s t m r.2<0) then (if (pC s t m r).any Ji=true then none else some ((pC s t m r).set (m.length-1) 0))
 else some (pC s t m r)
def YM (m lv nd:List Int):Option (List Int):=
 if lv=[] then some m else if (lv.any λp=>Ji (gA m p))=true\/(nd.all λp=>UT (gA m p))=false then none else some (lv.foldl (λm p=>m.set p.toNat (-2)) m)
def VY (rs:List (Int×Int))(j:Nat):List Int:=[(rs.getD j (0,0)).1,(rs.getD j (0,0)).2].filter λp=>decide (VS rs p=(j:Int))
def Zfe (s t:Int)(lv:List Int):List Int:=lv.filter λp=>decide (p=s\/p=t)
def X9 (rs:List (Int×Int))(s t:Int)(m:List Int)(j:Nat)(ch:Bool):Option (List Int):=
 (if ch=true then O9 s t m (rs.getD j (0,0)) else some m).bind λm'=>YM m' (VY rs j) (Zfe s t (VY rs j))
theorem UM (s t q:Int):(q=s/\YL s t q=-3)\/(q≠s/\q=t/\YL s t q=-4)\/(q≠s/\q≠t/\YL s t q=q):=by
 unfold YL;by_cases h1:q=s
 ·exact .inl ⟨h1,if_pos h1⟩
 ·by_cases h2:q=t
  ·exact .inr (.inl ⟨h1,h2,by rw [if_neg h1,if_pos h2]⟩)
  ·exact .inr (.inr ⟨h1,h2,by rw [if_neg h1,if_neg h2]⟩)
end M
namespace M
open PySem L2
section
variable {P:Program}{w:World}{K:W.Frag}{mg:Str->Option Value}{base:Heap}
def EndD (H:Hp)(e:Addr)(s t:Int):Prop:=s=nE/\t=nE/\∃o,H e=some (.frz o (.dK []))
theorem EndD.same {H H':Hp}{e:Addr}{s t:Int}(h:EndD H e s t)(q:Same H H'):EndD H' e s t:=⟨h.1,h.2.1,h.2.2.imp λ_ z=>q _ _ z⟩
theorem EndD.get {H:Hp}{e:Addr}{s t:Int}(h:EndD H e s t)(p:Int)(p0:0<=p):DGet H e (.int p) (if p=s then some (.int (-3)) else if p=t then some (.int (-4)) else none):=by
 obtain ⟨rfl,rfl,o,e⟩:=h;have n:¬ p=nE:=λz=>by have:p=-9:=z;lia
 rw [if_neg n,if_neg n];exact .inl ⟨_,.inl p,.inr ⟨o,e⟩,rfl,rfl⟩
def ZfS (K:W.Frag):Sp:=λvs H Q _=>∃(m:Addr)(ms:List Int),vs=[.ref m]/\SqT K H m (ms.map V.int)/\ms≠[]/\Q (.bl (decide (ms.getD (ms.length-1) 0=0))) H
theorem Zhx:Gr ["marks"] ["marks"] (Gc sId):=⟨rfl,rfl,rfl,by decide +kernel,rfl,by decide +kernel,by decide +kernel⟩
theorem ZeW {ns:List Int}(h:ns≠[]):atI (ns.map V.int) (-1)=some (.int (ns.getD (ns.length-1) 0)):=by
 have hp:0<ns.length:=List.length_pos_iff.mpr h;have e:ixN (ns.map V.int).length (-1)=some (ns.length-1):=by
  unfold ixN;rw [if_neg (by decide),List.length_map,if_pos (by lia)]
  congr 1
  lia
 unfold atI;rw [e];show (ns.map V.int)[ns.length-1]?=_;rw [List.getElem?_map,List.getD_eq_getElem?_getD,List.getElem?_eq_getElem (show ns.length-1<ns.length by lia)]
 rfl
theorem JH {i j:Int}:decide (V.int i=V.int j)=decide (i=j):=by
 by_cases h:i=j
 ·rw [decide_eq_true h,decide_eq_true (by rw [h])]
 ·rw [decide_eq_false h,decide_eq_false λz=>h (V.int.inj z)]
theorem ZfT {f:Addr}{fd:FuncData}(F:Fun K "is_done" "is_done" sId f fd){u0:Tok}(mDONE:mg "DONE" = some (.int 0 u0)):GG P w K mg base CX0 1 f fd ["marks"] (ZfS K):=by
 refine F.ok Zhx (λvs H Q E h=>?_) (λcdv A outer s0 H vs Q E hr h=>?_)
 ·obtain ⟨_,_,rfl,_⟩:=h
  rfl
 ·obtain ⟨m,ms,rfl,hm,hne,q⟩:=h;refine ⟨_,Gf (Gu (JJ UQ (GJ (Op K) (pv 0) (Vj JO Gg) (λ_ _=>rfl)) (G8 (v:=.int (0)) rfl mDONE ⟨_,rfl⟩) (GE _))),?_⟩;refine ⟨_,rfl,_,rfl,m,_,_,_,rfl,rfl,hm,ZeW hne,rfl,?_⟩;rw [JH];exact q
def Xr (g:Int->Bool):Sp:=λvs H Q _=>∃q:Int,vs=[.int q]/\∀H',Same H H'->Q (.bl (g q)) H'
theorem ZfU (q a b:Int):inV (.int q) [.int a,.int b]=decide (q=a\/q=b):=by
 rw [show decide (q=a\/q=b)=decide (a=q\/b=q) from decide_eq_decide.mpr ⟨λh=>h.imp Eq.symm Eq.symm,λh=>h.imp Eq.symm Eq.symm⟩];unfold inV;by_cases h1:a=q <;> by_cases h2:b=q <;> simp [eqV,h1,h2]
theorem Zhy:Gr ["mark"] ["mark"] (Gc sIl):=⟨rfl,rfl,rfl,by decide +kernel,rfl,by decide +kernel,by decide +kernel⟩
theorem ZfV {f:Addr}{fd:FuncData}(F:Fun K "is_loose" "is_loose" sIl f fd){u3 u4:Tok}(mFIRST:mg "FIRST" = some (.int (-3) u3))(mSECOND:mg "SECOND" = some (.int (-4) u4)):GG P w K mg base CX0 1 f fd ["mark"] (Xr Ji):=by
 refine F.ok Zhy (λvs H Q E h=>?_) (λcdv A outer s0 H vs Q E hr h=>?_)
 ·obtain ⟨_,rfl,_⟩:=h
  rfl
 ·obtain ⟨x,rfl,q⟩:=h;refine ⟨_,Gf (Gu (Zfj (JJ ZaI (pv 0) Gg (GE _)) (ZbP (JJ (kIn K) (pv 0) (Jo (Ga (G8 (v:=.int (-3)) rfl mFIRST ⟨_,rfl⟩) (Ga (G8 (v:=.int (-4)) rfl mSECOND ⟨_,rfl⟩) Ge))) (by with_unfolding_all rfl))))),?_⟩;refine ⟨_,rfl,_,_,rfl,rfl,_,rfl,?_⟩;unfold Ji at q;by_cases h0:0<=x
  ·rw [decide_eq_true h0];refine Jl ?_;have:=q H (Same.refl _);rw [decide_eq_true (.inl h0)] at this;exact this
  ·rw [decide_eq_false h0];refine Js ?_;refine ⟨_,rfl,JF,λp hp=>⟨p,_,rfl,.inr (SqT.of Gb),rfl,rfl,?_⟩⟩;show Q (.bl (inV (.int x) [.int (-3),.int (-4)])) _;rw [ZfU];have:=q _ (Same.new (o:=.tup [.int (-3),.int (-4)]) hp);rw [show decide (0<=x\/x=-3\/x=-4)=decide (x=-3\/x=-4) from decide_eq_decide.mpr ⟨λz=>z.resolve_left h0,.inr⟩] at this;exact this
theorem Zhz:Gr ["mark"] ["mark"] (Gc sIf):=⟨rfl,rfl,rfl,by decide +kernel,rfl,by decide +kernel,by decide +kernel⟩
theorem ZfW {f:Addr}{fd:FuncData}(F:Fun K "is_full" "is_full" sIf f fd){u1 u5:Tok}(mUSED:mg "USED" = some (.int (-1) u1))(mBARRED:mg "BARRED" = some (.int (-5) u5)):GG P w K mg base CX0 1 f fd ["mark"] (Xr JW):=by
 refine F.ok Zhz (λvs H Q E h=>?_) (λcdv A outer s0 H vs Q E hr h=>?_)
 ·obtain ⟨_,rfl,_⟩:=h
  rfl
 ·obtain ⟨x,rfl,q⟩:=h;refine ⟨_,Gf (Gu (JJ (kIn K) (pv 0) (Jo (Ga (G8 (v:=.int (-1)) rfl mUSED ⟨_,rfl⟩) (Ga (G8 (v:=.int (-5)) rfl mBARRED ⟨_,rfl⟩) Ge))) (by with_unfolding_all rfl))),?_⟩;refine ⟨_,rfl,JF,λp hp=>⟨p,_,rfl,.inr (SqT.of Gb),rfl,rfl,?_⟩⟩;show Q (.bl (inV (.int x) [.int (-1),.int (-5)])) _;rw [ZfU];exact q _ (Same.new hp)
theorem ZhA:Gr ["mark"] ["mark"] (Gc sIm):=⟨rfl,rfl,rfl,by decide +kernel,rfl,by decide +kernel,by decide +kernel⟩
theorem ZfX {f:Addr}{fd:FuncData}(F:Fun K "is_met" "is_met" sIm f fd){u2 u5:Tok}(mFREE:mg "FREE" = some (.int (-2) u2))(mBARRED:mg "BARRED" = some (.int (-5) u5)):GG P w K mg base CX0 1 f fd ["mark"] (Xr UT):=by
 refine F.ok ZhA (λvs H Q E h=>?_) (λcdv A outer s0 H vs Q E hr h=>?_)
 ·obtain ⟨_,rfl,_⟩:=h
  rfl
 ·obtain ⟨x,rfl,q⟩:=h;refine ⟨_,Gf (Gu (JJ (Zf K) (pv 0) (Jo (Ga (G8 (v:=.int (-2)) rfl mFREE ⟨_,rfl⟩) (Ga (G8 (v:=.int (-5)) rfl mBARRED ⟨_,rfl⟩) Ge))) (by with_unfolding_all rfl))),?_⟩;refine ⟨_,rfl,JF,λp hp=>⟨p,_,rfl,.inr (SqT.of Gb),rfl,rfl,?_⟩⟩;show Q (.bl (!inV (.int x) [.int (-2),.int (-5)])) _;rw [ZfU];have:=q _ (Same.new (o:=.tup [.int (-2),.int (-5)]) hp);unfold UT at this;rw [decide_not] at this;exact this
def ZgQ (K:W.Frag):Sp:=λvs H Q _=>∃(m e:Addr)(ms:List Int)(p s t:Int),vs=[.ref m,.int p,.ref e]/\SqT K H m (ms.map V.int)/\0<=p/\p<ms.length/\EndD H e s t/\Q (.int (WN s t ms p)) H
theorem ZhB:Gr ["marks", "place", "ends"] ["marks", "place", "ends"] (Gc sFe):=⟨rfl,rfl,rfl,by decide +kernel,rfl,by decide +kernel,by decide +kernel⟩
theorem ZfY {f:Addr}{fd:FuncData}(F:Fun K "far_end" "far_end" sFe f fd){u2:Tok}(mFREE:mg "FREE" = some (.int (-2) u2)):GG P w K mg base CX0 1 f fd ["marks", "place", "ends"] (ZgQ K):=by
 refine F.ok ZhB (λvs H Q E h=>?_) (λcdv A outer s0 H vs Q E hr h=>?_)
 ·obtain ⟨_,_,_,_,_,_,rfl,_⟩:=h
  rfl
 ·obtain ⟨m,e,ms,p,s,t,rfl,hm,p0,p1,he,q⟩:=h;have hu1:(A.deeper (PyProof.Rows.envOfC "far_end" (Gc sFe) s0.heap.objs.size f cdv)).units+1<cLine:=by have:=hr.un;lia
  refine ⟨_,Gf (Gu (Uj (Gw UQ (GJ (Op K) (pv 0) (pv 1) (λ_ _=>rfl)) (G8 (v:=.int (-2)) rfl mFREE ⟨_,rfl⟩) (GE _)) (XQ hu1 (pv 2) (pv 1) (pv 1) ⟨rfl,rfl,rfl,rfl⟩) (GJ (Op K) (pv 0) (pv 1) (λ_ _=>rfl)))),?_⟩;refine ⟨_,rfl,_,rfl,m,_,_,_,rfl,rfl,hm,JU p0 p1,rfl,_,rfl,?_⟩;rw [JH];unfold WN at q;refine Uk (λz=>?_) (λz=>?_)
  ·rw [if_pos (show gA ms p=-2 from of_decide_eq_true z)] at q;obtain ⟨_,_,o,e1⟩:=id he;refine ⟨_,rfl,e,rfl,.inl ⟨_,.inr ⟨o,e1⟩⟩,_,rfl,_,rfl,_,he.get p p0,?_⟩;unfold YL at q;by_cases h1:p=s
   ·rw [if_pos h1] at q ⊢;exact q
   ·rw [if_neg h1] at q ⊢;by_cases h2:p=t
    ·rw [if_pos h2] at q ⊢;exact q
    ·rw [if_neg h2] at q ⊢;exact q
  ·rw [if_neg (show ¬ gA ms p=-2 from λy=>z (decide_eq_true y))] at q;exact ⟨_,rfl,_,rfl,m,_,_,_,rfl,rfl,hm,JU p0 p1,q⟩
theorem UN {n:Nat}{i:Int}(h0:0<=i)(h1:i<n):ixN n i=some i.toNat:=by
 unfold ixN;rw [if_pos h0,if_pos h1]
theorem map_set {ms:List Int}{n:Nat}{v:Int}:(ms.map V.int).set n (.int v)=(ms.set n v).map V.int:=by
 rw [List.map_set]
def ZgR:Sp:=λvs H Q _=>∃(m r e:Addr)(ms:List Int)(a b s t:Int),vs=[.ref m,.ref r,.ref e]/\H m=some (.tup (ms.map V.int))/\H r=some (.tup [.int a,.int b])/\EndD H e s t/\0<=a/\a<b/\b+1<ms.length/\(∀q∈ms,q+1<(ms.length:Int))/\ms.length<=1000 /\
 (∀H':Hp,Same H H'->O9 s t ms (a,b)=none->Q .non H')/\(∀(T:Addr)(m':List Int)(H':Hp),Same H H'->H T=none->H' T=some (.tup (m'.map V.int))->O9 s t ms (a,b)=some m'->Q (.ref T) H')
theorem scWr:Gr ["marks", "road", "ends", "a", "b", "rounds", "far_a", "far_b", "changed"] ["marks", "road", "ends"] (Gc sWr):=⟨rfl,rfl,rfl,by decide +kernel,rfl,by decide +kernel,by decide +kernel⟩
theorem Zcm {ms:List Int}{s t p:Int}(p0:0<=p)(p1:p+1<ms.length)(h:∀q∈ms,q+1<(ms.length:Int)):WN s t ms p+1<ms.length:=by
 unfold WN;split
 ·rcases UM s t p with ⟨_,e⟩ | ⟨_,_,e⟩ | ⟨_,_,e⟩ <;> lia
 ·exact h _ (Oh (by lia))
theorem ZfZ {f fId fIf fFe fIl:Addr}{fd fdId fdIf fdFe fdIl:FuncData}(F:Fun K "with_road" "with_road" sWr f fd)(FId:Fun K "is_done" "is_done" sId fId fdId)(bId:Binds K fdId ["marks"] [])(mId:mg "is_done" = some (.ref fId))(GId:GG P w K mg base CX0 1 fId fdId ["marks"] (ZfS K))(FIf:Fun K "is_full" "is_full" sIf fIf fdIf)(bIf:Binds K fdIf ["mark"] [])(mIf:mg "is_full" = some (.ref fIf))(GIf:GG P w K mg base CX0 1 fIf fdIf ["mark"] (Xr JW))(FFe:Fun K "far_end" "far_end" sFe fFe fdFe)(bFe:Binds K fdFe ["marks", "place", "ends"] [])(mFe:mg "far_end" = some (.ref fFe))(GFe:GG P w K mg base CX0 1 fFe fdFe ["marks", "place", "ends"] (ZgQ K))(FIl:Fun K "is_loose" "is_loose" sIl fIl fdIl)(bIl:Binds K fdIl ["mark"] [])(mIl:mg "is_loose" = some (.ref fIl))(GIl:GG P w K mg base CX0 1 fIl fdIl ["mark"] (Xr Ji)){u0 u1:Tok}(mDONE:mg "DONE" = some (.int 0 u0))(mUSED:mg "USED" = some (.int (-1) u1))(mLst:mg "list" = none)(mAny:mg "any" = none)(mTup:mg "tuple" = none):GG P w K mg base CX0 2 f fd ["marks", "road", "ends"] ZgR:=by
 refine F.ok scWr (λvs H Q E h=>?_) (λcdv A outer s0 H vs Q E hr h=>?_)
 ·obtain ⟨_,_,_,_,_,_,_,_,rfl,_⟩:=h
  rfl
 ·obtain ⟨m,r,e,ms,a,b,s,t,rfl,hm,hr',he,a0,ab,bk,qY,qV,qn,qs⟩:=h;have h16:(16777216:Nat)=sizeLine:=sizeLine_eq.symm;have hne:ms≠[]:=λz=>by rw [z] at bk;simp at bk;lia
  refine ⟨_,Gd (JZ (pv 1) (WX K (n:=2) rfl (Gv (Gi (i:=3) scWr.nd rfl (Or.inl rfl)) (Gv (Gi (i:=4) scWr.nd rfl (Or.inl rfl)) Jb))))
    (Gd (Gs (i:=5) scWr.nd rfl (Or.inl rfl) (JJ UQ (GJ (Op K) (pv 0) (pv 3) (λ_ _=>rfl)) (pv 4) (GE _)))
    (Gd (Je (PW.pt (Uv (JR (Gh GId (hr.mono (by decide)) rfl mId FId.kp bId .nil GQ (Ga (pv 0) Ge))) (Uv (JR (Gh GIf (hr.mono (by decide)) rfl mIf FIf.kp bIf .nil GQ (Ga (GJ (Op K) (pv 0) (pv 3) (λ_ _=>rfl)) Ge))) (Uv (JR (Gh GIf (hr.mono (by decide)) rfl mIf FIf.kp bIf .nil GQ (Ga (GJ (Op K) (pv 0) (pv 4) (λ_ _=>rfl)) Ge))) (Ut (PW.pt (Uu (Ju (pv 5) (λ_=>rfl)) (Ot (ZN (pv 2) (λ_=>rfl)))))))))) (Gf (Gu UU)) GB)
    (Gd (Gs (i:=6) scWr.nd rfl (Or.inl rfl) (Gh GFe (hr.mono (by decide)) rfl mFe FFe.kp bFe .nil GQ (Ga (pv 0) (Ga (pv 3) (Ga (pv 2) Ge)))))
    (Gd (Gs (i:=7) scWr.nd rfl (Or.inl rfl) (Gh GFe (hr.mono (by decide)) rfl mFe FFe.kp bFe .nil GQ (Ga (pv 0) (Ga (pv 4) (Ga (pv 2) Ge)))))
    (Gd (Gs (i:=8) scWr.nd rfl (Or.inl rfl) (Jp (Vp K) rfl mLst J0 (Ga (pv 0) Ge)))
    (Gd (JZ (G8 (v:=.int (-1)) rfl mUSED ⟨_,rfl⟩) (UV (pv 8) (pv 3) Oa))
    (Gd (JZ (G8 (v:=.int (-1)) rfl mUSED ⟨_,rfl⟩) (UV (pv 8) (pv 4) Oa))
    (Gd (Je (PW.pt (Uu (Ub (Ju (pv 5) (λ_=>rfl))) (Ot (Gw ZaI (pv 6) Gg (GE _))))) (Gf (JZ (pv 7) (UV (pv 8) (pv 6) Oa))) GB)
    (Gd (Je (PW.pt (Uu (Ub (Ju (pv 5) (λ_=>rfl))) (Ot (Gw ZaI (pv 7) Gg (GE _))))) (Gf (JZ (pv 6) (UV (pv 8) (pv 7) Oa))) GB)
    (Gd (Je (PW.pt (Uv (Ju (pv 5) (λ_=>rfl)) (Ut (PW.pt (Uu (Gw Vk (pv 6) Gg (GE _)) (Ot (Gw Vk (pv 7) Gg (GE _)))))))) (Gd (Je (JR (Gz (ZgN K rfl) rfl mAny X0 (Ga (G9 (own:=["mark"]) rfl (Jx (by decide +kernel) (by decide +kernel) rfl (by decide +kernel)) (JV K (pv 8)) (λ_ _ _ _=>Gi (i:=0) (show List.Nodup (["mark"]:List Str) by decide +kernel) rfl (Or.inl rfl)) (λ_ _ _ _=>G5) (λ_ _ _ _=>Gh GIl (hr.mono (by decide)) rfl mIl FIl.kp bIl .nil GQ (Ga (pv 0) Ge))) Ge))) (Gf (Gu UU)) GB)
    (Gf (JZ (G8 (v:=.int (0)) rfl mDONE ⟨_,rfl⟩) (UV (pv 8) (Vj JO Gg) Oa)))) GB)
    (Gf (Gu (Jp (ZP K) rfl mTup O2 (Ga (pv 8) Ge)))))))))))))),?_⟩
  refine ⟨_,rfl,r,_,rfl,SqT.of hr',rfl,_,_,rfl,_,_,rfl,rfl,?_⟩
  try dsimp only [G0]
  refine JN (λσ' H'=>σ'=[some (.ref m),some (.ref r),some (.ref e),some (.int a),some (.int b),some (.bl (decide (gA ms a=b))),none,none,none]/\H'=H) ?r2 ?r1
  case r1=>
   intro hk;refine ⟨_,rfl,_,rfl,m,_,_,_,rfl,rfl,SqT.of hm,JU a0 (by lia),_,rfl,rfl,?_⟩;rw [JH];exact hk _ _ ⟨rfl,rfl⟩
  rintro σ' H' ⟨rfl,rfl⟩;have ret:(ms.getD (ms.length-1) 0=0\/JW (gA ms a)=true\/JW (gA ms b)=true)->∀H2,Same H' H2->Q .non H2:=λz H2 s2=>qn H2 s2 (by unfold O9;rw [if_pos z]);refine JN (λσ'' H2=>σ''=[some (.ref m),some (.ref r),some (.ref e),some (.int a),some (.int b),some (.bl (decide (gA ms a=b))),none,none,none]/\Same H' H2/\¬ (ms.getD (ms.length-1) 0=0\/JW (gA ms a)=true\/JW (gA ms b)=true)) ?f2 ?f1
  case f1=>
   intro hk;refine ⟨_,rfl,m,ms,rfl,SqT.of hm,hne,_,rfl,?_⟩;by_cases c1:ms.getD (ms.length-1) 0=0
   ·rw [decide_eq_true c1];exact Jl (Jl (ret (.inl c1) _ (Same.refl _)))
   rw [decide_eq_false c1];refine Js ?_;refine ⟨_,rfl,_,rfl,m,_,_,_,rfl,rfl,SqT.of hm,JU a0 (by lia),_,rfl,λH2 s2=>⟨_,rfl,?_⟩⟩;by_cases c2:JW (gA ms a)=true
   ·rw [show JW (ms.getD a.toNat 0)=true from c2];exact Jl (Jl (ret (.inr (.inl c2)) _ s2))
   rw [show JW (ms.getD a.toNat 0)=false from by cases z:JW (gA ms a);exact z;exact absurd z c2];refine Js ?_;refine ⟨_,rfl,_,rfl,m,_,_,_,rfl,rfl,SqT.of (s2 _ _ hm),JU (by lia) (by lia),_,rfl,λH3 s3=>⟨_,rfl,?_⟩⟩;have s23:=s2.trans s3;by_cases c3:JW (gA ms b)=true
   ·rw [show JW (ms.getD b.toNat 0)=true from c3];exact Jl (Jl (ret (.inr (.inr c3)) _ s23))
   rw [show JW (ms.getD b.toNat 0)=false from by cases z:JW (gA ms b);exact z;exact absurd z c3];refine Js ?_;refine ⟨_,rfl,_,rfl,?_⟩;have hno:¬ (ms.getD (ms.length-1) 0=0\/JW (gA ms a)=true\/JW (gA ms b)=true):=λz=>z.elim c1 λz=>z.elim c2 c3;by_cases c4:gA ms a=b
   ·rw [decide_eq_true c4];obtain ⟨_,_,o,e1⟩:=id he;refine Jl ⟨_,rfl,e,_,rfl,.inr ⟨o,s23 _ _ e1⟩,?_⟩;exact Js (hk _ _ ⟨by rw [decide_eq_true c4],s23,hno⟩)
   ·rw [decide_eq_false c4];refine Js (Js ?_);exact hk _ _ ⟨by rw [decide_eq_false c4],s23,hno⟩
  rintro σ'' H2 ⟨rfl,s2,hno⟩;have hm2:=s2 _ _ hm;have he2:=he.same s2;refine ⟨_,rfl,_,rfl,_,rfl,m,e,ms,a,s,t,rfl,SqT.of hm2,a0,by lia,he2,?_⟩;refine ⟨_,rfl,_,rfl,_,rfl,m,e,ms,b,s,t,rfl,SqT.of hm2,by lia,by lia,he2,?_⟩;refine ⟨_,rfl,m,_,rfl,.inr (SqT.of hm2),λc hc=>?_⟩;have fal:=Zcm (s:=s) (t:=t) a0 (show a+1<ms.length by lia) qY;have fbl:=Zcm (s:=s) (t:=t) (show 0<=b by lia) bk qY;have ev:O9 s t ms (a,b)=(if gA ms a=b\/(WN s t ms a<0/\WN s t ms b<0) then (if (pC s t ms (a,b)).any Ji=true then none else some ((pC s t ms (a,b)).set (ms.length-1) 0)) else some (pC s t ms (a,b))):=by
   unfold O9;rw [if_neg hno]
  rw [ev] at qn qs;clear ev ret;have hpc:pC s t ms (a,b)=if gA ms a=b then (ms.set a.toNat (-1)).set b.toNat (-1) else pW1 ms (a,b) (WN s t ms a) (WN s t ms b):=rfl
  rw [hpc] at qn qs;clear hpc;generalize hfa:WN s t ms a=fa at *;generalize hfb:WN s t ms b=fb at *;have hmc:Same H' (upd H2 c (.lst (ms.map V.int))):=s2.put (s2.free hc);have hc0:H' c=none:=s2.free hc
  try dsimp only [G0]
  refine ⟨_,rfl,_,rfl,c,_,a,_,rfl,rfl,Gb,UN a0 (by rw [List.length_map];lia),?_⟩;rw [Us,map_set];refine ⟨_,rfl,_,rfl,c,_,b,_,rfl,rfl,Gb,UN (by lia) (by rw [List.length_map,List.length_set];lia),?_⟩;rw [Us,map_set];dsimp only;obtain ⟨c3,hc3,l3⟩:∃c3,(if gA ms a=b then (ms.set a.toNat (-1)).set b.toNat (-1) else pW1 ms (a,b) fa fb)=c3/\c3.length=ms.length:=⟨_,rfl,by
   split
   ·simp only [List.length_set]
   ·unfold pW1;dsimp only;split <;> split <;> simp only [List.length_set]⟩
  rw [hc3] at qn qs;refine JN (λσ' H3=>σ'=[some (.ref m),some (.ref r),some (.ref e),some (.int a),some (.int b),some (.bl (decide (gA ms a=b))),some (.int fa),some (.int fb),some (.ref c)]/\H3=upd H2 c (.lst ((if gA ms a=b then (ms.set a.toNat (-1)).set b.toNat (-1) else if 0<=fa then ((ms.set a.toNat (-1)).set b.toNat (-1)).set fa.toNat fb else (ms.set a.toNat (-1)).set b.toNat (-1)).map V.int))) ?g2 ?g1
  case g1=>
   intro hk;by_cases c4:gA ms a=b
   ·rw [decide_eq_true c4] at hk ⊢;rw [if_pos c4] at hk;exact ⟨_,rfl,_,rfl,Js (Js (hk _ _ ⟨rfl,rfl⟩))⟩
   rw [decide_eq_false c4] at hk ⊢;rw [if_neg c4] at hk;refine ⟨_,rfl,_,rfl,Jl ⟨_,rfl,_,_,rfl,rfl,_,rfl,?_⟩⟩;by_cases z:0<=fa
   ·rw [decide_eq_true z];refine Jl ⟨_,rfl,_,rfl,_,rfl,c,_,fa,_,rfl,rfl,Gb,UN z (by rw [List.length_map,List.length_set,List.length_set];lia),?_⟩;rw [Us,map_set];exact hk _ _ ⟨rfl,by rw [if_pos z]⟩
   ·rw [decide_eq_false z];exact Js (hk _ _ ⟨rfl,by rw [if_neg z]⟩)
  rintro σ' H3 ⟨rfl,rfl⟩;have l2:(if gA ms a=b then (ms.set a.toNat (-1)).set b.toNat (-1) else if 0<=fa then ((ms.set a.toNat (-1)).set b.toNat (-1)).set fa.toNat fb else (ms.set a.toNat (-1)).set b.toNat (-1)).length=ms.length:=by split <;> (try split) <;> simp only [List.length_set]
  refine JN (λσ' H3=>σ'=[some (.ref m),some (.ref r),some (.ref e),some (.int a),some (.int b),some (.bl (decide (gA ms a=b))),some (.int fa),some (.int fb),some (.ref c)]/\H3=upd H2 c (.lst (c3.map V.int))) ?h2 ?h1
  case h1=>
   intro hk;rw [<-hc3] at hk;by_cases c4:gA ms a=b
   ·rw [decide_eq_true c4] at hk ⊢;rw [if_pos c4] at hk ⊢;exact ⟨_,rfl,_,rfl,Js (Js (hk _ _ ⟨rfl,rfl⟩))⟩
   rw [decide_eq_false c4] at hk ⊢;rw [if_neg c4] at hk l2 ⊢;refine ⟨_,rfl,_,rfl,Jl ⟨_,rfl,_,_,rfl,rfl,_,rfl,?_⟩⟩;by_cases z:0<=fb
   ·rw [decide_eq_true z];refine Jl ⟨_,rfl,_,rfl,_,rfl,c,_,fb,_,rfl,rfl,Gb,UN z (by rw [List.length_map,l2];lia),?_⟩;rw [Us,map_set];exact hk _ _ ⟨rfl,by unfold pW1;dsimp only;rw [if_pos z]⟩
   ·rw [decide_eq_false z];exact Js (hk _ _ ⟨rfl,by unfold pW1;dsimp only;rw [if_neg z]⟩)
  rintro σ' H3 ⟨rfl,rfl⟩;clear hc3;have sc:∀ys,Same H' (upd H2 c ys):=λys=>s2.put hc0;have fin:∀(H4:Hp)(m':List Int),Same H' H4->H4 c=some (.lst (m'.map V.int))->m'.length=ms.length->(if gA ms a=b\/(fa<0/\fb<0) then (if c3.any Ji=true then none else some (c3.set (ms.length-1) 0)) else some c3)=some m'->∀T,H4 T=none->Q (.ref T) (upd H4 T (.tup (m'.map V.int))):=λH4 m' s4 e4 _ em T hT=>qs T m' _ (s4.put (s4.free hT)) (s4.free hT) Gb em;refine JN (λσ' H4=>∃m':List Int,σ'=[some (.ref m),some (.ref r),some (.ref e),some (.int a),some (.int b),some (.bl (decide (gA ms a=b))),some (.int fa),some (.int fb),some (.ref c)]/\Same H' H4/\H4 c=some (.lst (m'.map V.int))/\m'.length=ms.length/\(if gA ms a=b\/(fa<0/\fb<0) then (if c3.any Ji=true then none else some (c3.set (ms.length-1) 0)) else some c3)=some m') ?k2 ?k1
  case k2=>
   rintro σ' H4 ⟨m',rfl,s4,e4,l4,em⟩;exact ⟨_,rfl,c,_,rfl,.inl ⟨SqL.of e4,λT hT=>fin H4 m' s4 e4 l4 em T hT⟩⟩
  case k1=>
   intro hk;have notb:¬ (gA ms a=b\/(fa<0/\fb<0))->∃m':List Int,[some (V.ref m),some (.ref r),some (.ref e),some (.int a),some (.int b),some (.bl (decide (gA ms a=b))),some (.int fa),some (.int fb),some (.ref c)]=[some (.ref m),some (.ref r),some (.ref e),some (.int a),some (.int b),some (.bl (decide (gA ms a=b))),some (.int fa),some (.int fb),some (.ref c)]/\Same H' (upd H2 c (.lst (c3.map V.int)))/\upd H2 c (.lst (c3.map V.int)) c=some (.lst (m'.map V.int))/\m'.length=ms.length/\(if gA ms a=b\/(fa<0/\fb<0) then (if c3.any Ji=true then none else some (c3.set (ms.length-1) 0)) else some c3)=some m':=
    λz=>⟨c3,rfl,sc _,Gb,l3,by rw [if_neg z]⟩
   by_cases c4:gA ms a=b
   ·rw [decide_eq_true c4];rw [decide_eq_true c4] at hk;rw [decide_eq_true c4] at notb;refine ⟨_,rfl,_,rfl,Jl (Jl ?_)⟩;have zc:gA ms a=b\/(fa<0/\fb<0):=.inl c4;rw [if_pos zc] at qn;refine ⟨_,rfl,c,rfl,⟨_,SqL.of Gb⟩,λD hD=>?_⟩;have ecD:c≠D:=λz=>by rw [<-z,Gb] at hD;cases hD
    refine GS (K:=K) (a:=c) (xs:=c3.map V.int) (λi ys H4=>Same (upd H2 c (.lst (c3.map V.int))) H4/\H4 D=some (.lst ys)/\ys=((c3.take i).map Ji).map V.bl) ⟨Same.new hD,Gb,rfl⟩ (λi ys H4 _ ⟨s4,_⟩=>SqL.of (s4 _ _ Gb)) ?_ ?_
    ·rintro i x ys H4 hxi ⟨s4,hD4,rfl⟩;have hi:i<(c3.map V.int).length:=(List.getElem?_eq_some_iff.mp hxi).1;rw [List.length_map] at hi;rw [List.getElem?_map] at hxi;cases y:c3[i]? with
     | none=>rw [y] at hxi;cases hxi
     | some x1=>
      rw [y] at hxi;cases hxi;refine ⟨trivial,?_⟩;unfold Ys;refine Jl ?_;refine ⟨_,rfl,x1,rfl,λH5 s5=>⟨s5 _ _ hD4,by rw [List.length_map,List.length_map,List.length_take];lia,(s4.trans s5).put hD,Gb,?_⟩⟩;rw [List.take_add_one,y,List.map_append,List.map_append]
      rfl
    ·rintro ys H4 ⟨s4,hD4,rfl⟩;rw [List.length_map,List.take_length] at hD4;refine ⟨D,_,rfl,SqL.of hD4,_,rfl,?_⟩;rw [List.any_map,show (id∘Ji)=Ji from rfl];have s04:=(sc (.lst (c3.map V.int))).trans s4;by_cases z3:c3.any Ji=true
     ·rw [z3];exact Jl (qn _ s04 (by rw [if_pos z3]))
     ·rw [show c3.any Ji=false from by cases y:c3.any Ji;rfl;exact absurd y z3];refine Js ?_;refine ⟨_,rfl,_,rfl,c,_,-1,ms.length-1,rfl,rfl,s4 _ _ Gb,?_,?_⟩
      ·unfold ixN;rw [if_neg (by decide),List.length_map,l3,if_pos (by lia)]
       congr 1
       lia
      ·rw [map_set];exact hk _ _ ⟨_,rfl,s04.put hc0,Gb,by rw [List.length_set,l3],by rw [if_pos zc,if_neg z3]⟩
   rw [decide_eq_false c4];rw [decide_eq_false c4] at hk;rw [decide_eq_false c4] at notb;refine ⟨_,rfl,_,rfl,Js ⟨_,rfl,_,_,rfl,rfl,_,rfl,?_⟩⟩;by_cases z1:fa<0
   ·rw [decide_eq_true z1];refine Jl ⟨_,rfl,_,_,rfl,rfl,_,rfl,?_⟩;by_cases z2:fb<0
    ·rw [decide_eq_true z2];refine Jl ?_;have zc:gA ms a=b\/(fa<0/\fb<0):=.inr ⟨z1,z2⟩;rw [if_pos zc] at qn;refine ⟨_,rfl,c,rfl,⟨_,SqL.of Gb⟩,λD hD=>?_⟩;have ecD:c≠D:=λz=>by rw [<-z,Gb] at hD;cases hD
     refine GS (K:=K) (a:=c) (xs:=c3.map V.int) (λi ys H4=>Same (upd H2 c (.lst (c3.map V.int))) H4/\H4 D=some (.lst ys)/\ys=((c3.take i).map Ji).map V.bl) ⟨Same.new hD,Gb,rfl⟩ (λi ys H4 _ ⟨s4,_⟩=>SqL.of (s4 _ _ Gb)) ?_ ?_
     ·rintro i x ys H4 hxi ⟨s4,hD4,rfl⟩;have hi:i<(c3.map V.int).length:=(List.getElem?_eq_some_iff.mp hxi).1;rw [List.length_map] at hi;rw [List.getElem?_map] at hxi;cases y:c3[i]? with
      | none=>rw [y] at hxi;cases hxi
      | some x1=>
       rw [y] at hxi;cases hxi;refine ⟨trivial,?_⟩;unfold Ys;refine Jl ?_;refine ⟨_,rfl,x1,rfl,λH5 s5=>⟨s5 _ _ hD4,by rw [List.length_map,List.length_map,List.length_take];lia,(s4.trans s5).put hD,Gb,?_⟩⟩;rw [List.take_add_one,y,List.map_append,List.map_append]
       rfl
     ·rintro ys H4 ⟨s4,hD4,rfl⟩;rw [List.length_map,List.take_length] at hD4;refine ⟨D,_,rfl,SqL.of hD4,_,rfl,?_⟩;rw [List.any_map,show (id∘Ji)=Ji from rfl];have s04:=(sc (.lst (c3.map V.int))).trans s4;by_cases z3:c3.any Ji=true
      ·rw [z3];exact Jl (qn _ s04 (by rw [if_pos z3]))
      ·rw [show c3.any Ji=false from by cases y:c3.any Ji;rfl;exact absurd y z3];refine Js ?_;refine ⟨_,rfl,_,rfl,c,_,-1,ms.length-1,rfl,rfl,s4 _ _ Gb,?_,?_⟩
       ·unfold ixN;rw [if_neg (by decide),List.length_map,l3,if_pos (by lia)]
        congr 1
        lia
       ·rw [map_set];exact hk _ _ ⟨_,rfl,s04.put hc0,Gb,by rw [List.length_set,l3],by rw [if_pos zc,if_neg z3]⟩
    ·rw [decide_eq_false z2];exact Js (hk _ _ (notb λy=>y.elim c4 λy=>z2 y.2))
   ·rw [decide_eq_false z1];exact Js (Js (hk _ _ (notb λy=>y.elim c4 λy=>z1 y.1)))
end
end M
namespace M
open PySem L2
section
variable {P:Program}{w:World}{K:W.Frag}{mg:Str->Option Value}{base:Heap}
def Zf0:Sp:=λvs H Q _=>∃(m a b:Addr)(ms L N:List Int),vs=[.ref m,.ref a,.ref b]/\H m=some (.tup (ms.map V.int))/\H a=some (.lst (L.map V.int))/\H b=some (.lst (N.map V.int))/\(∀p∈L,0<=p/\p<(ms.length:Int))/\(∀p∈N,0<=p/\p<(ms.length:Int))/\L.length<=100/\N.length<=100/\ms.length<=1000 /\
 (∀H':Hp,Same H H'->YM ms L N=none->Q .non H')/\(∀(T:Addr)(m':List Int)(H':Hp),Same H H'->H' T=some (.tup (m'.map V.int))->YM ms L N=some m'->Q (.ref T) H')
theorem scLb:Gr ["marks", "leaving", "needed", "place", "changed"] ["marks", "leaving", "needed"] (Gc sLb):=⟨rfl,rfl,rfl,by decide +kernel,rfl,by decide +kernel,by decide +kernel⟩
theorem Zag (L:List Int):(L.map V.int).isEmpty=decide (L=[]):=by cases L <;> rfl
theorem Zf1 {f fIl fIm:Addr}{fd fdIl fdIm:FuncData}(F:Fun K "left_behind" "left_behind" sLb f fd)(FIl:Fun K "is_loose" "is_loose" sIl fIl fdIl)(bIl:Binds K fdIl ["mark"] [])(mIl:mg "is_loose" = some (.ref fIl))(GIl:GG P w K mg base CX0 1 fIl fdIl ["mark"] (Xr Ji))(FIm:Fun K "is_met" "is_met" sIm fIm fdIm)(bIm:Binds K fdIm ["mark"] [])(mIm:mg "is_met" = some (.ref fIm))(GIm:GG P w K mg base CX0 1 fIm fdIm ["mark"] (Xr UT)){u2:Tok}(mFREE:mg "FREE" = some (.int (-2) u2))(mLst:mg "list" = none)(mAny:mg "any" = none)(mAll:mg "all" = none)(mTup:mg "tuple" = none):GG P w K mg base CX0 2 f fd ["marks", "leaving", "needed"] Zf0:=by
 refine F.ok scLb (λvs H Q E h=>?_) (λcdv A outer s0 H vs Q E hr h=>?_)
 ·obtain ⟨_,_,_,_,_,_,rfl,_⟩:=h
  rfl
 ·obtain ⟨m,a,b,ms,L,N,rfl,hm,ha,hb,lr,nr,l100,n100,m1000,qn,qs⟩:=h;have h16:(16777216:Nat)=sizeLine:=sizeLine_eq.symm;refine ⟨_,Gd (Je (Ub (Ju (pv 1) (λ_=>rfl))) (Gf (Gu (pv 0))) GB)
    (Gd (Je (PW.pt (Uv (JR (Gz (ZgN K rfl) rfl mAny X0 (Ga (G9 (own:=["place"]) rfl (Go (fr:=[("marks", 0)]) [(".0", .local),("place", .local),("is_loose", .globalImplicit),("marks", .cell)] rfl rfl (by decide +kernel) rfl (by decide +kernel) ⟨rfl,trivial⟩ ⟨λh=>GN h,λh=>GN h,λh=>GN h,λ_=>⟨_,rfl⟩,trivial⟩ ⟨⟨rfl,.inl rfl,.inl rfl⟩,trivial⟩) (JV K (pv 1)) (λ_ _ _ _=>Gi (i:=0) (show List.Nodup (["place", "marks"]:List Str) by decide +kernel) rfl (Or.inl rfl)) (λ_ _ _ _=>G5) (λ_ _ _ _=>Gh GIl (hr.mono (by decide)) rfl mIl FIl.kp bIl .nil GQ (Ga (GJ (Op K) (pv 1) (pv 0) (λ_ _=>rfl)) Ge))) Ge))) (Ut (Ub (JR (Gz (ZgK K rfl) rfl mAll Vr (Ga (G9 (own:=["place"]) rfl (Go (fr:=[("marks", 0)]) [(".0", .local),("place", .local),("is_met", .globalImplicit),("marks", .cell)] rfl rfl (by decide +kernel) rfl (by decide +kernel) ⟨rfl,trivial⟩ ⟨λh=>GN h,λh=>GN h,λh=>GN h,λ_=>⟨_,rfl⟩,trivial⟩ ⟨⟨rfl,.inl rfl,.inl rfl⟩,trivial⟩) (JV K (pv 2)) (λ_ _ _ _=>Gi (i:=0) (show List.Nodup (["place", "marks"]:List Str) by decide +kernel) rfl (Or.inl rfl)) (λ_ _ _ _=>G5) (λ_ _ _ _=>Gh GIm (hr.mono (by decide)) rfl mIm FIm.kp bIm .nil GQ (Ga (GJ (Op K) (pv 1) (pv 0) (λ_ _=>rfl)) Ge))) Ge))))))) (Gf (Gu UU)) GB)
    (Gd (Gs (i:=4) scLb.nd rfl (Or.inl rfl) (Jp (Vp K) rfl mLst J0 (Ga (pv 0) Ge)))
    (Gd (JD PassesOwn.never rfl (JV K (pv 1)) (Gi (i:=3) scLb.nd rfl (Or.inl rfl))
    (Gf (JZ (G8 (v:=.int (-2)) rfl mFREE ⟨_,rfl⟩) (UV (pv 4) (pv 3) Oa))))
    (Gf (Gu (Jp (ZP K) rfl mTup O2 (Ga (pv 4) Ge))))))),?_⟩
  refine ⟨_,rfl,!(L.map V.int).isEmpty,.inl ⟨_,SqL.of ha,rfl⟩,?_⟩;show if (!!(L.map V.int).isEmpty)=true then _ else _
  rw [Bool.not_not,Zag];unfold YM at qn qs;by_cases h0:L=[]
  ·rw [decide_eq_true h0];refine Jl ⟨_,rfl,?_⟩;rw [if_pos h0] at qs;exact qs m ms H (Same.refl _) hm rfl
  rw [decide_eq_false h0];refine Js ?_;rw [if_neg h0] at qn qs;dsimp only [Zcr];refine JN (λσ' H'=>σ'=[some (.ref m),some (.ref a),some (.ref b),none,none]/\Same H H'/\¬ ((L.any λp=>Ji (gA ms p))=true\/(N.all λp=>UT (gA ms p))=false)) ?g2 ?g1
  case g1=>
   intro hk;refine ⟨_,rfl,a,rfl,⟨_,SqL.of ha⟩,λD hD=>?_⟩;refine GS (K:=K) (a:=a) (xs:=L.map V.int) (λi ys H2=>Same H H2/\H2 D=some (.lst ys)/\ys=((L.take i).map λp=>Ji (gA ms p)).map V.bl) ⟨Same.new hD,Gb,rfl⟩ (λi ys H2 _ ⟨s2,_⟩=>SqL.of (s2 _ _ ha)) ?_ ?_
   ·rintro i x ys H2 hxi ⟨s2,hD2,rfl⟩;have hi:i<(L.map V.int).length:=(List.getElem?_eq_some_iff.mp hxi).1;rw [List.length_map] at hi;rw [List.getElem?_map] at hxi;cases y:L[i]? with
    | none=>rw [y] at hxi;cases hxi
    | some p=>
     rw [y] at hxi;cases hxi;obtain ⟨p0,p1⟩:=lr p (List.mem_of_getElem? y);refine ⟨⟨rfl,trivial⟩,?_⟩;unfold Ys;refine Jl ?_;refine ⟨_,rfl,_,rfl,m,_,_,_,rfl,rfl,SqT.of (s2 _ _ hm),JU p0 p1,_,rfl,λH5 s5=>⟨s5 _ _ hD2,by rw [List.length_map,List.length_map,List.length_take];lia,(s2.trans s5).put hD,Gb,?_⟩⟩;rw [List.take_add_one,y,List.map_append,List.map_append]
     rfl
   rintro ys H2 ⟨s2,hD2,rfl⟩;rw [List.length_map,List.take_length] at hD2;refine ⟨D,_,rfl,SqL.of hD2,_,rfl,?_⟩;rw [List.any_map];by_cases z1:(L.any λp=>Ji (gA ms p))=true
   ·rw [show L.any (id∘λp=>Ji (gA ms p))=true from z1];exact Jl (Jl (qn _ s2 (by rw [if_pos (.inl z1)])))
   rw [show L.any (id∘λp=>Ji (gA ms p))=false from by cases y:(L.any λp=>Ji (gA ms p));exact y;exact absurd y z1];refine Js ?_;refine ⟨_,rfl,b,rfl,⟨_,SqL.of (s2 _ _ hb)⟩,λD2 hD'=>?_⟩;refine GS (K:=K) (a:=b) (xs:=N.map V.int) (λi ys H3=>Same H2 H3/\H3 D2=some (.lst ys)/\ys=((N.take i).map λp=>UT (gA ms p)).map V.bl) ⟨Same.new hD',Gb,rfl⟩ (λi ys H3 _ ⟨s3,_⟩=>SqL.of (s3 _ _ (s2 _ _ hb))) ?_ ?_
   ·rintro i x ys H3 hxi ⟨s3,hD3,rfl⟩;have hi:i<(N.map V.int).length:=(List.getElem?_eq_some_iff.mp hxi).1;rw [List.length_map] at hi;rw [List.getElem?_map] at hxi;cases y:N[i]? with
    | none=>rw [y] at hxi;cases hxi
    | some p=>
     rw [y] at hxi;cases hxi;obtain ⟨p0,p1⟩:=nr p (List.mem_of_getElem? y);refine ⟨⟨rfl,trivial⟩,?_⟩;unfold Ys;refine Jl ?_;refine ⟨_,rfl,_,rfl,m,_,_,_,rfl,rfl,SqT.of (s3 _ _ (s2 _ _ hm)),JU p0 p1,_,rfl,λH5 s5=>⟨s5 _ _ hD3,by rw [List.length_map,List.length_map,List.length_take];lia,(s3.trans s5).put hD',Gb,?_⟩⟩;rw [List.take_add_one,y,List.map_append,List.map_append]
     rfl
   rintro ys H3 ⟨s3,hD3,rfl⟩;rw [List.length_map,List.take_length] at hD3;refine ⟨D2,_,rfl,SqL.of hD3,_,rfl,?_⟩;rw [List.all_map];cases z2:(N.all λp=>UT (gA ms p)) with
   | false=>
    rw [show N.all (id∘λp=>UT (gA ms p))=false from z2];exact Jl (qn _ (s2.trans s3) (by rw [if_pos (.inr z2)]))
   | true=>
    rw [show N.all (id∘λp=>UT (gA ms p))=true from z2];exact Js (hk _ _ ⟨rfl,s2.trans s3,λy=>y.elim z1 (λy=>by rw [z2] at y;cases y)⟩)
  rintro σ' H1 ⟨rfl,s1,hno⟩;have hno':¬ ((L.any λp=>Ji (gA ms p))=true\/(N.all λp=>UT (gA ms p))=false):=hno;rw [if_neg hno'] at qs;refine ⟨_,rfl,m,_,rfl,.inr (SqT.of (s1 _ _ hm)),λc hc=>?_⟩;have hc0:H c=none:=s1.free hc;have s2:=s1.put (o:=.lst (ms.map V.int)) hc0;have ha2:=s2 _ _ ha;have hac:a≠c:=Gm (s1 _ _ ha) hc;refine ⟨_,rfl,a,rfl,⟨_,SqL.of ha2⟩,?_⟩;refine OB (K:=K) (a:=a) (xs:=L.map V.int) (λi σ H3=>∃v3:Option V,σ=[some (.ref m),some (.ref a),some (.ref b),v3,some (.ref c)]/\Same H H3/\H3 c=some (.lst (((L.take i).foldl (λm p=>m.set p.toNat (-2)) ms).map V.int))/\((L.take i).foldl (λm p=>m.set p.toNat (-2)) ms).length=ms.length) ⟨none,rfl,s2,Gb,rfl⟩ (λi σ H3 _ ⟨_,_,s3,_⟩=>SqL.of (s3 _ _ ha)) ?_ ?_
  ·rintro i x σ H3 hxi ⟨v3,rfl,s3,e3,l3⟩;rw [List.getElem?_map] at hxi;cases y:L[i]? with
   | none=>rw [y] at hxi;cases hxi
   | some p=>
    rw [y] at hxi;cases hxi;obtain ⟨p0,p1⟩:=lr p (List.mem_of_getElem? y);refine ⟨_,rfl,_,rfl,c,_,p,_,rfl,rfl,e3,UN p0 (by rw [List.length_map,l3];lia),?_⟩;rw [map_set];refine ⟨_,rfl,s3.put hc0,?_,?_⟩
    ·rw [Gb,List.take_add_one,y,List.foldl_append]
     rfl
    ·rw [List.take_add_one,y,List.foldl_append];show (List.set _ _ _).length=_;rw [List.length_set,l3]
  ·rintro σ H3 ⟨v3,rfl,s3,e3,l3⟩;rw [List.length_map,List.take_length] at e3;refine ⟨_,rfl,c,_,rfl,.inl ⟨SqL.of e3,λT hT=>?_⟩⟩;exact qs T _ _ (s3.put (s3.free hT)) Gb rfl
structure StepAt (H:Hp)(x:V)(rs:List (Int×Int))(s t:Int)(j:Nat):Prop where
 ex:∃T r lv nd:Addr,x=.ref T/\H T=some (.tup [.ref r,.ref lv,.ref nd])/\H r=some (.tup [.int (rs.getD j (0,0)).1,.int (rs.getD j (0,0)).2])/\H lv=some (.lst ((VY rs j).map V.int))/\H nd=some (.lst ((Zfe s t (VY rs j)).map V.int))
theorem StepAt.same {H H':Hp}{x:V}{rs:List (Int×Int)}{s t:Int}{j:Nat}(h:StepAt H x rs s t j)(q:Same H H'):StepAt H' x rs s t j:=by
 obtain ⟨T,r,lv,nd,e,h1,h2,h3,h4⟩:=h.ex;exact ⟨T,r,lv,nd,e,q _ _ h1,q _ _ h2,q _ _ h3,q _ _ h4⟩
structure ZgS (rs:List (Int×Int))(j:Nat)(ms:List Int):Prop where
 lt:j<rs.length
 rd:0<=(rs.getD j (0,0)).1/\(rs.getD j (0,0)).1<(rs.getD j (0,0)).2/\(rs.getD j (0,0)).2+1<(ms.length:Int)
 al:∀q∈ms,q+1<(ms.length:Int)
 le:ms.length<=1000
def Zf2:Sp:=λvs H Q _=>∃(m e:Addr)(x:V)(ms:List Int)(rs:List (Int×Int))(s t:Int)(j:Nat)(ch:Bool),vs=[.ref m,x,.ref e,.bl ch]/\H m=some (.tup (ms.map V.int))/\StepAt H x rs s t j/\EndD H e s t/\ZgS rs j ms /\
 (∀H':Hp,Same H H'->X9 rs s t ms j ch=none->Q .non H')/\(∀(T:Addr)(m':List Int)(H':Hp),Same H H'->H' T=some (.tup (m'.map V.int))->X9 rs s t ms j ch=some m'->Q (.ref T) H')
theorem scDe:Gr ["marks", "step", "ends", "chosen", "road", "leaving", "needed", "taken"] ["marks", "step", "ends", "chosen"] (Gc sDe):=⟨rfl,rfl,rfl,by decide +kernel,rfl,by decide +kernel,by decide +kernel⟩
theorem Zby {rs:List (Int×Int)}{j:Nat}{n:Int}(h:0<=(rs.getD j (0,0)).1/\(rs.getD j (0,0)).1<(rs.getD j (0,0)).2/\(rs.getD j (0,0)).2+1<n):(∀p∈VY rs j,0<=p/\p<n)/\(VY rs j).length<=2:=by
 unfold VY;refine ⟨λp hp=>?_,List.length_filter_le _ _⟩;rcases List.mem_cons.mp (List.mem_filter.mp hp).1 with z | z
 ·lia
 ·rcases List.mem_cons.mp z with z | z
  ·lia
  ·cases z
theorem pC_len {s t:Int}{ms:List Int}{r:Int×Int}:(pC s t ms r).length=ms.length:=by
 unfold pC;split
 ·simp only [List.length_set]
 ·unfold pW1;dsimp only;split <;> split <;> simp only [List.length_set]
theorem Zbz {s t:Int}{ms m':List Int}{r:Int×Int}(h:O9 s t ms r=some m'):m'.length=ms.length:=by
 unfold O9 at h;split at h
 ·cases h
 ·split at h
  ·split at h
   ·cases h
   ·cases h;rw [List.length_set,pC_len]
  ·cases h;exact pC_len
theorem Zf3 {f fWr fLb:Addr}{fd fdWr fdLb:FuncData}(F:Fun K "decided" "decided" sDe f fd)(FWr:Fun K "with_road" "with_road" sWr fWr fdWr)(bWr:Binds K fdWr ["marks", "road", "ends"] [])(mWr:mg "with_road" = some (.ref fWr))(GWr:GG P w K mg base CX0 2 fWr fdWr ["marks", "road", "ends"] ZgR)(FLb:Fun K "left_behind" "left_behind" sLb fLb fdLb)(bLb:Binds K fdLb ["marks", "leaving", "needed"] [])(mLb:mg "left_behind" = some (.ref fLb))(GLb:GG P w K mg base CX0 2 fLb fdLb ["marks", "leaving", "needed"] Zf0):GG P w K mg base CX0 3 f fd ["marks", "step", "ends", "chosen"] Zf2:=by
 refine F.ok scDe (λvs H Q E h=>?_) (λcdv A outer s0 H vs Q E hr h=>?_)
 ·obtain ⟨_,_,_,_,_,_,_,_,_,rfl,_⟩:=h
  rfl
 ·obtain ⟨m,e,x,ms,rs,s,t,j,ch,rfl,hm,hs,he,ok,qn,qs⟩:=h;obtain ⟨T,r,lv,nd,rfl,h1,h2,h3,h4⟩:=hs.ex;obtain ⟨lr,ll⟩:=Zby ok.rd;have nr:(Zfe s t (VY rs j)).length<=2:=Nat.le_trans (List.length_filter_le _ _) ll;refine ⟨_,Gd (JZ (pv 1) (WX K (n:=3) rfl (Gv (Gi (i:=4) scDe.nd rfl (Or.inl rfl)) (Gv (Gi (i:=5) scDe.nd rfl (Or.inl rfl)) (Gv (Gi (i:=6) scDe.nd rfl (Or.inl rfl)) Jb)))))
    (Gd (Gs (i:=7) scDe.nd rfl (Or.inl rfl) (Uj (Ju (pv 3) (λ_=>rfl)) (Gh GWr (hr.mono (by decide)) rfl mWr FWr.kp bWr .nil GQ (Ga (pv 0) (Ga (pv 4) (Ga (pv 2) Ge)))) (pv 0)))
    (Gf (Gu (Uj (Gw ZdX (pv 7) UU (GE _)) UU (Gh GLb (hr.mono (by decide)) rfl mLb FLb.kp bLb .nil GQ (Ga (pv 7) (Ga (pv 5) (Ga (pv 6) Ge)))))))),?_⟩
  refine ⟨_,rfl,T,_,rfl,SqT.of h1,rfl,_,_,rfl,_,_,rfl,_,_,rfl,rfl,?_⟩
  try dsimp only [G0]
  unfold X9 at qn qs;have last:∀(T2:Addr)(m2:List Int)(H2:Hp),Same H H2->H2 T2=some (.tup (m2.map V.int))->m2.length=ms.length->(if ch=true then O9 s t ms (rs.getD j (0,0)) else some ms)=some m2 ->
    Zf0 [.ref T2,.ref lv,.ref nd] H2 Q E0:=λT2 m2 H2 s2 e2 l2 em=>by
   rw [em] at qn qs;exact ⟨T2,lv,nd,m2,_,_,rfl,e2,s2 _ _ h3,s2 _ _ h4,by rw [l2];exact lr,λp hp=>by rw [l2];exact lr p (List.mem_filter.mp hp).1,by lia,by lia,by rw [l2];exact ok.le,λH' s' z=>qn H' (s2.trans s') z,λT' m' H' s' e' z=>qs T' m' H' (s2.trans s') e' z⟩
  refine JN (λσ' H'=>∃v:V,σ'=[some (.ref m),some (.ref T),some (.ref e),some (.bl ch),some (.ref r),some (.ref lv),some (.ref nd),some v]/\Same H H'/\((v=.non/\(if ch=true then O9 s t ms (rs.getD j (0,0)) else some ms)=none)\/∃(T2:Addr)(m2:List Int),v=.ref T2/\H' T2=some (.tup (m2.map V.int))/\m2.length=ms.length/\(if ch=true then O9 s t ms (rs.getD j (0,0)) else some ms)=some m2)) ?g2 ?g1
  case g1=>
   intro hk;refine ⟨_,rfl,_,rfl,?_⟩;cases ch with
   | true=>
    refine Jl ?_;refine ⟨_,rfl,_,rfl,_,rfl,m,r,e,ms,_,_,s,t,rfl,hm,h2,he,ok.rd.1,ok.rd.2.1,ok.rd.2.2,ok.al,ok.le,λH' s' z=>?_,λT2 m2 H' s' _ e2 z=>?_⟩
    ·exact hk _ _ ⟨_,rfl,s',.inl ⟨rfl,by rw [if_pos rfl];exact z⟩⟩
    ·exact hk _ _ ⟨_,rfl,s',.inr ⟨T2,m2,rfl,e2,Zbz z,by rw [if_pos rfl];exact z⟩⟩
   | false=>
    refine Js ?_;exact ⟨_,rfl,hk _ _ ⟨_,rfl,Same.refl _,.inr ⟨m,ms,rfl,hm,rfl,by rw [if_neg Bool.false_ne_true]⟩⟩⟩
  rintro σ' H' ⟨v,rfl,s',⟨rfl,z⟩ | ⟨T2,m2,rfl,e2,l2,z⟩⟩
  ·refine ⟨_,rfl,rfl,_,rfl,Jl ?_⟩;exact qn H' s' (by rw [z];rfl)
  ·refine ⟨_,rfl,rfl,_,rfl,?_⟩;rw [decide_eq_false (by intro z;cases z)];refine Js ?_;exact ⟨_,rfl,_,rfl,_,rfl,last T2 m2 H' s' e2 l2 z⟩
end
end M
namespace M
open PySem L2
section
variable {P:Program}{w:World}{K:W.Frag}{mg:Str->Option Value}{base:Heap}
def LastD (H:Hp)(d:Addr)(rs:List (Int×Int)):Prop:=∃kvs,H d=some (.dK kvs)/\∀x:Int,J1 kvs (.inl x)=if 0<=VS rs x then some (.int (VS rs x)) else none
theorem LastD.same {H H':Hp}{d:Addr}{rs:List (Int×Int)}(h:LastD H d rs)(q:Same H H'):LastD H' d rs:=h.imp λ_ z=>⟨q _ _ z.1,z.2⟩
def ZgT:Sp:=λvs H Q _=>∃(wb l:Addr)(k:Int)(xs:List V)(rs:List (Int×Int)),vs=[.ref wb]/\WebAt H wb l k xs rs/\rs.length<=100/\∀(d:Addr)(H':Hp),Same H H'->H d=none->LastD H' d rs->Q (.ref d) H'
theorem scLr:Gr ["web", "last", "number", "road"] ["web"] (Gc sLr):=⟨rfl,rfl,rfl,by decide +kernel,rfl,by decide +kernel,by decide +kernel⟩
theorem Zf4 {f:Addr}{fd:FuncData}(F:Fun K "last_roads" "last_roads" sLr f fd)(mEnum:mg "enumerate" = none):GG P w K mg base CX0 1 f fd ["web"] ZgT:=by
 refine F.ok scLr (λvs H Q E h=>?_) (λcdv A outer s0 H vs Q E hr h=>?_)
 ·obtain ⟨_,_,_,_,_,rfl,_⟩:=h
  rfl
 ·obtain ⟨wb,l,k,xs,rs,rfl,W,hx,q⟩:=h;have hu1:(A.deeper (PyProof.Rows.envOfC "last_roads" (Gc sLr) s0.heap.objs.size f cdv)).units+1<cLine:=by have:=hr.un;lia
  have h16:(16777216:Nat)=sizeLine:=sizeLine_eq.symm;have hxl:=W.p.len;refine ⟨_,Gd (Gs (i:=1) scLr.nd rfl (Or.inl rfl) ZaW)
    (Gd (JD PassesOwn.never rfl (Wf K rfl mEnum (Ga (GJ (Op K) (pv 0) Gg (λ_ _=>rfl)) Ge)) (WX K (n:=2) rfl (Gv (Gi (i:=2) scLr.nd rfl (Or.inl rfl)) (Gv (Gi (i:=3) scLr.nd rfl (Or.inl rfl)) Jb)))
    (Gd (Ow hu1 (pv 1) (GJ (Op K) (pv 3) Gg (λ_ _=>rfl)) (pv 2) rfl)
    (Gf (Ow hu1 (pv 1) (GJ (Op K) (pv 3) Gg (λ_ _=>rfl)) (pv 2) rfl))))
    (Gf (Gu (pv 1)))),?_⟩
  refine λd hd=>?_;have s1:Same H (upd H d (.dK [])):=Same.new hd;refine ⟨_,rfl,wb,_,_,_,rfl,rfl,SqT.of (s1 _ _ W.w),Gx (j:=1) rfl,l,xs,rfl,SqL.of (s1 _ _ W.l),?_⟩;refine Od (K:=K) (a:=l) (xs:=xs) (λi σ H2=>∃(v2 v3:Option V)(kvs:List (Key×V)),σ=[some (.ref wb),some (.ref d),v2,v3]/\Same H H2/\H2 d=some (.dK kvs)/\kvs.length<=2 * i/\∀x:Int,J1 kvs (.inl x)=if 0<=VR rs x i then some (.int (VR rs x i)) else none)
   ⟨none,none,[],rfl,s1,Gb,Nat.zero_le _,λx=>by unfold VR;rw [if_neg (by decide)];rfl⟩ (λi σ H2 _ ⟨_,_,_,_,s2,_⟩=>SqL.of (s2 _ _ W.l)) ?_ ?_
  ·rintro i x σ H2 T hxi ⟨v2,v3,kvs,rfl,s2,e2,len,val⟩ hT;obtain ⟨t,r,rfl,et,er⟩:=(W.same s2).p.get hxi;have hi:i<xs.length:=(List.getElem?_eq_some_iff.mp hxi).1;have s3:Same H (upd H2 T (.tup [.int (i:Nat),.ref t])):=s2.put (s2.free hT);have s23:Same H2 (upd H2 T (.tup [.int (i:Nat),.ref t])):=Same.new hT;have hdT:d≠T:=Gm e2 hT;have htd:t≠d:=JY et e2 (λz=>by cases z);refine ⟨T,_,rfl,SqT.of Gb,rfl,_,_,rfl,_,_,rfl,rfl,?_⟩;refine ⟨_,rfl,_,rfl,_,rfl,t,_,_,_,rfl,rfl,SqT.of (s23 _ _ et),Gx (j:=0) rfl,d,_,rfl,DPut.k (k:=Sum.inl r.1) (Gq e2 hdT) (by lia),?_⟩;have hl1:=Jc kvs (Sum.inl r.1) (.int (i:Nat));refine ⟨_,rfl,_,rfl,_,rfl,t,_,_,_,rfl,rfl,SqT.of (Gq (s23 _ _ et) htd),Gx (j:=1) rfl,d,_,rfl,DPut.k (k:=Sum.inl r.2) Gb (by lia),?_⟩;have hl2:=Jc (O3 kvs (Sum.inl r.1) (.int (i:Nat))) (Sum.inl r.2) (.int (i:Nat));refine ⟨_,_,_,rfl,((s3.put hd).put hd),Gb,by lia,λy=>?_⟩;rw [Um,Um,val y];have e:rs.getD i (0,0)=r:=by rw [List.getD_eq_getElem?_getD,er];rfl
   show _=if 0<=(if (rs.getD i (0,0)).1=y\/(rs.getD i (0,0)).2=y then (i:Int) else VR rs y i) then some (V.int (if (rs.getD i (0,0)).1=y\/(rs.getD i (0,0)).2=y then (i:Int) else VR rs y i)) else none
   rw [e];by_cases h2:y=r.2
   ·rw [if_pos (by rw [h2]),if_pos (show r.1=y\/r.2=y from .inr h2.symm),if_pos (by lia)]
   ·rw [if_neg (λz=>h2 (Sum.inl.inj z))];by_cases h1:y=r.1
    ·rw [if_pos (by rw [h1]),if_pos (show r.1=y\/r.2=y from .inl h1.symm),if_pos (by lia)]
    ·rw [if_neg (λz=>h1 (Sum.inl.inj z)),if_neg (show ¬ (r.1=y\/r.2=y) from λz=>z.elim (λz=>h1 z.symm) (λz=>h2 z.symm))]
  ·rintro σ H2 ⟨v2,v3,kvs,rfl,s2,e2,len,val⟩;rw [hxl] at val;exact ⟨_,rfl,q d H2 s2 hd ⟨kvs,e2,val⟩⟩
end
def NedD (H:Hp)(e:Addr)(s t:Int):Prop:=EndD H e s t\/(s=nE/\t=nE/\H e=some (.lst []))
theorem NedD.same {H H':Hp}{e:Addr}{s t:Int}(h:NedD H e s t)(q:Same H H'):NedD H' e s t:=h.imp (λh=>h.same q) λh=>⟨h.1,h.2.1,q _ _ h.2.2⟩
section
variable {P:Program}{w:World}{K:W.Frag}{mg:Str->Option Value}{base:Heap}
def Zdq (H0 H:Hp)(x:V):Prop:=∃T r lv nd:Addr,x=.ref T/\H T=some (.tup [.ref r,.ref lv,.ref nd])/\H0 lv=none/\H0 nd=none
def Zf5:Sp:=λvs H Q _=>∃(wb l e:Addr)(k:Int)(xs:List V)(rs:List (Int×Int))(s t:Int),vs=[.ref wb,.ref e]/\WebAt H wb l k xs rs/\rs.length<=100/\(∀r∈rs,0<=r.1/\r.1<r.2)/\NedD H e s t/\∀(S:Addr)(zs:List V)(H':Hp),Same H H'->H S=none->H' S=some (.lst zs)->zs.length=rs.length->(∀j x,zs[j]?=some x->StepAt H' x rs s t j)->(∀(j:Nat)(x:V),zs[j]?=some x->Zdq H H' x)->Q (.ref S) H'
theorem scSo:Gr ["web", "needed", "last", "steps", "number", "road", "leaving"] ["web", "needed"] (Gc sSo):=⟨rfl,rfl,rfl,by decide +kernel,rfl,by decide +kernel,by decide +kernel⟩
structure StepsAt (H0 H:Hp)(S:Addr)(zs:List V)(rs:List (Int×Int))(s t:Int):Prop where
 st:∀j x,zs[j]?=some x->∃T r lv nd:Addr,x=.ref T/\(lv≠S/\H0 lv=none)/\(nd≠S/\H0 nd=none)/\H T=some (.tup [.ref r,.ref lv,.ref nd])/\H r=some (.tup [.int (rs.getD j (0,0)).1,.int (rs.getD j (0,0)).2])/\H lv=some (.lst ((VY rs j).map V.int))/\H nd=some (.lst ((Zfe s t (VY rs j)).map V.int))
theorem StepsAt.keep {H0 H H':Hp}{S:Addr}{zs ys:List V}{rs:List (Int×Int)}{s t:Int}(h:StepsAt H0 H S zs rs s t)(eS:H S=some (.lst ys))(q:∀b o,b≠S->H b=some o->H' b=some o)   : StepsAt H0 H' S zs rs s t:=⟨λj x hx=>by
 obtain ⟨T,r,lv,nd,e,n1,n2,h1,h2,h3,h4⟩:=h.st j x hx;exact ⟨T,r,lv,nd,e,n1,n2,q _ _ (JY h1 eS (λz=>by cases z)) h1,q _ _ (JY h2 eS (λz=>by cases z)) h2,q _ _ n1.1 h3,q _ _ n2.1 h4⟩⟩
theorem Zah {s t p:Int}:(if p=s then some (V.int (-3)) else if p=t then some (V.int (-4)) else none).isSome=decide (p=s\/p=t):=by
 by_cases h1:p=s
 ·rw [if_pos h1,decide_eq_true (.inl h1)];rfl
 ·rw [if_neg h1];by_cases h2:p=t
  ·rw [if_pos h2,decide_eq_true (.inr h2)];rfl
  ·rw [if_neg h2,decide_eq_false (λz=>z.elim h1 h2)];rfl
theorem ZbA {K:W.Frag}{σ:St}{H:Hp}{e:Addr}{s t p:Int}{Q:Bool->Hp->Prop}(h:NedD H e s t)(hp:0<=p)(h0:σ[0]?=some (some (.int p)))(h1:σ[1]?=some (some (.ref e)))(q:Q (decide (p=s\/p=t)) H) :
  (tB (ZgM (Yn 0) (Yn 1)) σ H Q)\/(ZaJ (tOp (rIn K false) (Yn 0) (Yn 1)) σ H Q):=by
 rcases h with h | ⟨rfl,rfl,hl⟩
 ·refine .inl ⟨_,h0,_,h1,e,_,rfl,h.get p hp,_,rfl,?_⟩;rw [Zah];exact q
 ·refine .inr ⟨_,h0,_,h1,e,[],rfl,.inl (SqL.of hl),rfl,rfl,_,rfl,?_⟩;rw [decide_eq_false (λz=>by rcases z with z | z <;> exact absurd (z▸hp) (by decide))] at q;exact q
theorem WF {L:List Int}{i:Nat}{p:Int}(f:Int->Bool)(h:L[i]?=some p):(L.take (i+1)).filter f=(L.take i).filter f++(if f p=true then [p] else []):=by
 rw [List.take_add_one,h,List.filter_append]
 congr 1
 show List.filter f [p]=_;rw [List.filter_cons];split <;> simp_all
theorem Zf6 {f fLr:Addr}{fd fdLr:FuncData}(F:Fun K "steps_of" "steps_of" sSo f fd)(FLr:Fun K "last_roads" "last_roads" sLr fLr fdLr)(bLr:Binds K fdLr ["web"] [])(mLr:mg "last_roads" = some (.ref fLr))(GLr:GG P w K mg base CX0 1 fLr fdLr ["web"] ZgT)(mEnum:mg "enumerate" = none):GG P w K mg base CX0 2 f fd ["web", "needed"] Zf5:=by
 refine F.ok scSo (λvs H Q E h=>?_) (λcdv A outer s0 H vs Q E hr h=>?_)
 ·obtain ⟨_,_,_,_,_,_,_,_,rfl,_⟩:=h
  rfl
 ·obtain ⟨wb,l,e,k,xs,rs,s,t,rfl,W,hx,gp,he,q⟩:=h;have hu1:(A.deeper (PyProof.Rows.envOfC "steps_of" (Gc sSo) s0.heap.objs.size f cdv)).units+1<cLine:=by have:=hr.un;lia
  have h16:(16777216:Nat)=sizeLine:=sizeLine_eq.symm;have hxl:=W.p.len;refine ⟨_,Gd (Gs (i:=2) scSo.nd rfl (Or.inr rfl) (Gh GLr (hr.mono (by decide)) rfl mLr FLr.kp bLr .nil GQ (Ga (pv 0) Ge)))
    (Gd (Gs (i:=3) scSo.nd rfl (Or.inl rfl) (Jd Ge))
    (Gd (JD PassesOwn.never rfl (Wf K rfl mEnum (Ga (GJ (Op K) (pv 0) Gg (λ_ _=>rfl)) Ge)) (WX K (n:=2) rfl (Gv (Gi (i:=4) scSo.nd rfl (Or.inr rfl)) (Gv (Gi (i:=5) scSo.nd rfl (Or.inl rfl)) Jb)))
    (Gd (UB (i:=6) scSo.nd rfl (Or.inl rfl) (own:=["place"]) rfl (Go (fr:=[("last", 2),("number", 4)]) [(".0", .local),("place", .local),("last", .cell),("number", .cell)] rfl rfl (by decide +kernel) rfl (by decide +kernel) ⟨rfl,rfl,trivial⟩ ⟨λh=>GN h,λh=>GN h,λ_=>⟨_,rfl⟩,λ_=>⟨_,rfl⟩,trivial⟩ ⟨⟨rfl,.inl rfl,.inl rfl⟩,⟨rfl,.inl rfl,.inl rfl⟩,trivial⟩) (Zek K (pv 5)) (λ_ _ _ _=>Gi (i:=0) (show List.Nodup (["place", "last", "number"]:List Str) by decide +kernel) rfl (Or.inl rfl)) (λ_ _ _ _=>JE (Gw UQ (UD hu1 (pv 1) (pv 0) (λ_ _=>rfl)) (pv 2) (GE _))) (λ_ _ _ _=>pv 0))
    (Gf (Jk (O0 PySem.F.plainAttrs_list PySem.F.slot_list_append PySem.F.type_list_append Ja (pv 3) (Ga (Jo (Ga (pv 5) (Ga (pv 6) (Ga (G9 (own:=["place"]) rfl (Go (fr:=[("needed", 1)]) [(".0", .local),("place", .local),("needed", .cell)] rfl rfl (by decide +kernel) rfl (by decide +kernel) ⟨rfl,trivial⟩ ⟨λh=>GN h,λh=>GN h,λ_=>⟨_,rfl⟩,trivial⟩ ⟨⟨rfl,.inl rfl,.inl rfl⟩,trivial⟩) (JV K (pv 6)) (λ_ _ _ _=>Gi (i:=0) (show List.Nodup (["place", "needed"]:List Str) by decide +kernel) rfl (Or.inl rfl)) (λ_ _ _ _=>JE (Z1 (YV (Zm hu1 (pv 0) (pv 1)) rfl) (Gw (kIn K) (pv 0) (pv 1) (by with_unfolding_all rfl)))) (λ_ _ _ _=>pv 0)) Ge)))) Ge))))))
    (Gf (Gu (pv 3))))),?_⟩
  refine ⟨_,rfl,wb,l,k,xs,rs,rfl,W,hx,λd H1 s1 hd D1=>?_⟩;refine ⟨Nat.zero_le _,λS hS=>?_⟩;have hS0:=s1.free hS;have s2:=s1.put (o:=.lst []) hS0;refine ⟨_,rfl,wb,_,_,_,rfl,rfl,SqT.of (s2 _ _ W.w),Gx (j:=1) rfl,l,xs,rfl,SqL.of (s2 _ _ W.l),?_⟩;refine Od (K:=K) (a:=l) (xs:=xs) (λi σ H2=>∃(v4 v5 v6:Option V)(zs:List V),σ=[some (.ref wb),some (.ref e),some (.ref d),some (.ref S),v4,v5,v6]/\Same H H2/\LastD H2 d rs/\H2 S=some (.lst zs)/\zs.length=i/\StepsAt H H2 S zs rs s t)
   ⟨none,none,none,[],rfl,s2,D1.same (Same.new hS),Gb,rfl,⟨λj x hx=>by simp at hx⟩⟩ (λi σ H2 _ ⟨_,_,_,_,_,s2,_⟩=>SqL.of (s2 _ _ W.l)) ?_ ?_
  ·rintro i x σ H2 T hxi ⟨v4,v5,v6,zs,rfl,s2,D2,e2,len,st⟩ hT;obtain ⟨t0,r,rfl,et,er⟩:=(W.same s2).p.get hxi;have er':rs.getD i (0,0)=r:=by rw [List.getD_eq_getElem?_getD,er];rfl
   have hi:i<xs.length:=(List.getElem?_eq_some_iff.mp hxi).1;have s23:Same H2 (upd H2 T (.tup [.int (i:Nat),.ref t0])):=Same.new hT;refine ⟨T,_,rfl,SqT.of Gb,rfl,_,_,rfl,_,_,rfl,rfl,?_⟩;generalize upd H2 T (.tup [.int (i:Nat),.ref t0])=H3 at s23 ⊢;have et3:=s23 _ _ et;have D3:=D2.same s23;refine ⟨_,rfl,t0,rfl,⟨_,SqT.of et3⟩,λD hD=>?_⟩;refine Za3 (K:=K) (a:=t0) (xs:=[r.1,r.2].map V.int) (λn ys H4=>Same H3 H4/\H4 D=some (.lst ys)/\ys=(([r.1,r.2].take n).filter λp=>decide (VS rs p=(i:Int))).map V.int) ⟨Same.new hD,Gb,rfl⟩ (λn ys H4 _ ⟨s4,_⟩=>SqT.of (s4 _ _ et3)) ?_ ?_
   ·rintro n x ys H4 hxn ⟨s4,hD4,rfl⟩;rw [List.getElem?_map] at hxn;cases y:[r.1,r.2][n]? with
    | none=>rw [y] at hxn;cases hxn
    | some p=>
     rw [y] at hxn;cases hxn;have hpr:r.1=p\/r.2=p:=by
      rcases List.mem_cons.mp (List.mem_of_getElem? y) with z | z
      ·exact .inl z.symm
      ·rcases List.mem_cons.mp z with z | z
       ·exact .inr z.symm
       ·cases z
     have hge:0<=VS rs p:=by
      have:=Zbx (rs:=rs) (j:=i) (by lia) (p:=p) (by rw [er'];exact hpr)
      lia
     obtain ⟨kvs,ek,val⟩:=D3.same s4;have g:DGet H4 d (.int p) (some (.int (VS rs p))):=by
      have:=DGet.k (k:=Sum.inl p) ek;rw [val p,if_pos hge] at this;exact this
     refine ⟨⟨rfl,rfl,trivial⟩,?_⟩;refine ⟨_,rfl,_,rfl,d,_,rfl,g,_,rfl,rfl,_,rfl,?_⟩;rw [JH,WF _ y];refine Uk (λz=>?_) (λz=>?_)
     ·rw [if_pos z];refine ⟨_,rfl,hD4,?_,s4.put hD,Gb,by rw [List.map_append];rfl⟩;rw [List.length_map];have:=List.length_filter_le (λp=>decide (VS rs p=(i:Int))) ([r.1,r.2].take n);rw [List.length_take] at this;simp at this
      lia
     ·rw [if_neg z,List.append_nil];exact ⟨s4,hD4,rfl⟩
   rintro ys H4 ⟨s4,hD4,rfl⟩;have lve:(([r.1,r.2].take ([r.1,r.2].map V.int).length).filter λp=>decide (VS rs p=(i:Int)))=VY rs i:=by
    unfold VY;rw [er']
    rfl
   rw [lve] at hD4;have ll:(VY rs i).length<=2:=by unfold VY;exact List.length_filter_le _ _
   have S4:=(s2.trans s23).trans s4;have e4:=(s23.trans s4) _ _ e2;have hDS:D≠S:=λz=>by rw [z] at hD;rw [s23 _ _ e2] at hD;cases hD
   have hD0:H D=none:=(s2.trans s23).free hD;refine ⟨_,rfl,.inl ⟨rfl,_,SqL.of e4⟩,_,rfl,_,rfl,_,rfl,D,rfl,⟨_,SqL.of hD4⟩,λN hN=>?_⟩;have hNS:N≠S:=λz=>by rw [z,e4] at hN;cases hN
   have hN0:H N=none:=S4.free hN;refine GS (K:=K) (a:=D) (xs:=(VY rs i).map V.int) (λn ys H5=>Same H4 H5/\H5 N=some (.lst ys)/\ys=(((VY rs i).take n).filter λp=>decide (p=s\/p=t)).map V.int) ⟨Same.new hN,Gb,rfl⟩ (λn ys H5 _ ⟨s5,_⟩=>SqL.of (s5 _ _ hD4)) ?_ ?_
   ·rintro n x ys H5 hxn ⟨s5,hN5,rfl⟩;rw [List.getElem?_map] at hxn;cases y:(VY rs i)[n]? with
    | none=>rw [y] at hxn;cases hxn
    | some p=>
     rw [y] at hxn;cases hxn;refine ⟨⟨rfl,trivial⟩,?_⟩;refine ZbA (he.same (S4.trans s5)) (p:=p) (by
      have hr1:=List.mem_of_getElem? er;have:=gp r hr1;have hp:=(List.mem_filter.mp (List.mem_of_getElem? y)).1;rw [er'] at hp;rcases List.mem_cons.mp hp with z | z
      ·lia
      ·rcases List.mem_cons.mp z with z | z
       ·lia
       ·cases z) rfl rfl ?_
     rw [WF _ y];refine Uk (λz=>?_) (λz=>?_)
     ·rw [if_pos z];refine ⟨_,rfl,hN5,?_,s5.put hN,Gb,by rw [List.map_append];rfl⟩;rw [List.length_map];have:=List.length_filter_le (λp=>decide (p=s\/p=t)) ((VY rs i).take n);rw [List.length_take] at this
      lia
     ·rw [if_neg z,List.append_nil];exact ⟨s5,hN5,rfl⟩
   rintro ys H5 ⟨s5,hN5,rfl⟩;rw [List.length_map,List.take_length] at hN5;refine ⟨(by show 3<=sizeLine;decide),λB hB=>?_⟩;have e5:=s5 _ _ e4;have S5:=S4.trans s5;have hSB:S≠B:=Gm e5 hB;refine ⟨S,_,_,rfl,rfl,Gq e5 hSB,by lia,?_⟩;have dS:d≠S:=by
    obtain ⟨kvs,ek,_⟩:=D2;exact JY ek e2 (λz=>by cases z)
   have up:∀(o:HO)(ys:HO) b u,b≠S->H5 b=some u->upd (upd H5 B o) S ys b=some u:=λo ys b u n z=>Gq (Gq z (Gm z hB)) n;refine ⟨_,_,_,zs++[.ref B],rfl,(S5.put (S5.free hB)).put hS0,?_,Gb,by rw [List.length_append,List.length_singleton,len],⟨λj x hx=>?_⟩⟩
   ·obtain ⟨kvs,ek,val⟩:=D3.same (s4.trans s5);exact ⟨kvs,up _ _ _ _ dS ek,val⟩
   ·rcases Nat.lt_or_ge j zs.length with hj | hj
    ·rw [List.getElem?_append_left hj] at hx;exact (((st.keep e2 λb o _ z=>(s23.trans (s4.trans s5)) b o z)).keep e5 (up _ _)).st j x hx
    ·rw [List.getElem?_append_right hj] at hx;have:j=zs.length:=by
      rcases Nat.lt_or_ge (j-zs.length) 1 with z | z
      ·lia
      ·rw [List.getElem?_eq_none (by simpa using z)] at hx;cases hx
     subst this;rw [Nat.sub_self] at hx;cases hx;rw [len,er'];refine ⟨B,t0,D,N,rfl,⟨hDS,hD0⟩,⟨hNS,hN0⟩,Gq Gb (Ne.symm hSB),?_,up _ _ _ _ hDS (s5 _ _ hD4),?_⟩
     ·exact up _ _ _ _ (JY et3 (s23 _ _ e2) (λz=>by cases z)) ((s4.trans s5) _ _ et3)
     ·exact up _ _ _ _ hNS hN5
  ·rintro σ H2 ⟨v4,v5,v6,zs,rfl,s2,D2,e2,len,st⟩;refine ⟨_,rfl,q S zs H2 s2 hS0 e2 (by lia) (λj x hx=>?_) λj x hx=>?_⟩
   ·obtain ⟨T,r,lv,nd,e,n1,n2,h1,h2,h3,h4⟩:=st.st j x hx;exact ⟨T,r,lv,nd,e,h1,h2,h3,h4⟩
   ·obtain ⟨T,r,lv,nd,e,n1,n2,h1,h2,h3,h4⟩:=st.st j x hx;exact ⟨T,r,lv,nd,e,h1,n1.2,n2.2⟩
end
end M
namespace M
open PySem L2
section
variable {P:Program}{w:World}{K:W.Frag}{mg:Str->Option Value}{base:Heap}
def ZgU:Sp:=λ_ _ _ _=>False
theorem Zdr {n q:Str}{st:Stmt}{f:Addr}{fd:FuncData}(ps:List Str)(F:Fun K n q st f fd):GG P w K mg base CX0 1 f fd ps ZgU:=⟨λ_ _ _ _ h=>h.elim,λ_ _ _ _ _ _ _ _ _ _ _ _ _ h=>h.elim⟩
abbrev m0 (k:Nat):List Int:=List.replicate (k+1) (-2)
def Zf7:Sp:=λvs H Q _=>∃(wb l e:Addr)(k:Nat)(xs:List V)(rs:List (Int×Int)),vs=[.ref wb,.ref e]/\WebAt H wb l (k:Int) xs rs/\k<=100/\NedD H e nE nE/\∀(F T:Addr)(H':Hp),Same H H'->H F=none->H' F=some (.lst [.ref T])->H' T=some (.tup ((m0 k).map V.int))->Q (.ref F) H'
theorem ZhC:Gr ["web", "needed"] ["web", "needed"] (Gc sFm):=⟨rfl,rfl,rfl,by decide +kernel,rfl,by decide +kernel,by decide +kernel⟩
theorem Zf8 {f fBe:Addr}{fd fdBe:FuncData}(F:Fun K "first_marks" "first_marks" sFm f fd)(FBe:Fun K "beside" "beside" Zbo fBe fdBe)(bBe:Binds K fdBe ["web", "place"] [])(mBe:mg "beside" = some (.ref fBe))(GBe:GG P w K mg base CX0 1 fBe fdBe ["web", "place"] ZgU){u2:Tok}(mFREE:mg "FREE" = some (.int (-2) u2))(mAll:mg "all" = none)(mTup:mg "tuple" = none):GG P w K mg base CX0 4 f fd ["web", "needed"] Zf7:=by
 refine F.ok ZhC (λvs H Q E h=>?_) (λcdv A outer s0 H vs Q E hr h=>?_)
 ·obtain ⟨_,_,_,_,_,_,rfl,_⟩:=h
  rfl
 ·obtain ⟨wb,l,e,k,xs,rs,rfl,W,gk,he,q⟩:=h;have h16:(16777216:Nat)=sizeLine:=sizeLine_eq.symm;refine ⟨_,Gd (Je (Ub (JR (Gz (ZfE K rfl) rfl mAll Vr (Ga (G9 (own:=["place"]) rfl (Go (fr:=[("web", 0)]) [(".0", .local),("place", .local),("beside", .globalImplicit),("web", .cell)] rfl rfl (by decide +kernel) rfl (by decide +kernel) ⟨rfl,trivial⟩ ⟨λh=>GN h,λh=>GN h,λh=>GN h,λ_=>⟨_,rfl⟩,trivial⟩ ⟨⟨rfl,.inl rfl,.inl rfl⟩,trivial⟩) (Z2 (Zbj (pv 1)) (JV K (pv 1))) (λ_ _ _ _=>Gi (i:=0) (show List.Nodup (["place", "web"]:List Str) by decide +kernel) rfl (Or.inl rfl)) (λ_ _ _ _=>G5) (λ_ _ _ _=>Gh GBe (hr.mono (by decide)) rfl mBe FBe.kp bBe .nil GQ (Ga (pv 1) (Ga (pv 0) Ge)))) Ge)))) (Gf (Gu (Jd Ge))) GB)
    (Gf (Gu (Jd (Ga (Jp (ZP K) rfl mTup O2 (Ga (GF ZbX (Jd (Ga (G8 (v:=.int (-2)) rfl mFREE ⟨_,rfl⟩) Ge)) (GF G7 (GJ (Op K) (pv 0) Gg (λ_ _=>rfl)) Gg)) Ge)) Ge)))),?_⟩
  rcases he with ⟨_,_,o,e1⟩ | ⟨_,_,e1⟩
  ·refine .inl ⟨_,rfl,e,o,[],rfl,e1,λD hD=>?_⟩;refine YD (a:=e) (o:=o) (kvs:=[]) (λi ys H2=>Same H H2/\H2 D=some (.lst ys)/\ys=[]) ⟨Same.new hD,Gb,rfl⟩ (λi ys H2 _ ⟨s2,_⟩=>s2 _ _ e1) (λi key v ys H2 hkv=>by simp at hkv) ?_;rintro ys H2 ⟨s2,hD2,rfl⟩;refine ⟨D,[],rfl,SqL.of hD2,λz hz=>(by cases hz),_,rfl,?_⟩;refine Js ?_;refine ⟨Nat.le_of_lt (by show 1<sizeLine;lia),λo1 ho1=>?_⟩;have s3:=s2.put (o:=.lst [V.int (-2)]) (s2.free ho1);have W3:=W.same s3;refine ⟨_,rfl,wb,_,_,_,rfl,rfl,SqT.of W3.w,Gx (j:=0) rfl,_,_,rfl,rfl,o1,_,_,rfl,rfl,Gb,by lia,by lia,(by show 1 * _<=_;lia),λl2 hl2=>?_⟩;refine ⟨l2,_,rfl,.inl ⟨SqL.of Gb,λT hT=>?_⟩⟩;refine ⟨Nat.le_of_lt (by show 1<sizeLine;lia),λG hG=>?_⟩;have s4:=s3.put (o:=.lst (List.replicate ((k:Int)+1).toNat [V.int (-2)]).flatten) (s3.free hl2);have s5:=s4.put (o:=.tup (List.replicate ((k:Int)+1).toNat [V.int (-2)]).flatten) (s4.free hT);have hTG:T≠G:=λz=>by rw [<-z,Gb] at hG;cases hG
   refine q G T _ (s5.put (s5.free hG)) (s5.free hG) Gb (Gq ?_ hTG);rw [Gb]
   congr 2
   have:∀n:Nat,(List.replicate n [V.int (-2)]).flatten=(List.replicate n (-2:Int)).map V.int:=λn=>by
    induction n with
    | zero=>rfl
    | succ n ih=>rw [List.replicate_succ,List.flatten_cons,ih,List.replicate_succ];rfl
   rw [this,show ((k:Int)+1).toNat=k+1 by lia]
  ·refine .inr ⟨_,rfl,e,rfl,⟨_,SqL.of e1⟩,λD hD=>?_⟩;refine GS (K:=K) (a:=e) (xs:=[]) (λi ys H2=>Same H H2/\H2 D=some (.lst ys)/\ys=[]) ⟨Same.new hD,Gb,rfl⟩ (λi ys H2 _ ⟨s2,_⟩=>SqL.of (s2 _ _ e1)) (λi x ys H2 hx=>by simp at hx) ?_;rintro ys H2 ⟨s2,hD2,rfl⟩;refine ⟨D,[],rfl,SqL.of hD2,λz hz=>(by cases hz),_,rfl,?_⟩;refine Js ?_;refine ⟨Nat.le_of_lt (by show 1<sizeLine;lia),λo1 ho1=>?_⟩;have s3:=s2.put (o:=.lst [V.int (-2)]) (s2.free ho1);have W3:=W.same s3;refine ⟨_,rfl,wb,_,_,_,rfl,rfl,SqT.of W3.w,Gx (j:=0) rfl,_,_,rfl,rfl,o1,_,_,rfl,rfl,Gb,by lia,by lia,(by show 1 * _<=_;lia),λl2 hl2=>?_⟩;refine ⟨l2,_,rfl,.inl ⟨SqL.of Gb,λT hT=>?_⟩⟩;refine ⟨Nat.le_of_lt (by show 1<sizeLine;lia),λG hG=>?_⟩;have s4:=s3.put (o:=.lst (List.replicate ((k:Int)+1).toNat [V.int (-2)]).flatten) (s3.free hl2);have s5:=s4.put (o:=.tup (List.replicate ((k:Int)+1).toNat [V.int (-2)]).flatten) (s4.free hT);have hTG:T≠G:=λz=>by rw [<-z,Gb] at hG;cases hG
   refine q G T _ (s5.put (s5.free hG)) (s5.free hG) Gb (Gq ?_ hTG);rw [Gb]
   congr 2
   have:∀n:Nat,(List.replicate n [V.int (-2)]).flatten=(List.replicate n (-2:Int)).map V.int:=λn=>by
    induction n with
    | zero=>rfl
    | succ n ih=>rw [List.replicate_succ,List.flatten_cons,ih,List.replicate_succ];rfl
   rw [this,show ((k:Int)+1).toNat=k+1 by lia]
end
end M
namespace M
open PySem L2
abbrev KI:=List (List Int×Int)
def Yb (ks:KI)(m:List Int):Option Int:=(ks.find? λp=>decide (p.1=m)).map (·.2)
def ZaE (ks:KI)(m:List Int)(n:Int):KI:=if (ks.any λp=>decide (p.1=m))=true then ks.map (λp=>if p.1=m then (p.1,n) else p) else ks++[(m,n)]
theorem inl_inj {a b:List Int}:a.map (Sum.inl:Int->Key)=b.map Sum.inl↔a=b:=by
 refine ⟨λh=>?_,λh=>by rw [h]⟩;have:=congrArg (List.map λx:Key=>match x with | .inl i=>i | .inr _=>0) h
 rwa [List.map_map,List.map_map,show ((λx:Key=>match x with | .inl i=>i | .inr _=>0)∘(Sum.inl:Int->Key))=id from rfl,List.map_id,List.map_id] at this
theorem VT (ks:KI)(m:List Int):J1 (ks.map kvI) (m.map Sum.inl)=(Yb ks m).map V.int:=by
 induction ks with
 | nil=>rfl
 | cons p ks ih=>
  unfold J1 Yb at *;rw [List.map_cons,List.find?_cons,List.find?_cons];by_cases h:p.1=m
  ·rw [show decide ((kvI p).1=m.map Sum.inl)=true from decide_eq_true (by show p.1.map Sum.inl=_;rw [h]),decide_eq_true h]
   rfl
  ·rw [show decide ((kvI p).1=m.map Sum.inl)=false from decide_eq_false (λz=>h (inl_inj.mp z)),decide_eq_false h];exact ih
theorem Zai (ks:KI)(m:List Int)(n:Int):O3 (ks.map kvI) (m.map Sum.inl) (.int n)=(ZaE ks m n).map kvI:=by
 unfold O3 ZaE;have e:((ks.map kvI).any λkv=>decide (kv.1=m.map Sum.inl))=ks.any λp=>decide (p.1=m):=by
  rw [List.any_map]
  congr 1
  funext p
  exact decide_eq_decide.mpr inl_inj
 rw [e];by_cases h:(ks.any λp=>decide (p.1=m))=true
 ·rw [if_pos h,if_pos h,List.map_map,List.map_map];refine List.map_congr_left λp _=>?_;show (if p.1.map Sum.inl=m.map Sum.inl then (p.1.map Sum.inl,V.int n) else kvI p)=kvI (if p.1=m then (p.1,n) else p);by_cases z:p.1=m
  ·rw [if_pos z,if_pos (inl_inj.mpr z)]
  ·rw [if_neg z,if_neg (λy=>z (inl_inj.mp y))]
 ·rw [if_neg h,if_neg h,List.map_append]
  rfl
def YO (ks:KI):List (List Int):=ks.flatMap λp=>List.replicate p.2.toNat p.1
structure Rep (ks:KI)(R:List (List Int)):Prop where
 nd:(ks.map (·.1)).Nodup
 pos:∀p∈ks,0<p.2
 pm:(YO ks).Perm R
theorem Rep.perm {ks:KI}{R R':List (List Int)}(h:Rep ks R)(p:R.Perm R'):Rep ks R':=⟨h.nd,h.pos,h.pm.trans p⟩
theorem Rep.nil:Rep [] []:=⟨List.nodup_nil,by simp,.refl _⟩
theorem Yc (a b:KI):YO (a++b)=YO a++YO b:=List.flatMap_append
theorem J6 (p:List Int×Int)(a:KI):YO (p::a)=List.replicate p.2.toNat p.1++YO a:=List.flatMap_cons
theorem Rep.put {ks:KI}{R:List (List Int)}(h:Rep ks R){m:List Int}{n:Int}(hn:0<n):Rep (ZaE ks m ((Yb ks m).getD 0+n)) (R++List.replicate n.toNat m):=by
 by_cases c:(ks.any λp=>decide (p.1=m))=true
 ·obtain ⟨p,hp,e⟩:=List.any_eq_true.mp c;have e:p.1=m:=of_decide_eq_true e;obtain ⟨a,b,rfl⟩:=List.append_of_mem hp;have nd:=h.nd;rw [List.map_append,List.map_cons,List.nodup_append,List.nodup_cons] at nd;obtain ⟨na,⟨nb,nb2⟩,nab⟩:=nd;have ha:∀q∈a,q.1≠m:=λq hq z=>nab q.1 (List.mem_map.mpr ⟨q,hq,rfl⟩) p.1 (List.mem_cons_self ..) (z.trans e.symm);have hb:∀q∈b,q.1≠m:=λq hq z=>nb (by rw [e,<-z];exact List.mem_map.mpr ⟨q,hq,rfl⟩);have g:Yb (a++p::b) m=some p.2:=by
   unfold Yb;rw [List.find?_append,List.find?_eq_none.mpr (λq hq=>by simpa using ha q hq),Option.none_or,List.find?_cons,decide_eq_true e]
   rfl
  have ea:a.map (λq=>if q.1=m then (q.1,p.2+n) else q)=a:=by
   conv=>rhs;rw [<-List.map_id a]
   exact List.map_congr_left λq hq=>if_neg (ha q hq)
  have eb:b.map (λq=>if q.1=m then (q.1,p.2+n) else q)=b:=by
   conv=>rhs;rw [<-List.map_id b]
   exact List.map_congr_left λq hq=>if_neg (hb q hq)
  have pp:=h.pos p hp;rw [g];show Rep (ZaE _ m (p.2+n)) _;unfold ZaE;rw [if_pos c,List.map_append,List.map_cons,ea,eb,if_pos e];refine ⟨?_,λq hq=>?_,?_⟩
  ·rw [List.map_append,List.map_cons,List.nodup_append,List.nodup_cons];exact ⟨na,⟨nb,nb2⟩,nab⟩
  ·rcases List.mem_append.mp hq with hq | hq
   ·exact h.pos q (List.mem_append_left _ hq)
   ·rcases List.mem_cons.mp hq with rfl | hq
    ·show 0<p.2+n
     lia
    ·exact h.pos q (List.mem_append_right _ (List.mem_cons_of_mem _ hq))
  ·have:=h.pm;rw [Yc,J6] at this ⊢;refine List.Perm.trans ?_ (this.append_right _);show (YO a++(List.replicate (p.2+n).toNat p.1++YO b)).Perm _;rw [show (p.2+n).toNat=p.2.toNat+n.toNat by lia,<-List.replicate_append_replicate,List.append_assoc,List.append_assoc,List.append_assoc,e];exact List.Perm.append_left _ (List.Perm.append_left _ List.perm_append_comm)
 ·have hm:∀q∈ks,q.1≠m:=λq hq z=>c (List.any_eq_true.mpr ⟨q,hq,decide_eq_true z⟩);have g:Yb ks m=none:=by
   unfold Yb;rw [List.find?_eq_none.mpr (λq hq=>by simpa using hm q hq)]
   rfl
  rw [g];show Rep (ZaE ks m (0+n)) _;rw [Int.zero_add];unfold ZaE;rw [if_neg c];refine ⟨?_,λq hq=>?_,?_⟩
  ·rw [List.map_append,List.nodup_append];refine ⟨h.nd,by simp,λx hx y hy z=>?_⟩;obtain ⟨q,hq,rfl⟩:=List.mem_map.mp hx;have hy:y=m:=by simpa using hy
   exact hm q hq (z.trans hy)
  ·rcases List.mem_append.mp hq with hq | hq
   ·exact h.pos q hq
   ·rw [List.mem_singleton.mp hq];exact hn
  ·rw [Yc,J6];exact h.pm.append (by show (List.replicate n.toNat m++[]).Perm _;rw [List.append_nil])
theorem Rep.mem {ks:KI}{R:List (List Int)}(h:Rep ks R){p:List Int×Int}(hp:p∈ks):p.1∈R:=by
 refine h.pm.mem_iff.mp ?_;unfold YO;have:=h.pos p hp;exact List.mem_flatMap.mpr ⟨p,hp,List.mem_replicate.mpr ⟨by lia,rfl⟩⟩
theorem WG {ks:KI}(nd:(ks.map (·.1)).Nodup){p:List Int×Int}(hp:p∈ks):(YO ks).count p.1=p.2.toNat:=by
 induction ks with
 | nil=>cases hp
 | cons q ks ih=>
  rw [List.map_cons,List.nodup_cons] at nd;rw [J6,List.count_append];rcases List.mem_cons.mp hp with rfl | hp
  ·rw [List.count_replicate_self,List.count_eq_zero.mpr,Nat.add_zero];intro hm;obtain ⟨r,hr,hm⟩:=List.mem_flatMap.mp hm;have:=(List.mem_replicate.mp hm).2;exact nd.1 (by rw [this];exact List.mem_map.mpr ⟨r,hr,rfl⟩)
  ·have hne:q.1≠p.1:=λz=>nd.1 (by rw [z];exact List.mem_map.mpr ⟨p,hp,rfl⟩);rw [List.count_replicate,if_neg (by simpa using hne),Nat.zero_add,ih nd.2 hp]
theorem ZbB {α β:Type}(l:List α)(f g:α->List β):(l.flatMap f++l.flatMap g).Perm (l.flatMap λx=>f x++g x):=by
 induction l with
 | nil=>exact .refl _
 | cons x l ih=>
  rw [List.flatMap_cons,List.flatMap_cons,List.flatMap_cons,List.append_assoc,List.append_assoc];refine List.Perm.append_left _ ?_;refine List.Perm.trans ?_ (List.Perm.append_left _ ih);rw [<-List.append_assoc,<-List.append_assoc];exact List.perm_append_comm.append_right _
theorem ZbC {α β:Type}(n:Nat)(x:α)(f:α->List β):((List.replicate n x).flatMap f).Perm ((f x).flatMap λy=>List.replicate n y):=by
 induction n with
 | zero=>simp
 | succ n ih=>
  rw [List.replicate_succ,List.flatMap_cons];refine (List.Perm.append_left _ ih).trans ?_;have h:=ZbB (f x) (λy=>[y]) (λy=>List.replicate n y);rw [List.flatMap_singleton'] at h;exact h
def fS (rs:List (Int×Int))(s t:Int)(j:Nat)(m:List Int):List (List Int):=(X9 rs s t m j false).toList++(X9 rs s t m j true).toList
def RJ (rs:List (Int×Int))(k:Nat):Nat->List (List Int)
 | 0=>[m0 k]
 | j+1=>(RJ rs k j).flatMap (fS rs nE nE j)
theorem ZbD (rs:List (Int×Int))(s t:Int)(j:Nat)(ks:KI):(ks.flatMap λp=>(fS rs s t j p.1).flatMap λm=>List.replicate p.2.toNat m).Perm ((YO ks).flatMap (fS rs s t j)):=by
 induction ks with
 | nil=>exact .refl _
 | cons p ks ih=>
  rw [J6,List.flatMap_cons,List.flatMap_append];exact (ZbC _ _ _).symm.append ih
section
variable {P:Program}{w:World}{K:W.Frag}{mg:Str->Option Value}{base:Heap}
def SameX (d:Addr)(H H':Hp):Prop:=∀a u,a≠d->H a=some u->H' a=some u
theorem SameX.of {d:Addr}{H H':Hp}(s:Same H H'):SameX d H H':=λa u _ e=>s a u e
theorem SameX.trans {d:Addr}{H H' H'':Hp}(a:SameX d H H')(b:SameX d H' H''):SameX d H H'':=λc u n e=>b c u n (a c u n e)
theorem Xs {ks:KI}(nd:(ks.map (·.1)).Nodup){p:List Int×Int}(hp:p∈ks):Yb ks p.1=some p.2:=by
 obtain ⟨a,b,rfl⟩:=List.append_of_mem hp;rw [List.map_append,List.map_cons,List.nodup_append] at nd;unfold Yb;rw [List.find?_append,List.find?_eq_none.mpr,Option.none_or,List.find?_cons,decide_eq_true rfl]
 ·rfl
 ·intro q hq;have:=nd.2.2 q.1 (List.mem_map.mpr ⟨q,hq,rfl⟩) p.1 (List.mem_cons_self ..);simpa using this
def ZgV:Sp:=λvs H Q _=>∃(d e:Addr)(x:V)(ks:KI)(rs:List (Int×Int))(s t:Int)(j:Nat)(R:List (List Int)),vs=[.ref d,x,.ref e]/\H d=some (.dT (ks.map kvI))/\StepAt H x rs s t j/\EndD H e s t/\(∀p∈ks,ZgS rs j p.1)/\Rep ks R/\(∃U:List (List Int),U.length<=4194304/\∀m∈R.flatMap (fS rs s t j),m∈U) /\
 ∀(d':Addr)(ks':KI)(H':Hp),SameX d H H'->H d'=none->H' d'=some (.dT (ks'.map kvI))->Rep ks' (R.flatMap (fS rs s t j))->Q (.ref d') H'
theorem scBs:Gr ["numbers", "step", "ends", "ahead", "known", "chosen", "marks"] ["numbers", "step", "ends"] (Gc sBs):=⟨rfl,rfl,rfl,by decide +kernel,rfl,by decide +kernel,by decide +kernel⟩
theorem ZeX (rs:List (Int×Int))(s t:Int)(j:Nat)(x:List Int):(fS rs s t j x).length<=2:=by
 unfold fS;rw [List.length_append];cases X9 rs s t x j false <;> cases X9 rs s t x j true <;> simp
def ZaF (rs:List (Int×Int))(s t:Int)(j c:Nat)(p:List Int×Int):List (List Int):=([false,true].take c).flatMap λch=>(X9 rs s t p.1 j ch).toList.flatMap λm=>List.replicate p.2.toNat m
theorem Yd (rs:List (Int×Int))(s t:Int)(j:Nat)(p:List Int×Int):ZaF rs s t j 2 p=(fS rs s t j p.1).flatMap λm=>List.replicate p.2.toNat m:=by
 unfold ZaF fS;rw [List.flatMap_append];simp
def Zaj (rs:List (Int×Int))(s t:Int)(j:Nat)(ks:KI):List (List Int):=ks.flatMap λp=>(fS rs s t j p.1).flatMap λm=>List.replicate p.2.toNat m
theorem WH {rs:List (Int×Int)}{s t:Int}{j:Nat}{ks:KI}{R:List (List Int)}(h:Rep ks R):(Zaj rs s t j ks).Perm (R.flatMap (fS rs s t j)):=(ZbD rs s t j ks).trans (h.pm.flatMap_right _)
theorem Zak (rs:List (Int×Int))(s t:Int)(j:Nat)(ks:KI)(p:List Int×Int):Zaj rs s t j (ks++[p])=Zaj rs s t j ks++ZaF rs s t j 2 p:=by
 unfold Zaj;rw [List.flatMap_append,Yd];simp
theorem Xu (rs:List (Int×Int))(s t:Int)(j:Nat)(l:List (List Int)):(l.flatMap (fS rs s t j)).length<=2 * l.length:=by
 induction l with
 | nil=>exact Nat.le_refl _
 | cons x l ih=>
  rw [List.flatMap_cons,List.length_append,List.length_cons];have:=ZeX rs s t j x
  lia
theorem Zal {rs:List (Int×Int)}{s t:Int}{j:Nat}{ks:KI}{R:List (List Int)}(h:Rep ks R)(i:Nat)(c:Nat)(p:List Int×Int)(hp:ks[i]?=some p)(hc:c<=2):∀m∈Zaj rs s t j (ks.take i)++ZaF rs s t j c p,m∈Zaj rs s t j ks:=by
 intro m hm;rcases List.mem_append.mp hm with hm | hm
 ·unfold Zaj at hm ⊢;obtain ⟨q,hq,hm⟩:=List.mem_flatMap.mp hm;exact List.mem_flatMap.mpr ⟨q,List.mem_of_mem_take hq,hm⟩
 ·unfold Zaj;refine List.mem_flatMap.mpr ⟨p,List.mem_of_getElem? hp,?_⟩;rw [<-Yd];unfold ZaF at hm ⊢;obtain ⟨q,hq,hm⟩:=List.mem_flatMap.mp hm;refine List.mem_flatMap.mpr ⟨q,?_,hm⟩;exact List.mem_of_mem_take hq
theorem Zam {α:Type}[DecidableEq α]:∀{a b:List α},a.Nodup->(∀x∈a,x∈b)->a.length<=b.length
 | [],_,_,_=>Nat.zero_le _
 | x::a,b,nd,h=>by
  rw [List.nodup_cons] at nd;have hb:=h x (List.mem_cons_self ..);have:=Zam (b:=b.erase x) nd.2 λy hy=>(List.mem_erase_of_ne (λz=>nd.1 (by rw [<-z];exact hy))).mpr (h y (List.mem_cons_of_mem _ hy));rw [List.length_erase_of_mem hb] at this;have:=List.length_pos_of_mem hb;rw [List.length_cons]
  lia
theorem OP {ks:KI}{R U:List (List Int)}(h:Rep ks R)(hU:∀m∈R,m∈U):ks.length<=U.length:=by
 have:=Zam (b:=U) h.nd λx hx=>by
  obtain ⟨p,hp,rfl⟩:=List.mem_map.mp hx;exact hU _ (h.mem hp)
 rwa [List.length_map] at this
theorem Zf9 {f fDe:Addr}{fd fdDe:FuncData}(F:Fun K "behind_step" "behind_step" sBs f fd)(FDe:Fun K "decided" "decided" sDe fDe fdDe)(bDe:Binds K fdDe ["marks", "step", "ends", "chosen"] [])(mDe:mg "decided" = some (.ref fDe))(GDe:GG P w K mg base CX0 3 fDe fdDe ["marks", "step", "ends", "chosen"] Zf2) :
  GG P w K mg base CX0 4 f fd ["numbers", "step", "ends"] ZgV:=by
 refine F.ok scBs (λvs H Q E h=>?_) (λcdv A outer s0 H vs Q E hr h=>?_)
 ·obtain ⟨_,_,_,_,_,_,_,_,_,rfl,_⟩:=h
  rfl
 ·obtain ⟨d,e,x,ks,rs,s,t,j,R,rfl,hd,hx,he,hms,rep,hR,q⟩:=h;have hu1:(A.deeper (PyProof.Rows.envOfC "behind_step" (Gc sBs) s0.heap.objs.size f cdv)).units+1<cLine:=by have:=hr.un;lia
  have h16:(16777216:Nat)=sizeLine:=sizeLine_eq.symm;obtain ⟨U,hU,inU⟩:=hR;refine ⟨_,(@Gd _ _ _ _ _ (@Gs _ _ 3 _ _ _ _ scBs.nd rfl (Or.inl rfl) Vt rfl (by first | exact .inl rfl | exact .inr rfl))
    (@Gd _ _ _ _ _ (@JD _ _ _ _ _ _ _ _ PassesOwn.never rfl (VF (pv 0)) (Gi (i:=4) scBs.nd rfl (Or.inl rfl))
    (@Gf _ _ _ (@JD _ _ _ _ _ _ _ _ PassesOwn.never rfl (Zek K (@Jo _ _ _ _ _ (@Ga _ _ _ _ _ Uh (@Ga _ _ _ _ _ Uh Ge rfl) rfl))) (Gi (i:=5) scBs.nd rfl (Or.inl rfl))
    (@Gd _ _ _ _ _ (@Gs _ _ 6 _ _ _ _ scBs.nd rfl (Or.inl rfl) (@Gh _ _ _ _ _ _ _ _ _ _ _ _ _ _ _ _ GDe (hr.mono (by decide)) rfl mDe FDe.kp bDe .nil GQ (@Ga _ _ _ _ _ (pv 4) (@Ga _ _ _ _ _ (pv 1) (@Ga _ _ _ _ _ (pv 2) (@Ga _ _ _ _ _ (pv 5) Ge rfl) rfl) rfl) rfl) (by decide) rfl rfl) rfl (by first | exact .inl rfl | exact .inr rfl))
    (@Gf _ _ _ (@Je _ _ _ _ _ _ _ _ (Gw Zcw (pv 6) UU (GE _)) (@Gf _ _ _ (Ow hu1 (pv 3) (pv 6) (@GF _ _ _ _ _ _ _ _ G7 (XQ hu1 (pv 3) (pv 6) Gg ⟨rfl,rfl,rfl,rfl⟩) (UD hu1 (pv 0) (pv 4) (λ_ _=>rfl))) rfl)) GB))) (by intro _;rfl))) (by intro _;rfl))
    (@Gf _ _ _ (@Gu _ _ _ _ (pv 3))))),?_⟩
  refine λa ha=>?_;have nad:a≠d:=λz=>by rw [z,hd] at ha;cases ha
  have s1:Same H (upd H a (.dT [])):=Same.new ha;have e1:upd H a (.dT []) a=some (.dT (([]:KI).map kvI)):=Gb;have hd1:=s1 _ _ hd;generalize upd H a (.dT [])=H1 at s1 e1 hd1 ⊢;dsimp only [G0];refine ⟨_,rfl,d,_,rfl,.inl ⟨hd1,λo=>?_⟩⟩;have s2:SameX d H1 (upd H1 d (.frz o (.dT (ks.map kvI)))):=λb u n y=>Gq y n;have hd2:upd H1 d (.frz o (.dT (ks.map kvI))) d=some (.frz o (.dT (ks.map kvI))):=Gb;have e2:upd H1 d (.frz o (.dT (ks.map kvI))) a=some (.dT (([]:KI).map kvI)):=Gq e1 nad;generalize upd H1 d (.frz o (.dT (ks.map kvI)))=H2 at s2 hd2 e2 ⊢;have S2:SameX d H H2:=(SameX.of s1).trans s2;have ked:∀{H':Hp},SameX d H H'->H' d=some (.frz o (.dT (ks.map kvI)))->EndD H' e s t:=λ{H'} sx _=>by
   obtain ⟨ne,ne2,o',eo⟩:=he;exact ⟨ne,ne2,o',sx e _ (λz=>by rw [z,hd] at eo;cases eo) eo⟩
  have kst:∀{H':Hp},SameX d H H'->StepAt H' x rs s t j:=λ{H'} sx=>by
   obtain ⟨T,r,lv,nd,ex,g1,g2,g3,g4⟩:=hx.ex;have n:∀{b u},H b=some u->(∀kvs,u≠.dT kvs)->b≠d:=λ{b u} y z y2=>by rw [y2,hd] at y;cases y;exact z _ rfl
   exact ⟨T,r,lv,nd,ex,sx _ _ (n g1 (λ_ z=>by cases z)) g1,sx _ _ (n g2 (λ_ z=>by cases z)) g2,sx _ _ (n g3 (λ_ z=>by cases z)) g3,sx _ _ (n g4 (λ_ z=>by cases z)) g4⟩
  refine ZV (a:=d) (o:=o) (kvs:=ks.map kvI) (λi σ H3=>∃(v4 v5 v6:Option V)(acc:KI),σ=[some (.ref d),some x,some (.ref e),some (.ref a),v4,v5,v6]/\SameX d H H3/\H3 d=some (.frz o (.dT (ks.map kvI)))/\H3 a=some (.dT (acc.map kvI))/\Rep acc (Zaj rs s t j (ks.take i)))
   ⟨none,none,none,[],rfl,S2,hd2,e2,Rep.nil⟩ (λi σ H3 _ ⟨_,_,_,_,_,_,y,_⟩=>y) ?_ ?_
  ·rintro i kk v b σ H3 hkv hb ⟨v4,v5,v6,acc,rfl,s3,hd3,e3,rp⟩;rw [List.getElem?_map] at hkv;obtain ⟨p,hp,ep⟩:=Option.map_eq_some_iff.mp hkv;cases ep;have hpm:=List.mem_of_getElem? hp;rw [Va] at hb;refine ⟨JF,λT hT=>?_⟩;have s4:Same H3 (upd H3 T (.tup [.bl false,.bl true])):=Same.new hT;have e4:upd H3 T (.tup [.bl false,.bl true]) T=some (.tup [.bl false,.bl true]):=Gb;generalize upd H3 T (.tup [.bl false,.bl true])=H4 at s4 e4 ⊢;refine ⟨T,rfl,⟨_,SqT.of e4⟩,?_⟩;refine Zct (K:=K) (a:=T) (xs:=[.bl false,.bl true]) (λc σ H5=>c<=2/\∃(v5 v6:Option V)(acc:KI),σ=[some (.ref d),some x,some (.ref e),some (.ref a),some (.ref b),v5,v6]/\SameX a H4 H5/\SameX d H H5/\H5 d=some (.frz o (.dT (ks.map kvI)))/\H5 a=some (.dT (acc.map kvI))/\Rep acc (Zaj rs s t j (ks.take i)++ZaF rs s t j c p))
    ⟨by decide,_,_,acc,rfl,λ_ _ _ y=>y,s3.trans (SameX.of s4),s4 _ _ hd3,s4 _ _ e3,by simpa [ZaF] using rp⟩ (λc σ H5 _ ⟨_,_,_,_,_,sx,_⟩=>SqT.of (sx _ _ (JY e4 (s4 _ _ e3) (λz=>by cases z)) e4)) ?_ ?_
   ·rintro c y σ H5 hy ⟨hc2,v5,v6,acc,rfl,sx,s5,hd5,e5,rp⟩;have hcl:c<2:=(List.getElem?_eq_some_iff.mp hy).1;obtain ⟨ch,rfl,hch⟩:∃ch:Bool,y=.bl ch/\[false,true][c]?=some ch:=by
     rcases (by lia:c=0\/c=1) with rfl | rfl
     ·cases hy;exact ⟨_,rfl,rfl⟩
     ·cases hy;exact ⟨_,rfl,rfl⟩
    have hb5:H5 b=some (.tup (p.1.map V.int)):=sx _ _ (JY (s4 _ _ hb) (s4 _ _ e3) (λz=>by cases z)) (s4 _ _ hb);have one1:ZaF rs s t j (c+1) p=ZaF rs s t j c p++(X9 rs s t p.1 j ch).toList.flatMap λm=>List.replicate p.2.toNat m:=by
     unfold ZaF;rw [List.take_add_one,hch,List.flatMap_append];simp
    refine ⟨_,rfl,_,rfl,_,rfl,_,rfl,b,e,x,p.1,rs,s,t,j,ch,rfl,hb5,kst s5,ked s5 hd5,hms p hpm,λH6 s6 z=>?_,λT2 m' H6 s6 eT z=>?_⟩
    ·refine ⟨_,rfl,rfl,_,rfl,Js ?_⟩;exact ⟨by lia,_,_,acc,rfl,sx.trans (SameX.of s6),s5.trans (SameX.of s6),s6 _ _ hd5,s6 _ _ e5,by rw [one1,z];simpa using rp⟩
    ·refine ⟨_,rfl,rfl,_,rfl,?_⟩;rw [decide_eq_false (by intro z;cases z)];refine Jl ?_;have pp:=rep.pos p hpm;have hd6:=s6 _ _ hd5;have e6:=s6 _ _ e5;have eTk:H6 T2=some (.tup ((m'.map (Sum.inl:Int->Key)).map kV)):=by rw [Va];exact eT
     have ebk:H6 b=some (.tup ((p.1.map (Sum.inl:Int->Key)).map kV)):=by rw [Va];exact s6 _ _ hb5
     have vb:J1 (ks.map kvI) (p.1.map Sum.inl)=some (.int p.2):=by rw [VT,Xs rep.nd hpm];rfl
     have hal:acc.length<=4194304:=Nat.le_trans (OP rp λm hm=>inU m ((WH rep).mem_iff.mp (Zal rep i c p hp (by lia) m hm))) hU;have ev:(J1 (acc.map kvI) (m'.map Sum.inl)).getD (.int 0)=.int ((Yb acc m').getD 0):=by rw [VT];cases Yb acc m' <;> rfl
     refine ⟨_,rfl,a,rfl,.inr ⟨_,.inl e6⟩,_,rfl,_,DGet.t e6 eTk,?_⟩;rw [ev];have dg:DGet H6 d (.ref b) (some (.int p.2)):=by rw [<-vb];exact Or.inr ⟨_,_,b,.inr ⟨o,hd6⟩,rfl,ebk,rfl⟩
     refine ⟨_,rfl,_,rfl,d,_,rfl,dg,_,_,rfl,rfl,?_⟩;refine ⟨_,rfl,_,rfl,a,_,rfl,DPut.t e6 eTk (by rw [List.length_map];lia),?_⟩;rw [Zai];have nda:d≠a:=Ne.symm nad;refine ⟨by lia,_,_,ZaE acc m' ((Yb acc m').getD 0+p.2),rfl,(sx.trans (SameX.of s6)).trans (λc' u n y=>Gq y n),?_,Gq hd6 nda,Gb,?_⟩
     ·intro c' u n y;have y6:=s6 _ _ (s5 c' u n y);exact Gq y6 (λz=>by rw [z] at y;rw [ha] at y;cases y)
     ·have:=rp.put (m:=m') (n:=p.2) pp;rw [one1,z,<-List.append_assoc];simpa using this
   ·rintro σ H5 ⟨_,v5,v6,acc,rfl,sx,s5,hd5,e5,rp⟩;refine ⟨_,_,_,acc,rfl,s5,hd5,e5,?_⟩;rw [List.take_add_one,hp];show Rep acc (Zaj rs s t j (ks.take i++[p]));rw [Zak];exact rp
  ·rintro σ H3 ⟨v4,v5,v6,acc,rfl,s3,hd3,e3,rp⟩;rw [List.length_map,List.take_length] at rp;exact ⟨_,rfl,q a acc H3 s3 ha e3 (rp.perm (WH rep))⟩
end
theorem OA {l:List Int}{i:Nat}{v q:Int}(h:q∈l.set i v):q=v\/q∈l:=(List.mem_or_eq_of_mem_set h).symm
def OkM (k:Nat)(m:List Int):Prop:=m.length=k+1/\∀q∈m,q<(k:Int)
theorem Zga {k:Nat}{m:List Int}(h:OkM k m){p:Int}(p0:0<=p)(pk:p<(k:Int)):gA m p<(k:Int):=h.2 _ (Oh (by have:=h.1;lia))
theorem ZeY {k:Nat}{m:List Int}{s t:Int}(h:OkM k m){p:Int}(p0:0<=p)(pk:p<(k:Int))(k1:1<=k):WN s t m p<(k:Int):=by
 unfold WN;split
 ·rcases UM s t p with ⟨_,e⟩ | ⟨_,_,e⟩ | ⟨_,_,e⟩ <;> lia
 ·exact Zga h p0 pk
theorem Zgb {k:Nat}{m:List Int}{s t:Int}{r:Int×Int}(h:OkM k m)(h1:0<=r.1/\r.1<r.2/\r.2<(k:Int))(k1:1<=k):OkM k (pC s t m r):=by
 refine ⟨pC_len.trans h.1,λq hq=>?_⟩;have fa:=ZeY (s:=s) (t:=t) h h1.1 (by lia) k1;have fb:=ZeY (s:=s) (t:=t) h (show 0<=r.2 by lia) h1.2.2 k1;have base:∀q∈(m.set r.1.toNat (-1)).set r.2.toNat (-1),q<(k:Int):=λq hq=>by
  rcases OA hq with z | hq
  ·lia
  ·rcases OA hq with z | hq
   ·lia
   ·exact h.2 q hq
 unfold pC at hq;split at hq
 ·exact base q hq
 ·unfold pW1 at hq;dsimp only at hq;split at hq
  ·rcases OA hq with z | hq
   ·lia
   ·split at hq
    ·rcases OA hq with z | hq
     ·lia
     ·exact base q hq
    ·exact base q hq
  ·split at hq
   ·rcases OA hq with z | hq
    ·lia
    ·exact base q hq
   ·exact base q hq
theorem Zds {k:Nat}{m m':List Int}{s t:Int}{r:Int×Int}(h:OkM k m)(h1:0<=r.1/\r.1<r.2/\r.2<(k:Int))(k1:1<=k)(e:O9 s t m r=some m'):OkM k m':=by
 have c:=Zgb (s:=s) (t:=t) h h1 k1;unfold O9 at e;split at e
 ·cases e
 ·split at e
  ·split at e
   ·cases e
   ·cases e;refine ⟨by rw [List.length_set];exact c.1,λq hq=>?_⟩;rcases OA hq with z | hq
    ·lia
    ·exact c.2 q hq
  ·cases e;exact c
theorem Zdt {k:Nat}{m m' L N:List Int}(h:OkM k m)(k1:1<=k)(e:YM m L N=some m'):OkM k m':=by
 have key:∀(L:List Int)(m:List Int),OkM k m->OkM k (L.foldl (λm p=>m.set p.toNat (-2)) m):=by
  intro L
  induction L with
  | nil=>intro m h;exact h
  | cons p L ih=>
   intro m h;refine ih _ ⟨by rw [List.length_set];exact h.1,λq hq=>?_⟩;rcases OA hq with z | hq
   ·lia
   ·exact h.2 q hq
 unfold YM at e;split at e
 ·cases e;exact h
 ·split at e
  ·cases e
  ·cases e;exact key L m h
theorem Zan {k:Nat}{m m':List Int}{rs:List (Int×Int)}{s t:Int}{j:Nat}{ch:Bool}(h:OkM k m)(h1:0<=(rs.getD j (0,0)).1/\(rs.getD j (0,0)).1<(rs.getD j (0,0)).2/\(rs.getD j (0,0)).2<(k:Int))(k1:1<=k)(e:X9 rs s t m j ch=some m'):OkM k m':=by
 unfold X9 at e;obtain ⟨m2,e2,e3⟩:=Option.bind_eq_some_iff.mp e;refine Zdt ?_ k1 e3;split at e2
 ·exact Zds h h1 k1 e2
 ·cases e2;exact h
theorem OQ {rs:List (Int×Int)}{j:Nat}(h:j<rs.length):rs.getD j (0,0)∈rs:=by
 rw [List.getD_eq_getElem?_getD,List.getElem?_eq_getElem h];exact List.getElem_mem h
theorem ZbE {rs:List (Int×Int)}{k:Nat}(k1:1<=k)(gr:∀r∈rs,0<=r.1/\r.1<r.2/\r.2<(k:Int)):∀{j:Nat},j<=rs.length->∀m∈RJ rs k j,OkM k m
 | 0,_,m,h=>by
  rw [List.mem_singleton.mp (show m∈[m0 k] from h)];exact ⟨List.length_replicate,λq hq=>by have:=(List.mem_replicate.mp hq).2;lia⟩
 | j+1,hj,m,h=>by
  obtain ⟨m1,h0,h1⟩:=List.mem_flatMap.mp h;have ih:=ZbE k1 gr (show j<=rs.length by lia) m1 h0;have rd:=gr _ (OQ (rs:=rs) (show j<rs.length by lia));rcases List.mem_append.mp h1 with h1 | h1
  ·exact Zan ih rd k1 (Option.mem_toList.mp h1)
  ·exact Zan ih rd k1 (Option.mem_toList.mp h1)
section
variable {P:Program}{w:World}{K:W.Frag}{mg:Str->Option Value}{base:Heap}
def Zgc:Sp:=λvs H Q _=>∃(wb l e e2:Addr)(k n:Nat)(xs:List V)(rs:List (Int×Int)),vs=[.ref wb,.ref e,.ref e2,.int (n:Int)]/\WebAt H wb l (k:Int) xs rs/\(1<=k/\k<=100/\rs.length<=100/\∀r∈rs,0<=r.1/\r.1<r.2/\r.2<(k:Int))/\EndD H e nE nE/\NedD H e2 nE nE/\n<=rs.length/\(∀j,j<=n->∃U:List (List Int),U.length<=4194304/\∀m∈RJ rs k j,m∈U) /\
 ∀(d:Addr)(ks:KI)(H':Hp),Same H H'->H d=none->H' d=some (.dT (ks.map kvI))->Rep ks (RJ rs k n)->Q (.ref d) H'
theorem scNb:Gr ["web", "ends", "needed", "i", "numbers", "marks", "step"] ["web", "ends", "needed", "i"] (Gc sNb):=⟨rfl,rfl,rfl,by decide +kernel,rfl,by decide +kernel,by decide +kernel⟩
theorem Zgd {f fFm fSo fBs:Addr}{fd fdFm fdSo fdBs:FuncData}(F:Fun K "numbers_behind" "numbers_behind" sNb f fd)(FFm:Fun K "first_marks" "first_marks" sFm fFm fdFm)(bFm:Binds K fdFm ["web", "needed"] [])(mFm:mg "first_marks" = some (.ref fFm))(GFm:GG P w K mg base CX0 4 fFm fdFm ["web", "needed"] Zf7)(FSo:Fun K "steps_of" "steps_of" sSo fSo fdSo)(bSo:Binds K fdSo ["web", "needed"] [])(mSo:mg "steps_of_marks" = some (.ref fSo))(GSo:GG P w K mg base CX0 2 fSo fdSo ["web", "needed"] Zf5)(FBs:Fun K "behind_step" "behind_step" sBs fBs fdBs)(bBs:Binds K fdBs ["numbers", "step", "ends"] [])(mBs:mg "behind_step" = some (.ref fBs))(GBs:GG P w K mg base CX0 4 fBs fdBs ["numbers", "step", "ends"] ZgV) :
  GG P w K mg base CX0 5 f fd ["web", "ends", "needed", "i"] Zgc:=by
 refine F.ok scNb (λvs H Q E h=>?_) (λcdv A outer s0 H vs Q E hr h=>?_)
 ·obtain ⟨_,_,_,_,_,_,_,_,rfl,_⟩:=h
  rfl
 ·obtain ⟨wb,l,e,e2',k,n,xs,rs,rfl,W,⟨g1,gk,g3,gr⟩,he,he2,hn,hU,q⟩:=h;have hu1:(A.deeper (PyProof.Rows.envOfC "numbers_behind" (Gc sNb) s0.heap.objs.size f cdv)).units+1<cLine:=by have:=hr.un;lia
  have h16:(16777216:Nat)=sizeLine:=sizeLine_eq.symm;have gp:∀r∈rs,0<=r.1/\r.1<r.2:=λr hr=>⟨(gr r hr).1,(gr r hr).2.1⟩;refine ⟨_,(@Gd _ _ _ _ _ (@Gs _ _ 4 _ _ _ _ scNb.nd rfl (Or.inl rfl) Vt rfl (by first | exact .inl rfl | exact .inr rfl))
    (@Gd _ _ _ _ _ (@JD _ _ _ _ _ _ _ _ PassesOwn.never rfl (JV K (@Gh _ _ _ _ _ _ _ _ _ _ _ _ _ _ _ _ GFm (hr.mono (by decide)) rfl mFm FFm.kp bFm .nil GQ (@Ga _ _ _ _ _ (pv 0) (@Ga _ _ _ _ _ (pv 2) Ge rfl) rfl) (by decide) rfl rfl)) (Gi (i:=5) scNb.nd rfl (Or.inl rfl))
    (@Gf _ _ _ (Ow hu1 (pv 4) (pv 5) Gg rfl)) (by intro _;rfl))
    (@Gd _ _ _ _ _ (@JD _ _ _ _ _ _ _ _ PassesOwn.never rfl (JV K (J9 (kSl K) (@Gh _ _ _ _ _ _ _ _ _ _ _ _ _ _ _ _ GSo (hr.mono (by decide)) rfl mSo FSo.kp bSo .nil GQ (@Ga _ _ _ _ _ (pv 0) (@Ga _ _ _ _ _ (pv 2) Ge rfl) rfl) (by decide) rfl rfl) OY (OZ (pv 3)))) (Gi (i:=6) scNb.nd rfl (Or.inl rfl))
    (@Gf _ _ _ (@Gs _ _ 4 _ _ _ _ scNb.nd rfl (Or.inl rfl) (@Gh _ _ _ _ _ _ _ _ _ _ _ _ _ _ _ _ GBs (hr.mono (by decide)) rfl mBs FBs.kp bBs .nil GQ (@Ga _ _ _ _ _ (pv 4) (@Ga _ _ _ _ _ (pv 6) (@Ga _ _ _ _ _ (pv 1) Ge rfl) rfl) rfl) (by decide) rfl rfl) rfl (by first | exact .inl rfl | exact .inr rfl))) (by intro _;rfl))
    (@Gf _ _ _ (@Gu _ _ _ _ (pv 4)))))),?_⟩
  refine λd0 hd0=>?_;have s1:Same H (upd H d0 (.dT [])):=Same.new hd0;have e1:upd H d0 (.dT []) d0=some (.dT (([]:KI).map kvI)):=Gb;generalize upd H d0 (.dT [])=H1 at s1 e1 ⊢;dsimp only [G0];refine JN (λσ2 H2=>∃(v5:Option V)(ks:KI),σ2=[some (.ref wb),some (.ref e),some (.ref e2'),some (.int (n:Int)),some (.ref d0),v5,none]/\Same H H2/\H2 d0=some (.dT (ks.map kvI))/\Rep ks (RJ rs k 0)) ?_ (λJ=>?_)
  case _=>
   rintro σ2 H2 ⟨v5,ks,rfl,s2,e2,rp⟩;refine ⟨_,rfl,_,rfl,wb,l,e2',(k:Int),xs,rs,nE,nE,rfl,W.same s2,by lia,gp,he2.same s2,λS zs H3 s3 hS eS zl st _=>?_⟩;have S3:=s2.trans s3;refine ⟨_,rfl,(n:Int),rfl,S,_,rfl,SqL.of eS,λc2 hc2=>?_⟩;have s4:Same H3 (upd H3 c2 (.lst (WL zs none (some (n:Int))))):=Same.new hc2;have e4:upd H3 c2 (.lst (WL zs none (some (n:Int)))) c2=some (.lst (zs.take n)):=by rw [Gb,Zd9]
   generalize upd H3 c2 (.lst (WL zs none (some (n:Int))))=H4 at s4 e4 ⊢;have S4:=S3.trans s4;have tl:(zs.take n).length=n:=by rw [List.length_take];lia
   refine ⟨c2,rfl,⟨_,SqL.of e4⟩,?_⟩;have kc2:H2 c2=none:=by
    cases y:H2 c2 with
    | none=>rfl
    | some u=>rw [s3 _ _ y] at hc2;cases hc2
   refine OB (K:=K) (a:=c2) (xs:=zs.take n) (λi σ H5=>∃(v5 v6:Option V)(d:Addr)(ks:KI),σ=[some (.ref wb),some (.ref e),some (.ref e2'),some (.int (n:Int)),some (.ref d),v5,v6]/\Same H H5/\H d=none/\H5 c2=some (.lst (zs.take n))/\(∀j x,j<n->zs[j]?=some x->StepAt H5 x rs nE nE j)/\H5 d=some (.dT (ks.map kvI))/\Rep ks (RJ rs k i))
    ⟨_,_,d0,ks,rfl,S4,hd0,e4,λj x _ y=>(st j x y).same s4,(s3.trans s4) _ _ e2,rp⟩ (λi σ H5 _ ⟨_,_,_,_,_,_,_,y,_⟩=>SqL.of y) ?_ ?_
   ·rintro i x σ H5 hxi ⟨v5,v6,d,ks,rfl,s5,hdn,ec,hst5,ed,rp⟩;have hi:i<n:=by
     have:=(List.getElem?_eq_some_iff.mp hxi).1
     lia
    have hxz:zs[i]?=some x:=by
     rw [List.getElem?_take,if_pos hi] at hxi;exact hxi
    obtain ⟨U,hU1,hU2⟩:=hU (i+1) (by lia);refine ⟨_,rfl,_,rfl,_,rfl,d,e,x,ks,rs,nE,nE,i,RJ rs k i,rfl,ed,hst5 i x hi hxz,he.same s5,λp hp=>?_,rp,⟨U,hU1,hU2⟩,λd' ks' H6 sx hd' ed' rp'=>?_⟩
    ·have om:=ZbE (rs:=rs) (k:=k) (by lia) gr (by lia) _ (rp.mem hp);have hrd:=gr _ (OQ (rs:=rs) (show i<rs.length by lia));exact ⟨by lia,⟨hrd.1,hrd.2.1,by rw [om.1];lia⟩,λq hq=>by have:=om.2 q hq;rw [om.1];lia,by rw [om.1];lia⟩
    ·have S6:Same H H6:=λa u y=>sx a u (λz=>by rw [z,hdn] at y;cases y) (s5 a u y);have ncd:c2≠d:=JY ec ed (λz=>by cases z);refine ⟨_,_,d',ks',rfl,S6,?_,sx _ _ ncd ec,λj y hj hy=>?_,ed',rp'⟩
     ·cases y:H d' with
      | none=>rfl
      | some u=>rw [s5 _ _ y] at hd';cases hd'
     ·obtain ⟨T,r,lv,nd,ex,g1,g2,g3,g4⟩:=(hst5 j y hj hy).ex;have nn:∀{b u},H5 b=some u->(∀kvs,u≠.dT kvs)->b≠d:=λ{b u} y z y2=>by rw [y2,ed] at y;cases y;exact z _ rfl
      exact ⟨T,r,lv,nd,ex,sx _ _ (nn g1 (λ_ z=>by cases z)) g1,sx _ _ (nn g2 (λ_ z=>by cases z)) g2,sx _ _ (nn g3 (λ_ z=>by cases z)) g3,sx _ _ (nn g4 (λ_ z=>by cases z)) g4⟩
   ·rintro σ H5 ⟨v5,v6,d,ks,rfl,s5,hdn,ec,hst5,ed,rp⟩;rw [tl] at rp;exact ⟨_,rfl,q d ks H5 s5 hdn ed rp⟩
  ·refine ⟨_,rfl,_,rfl,wb,l,e2',k,xs,rs,rfl,W.same s1,gk,he2.same s1,λF0 T1 H2 s2 hF0 eys eT=>?_⟩;refine ⟨F0,rfl,⟨_,SqL.of eys⟩,?_⟩;have e2:=s2 _ _ e1;have nF:F0≠d0:=JY eys e2 (λz=>by cases z);have eTk:H2 T1=some (.tup (((m0 k).map (Sum.inl:Int->Key)).map kV)):=by rw [Va];exact eT
   refine OB (K:=K) (a:=F0) (xs:=[.ref T1]) (λi σ H3=>∃v5:Option V,σ=[some (.ref wb),some (.ref e),some (.ref e2'),some (.int (n:Int)),some (.ref d0),v5,none]/\H3 F0=some (.lst [.ref T1])/\Same H H3/\(i=0->H3=H2)/\(i=1->H3 d0=some (.dT ([(m0 k,1)].map kvI)))) ⟨_,rfl,eys,s1.trans s2,λ_=>rfl,λz=>by cases z⟩ (λi σ H3 _ ⟨_,_,y,_⟩=>SqL.of y) ?_ ?_
   ·rintro i x σ H3 hx ⟨v5,rfl,y1,y2,y3,_⟩;have i0:i=0:=by
     have:=(List.getElem?_eq_some_iff.mp hx).1;simp at this;exact this
    subst i0;cases hx;obtain rfl:=y3 rfl;refine ⟨_,rfl,_,rfl,d0,_,rfl,DPut.t e2 eTk (by show 0<sizeLine;lia),?_⟩;have pk:=Zai [] (m0 k) 1;refine ⟨_,rfl,Gq y1 nF,y2.put hd0,(λz=>by cases z),λ_=>?_⟩;rw [Gb];exact congrArg (λz=>some (HO.dT z)) pk
   ·rintro σ H3 ⟨v5,rfl,y1,y2,_,y4⟩;refine J _ _ ⟨_,[(m0 k,1)],rfl,y2,y4 rfl,?_⟩;show Rep [(m0 k,1)] [m0 k];exact ⟨by simp,by simp,by show (List.replicate 1 (m0 k)++[]).Perm [m0 k];simp⟩
end
end M
namespace M
open PySem L2
section
variable {P:Program}{w:World}{K:W.Frag}{mg:Str->Option Value}{base:Heap}
def Ve (C:Addr):Sp:=λvs H Q E=>∃(r c:Int),vs=[.int r,.int c] /\
 ((∃r' c':Nat,r=(r':Int)/\c=(c':Int)/\1<=r'/\1<=c'/\r'<=16/\c'<=16/\∀(p l:Addr)(xs:List V)(H':Hp),Same H H'->H p=none->H l=none->p≠l->H' p=some (.tup [.int (r * c),.ref l])->H' l=some (.lst xs)->Prs H' xs (gRoads r' c' (r' * c'))->Q (.ref p) H') \/
  ((r<1\/c<1)/\E (.ref C) none H))
theorem scGrid:Gr ["rows", "columns", "places", "roads", "place"] ["rows", "columns"] (Gc sGr):=⟨rfl,rfl,rfl,by decide +kernel,rfl,by decide +kernel,by decide +kernel⟩
theorem ZbF (r c p:Nat):(WY r c p).length<=2:=by
 unfold WY;rw [List.length_append];split <;> split <;> simp
theorem JL (r c:Nat):∀i,(gRoads r c i).length<=2 * i
 | 0=>by simp [gRoads]
 | i+1=>by
  have h1:=JL r c i;have h2:=ZbF r c i;rw [Ou,List.length_append]
  lia
theorem Zdu {f C:Addr}{fd:FuncData}(F:Fun K "grid" "grid" sGr f fd)(mC:mg "NoWeb" = some (.ref C))(xC:ExcC K C)(mRange:mg "range" = none):GG P w K mg base (CXr P w) 1 f fd ["rows", "columns"] (Ve C):=by
 refine F.okR scGrid (λvs H Q E h=>?_) (λcdv A outer s H vs Q E hr h=>?_)
 ·obtain ⟨r,c,rfl,_⟩:=h
  rfl
 ·obtain ⟨r,c,rfl,h⟩:=h;have mR:=mRange;refine ⟨_,Gd (Je (PW.pt (Uv (Gw Vk (pv 0) Gg (GE _)) (Ut (Gw Vk (pv 1) Gg (GE _))))) (Gf (JM (E:=E) rfl G3 rfl mC xC (Ga Jt Ge))) GB)
   (PSs.nox (Gd (Gs (i:=2) scGrid.nd rfl (Or.inl rfl) (GF JS (pv 0) (pv 1)))
   (Gd (Gs (i:=3) scGrid.nd rfl (Or.inl rfl) (Jd Ge))
   (Gd (JD PassesOwn.never rfl (V0 rfl mR (Ga (pv 2) Ge)) (Gi (i:=4) scGrid.nd rfl (Or.inl rfl))
    (Gd (Je (Gw WU (GF UX (GF G7 (pv 4) Gg) (pv 1)) Gg (GE _))
     (Gf (Jk (O0 PySem.F.plainAttrs_list PySem.F.slot_list_append PySem.F.type_list_append Ja (pv 3) (Ga (Jo (Ga (pv 4) (Ga (GF G7 (pv 4) Gg) Ge))) Ge)))) GB)
    (Gf (Je (Gw Vk (GF G7 (pv 4) (pv 1)) (pv 2) (GE _))
     (Gf (Jk (O0 PySem.F.plainAttrs_list PySem.F.slot_list_append PySem.F.type_list_append Ja (pv 3) (Ga (Jo (Ga (pv 4) (Ga (GF G7 (pv 4) (pv 1)) Ge))) Ge)))) GB))))
   (Gf (Gu (Jo (Ga (pv 2) (Ga (pv 3) Ge))))))))),?_⟩
  refine ⟨_,rfl,_,_,rfl,rfl,_,rfl,?_⟩;rcases h with ⟨r',c',rfl,rfl,hr1,hc1,hr2,hc2,q⟩ | ⟨hbad,q⟩
  ·rw [decide_eq_false (show ¬ ((r':Int)<1) by lia)];refine Js ?_;refine ⟨_,rfl,_,_,rfl,rfl,_,rfl,?_⟩;rw [decide_eq_false (show ¬ ((c':Int)<1) by lia)];refine Js ?_;refine ⟨_,rfl,_,rfl,_,_,rfl,rfl,.inl ⟨by lia,by lia⟩,?_⟩;refine ⟨Nat.zero_le _,λl hl=>?_⟩;have hrc:(r':Int) * (c':Int)=((r' * c':Nat):Int):=by push_cast;rfl
   have hb:r' * c'<=16 * 16:=Nat.mul_le_mul hr2 hc2;refine ⟨_,rfl,_,rfl,(by rw [hrc];lia),(by rw [hrc];lia),?_⟩;have s0:Same H (upd H l (.lst [])):=Same.new hl;refine YZ (lo:=0) (λi σ H2=>∃(xs:List V)(v:Option V),σ=[some (.int r'),some (.int c'),some (.int ((r':Int) * (c':Int))),some (.ref l),v]/\Same H H2/\H2 l=some (.lst xs)/\Prs H2 xs (gRoads r' c' i))
    ⟨[],none,rfl,s0,Gb,.nil⟩ ?_ ?_
   ·rintro i σ H2 hi ⟨xs,v,rfl,s2,h2,p2⟩;have hi':i<r' * c':=by rw [hrc,Int.toNat_natCast] at hi;exact hi
    rw [show (0:Int)+(i:Int)=(i:Int) by lia];have qV:∀{zs:List V}{rs:List (Int×Int)}{H3:Hp},Prs H3 zs rs->rs.length<=2 * i+1->zs.length<sizeLine:=λp hq=>by
     have:=p.len;have h16:(16777216:Nat)=sizeLine:=sizeLine_eq.symm
     lia
    have hgl:=JL r' c' i;have step2:∀(xs:List V)(H3:Hp),Same H H3->H3 l=some (.lst xs)->Prs H3 xs (gRoads r' c' i++(if ((i:Int)+1) % (c':Int)=0 then [] else [((i:Int),(i:Int)+1)])) ->
      Zgw (ZaJ (tOp (rI0 λi j=>.bl (decide (i<j))) (tOp (rI0 λi j=>.int (i+j)) (Yn 4) (Yn 1)) (Yn 2)))
       (ZdR (tBM K "list" Za (Yn 3) (Y5 (ZgD (Y5 (Yn 4) (Y5 (tOp (rI0 λi j=>.int (i+j)) (Yn 4) (Yn 1)) ZdZ))) ZdZ))) Zcr
       { nx:=λσ H2=>∃(xs:List V)(v:Option V),σ=[some (.int r'),some (.int c'),some (.int ((r':Int) * (c':Int))),some (.ref l),v]/\Same H H2/\H2 l=some (.lst xs)/\Prs H2 xs (gRoads r' c' (i+1)),rt:=Q }
       [some (.int r'),some (.int c'),some (.int ((r':Int) * (c':Int))),some (.ref l),some (.int (i:Int))] H3:=by
     intro xs H3 s3 h3 p3;refine ⟨_,rfl,_,rfl,_,_,rfl,rfl,_,rfl,_,_,rfl,rfl,_,rfl,?_⟩;refine Uk (λz=>?_) (λz=>?_)
     ·have z':=of_decide_eq_true z;refine ⟨_,rfl,.inl ⟨rfl,_,SqL.of h3⟩,_,rfl,_,rfl,_,rfl,_,_,rfl,rfl,JF,λt ht=>?_⟩;have hne:l≠t:=λq=>by rw [q,ht] at h3;cases h3
      obtain ⟨a1,a2,a3⟩:=XJ (a:=(i:Int)) (b:=(i:Int)+(c':Int)) s3 hl h3 p3 ht;refine ⟨l,xs,_,rfl,rfl,Gq h3 hne,qV p3 (by rw [List.length_append];split <;> simp <;> lia),xs++[.ref t],_,rfl,a1,a2,?_⟩;rw [Ou];unfold WY;rw [if_pos z',<-List.append_assoc];exact a3
     ·have z':¬ ((i:Int)+(c':Int)<(r':Int) * (c':Int)):=λq=>z (decide_eq_true q);refine ⟨xs,_,rfl,s3,h3,?_⟩;rw [Ou];unfold WY;rw [if_neg z',List.append_nil];exact p3
    refine ⟨_,rfl,_,_,rfl,rfl,_,rfl,_,_,rfl,rfl,(by show (0:Int)<(c':Int);lia),rfl,_,rfl,?_⟩;by_cases z:((i:Int)+1) % (c':Int)=0
    ·have zz:(!decide (V.int (((i:Int)+1) % (c':Int))=V.int 0))=false:=by rw [z];simp
     refine (if_neg (show ¬ ((!decide (V.int (((i:Int)+1) % (c':Int))=V.int 0))=true) by rw [zz];exact Bool.false_ne_true)).mpr ?_;exact step2 xs H2 s2 h2 (by rw [if_pos z,List.append_nil];exact p2)
    ·have zz:(!decide (V.int (((i:Int)+1) % (c':Int))=V.int 0))=true:=by simp [z]
     refine (if_pos zz).mpr ?_;refine ⟨_,rfl,.inl ⟨rfl,_,SqL.of h2⟩,_,rfl,_,rfl,_,_,rfl,rfl,JF,λt ht=>?_⟩;have hne:l≠t:=λq=>by rw [q,ht] at h2;cases h2
     obtain ⟨a1,a2,a3⟩:=XJ (a:=(i:Int)) (b:=(i:Int)+1) s2 hl h2 p2 ht;exact ⟨l,xs,_,rfl,rfl,Gq h2 hne,qV p2 (by lia),step2 _ _ a1 a2 (by rw [if_neg z];exact a3)⟩
   ·rintro σ H2 ⟨xs,v,rfl,s2,h2,p2⟩;refine ⟨_,rfl,_,rfl,JF,λp hp=>?_⟩;have hne:l≠p:=λq=>by rw [q,hp] at h2;cases h2
    refine q p l xs _ (s2.put (s2.free hp)) (s2.free hp) hl (Ne.symm hne) Gb (Gq h2 hne) ?_;have p3:=p2.keep (XI (o:=.tup [.int ((r':Int) * (c':Int)),.ref l]) hp);rw [hrc,Int.toNat_natCast] at p3;rw [hrc];exact p3
  ·by_cases z:r<1
   ·rw [decide_eq_true z];refine Jl ?_;exact ⟨by decide,q⟩
   ·rw [decide_eq_false z];refine Js ⟨_,rfl,_,_,rfl,rfl,_,rfl,?_⟩;rw [decide_eq_true (show c<1 from hbad.elim (λy=>absurd y z) id)];refine Jl ?_;exact ⟨by decide,q⟩
def Zge:Sp:=λvs H Q _=>∃c:Int,vs=[.int c]/\Q (.int (2 * c-1)) H
theorem ZhD:Gr ["columns"] ["columns"] (Gc sRr):=⟨rfl,rfl,rfl,by decide +kernel,rfl,by decide +kernel,by decide +kernel⟩
theorem Zgf {f:Addr}{fd:FuncData}(F:Fun K "roads_of_row" "roads_of_row" sRr f fd):GG P w K mg base CX0 1 f fd ["columns"] Zge:=by
 refine F.ok ZhD (λvs H Q E h=>?_) (λcdv A outer s0 H vs Q E hr h=>?_)
 ·obtain ⟨_,rfl,_⟩:=h
  rfl
 ·obtain ⟨c,rfl,q⟩:=h;refine ⟨_,Gf (Gu (GF UW (GF JS Gg (pv 0)) Gg)),?_⟩;exact ⟨_,rfl,_,_,rfl,rfl,.inl ⟨by decide,by decide⟩,_,_,rfl,rfl,q⟩
def sgn (m p:Int):Nat:=if m=-2 then 46 else if p<m then 40 else 41
def ZgW:Sp:=λvs H Q _=>∃m p:Int,vs=[.int m,.int p]/\Q (.str (mkS [sgn m p])) H
theorem ZhE:Gr ["mark", "place"] ["mark", "place"] (Gc sSg):=⟨rfl,rfl,rfl,by decide +kernel,rfl,by decide +kernel,by decide +kernel⟩
theorem Zgg {f:Addr}{fd:FuncData}(F:Fun K "sign_of" "sign_of" sSg f fd){u2:Tok}(mFREE:mg "FREE" = some (.int (-2) u2)):GG P w K mg base CX0 1 f fd ["mark", "place"] ZgW:=by
 refine F.ok ZhE (λvs H Q E h=>?_) (λcdv A outer s0 H vs Q E hr h=>?_)
 ·obtain ⟨_,_,rfl,_⟩:=h
  rfl
 ·obtain ⟨m,p,rfl,q⟩:=h;refine ⟨_,Gd (Je (Gw UQ (pv 0) (G8 (v:=.int (-2)) rfl mFREE ⟨_,rfl⟩) (GE _)) (Gf (Gu Jt)) GB)
    (Gf (Gu (Uj (Gw Zcv (pv 0) (pv 1) (GE _)) Jt Jt))),?_⟩
  unfold sgn at q;refine ⟨_,rfl,rfl,_,rfl,?_⟩;rw [JH];refine Uk (λz=>?_) (λz=>?_)
  ·rw [if_pos (of_decide_eq_true z)] at q;exact q
  ·rw [if_neg (λy=>z (decide_eq_true y))] at q;refine ⟨_,rfl,_,rfl,_,_,rfl,rfl,_,rfl,?_⟩;refine Uk (λz=>?_) (λz=>?_)
   ·rw [if_pos (show p<m from of_decide_eq_true z)] at q;exact q
   ·rw [if_neg (show ¬ p<m from λy=>z (decide_eq_true y))] at q;exact q
def YQ (m:List Int)(f:Int)(c:Nat):List Nat:=(List.range c).map λ(j:Nat)=>sgn (gA m (f+(j:Int))) (f+(j:Int))
def Zgh:Sp:=λvs H Q _=>∃(b:Addr)(m:List Int)(i c:Nat),vs=[.ref b,.int (i:Int),.int (c:Int)]/\H b=some (.tup (m.map V.int))/\(i+1) * c<=m.length/\1<=c/\i<=100/\c<=100/\∀H',Same H H'->Q (.str (mkS (YQ m ((i:Int) * (c:Int)) c))) H'
theorem scWn:Gr ["marks", "row", "columns", "first"] ["marks", "row", "columns"] (Gc sWn):=⟨rfl,rfl,rfl,by decide +kernel,rfl,by decide +kernel,by decide +kernel⟩
theorem Zgi {f fSg:Addr}{fd fdSg:FuncData}(F:Fun K "word_in" "word_in" sWn f fd)(FSg:Fun K "sign_of" "sign_of" sSg fSg fdSg)(bSg:Binds K fdSg ["mark", "place"] [])(mSg:mg "sign_of" = some (.ref fSg))(GSg:GG P w K mg base CX0 1 fSg fdSg ["mark", "place"] ZgW)(mRange:mg "range" = none):GG P w K mg base CX0 2 f fd ["marks", "row", "columns"] Zgh:=by
 refine F.ok scWn (λvs H Q E h=>?_) (λcdv A outer s0 H vs Q E hr h=>?_)
 ·obtain ⟨_,_,_,_,rfl,_⟩:=h
  rfl
 ·obtain ⟨b,m,i,c,rfl,hb,hl,c1,i1,c2,q⟩:=h;have h16:(16777216:Nat)=sizeLine:=sizeLine_eq.symm;refine ⟨_,Gd (Gs (i:=3) scWn.nd rfl (Or.inl rfl) (GF JS (pv 1) (pv 2)))
    (Gf (Gu (O0 PySem.F.plainAttrs_str PySem.F.slot_str_join PySem.F.type_str_join (Zc6 K) Jt (Ga (G9 (own:=["place"]) rfl (Go (fr:=[("marks", 0)]) [(".0", .local),("place", .local),("sign_of", .globalImplicit),("marks", .cell)] rfl rfl (by decide +kernel) rfl (by decide +kernel) ⟨rfl,trivial⟩ ⟨λh=>GN h,λh=>GN h,λh=>GN h,λ_=>⟨_,rfl⟩,trivial⟩ ⟨⟨rfl,.inl rfl,.inl rfl⟩,trivial⟩) (V1 rfl mRange (Ga (pv 3) (Ga (GF G7 (pv 3) (pv 2)) Ge))) (λ_ _ _ _=>Gi (i:=0) (show List.Nodup (["place", "marks"]:List Str) by decide +kernel) rfl (Or.inl rfl)) (λ_ _ _ _=>G5) (λ_ _ _ _=>Gh GSg (hr.mono (by decide)) rfl mSg FSg.kp bSg .nil GQ (Ga (GJ (Op K) (pv 1) (pv 0) (λ_ _=>rfl)) (Ga (pv 0) Ge)))) Ge)))),?_⟩
  refine ⟨_,rfl,_,rfl,_,_,rfl,rfl,.inl ⟨by lia,by lia⟩,?_⟩;dsimp only [G0];have hfc:(i:Int) * (c:Int)=((i * c:Nat):Int):=by push_cast;rfl
  have hic:i * c<=100 * 100:=Nat.mul_le_mul i1 c2;have hic2:(i+1) * c=i * c+c:=Nat.succ_mul i c;rw [hfc] at q ⊢;generalize i * c=f at *;refine ⟨rfl,_,rfl,_,rfl,_,rfl,_,_,rfl,rfl,_,_,rfl,⟨by lia,by lia,by lia,by lia⟩,λD hD=>?_⟩;rw [show ((f:Int)+(c:Int)-(f:Int)).toNat=c by lia];refine O1 (lo:=(f:Int)) (n:=c) (λj ys H2=>Same H H2/\H2 D=some (.lst ys)/\ys=(((List.range j).map λ(j:Nat)=>sgn (gA m ((f:Int)+(j:Int))) ((f:Int)+(j:Int))).map λc=>mkS [c]).map V.str) ⟨Same.new hD,Gb,rfl⟩ ?_ ?_
  ·rintro j ys H2 hj ⟨s2,hD2,rfl⟩;refine ⟨⟨rfl,trivial⟩,?_⟩;unfold Ys;refine Jl ?_;refine ⟨_,rfl,_,rfl,b,_,_,_,rfl,rfl,SqT.of (s2 _ _ hb),JU (by lia) (by lia),_,rfl,_,_,rfl,hD2,?_,s2.put hD,Gb,?_⟩
   ·rw [List.length_map,List.length_map,List.length_map,List.length_range]
    lia
   ·rw [List.range_succ,List.map_append,List.map_append,List.map_append]
    rfl
  ·rintro ys H2 ⟨s2,hD2,rfl⟩;refine ⟨_,D,_,rfl,rfl,SqL.of hD2,?_,?_⟩
   ·exact Zbn _ (by rw [List.length_map,List.length_range];lia)
   ·show Q (.str (Txt.join (mkS []) _)) _;rw [YF];exact q H2 s2
theorem str_mk {l l':List Nat}:mkS l=mkS l'↔l=l':=⟨λh=>by
 have h:(mkS l).cps.toList=(mkS l').cps.toList:=by rw [h]
 exact h,λh=>by rw [h]⟩
def dots (c:Nat):List Nat:=List.replicate c 46
def ZdH (ks:KI)(i c:Nat):List (Str×Int):=(ks.map λp=>(mkS (YQ p.1 ((i:Int) * (c:Int)) c),p.2)).filter λq=>!decide (q.1=mkS (dots c))
def ZgX (C:Addr):Sp:=λvs H Q E=>∃(r c i:Int),vs=[.int r,.int c,.int i] /\
 (((r<1\/c<1)/\E (.ref C) none H) \/
  (∃r' c':Nat,r=(r':Int)/\c=(c':Int)/\1<=r'/\1<=c'/\r'<=16/\c'<=16/\r' * c'<=40 /\
  ((¬ (1<=i/\i<r)/\∀H',Same H H'->E (.ref C) none H') \/
   (∃i':Nat,i=(i':Int)/\1<=i'/\i'<r'/\i' * (2 * c' - 1)<=(gRoads r' c' (r' * c')).length/\(∀j,j<=i' * (2 * c' - 1)->∃U:List (List Int),U.length<=4194304/\∀m∈RJ (gRoads r' c' (r' * c')) (r' * c') j,m∈U) /\
   ∀(l:Addr)(zs:List SIz)(ks:KI)(H':Hp),Same H H'->H l=none->H' l=some (.lst (zs.map λz=>V.ref z.1))->(∀z∈zs,H' z.1=some (.tup [.str z.2.1,.int z.2.2]))->Rep ks (RJ (gRoads r' c' (r' * c')) (r' * c') (i' * (2 * c' - 1)))->(zs.map (·.2)).Perm (ZdH ks i' c')->(zs.map (·.2)).Pairwise (λa b=>US b a=false)->Q (.ref l) H'))))
theorem scWb:Gr ["rows", "columns", "i", "web", "numbers", "told"] ["rows", "columns", "i"] (Gc sWb):=⟨rfl,rfl,rfl,by decide +kernel,rfl,by decide +kernel,by decide +kernel⟩
theorem Oj {r c:Nat}(hc:1<=c):∀q∈gRoads r c (r * c),0<=q.1/\q.1<q.2/\q.2<((r * c:Nat):Int):=by
 intro q hq;unfold gRoads at hq;obtain ⟨p,hp,hq⟩:=List.mem_flatMap.mp hq;have hp:=List.mem_range.mp hp;unfold WY at hq;have hm:((r * c:Nat):Int)=(r:Int) * (c:Int):=by push_cast;rfl
 rcases List.mem_append.mp hq with hq | hq
 ·split at hq
  ·cases hq
  ·rename_i hz;rw [List.mem_singleton.mp hq];have:p+1≠r * c:=λz=>hz (by
    have:(p:Int)+1=(r:Int) * (c:Int):=by rw [<-hm,<-z];push_cast;rfl
    rw [this];exact Int.mul_emod_left _ _)
   exact ⟨by show 0<=(p:Int);lia,by show (p:Int)<(p:Int)+1;lia,by show (p:Int)+1<_;lia⟩
 ·split at hq
  ·rename_i hz;rw [List.mem_singleton.mp hq];exact ⟨by show 0<=(p:Int);lia,by show (p:Int)<(p:Int)+(c:Int);lia,by show (p:Int)+(c:Int)<_;lia⟩
  ·cases hq
theorem Zgj {f fGr fNb fRr fWn C:Addr}{fd fdGr fdNb fdRr fdWn:FuncData}(F:Fun K "words_below" "words_below" sWb f fd)(FGr:Fun K "grid" "grid" sGr fGr fdGr)(bGr:Binds K fdGr ["rows", "columns"] [])(mGr:mg "grid" = some (.ref fGr))(GGr:GG P w K mg base (CXr P w) 1 fGr fdGr ["rows", "columns"] (Ve C))(FNb:Fun K "numbers_behind" "numbers_behind" sNb fNb fdNb)(bNb:Binds K fdNb ["web", "ends", "needed", "i"] [])(mNb:mg "numbers_behind" = some (.ref fNb))(GNb:GG P w K mg base CX0 5 fNb fdNb ["web", "ends", "needed", "i"] Zgc)(FRr:Fun K "roads_of_row" "roads_of_row" sRr fRr fdRr)(bRr:Binds K fdRr ["columns"] [])(mRr:mg "roads_of_row" = some (.ref fRr))(GRr:GG P w K mg base CX0 1 fRr fdRr ["columns"] Zge)(FWn:Fun K "word_in" "word_in" sWn fWn fdWn)(bWn:Binds K fdWn ["marks", "row", "columns"] [])(mWn:mg "word_in" = some (.ref fWn))(GWn:GG P w K mg base CX0 2 fWn fdWn ["marks", "row", "columns"] Zgh)(mC:mg "NoWeb" = some (.ref C))(xC:ExcC K C)(mSor:mg "sorted" = none):GG P w K mg base (CXr P w) 6 f fd ["rows", "columns", "i"] (ZgX C):=by
 refine F.okR scWb (λvs H Q E h=>?_) (λcdv A outer s0 H vs Q E hr h=>?_)
 ·obtain ⟨_,_,_,rfl,_⟩:=h
  rfl
 ·obtain ⟨r,c,i,rfl,h⟩:=h;have hu1:(A.deeper (PyProof.Rows.envOfC "words_below" (Gc sWb) s0.heap.objs.size f cdv)).units+1<cLine:=by have:=hr.un;lia
  have h16:(16777216:Nat)=sizeLine:=sizeLine_eq.symm;refine ⟨_,(@Gd _ _ _ _ _ (@Gs _ _ 3 _ _ _ _ scWb.nd rfl (Or.inl rfl) (@Gh _ _ _ _ _ _ _ _ _ _ _ _ _ _ _ _ GGr (hr.mono (by decide)) rfl mGr FGr.kp bGr .nil We (@Ga _ _ _ _ _ (pv 0) (@Ga _ _ _ _ _ (pv 1) Ge rfl) rfl) (by decide) rfl rfl) rfl (by first | exact .inl rfl | exact .inr rfl))
    (@Gd _ _ _ _ _ (@Je _ _ _ _ _ _ _ _ (Ub (ZaL Zcu Vk Gg (pv 2) (pv 0))) (@Gf _ _ _ (JM (E:=E) rfl G3 rfl mC xC (@Ga _ _ _ _ _ Jt Ge rfl))) GB)
    (@Gd _ _ _ _ _ (@Gs _ _ 4 _ _ _ _ scWb.nd rfl (Or.inr rfl) (@Gh _ _ _ _ _ _ _ _ _ _ _ _ _ _ _ _ GNb (hr.mono (by decide)) rfl mNb FNb.kp bNb .nil GQ (@Ga _ _ _ _ _ (pv 3) (@Ga _ _ _ _ _ Uq (@Ga _ _ _ _ _ Uq (@Ga _ _ _ _ _ (@GF _ _ _ _ _ _ _ _ JS (pv 2) (@Gh _ _ _ _ _ _ _ _ _ _ _ _ _ _ _ _ GRr (hr.mono (by decide)) rfl mRr FRr.kp bRr .nil GQ (@Ga _ _ _ _ _ (pv 1) Ge rfl) (by decide) rfl rfl)) Ge rfl) rfl) rfl) rfl) (by decide) rfl rfl) rfl (by first | exact .inl rfl | exact .inr rfl))
    (@Gd _ _ _ _ _ (UB (i:=5) scWb.nd rfl (Or.inl rfl) (own:=["marks"]) rfl (Go (fr:=[("columns", 1),("i", 2),("numbers", 4)]) [(".0", .local),("marks", .local),("word_in", .globalImplicit),("columns", .cell),("i", .cell),("numbers", .cell)] rfl rfl (by decide +kernel) rfl (by decide +kernel) ⟨rfl,rfl,rfl,trivial⟩ ⟨λh=>GN h,λh=>GN h,λh=>GN h,λ_=>⟨_,rfl⟩,λ_=>⟨_,rfl⟩,λ_=>⟨_,rfl⟩,trivial⟩ ⟨⟨rfl,.inl rfl,.inl rfl⟩,⟨rfl,.inl rfl,.inl rfl⟩,⟨rfl,.inl rfl,.inl rfl⟩,trivial⟩) (VF (pv 4)) (λ_ _ _ _=>Gi (i:=0) (show List.Nodup (["marks", "columns", "i", "numbers"]:List Str) by decide +kernel) rfl (Or.inl rfl)) (λ_ _ _ _=>G5) (λ_ _ _ _=>@Jo _ _ _ _ _ (@Ga _ _ _ _ _ (@Gh _ _ _ _ _ _ _ _ _ _ _ _ _ _ _ _ GWn (hr.mono (by decide)) rfl mWn FWn.kp bWn .nil GQ (@Ga _ _ _ _ _ (pv 0) (@Ga _ _ _ _ _ (pv 2) (@Ga _ _ _ _ _ (pv 1) Ge rfl) rfl) rfl) (by decide) rfl rfl) (@Ga _ _ _ _ _ (UD hu1 (pv 3) (pv 0) (λ_ _=>rfl)) Ge rfl) rfl)))
    (@Gf _ _ _ (@Gu _ _ _ _ (Gz (Zda K) rfl mSor PyProof.Rows.boot_sorted (@Ga _ _ _ _ _ (G9 (own:=["pair"]) rfl (Go (fr:=[("columns", 1)]) [(".0", .local),("pair", .local),("columns", .cell)] rfl rfl (by decide +kernel) rfl (by decide +kernel) ⟨rfl,trivial⟩ ⟨λh=>GN h,λh=>GN h,λ_=>⟨_,rfl⟩,trivial⟩ ⟨⟨rfl,.inl rfl,.inl rfl⟩,trivial⟩) (JV K (pv 5)) (λ_ _ _ _=>Gi (i:=0) (show List.Nodup (["pair", "columns"]:List Str) by decide +kernel) rfl (Or.inl rfl)) (λ_ _ _ _=>JE (Gw WU (@GJ _ _ _ _ _ _ _ (Op K) (pv 0) Gg (λ_ _=>rfl)) (@GF _ _ _ _ _ _ _ _ Xm Jt (pv 1)) (GE _))) (λ_ _ _ _=>pv 0)) Ge rfl)))))))),?_⟩
  rcases h with ⟨bad,e⟩ | ⟨r',c',rfl,rfl,r1,c1,r2,c2,rc,h⟩
  ·exact ⟨_,rfl,_,rfl,_,_,rfl,.inr ⟨bad,e⟩⟩
  refine ⟨_,rfl,_,rfl,_,_,rfl,.inl ⟨r',c',rfl,rfl,r1,c1,r2,c2,λwb l xs H1 s1 hwb hl nwl ewb el P1=>?_⟩⟩;have W1:WebAt H1 wb l ((r' * c':Nat):Int) xs (gRoads r' c' (r' * c')):=⟨by rw [ewb];push_cast;rfl,el,P1⟩;dsimp only [G0];have hgl:=JL r' c' (r' * c');rcases h with ⟨bad,e⟩ | ⟨i',rfl,i1,i2,il,hU,q⟩
  ·refine ⟨_,rfl,_,_,rfl,rfl,_,rfl,Uk (λh0=>?_) (λh0=>?_)⟩
   ·have h0':1<=i:=of_decide_eq_true h0;refine ⟨_,rfl,_,_,rfl,rfl,_,rfl,?_⟩;rw [decide_eq_false λz=>bad ⟨h0',z⟩];exact Jl ⟨by decide,e H1 s1⟩
   ·exact ⟨_,rfl,Jl ⟨by decide,e H1 s1⟩⟩
  refine ⟨_,rfl,_,_,rfl,rfl,_,rfl,?_⟩;rw [decide_eq_true (show (1:Int)<=(i':Int) by lia)];refine Jl ⟨_,rfl,_,_,rfl,rfl,_,rfl,?_⟩;rw [decide_eq_true (show (i':Int)<(r':Int) by lia)];refine Js ?_;have hi16:i' * (2 * c' - 1)<=16 * 31:=Nat.mul_le_mul (by lia) (by lia);refine ⟨_,rfl,λe1 he1 o1=>?_⟩;have s2:Same H1 (upd H1 e1 (.frz o1 (.dK []))):=Same.new he1;have E1:EndD (upd H1 e1 (.frz o1 (.dK []))) e1 nE nE:=⟨rfl,rfl,o1,Gb⟩;generalize upd H1 e1 (.frz o1 (.dK []))=H2 at s2 E1 ⊢;refine λe2 he2 o2=>?_;have s3:Same H2 (upd H2 e2 (.frz o2 (.dK []))):=Same.new he2;have E2:NedD (upd H2 e2 (.frz o2 (.dK []))) e2 nE nE:=.inl ⟨rfl,rfl,o2,Gb⟩;have E1':=E1.same s3;generalize upd H2 e2 (.frz o2 (.dK []))=H3 at s3 E2 E1' ⊢;have W3:=W1.same (s2.trans s3);have S3:=s1.trans (s2.trans s3);have hmul:(i':Int) * (2 * (c':Int)-1)=((i' * (2 * c' - 1):Nat):Int):=by
   rw [Int.natCast_mul,Int.natCast_sub (by lia)]
   push_cast
   rfl
  refine ⟨_,rfl,_,rfl,_,rfl,_,_,rfl,rfl,.inl ⟨by lia,by lia⟩,wb,l,e1,e2,r' * c',i' * (2 * c' - 1),xs,gRoads r' c' (r' * c'),by rw [<-hmul];rfl,W3,⟨Nat.mul_le_mul r1 c1,by lia,by lia,Oj c1⟩,E1',E2,il,hU,λd ks H4 s4 hd ed rp=>?_⟩;have S4:=S3.trans s4;dsimp only [G0];have hdH:H d=none:=S3.free hd;refine ⟨_,rfl,d,_,rfl,.inl ⟨ed,λo=>?_⟩⟩;have s5:SameX d H4 (upd H4 d (.frz o (.dT (ks.map kvI)))):=λb u n y=>Gq y n;have hd5:upd H4 d (.frz o (.dT (ks.map kvI))) d=some (.frz o (.dT (ks.map kvI))):=Gb;generalize upd H4 d (.frz o (.dT (ks.map kvI)))=H5 at s5 hd5 ⊢;have S5:Same H H5:=λa u y=>s5 _ _ (λz=>by rw [z,hdH] at y;cases y) (S4 _ _ y);refine λD hD=>?_;have rl:ks.length<=4194304:=by
   obtain ⟨U,h1,h2⟩:=hU _ (Nat.le_refl _);exact Nat.le_trans (OP rp h2) h1
  have hu1':=hu1
  let wd:List Int×Int->Str×Int:=λp=>(mkS (YQ p.1 ((i':Int) * (c':Int)) c'),p.2)
  refine U9 (a:=d) (o:=o) (kvs:=ks.map kvI) (λi ys H6=>∃zs:List SIz,ys=zs.map (λz=>V.ref z.1)/\Same H5 H6/\H6 D=some (.lst ys)/\zs.map (·.2)=(ks.take i).map wd/\∀z∈zs,H6 z.1=some (.tup [.str z.2.1,.int z.2.2]))
   ⟨[],rfl,Same.new hD,Gb,rfl,by simp⟩ (λi ys H6 _ ⟨_,_,y,_⟩=>y _ _ hd5) ?_ ?_
  ·rintro i kk v b ys H6 hkv hb ⟨zs,rfl,s6,hD6,hz,hzs⟩;rw [List.getElem?_map] at hkv;obtain ⟨p,hp,ep⟩:=Option.map_eq_some_iff.mp hkv;cases ep;have hpm:=List.mem_of_getElem? hp;have hil:i<ks.length:=(List.getElem?_eq_some_iff.mp hp).1;have ebk:=hb;rw [Va] at hb;have om:=ZbE (rs:=gRoads r' c' (r' * c')) (k:=r' * c') (Nat.mul_le_mul r1 c1) (Oj c1) il _ (rp.mem hpm);have vb:J1 (ks.map kvI) (p.1.map Sum.inl)=some (.int p.2):=by rw [VT,Xs rp.nd hpm];rfl
   refine ⟨⟨rfl,rfl,rfl,trivial⟩,?_⟩;unfold Ys;refine Jl ?_;have qV:(i'+1) * c'<=r' * c':=Nat.mul_le_mul_right c' (by lia);refine ⟨_,rfl,_,rfl,_,rfl,b,p.1,i',c',rfl,hb,by rw [om.1];lia,c1,by lia,by lia,λH7 s7=>?_⟩;have dg:DGet H7 d (.ref b) (some (.int p.2)):=by rw [<-vb];exact Or.inr ⟨_,_,b,.inr ⟨o,s7 _ _ (s6 _ _ hd5)⟩,rfl,s7 _ _ ebk,rfl⟩
   refine ⟨_,rfl,_,rfl,d,_,rfl,dg,JF,λT2 hT2=>?_⟩;have s8:Same H7 (upd H7 T2 (.tup [.str (wd p).1,.int p.2])):=Same.new hT2;have e8:upd H7 T2 (.tup [.str (wd p).1,.int p.2]) T2=some (.tup [.str (wd p).1,.int p.2]):=Gb;change upd H7 T2 (.tup [.str (wd p).1,.int p.2]) D=_/\_;generalize upd H7 T2 (.tup [.str (wd p).1,.int p.2])=H8 at s8 e8 ⊢;have hD8:=s8 _ _ (s7 _ _ hD6);have zl:(zs.map λz=>V.ref z.1).length=i:=by
    rw [List.length_map];have:=congrArg List.length hz;rw [List.length_map,List.length_map,List.length_take] at this
    lia
   have nD:∀{b u},H8 b=some u->(∀ys,u≠.lst ys)->b≠D:=λ{b u} y z y2=>by rw [y2,hD8] at y;cases y;exact z _ rfl
   refine ⟨hD8,by rw [zl];lia,zs++[(T2,wd p)],by rw [List.map_append];rfl,(s6.trans (s7.trans s8)).put hD,Gb,?_,λz hz'=>?_⟩
   ·rw [List.map_append,hz,List.take_add_one,hp,List.map_append]
    rfl
   ·rcases List.mem_append.mp hz' with hz' | hz'
    ·have y1:=s8 _ _ (s7 _ _ (hzs z hz'));exact Gq y1 (nD y1 (λ_ z=>by cases z))
    ·rw [List.mem_singleton.mp hz'];exact Gq e8 (nD e8 (λ_ z=>by cases z))
  ·rintro ys H6 ⟨zs,rfl,s6,hD6,hz,hzs⟩;rw [List.length_map,List.take_length] at hz;dsimp only [G0];have zl:zs.length=ks.length:=by
    have:=congrArg List.length hz
    rwa [List.length_map,List.length_map] at this
   refine ⟨_,rfl,D,rfl,⟨_,SqL.of hD6⟩,λD2 hD2=>?_⟩;refine GS (K:=K) (a:=D) (xs:=zs.map λz=>V.ref z.1) (λi ys H7=>∃us:List SIz,ys=us.map (λz=>V.ref z.1)/\Same H6 H7/\H7 D2=some (.lst ys)/\us=(zs.take i).filter λz=>!decide (z.2.1=mkS (dots c'))) ⟨[],rfl,Same.new hD2,Gb,rfl⟩ (λi ys H7 _ ⟨_,_,y,_⟩=>SqL.of (y _ _ hD6)) ?_ ?_
   ·rintro i x ys H7 hx ⟨us,rfl,s7,hD7,hus⟩;rw [List.getElem?_map] at hx;obtain ⟨z,hz1,rfl⟩:=Option.map_eq_some_iff.mp hx;have hzm:=List.mem_of_getElem? hz1;have hil:i<zs.length:=(List.getElem?_eq_some_iff.mp hz1).1;have ul:us.length<=i:=by
     rw [hus];refine Nat.le_trans (List.length_filter_le _ _) ?_;rw [List.length_take];lia
    refine ⟨⟨rfl,trivial⟩,?_⟩;refine ⟨_,rfl,z.1,_,_,_,rfl,rfl,SqT.of (s7 _ _ (hzs z hzm)),Gx (j:=0) rfl,_,rfl,46,c',rfl,rfl,c1,by lia,?_⟩;refine ⟨rfl,_,rfl,?_⟩;show if (!decide (V.str z.2.1=V.str (mkS (dots c'))))=true then _ else _
    have tk:(zs.take (i+1)).filter (λz=>!decide (z.2.1=mkS (dots c')))=us++(if z.2.1=mkS (dots c') then [] else [z]):=by
     rw [List.take_add_one,hz1,List.filter_append,<-hus]
     congr 1
     show List.filter _ [z]=_;rw [List.filter_cons];by_cases y:z.2.1=mkS (dots c')
     ·rw [if_neg (by rw [decide_eq_true y];exact Bool.false_ne_true),if_pos y];rfl
     ·rw [if_pos (by rw [decide_eq_false y];rfl),if_neg y];rfl
    by_cases y:z.2.1=mkS (dots c')
    ·rw [if_pos y,List.append_nil] at tk;rw [decide_eq_true (by rw [y])];refine Js ⟨us,rfl,s7,hD7,tk.symm⟩
    ·rw [if_neg y] at tk;rw [decide_eq_false (λq=>y (V.str.inj q))];refine Jl ⟨_,rfl,hD7,by rw [List.length_map];lia,us++[z],by rw [List.map_append];rfl,s7.put hD2,Gb,tk.symm⟩
   ·rintro ys H7 ⟨us,rfl,s7,hD7,hus⟩;rw [List.length_map,List.take_length] at hus;have um:∀z∈us,z∈zs:=λz hz'=>by rw [hus] at hz';exact (List.mem_filter.mp hz').1
    refine ⟨D2,us,rfl,SqL.of hD7,λz hz'=>SqT.of (s7 _ _ (hzs z (um z hz'))),λL zs' hL pm so=>?_⟩;have S7:Same H H7:=S5.trans (s6.trans s7);have s8:Same H7 (upd H7 L (.lst (zs'.map λz=>V.ref z.1))):=Same.new hL;refine q L zs' ks _ (S7.trans s8) (S7.free hL) Gb (λz hz'=>s8 _ _ (s7 _ _ (hzs z (um z (pm.mem_iff.mp hz'))))) rp ?_ so;refine (pm.map _).trans ?_;unfold ZdH;have e1:us.map (·.2)=(zs.map (·.2)).filter λq=>!decide (q.1=mkS (dots c')):=by
     rw [hus,List.filter_map]
     rfl
    rw [e1,hz]
end
end M
namespace M
open PySem L2
section
variable {P:Program}{w:World}{K:W.Frag}{mg:Str->Option Value}{base:Heap}
def ZgY:Sp:=λvs H Q _=>∃(c:Int)(k:Nat),vs=[.int c,.int (k:Int)]/\k<=100/\∀z:Int,Q (.int z) H
theorem scMi:Gr ["cell", "k", "number"] ["cell", "k"] (Gc sMi):=⟨rfl,rfl,rfl,by decide +kernel,rfl,by decide +kernel,by decide +kernel⟩
theorem Zgk {f:Addr}{fd:FuncData}(F:Fun K "_law_mixed" "_law_mixed" sMi f fd):GG P w K mg base CX0 1 f fd ["cell", "k"] ZgY:=by
 refine F.ok scMi (λvs H Q E h=>?_) (λcdv A outer s H vs Q E hr h=>?_)
 ·obtain ⟨_,_,rfl,_⟩:=h
  rfl
 ·obtain ⟨c,k,rfl,hk,q⟩:=h;refine ⟨_,Gd (Je (Gw ZaI (pv 0) (GF ZdW Gg Gg) (GE _)) (Gf (Gu (pv 0))) GB)
    (Gd (Gs (i:=2) scMi.nd rfl (Or.inl rfl) (GF UX (GF G7 (GF G7 (GF G7 (GF JS (pv 0) Gg) (GF JS (GF JS Gg (pv 1)) (pv 1))) (GF JS Gg (pv 1))) Gg) Gg))
    (Gd (Gs (i:=2) scMi.nd rfl (Or.inl rfl) (GF UX (GF JS (pv 2) (pv 2)) Gg))
    (Gf (Gu (GF G7 (GF G7 (GF JS (GF JS (pv 2) (pv 2)) (pv 2)) (GF JS Gg (pv 2))) (pv 1)))))),?_⟩
  refine ⟨_,rfl,_,_,rfl,rfl,⟨by decide,by decide,by decide⟩,_,_,rfl,rfl,_,rfl,Uk (λ_=>?_) (λ_=>?_)⟩
  ·exact ⟨_,rfl,q _⟩
  have m1:∀a:Int,0<=a % 2147483647/\a % 2147483647<2147483647:=λa=>⟨Int.emod_nonneg _ (by decide),Int.emod_lt_of_pos _ (by decide)⟩;have m2:∀a:Int,0<=a % 2147483629/\a % 2147483629<2147483629:=λa=>⟨Int.emod_nonneg _ (by decide),Int.emod_lt_of_pos _ (by decide)⟩;have c1:∀a b:Int,0<=a->a<4294967296->CMul a b:=λa b h1 h2=>.inl ⟨by lia,by lia⟩;have c2:∀a b:Int,0<=b->b<4294967296->CMul a b:=λa b h1 h2=>.inr ⟨by lia,by lia⟩;refine ⟨_,rfl,_,_,rfl,rfl,c2 _ _ (by decide) (by decide),_,rfl,_,_,rfl,rfl,c1 _ _ (by decide) (by decide),_,rfl,_,_,rfl,rfl,c2 _ _ (by lia) (by lia),_,_,rfl,rfl,_,rfl,_,_,rfl,rfl,c1 _ _ (by decide) (by decide),_,_,rfl,rfl,_,_,rfl,rfl,_,_,rfl,rfl,(by show (0:Int)<2147483647;decide),?_⟩;generalize hx:(c * 48271+7919 * (k:Int) * (k:Int)+104729 * (k:Int)+19) % 2147483647=x;have hx:=hx▸m1 (c * 48271+7919 * (k:Int) * (k:Int)+104729 * (k:Int)+19);refine ⟨_,rfl,_,rfl,_,_,rfl,rfl,c1 _ _ (by lia) (by lia),_,_,rfl,rfl,(by show (0:Int)<2147483629;decide),?_⟩;generalize hy:x * x % 2147483629=y;have hy:=hy▸m2 (x * x);exact ⟨_,rfl,_,rfl,_,_,rfl,rfl,c1 _ _ (by lia) (by lia),_,rfl,_,_,rfl,rfl,c2 _ _ (by lia) (by lia),_,rfl,_,_,rfl,rfl,c1 _ _ (by decide) (by decide),_,_,rfl,rfl,_,rfl,_,_,rfl,rfl,q _⟩
end
end M
namespace M
open PySem L2
def dnB (m:List Int):Bool:=decide (m.getD (m.length-1) 0=0)
def doneN (rs:List (Int×Int))(k:Nat):Nat:=((RJ rs k rs.length).filter dnB).length
theorem ZbG {ks:KI}(h:∀p∈ks,0<p.2):(((ks.filter λp=>dnB p.1).map (·.2)).sum:Int)=(((YO ks).filter dnB).length:Nat):=by
 induction ks with
 | nil=>rfl
 | cons p ks ih=>
  have ih:=ih λq hq=>h q (List.mem_cons_of_mem _ hq);have pp:=h p (List.mem_cons_self ..);rw [J6,List.filter_append,List.length_append,List.filter_cons];by_cases c:dnB p.1=true
  ·rw [if_pos c,List.map_cons,List.sum_cons,ih];have:(List.replicate p.2.toNat p.1).filter dnB=List.replicate p.2.toNat p.1:=List.filter_eq_self.mpr λx hx=>by rw [(List.mem_replicate.mp hx).2];exact c
   rw [this,List.length_replicate]
   push_cast
   lia
  ·rw [if_neg c,ih];have:(List.replicate p.2.toNat p.1).filter dnB=[]:=List.filter_eq_nil_iff.mpr λx hx=>by rw [(List.mem_replicate.mp hx).2];exact c
   rw [this];simp
theorem ZbH {ks:KI}{rs:List (Int×Int)}{k:Nat}(h:Rep ks (RJ rs k rs.length)):(((ks.filter λp=>dnB p.1).map (·.2)).sum:Int)=(doneN rs k:Int):=by
 rw [ZbG h.pos];unfold doneN;rw [(h.pm.filter dnB).length_eq]
section
variable {P:Program}{w:World}{K:W.Frag}{mg:Str->Option Value}{base:Heap}
def ZgZ:Sp:=λvs H Q _=>∃(wb l e:Addr)(k:Nat)(xs:List V)(rs:List (Int×Int)),vs=[.ref wb,.ref e]/\WebAt H wb l (k:Int) xs rs/\(1<=k/\k<=100/\rs.length<=100/\∀r∈rs,0<=r.1/\r.1<r.2/\r.2<(k:Int))/\NedD H e nE nE/\(∀j,j<=rs.length->∃U:List (List Int),U.length<=4194304/\∀m∈RJ rs k j,m∈U)/\∀H',Same H H'->Q (.int (doneN rs k:Int)) H'
theorem scCw:Gr ["web", "needed", "numbers"] ["web", "needed"] (Gc sCw):=⟨rfl,rfl,rfl,by decide +kernel,rfl,by decide +kernel,by decide +kernel⟩
theorem Zgl {f fNb fId:Addr}{fd fdNb fdId:FuncData}(F:Fun K "count_by_words" "count_by_words" sCw f fd)(FNb:Fun K "numbers_behind" "numbers_behind" sNb fNb fdNb)(bNb:Binds K fdNb ["web", "ends", "needed", "i"] [])(mNb:mg "numbers_behind" = some (.ref fNb))(GNb:GG P w K mg base CX0 5 fNb fdNb ["web", "ends", "needed", "i"] Zgc)(FId:Fun K "is_done" "is_done" sId fId fdId)(bId:Binds K fdId ["marks"] [])(mId:mg "is_done" = some (.ref fId))(GId:GG P w K mg base CX0 1 fId fdId ["marks"] (ZfS K))(mLen:mg "len" = none)(mSum:mg "sum" = none):GG P w K mg base CX0 6 f fd ["web", "needed"] ZgZ:=by
 refine F.ok scCw (λvs H Q E h=>?_) (λcdv A outer s0 H vs Q E hr h=>?_)
 ·obtain ⟨_,_,_,_,_,_,rfl,_⟩:=h
  rfl
 ·obtain ⟨wb,l,e,k,xs,rs,rfl,W,⟨k1,k100,r100,gr⟩,he,hU,q⟩:=h;have hu1:(A.deeper (PyProof.Rows.envOfC "count_by_words" (Gc sCw) s0.heap.objs.size f cdv)).units+1<cLine:=by have:=hr.un;lia
  have h16:(16777216:Nat)=sizeLine:=sizeLine_eq.symm;refine ⟨_,Gd (Gs (i:=2) scCw.nd rfl (Or.inr rfl) (Gh GNb (hr.mono (by decide)) rfl mNb FNb.kp bNb .nil GQ (Ga (pv 0) (Ga Uq (Ga (pv 1) (Ga (Gz (ZbY K) rfl mLen PySem.boot_len (Ga (GJ (Op K) (pv 0) Gg (λ_ _=>rfl)) Ge)) Ge))))))
    (Gf (Gu (Gz (ZfF K rfl) rfl mSum Zbk (Ga (G9 (own:=["marks"]) rfl (Go (fr:=[("numbers", 2)]) [(".0", .local),("marks", .local),("is_done", .globalImplicit),("numbers", .cell)] rfl rfl (by decide +kernel) rfl (by decide +kernel) ⟨rfl,trivial⟩ ⟨λh=>GN h,λh=>GN h,λh=>GN h,λ_=>⟨_,rfl⟩,trivial⟩ ⟨⟨rfl,.inl rfl,.inl rfl⟩,trivial⟩) (VF (pv 2)) (λ_ _ _ _=>Gi (i:=0) (show List.Nodup (["marks", "numbers"]:List Str) by decide +kernel) rfl (Or.inl rfl)) (λ_ _ _ _=>JE (JR (Gh GId (hr.mono (by decide)) rfl mId FId.kp bId .nil GQ (Ga (pv 0) Ge)))) (λ_ _ _ _=>UD hu1 (pv 1) (pv 0) (λ_ _=>rfl))) Ge)))),?_⟩
  have hxl:=W.p.len;refine ⟨_,rfl,λe1 he1 o1=>?_⟩;have s1:Same H (upd H e1 (.frz o1 (.dK []))):=Same.new he1;have E1:EndD (upd H e1 (.frz o1 (.dK []))) e1 nE nE:=⟨rfl,rfl,o1,Gb⟩;generalize upd H e1 (.frz o1 (.dK []))=H1 at s1 E1 ⊢;have W1:=W.same s1;refine ⟨_,rfl,_,rfl,wb,_,_,_,rfl,rfl,SqT.of W1.w,Gx (j:=1) rfl,l,_,rfl,.inl (SqL.of W1.l),?_⟩;rw [hxl];refine ⟨wb,l,e1,e,k,rs.length,xs,rs,rfl,W1,⟨k1,k100,r100,gr⟩,E1,he.same s1,Nat.le_refl _,hU,λd ks H2 s2 hd ed rp=>?_⟩;dsimp only [G0];have rl:ks.length<=4194304:=by
   obtain ⟨U,h1,h2⟩:=hU _ (Nat.le_refl _);exact Nat.le_trans (OP rp h2) h1
  refine ⟨_,rfl,d,_,rfl,.inl ⟨ed,λo=>?_⟩⟩;have d0:H d=none:=s1.free hd;have s3:Same H (upd H2 d (.frz o (.dT (ks.map kvI)))):=(s1.trans s2).put d0;have e3:upd H2 d (.frz o (.dT (ks.map kvI))) d=some (.frz o (.dT (ks.map kvI))):=Gb;generalize upd H2 d (.frz o (.dT (ks.map kvI)))=H3 at s3 e3 ⊢;refine λD hD=>?_;refine U9 (a:=d) (o:=o) (kvs:=ks.map kvI) (λi ys H4=>Same H3 H4/\H4 D=some (.lst ys)/\ys=(((ks.take i).filter λp=>dnB p.1).map (·.2)).map V.int) ⟨Same.new hD,Gb,rfl⟩ (λi ys H4 _ ⟨y,_⟩=>y _ _ e3) ?_ ?_
  ·rintro i kk v b ys H4 hkv hb ⟨s4,eD,hys⟩;rw [List.getElem?_map] at hkv;obtain ⟨p,hp,ep⟩:=Option.map_eq_some_iff.mp hkv;cases ep;have hpm:=List.mem_of_getElem? hp;have hil:i<ks.length:=(List.getElem?_eq_some_iff.mp hp).1;have ebk:=hb;rw [Va] at hb;have om:=ZbE (rs:=rs) (k:=k) k1 gr (Nat.le_refl _) _ (rp.mem hpm);have vb:J1 (ks.map kvI) (p.1.map Sum.inl)=some (.int p.2):=by rw [VT,Xs rp.nd hpm];rfl
   have dg:DGet H4 d (.ref b) (some (.int p.2)):=by rw [<-vb];exact Or.inr ⟨_,_,b,.inr ⟨o,s4 _ _ e3⟩,rfl,ebk,rfl⟩
   have yl:ys.length<=i:=by
    rw [hys,List.length_map,List.length_map];have:=List.length_filter_le (λp:List Int×Int=>dnB p.1) (ks.take i);rw [List.length_take] at this
    lia
   have tk:((((ks.take (i+1)).filter λp=>dnB p.1).map (·.2)).map V.int)=ys++((([p].filter λp=>dnB p.1).map (·.2)).map V.int):=by rw [List.take_add_one,hp,List.filter_append,List.map_append,List.map_append,hys];rfl
   refine ⟨⟨rfl,trivial⟩,?_⟩;refine ⟨_,rfl,b,p.1,rfl,SqT.of hb,λz=>by rw [z] at om;have:=om.1;simp at this,_,rfl,?_⟩;refine Uk (λc=>?_) (λc=>?_)
   ·have c:dnB p.1=true:=c;refine ⟨_,rfl,_,rfl,d,_,rfl,dg,eD,by lia,s4.put hD,Gb,?_⟩;rw [tk,List.filter_cons,if_pos c]
    rfl
   ·have c:¬ dnB p.1=true:=c;refine ⟨s4,eD,?_⟩;rw [tk,List.filter_cons,if_neg c];simp
  ·rintro ys H4 ⟨s4,eD,rfl⟩;rw [List.length_map,List.take_length] at eD;refine ⟨D,_,rfl,SqL.of eD,?_⟩;rw [ZbH rp];exact q H4 (s3.trans s4)
end
end M
namespace M
open PySem L2
section
variable {P:Program}{w:World}{K:W.Frag}{mg:Str->Option Value}{base:Heap}
def Zg0:Sp:=λvs H Q _=>∃r c:Nat,vs=[.int (r:Int),.int (c:Int)]/\1<=r/\1<=c/\r<=16/\c<=16/\r * c<=40/\(∀j,j<=(gRoads r c (r * c)).length->∃U:List (List Int),U.length<=4194304/\∀m∈RJ (gRoads r c (r * c)) (r * c) j,m∈U)/\∀H',Same H H'->Q (.int (doneN (gRoads r c (r * c)) (r * c):Int)) H'
theorem ZhF:Gr ["rows", "columns"] ["rows", "columns"] (Gc sCb):=⟨rfl,rfl,rfl,by decide +kernel,rfl,by decide +kernel,by decide +kernel⟩
theorem Zgm {f fGr fCw C:Addr}{fd fdGr fdCw:FuncData}(F:Fun K "closed_by_words" "closed_by_words" sCb f fd)(FGr:Fun K "grid" "grid" sGr fGr fdGr)(bGr:Binds K fdGr ["rows", "columns"] [])(mGr:mg "grid" = some (.ref fGr))(GGr:GG P w K mg base (CXr P w) 1 fGr fdGr ["rows", "columns"] (Ve C))(FCw:Fun K "count_by_words" "count_by_words" sCw fCw fdCw)(bCw:Binds K fdCw ["web", "needed"] [])(mCw:mg "count_by_words" = some (.ref fCw))(GCw:GG P w K mg base CX0 6 fCw fdCw ["web", "needed"] ZgZ) :
  GG P w K mg base (CXr P w) 7 f fd ["rows", "columns"] Zg0:=by
 refine F.okR ZhF (λvs H Q E h=>?_) (λcdv A outer s0 H vs Q E hr h=>?_)
 ·obtain ⟨_,_,rfl,_⟩:=h
  rfl
 ·obtain ⟨r,c,rfl,r1,c1,r2,c2,rc,hU,q⟩:=h;refine ⟨_,Gf (Gu (Gh GCw (hr.mono (by decide)) rfl mCw FCw.kp bCw .nil GQ (Ga (Gh GGr (hr.mono (by decide)) rfl mGr FGr.kp bGr .nil We (Ga (pv 0) (Ga (pv 1) Ge))) (Ga (Jd Ge) Ge)))),?_⟩;refine ⟨_,rfl,_,rfl,_,_,rfl,.inl ⟨r,c,rfl,rfl,r1,c1,r2,c2,λwb l xs H1 s1 hwb hl nwl ewb el P1=>?_⟩⟩;have W1:WebAt H1 wb l ((r * c:Nat):Int) xs (gRoads r c (r * c)):=⟨by rw [ewb];push_cast;rfl,el,P1⟩;have hgl:=JL r c (r * c);refine ⟨Nat.zero_le _,λe he=>?_⟩;have s2:Same H1 (upd H1 e (.lst [])):=Same.new he;have e2:upd H1 e (.lst []) e=some (.lst []):=Gb;generalize upd H1 e (.lst [])=H2 at s2 e2 ⊢;exact ⟨wb,l,e,r * c,xs,gRoads r c (r * c),rfl,W1.same s2,⟨Nat.mul_le_mul r1 c1,by lia,by lia,Oj c1⟩,.inr ⟨rfl,rfl,e2⟩,hU,λH3 s3=>q H3 (s1.trans (s2.trans s3))⟩
end
end M
namespace M
open PySem L2
def nbF (rs:List (Int×Int))(p:Int):List Int:=rs.flatMap λr=>(if r.1=p then [r.2] else [])++(if r.2=p then [r.1] else [])
def WP (rs:List (Int×Int))(q:Int):Nat->List Int->Int->List (List Int)
 | 0,_,_=>[]
 | f+1,seen,p=>if p=q then [[p]] else (nbF rs p).flatMap λx=>if x∈p::seen then [] else (WP rs q f (p::seen) x).map (p::·)
theorem Zdv {rs:List (Int×Int)}{p x:Int}(h:Adj rs p x):x∈nbF rs p:=by
 unfold nbF;rcases h with h | h
 ·exact List.mem_flatMap.mpr ⟨(p,x),h,List.mem_append_left _ (by rw [if_pos rfl];exact List.mem_singleton.mpr rfl)⟩
 ·exact List.mem_flatMap.mpr ⟨(x,p),h,List.mem_append_right _ (by rw [if_pos rfl];exact List.mem_singleton.mpr rfl)⟩
theorem Zao {a:Int}{l:List Int}:(a::l).getD ((a::l).length-1) 0∈a::l:=by
 rw [List.getD_eq_getElem?_getD,List.getElem?_eq_getElem (by simp)];exact List.getElem_mem _
theorem Ye {rs:List (Int×Int)}{q:Int}:∀(f:Nat)(ns:List Int)(p:Int)(seen:List Int),Way rs p q ns->(∀x∈ns,x ∉ seen)->ns.length<=f->ns∈WP rs q f seen p
 | 0,ns,p,seen,h,_,hl=>absurd (List.eq_nil_of_length_eq_zero (Nat.le_zero.mp hl)) h.1
 | f+1,[],p,seen,h,_,_=>absurd rfl h.1
 | f+1,[a],p,seen,h,_,_=>by
  obtain ⟨_,h1,h2,_⟩:=h;have h1:a=p:=h1;have h2:a=q:=h2;unfold WP;rw [if_pos (h1▸h2),h1];exact List.mem_singleton.mpr rfl
 | f+1,a::x::tl,p,seen,h,hs,hl=>by
  obtain ⟨_,h1,h2,h3,h4⟩:=h;have h1:a=p:=h1;subst h1;have h2:(x::tl).getD ((x::tl).length-1) 0=q:=by
   have e:(a::x::tl).length-1=((x::tl).length-1)+1:=by simp
   rw [e] at h2;exact h2
  have nd:=List.nodup_cons.mp h4;have hq:a≠q:=λe=>nd.1 (by rw [e,<-h2];exact Zao);have st:∀t∈Gj (x::tl) false,t∈Gj (a::x::tl) false:=λt ht=>by
   unfold Gj at ht ⊢;rw [if_neg Bool.false_ne_true,List.append_nil] at ht ⊢;exact List.mem_cons_of_mem _ ht
  have ad:Adj rs a x:=h3 (a,x) (by
   unfold Gj;rw [if_neg Bool.false_ne_true,List.append_nil];exact List.mem_cons_self ..)
  unfold WP;rw [if_neg hq];refine List.mem_flatMap.mpr ⟨x,Zdv ad,?_⟩;have hx:x ∉ a::seen:=λe=>by
   rcases List.mem_cons.mp e with e | e
   ·exact nd.1 (by rw [<-e];exact List.mem_cons_self ..)
   ·exact hs x (List.mem_cons_of_mem _ (List.mem_cons_self ..)) e
  rw [if_neg hx];refine List.mem_map.mpr ⟨x::tl,Ye f (x::tl) x (a::seen) ⟨by simp,rfl,h2,λt ht=>h3 t (st t ht),nd.2⟩ (λy hy e=>?_) (by simpa using hl),rfl⟩;rcases List.mem_cons.mp e with e | e
  ·exact nd.1 (by rw [<-e];exact hy)
  ·exact hs y (List.mem_cons_of_mem _ hy) e
theorem ZeZ {rs:List (Int×Int)}{p x:Int}(h:x∈nbF rs p):Adj rs p x:=by
 unfold nbF at h;obtain ⟨r,hr,h⟩:=List.mem_flatMap.mp h;rcases List.mem_append.mp h with h | h
 ·by_cases c:r.1=p
  ·rw [if_pos c] at h;rw [List.mem_singleton.mp h,<-c];exact .inl hr
  ·rw [if_neg c] at h;cases h
 ·by_cases c:r.2=p
  ·rw [if_pos c] at h;rw [List.mem_singleton.mp h,<-c];exact .inr hr
  ·rw [if_neg c] at h;cases h
theorem Vf {rs:List (Int×Int)}{q:Int}:∀(f:Nat)(p:Int)(seen:List Int),p ∉ seen->∀w∈WP rs q f seen p,Way rs p q w/\∀x∈w,x ∉ seen
 | 0,_,_,_,w,h=>by cases h
 | f+1,p,seen,hp,w,h=>by
  unfold WP at h;by_cases c:p=q
  ·rw [if_pos c] at h;rw [List.mem_singleton.mp h];refine ⟨⟨by simp,rfl,c,λt ht=>?_,List.nodup_cons.mpr ⟨by simp,List.nodup_nil⟩⟩,λx hx=>by rw [List.mem_singleton.mp hx];exact hp⟩;unfold Gj at ht;rw [if_neg Bool.false_ne_true,List.append_nil] at ht;cases ht
  ·rw [if_neg c] at h;obtain ⟨x,hx,h⟩:=List.mem_flatMap.mp h;by_cases e:x∈p::seen
   ·rw [if_pos e] at h;cases h
   ·rw [if_neg e] at h;obtain ⟨v,hv,rfl⟩:=List.mem_map.mp h;obtain ⟨⟨v1,v2,v3,v4,v5⟩,v6⟩:=Vf f x (p::seen) e v hv;cases v with
    | nil=>exact absurd rfl v1
    | cons y tl=>
     have v2:y=x:=v2;subst v2;refine ⟨⟨by simp,rfl,?_,λt ht=>?_,List.nodup_cons.mpr ⟨λz=>v6 p z (List.mem_cons_self ..),v5⟩⟩,λz hz=>?_⟩
     ·have e2:(p::y::tl).length-1=((y::tl).length-1)+1:=by simp
      rw [e2];exact v3
     ·unfold Gj at ht;rw [if_neg Bool.false_ne_true,List.append_nil] at ht;rcases List.mem_cons.mp (show t∈(p,y)::(y::tl).zip tl from ht) with rfl | ht
      ·exact ZeZ hx
      ·refine v4 t ?_;unfold Gj;rw [if_neg Bool.false_ne_true,List.append_nil];exact ht
     ·rcases List.mem_cons.mp hz with rfl | hz
      ·exact hp
      ·exact λy'=>v6 z hz (List.mem_cons_of_mem _ y')
theorem ZbI {rs:List (Int×Int)}{p q:Int}{W:List (List Int)}{n:Nat}(h:Wys rs p q W)(hn:∀w,Way rs p q w->w.length<=n)(nd:(WP rs q n [] p).Nodup)(hl:(WP rs q n [] p).length<=300):W.Perm (WP rs q n [] p):=by
 have inc:∀w∈W,w∈WP rs q n [] p:=λw hw=>Ye n w p [] (h.ww w hw) (λ_ _ z=>by cases z) (hn w (h.ww w hw));have l300:W.length<=300:=Nat.le_trans (Zam h.nd inc) hl;exact (List.perm_ext_iff_of_nodup h.nd nd).mpr λw=>⟨inc w,λhw=>h.al l300 w (Vf n p [] (by simp) w hw).1⟩
end M
namespace M
open PySem L2
def rgF (rs:List (Int×Int))(n:Nat):Nat->List (List Int)
 | 0=>[]
 | j+1=>rgF rs n j++(match rs[j]? with
  | none=>[]
  | some t=>WP (rs.drop (j+1)) t.2 n [] t.1)
def Ze0 (rs:List (Int×Int))(n:Nat)(j:Nat):Bool:=(List.range j).all λi=>match rs[i]? with
 | none=>true
 | some t=>(let W:=WP (rs.drop (i+1)) t.2 n [] t.1;decide W.Nodup && decide (W.length<=300))
theorem Yg {rs:List (Int×Int)}{n:Nat}(hn:∀i t,rs[i]?=some t->∀w,Way (rs.drop (i+1)) t.1 t.2 w->w.length<=n){j:Nat}{R:List (List Int)}(h:Rgs rs j R)(ok:Ze0 rs n j=true):R.Perm (rgF rs n j):=by
 induction h with
 | nil=>exact .refl _
 | @one j R W h _ hw ih=>
  obtain ⟨t,ht,hw⟩:=hw;have ok':=List.all_eq_true.mp ok;have o:=ok' j (List.mem_range.mpr (Nat.lt_succ_self j));rw [ht] at o;have o:(decide (WP (rs.drop (j+1)) t.2 n [] t.1).Nodup && decide ((WP (rs.drop (j+1)) t.2 n [] t.1).length<=300))=true:=o;rw [Bool.and_eq_true] at o;have e:rgF rs n (j+1)=rgF rs n j++WP (rs.drop (j+1)) t.2 n [] t.1:=by
   show rgF rs n j++(match rs[j]? with | none=>[] | some t=>WP (rs.drop (j+1)) t.2 n [] t.1)=_;rw [ht]
  rw [e];exact (ih (List.all_eq_true.mpr λi hi=>ok' i (List.mem_range.mpr (by have:=List.mem_range.mp hi;lia)))).append (ZbI hw (hn j t ht) (of_decide_eq_true o.1) (of_decide_eq_true o.2))
def ZdI (x:Int):List Int->List Int
 | []=>[x]
 | y::l=>if x<=y then x::y::l else y::ZdI x l
def Zff (l:List Int):List Int:=l.foldr ZdI []
theorem UO (x:Int):∀l,(ZdI x l).Perm (x::l)
 | []=>.refl _
 | y::l=>by
  unfold ZdI;split
  ·exact .refl _
  ·exact ((UO x l).cons y).trans (.swap x y l)
theorem WI:∀l,(Zff l).Perm l
 | []=>.refl _
 | x::l=>(UO x (Zff l)).trans ((WI l).cons x)
theorem Yh (x:Int):∀{l:List Int},l.Pairwise (· <= ·)->(ZdI x l).Pairwise (· <= ·)
 | [],_=>List.pairwise_singleton ..
 | y::l,h=>by
  obtain ⟨h1,h2⟩:=List.pairwise_cons.mp h;unfold ZdI;split
  ·rename_i c;refine List.pairwise_cons.mpr ⟨λz hz=>?_,h⟩;rcases List.mem_cons.mp hz with rfl | hz
   ·exact c
   ·exact Int.le_trans c (h1 z hz)
  ·rename_i c;refine List.pairwise_cons.mpr ⟨λz hz=>?_,Yh x h2⟩;rcases List.mem_cons.mp ((UO x l).mem_iff.mp hz) with rfl | hz
   ·lia
   ·exact h1 z hz
theorem Yi:∀l,(Zff l).Pairwise (· <= ·)
 | []=>.nil
 | x::l=>Yh x (Yi l)
def Zgn (rs:List (Int×Int))(ns:List Int):List Int:=Zff ((Gj ns true).map (VX rs))
theorem Zdw (rs:List (Int×Int))(ns:List Int):JX rs true ns=Zgn rs ns:=(Zaf (WI _) (Yi _)).symm
def JA (rs:List (Int×Int))(n:Nat):List (List Int):=(rgF rs n rs.length).map (Zgn rs)
theorem Xv {rs:List (Int×Int)}{n:Nat}(hn:∀i t,rs[i]?=some t->∀w,Way (rs.drop (i+1)) t.1 t.2 w->w.length<=n){R:List (List Int)}(h:Rgs rs rs.length R)(ok:Ze0 rs n rs.length=true):(R.map (JX rs true)).Perm (JA rs n):=by
 unfold JA;rw [show JX rs true=Zgn rs from funext (Zdw rs)];exact (Yg hn h ok).map _
end M
namespace M
open PySem L2
def edg (ns:List Int)(c:Bool):List (Int×Int):=(Gj ns c).map λt=>Jf t.1 t.2
theorem OR (p q:Int):Jf p q=Jf q p:=by
 unfold Jf;by_cases h1:q<p
 ·rw [if_pos h1,if_neg (show ¬ q > p by lia),if_neg (show ¬ p<q by lia),if_pos (show p > q by lia)]
 ·by_cases h2:q > p
  ·rw [if_neg h1,if_pos h2,if_pos (show p<q by lia),if_neg (show ¬ p > q by lia)]
  ·rw [show p=q by lia]
theorem VU {p q q':Int}(h:Jf p q=Jf p q'):q=q':=by
 unfold Jf at h;have e:=Prod.mk.inj h;split at e <;> split at e <;> split at e <;> split at e <;> lia
theorem Jw {k:Int}{rs:List (Int×Int)}{ns:List Int}{c:Bool}(g:Gk k rs)(o:Vc rs ns c)(hc:c=true->3<=ns.length):Ww rs (JX rs c ns)/\((JX rs c ns).map (road rs)).Perm (edg ns c):=by
 refine ⟨VN g o hc (J5 rs c ns) (Ur rs c ns),?_⟩;have:=(J5 rs c ns).map (road rs);rw [Oi g o.1] at this;exact this
theorem Zdx {k:Int}{rs:List (Int×Int)}{ns S:List Int}{c:Bool}(g:Gk k rs)(o:Vc rs ns c)(hc:c=true->3<=ns.length)(hS:Ww rs S)(h:(S.map (road rs)).Perm (edg ns c)):JX rs c ns=S:=
 Zab g hS o hc h (J5 rs c ns) (Ur rs c ns)
theorem Zaq {k:Int}{rs:List (Int×Int)}{ns ms:List Int}{c d:Bool}(g:Gk k rs)(o:Vc rs ns c)(hc:c=true->3<=ns.length)(o2:Vc rs ms d)(hd:d=true->3<=ms.length)(h:(edg ns c).Perm (edg ms d)):JX rs c ns=JX rs d ms:=
 Zdx g o hc (Jw g o2 hd).1 ((Jw g o2 hd).2.trans h.symm)
theorem Zar (ns:List Int):edg ns false=GX ns:=(Wy ns).symm
theorem OS (s:Int)(tl:List Int):edg (s::tl) true=GX (s::(tl++[s])):=J4 s tl
theorem OT {k:Int}{rs:List (Int×Int)}{ns:List Int}{c:Bool}(g:Gk k rs):Vc rs ns c↔(∀e∈edg ns c,e∈rs)/\ns.Nodup:=by
 have hlt:∀r∈rs,r.1<r.2:=λr hr=>(g.2.2.2.1 r hr).2.1;constructor
 ·rintro ⟨h1,h2⟩;refine ⟨λe he=>?_,h2⟩;obtain ⟨t,ht,rfl⟩:=List.mem_map.mp he;exact (Jn hlt _ _).mpr (h1 t ht)
 ·rintro ⟨h1,h2⟩;exact ⟨λt ht=>(Jn hlt _ _).mp (h1 _ (List.mem_map.mpr ⟨t,ht,rfl⟩)),h2⟩
theorem JP (x:Int):∀(tl:List Int)(a:Int),GX ((a::tl)++[x])=GX (a::tl)++[Jf ((a::tl).getD tl.length 0) x]
 | [],a=>rfl
 | b::tl,a=>by
  have ih:=JP x tl b;show GX (a::b::(tl++[x]))=_;rw [GW,GW];show Jf a b::GX ((b::tl)++[x])=_;rw [ih]
  rfl
theorem Vg:∀ns:List Int,(GX ns.reverse).Perm (GX ns)
 | []=>.refl _
 | [a]=>.refl _
 | a::b::tl=>by
  have ih:=Vg (b::tl);rw [List.reverse_cons,GW];obtain ⟨c,r,hr⟩:∃c r,(b::tl).reverse=c::r:=by
   cases h:(b::tl).reverse with
   | nil=>simp at h
   | cons c r=>exact ⟨c,r,rfl⟩
  have hl:(c::r).getD r.length 0=b:=by
   have e:(c::r).getLast?=some b:=by rw [<-hr,List.getLast?_reverse];rfl
   rw [List.getLast?_eq_getElem?] at e;rw [List.getD_eq_getElem?_getD];simp only [List.length_cons,Nat.add_sub_cancel] at e;rw [e]
   rfl
  rw [hr] at ih ⊢;rw [JP,hl,OR b a];exact List.perm_append_comm.trans (ih.cons _)
theorem Ol {x y:Int}:∀{ns:List Int},Jf x y∈GX ns->x∈ns/\y∈ns
 | [],h=>by cases h
 | [a],h=>by cases h
 | a::b::tl,h=>by
  rw [GW] at h;rcases List.mem_cons.mp h with h | h
  ·have e:x=a/\y=b\/x=b/\y=a:=by
    unfold Jf at h;have e:=Prod.mk.inj h;split at e <;> split at e <;> split at e <;> split at e <;> lia
   rcases e with ⟨rfl,rfl⟩ | ⟨rfl,rfl⟩ <;> simp
  ·have:=Ol h;exact ⟨List.mem_cons_of_mem _ this.1,List.mem_cons_of_mem _ this.2⟩
theorem WJ:∀(tl:List Int)(p:Int)(ls:List (Int×Int)),(p::tl).Nodup->ls.Perm (GX (p::tl))->(∀r∈ls,r.1<r.2)->Wk ls p tl []
 | [],p,ls,_,pm,_=>by
  have:ls=[]:=pm.eq_nil;subst this;exact .stop λq a=>by rcases a with a | a <;> cases a
 | q::t,p,ls,nd,pm,hlt=>by
  rw [GW] at pm;have hm:Jf p q∈ls:=pm.mem_iff.mpr (List.mem_cons_self ..);refine .go ((Jn hlt _ _).mp hm) (λq' a=>?_) (WJ t q _ (List.nodup_cons.mp nd).2 ?_ (VL hlt))
  ·have:=pm.mem_iff.mp ((Jn hlt _ _).mpr a);rcases List.mem_cons.mp this with e | e
   ·exact Int.le_of_eq (VU e).symm
   ·exact absurd (Ol e).1 (List.nodup_cons.mp nd).1
  ·have:=pm.erase (Jf p q);rw [List.erase_cons_head] at this;exact this
theorem ZbJ {rs:List (Int×Int)}{p q:Int}{w:List Int}(h:Way rs p q w):∃tl,w=p::tl:=by
 obtain ⟨h1,h2,_⟩:=h;cases w with
 | nil=>exact absurd rfl h1
 | cons a tl=>
  have h2:a=p:=h2;exact ⟨tl,by rw [h2]⟩
def Cyc (rs:List (Int×Int))(c:List Int):Prop:=3<=c.length/\Vc rs c true
theorem Zdy (a:Int)(tl:List Int):(edg (tl++[a]) true).Perm (edg (a::tl) true):=by
 cases tl with
 | nil=>exact .refl _
 | cons b t=>
  show (edg (b::(t++[a])) true).Perm _;rw [OS,OS];show (GX ((b::(t++[a]))++[b])).Perm (GX (a::b::(t++[a])));rw [JP,GW];have e:(b::(t++[a])).getD (t++[a]).length 0=a:=by
   rw [List.length_append,List.length_singleton,List.getD_eq_getElem?_getD,List.getElem?_cons_succ,List.getElem?_append_right (Nat.le_refl _),Nat.sub_self]
   rfl
  rw [e];exact List.perm_append_comm
theorem OU:∀(u v:List Int),(edg (v++u) true).Perm (edg (u++v) true)
 | [],v=>by rw [List.append_nil,List.nil_append]
 | a::u,v=>by
  have ih:=OU u (v++[a]);rw [List.append_assoc] at ih;refine ih.trans ?_;rw [<-List.append_assoc];exact Zdy a (u++v)
theorem Zas (c:List Int):(edg c.reverse true).Perm (edg c true):=by
 cases c with
 | nil=>exact .refl _
 | cons s tl=>
  rw [List.reverse_cons];refine (OU [s] tl.reverse).trans ?_;show (edg (s::tl.reverse) true).Perm _;rw [OS,OS];have:=Vg (s::(tl++[s]));rw [List.reverse_cons,List.reverse_append] at this;exact this
theorem Yj {k:Int}{rs:List (Int×Int)}{c d:List Int}(g:Gk k rs)(h:Cyc rs c)(pe:(edg d true).Perm (edg c true))(pp:d.Perm c):Cyc rs d/\JX rs true d=JX rs true c:=by
 have l:3<=d.length:=by rw [pp.length_eq];exact h.1
 have o:Vc rs d true:=(OT g).mpr ⟨λe he=>((OT g).mp h.2).1 e (pe.mem_iff.mp he),pp.nodup_iff.mpr h.2.2⟩;exact ⟨⟨l,o⟩,Zaq g o (λ_=>l) h.2 (λ_=>h.1) pe⟩
theorem ZbK {k:Int}{rs:List (Int×Int)}{c:List Int}(g:Gk k rs)(h:Cyc rs c):∃ns,Zcj rs ns/\JX rs true ns=JX rs true c:=by
 obtain ⟨m,hm,hmin⟩:∃m∈c,∀x∈c,m<=x:=by
  have:∀l:List Int,l≠[]->∃m∈l,∀x∈l,m<=x:=by
   intro l
   induction l with
   | nil=>intro h;exact absurd rfl h
   | cons a l ih=>
    intro _;by_cases e:l=[]
    ·subst e;exact ⟨a,by simp,λx hx=>by rw [List.mem_singleton.mp hx];lia⟩
    ·obtain ⟨m,h1,h2⟩:=ih e;by_cases ham:a<=m
     ·refine ⟨a,by simp,λx hx=>?_⟩;rcases List.mem_cons.mp hx with rfl | hx
      ·lia
      ·have:=h2 x hx
       lia
     ·refine ⟨m,List.mem_cons_of_mem _ h1,λx hx=>?_⟩;rcases List.mem_cons.mp hx with rfl | hx
      ·lia
      ·exact h2 x hx
  exact this c λe=>by have:=h.1;rw [e] at this;simp at this
 obtain ⟨u,v,rfl⟩:=List.append_of_mem hm;obtain ⟨h2,e2⟩:=Yj (d:=(m::v)++u) g h (OU u (m::v)) List.perm_append_comm;have min2:∀x∈(m::v)++u,m<=x:=λx hx=>hmin x ((List.perm_append_comm (l₁:=m::v) (l₂:=u)).mem_iff.mp hx);have e0:(m::v)++u=m::(v++u):=rfl;rw [e0] at h2 e2 min2;generalize v++u=tl at h2 e2 min2;have hl:=h2.1;have nd:=h2.2.2;rw [List.length_cons] at hl;have ne:tl.getD 0 0≠tl.getD (tl.length-1) 0:=JG (List.nodup_cons.mp nd).2 (i:=0) (j:=tl.length-1) (by lia) (by lia) (by lia);by_cases hlt:tl.getD 0 0<tl.getD (tl.length-1) 0
 ·refine ⟨m::tl,⟨by rw [List.length_cons];exact hl,min2,?_,h2.2⟩,e2⟩;show tl.getD 0 0<(m::tl).getD (tl.length+1-1) 0;rw [Nat.add_sub_cancel];have:(m::tl).getD tl.length 0=tl.getD (tl.length-1) 0:=by
   obtain ⟨n,hn⟩:∃n,tl.length=n+1:=⟨tl.length-1,by lia⟩;rw [hn,Nat.add_sub_cancel]
   rfl
  rw [this];exact hlt
 ·have pe:(edg (m::tl.reverse) true).Perm (edg (m::tl) true):=by
   refine ((OU [m] tl.reverse).symm).trans ?_;have:=Zas (m::tl);rw [List.reverse_cons] at this;exact this
  obtain ⟨h3,e3⟩:=Yj (d:=m::tl.reverse) g h2 pe ((List.reverse_perm tl).cons m);refine ⟨m::tl.reverse,⟨h3.1,λx hx=>min2 x (((List.reverse_perm tl).cons m).mem_iff.mp hx),?_,h3.2⟩,e3.trans e2⟩;show tl.reverse.getD 0 0<(m::tl.reverse).getD (tl.reverse.length+1-1) 0;have e5:tl.reverse.getD 0 0=tl.getD (tl.length-1) 0:=by
   rw [GY (by rw [List.length_reverse];lia),GY (by lia),List.getElem_reverse];simp
  have e6:(m::tl.reverse).getD (tl.reverse.length+1-1) 0=tl.getD 0 0:=by
   rw [Nat.add_sub_cancel,List.length_reverse];obtain ⟨n,hn⟩:∃n,tl.length=n+1:=⟨tl.length-1,by lia⟩;rw [hn];show tl.reverse.getD n 0=_;rw [GY (by rw [List.length_reverse];lia),GY (by lia),List.getElem_reverse]
   congr 1
   lia
  rw [e5,e6]
  lia
theorem Zat {k:Int}{rs:List (Int×Int)}{ns:List Int}(g:Gk k rs)(R:Zcj rs ns):∃s tl,ns=s::tl/\Begins (cho rs (JX rs true ns) rs.length) s/\Wk (cho rs (JX rs true ns) rs.length) s (tl++[s]) []:=by
 have o:=R.2.2.2;have E:=Jw g o (λ_=>R.1);have hl:=R.1;obtain ⟨s,q,t,rfl⟩:∃s q t,ns=s::q::t:=by
  match ns,hl with
  | s::q::t,_=>exact ⟨s,q,t,rfl⟩
 have pm:(cho rs (JX rs true (s::q::t)) rs.length).Perm (GX (s::q::(t++[s]))):=by
  rw [Xo E.1];exact E.2.trans (.of_eq (OS s (q::t)))
 have hlt:=Z8 g (JX rs true (s::q::t));generalize cho rs (JX rs true (s::q::t)) rs.length=ls at pm hlt;rw [GW] at pm;have min:∀x∈s::q::t,s<=x:=R.2.1;have nd:=o.2;have hsq:s<q:=by
  have:=min q (by simp);have:s≠q:=λe=>(List.nodup_cons.mp nd).1 (by rw [e];simp)
  lia
 have inall:∀x,x∈s::q::(t++[s])->x∈s::q::t:=λx hx=>by
  simp at hx ⊢;rcases hx with h | h | h | h
  ·exact .inl h
  ·exact .inr (.inl h)
  ·exact .inr (.inr h)
  ·exact .inl h
 have pmem:∀r∈ls,r.1∈s::q::t/\r.2∈s::q::t:=λr hr=>by
  have h1:=pm.mem_iff.mp hr;rw [<-GW] at h1;have er:r=Jf r.1 r.2:=by
   have:=hlt r hr;unfold Jf;rw [if_neg (by lia),if_pos (by lia)]
  rw [er] at h1;have:=Ol h1;exact ⟨inall _ this.1,inall _ this.2⟩
 refine ⟨s,q::t,rfl,⟨λr hr=>min _ (pmem r hr).1,?_⟩,?_⟩
 ·refine ⟨Jf s q,pm.mem_iff.mpr (List.mem_cons_self ..),?_⟩;unfold Jf;rw [if_neg (by lia)]
 ·show Wk ls s (q::(t++[s])) [];have hm:Jf s q∈ls:=pm.mem_iff.mpr (List.mem_cons_self ..);have nd2:(q::(t++[s])).Nodup:=by
   have:(q::(t++[s])).Perm (s::q::t):=by
    show ((q::t)++[s]).Perm _;exact List.perm_append_comm
   exact this.nodup_iff.mpr nd
  refine .go ((Jn hlt _ _).mp hm) (λq' a=>?_) (WJ (t++[s]) q _ nd2 ?_ (VL hlt))
  ·have h1:=pm.mem_iff.mp ((Jn hlt _ _).mpr a);rcases List.mem_cons.mp h1 with e | e
   ·exact Int.le_of_eq (VU e).symm
   ·-- the last step leads back to s
    have e2:GX (q::(t++[s]))=GX (q::t)++[Jf ((q::t).getD t.length 0) s]:=JP s t q;rw [e2] at e;rcases List.mem_append.mp e with e | e
    ·exact absurd (Ol e).1 (List.nodup_cons.mp nd).1
    ·have e:=List.mem_singleton.mp e;rw [OR _ s] at e;have:=VU e;have h4:=R.2.2.1;have h5:(s::q::t).getD ((s::q::t).length-1) 0=(q::t).getD t.length 0:=rfl;have h6:(s::q::t).getD 1 0=q:=rfl;rw [h5,h6] at h4
     lia
  ·have:=pm.erase (Jf s q);rw [List.erase_cons_head] at this;exact this
theorem Zau {k:Int}{rs:List (Int×Int)}{ns:List Int}(g:Gk k rs)(R:Zcj rs ns){s:Int}{tl:List Int}(e:ns=s::tl):YI rs (JX rs true ns) k (tl++[s]):=by
 obtain ⟨h1,h2,h3,h4⟩:=X4 g R (J5 rs true ns) (Ur rs true ns) rfl;refine ⟨h1,h2,h3,?_⟩;rw [<-h4,e,List.length_append,List.length_singleton,List.length_cons]
end M
namespace M
open PySem L2
theorem Xw {k:Int}{rs:List (Int×Int)}(g:Gk k rs){x:Int}{j:Nat}{t:Int×Int}(hx:0<=x/\x<(rs.length:Int))(hj:rs[j]?=some t)(e:road rs x=t):x=j:=by
 have hl:=(List.getElem?_eq_some_iff.mp hj).1;have:road rs (j:Int)=t:=by
  unfold road;rw [Int.toNat_natCast,List.getD_eq_getElem?_getD,hj]
  rfl
 exact X3 g hx (by lia) (e.trans this.symm)
theorem UP {k:Int}{rs:List (Int×Int)}(g:Gk k rs)(n:Nat):Gk k (rs.drop n):=⟨g.1,g.2.1,by have:=g.2.2.1;rw [List.length_drop];lia,λy hy=>g.2.2.2.1 y (List.mem_of_mem_drop hy),g.2.2.2.2.sublist (List.drop_sublist _ _)⟩
theorem Zav {rs:List (Int×Int)}{p q:Int}{w:List Int}(h:Way rs p q w):edg w true=edg w false++[Jf q p]:=by
 unfold edg Gj;rw [if_pos rfl,if_neg Bool.false_ne_true,List.append_nil,List.map_append];show _++[Jf (w.getD (w.length-1) 0) (w.getD 0 0)]=_;rw [h.2.2.1,h.2.1]
theorem Xx {t:Int×Int}(h:t.1<t.2):Jf t.1 t.2=t:=by
 unfold Jf;rw [if_neg (by lia),if_pos (by lia)]
theorem Zaw {k:Int}{rs:List (Int×Int)}{j:Nat}{t:Int×Int}{w:List Int}(g:Gk k rs)(hj:rs[j]?=some t)(h:Way (rs.drop (j+1)) t.1 t.2 w) :
  Cyc rs w/\((j:Nat):Int)∈JX rs true w/\∀x∈JX rs true w,((j:Nat):Int)<=x:=by
 have tr:t∈rs:=List.mem_of_getElem? hj;have tlt:=(g.2.2.2.1 t tr).2.1;have o:=h.2.2.2;have e1:=Zav h;rw [OR,Xx tlt] at e1;have hd:=(OT (UP g (j+1))).mp o;have tnd:t ∉ rs.drop (j+1):=λhm=>by
  obtain ⟨i,hi⟩:=List.mem_iff_getElem?.mp hm;rw [List.getElem?_drop] at hi;have l1:=(List.getElem?_eq_some_iff.mp hi).1;have l2:=(List.getElem?_eq_some_iff.mp hj).1;have e3:=OM g.2.2.2.2 (i:=j+1+i) (j:=j) (by lia) (by lia) (by rw [List.getD_eq_getElem?_getD,List.getD_eq_getElem?_getD,hi,hj])
  lia
 have oc:Vc rs w true:=(OT g).mpr ⟨λe he=>by
  rw [e1] at he;rcases List.mem_append.mp he with he | he
  ·exact List.mem_of_mem_drop (hd.1 e he)
  ·rw [List.mem_singleton.mp he];exact tr,hd.2⟩
 have l3:3<=w.length:=by
  obtain ⟨tl,rfl⟩:=ZbJ h
  match tl,h,hd with
  | [],h,_=>
   have:t.1=t.2:=h.2.2.1
   lia
  | [x],h,hd=>
   have hx:x=t.2:=h.2.2.1;subst hx;refine absurd (hd.1 t ?_) tnd;rw [Zar];show t∈[Jf t.1 t.2];rw [Xx tlt];simp
  | _::_::_,_,_=>simp
 have E:=Jw g oc (λ_=>l3);refine ⟨⟨l3,oc⟩,?_,λx hx=>?_⟩
 ·have:t∈(JX rs true w).map (road rs):=E.2.mem_iff.mpr (by rw [e1];simp);obtain ⟨x,hx,ex⟩:=List.mem_map.mp this;rw [<-Xw g (E.1.2 x hx) hj ex];exact hx
 ·have:road rs x∈edg w true:=E.2.mem_iff.mp (List.mem_map.mpr ⟨x,hx,rfl⟩);rw [e1] at this;have hx2:=E.1.2 x hx;rcases List.mem_append.mp this with he | he
  ·obtain ⟨i,hi⟩:=List.mem_iff_getElem?.mp (hd.1 _ he);rw [List.getElem?_drop] at hi;have:=Xw g hx2 hi rfl
   lia
  ·exact Int.le_of_eq (Xw g hx2 hj (List.mem_singleton.mp he)).symm
theorem Ze1 {k:Int}{rs:List (Int×Int)}(g:Gk k rs){j:Nat}{R:List (List Int)}(h:Rgs rs j R):∀w∈R,∃i,i<j/\∃t,rs[i]?=some t/\Way (rs.drop (i+1)) t.1 t.2 w:=by
 induction h with
 | nil=>intro w hw;cases hw
 | @one j R W hr _ hw ih=>
  intro w hm;rcases List.mem_append.mp hm with hm | hm
  ·obtain ⟨i,hi,r⟩:=ih w hm;exact ⟨i,by lia,r⟩
  ·obtain ⟨t,ht,wy⟩:=hw;exact ⟨j,by lia,t,ht,wy.ww w hm⟩
theorem Zdz {k:Int}{rs:List (Int×Int)}(g:Gk k rs){j:Nat}{R:List (List Int)}(h:Rgs rs j R)(hl:R.length<=300):∀i,i<j->∀t w,rs[i]?=some t->Way (rs.drop (i+1)) t.1 t.2 w->w∈R:=by
 induction h with
 | nil=>intro i hi;lia
 | @one j R W hr _ hw ih=>
  rw [List.length_append] at hl;intro i hi t w ht hway;by_cases e:i=j
  ·subst e;obtain ⟨t',ht',wy⟩:=hw;rw [ht] at ht';cases ht';exact List.mem_append_right _ (wy.al (by lia) w hway)
  ·exact List.mem_append_left _ (ih (by lia) i (by lia) t w ht hway)
theorem Zax {k:Int}{rs:List (Int×Int)}{c:List Int}(g:Gk k rs)(h:Cyc rs c):∃i t w,rs[i]?=some t/\Way (rs.drop (i+1)) t.1 t.2 w/\JX rs true w=JX rs true c:=by
 have E:=Jw g h.2 (λ_=>h.1);have ne:JX rs true c≠[]:=λe=>by
  have:=E.2.length_eq;rw [e] at this;unfold edg Gj at this;rw [if_pos rfl] at this;simp at this
 obtain ⟨j,S,hS⟩:∃j S,JX rs true c=j::S:=by
  cases hh:JX rs true c with
  | nil=>exact absurd hh ne
  | cons j S=>exact ⟨j,S,rfl⟩
 have asc:=E.1.1;rw [hS] at asc;have hjr:=E.1.2 j (by rw [hS];simp);have hjn:rs[j.toNat]?=some (road rs j):=by
  unfold road;rw [List.getElem?_eq_getElem (show j.toNat<rs.length by lia),List.getD_eq_getElem?_getD,List.getElem?_eq_getElem (show j.toNat<rs.length by lia)]
  rfl
 have tlt:=(g.2.2.2.1 _ (List.mem_of_getElem? hjn)).2.1;have hm:road rs j∈edg c true:=E.2.mem_iff.mp (by rw [hS];simp);obtain ⟨⟨x,y⟩,hst,exy⟩:=List.mem_map.mp hm;have exy:Jf x y=road rs j:=exy;obtain ⟨d,hdp,hde,hd0,hdl⟩:∃d:List Int,d.Perm c/\(edg d true).Perm (edg c true)/\d.getD 0 0=y/\d.getD (d.length-1) 0=x:=by
  unfold Gj at hst;rw [if_pos rfl] at hst;rcases List.mem_append.mp hst with hst | hst
  ·obtain ⟨n,hn⟩:=List.mem_iff_getElem?.mp hst;rw [List.getElem?_zip_eq_some,List.getElem?_drop] at hn;have l2:=(List.getElem?_eq_some_iff.mp hn.2).1;refine ⟨c.drop (n+1)++c.take (n+1),?_,?_,?_,?_⟩
   ·have:=List.perm_append_comm (l₁:=c.drop (n+1)) (l₂:=c.take (n+1));rw [List.take_append_drop] at this;exact this
   ·have:=OU (c.take (n+1)) (c.drop (n+1));rw [List.take_append_drop] at this;exact this
   ·rw [List.getD_eq_getElem?_getD,List.getElem?_append_left (by rw [List.length_drop];lia),List.getElem?_drop,show n+1+0=1+n by lia,hn.2]
    rfl
   ·rw [List.getD_eq_getElem?_getD,List.length_append,List.length_drop,List.length_take,Nat.min_eq_left (by lia),List.getElem?_append_right (by rw [List.length_drop];lia),List.length_drop,List.getElem?_take,if_pos (by lia),show c.length-(n+1)+(n+1)-1-(c.length-(n+1))=n by lia,hn.1]
    rfl
  ·have e:=List.mem_singleton.mp hst;have e1:=(Prod.mk.inj e).1;have e2:=(Prod.mk.inj e).2;exact ⟨c,.refl _,.refl _,e2.symm,e1.symm⟩
 obtain ⟨hd,ed⟩:=Yj g h hde hdp;obtain ⟨w,hwp,hwe,hw0,hwl⟩:∃w:List Int,w.Perm c/\(edg w true).Perm (edg c true)/\w.getD 0 0=(road rs j).1/\w.getD (w.length-1) 0=(road rs j).2:=by
  have l3:=hd.1;have hne:x≠y:=λe=>by
   have:(road rs j).1=(road rs j).2:=by
    rw [<-exy,e];unfold Jf;simp
   lia
  by_cases hyx:y<x
  ·have e2:road rs j=(y,x):=by
    rw [<-exy];unfold Jf;rw [if_pos hyx,if_neg (show ¬ y > x by lia)]
   exact ⟨d,hdp,hde,by rw [hd0,e2],by rw [hdl,e2]⟩
  ·have e2:road rs j=(x,y):=by
    rw [<-exy];unfold Jf;rw [if_neg hyx,if_pos (show y > x by lia)]
   refine ⟨d.reverse,(List.reverse_perm d).trans hdp,(Zas d).trans hde,?_,?_⟩
   ·rw [GY (by rw [List.length_reverse];lia),List.getElem_reverse,e2];rw [GY (by lia)] at hdl;simp only [Nat.sub_zero];exact hdl
   ·rw [GY (by rw [List.length_reverse];lia),List.getElem_reverse,e2];rw [GY (by lia)] at hd0;refine Eq.trans ?_ hd0
    congr 1
    rw [List.length_reverse]
    lia
 obtain ⟨hw,ew⟩:=Yj g h hwe hwp;refine ⟨j.toNat,road rs j,w,hjn,⟨λe=>by have:=hw.1;rw [e] at this;simp at this,hw0,hwl,?_⟩,ew⟩;refine (OT (UP g (j.toNat+1))).mpr ⟨λe he=>?_,hw.2.2⟩;have Ew:=Jw g hw.2 (λ_=>hw.1);rw [ew,hS] at Ew;have ec:edg w true=edg w false++[road rs j]:=by
  unfold edg Gj;rw [if_pos rfl,if_neg Bool.false_ne_true,List.append_nil,List.map_append];show _++[Jf (w.getD (w.length-1) 0) (w.getD 0 0)]=_;rw [hw0,hwl,OR,Xx tlt]
 rw [ec] at Ew;have p:(S.map (road rs)).Perm (edg w false):=by
  have:=Ew.2.trans List.perm_append_comm;exact this.cons_inv
 obtain ⟨x',hx',rfl⟩:=List.mem_map.mp (p.mem_iff.mpr he);have h1:=(List.pairwise_cons.mp asc).1 x' hx';have h2:=E.1.2 x' (by rw [hS];exact List.mem_cons_of_mem _ hx');refine List.mem_iff_getElem?.mpr ⟨x'.toNat-(j.toNat+1),?_⟩;rw [List.getElem?_drop,show j.toNat+1+(x'.toNat-(j.toNat+1))=x'.toNat by lia];unfold road;rw [List.getElem?_eq_getElem (show x'.toNat<rs.length by lia),List.getD_eq_getElem?_getD,List.getElem?_eq_getElem (show x'.toNat<rs.length by lia)]
 rfl
theorem ZdA {k:Int}{rs:List (Int×Int)}(g:Gk k rs){R:List (List Int)}(h:Rgs rs rs.length R)(hl:R.length<=300)(S:List Int):S∈R.map (JX rs true)↔∃c,Cyc rs c/\JX rs true c=S:=by
 constructor
 ·intro hS;obtain ⟨w,hw,rfl⟩:=List.mem_map.mp hS;obtain ⟨i,_,t,ht,hway⟩:=Ze1 g h w hw;exact ⟨w,(Zaw g ht hway).1,rfl⟩
 ·rintro ⟨c,hc,rfl⟩;obtain ⟨i,t,w,ht,hw,e⟩:=Zax g hc;exact List.mem_map.mpr ⟨w,Zdz g h hl i (List.getElem?_eq_some_iff.mp ht).1 t w ht hw,e⟩
end M
namespace M
open PySem L2
theorem JB (l:List Nat):(mkS l).length=l.length:=by simp [mkS,Str.length]
theorem ZdB (a b:Str):(a++b).cps.toList=a.cps.toList++b.cps.toList:=by rw [PySem.Str.cps_append,Array.toList_append]
theorem ZdC (a b:List Nat):mkS a++mkS b=mkS (a++b):=by
 apply ZX;rw [ZdB]
 rfl
theorem Ze2 (x:List Nat){a b:Nat}(h:a<=b)(hb:b<=x.length):StrLaws.sliceText (mkS x) (some (a:Int)) (some (b:Int))=mkS ((x.drop a).take (b-a)):=StrLaws.sliceText_nat (mkS x) h (by rw [JB];exact hb)
theorem Ze3 (x:List Nat){a b:Nat}(h:a<=b):StrLaws.sliceText (mkS x) (some (a:Int)) (some (b:Int))=mkS ((x.drop a).take (b-a)):=by
 have e:StrLaws.sliceText (mkS x) (some (a:Int)) (some (b:Int))=StrLaws.sliceText (mkS x) (some ((min a x.length:Nat):Int)) (some ((min b x.length:Nat):Int)):=by
  have c:Builtin.Str.strSliceIndices (some (a:Int)) (some (b:Int)) 1 x.length=Builtin.Str.strSliceIndices (some ((min a x.length:Nat):Int)) (some ((min b x.length:Nat):Int)) 1 x.length:=by
   have h1:¬ ((a:Int)<0):=by lia
   have h2:¬ ((b:Int)<0):=by lia
   have h3:¬ (((min a x.length:Nat):Int)<0):=by lia
   have h4:¬ (((min b x.length:Nat):Int)<0):=by lia
   have h5:max 0 (min (a:Int) (x.length:Int))=max 0 (min ((min a x.length:Nat):Int) (x.length:Int)):=by lia
   have h6:max 0 (min (b:Int) (x.length:Int))=max 0 (min ((min b x.length:Nat):Int) (x.length:Int)):=by lia
   unfold Builtin.Str.strSliceIndices;simp only [if_neg h1,if_neg h2,if_neg h3,if_neg h4,h5,h6,gt_iff_lt,Int.zero_lt_one,if_true]
  unfold StrLaws.sliceText;rw [JB,c]
 rw [e,Ze2 x (by lia) (by lia)]
 congr 1
 by_cases ha:a<=x.length
 ·rw [Nat.min_eq_left ha];by_cases hb:b<=x.length
  ·rw [Nat.min_eq_left hb]
  ·rw [Nat.min_eq_right (by lia),List.take_of_length_le (by rw [List.length_drop];lia),List.take_of_length_le (by rw [List.length_drop];lia)]
 ·rw [Nat.min_eq_right (show x.length<=a by lia),List.drop_of_length_le (Nat.le_refl _),List.drop_of_length_le (show x.length<=a by lia),List.take_nil,List.take_nil]
theorem Zay (x:List Nat){b:Nat}:StrLaws.sliceText (mkS x) none (some (b:Int))=mkS (x.take b):=by
 have e:StrLaws.sliceText (mkS x) none (some (b:Int))=StrLaws.sliceText (mkS x) (some ((0:Nat):Int)) (some (b:Int)):=by
  unfold StrLaws.sliceText;rw [StrLaws.sliceIdx_none_lo]
  rfl
 rw [e,Ze3 x (by lia)]
 rfl
def YR (rs:List (Int×Int))(k c:Nat)(ks:List Int):Nat->Option (List Int×List (List Nat))
 | 0=>some (m0 k,[])
 | j+1=>(YR rs k c ks j).bind λp=>(X9 rs nE nE p.1 j (decide ((j:Int)∈ks))).map λm=>(m,if (j+1) % (2 * c-1)=0 then p.2++[YQ m ((((j+1) / (2 * c-1):Nat):Int) * (c:Int)) c] else p.2)
def JI (r c:Nat)(ks:List Int):Option (List (List Nat)):=(YR (gRoads r c (r * c)) (r * c) c ks (gRoads r c (r * c)).length).map (·.2)
theorem Yk {rs:List (Int×Int)}{k c:Nat}{ks:List Int}{j:Nat}(h:YR rs k c ks j=none):∀d,YR rs k c ks (j+d)=none
 | 0=>h
 | d+1=>by
  show (YR rs k c ks (j+d)).bind _=none;rw [Yk h d]
  rfl
theorem Zaz {rs:List (Int×Int)}{k c:Nat}{ks:List Int}(k1:1<=k)(gr:∀r∈rs,0<=r.1/\r.1<r.2/\r.2<(k:Int)):∀{j:Nat}{p:List Int×List (List Nat)},j<=rs.length->YR rs k c ks j=some p->OkM k p.1/\p.2.length<=j
 | 0,p,_,h=>by
  cases h;exact ⟨⟨List.length_replicate,λq hq=>by have:=(List.mem_replicate.mp hq).2;lia⟩,Nat.le_refl _⟩
 | j+1,p,hj,h=>by
  obtain ⟨p0,h0,h1⟩:=Option.bind_eq_some_iff.mp (show (YR rs k c ks j).bind _=some p from h);obtain ⟨m,hm,rfl⟩:=Option.map_eq_some_iff.mp h1;obtain ⟨i1,i2⟩:=Zaz k1 gr (show j<=rs.length by lia) h0;refine ⟨Zan i1 (gr _ (OQ (rs:=rs) (show j<rs.length by lia))) k1 hm,?_⟩;show (if _ then p0.2++[_] else p0.2).length<=j+1;split
  ·rw [List.length_append,List.length_singleton];lia
  ·lia
def VW (k:Int)(rs:List (Int×Int))(ks:List Int):Prop:=∃(s:Int)(tl:List Int),Begins (cho rs ks rs.length) s/\Wk (cho rs ks rs.length) s tl []/\YI rs ks k tl
theorem Xy {k:Int}{rs:List (Int×Int)}{ns:List Int}(g:Gk k rs)(R:Zcj rs ns):VW k rs (JX rs true ns):=by
 obtain ⟨s,tl,e,b,w⟩:=Zat g R;exact ⟨s,tl++[s],b,w,Zau g R e⟩
theorem ZbL {r c j n:Nat}(hc:2<=c)(hj:j+1<=n)(hl:n<=(r-1) * (2 * c-1)+(c-1))(hr:1<=r):((j+1) / (2 * c-1)+1) * c<=r * c:=by
 have h:(j+1) / (2 * c-1)<r:=by
  rw [Nat.div_lt_iff_lt_mul (by lia)];have e:r * (2 * c-1)=(r-1) * (2 * c-1)+(2 * c-1):=by
   conv=>lhs;rw [show r=(r-1)+1 by lia]
   rw [Nat.succ_mul]
  lia
 exact Nat.mul_le_mul_right c h
section
variable {P:Program}{w:World}{K:W.Frag}{mg:Str->Option Value}{base:Heap}
def Zgo:Sp:=λvs H Q _=>∃(r c:Nat)(kl:Addr)(ks:List Int)(ws:List (List Nat)),vs=[.int (r:Int),.int (c:Int),.ref kl]/\(2<=r/\2<=c/\r * c<=12/\(gRoads r c (r * c)).length<=(r-1) * (2 * c-1)+(c-1))/\Gk ((r * c:Nat):Int) (gRoads r c (r * c))/\H kl=some (.lst (ks.map V.int))/\VW ((r * c:Nat):Int) (gRoads r c (r * c)) ks/\JI r c ks=some ws /\
 ∀(l:Addr)(H':Hp),Same H H'->H l=none->H' l=some (.lst (ws.map λx=>V.str (mkS x)))->Q (.ref l) H'
theorem scWf:Gr ["rows", "columns", "roads", "web", "words", "marks", "number", "step", "row", "left"] ["rows", "columns", "roads"] (Gc sWf):=⟨rfl,rfl,rfl,by decide +kernel,rfl,by decide +kernel,by decide +kernel⟩
theorem Zgp {f fGr fCof fFm fSo fDe fRr fWn C NW:Addr}{fd fdGr fdCof fdFm fdSo fdDe fdRr fdWn:FuncData}(F:Fun K "words_of" "words_of" sWf f fd)(FGr:Fun K "grid" "grid" sGr fGr fdGr)(bGr:Binds K fdGr ["rows", "columns"] [])(mGr:mg "grid" = some (.ref fGr))(GGr:GG P w K mg base (CXr P w) 1 fGr fdGr ["rows", "columns"] (Ve C))(FCof:Fun K "closed_of" "closed_of" Zbq fCof fdCof)(bCof:Binds K fdCof ["web", "roads"] [])(mCof:mg "closed_of" = some (.ref fCof))(GCof:GG P w K mg base (CXr P w) 5 fCof fdCof ["web", "roads"] (ZeJ NW))(FFm:Fun K "first_marks" "first_marks" sFm fFm fdFm)(bFm:Binds K fdFm ["web", "needed"] [])(mFm:mg "first_marks" = some (.ref fFm))(GFm:GG P w K mg base CX0 4 fFm fdFm ["web", "needed"] Zf7)(FSo:Fun K "steps_of" "steps_of" sSo fSo fdSo)(bSo:Binds K fdSo ["web", "needed"] [])(mSo:mg "steps_of_marks" = some (.ref fSo))(GSo:GG P w K mg base CX0 2 fSo fdSo ["web", "needed"] Zf5)(FDe:Fun K "decided" "decided" sDe fDe fdDe)(bDe:Binds K fdDe ["marks", "step", "ends", "chosen"] [])(mDe:mg "decided" = some (.ref fDe))(GDe:GG P w K mg base CX0 3 fDe fdDe ["marks", "step", "ends", "chosen"] Zf2)(FRr:Fun K "roads_of_row" "roads_of_row" sRr fRr fdRr)(bRr:Binds K fdRr ["columns"] [])(mRr:mg "roads_of_row" = some (.ref fRr))(GRr:GG P w K mg base CX0 1 fRr fdRr ["columns"] Zge)(FWn:Fun K "word_in" "word_in" sWn fWn fdWn)(bWn:Binds K fdWn ["marks", "row", "columns"] [])(mWn:mg "word_in" = some (.ref fWn))(GWn:GG P w K mg base CX0 2 fWn fdWn ["marks", "row", "columns"] Zgh)(mEnum:mg "enumerate" = none)(mDiv:mg "divmod" = none):GG P w K mg base (CXr P w) 6 f fd ["rows", "columns", "roads"] Zgo:=by
 refine F.okR scWf (λvs H Q E h=>?_) (λcdv A outer s0 H vs Q E hr h=>?_)
 ·obtain ⟨_,_,_,_,_,rfl,_⟩:=h
  rfl
 ·obtain ⟨r,c,kl,ks,ws,rfl,⟨r2,c2,rc,qV⟩,g,hkl,cl,hws,q⟩:=h;have h16:(16777216:Nat)=sizeLine:=sizeLine_eq.symm;have hr6:r * 2<=r * c:=Nat.mul_le_mul_left r c2;have hc6:2 * c<=r * c:=Nat.mul_le_mul_right c r2;have gr:=Oj (r:=r) (c:=c) (by lia);have hgl:=JL r c (r * c);refine ⟨_,(@Gd _ _ _ _ _ (@Gs _ _ 3 _ _ _ _ scWf.nd rfl (Or.inl rfl) (@Gh _ _ _ _ _ _ _ _ _ _ _ _ _ _ _ _ GGr (hr.mono (by decide)) rfl mGr FGr.kp bGr .nil We (@Ga _ _ _ _ _ (pv 0) (@Ga _ _ _ _ _ (pv 1) Ge rfl) rfl) (by decide) rfl rfl) rfl (by first | exact .inl rfl | exact .inr rfl))
    (@Gd _ _ _ _ _ (Jk (@Gh _ _ _ _ _ _ _ _ _ _ _ _ _ _ _ _ GCof (hr.mono (by decide)) rfl mCof FCof.kp bCof .nil We (@Ga _ _ _ _ _ (pv 3) (@Ga _ _ _ _ _ (pv 2) Ge rfl) rfl) (by decide) rfl rfl))
    (@Gd _ _ _ _ _ (@Gs _ _ 4 _ _ _ _ scWf.nd rfl (Or.inl rfl) (@Jd _ _ _ _ Ge) rfl (by first | exact .inl rfl | exact .inr rfl))
    (@Gd _ _ _ _ _ (@Gs _ _ 5 _ _ _ _ scWf.nd rfl (Or.inl rfl) (@GJ _ _ _ _ _ _ _ (UR K) (@Gh _ _ _ _ _ _ _ _ _ _ _ _ _ _ _ _ GFm (hr.mono (by decide)) rfl mFm FFm.kp bFm .nil GQ (@Ga _ _ _ _ _ (pv 3) (@Ga _ _ _ _ _ (@Jd _ _ _ _ Ge) Ge rfl) rfl) (by decide) rfl rfl) Gg (λ_ _=>rfl)) rfl (by first | exact .inl rfl | exact .inr rfl))
    (@Gd _ _ _ _ _ (@JD _ _ _ _ _ _ _ _ PassesOwn.leaving rfl (Wf K rfl mEnum (@Ga _ _ _ _ _ (@Gh _ _ _ _ _ _ _ _ _ _ _ _ _ _ _ _ GSo (hr.mono (by decide)) rfl mSo FSo.kp bSo .nil GQ (@Ga _ _ _ _ _ (pv 3) (@Ga _ _ _ _ _ (@Jd _ _ _ _ Ge) Ge rfl) rfl) (by decide) rfl rfl) Ge rfl)) (WX K (n:=2) rfl (Gv (Gi (i:=6) scWf.nd rfl (Or.inl rfl)) (Gv (Gi (i:=7) scWf.nd rfl (Or.inl rfl)) Jb)))
    (@Gd _ _ _ _ _ (@Gs _ _ 5 _ _ _ _ scWf.nd rfl (Or.inl rfl) (@Gh _ _ _ _ _ _ _ _ _ _ _ _ _ _ _ _ GDe (hr.mono (by decide)) rfl mDe FDe.kp bDe .nil GQ (@Ga _ _ _ _ _ (pv 5) (@Ga _ _ _ _ _ (pv 7) (@Ga _ _ _ _ _ Uq (@Ga _ _ _ _ _ (JJ (kIn K) (pv 6) (pv 2) (by with_unfolding_all rfl)) Ge rfl) rfl) rfl) rfl) (by decide) rfl rfl) rfl (by first | exact .inl rfl | exact .inr rfl))
    (@Gd _ _ _ _ _ (@JZ _ _ _ _ _ _ (Gz Uw rfl mDiv PyProof.Rows.boot_divmod (@Ga _ _ _ _ _ (@GF _ _ _ _ _ _ _ _ G7 (pv 6) Gg) (@Ga _ _ _ _ _ (@Gh _ _ _ _ _ _ _ _ _ _ _ _ _ _ _ _ GRr (hr.mono (by decide)) rfl mRr FRr.kp bRr .nil GQ (@Ga _ _ _ _ _ (pv 1) Ge rfl) (by decide) rfl rfl) Ge rfl) rfl)) (WX K (n:=2) rfl (Gv (Gi (i:=8) scWf.nd rfl (Or.inl rfl)) (Gv (Gi (i:=9) scWf.nd rfl (Or.inl rfl)) Jb))) rfl rfl rfl)
    (@Gf _ _ _ (@Je _ _ _ _ _ _ _ _ (Gw UQ (pv 9) Gg (GE _)) (@Gf _ _ _ (Jk (O0 PySem.F.plainAttrs_list PySem.F.slot_list_append PySem.F.type_list_append Ja (pv 4) (@Ga _ _ _ _ _ (@Gh _ _ _ _ _ _ _ _ _ _ _ _ _ _ _ _ GWn (hr.mono (by decide)) rfl mWn FWn.kp bWn .nil GQ (@Ga _ _ _ _ _ (pv 5) (@Ga _ _ _ _ _ (pv 8) (@Ga _ _ _ _ _ (pv 1) Ge rfl) rfl) rfl) (by decide) rfl rfl) Ge rfl)))) GB)))) (by intro _;rfl))
    (@Gf _ _ _ (@Gu _ _ _ _ (pv 4)))))))),?_⟩
  refine ⟨_,rfl,_,rfl,_,_,rfl,.inl ⟨r,c,rfl,rfl,by lia,by lia,by lia,by lia,λwb l xs H1 s1 hwb hl nwl ewb el P1=>?_⟩⟩;have W1:WebAt H1 wb l ((r * c:Nat):Int) xs (gRoads r c (r * c)):=⟨by rw [ewb];push_cast;rfl,el,P1⟩;dsimp only [G0];unfold JI at hws;obtain ⟨pf,hpf,rfl⟩:=Option.map_eq_some_iff.mp hws;generalize gRoads r c (r * c)=rs at *;obtain ⟨s,tl,bg0,wk0,gd0⟩:=cl;have cne:cho rs ks rs.length≠[]:=λe=>by
   obtain ⟨t,ht,_⟩:=bg0.2;rw [e] at ht;cases ht
  refine ⟨_,rfl,_,rfl,wb,l,kl,_,xs,rs,ks,rfl,W1,g,s1 _ _ hkl,λs' tl' rest bg wk=>?_⟩;have e1:s'=s:=(bg cne).one bg0;subst e1;have e2:=wk.det wk0;subst e2;refine ⟨λ_ rr H2 s2 _ _=>?_,λnb=>absurd gd0 nb⟩;refine ⟨Nat.zero_le _,λW hW=>?_⟩;have s3:Same H2 (upd H2 W (.lst [])):=Same.new hW;have eW3:upd H2 W (.lst []) W=some (.lst []):=Gb;have hW0:H W=none:=(s1.trans s2).free hW;generalize upd H2 W (.lst [])=H3 at s3 eW3 ⊢;have S3:=s1.trans (s2.trans s3);dsimp only [G0];refine ⟨_,rfl,Nat.zero_le _,λe4 he4=>?_⟩;have s4:Same H3 (upd H3 e4 (.lst [])):=Same.new he4;have ee4:upd H3 e4 (.lst []) e4=some (.lst []):=Gb;generalize upd H3 e4 (.lst [])=H4 at s4 ee4 ⊢;refine ⟨wb,l,e4,r * c,xs,rs,rfl,W1.same (s2.trans (s3.trans s4)),by lia,.inr ⟨rfl,rfl,ee4⟩,λF0 T1 H5 s5 hF0 eF eT1=>?_⟩;refine ⟨F0,_,_,_,rfl,rfl,SqL.of eF,Gx (j:=0) rfl,?_⟩;dsimp only [G0];refine ⟨_,rfl,Nat.zero_le _,λe6 he6=>?_⟩;have s6:Same H5 (upd H5 e6 (.lst [])):=Same.new he6;have ee6:upd H5 e6 (.lst []) e6=some (.lst []):=Gb;generalize upd H5 e6 (.lst [])=H6 at s6 ee6 ⊢;have s36:=s4.trans (s5.trans s6);refine ⟨wb,l,e6,((r * c:Nat):Int),xs,rs,nE,nE,rfl,W1.same (s2.trans (s3.trans s36)),by lia,λx hx=>⟨(gr x hx).1,(gr x hx).2.1⟩,.inr ⟨rfl,rfl,ee6⟩,λS zs H7 s7 hS eS zl st sn=>?_⟩;have S7:=S3.trans (s36.trans s7);have eW7:=(s36.trans s7) _ _ eW3;have nS:S≠W:=λe=>by rw [e,s36 _ _ eW3] at hS;cases hS
  refine ⟨S,zs,rfl,SqL.of eS,?_⟩;refine Od (K:=K) (a:=S) (xs:=zs) (λi σ H8=>∃(v6 v7 v8 v9:Option V)(T:Addr)(p:List Int×List (List Nat)),σ=[some (.int (r:Int)),some (.int (c:Int)),some (.ref kl),some (.ref wb),some (.ref W),some (.ref T),v6,v7,v8,v9]/\SameX W H7 H8/\H8 W=some (.lst (p.2.map λx=>V.str (mkS x)))/\H8 T=some (.tup (p.1.map V.int))/\YR rs (r * c) c ks i=some p)
   ⟨none,none,none,none,T1,(m0 (r * c),[]),rfl,λ_ _ _ y=>y,eW7,(s6.trans s7) _ _ eT1,rfl⟩ (λi σ H8 _ ⟨_,_,_,_,_,_,_,y,_⟩=>SqL.of (y _ _ nS eS)) ?_ ?_
  ·rintro i x σ H8 D hxi ⟨v6,v7,v8,v9,T,p,rfl,sx,eW,eT,hp⟩ hD;have hi:i<zs.length:=(List.getElem?_eq_some_iff.mp hxi).1;obtain ⟨om,pl⟩:=Zaz (by lia) gr (by lia) hp;have s9:Same H8 (upd H8 D (.tup [.int (i:Nat),x])):=Same.new hD;refine ⟨D,_,rfl,SqT.of Gb,rfl,_,_,rfl,_,_,rfl,rfl,?_⟩;generalize upd H8 D (.tup [.int (i:Nat),x])=H9 at s9 ⊢;dsimp only [G0];refine ⟨_,rfl,_,rfl,λe10 he10 o10=>?_⟩;have s10:Same H9 (upd H9 e10 (.frz o10 (.dK []))):=Same.new he10;have E10:EndD (upd H9 e10 (.frz o10 (.dK []))) e10 nE nE:=⟨rfl,rfl,o10,Gb⟩;generalize upd H9 e10 (.frz o10 (.dK []))=H10 at s10 E10 ⊢;have hk10:H10 kl=some (.lst (ks.map V.int)):=(s9.trans s10) _ _ (sx _ _ (λe=>by rw [e,hW0] at hkl;cases hkl) (S7 _ _ hkl));refine ⟨_,rfl,_,rfl,kl,_,rfl,.inl (SqL.of hk10),rfl,UH _,?_⟩;have hir:i<rs.length:=by lia
   have hrd:=gr _ (OQ (rs:=rs) hir);have s810:=s9.trans s10;have eT10:=s810 _ _ eT;have eW10:=s810 _ _ eW;refine ⟨T,e10,x,p.1,rs,nE,nE,i,decide ((i:Int)∈ks),by rw [<-VI];rfl,eT10,?st,E10,⟨hir,⟨hrd.1,hrd.2.1,by rw [om.1];lia⟩,λq hq=>by have:=om.2 q hq;rw [om.1];lia,by rw [om.1];lia⟩,λH11 s11 hn=>?no,λT' m' H11 s11 eT' hm=>?_⟩
   case st=>
    obtain ⟨TT,rr,lv,nd,ex,g1,g2,g3,g4⟩:=(st i x hxi).ex;obtain ⟨T2,r2',lv',nd',ex',g1',n1,n2⟩:=sn i x hxi;rw [ex] at ex';cases ex';rw [g1] at g1';cases g1';have w6:=s36 _ _ eW3;have tr:∀{b u},b≠W->H7 b=some u->H10 b=some u:=λn y=>s810 _ _ (sx _ _ n y);exact ⟨TT,rr,lv,nd,ex,tr (JY g1 eW7 (λz=>by cases z)) g1,tr (JY g2 eW7 (λz=>by cases z)) g2,tr (λz=>by rw [z,w6] at n1;cases n1) g3,tr (λz=>by rw [z,w6] at n2;cases n2) g4⟩
   case no=>
    have z:YR rs (r * c) c ks (i+1)=none:=by
     show (YR rs (r * c) c ks i).bind _=none;rw [hp];show (X9 rs nE nE p.1 i _).map _=none;rw [hn]
     rfl
    have y:=Yk z (rs.length-(i+1));rw [show i+1+(rs.length-(i+1))=rs.length by lia,hpf] at y;cases y
   have hp1:YR rs (r * c) c ks (i+1)=some (m',if (i+1) % (2 * c-1)=0 then p.2++[YQ m' ((((i+1) / (2 * c-1):Nat):Int) * (c:Int)) c] else p.2):=by
    show (YR rs (r * c) c ks i).bind _=_;rw [hp];show (X9 rs nE nE p.1 i _).map _=_;rw [hm]
    rfl
   obtain ⟨om1,_⟩:=Zaz (by lia) gr (by lia) hp1;dsimp only at om1;dsimp only [G0];have s811:=s810.trans s11;refine ⟨_,rfl,_,_,rfl,rfl,_,rfl,(c:Int),rfl,(i:Int)+1,2 * (c:Int)-1,rfl,⟨by lia,by lia⟩,λd hd=>?_⟩;have s12:Same H11 (upd H11 d (.tup [.int (((i:Int)+1) / (2 * (c:Int)-1)),.int (((i:Int)+1) % (2 * (c:Int)-1))])):=Same.new hd;refine ⟨d,_,rfl,SqT.of Gb,rfl,_,_,rfl,_,_,rfl,rfl,?_⟩;generalize upd H11 d (.tup [.int (((i:Int)+1) / (2 * (c:Int)-1)),.int (((i:Int)+1) % (2 * (c:Int)-1))])=H12 at s12 ⊢;have s812:=s811.trans s12;have e2c:2 * (c:Int)-1=((2 * c-1:Nat):Int):=by lia
   have ei:(i:Int)+1=((i+1:Nat):Int):=rfl;have ed:((i:Int)+1) / (2 * (c:Int)-1)=(((i+1) / (2 * c-1):Nat):Int):=by rw [e2c,ei];rfl
   have em:((i:Int)+1) % (2 * (c:Int)-1)=(((i+1) % (2 * c-1):Nat):Int):=by rw [e2c,ei];rfl
   dsimp only [G0];rw [ed,em];refine ⟨_,rfl,rfl,_,rfl,?_⟩;rw [JH];refine Uk (λhz=>?_) (λhz=>?_)
   ·have hz':(i+1) % (2 * c-1)=0:=by have:=of_decide_eq_true hz;lia
    rw [if_pos hz'] at hp1;have fit:=ZbL (r:=r) (j:=i) c2 (show i+1<=rs.length by lia) qV (by lia);have ib:(i+1) / (2 * c-1)<=i+1:=Nat.div_le_self _ _;refine ⟨_,rfl,.inl ⟨rfl,_,SqL.of (s812 _ _ eW)⟩,_,rfl,_,rfl,_,rfl,T',m',(i+1) / (2 * c-1),c,rfl,s12 _ _ eT',by rw [om1.1];lia,by lia,by lia,by lia,λH13 s13=>?_⟩;have eW13:=(s812.trans s13) _ _ eW;have eT13:=(s12.trans s13) _ _ eT';have sx13:SameX W H7 H13:=λb u n y=>(s812.trans s13) _ _ (sx b u n y);refine ⟨W,_,_,rfl,rfl,eW13,by rw [List.length_map];lia,?_⟩;exact ⟨_,_,_,_,T',_,rfl,λb u n y=>Gq (sx13 b u n y) n,by rw [Gb,List.map_append];rfl,Gq eT13 (JY eT13 eW13 (λz=>by cases z)),hp1⟩
   ·have hz':(i+1) % (2 * c-1)≠0:=λy=>hz (decide_eq_true (by lia));rw [if_neg hz'] at hp1;exact ⟨_,_,_,_,T',(m',p.2),rfl,λb u n y=>s812 _ _ (sx b u n y),s812 _ _ eW,s12 _ _ eT',hp1⟩
  ·rintro σ H8 ⟨v6,v7,v8,v9,T,p,rfl,sx,eW,eT,hp⟩;rw [zl,hpf] at hp;cases hp;refine ⟨_,rfl,q W H8 (λb u y=>sx b u (λz=>by rw [z,hW0] at y;cases y) (S7 _ _ y)) hW0 eW⟩
end
end M
namespace M
open PySem L2
section
variable {P:Program}{w:World}{K:W.Frag}{mg:Str->Option Value}{base:Heap}
def Zcn (c:Nat)(fr:List (List Nat))(t:Int×Int):Bool:=
 if t.2=t.1+(c:Int) then !decide ((fr.getD (t.1.toNat / c+1) []).getD (t.1.toNat % c) 0=46)
 else decide ((((fr.getD (t.1.toNat / c) []).take (t.1.toNat % c+1)++(fr.getD (t.1.toNat / c+1) []).take (t.1.toNat % c+1)).length-((fr.getD (t.1.toNat / c) []).take (t.1.toNat % c+1)++(fr.getD (t.1.toNat / c+1) []).take (t.1.toNat % c+1)).count 46) % 2=1)
theorem ZaA {fr:List (List Nat)}{j:Nat}(h:j<fr.length):atI (fr.map λx=>V.str (mkS x)) (j:Int)=some (.str (mkS (fr.getD j []))):=by
 refine Gx ?_;rw [List.getElem?_map,List.getD_eq_getElem?_getD,List.getElem?_eq_getElem h]
 rfl
def Zg1:Sp:=λvs H Q _=>∃(rd fl:Addr)(a:Nat)(b:Int)(c:Nat)(fr:List (List Nat)),vs=[.ref rd,.ref fl,.int (c:Int)]/\H rd=some (.tup [.int (a:Int),.int b])/\H fl=some (.lst (fr.map λx=>V.str (mkS x)))/\(1<=c/\c<=100)/\a / c+1<fr.length/\(∀x∈fr,x.length=c)/\∀H',Same H H'->Q (.bl (Zcn c fr ((a:Int),b))) H'
theorem scIc:Gr ["road", "words", "columns", "a", "b", "row", "column", "crossing"] ["road", "words", "columns"] (Gc sIc):=⟨rfl,rfl,rfl,by decide +kernel,rfl,by decide +kernel,by decide +kernel⟩
theorem Zgq {f:Addr}{fd:FuncData}(F:Fun K "is_chosen" "is_chosen" sIc f fd)(mDiv:mg "divmod" = none)(mLen:mg "len" = none):GG P w K mg base CX0 1 f fd ["road", "words", "columns"] Zg1:=by
 refine F.ok scIc (λvs H Q E h=>?_) (λcdv A outer s0 H vs Q E hr h=>?_)
 ·obtain ⟨_,_,_,_,_,_,rfl,_⟩:=h
  rfl
 ·obtain ⟨rd,fl,a,b,c,fr,rfl,hrd,hfl,⟨c1,c2⟩,hac,hfr,q⟩:=h;have h16:(16777216:Nat)=sizeLine:=sizeLine_eq.symm;refine ⟨_,(@Gd _ _ _ _ _ (@JZ _ _ _ _ _ _ (pv 0) (WX K (n:=2) rfl (Gv (Gi (i:=3) scIc.nd rfl (Or.inl rfl)) (Gv (Gi (i:=4) scIc.nd rfl (Or.inl rfl)) Jb))) rfl rfl rfl)
    (@Gd _ _ _ _ _ (@JZ _ _ _ _ _ _ (Gz Uw rfl mDiv PyProof.Rows.boot_divmod (@Ga _ _ _ _ _ (pv 3) (@Ga _ _ _ _ _ (pv 2) Ge rfl) rfl)) (WX K (n:=2) rfl (Gv (Gi (i:=5) scIc.nd rfl (Or.inl rfl)) (Gv (Gi (i:=6) scIc.nd rfl (Or.inl rfl)) Jb))) rfl rfl rfl)
    (@Gd _ _ _ _ _ (@Je _ _ _ _ _ _ _ _ (Gw UQ (pv 4) (@GF _ _ _ _ _ _ _ _ G7 (pv 3) (pv 2)) (GE _)) (@Gf _ _ _ (@Gu _ _ _ _ (JJ WU (GJ Zd3 (@GJ _ _ _ _ _ _ _ (UR K) (pv 1) (@GF _ _ _ _ _ _ _ _ G7 (pv 5) Gg) (λ_ _=>rfl)) (pv 6) (λ_ _=>rfl)) Jt (GE _)))) GB)
    (@Gd _ _ _ _ _ (@Gs _ _ 7 _ _ _ _ scIc.nd rfl (Or.inl rfl) (@Zc5 _ _ _ _ _ _ (J9 ZgO (@GJ _ _ _ _ _ _ _ (UR K) (pv 1) (pv 5) (λ_ _=>rfl)) OY (OZ (@GF _ _ _ _ _ _ _ _ G7 (pv 6) Gg))) (J9 ZgO (@GJ _ _ _ _ _ _ _ (UR K) (pv 1) (@GF _ _ _ _ _ _ _ _ G7 (pv 5) Gg) (λ_ _=>rfl)) OY (OZ (@GF _ _ _ _ _ _ _ _ G7 (pv 6) Gg)))) rfl (by first | exact .inl rfl | exact .inr rfl))
    (@Gf _ _ _ (@Gu _ _ _ _ (JJ UQ (@GF _ _ _ _ _ _ _ _ UX (@GF _ _ _ _ _ _ _ _ UW (Gz Zet rfl mLen PySem.boot_len (@Ga _ _ _ _ _ (pv 7) Ge rfl)) (O0 PySem.F.plainAttrs_str PySem.F.slot_str_count PySem.F.type_str_count Z3 (pv 7) (@Ga _ _ _ _ _ Jt Ge rfl))) Gg) Gg (GE _)))))))),?_⟩
  refine ⟨_,rfl,rd,_,rfl,SqT.of hrd,rfl,_,_,rfl,_,_,rfl,rfl,?_⟩;dsimp only [G0];refine ⟨_,rfl,_,rfl,(a:Int),(c:Int),rfl,⟨by lia,by lia⟩,λp hp=>?_⟩;have s1:Same H (upd H p (.tup [.int ((a:Int) / (c:Int)),.int ((a:Int) % (c:Int))])):=Same.new hp;refine ⟨p,_,rfl,SqT.of Gb,rfl,_,_,rfl,_,_,rfl,rfl,?_⟩;generalize upd H p (.tup [.int ((a:Int) / (c:Int)),.int ((a:Int) % (c:Int))])=H1 at s1 ⊢;dsimp only [G0];have ed:(a:Int) / (c:Int)=((a / c:Nat):Int):=rfl;have em:(a:Int) % (c:Int)=((a % c:Nat):Int):=rfl;rw [ed,em];have hm:a % c<c:=Nat.mod_lt _ (by lia);have hf1:=s1 _ _ hfl;have q:=q H1 s1;unfold Zcn at q;dsimp only at q;rw [Int.toNat_natCast] at q;generalize a / c=d at *;generalize a % c=m at *;have l0:(fr.getD d []).length=c:=hfr _ (by rw [List.getD_eq_getElem?_getD,List.getElem?_eq_getElem (show d<fr.length by lia)];exact List.getElem_mem _);have l1:(fr.getD (d+1) []).length=c:=hfr _ (by rw [List.getD_eq_getElem?_getD,List.getElem?_eq_getElem hac];exact List.getElem_mem _);have a0:=ZaA (fr:=fr) (show d<fr.length by lia);have a1:=ZaA hac;generalize fr.getD d []=x0 at *;generalize fr.getD (d+1) []=x1 at *;refine ⟨_,rfl,_,rfl,_,rfl,_,_,rfl,rfl,rfl,_,rfl,?_⟩;rw [JH];have a2:atI (fr.map λx=>V.str (mkS x)) ((d:Int)+1)=some (.str (mkS x1)):=a1;have pt:(Str.ofString "." : Str)=mkS [46]:=rfl;refine Uk (λhz=>?_) (λhz=>?_)
  ·rw [if_pos (of_decide_eq_true hz)] at q;have ax:atI (mkS x1).cps.toList (m:Int)=some (x1.getD m 0):=Gx (by
    show x1[m]?=_;rw [List.getD_eq_getElem?_getD,List.getElem?_eq_getElem (show m<x1.length by lia)]
    rfl)
   refine ⟨_,rfl,_,rfl,_,_,rfl,rfl,fl,_,_,_,rfl,rfl,SqL.of hf1,a2,_,rfl,_,_,_,rfl,rfl,by rw [JB];lia,ax,rfl,?_⟩;have e:(!decide (V.str ⟨#[x1.getD m 0]⟩=V.str (Str.ofString ".")))=!decide (x1.getD m 0=46):=by
    congr 1
    rw [pt];refine decide_eq_decide.mpr ⟨λz=>?_,λz=>by rw [z];rfl⟩;have z:=V.str.inj z;have z:[x1.getD m 0]=[46]:=str_mk.mp z;exact List.head_eq_of_cons_eq z
   rw [e];exact q
  ·rw [if_neg (λz=>hz (decide_eq_true z))] at q;have em1:(m:Int)+1=((m+1:Nat):Int):=rfl;refine ⟨_,rfl,_,rfl,fl,_,_,_,rfl,rfl,SqL.of hf1,a0,_,rfl,_,_,rfl,rfl,(m:Int)+1,rfl,_,rfl,by rw [JB];lia,?_⟩;refine ⟨_,rfl,_,rfl,_,_,rfl,rfl,fl,_,_,_,rfl,rfl,SqL.of hf1,a2,_,rfl,_,_,rfl,rfl,(m:Int)+1,rfl,_,rfl,by rw [JB];lia,?_⟩;rw [em1,Zay,Zay];refine ⟨_,_,rfl,rfl,by rw [JB,JB,List.length_take,List.length_take];lia,?_⟩;rw [ZdC];have lw:(x0.take (m+1)++x1.take (m+1)).length=2 * (m+1):=by rw [List.length_append,List.length_take,List.length_take];lia
   have lc:(x0.take (m+1)++x1.take (m+1)).count 46<=(x0.take (m+1)++x1.take (m+1)).length:=List.count_le_length;generalize x0.take (m+1)++x1.take (m+1)=y at *;dsimp only [G0];have ec:((y.length:Nat):Int)-((y.count 46:Nat):Int)=((y.length-y.count 46:Nat):Int):=by lia
   refine ⟨_,rfl,_,rfl,by rw [JB];lia,_,rfl,rfl,y,46,rfl,rfl,_,_,rfl,rfl,_,_,rfl,rfl,(by show (0:Int)<2;decide),rfl,?_⟩;rw [JB,ec,JH];have e:decide (((y.length-y.count 46:Nat):Int) % 2=1)=decide ((y.length-y.count 46) % 2=1):=decide_eq_decide.mpr (by lia);rw [e];exact q
end
end M
namespace M
open PySem L2
section
variable {P:Program}{w:World}{K:W.Frag}{mg:Str->Option Value}{base:Heap}
def WK (r c:Nat)(ws:List (List Nat)):List Int:=((List.range (gRoads r c (r * c)).length).filter λj=>Zcn c (dots c::(ws++[dots c])) ((gRoads r c (r * c)).getD j (0,0))).map λ(j:Nat)=>(j:Int)
def Zg2:Sp:=λvs H Q _=>∃(r c:Nat)(wl:Addr)(ks:List Int)(ws:List (List Nat)),vs=[.int (r:Int),.int (c:Int),.ref wl]/\(2<=r/\2<=c/\r * c<=12/\(gRoads r c (r * c)).length<=(r-1) * (2 * c-1)+(c-1))/\Gk ((r * c:Nat):Int) (gRoads r c (r * c))/\H wl=some (.lst (ws.map λx=>V.str (mkS x)))/\ws.length=r-1/\(∀x∈ws,x.length=c)/\(∀x∈ws,PyData.strOk (mkS x)=true)/\VW ((r * c:Nat):Int) (gRoads r c (r * c)) ks/\JI r c ks=some ws/\WK r c ws=ks /\
 ∀(l:Addr)(H':Hp),Same H H'->H l=none->H' l=some (.lst (ks.map V.int))->Q (.ref l) H'
theorem scSw:Gr ["rows", "columns", "words", "web", "points", "framed", "roads"] ["rows", "columns", "words"] (Gc sSw):=⟨rfl,rfl,rfl,by decide +kernel,rfl,by decide +kernel,by decide +kernel⟩
def Vh (ws:List (List Nat)):List PyData:=ws.map λx=>.str (mkS x)
theorem J7 {K:W.Frag}{H:Hp}:∀ws:List (List Nat),DatVs K H (ws.map λx=>V.str (mkS x)) (Vh ws)
 | []=>.nil
 | _::ws=>.cons (.str _) (J7 ws)
theorem Yl:∀a b:List (List Nat),PyData.eqv (.list (Vh a)) (.list (Vh b))=decide (a=b):=by
 intro a b;simp only [PyData.eqv]
 induction a generalizing b with
 | nil=>cases b <;> simp [Vh,PyData.eqvAll]
 | cons x a ih=>
  cases b with
  | nil=>simp [Vh,PyData.eqvAll]
  | cons y b=>
   have ih:=ih b;unfold Vh at *;rw [List.map_cons,List.map_cons];simp only [PyData.eqvAll,ih];have e:PyData.eqv (.str (mkS x)) (.str (mkS y))=decide (x=y):=by
    simp only [PyData.eqv];rw [Bool.eq_iff_iff];simp [str_mk]
   rw [e];by_cases h1:x=y <;> by_cases h2:a=b <;> simp [h1,h2]
theorem JQ {ws:List (List Nat)}(h:∀x∈ws,PyData.strOk (mkS x)=true):SeqAt.shaped (.list (Vh ws))=true:=by
 have c:PyData.canLayAll0 (Vh ws)=true:=by
  induction ws with
  | nil=>simp [Vh,PyData.canLayAll0]
  | cons x ws ih=>
   have:=ih λy hy=>h y (List.mem_cons_of_mem _ hy);unfold Vh at *;rw [List.map_cons];simp only [PyData.canLayAll0,this,Bool.and_true];simp [PyData.canLay0,h x (List.mem_cons_self ..)]
 have d:PyData.depthAll (Vh ws)<=1:=by
  clear c h
  induction ws with
  | nil=>simp [Vh,PyData.depthAll]
  | cons x ws ih=>
   unfold Vh at *;rw [List.map_cons];simp only [PyData.depthAll];have:PyData.depth (.str (mkS x))<=1:=by simp [PyData.depth]
   lia
 unfold SeqAt.shaped;rw [Bool.and_eq_true];refine ⟨by simp only [PyData.canLay0];exact c,decide_eq_true ?_⟩;simp only [PyData.depth]
 lia
theorem Zgr {f fGr fIc fWf C NW:Addr}{fd fdGr fdIc fdWf:FuncData}(F:Fun K "set_by_words" "set_by_words" sSw f fd)(FGr:Fun K "grid" "grid" sGr fGr fdGr)(bGr:Binds K fdGr ["rows", "columns"] [])(mGr:mg "grid" = some (.ref fGr))(GGr:GG P w K mg base (CXr P w) 1 fGr fdGr ["rows", "columns"] (Ve C))(FIc:Fun K "is_chosen" "is_chosen" sIc fIc fdIc)(bIc:Binds K fdIc ["road", "words", "columns"] [])(mIc:mg "is_chosen" = some (.ref fIc))(GIc:GG P w K mg base CX0 1 fIc fdIc ["road", "words", "columns"] Zg1)(FWf:Fun K "words_of" "words_of" sWf fWf fdWf)(bWf:Binds K fdWf ["rows", "columns", "roads"] [])(mWf:mg "words_of" = some (.ref fWf))(GWf:GG P w K mg base (CXr P w) 6 fWf fdWf ["rows", "columns", "roads"] Zgo)(mEnum:mg "enumerate" = none)(mLen:mg "len" = none)(mV:mg "NoWay" = some (.ref NW))(xV:ExcC K NW):GG P w K mg base (CXr P w) 7 f fd ["rows", "columns", "words"] Zg2:=by
 refine F.okR scSw (λvs H Q E h=>?_) (λcdv A outer s0 H vs Q E hr h=>?_)
 ·obtain ⟨_,_,_,_,_,rfl,_⟩:=h
  rfl
 ·obtain ⟨r,c,wl,ks,ws,rfl,⟨r2,c2,rc,qV⟩,g,hwl,wn,wc,wo,cl,hws,hrd,q⟩:=h;have hu:=hr.units;have h16:(16777216:Nat)=sizeLine:=sizeLine_eq.symm;have hr6:r * 2<=r * c:=Nat.mul_le_mul_left r c2;have hc6:2 * c<=r * c:=Nat.mul_le_mul_right c r2;refine ⟨_,(@Gd _ _ _ _ _ (@Gs _ _ 3 _ _ _ _ scSw.nd rfl (Or.inl rfl) (@Gh _ _ _ _ _ _ _ _ _ _ _ _ _ _ _ _ GGr (hr.mono (by decide)) rfl mGr FGr.kp bGr .nil We (@Ga _ _ _ _ _ (pv 0) (@Ga _ _ _ _ _ (pv 1) Ge rfl) rfl) (by decide) rfl rfl) rfl (by first | exact .inl rfl | exact .inr rfl))
    (@Gd _ _ _ _ _ (@Je _ _ _ _ _ _ _ _ (Gw (Zfb K hu) (G9 (own:=["word"]) rfl (Jx (by decide +kernel) (by decide +kernel) rfl (by decide +kernel)) (JV K (pv 2)) (λ_ _ _ _=>Gi (i:=0) (show List.Nodup (["word"]:List Str) by decide +kernel) rfl (Or.inl rfl)) (λ_ _ _ _=>G5) (λ_ _ _ _=>Gz Zet rfl mLen PySem.boot_len (@Ga _ _ _ _ _ (pv 0) Ge rfl))) (@GF _ _ _ _ _ _ _ _ ZbX (@Jd _ _ _ _ (@Ga _ _ _ _ _ (pv 1) Ge rfl)) (@GF _ _ _ _ _ _ _ _ UW (pv 0) Gg)) (GE _)) (@Gf _ _ _ (JM (E:=E) rfl G3 rfl mV xV (@Ga _ _ _ _ _ Jt Ge rfl))) GB)
    (@Gd _ _ _ _ _ (@Gs _ _ 4 _ _ _ _ scSw.nd rfl (Or.inl rfl) (@GF _ _ _ _ _ _ _ _ Xm Jt (pv 1)) rfl (by first | exact .inl rfl | exact .inr rfl))
    (@Gd _ _ _ _ _ (@Gs _ _ 5 _ _ _ _ scSw.nd rfl (Or.inr rfl) (@GF _ _ _ _ _ _ _ _ XE (@GF _ _ _ _ _ _ _ _ XE (@Jd _ _ _ _ (@Ga _ _ _ _ _ (pv 4) Ge rfl)) (pv 2)) (@Jd _ _ _ _ (@Ga _ _ _ _ _ (pv 4) Ge rfl))) rfl (by first | exact .inl rfl | exact .inr rfl))
    (@Gd _ _ _ _ _ (UB (i:=6) scSw.nd rfl (Or.inl rfl) (own:=["number", "road"]) rfl (Go (fr:=[("columns", 1),("framed", 5)]) [(".0", .local),("number", .local),("road", .local),("is_chosen", .globalImplicit),("columns", .cell),("framed", .cell)] rfl rfl (by decide +kernel) rfl (by decide +kernel) ⟨rfl,rfl,trivial⟩ ⟨λh=>GN h,λh=>GN h,λh=>GN h,λh=>GN h,λ_=>⟨_,rfl⟩,λ_=>⟨_,rfl⟩,trivial⟩ ⟨⟨rfl,.inl rfl,.inl rfl⟩,⟨rfl,.inl rfl,.inl rfl⟩,trivial⟩) (Wf K rfl mEnum (@Ga _ _ _ _ _ (@GJ _ _ _ _ _ _ _ (Op K) (pv 3) Gg (λ_ _=>rfl)) Ge rfl)) (λ_ _ _ _=>WX K (n:=2) rfl (Gv (Gi (i:=0) (show List.Nodup (["number", "road", "columns", "framed"]:List Str) by decide +kernel) rfl (Or.inl rfl)) (Gv (Gi (i:=1) (show List.Nodup (["number", "road", "columns", "framed"]:List Str) by decide +kernel) rfl (Or.inl rfl)) Jb))) (λ_ _ _ _=>JE (JR (@Gh _ _ _ _ _ _ _ _ _ _ _ _ _ _ _ _ GIc (hr.mono (by decide)) rfl mIc FIc.kp bIc .nil GQ (@Ga _ _ _ _ _ (pv 1) (@Ga _ _ _ _ _ (pv 3) (@Ga _ _ _ _ _ (pv 2) Ge rfl) rfl) rfl) (by decide) rfl rfl))) (λ_ _ _ _=>pv 0))
    (@Gd _ _ _ _ _ (@Je _ _ _ _ _ _ _ _ (Gw (Zfb K hu) (@Gh _ _ _ _ _ _ _ _ _ _ _ _ _ _ _ _ GWf (hr.mono (by decide)) rfl mWf FWf.kp bWf .nil We (@Ga _ _ _ _ _ (pv 0) (@Ga _ _ _ _ _ (pv 1) (@Ga _ _ _ _ _ (pv 6) Ge rfl) rfl) rfl) (by decide) rfl rfl) (pv 2) (GE _)) (@Gf _ _ _ (JM (E:=E) rfl G3 rfl mV xV (@Ga _ _ _ _ _ Jt Ge rfl))) GB)
    (@Gf _ _ _ (@Gu _ _ _ _ (pv 6))))))))),?_⟩
  refine ⟨_,rfl,_,rfl,_,_,rfl,.inl ⟨r,c,rfl,rfl,by lia,by lia,by lia,by lia,λwb l xs H1 s1 hwb hl nwl ewb el P1=>?_⟩⟩;have W1:WebAt H1 wb l ((r * c:Nat):Int) xs (gRoads r c (r * c)):=⟨by rw [ewb];push_cast;rfl,el,P1⟩;dsimp only [G0];have hw1:=s1 _ _ hwl;refine ⟨_,rfl,wl,rfl,⟨_,SqL.of hw1⟩,λD hD=>?_⟩;refine GS (K:=K) (a:=wl) (xs:=ws.map λx=>V.str (mkS x)) (λi ys H2=>Same H1 H2/\H2 D=some (.lst ys)/\ys=(List.replicate i (c:Int)).map V.int) ⟨Same.new hD,Gb,rfl⟩ (λi ys H2 _ ⟨s2,_⟩=>SqL.of (s2 _ _ hw1)) ?_ ?_
  ·rintro i x ys H2 hx ⟨s2,hD2,rfl⟩;rw [List.getElem?_map] at hx;obtain ⟨z,hz,rfl⟩:=Option.map_eq_some_iff.mp hx;have zl:=wc z (List.mem_of_getElem? hz);have hi:i<ws.length:=(List.getElem?_eq_some_iff.mp hz).1;refine ⟨trivial,?_⟩;unfold Ys;refine Jl ?_;refine ⟨_,rfl,_,rfl,by rw [JB];lia,hD2,by rw [List.length_map,List.length_replicate];lia,s2.put hD,Gb,?_⟩;rw [JB,zl,List.replicate_succ',List.map_append]
   rfl
  ·rintro ys H2 ⟨s2,hD2,rfl⟩;rw [List.length_map] at hD2;have eR:((r:Int)-1).toNat=r-1:=by lia
   refine ⟨_,rfl,(by show 1<=sizeLine;decide),λl1 hl1=>?_⟩;have s3:Same H2 (upd H2 l1 (.lst [.int (c:Int)])):=Same.new hl1;have el1:upd H2 l1 (.lst [.int (c:Int)]) l1=some (.lst [.int (c:Int)]):=Gb;have hD3:=s3 _ _ hD2;refine ⟨_,rfl,_,_,rfl,rfl,l1,_,_,rfl,rfl,el1,by lia,by lia,by rw [eR];show 1 * (r-1)<=sizeLine;lia,λp hp=>?_⟩;have s4:Same (upd H2 l1 (.lst [.int (c:Int)])) (upd (upd H2 l1 (.lst [.int (c:Int)])) p (.lst (List.replicate ((r:Int)-1).toNat [V.int (c:Int)]).flatten)):=Same.new hp;have ep:upd (upd H2 l1 (.lst [.int (c:Int)])) p (.lst (List.replicate ((r:Int)-1).toNat [V.int (c:Int)]).flatten) p=some (.lst ((List.replicate (r-1) (c:Int)).map V.int)):=by
    rw [Gb,eR]
    congr 2
    generalize r-1=n
    induction n with
    | zero=>rfl
    | succ n ih=>rw [List.replicate_succ,List.flatten_cons,ih];rfl
   have hD4:=s4 _ _ hD3;generalize upd (upd H2 l1 (.lst [.int (c:Int)])) p (.lst (List.replicate ((r:Int)-1).toNat [V.int (c:Int)]).flatten)=H4 at s4 ep hD4 ⊢;have S4:Same H1 H4:=s2.trans (s3.trans s4);rw [wn] at hD4;refine ⟨.list _,.list _,.lst (SqL.of hD4) (Jy _),.lst (SqL.of ep) (Jy _),Jm _,Jm _,_,rfl,?_⟩;rw [Vq,decide_eq_true rfl];refine Js ?_;refine ⟨_,rfl,46,c,rfl,rfl,by lia,by lia,?_⟩;dsimp only [G0];have S04:=s1.trans S4;have hw4:=S04 _ _ hwl;refine ⟨_,rfl,(by show 1<=sizeLine;decide),λp5 hp5=>?_⟩;have s5:Same H4 (upd H4 p5 (.lst [.str (mkS (List.replicate c 46))])):=Same.new hp5;have ep5:upd H4 p5 (.lst [.str (mkS (List.replicate c 46))]) p5=some (.lst [.str (mkS (List.replicate c 46))]):=Gb;generalize upd H4 p5 (.lst [.str (mkS (List.replicate c 46))])=H5 at s5 ep5 ⊢;refine ⟨_,rfl,p5,wl,_,_,rfl,rfl,ep5,s5 _ _ hw4,by rw [List.length_singleton,List.length_map];lia,λp6 hp6=>?_⟩;have s6:Same H5 (upd H5 p6 (.lst ([.str (mkS (List.replicate c 46))]++ws.map λx=>V.str (mkS x)))):=Same.new hp6;have ep6:upd H5 p6 (.lst ([.str (mkS (List.replicate c 46))]++ws.map λx=>V.str (mkS x))) p6=some (.lst ([.str (mkS (List.replicate c 46))]++ws.map λx=>V.str (mkS x))):=Gb;generalize upd H5 p6 (.lst ([.str (mkS (List.replicate c 46))]++ws.map λx=>V.str (mkS x)))=H6 at s6 ep6 ⊢;refine ⟨_,rfl,(by show 1<=sizeLine;decide),λp7 hp7=>?_⟩;have s7:Same H6 (upd H6 p7 (.lst [.str (mkS (List.replicate c 46))])):=Same.new hp7;have ep7:upd H6 p7 (.lst [.str (mkS (List.replicate c 46))]) p7=some (.lst [.str (mkS (List.replicate c 46))]):=Gb;have ep67:=s7 _ _ ep6;generalize upd H6 p7 (.lst [.str (mkS (List.replicate c 46))])=H7 at s7 ep7 ep67 ⊢;refine ⟨p6,p7,_,_,rfl,rfl,ep67,ep7,by rw [List.length_append,List.length_map];show 1+ws.length+1<=sizeLine;lia,λp8 hp8=>?_⟩;have efr:([.str (mkS (List.replicate c 46))]++ws.map λx=>V.str (mkS x))++[.str (mkS (List.replicate c 46))]=(dots c::(ws++[dots c])).map λx=>V.str (mkS x):=by rw [List.map_cons,List.map_append];rfl
   rw [efr];have s8:Same H7 (upd H7 p8 (.lst ((dots c::(ws++[dots c])).map λx=>V.str (mkS x)))):=Same.new hp8;have ep8:upd H7 p8 (.lst ((dots c::(ws++[dots c])).map λx=>V.str (mkS x))) p8=some (.lst ((dots c::(ws++[dots c])).map λx=>V.str (mkS x))):=Gb;generalize upd H7 p8 (.lst ((dots c::(ws++[dots c])).map λx=>V.str (mkS x)))=H8 at s8 ep8 ⊢;have S48:=s5.trans (s6.trans (s7.trans s8));have W8:=W1.same (S4.trans S48);dsimp only [G0];refine ⟨_,rfl,wb,_,_,_,rfl,rfl,SqT.of W8.w,Gx (j:=1) rfl,l,xs,rfl,SqL.of W8.l,λD9 hD9=>?_⟩;have fl:∀x∈dots c::(ws++[dots c]),x.length=c:=λx hx=>by
    have d:(dots c).length=c:=List.length_replicate;rcases List.mem_cons.mp hx with rfl | hx
    ·exact d
    ·rcases List.mem_append.mp hx with hx | hx
     ·exact wc x hx
     ·rw [List.mem_singleton.mp hx];exact d
   have fn:(dots c::(ws++[dots c])).length=r+1:=by rw [List.length_cons,List.length_append,List.length_singleton];lia
   have gr:=Oj (r:=r) (c:=c) (by lia);have hxl:=W1.p.len;have hgl:=JL r c (r * c);unfold WK at hrd;generalize hrs:gRoads r c (r * c)=rs at *;refine Wg (K:=K) (a:=l) (xs:=xs) (λi ys H9=>Same H8 H9/\H9 D9=some (.lst ys)/\ys=(((List.range i).filter λj=>Zcn c (dots c::(ws++[dots c])) (rs.getD j (0,0))).map λ(j:Nat)=>(j:Int)).map V.int) ⟨Same.new hD9,Gb,rfl⟩ (λi ys H9 _ ⟨s9,_⟩=>SqL.of ((W8.same s9).l)) ?_ ?_
   ·rintro i x ys H9 T hxi ⟨s9,eD9,rfl⟩ hT;obtain ⟨t0,q0,rfl,et,er⟩:=(W8.same s9).p.get hxi;have er':rs.getD i (0,0)=q0:=by rw [List.getD_eq_getElem?_getD,er];rfl
    have hi:i<xs.length:=(List.getElem?_eq_some_iff.mp hxi).1;have gq:=gr q0 (List.mem_of_getElem? er);have s10:Same H9 (upd H9 T (.tup [.int (i:Nat),.ref t0])):=Same.new hT;have eD10:=s10 _ _ eD9;refine ⟨T,_,rfl,SqT.of Gb,rfl,_,_,rfl,_,_,rfl,rfl,?_⟩;generalize upd H9 T (.tup [.int (i:Nat),.ref t0])=H10 at s10 eD10 ⊢;have ep10:=(s9.trans s10) _ _ ep8;have et10:=s10 _ _ et;obtain ⟨a,ha⟩:∃a:Nat,q0.1=(a:Int):=⟨q0.1.toNat,by lia⟩;rw [ha] at et10;have har:a / c+1<r+1:=by
     have:a / c<r:=by rw [Nat.div_lt_iff_lt_mul (by lia)];lia
     lia
    refine ⟨⟨rfl,rfl,trivial⟩,?_⟩;refine ⟨_,rfl,_,rfl,_,rfl,t0,p8,a,q0.2,c,_,rfl,et10,ep10,⟨by lia,by lia⟩,by rw [fn];exact har,fl,λH11 s11=>?_⟩;have tk:(((List.range (i+1)).filter λj=>Zcn c (dots c::(ws++[dots c])) (rs.getD j (0,0))).map λ(j:Nat)=>(j:Int)).map V.int=(((List.range i).filter λj=>Zcn c (dots c::(ws++[dots c])) (rs.getD j (0,0))).map λ(j:Nat)=>(j:Int)).map V.int++(if Zcn c (dots c::(ws++[dots c])) q0=true then [V.int (i:Int)] else []):=by
     rw [List.range_succ,List.filter_append,List.map_append,List.map_append]
     congr 1
     show List.map V.int (List.map _ (List.filter _ [i]))=_;rw [List.filter_cons,er'];split <;> rfl
    have eq0:((a:Int),q0.2)=q0:=by rw [<-ha]
    rw [eq0];have yl:((List.range i).filter λj=>Zcn c (dots c::(ws++[dots c])) (rs.getD j (0,0))).length<=i:=by
     refine Nat.le_trans (List.length_filter_le _ _) ?_;rw [List.length_range];exact Nat.le_refl _
    have S11:=s9.trans (s10.trans s11);refine ⟨_,rfl,?_⟩;refine Uk (λz=>?_) (λz=>?_)
    ·rw [if_pos z] at tk;exact ⟨_,rfl,s11 _ _ eD10,by rw [List.length_map,List.length_map];lia,S11.put hD9,Gb,tk.symm⟩
    ·rw [if_neg z,List.append_nil] at tk;exact ⟨S11,s11 _ _ eD10,tk.symm⟩
   ·rintro ys H9 ⟨s9,eD9,rfl⟩;rw [hxl,hrd] at eD9;dsimp only [G0];have S89:=S04.trans (S48.trans s9);refine ⟨_,rfl,_,rfl,_,rfl,r,c,D9,ks,ws,rfl,⟨r2,c2,rc,by rw [hrs];exact qV⟩,by rw [hrs];exact g,eD9,by rw [hrs];exact cl,hws,λl2 H10 s10 h2 e2=>?_⟩;refine ⟨_,rfl,.list (Vh ws),.list (Vh ws),.lst (SqL.of e2) (J7 _),.lst (SqL.of ((S89.trans s10) _ _ hwl)) (J7 _),JQ wo,JQ wo,_,rfl,?_⟩;rw [Yl,decide_eq_true rfl];refine Js ?_;exact ⟨_,rfl,q D9 H10 (S89.trans s10) ((S04.trans S48).free hD9) (s10 _ _ eD9)⟩
end
end M
namespace M
open PySem L2
theorem Zco (rs:List (Int×Int))(k:Nat):∀j,(RJ rs k j).length<=2 ^ j
 | 0=>Nat.le_refl _
 | j+1=>by
  have h1:=Xu rs nE nE j (RJ rs k j);have h2:=Zco rs k j;show ((RJ rs k j).flatMap (fS rs nE nE j)).length<=_;rw [Nat.pow_succ]
  lia
abbrev TI:=List (List Nat×Int)
def tSI (t:TI):List (Str×Int):=t.map λp=>(mkS p.1,p.2)
theorem Rep.sub {a b:KI}{R:List (List Int)}(ha:Rep a R)(hb:Rep b R){p:List Int×Int}(hp:p∈a):p∈b:=by
 have hm:=hb.pm.mem_iff.mpr (ha.mem hp);obtain ⟨q,hq,hm⟩:=List.mem_flatMap.mp hm;have e:p.1=q.1:=(List.mem_replicate.mp hm).2;have c1:=WG ha.nd hp;have c2:=WG hb.nd hq;rw [<-e,hb.pm.count_eq,<-ha.pm.count_eq,c1] at c2;have h1:=ha.pos p hp;have h2:=hb.pos q hq;have:p=q:=Prod.ext e (by lia);rw [this];exact hq
theorem Ym {ks:KI}(nd:(ks.map (·.1)).Nodup):ks.Nodup:=by
 unfold List.Nodup at *;rw [List.pairwise_map] at nd;exact nd.imp λh z=>h (by rw [z])
theorem Rep.same {a b:KI}{R:List (List Int)}(ha:Rep a R)(hb:Rep b R):a.Perm b:=(List.perm_ext_iff_of_nodup (Ym ha.nd) (Ym hb.nd)).mpr λp=>⟨ha.sub hb,hb.sub ha⟩
def Zfg (R:List (List Int)):KI:=R.foldl (λks m=>ZaE ks m ((Yb ks m).getD 0+1)) []
theorem ZdD (R:List (List Int)):Rep (Zfg R) R:=by
 have:∀(R:List (List Int))(ks:KI)(R0:List (List Int)),Rep ks R0->Rep (R.foldl (λks m=>ZaE ks m ((Yb ks m).getD 0+1)) ks) (R0++R):=by
  intro R
  induction R with
  | nil=>intro ks R0 h;rw [List.append_nil];exact h
  | cons m R ih=>
   intro ks R0 h;have:=ih _ _ (h.put (m:=m) (n:=1) (by decide));rw [List.append_assoc] at this;exact this
 exact this R [] [] Rep.nil
def Ze4 (ks:KI)(i c:Nat):TI:=(ks.map λp=>(YQ p.1 ((i:Int) * (c:Int)) c,p.2)).filter λq=>!decide (q.1=dots c)
theorem Ze5 (ks:KI)(i c:Nat):ZdH ks i c=tSI (Ze4 ks i c):=by
 induction ks with
 | nil=>rfl
 | cons p ks ih=>
  unfold ZdH Ze4 tSI at *;rw [List.map_cons,List.map_cons,List.filter_cons,List.filter_cons];by_cases h:YQ p.1 ((i:Int) * (c:Int)) c=dots c
  ·rw [show (!decide ((mkS (YQ p.1 ((i:Int) * (c:Int)) c),p.2).1=mkS (dots c)))=false by simp [h],show (!decide ((YQ p.1 ((i:Int) * (c:Int)) c,p.2).1=dots c))=false by simp [h]];exact ih
  ·rw [show (!decide ((mkS (YQ p.1 ((i:Int) * (c:Int)) c),p.2).1=mkS (dots c)))=true by simp [h,str_mk],show (!decide ((YQ p.1 ((i:Int) * (c:Int)) c,p.2).1=dots c))=true by simp [h],if_pos rfl,if_pos rfl,List.map_cons,ih]
def ndO:List (Option (List (List Nat)))->Bool
 | []=>true
 | a::l=>(l.all λb=>!decide (a=b)) && ndO l
def ZdJ (r c i:Nat):List (List Nat):=(Ze4 (Zfg (RJ (gRoads r c (r * c)) (r * c) (i * (2 * c-1)))) i c).map (·.1)
def Zfh (r c:Nat):List (List (List Nat)):=(List.range (r-1)).map λi=>ZdJ r c (i+1)
def okS (r c:Nat)(und:List (List (List Nat)))(ks:List Int):Bool:=match JI r c ks with
 | none=>false
 | some ws=>decide (ws.length=r-1) && (ws.all λx=>decide (x.length=c) && PyData.strOk (mkS x)) && decide (WK r c ws=ks) && (List.range (r-1)).all λi=>decide (ws.getD i []=dots c) || decide (ws.getD i []∈und.getD i [])
def OV (r c:Nat):Bool:=
 let rs:=gRoads r c (r * c)
 let cf:=JA rs 16
 let und:=Zfh r c
 decide (Gk ((r * c:Nat):Int) rs) && Ze0 rs 16 rs.length && decide (cf.length<=300) && decide (doneN rs (r * c)=cf.length) && decide (rs.length<=(r-1) * (2 * c-1)+(c-1)) && decide (rs.length<=20) &&
 (List.range (r-1)).all (λi=>decide ((i+1) * (2 * c-1)<=rs.length)) && cf.all (okS r c und) && ndO (cf.map (JI r c))
structure Ze6 (r c:Nat):Prop where
 g:Gk ((r * c:Nat):Int) (gRoads r c (r * c))
 rg:Ze0 (gRoads r c (r * c)) 16 (gRoads r c (r * c)).length=true
 cl:(JA (gRoads r c (r * c)) 16).length<=300
 dn:doneN (gRoads r c (r * c)) (r * c)=(JA (gRoads r c (r * c)) 16).length
 hl:(gRoads r c (r * c)).length<=(r-1) * (2 * c-1)+(c-1)
 h20:(gRoads r c (r * c)).length<=20
 us:∀i,i<r-1->(i+1) * (2 * c-1)<=(gRoads r c (r * c)).length
 ok:∀ks∈JA (gRoads r c (r * c)) 16,∃ws,JI r c ks=some ws/\ws.length=r-1/\(∀x∈ws,x.length=c)/\(∀x∈ws,PyData.strOk (mkS x)=true)/\WK r c ws=ks/\∀i,i<r-1->ws.getD i []=dots c\/ws.getD i []∈ZdJ r c (i+1)
 nd:((JA (gRoads r c (r * c)) 16).map (JI r c)).Nodup
theorem Zcp:∀{l:List (Option (List (List Nat)))},ndO l=true->l.Nodup
 | [],_=>List.nodup_nil
 | a::l,h=>by
  have h:((l.all λb=>!decide (a=b)) && ndO l)=true:=h;rw [Bool.and_eq_true] at h;refine List.nodup_cons.mpr ⟨λhm=>?_,Zcp h.2⟩;have:=List.all_eq_true.mp h.1 a hm;simp at this
theorem Ze7 {r c:Nat}{ks:List Int}(h:okS r c (Zfh r c) ks=true):∃ws,JI r c ks=some ws/\ws.length=r-1/\(∀x∈ws,x.length=c)/\(∀x∈ws,PyData.strOk (mkS x)=true)/\WK r c ws=ks/\∀i,i<r-1->ws.getD i []=dots c\/ws.getD i []∈ZdJ r c (i+1):=by
 unfold okS at h;cases e:JI r c ks with
 | none=>rw [e] at h;cases h
 | some ws=>
  rw [e] at h;dsimp only at h;rw [Bool.and_eq_true,Bool.and_eq_true,Bool.and_eq_true] at h;obtain ⟨⟨⟨h1,h2⟩,h3⟩,h4⟩:=h;have h2:=List.all_eq_true.mp h2;have h4:=List.all_eq_true.mp h4;refine ⟨ws,rfl,of_decide_eq_true h1,λx hx=>?_,λx hx=>?_,of_decide_eq_true h3,λi hi=>?_⟩
  ·have:=h2 x hx;rw [Bool.and_eq_true] at this;exact of_decide_eq_true this.1
  ·have:=h2 x hx;rw [Bool.and_eq_true] at this;exact this.2
  ·have:=h4 i (List.mem_range.mpr hi);rw [Bool.or_eq_true] at this;refine this.imp (λz=>of_decide_eq_true z) λz=>?_;have z:=of_decide_eq_true z;have y:(Zfh r c).getD i []=ZdJ r c (i+1):=by
    unfold Zfh;rw [List.getD_eq_getElem?_getD,List.getElem?_map,List.getElem?_range hi]
    rfl
   rw [y] at z;exact z
theorem ZbM {r c:Nat}(h:OV r c=true):Ze6 r c:=by
 unfold OV at h;dsimp only at h;rw [Bool.and_eq_true,Bool.and_eq_true,Bool.and_eq_true,Bool.and_eq_true,Bool.and_eq_true,Bool.and_eq_true,Bool.and_eq_true,Bool.and_eq_true] at h;obtain ⟨⟨⟨⟨⟨⟨⟨⟨h1,h2⟩,h3⟩,h4⟩,h5⟩,h6⟩,h7⟩,h8⟩,h9⟩:=h;exact ⟨of_decide_eq_true h1,h2,of_decide_eq_true h3,of_decide_eq_true h4,of_decide_eq_true h5,of_decide_eq_true h6,λi hi=>of_decide_eq_true (List.all_eq_true.mp h7 i (List.mem_range.mpr hi)),λks hk=>Ze7 (List.all_eq_true.mp h8 ks hk),Zcp h9⟩
end M
namespace M
open PySem L2
theorem Zgs:(OV 2 2 && OV 2 3 && OV 2 4 && OV 2 5 && OV 2 6 && OV 3 2 && OV 3 3 && OV 4 2 && OV 5 2 && OV 6 2)=true:=by decide +kernel
theorem Zgt:OV 4 3=true:=by decide +kernel
theorem Zgu:OV 3 4=true:=by decide +kernel
theorem ZdE {r c:Nat}(h:(r=2/\2<=c/\c<=6)\/(r=3/\2<=c/\c<=4)\/(r=4/\2<=c/\c<=3)\/(r=5/\c=2)\/(r=6/\c=2)):Ze6 r c:=by
 refine ZbM ?_;have h1:=Zgs;rw [Bool.and_eq_true,Bool.and_eq_true,Bool.and_eq_true,Bool.and_eq_true,Bool.and_eq_true,Bool.and_eq_true,Bool.and_eq_true,Bool.and_eq_true,Bool.and_eq_true] at h1;obtain ⟨⟨⟨⟨⟨⟨⟨⟨⟨a1,a2⟩,a3⟩,a4⟩,a5⟩,a6⟩,a7⟩,a8⟩,a9⟩,a10⟩:=h1;rcases h with ⟨rfl,h,h'⟩ | ⟨rfl,h,h'⟩ | ⟨rfl,h,h'⟩ | ⟨rfl,rfl⟩ | ⟨rfl,rfl⟩
 ·have:c=2\/c=3\/c=4\/c=5\/c=6:=by lia
  rcases this with rfl | rfl | rfl | rfl | rfl
  ·exact a1
  ·exact a2
  ·exact a3
  ·exact a4
  ·exact a5
 ·have:c=2\/c=3\/c=4:=by lia
  rcases this with rfl | rfl | rfl
  ·exact a6
  ·exact a7
  ·exact Zgu
 ·have:c=2\/c=3:=by lia
  rcases this with rfl | rfl
  ·exact a8
  ·exact Zgt
 ·exact a9
 ·exact a10
end M
namespace M
open PySem L2
theorem ZdF {α:Type}{l:List α}(h:l.Nodup){i:Nat}{x:α}(hx:l[i]?=some x):x ∉ l.take i:=by
 intro hm;rw [<-List.take_append_drop i l,List.nodup_append] at h;refine h.2.2 x hm x ?_ rfl;refine List.mem_of_getElem? (i:=0) ?_;rw [List.getElem?_drop];exact hx
theorem ZbN (s:Str):∀L:List Str,inV (.str s) (L.map V.str)=decide (s∈L):=by
 intro L;unfold inV
 induction L with
 | nil=>rfl
 | cons m L ih=>
  rw [List.map_cons,List.any_cons,ih];by_cases h1:s=m <;> by_cases h2:s∈L <;> simp [eqV,h1,h2] <;> (try (intro z;exact h1 z.symm))
theorem ZdG {r c i:Nat}{zs:List SIz}{ks:KI}(rp:Rep ks (RJ (gRoads r c (r * c)) (r * c) (i * (2 * c-1))))(pm:(zs.map (·.2)).Perm (ZdH ks i c)){x:List Nat}(h:x∈ZdJ r c i):mkS x∈zs.map λz=>z.2.1:=by
 have p1:ks.Perm (Zfg (RJ (gRoads r c (r * c)) (r * c) (i * (2 * c-1)))):=rp.same (ZdD _);have p2:(Ze4 ks i c).Perm (Ze4 (Zfg (RJ (gRoads r c (r * c)) (r * c) (i * (2 * c-1)))) i c):=(p1.map _).filter _;obtain ⟨q,hq,rfl⟩:=List.mem_map.mp h;have hq2:=p2.mem_iff.mpr hq;rw [Ze5] at pm;have:(mkS q.1,q.2)∈zs.map (·.2):=pm.mem_iff.mpr (List.mem_map.mpr ⟨q,hq2,rfl⟩);obtain ⟨z,hz,e⟩:=List.mem_map.mp this;exact List.mem_map.mpr ⟨z,hz,by rw [e]⟩
section
variable {P:Program}{w:World}{K:W.Frag}{mg:Str->Option Value}{base:Heap}
def ZbO (K:W.Frag):Sp:=λvs H Q _=>∃(a:Addr)(ns:List Int),vs=[.ref a]/\SqL K H a (ns.map V.int)/\ns.length<=63/\∀H',Q (.bl true) H'
theorem scLaw:Gr ["script", "rows", "columns", "every", "i", "word", "under", "seen", "roads", "words"] ["script"] (Gc Z4):=⟨rfl,rfl,rfl,by decide +kernel,rfl,by decide +kernel,by decide +kernel⟩
theorem Ze8 {f fCa fMi fGr fEvc fCb fWb fWf fSw C TM:Addr}{fd fdCa fdMi fdGr fdEvc fdCb fdWb fdWf fdSw:FuncData}(F:Fun K "law" "law" Z4 f fd)(FCa:Fun K "_law_cell_at" "_law_cell_at" Zdf fCa fdCa)(bCa:Binds K fdCa ["script", "k"] [])(mCa:mg "_law_cell_at" = some (.ref fCa))(GCa:GG P w K mg base CX0 1 fCa fdCa ["script", "k"] (ZeU K))(FMi:Fun K "_law_mixed" "_law_mixed" sMi fMi fdMi)(bMi:Binds K fdMi ["cell", "k"] [])(mMi:mg "_law_mixed" = some (.ref fMi))(GMi:GG P w K mg base CX0 1 fMi fdMi ["cell", "k"] ZgY)(FGr:Fun K "grid" "grid" sGr fGr fdGr)(bGr:Binds K fdGr ["rows", "columns"] [])(mGr:mg "grid" = some (.ref fGr))(GGr:GG P w K mg base (CXr P w) 1 fGr fdGr ["rows", "columns"] (Ve C))(FEvc:Fun K "every_closed" "every_closed" Zde fEvc fdEvc)(bEvc:Binds K fdEvc ["web"] [])(mEvc:mg "every_closed" = some (.ref fEvc))(GEvc:GG P w K mg base (CXr P w) 5 fEvc fdEvc ["web"] (ZeS TM))(FCb:Fun K "closed_by_words" "closed_by_words" sCb fCb fdCb)(bCb:Binds K fdCb ["rows", "columns"] [])(mCb:mg "closed_by_words" = some (.ref fCb))(GCb:GG P w K mg base (CXr P w) 7 fCb fdCb ["rows", "columns"] Zg0)(FWb:Fun K "words_below" "words_below" sWb fWb fdWb)(bWb:Binds K fdWb ["rows", "columns", "i"] [])(mWb:mg "words_below" = some (.ref fWb))(GWb:GG P w K mg base (CXr P w) 6 fWb fdWb ["rows", "columns", "i"] (ZgX C))(FWf:Fun K "words_of" "words_of" sWf fWf fdWf)(bWf:Binds K fdWf ["rows", "columns", "roads"] [])(mWf:mg "words_of" = some (.ref fWf))(GWf:GG P w K mg base (CXr P w) 6 fWf fdWf ["rows", "columns", "roads"] Zgo)(FSw:Fun K "set_by_words" "set_by_words" sSw fSw fdSw)(bSw:Binds K fdSw ["rows", "columns", "words"] [])(mSw:mg "set_by_words" = some (.ref fSw))(GSw:GG P w K mg base (CXr P w) 7 fSw fdSw ["rows", "columns", "words"] Zg2)(mLst:mg "list" = none)(mLen:mg "len" = none)(mRange:mg "range" = none)(mEnum:mg "enumerate" = none):GG P w K mg base CX0 8 f fd ["script"] (ZbO K):=by
 refine F.ok scLaw (λvs H Q E h=>?_) (λcdv A outer s H vs Q E hr h=>?_)
 ·obtain ⟨a,ns,rfl,_⟩:=h
  rfl
 obtain ⟨a,ns,rfl,hS,qV,q⟩:=h;have h16:(16777216:Nat)=sizeLine:=sizeLine_eq.symm;have hu:(A.deeper (PyProof.Rows.envOfC "law" (Gc Z4) s.heap.objs.size f cdv)).units+64<cLine:=by have:=hr.un;lia
 have hu65:(A.deeper (PyProof.Rows.envOfC "law" (Gc Z4) s.heap.objs.size f cdv)).units+65<cLine:=by have:=hr.un;lia
 refine ⟨_,(@Gd _ _ _ _ _ (@Gs _ _ 1 _ _ _ _ scLaw.nd rfl (Or.inr rfl) (@GF _ _ _ _ _ _ _ _ G7 Gg (@GF _ _ _ _ _ _ _ _ UX (@Gh _ _ _ _ _ _ _ _ _ _ _ _ _ _ _ _ GMi (hr.mono (by decide)) rfl mMi FMi.kp bMi .nil GQ (@Ga _ _ _ _ _ (@Gh _ _ _ _ _ _ _ _ _ _ _ _ _ _ _ _ GCa (hr.mono (by decide)) rfl mCa FCa.kp bCa .nil GQ (@Ga _ _ _ _ _ (pv 0) (@Ga _ _ _ _ _ Gg Ge rfl) rfl) (by decide) rfl rfl) (@Ga _ _ _ _ _ Gg Ge rfl) rfl) (by decide) rfl rfl) Gg)) rfl (by first | exact .inl rfl | exact .inr rfl))
    (@Gd _ _ _ _ _ (@Gs _ _ 2 _ _ _ _ scLaw.nd rfl (Or.inr rfl) (@GF _ _ _ _ _ _ _ _ G7 Gg (@GF _ _ _ _ _ _ _ _ UX (@Gh _ _ _ _ _ _ _ _ _ _ _ _ _ _ _ _ GMi (hr.mono (by decide)) rfl mMi FMi.kp bMi .nil GQ (@Ga _ _ _ _ _ (@Gh _ _ _ _ _ _ _ _ _ _ _ _ _ _ _ _ GCa (hr.mono (by decide)) rfl mCa FCa.kp bCa .nil GQ (@Ga _ _ _ _ _ (pv 0) (@Ga _ _ _ _ _ Gg Ge rfl) rfl) (by decide) rfl rfl) (@Ga _ _ _ _ _ Gg Ge rfl) rfl) (by decide) rfl rfl) (@GF _ _ _ _ _ _ _ _ UW (@GF _ _ _ _ _ _ _ _ ZaO Gg (pv 1)) Gg))) rfl (by first | exact .inl rfl | exact .inr rfl))
    (@Gd _ _ _ _ _ (@Gs _ _ 3 _ _ _ _ scLaw.nd rfl (Or.inl rfl) (@Gh _ _ _ _ _ _ _ _ _ _ _ _ _ _ _ _ GEvc (hr.mono (by decide)) rfl mEvc FEvc.kp bEvc .nil Vo (@Ga _ _ _ _ _ (@Gh _ _ _ _ _ _ _ _ _ _ _ _ _ _ _ _ GGr (hr.mono (by decide)) rfl mGr FGr.kp bGr .nil Vo (@Ga _ _ _ _ _ (pv 1) (@Ga _ _ _ _ _ (pv 2) Ge rfl) rfl) (by decide) rfl rfl) Ge rfl) (by decide) rfl rfl) rfl (by first | exact .inl rfl | exact .inr rfl))
    (@Gd _ _ _ _ _ (@Je _ _ _ _ _ _ _ _ (Gw WU (Gz (ZbY K) rfl mLen PySem.boot_len (@Ga _ _ _ _ _ (pv 3) Ge rfl)) (@Gh _ _ _ _ _ _ _ _ _ _ _ _ _ _ _ _ GCb (hr.mono (by decide)) rfl mCb FCb.kp bCb .nil Vo (@Ga _ _ _ _ _ (pv 1) (@Ga _ _ _ _ _ (pv 2) Ge rfl) rfl) (by decide) rfl rfl) (GE _)) (@Gf _ _ _ (@Gu _ _ _ _ Uh)) GB)
    (@Gd _ _ _ _ _ (UB (i:=6) scLaw.nd rfl (Or.inl rfl) (own:=["i"]) rfl (Go (fr:=[("rows", 1),("columns", 2)]) [(".0", .local),("i", .local),("words_below", .globalImplicit),("columns", .cell),("rows", .cell)] rfl rfl (by decide +kernel) rfl (by decide +kernel) ⟨rfl,rfl,trivial⟩ ⟨λh=>GN h,λh=>GN h,λh=>GN h,λ_=>⟨_,rfl⟩,λ_=>⟨_,rfl⟩,trivial⟩ ⟨⟨rfl,.inl rfl,.inl rfl⟩,⟨rfl,.inl rfl,.inl rfl⟩,trivial⟩) (V1 rfl mRange (@Ga _ _ _ _ _ Gg (@Ga _ _ _ _ _ (pv 1) Ge rfl) rfl)) (λ_ _ _ _=>Gi (i:=0) (show List.Nodup (["i", "rows", "columns"]:List Str) by decide +kernel) rfl (Or.inl rfl)) (λ_ _ _ _=>G5) (λ_ _ _ _=>G9 (own:=["word", "number"]) rfl (Jx (by decide +kernel) (by decide +kernel) rfl (by decide +kernel)) (JV K (@Gh _ _ _ _ _ _ _ _ _ _ _ _ _ _ _ _ GWb (hr.mono (by decide)) rfl mWb FWb.kp bWb .nil Vo (@Ga _ _ _ _ _ (pv 1) (@Ga _ _ _ _ _ (pv 2) (@Ga _ _ _ _ _ (pv 0) Ge rfl) rfl) rfl) (by decide) rfl rfl)) (λ_ _ _ _=>WX K (n:=2) rfl (Gv (Gi (i:=0) (show List.Nodup (["word", "number"]:List Str) by decide +kernel) rfl (Or.inl rfl)) (Gv (Gi (i:=1) (show List.Nodup (["word", "number"]:List Str) by decide +kernel) rfl (Or.inl rfl)) Jb))) (λ_ _ _ _=>G5) (λ_ _ _ _=>pv 0)))
    (@Gd _ _ _ _ _ (@Gs _ _ 7 _ _ _ _ scLaw.nd rfl (Or.inl rfl) (@Jd _ _ _ _ Ge) rfl (by first | exact .inl rfl | exact .inr rfl))
    (@Gd _ _ _ _ _ (@JD _ _ _ _ _ _ _ _ PassesOwn.never rfl (JV K (pv 3)) (Gi (i:=8) scLaw.nd rfl (Or.inl rfl))
    (@Gd _ _ _ _ _ (@Gs _ _ 9 _ _ _ _ scLaw.nd rfl (Or.inl rfl) (@Gh _ _ _ _ _ _ _ _ _ _ _ _ _ _ _ _ GWf (hr.mono (by decide)) rfl mWf FWf.kp bWf .nil Vo (@Ga _ _ _ _ _ (pv 1) (@Ga _ _ _ _ _ (pv 2) (@Ga _ _ _ _ _ (Jp (Vp K) rfl mLst J0 (@Ga _ _ _ _ _ (pv 8) Ge rfl)) Ge rfl) rfl) rfl) (by decide) rfl rfl) rfl (by first | exact .inl rfl | exact .inr rfl))
    (@Gd _ _ _ _ _ (@Je _ _ _ _ _ _ _ _ (PW.pt (Uv (Gw (Zhp K hu65) (pv 9) (pv 7) (by with_unfolding_all rfl)) (Uv (Gw (Zfb K hu) (@Gh _ _ _ _ _ _ _ _ _ _ _ _ _ _ _ _ GSw (hr.mono (by decide)) rfl mSw FSw.kp bSw .nil Vo (@Ga _ _ _ _ _ (pv 1) (@Ga _ _ _ _ _ (pv 2) (@Ga _ _ _ _ _ (Jp (Vp K) rfl mLst J0 (@Ga _ _ _ _ _ (pv 9) Ge rfl)) Ge rfl) rfl) rfl) (by decide) rfl rfl) (pv 8) (GE _)) (Ut (Gw WU (Gz (ZbY K) rfl mLen PySem.boot_len (@Ga _ _ _ _ _ (pv 9) Ge rfl)) (@GF _ _ _ _ _ _ _ _ UW (pv 1) Gg) (GE _)))))) (@Gf _ _ _ (@Gu _ _ _ _ Uh)) GB)
    (@Gd _ _ _ _ _ (Jk (O0 PySem.F.plainAttrs_list PySem.F.slot_list_append PySem.F.type_list_append Ja (pv 7) (@Ga _ _ _ _ _ (pv 9) Ge rfl)))
    (@Gf _ _ _ (@JD _ _ _ _ _ _ _ _ PassesOwn.never rfl (Wf K rfl mEnum (@Ga _ _ _ _ _ (pv 9) Ge rfl)) (WX K (n:=2) rfl (Gv (Gi (i:=4) scLaw.nd rfl (Or.inl rfl)) (Gv (Gi (i:=5) scLaw.nd rfl (Or.inl rfl)) Jb)))
    (@Gf _ _ _ (@Je _ _ _ _ _ _ _ _ (PW.pt (Uu (Gw WU (pv 5) (@GF _ _ _ _ _ _ _ _ Xm Jt (pv 2)) (GE _)) (Ot (Gw (Zf K) (pv 5) (@GJ _ _ _ _ _ _ _ (UR K) (pv 6) (pv 4) (λ_ _=>rfl)) (by with_unfolding_all rfl))))) (@Gf _ _ _ (@Gu _ _ _ _ Uh)) GB)) (by intro _;rfl)))))) (by intro _;rfl))
    (@Gf _ _ _ (@Gu _ _ _ _ Uh))))))))),?_⟩
 refine ⟨_,rfl,a,ns,0,rfl,hS,λz0=>⟨z0,0,rfl,by lia,λz=>?_⟩⟩;refine ⟨_,_,rfl,rfl,(by show (0:Int)<5;decide),_,_,rfl,rfl,?_⟩;obtain ⟨r,hr0,r2,r6⟩:∃r:Nat,(2:Int)+z % 5=(r:Int)/\2<=r/\r<=6:=by
  have f0:0<=z % 5:=Int.emod_nonneg _ (by decide);have f1:z % 5<5:=Int.emod_lt_of_pos _ (by decide);exact ⟨((2:Int)+z % 5).toNat,by lia,by lia,by lia⟩
 dsimp only [G0];rw [hr0];refine ⟨_,rfl,a,ns,1,rfl,hS,λz1=>⟨z1,1,rfl,by lia,λy=>?_⟩⟩;obtain ⟨m,hm,hcm⟩:∃m:Nat,(12:Int) / (r:Int)-1=(m:Int)/\((r=2/\m=5)\/(r=3/\m=3)\/(r=4/\m=2)\/(r=5/\m=1)\/(r=6/\m=1)):=by
  have:r=2\/r=3\/r=4\/r=5\/r=6:=by lia
  rcases this with rfl | rfl | rfl | rfl | rfl
  ·exact ⟨5,by decide,.inl ⟨rfl,rfl⟩⟩
  ·exact ⟨3,by decide,.inr (.inl ⟨rfl,rfl⟩)⟩
  ·exact ⟨2,by decide,.inr (.inr (.inl ⟨rfl,rfl⟩))⟩
  ·exact ⟨1,by decide,.inr (.inr (.inr (.inl ⟨rfl,rfl⟩)))⟩
  ·exact ⟨1,by decide,.inr (.inr (.inr (.inr ⟨rfl,rfl⟩)))⟩
 refine ⟨_,rfl,_,_,rfl,rfl,?cd,_,_,rfl,rfl,_,_,rfl,rfl,?pos,_,_,rfl,rfl,?_⟩
 case cd=>
  have:r=2\/r=3\/r=4\/r=5\/r=6:=by lia
  rcases this with rfl | rfl | rfl | rfl | rfl <;> exact ⟨by decide,Zdp⟩
 case pos=>
  show (0:Int)<(12:Int) / (r:Int)-1
  lia
 rw [hm];obtain ⟨c,hc,c2,cm⟩:∃c:Nat,(2:Int)+y % (m:Int)=(c:Int)/\2<=c/\c<=m+1:=by
  have f0:0<=y % (m:Int):=Int.emod_nonneg _ (by lia);have f1:y % (m:Int)<(m:Int):=Int.emod_lt_of_pos _ (by lia);exact ⟨((2:Int)+y % (m:Int)).toNat,by lia,by lia,by lia⟩
 dsimp only [G0];rw [hc];have combo:(r=2/\2<=c/\c<=6)\/(r=3/\2<=c/\c<=4)\/(r=4/\2<=c/\c<=3)\/(r=5/\c=2)\/(r=6/\c=2):=by
  rcases hcm with ⟨h1,h2⟩ | ⟨h1,h2⟩ | ⟨h1,h2⟩ | ⟨h1,h2⟩ | ⟨h1,h2⟩
  ·exact .inl ⟨h1,c2,by lia⟩
  ·exact .inr (.inl ⟨h1,c2,by lia⟩)
  ·exact .inr (.inr (.inl ⟨h1,c2,by lia⟩))
  ·exact .inr (.inr (.inr (.inl ⟨h1,by lia⟩)))
  ·exact .inr (.inr (.inr (.inr ⟨h1,by lia⟩)))
 have ck:=ZdE combo;have hrc:r * c<=12:=by
  rcases combo with ⟨rfl,h,h'⟩ | ⟨rfl,h,h'⟩ | ⟨rfl,h,h'⟩ | ⟨rfl,rfl⟩ | ⟨rfl,rfl⟩ <;> lia
 clear hcm hm cm hc hr0 z0 z1;have gr:=Oj (r:=r) (c:=c) (by lia);refine ⟨_,rfl,_,rfl,_,_,rfl,.inl ⟨r,c,rfl,rfl,by lia,by lia,by lia,by lia,λwb l xs H1 s1 hwb hl nwl ewb el P1=>?_⟩⟩;have W1:WebAt H1 wb l ((r * c:Nat):Int) xs (gRoads r c (r * c)):=⟨by rw [ewb];push_cast;rfl,el,P1⟩;have hn:∀i t,(gRoads r c (r * c))[i]?=some t->∀w,Way ((gRoads r c (r * c)).drop (i+1)) t.1 t.2 w->w.length<=16:=λi t ht w hw=>hw.len (UP ck.g (i+1)) (by have:=gr t (List.mem_of_getElem? ht);lia);have rgj:∀j,j<=(gRoads r c (r * c)).length->Ze0 (gRoads r c (r * c)) 16 j=true:=λj hj=>by
  have:=List.all_eq_true.mp ck.rg;exact List.all_eq_true.mpr λi hi=>this i (List.mem_range.mpr (by have:=List.mem_range.mp hi;lia))
 have rgl:∀d j,j+d=(gRoads r c (r * c)).length->(rgF (gRoads r c (r * c)) 16 j).length<=(rgF (gRoads r c (r * c)) 16 (gRoads r c (r * c)).length).length:=by
  intro d
  induction d with
  | zero=>intro j e;rw [<-e];exact Nat.le_refl _
  | succ d ih=>
   intro j e;refine Nat.le_trans ?_ (ih (j+1) (by lia));show _<=(rgF _ 16 j++_).length;rw [List.length_append]
   lia
 have few:∀j R,Rgs (gRoads r c (r * c)) j R->j<=(gRoads r c (r * c)).length->R.length<=300:=λj R hR hj=>by
  have h1:=(Yg hn hR (rgj j hj)).length_eq;have h2:=rgl ((gRoads r c (r * c)).length-j) j (by lia);have h3:=ck.cl;unfold JA at h3;rw [List.length_map] at h3
  lia
 refine ⟨wb,l,_,xs,_,rfl,W1,ck.g,λj R hR hj h3=>absurd (few j R hR hj) (by lia),λR hR hR3 ev ez H2 s2 hev eev lz fz pm so=>?_⟩;dsimp only [G0];have zp:(ez.map (·.2)).Perm (JA (gRoads r c (r * c)) 16):=pm.trans (Xv hn hR ck.rg);have zl:ez.length=(JA (gRoads r c (r * c)) 16).length:=by
  have:=zp.length_eq
  rwa [List.length_map] at this
 have hU:∀j,j<=(gRoads r c (r * c)).length->∃U:List (List Int),U.length<=4194304/\∀m∈RJ (gRoads r c (r * c)) (r * c) j,m∈U:=λj hj=>⟨_,Nat.le_trans (Zco _ _ j) (Nat.le_trans (Nat.pow_le_pow_right (by lia) (Nat.le_trans hj ck.h20)) (by decide)),λm hm=>hm⟩;refine ⟨_,rfl,ev,_,rfl,.inl (SqL.of eev),_,rfl,_,rfl,r,c,rfl,by lia,by lia,by lia,by lia,by lia,hU,λH3 s3=>?_⟩;refine ⟨rfl,_,rfl,?_⟩;rw [List.length_map,ck.dn,zl,decide_eq_true rfl];refine Js ?_;have eev3:=s3 _ _ eev;have lz3:Lz H3 ez:=λz hz=>s3 _ _ (lz z hz);refine ⟨_,rfl,_,_,rfl,⟨by lia,by lia,by lia,by lia⟩,λD hD=>?_⟩;rw [show ((r:Int)-1).toNat=r-1 by lia];refine O1 (lo:=1) (n:=r-1) (λi ys H4=>∃us:List (Addr×List Str),ys=us.map (λu=>V.ref u.1)/\Same H3 H4/\H4 D=some (.lst ys)/\us.length=i/\(∀u∈us,u.1≠D/\H4 u.1=some (.lst (u.2.map V.str)))/\∀(j:Nat)(u:Addr×List Str),us[j]?=some u->∀x∈ZdJ r c (j+1),mkS x∈u.2) ⟨[],rfl,Same.new hD,Gb,rfl,λu hu=>by (cases hu),λj u hj=>by simp at hj⟩ ?_ ?_
 ·rintro i ys H4 hi ⟨us,rfl,s4,hD4,ul,hus,hun⟩;refine ⟨⟨rfl,rfl,trivial⟩,?_⟩;unfold Ys;refine Jl ?_;refine ⟨_,rfl,_,rfl,_,rfl,_,_,_,rfl,.inr ⟨r,c,rfl,rfl,by lia,by lia,by lia,by lia,by lia,.inr ⟨i+1,by push_cast;lia,by lia,by lia,ck.us i hi,λj hj=>hU j (Nat.le_trans hj (ck.us i hi)),λl5 zs ks H5 s5 hn5 el5 ew5 rp pw so5=>?_⟩⟩⟩;refine ⟨l5,rfl,⟨_,SqL.of el5⟩,λD6 hD6=>?_⟩;have zl5:zs.length<=4194304:=by
   obtain ⟨U,u1,u2⟩:=hU _ (ck.us i hi);have h1:=OP rp u2;have h2:=pw.length_eq;unfold ZdH at h2;rw [List.length_map] at h2;have h3:=List.length_filter_le (λq:Str×Int=>!decide (q.1=mkS (dots c))) (ks.map λp=>(mkS (YQ p.1 (((i+1:Nat):Int) * (c:Int)) c),p.2));rw [List.length_map] at h3
   lia
  have hD5:=s5 _ _ hD4;refine GS (K:=K) (a:=l5) (xs:=zs.map λz=>V.ref z.1) (λj ys6 H6=>Same H5 H6/\H6 D6=some (.lst ys6)/\ys6=(zs.take j).map λz=>V.str z.2.1) ⟨Same.new hD6,Gb,rfl⟩ (λj ys6 H6 _ ⟨s6,_⟩=>SqL.of (s6 _ _ el5)) ?_ ?_
  ·rintro j x ys6 H6 hx ⟨s6,hD6',rfl⟩;rw [List.getElem?_map] at hx;obtain ⟨z,hz,rfl⟩:=Option.map_eq_some_iff.mp hx;have hj:j<zs.length:=(List.getElem?_eq_some_iff.mp hz).1;refine ⟨z.1,_,rfl,SqT.of (s6 _ _ (ew5 z (List.mem_of_getElem? hz))),rfl,_,_,rfl,_,_,rfl,rfl,?_⟩;refine ⟨trivial,?_⟩;refine Jl ?_;refine ⟨_,rfl,hD6',?_,s6.put hD6,Gb,?_⟩
   ·rw [List.length_map,List.length_take]
    lia
   ·rw [List.take_add_one,hz,List.map_append]
    rfl
  ·rintro ys6 H6 ⟨s6,hD6',rfl⟩;rw [List.length_map,List.take_length] at hD6';have nD6:D6≠D:=λe=>by rw [e,hD5] at hD6;cases hD6
   have hD7:=s6 _ _ hD5;refine ⟨hD7,by rw [List.length_map];lia,us++[(D6,zs.map λz=>z.2.1)],by rw [List.map_append];rfl,(s4.trans (s5.trans s6)).put hD,Gb,by rw [List.length_append,List.length_singleton,ul],λu hu=>?_,λj u hj=>?_⟩
   ·rcases List.mem_append.mp hu with hu | hu
    ·obtain ⟨n1,n2⟩:=hus u hu;exact ⟨n1,Gq ((s5.trans s6) _ _ n2) n1⟩
    ·rw [List.mem_singleton.mp hu];exact ⟨nD6,Gq (by rw [hD6',List.map_map];rfl) nD6⟩
   ·rcases Nat.lt_or_ge j us.length with h | h
    ·rw [List.getElem?_append_left h] at hj;exact hun j u hj
    ·rw [List.getElem?_append_right h] at hj;have:j=us.length:=by
      rcases Nat.lt_or_ge (j-us.length) 1 with z | z
      ·lia
      ·rw [List.getElem?_eq_none (by simpa using z)] at hj;cases hj
     subst this;rw [Nat.sub_self] at hj;cases hj;rw [ul];exact λx hx=>ZdG rp pw hx
 ·rintro ys H4 ⟨us,rfl,s4,hD4,ul,hus,hun⟩;dsimp only [G0];refine ⟨Nat.zero_le _,λsn hsn=>?_⟩;have s5:Same H4 (upd H4 sn (.lst [])):=Same.new hsn;have esn:upd H4 sn (.lst []) sn=some (.lst []):=Gb;have nDs:D≠sn:=λe=>by rw [e,hsn] at hD4;cases hD4
  have hns:∀{b u},H4 b=some u->b≠sn:=λy e=>by rw [e,hsn] at y;cases y
  generalize upd H4 sn (.lst [])=H5 at s5 esn ⊢;have eev4:=s4 _ _ eev3;have nev:=hns eev4;dsimp only [G0];refine ⟨_,rfl,ev,rfl,⟨_,SqL.of (s5 _ _ eev4)⟩,?_⟩;refine OB (K:=K) (a:=ev) (xs:=ez.map λz=>V.ref z.1) (λi σ H6=>∃(v4 v5 v8 v9:Option V)(vs:List (Addr×List (List Nat))),σ=[some (.ref a),some (.int (r:Int)),some (.int (c:Int)),some (.ref ev),v4,v5,some (.ref D),some (.ref sn),v8,v9]/\SameX sn H5 H6/\H6 sn=some (.lst (vs.map λu=>V.ref u.1))/\(∀u∈vs,(u.1≠sn/\∀x∈u.2,PyData.strOk (mkS x)=true)/\H6 u.1=some (.lst (u.2.map λx=>V.str (mkS x))))/\(vs.map λu=>some u.2)=(ez.take i).map λz=>JI r c z.2)
   ⟨none,none,none,none,[],rfl,λ_ _ _ y=>y,esn,λu hu=>by (cases hu),rfl⟩ (λi σ H6 _ ⟨_,_,_,_,_,_,y,_⟩=>SqL.of (y _ _ nev (s5 _ _ eev4))) ?_ ?_
  ·rintro i x σ H6 hxi ⟨v4,v5,v8,v9,vs,rfl,sx,hsn6,hvs,hme⟩;rw [List.getElem?_map] at hxi;obtain ⟨z,hz,rfl⟩:=Option.map_eq_some_iff.mp hxi;have hzm:z∈ez:=List.mem_of_getElem? hz;have hi:i<ez.length:=(List.getElem?_eq_some_iff.mp hz).1;have hcl:z.2∈JA (gRoads r c (r * c)) 16:=zp.mem_iff.mp (List.mem_map.mpr ⟨z,hzm,rfl⟩);obtain ⟨ws,hws,wn,wc,wo,hrd,hund⟩:=ck.ok _ hcl;have cls:VW ((r * c:Nat):Int) (gRoads r c (r * c)) z.2:=by
    obtain ⟨c0,hc0,ec⟩:=(ZdA ck.g hR hR3 z.2).mp (pm.mem_iff.mp (List.mem_map.mpr ⟨z,hzm,rfl⟩));obtain ⟨ns',R',en⟩:=ZbK ck.g hc0;have:=Xy ck.g R'
    rwa [en,ec] at this
   have dim:2<=r/\2<=c/\r * c<=12/\(gRoads r c (r * c)).length<=(r-1) * (2 * c-1)+(c-1):=⟨r2,c2,hrc,ck.hl⟩;have ez4:=s4 _ _ (lz3 z hzm);have nz:=hns ez4;have ez6:=sx _ _ nz (s5 _ _ ez4);have eD6:=sx _ _ nDs (s5 _ _ hD4);dsimp only [G0];refine ⟨_,rfl,_,rfl,_,rfl,z.1,_,rfl,.inl (SqL.of ez6),λcp hcp=>?_⟩;have s7:Same H6 (upd H6 cp (.lst (z.2.map V.int))):=Same.new hcp;have ecp:upd H6 cp (.lst (z.2.map V.int)) cp=some (.lst (z.2.map V.int)):=Gb;generalize upd H6 cp (.lst (z.2.map V.int))=H7 at s7 ecp ⊢;refine ⟨r,c,cp,z.2,ws,rfl,dim,ck.g,ecp,cls,hws,λwl H8 s8 hwl8 ewl=>?_⟩;have s68:=s7.trans s8;have nwl:wl≠sn:=λe=>by rw [e,s7 _ _ hsn6] at hwl8;cases hwl8
   dsimp only [G0];have dv:DatVs K H8 (vs.map λu=>V.ref u.1) (vs.map λu=>PyData.list (Vh u.2)):=by
    clear hme hsn6
    induction vs with
    | nil=>exact .nil
    | cons u vs ih=>exact .cons (.lst (SqL.of (s68 _ _ (hvs u (List.mem_cons_self ..)).2)) (J7 _)) (ih λv hv=>hvs v (List.mem_cons_of_mem _ hv))
   have sh:∀e∈vs.map (λu=>PyData.list (Vh u.2)),SeqAt.shaped e=true:=λe he=>by
    obtain ⟨u,hu,rfl⟩:=List.mem_map.mp he;exact JQ (hvs u hu).1.2
   have nds:((ez.map (·.2)).map (JI r c)).Nodup:=(zp.map _).nodup_iff.mpr ck.nd;have hnew:((vs.map λu=>PyData.list (Vh u.2)).any λe=>PyData.eqv e (.list (Vh ws)))=false:=by
    rw [List.any_eq_false];intro e he;obtain ⟨u,hu,rfl⟩:=List.mem_map.mp he;rw [Yl];intro y;have y:u.2=ws:=of_decide_eq_true y;rw [List.map_map] at nds;have h1:some ws∈(ez.take i).map λz=>JI r c z.2:=by
     rw [<-hme,<-y];exact List.mem_map.mpr ⟨u,hu,rfl⟩
    refine ZdF nds (i:=i) (x:=some ws) ?_ ?_
    ·rw [List.getElem?_map,hz,<-hws]
     rfl
    ·rw [<-List.map_take];exact h1
   refine ⟨_,rfl,_,rfl,sn,_,.list (Vh ws),_,rfl,.inl (SqL.of (s68 _ _ hsn6)),.lst (SqL.of ewl) (J7 _),dv,JQ wo,sh,_,rfl,?_⟩;rw [hnew];refine Js ?_;refine ⟨_,rfl,_,rfl,_,rfl,wl,_,rfl,.inl (SqL.of ewl),λcq hcq=>?_⟩;have s9:Same H8 (upd H8 cq (.lst (ws.map λx=>V.str (mkS x)))):=Same.new hcq;have ecq:upd H8 cq (.lst (ws.map λx=>V.str (mkS x))) cq=some (.lst (ws.map λx=>V.str (mkS x))):=Gb;generalize upd H8 cq (.lst (ws.map λx=>V.str (mkS x)))=H9 at s9 ecq ⊢;refine ⟨r,c,cq,z.2,ws,rfl,dim,ck.g,ecq,wn,wc,wo,cls,hws,hrd,λl10 H10 s10 hl10 el10=>?_⟩;have S10:=s68.trans (s9.trans s10);refine ⟨_,rfl,.list (z.2.map PyData.int),.list (z.2.map PyData.int),.lst (SqL.of el10) (Jy _),.lst (SqL.of (S10 _ _ ez6)) (Jy _),Jm _,Jm _,_,rfl,?_⟩;rw [Vq,decide_eq_true rfl];refine Js ?_;have ewl10:=(s9.trans s10) _ _ ewl;refine ⟨_,rfl,wl,_,rfl,.inl (SqL.of ewl10),_,rfl,_,_,rfl,rfl,rfl,_,rfl,?_⟩;rw [List.length_map,wn,show ((r-1:Nat):Int)=(r:Int)-1 by lia,decide_eq_true rfl];refine Js ?_;have hsn10:=S10 _ _ hsn6;refine ⟨_,rfl,.inl ⟨rfl,_,SqL.of hsn10⟩,_,rfl,sn,_,_,rfl,rfl,hsn10,?_,?_⟩
   ·have:=congrArg List.length hme;rw [List.length_map,List.length_map,List.length_take] at this;have:=ck.cl;rw [List.length_map]
    lia
   have sx10:SameX sn H5 (upd H10 sn (.lst (vs.map (λu=>V.ref u.1)++[.ref wl]))):=λb u n y=>Gq (S10 _ _ (sx b u n y)) n;have ew11:upd H10 sn (.lst (vs.map (λu=>V.ref u.1)++[.ref wl])) wl=some (.lst (ws.map λx=>V.str (mkS x))):=Gq ewl10 nwl;have hv11:∀u∈vs++[(wl,ws)],(u.1≠sn/\∀x∈u.2,PyData.strOk (mkS x)=true)/\upd H10 sn (.lst (vs.map (λu=>V.ref u.1)++[.ref wl])) u.1=some (.lst (u.2.map λx=>V.str (mkS x))):=λu hu=>by
    rcases List.mem_append.mp hu with hu | hu
    ·obtain ⟨n1,n2⟩:=hvs u hu;exact ⟨n1,Gq (S10 _ _ n2) n1.1⟩
    ·rw [List.mem_singleton.mp hu];exact ⟨⟨nwl,wo⟩,ew11⟩
   have es11:upd H10 sn (.lst (vs.map (λu=>V.ref u.1)++[.ref wl])) sn=some (.lst ((vs++[(wl,ws)]).map λu=>V.ref u.1)):=by rw [Gb,List.map_append];rfl
   have eD11:∀{b u},b≠sn->H6 b=some u->upd H10 sn (.lst (vs.map (λu=>V.ref u.1)++[.ref wl])) b=some u:=λn y=>Gq (S10 _ _ y) n;have eD11':=eD11 nDs eD6;have eu11:∀u∈us,upd H10 sn (.lst (vs.map (λu=>V.ref u.1)++[.ref wl])) u.1=some (.lst (u.2.map V.str)):=λu hu=>sx10 _ _ (hns (hus u hu).2) (s5 _ _ (hus u hu).2);have me11:((vs++[(wl,ws)]).map λu=>some u.2)=(ez.take (i+1)).map λz=>JI r c z.2:=by
    rw [List.map_append,hme,List.take_add_one,hz,List.map_append];show _++[some ws]=_++[JI r c z.2];rw [hws]
   clear eD11;generalize upd H10 sn (.lst (vs.map (λu=>V.ref u.1)++[.ref wl]))=H11 at sx10 ew11 hv11 es11 eD11' eu11 ⊢;refine ⟨_,rfl,wl,_,rfl,SqL.of ew11,?_⟩;refine Od (K:=K) (a:=wl) (xs:=ws.map λx=>V.str (mkS x)) (λj σ H12=>∃v4 v5:Option V,σ=[some (.ref a),some (.int (r:Int)),some (.int (c:Int)),some (.ref ev),v4,v5,some (.ref D),some (.ref sn),some (.ref z.1),some (.ref wl)]/\Same H11 H12)
    ⟨v4,v5,rfl,Same.refl _⟩ (λj σ H12 _ ⟨_,_,_,y⟩=>SqL.of (y _ _ ew11)) ?_ ?_
   ·rintro j x σ H12 T hxj ⟨v4',v5',rfl,s12⟩ hT;rw [List.getElem?_map] at hxj;obtain ⟨wd,hwd,rfl⟩:=Option.map_eq_some_iff.mp hxj;have hj:j<ws.length:=(List.getElem?_eq_some_iff.mp hwd).1;have ewd:ws.getD j []=wd:=by rw [List.getD_eq_getElem?_getD,hwd];rfl
    have s13:Same H12 (upd H12 T (.tup [.int (j:Nat),.str (mkS wd)])):=Same.new hT;refine ⟨T,_,rfl,SqT.of Gb,rfl,_,_,rfl,_,_,rfl,rfl,?_⟩;generalize upd H12 T (.tup [.int (j:Nat),.str (mkS wd)])=H13 at s13 ⊢;have s113:=s12.trans s13;dsimp only [G0];refine ⟨_,rfl,_,rfl,46,c,rfl,rfl,by lia,by lia,rfl,_,rfl,?_⟩;by_cases hd:wd=dots c
    ·rw [show decide (V.str (mkS wd)=V.str (mkS (List.replicate c 46)))=true from decide_eq_true (by rw [hd];rfl)];exact Js ⟨_,_,rfl,s113⟩
    rw [show decide (V.str (mkS wd)=V.str (mkS (List.replicate c 46)))=false from decide_eq_false λy=>hd (str_mk.mp (V.str.inj y))];refine Jl ?_;obtain ⟨u,hu⟩:∃u,us[j]?=some u:=⟨us[j],List.getElem?_eq_getElem (by lia)⟩;have hm:mkS wd∈u.2:=by
     rcases hund j (by lia) with y | y
     ·rw [ewd] at y;exact absurd y hd
     ·rw [ewd] at y;exact hun j u hu wd y
    refine ⟨_,rfl,_,rfl,_,rfl,D,_,_,_,rfl,rfl,SqL.of (s113 _ _ eD11'),Gx (v:=V.ref u.1) (by rw [List.getElem?_map,hu];rfl),u.1,_,rfl,.inl (SqL.of (s113 _ _ (eu11 u (List.mem_of_getElem? hu)))),rfl,?_,_,rfl,?_⟩
    ·rw [List.all_map];exact List.all_eq_true.mpr λ_ _=>rfl
    ·show if (!inV (.str (mkS wd)) (u.2.map V.str))=true then _ else _
     rw [ZbN,decide_eq_true hm];exact Js ⟨_,_,rfl,s113⟩
   ·rintro σ H12 ⟨v4',v5',rfl,s12⟩;exact ⟨v4',v5',_,_,vs++[(wl,ws)],rfl,λb u n y=>s12 _ _ (sx10 b u n y),s12 _ _ es11,λu hu=>⟨(hv11 u hu).1,s12 _ _ (hv11 u hu).2⟩,me11⟩
  ·rintro σ H6 ⟨v4,v5,v8,v9,vs,rfl,sx,hsn6,hvs,hme⟩;exact q H6
end
end M
section
open PySem PySem.W PyProof.Rows
def M.rowP:Program:=PySem.Challenge.rw_onceways_k72_whole_each_by_its_words.prog
def M.seenP:Program:={ M.rowP with main:={ M.rowP.main with body:=[1,2,3,4,5,7,8,9,10,12,13,14,15,16,17,18,20,21,22,23,24,25,26,27,28,29,31,32,33,34,35,36,38,39,40,41,42,43,44,46,47,49,50,51,52,53,54,55,56,57,59,60,61].filterMap (λi=>M.rowP.main.body[i]?) } }
def M.loosely:List Str:=[Str.ofString "steps_of_marks", Str.ofString "steps_of_ways", Str.ofString "roads_of"]
def M.hookX (s:Shared):Bool:=xlAt M.seenP [] s && recOk (RowW.records (OpenRow.toRowW PySem.Challenge.rw_onceways_k72_whole_each_by_its_words.row)) s
noncomputable def M.atBoot (w:World)(os:OsState):Shared:=⟨boot_heap w.params,Array.mk [],boot_drawn,boot_toks,os⟩
noncomputable def M.topOf (p:Program)(N:Nat)(w:World)(os:OsState):Option Shared:=topRun treeTable p w (M.atBoot w os).heap.objs.size ((M.atBoot w os).heap.nsMap mainGlobals "__annotations__") N (M.atBoot w os) (topStub p)
theorem M.top_run {p:Program}{N:Nat}{w:World}{os:OsState}{s:Shared}(h:topFrom treeTable p w N (M.atBoot w os)=some s):M.topOf p N w os=some s:=by
 unfold topFrom at h;split at h
 ·obtain ⟨s1,h1,h2⟩:=Option.bind_eq_some_iff.mp h;split at h2
  ·cases h2;exact h1
  ·cases h2
 ·cases h
theorem M.left_boot {p q:Program}{loose:List Str}{Xt:Shared->Bool}{α:Type}{Yf:Shared->α}{Ya:World->α}{N:Nat}(e:opening p=plainProg p.main.scope.names)(hN:Nat.ble 600 N=true)(f:∀s,fenceModules? p s=some s)(hc:∀(w:World)(os:OsState),(topFrom treeTable p w N (M.atBoot w os)).isSome=true)(ha:∀(w:World)(os:OsState),(M.topOf p N w os).map (openSeen q loose (importedModules p.main.body) Xt true)=some (openGood q loose))(hb:∀(w:World)(os:OsState),(M.topOf p N w os).map Yf=some (Ya w)) :
  LeftO p q loose Xt Yf Ya N:=λw=>by
 obtain ⟨⟨a,b,c,d,os⟩,e1,e2⟩:=Option.map_eq_some_iff.mp (boot_open e hN f w);obtain ⟨rfl,rfl,rfl,rfl⟩:a=boot_heap w.params/\b=Array.mk []/\c=boot_drawn/\d=boot_toks:=by simpa using e2
 obtain ⟨s,hs⟩:=Option.isSome_iff_exists.mp (hc w os);have h1:=ha w os;have h2:=hb w os;rw [M.top_run hs] at h1 h2;unfold openEnds;rw [e1];show (topFrom treeTable p w N (M.atBoot w os)).map _=_;rw [hs];simp only [Option.map_some,Option.some.injEq] at h1 h2 ⊢;rw [h1,h2]
set_option maxHeartbeats 0 in
theorem M.topA (w:World)(os:OsState):(M.topOf M.rowP 4976 w os).map (openSeen M.seenP M.loosely (importedModules M.rowP.main.body) M.hookX true)=some (openGood M.seenP M.loosely):=by
 unfold M.topOf;rw [W.Fast.te14082659384304107361,W.Fast.te14364793385576792824,W.Fast.te4187177175401517315];kernel_rfl
set_option maxHeartbeats 0 in
theorem M.topC (w:World)(os:OsState):(topFrom treeTable M.rowP w 4976 (M.atBoot w os)).isSome=true:=by
 unfold topFrom;rw [W.Fast.te14082659384304107361,W.Fast.te14364793385576792824];kernel_rfl
end
namespace M
open PySem L2
theorem all_mk {l:W.OpenLaw}{w:World}{K:W.Frag}{h:Heap}{mg:Str->Option Value}{fa f1 f2 f3 f4 f5 f6 f7 f8 f9 f10 f11 f12 f13 f14 f15 f16 f17 f18 f19 f20 f21 f22 f23 f24 f25 f26 f27 f28 f29 f30 f31 f32 f33 f34 f35 f36 f37 f38 f39 f40 f41 no NW C2 TM dT:Addr}{u0 u1 u2 u3 u4 u5:Tok}{tM:Tok}{dtc:Value}{dtd:Option Addr}{dtn:Nat}{dts:Array (Option Value)}(X:K.In h)(G:h.Ns mainGlobals mg)(hfa:mg "law" = some (.ref fa)){od1 an1 od2 an2 od3 an3 od4 an4 od5 an5 od6 an6 od7 an7 od8 an8 od9 an9 od10 an10 od11 an11 od12 an12 od13 an13 od14 an14 od15 an15 od16 an16 od17 an17 od18 an18 od19 an19 od20 an20 od21 an21 od22 an22 od23 an23 od24 an24 od25 an25 od26 an26 od27 an27 od28 an28 od29 an29 od30 an30 od31 an31 od32 an32 od33 an33 od34 an34 od35 an35 od36 an36 od37 an37 od38 an38 od39 an39 od40 an40 od41 an41:Option Addr}{sl1 sl2 sl3 sl4 sl5 sl6 sl7 sl8 sl9 sl10 sl11 sl12 sl13 sl14 sl15 sl16 sl17 sl18 sl19 sl20 sl21 sl22 sl23 sl24 sl25 sl26 sl27 sl28 sl29 sl30 sl31 sl32 sl33 sl34 sl35 sl36 sl37 sl38 sl39 sl40 sl41:Array (Option Value)}{oc1 kV1 dc1 pm1 cd1 ct1 oc2 kV2 dc2 pm2 cd2 ct2 oc3 kV3 dc3 pm3 cd3 ct3 oc4 kV4 dc4 pm4 cd4 ct4 oc5 kV5 dc5 pm5 cd5 ct5 oc6 kV6 dc6 pm6 cd6 ct6 oc7 kV7 dc7 pm7 cd7 ct7 oc8 kV8 dc8 pm8 cd8 ct8 oc9 kV9 dc9 pm9 cd9 ct9 oc10 kV10 dc10 pm10 cd10 ct10 oc11 kV11 dc11 pm11 cd11 ct11 oc12 kV12 dc12 pm12 cd12 ct12 oc13 kV13 dc13 pm13 cd13 ct13 oc14 kV14 dc14 pm14 cd14 ct14 oc15 kV15 dc15 pm15 cd15 ct15 oc16 kV16 dc16 pm16 cd16 ct16 oc17 kV17 dc17 pm17 cd17 ct17 oc18 kV18 dc18 pm18 cd18 ct18 oc19 kV19 dc19 pm19 cd19 ct19 oc20 kV20 dc20 pm20 cd20 ct20 oc21 kV21 dc21 pm21 cd21 ct21 oc22 kV22 dc22 pm22 cd22 ct22 oc23 kV23 dc23 pm23 cd23 ct23 oc24 kV24 dc24 pm24 cd24 ct24 oc25 kV25 dc25 pm25 cd25 ct25 oc26 kV26 dc26 pm26 cd26 ct26 oc27 kV27 dc27 pm27 cd27 ct27 oc28 kV28 dc28 pm28 cd28 ct28 oc29 kV29 dc29 pm29 cd29 ct29 oc30 kV30 dc30 pm30 cd30 ct30 oc31 kV31 dc31 pm31 cd31 ct31 oc32 kV32 dc32 pm32 cd32 ct32 oc33 kV33 dc33 pm33 cd33 ct33 oc34 kV34 dc34 pm34 cd34 ct34 oc35 kV35 dc35 pm35 cd35 ct35 oc36 kV36 dc36 pm36 cd36 ct36 oc37 kV37 dc37 pm37 cd37 ct37 oc38 kV38 dc38 pm38 cd38 ct38 oc39 kV39 dc39 pm39 cd39 ct39 oc40 kV40 dc40 pm40 cd40 ct40 oc41 kV41 dc41 pm41 cd41 ct41:Value}(aF1:W.nsIn K mainGlobals "grid" = some (some (.ref f1)))(lF1:K.lookup f1=some ⟨oc1,od1,.func (W.fnOf "grid" "grid" (Gp sGr) (Gn sGr) (Gc sGr) .none kV1 dc1 pm1 an1 cd1 ct1),sl1⟩)(cF1:W.codeIn K cd1 "grid" = true)(kF1:W.keepIn K (.ref f1)=true)(aF2:W.nsIn K mainGlobals "is_place" = some (some (.ref f2)))(lF2:K.lookup f2=some ⟨oc2,od2,.func (W.fnOf "is_place" "is_place" (Gp sIs) (Gn sIs) (Gc sIs) .none kV2 dc2 pm2 an2 cd2 ct2),sl2⟩)(cF2:W.codeIn K cd2 "is_place" = true)(kF2:W.keepIn K (.ref f2)=true)(aF3:W.nsIn K mainGlobals "check_place" = some (some (.ref f3)))(lF3:K.lookup f3=some ⟨oc3,od3,.func (W.fnOf "check_place" "check_place" (Gp Zdb) (Gn Zdb) (Gc Zdb) .none kV3 dc3 pm3 an3 cd3 ct3),sl3⟩)(cF3:W.codeIn K cd3 "check_place" = true)(kF3:W.keepIn K (.ref f3)=true)(aF4:W.nsIn K mainGlobals "beside" = some (some (.ref f4)))(lF4:K.lookup f4=some ⟨oc4,od4,.func (W.fnOf "beside" "beside" (Gp Zbo) (Gn Zbo) (Gc Zbo) .none kV4 dc4 pm4 an4 cd4 ct4),sl4⟩)(cF4:W.codeIn K cd4 "beside" = true)(kF4:W.keepIn K (.ref f4)=true)(aF5:W.nsIn K mainGlobals "last_roads" = some (some (.ref f5)))(lF5:K.lookup f5=some ⟨oc5,od5,.func (W.fnOf "last_roads" "last_roads" (Gp sLr) (Gn sLr) (Gc sLr) .none kV5 dc5 pm5 an5 cd5 ct5),sl5⟩)(cF5:W.codeIn K cd5 "last_roads" = true)(kF5:W.keepIn K (.ref f5)=true)(aF6:W.nsIn K mainGlobals "steps_of_marks" = some (some (.ref f6)))(lF6:K.lookup f6=some ⟨oc6,od6,.func (W.fnOf "steps_of" "steps_of" (Gp sSo) (Gn sSo) (Gc sSo) .none kV6 dc6 pm6 an6 cd6 ct6),sl6⟩)(cF6:W.codeIn K cd6 "steps_of" = true)(kF6:W.keepIn K (.ref f6)=true)(aF7:W.nsIn K mainGlobals "first_marks" = some (some (.ref f7)))(lF7:K.lookup f7=some ⟨oc7,od7,.func (W.fnOf "first_marks" "first_marks" (Gp sFm) (Gn sFm) (Gc sFm) .none kV7 dc7 pm7 an7 cd7 ct7),sl7⟩)(cF7:W.codeIn K cd7 "first_marks" = true)(kF7:W.keepIn K (.ref f7)=true)(aF8:W.nsIn K mainGlobals "is_done" = some (some (.ref f8)))(lF8:K.lookup f8=some ⟨oc8,od8,.func (W.fnOf "is_done" "is_done" (Gp sId) (Gn sId) (Gc sId) .none kV8 dc8 pm8 an8 cd8 ct8),sl8⟩)(cF8:W.codeIn K cd8 "is_done" = true)(kF8:W.keepIn K (.ref f8)=true)(aF9:W.nsIn K mainGlobals "is_loose" = some (some (.ref f9)))(lF9:K.lookup f9=some ⟨oc9,od9,.func (W.fnOf "is_loose" "is_loose" (Gp sIl) (Gn sIl) (Gc sIl) .none kV9 dc9 pm9 an9 cd9 ct9),sl9⟩)(cF9:W.codeIn K cd9 "is_loose" = true)(kF9:W.keepIn K (.ref f9)=true)(aF10:W.nsIn K mainGlobals "is_full" = some (some (.ref f10)))(lF10:K.lookup f10=some ⟨oc10,od10,.func (W.fnOf "is_full" "is_full" (Gp sIf) (Gn sIf) (Gc sIf) .none kV10 dc10 pm10 an10 cd10 ct10),sl10⟩)(cF10:W.codeIn K cd10 "is_full" = true)(kF10:W.keepIn K (.ref f10)=true)(aF11:W.nsIn K mainGlobals "is_met" = some (some (.ref f11)))(lF11:K.lookup f11=some ⟨oc11,od11,.func (W.fnOf "is_met" "is_met" (Gp sIm) (Gn sIm) (Gc sIm) .none kV11 dc11 pm11 an11 cd11 ct11),sl11⟩)(cF11:W.codeIn K cd11 "is_met" = true)(kF11:W.keepIn K (.ref f11)=true)(aF12:W.nsIn K mainGlobals "far_end" = some (some (.ref f12)))(lF12:K.lookup f12=some ⟨oc12,od12,.func (W.fnOf "far_end" "far_end" (Gp sFe) (Gn sFe) (Gc sFe) .none kV12 dc12 pm12 an12 cd12 ct12),sl12⟩)(cF12:W.codeIn K cd12 "far_end" = true)(kF12:W.keepIn K (.ref f12)=true)(aF13:W.nsIn K mainGlobals "with_road" = some (some (.ref f13)))(lF13:K.lookup f13=some ⟨oc13,od13,.func (W.fnOf "with_road" "with_road" (Gp sWr) (Gn sWr) (Gc sWr) .none kV13 dc13 pm13 an13 cd13 ct13),sl13⟩)(cF13:W.codeIn K cd13 "with_road" = true)(kF13:W.keepIn K (.ref f13)=true)(aF14:W.nsIn K mainGlobals "left_behind" = some (some (.ref f14)))(lF14:K.lookup f14=some ⟨oc14,od14,.func (W.fnOf "left_behind" "left_behind" (Gp sLb) (Gn sLb) (Gc sLb) .none kV14 dc14 pm14 an14 cd14 ct14),sl14⟩)(cF14:W.codeIn K cd14 "left_behind" = true)(kF14:W.keepIn K (.ref f14)=true)(aF15:W.nsIn K mainGlobals "decided" = some (some (.ref f15)))(lF15:K.lookup f15=some ⟨oc15,od15,.func (W.fnOf "decided" "decided" (Gp sDe) (Gn sDe) (Gc sDe) .none kV15 dc15 pm15 an15 cd15 ct15),sl15⟩)(cF15:W.codeIn K cd15 "decided" = true)(kF15:W.keepIn K (.ref f15)=true)(aF16:W.nsIn K mainGlobals "numbers_by_step" = some (some (.ref f16)))(lF16:K.lookup f16=some ⟨oc16,od16,.func (W.fnOf "numbers_by_step" "numbers_by_step" (Gp Zbp) (Gn Zbp) (Gc Zbp) .none kV16 dc16 pm16 an16 cd16 ct16),sl16⟩)(cF16:W.codeIn K cd16 "numbers_by_step" = true)(kF16:W.keepIn K (.ref f16)=true)(aF17:W.nsIn K mainGlobals "steps_of_ways" = some (some (.ref f17)))(lF17:K.lookup f17=some ⟨oc17,od17,.func (W.fnOf "steps_of" "steps_of" (Gp Zb9) (Gn Zb9) (Gc Zb9) .none kV17 dc17 pm17 an17 cd17 ct17),sl17⟩)(cF17:W.codeIn K cd17 "steps_of" = true)(kF17:W.keepIn K (.ref f17)=true)(aF18:W.nsIn K mainGlobals "goes_once" = some (some (.ref f18)))(lF18:K.lookup f18=some ⟨oc18,od18,.func (W.fnOf "goes_once" "goes_once" (Gp Zca) (Gn Zca) (Gc Zca) .none kV18 dc18 pm18 an18 cd18 ct18),sl18⟩)(cF18:W.codeIn K cd18 "goes_once" = true)(kF18:W.keepIn K (.ref f18)=true)(aF19:W.nsIn K mainGlobals "is_closed" = some (some (.ref f19)))(lF19:K.lookup f19=some ⟨oc19,od19,.func (W.fnOf "is_closed" "is_closed" (Gp Zdc) (Gn Zdc) (Gc Zdc) .none kV19 dc19 pm19 an19 cd19 ct19),sl19⟩)(cF19:W.codeIn K cd19 "is_closed" = true)(kF19:W.keepIn K (.ref f19)=true)(aF20:W.nsIn K mainGlobals "roads_of" = some (some (.ref f20)))(lF20:K.lookup f20=some ⟨oc20,od20,.func (W.fnOf "roads_of" "roads_of" (Gp YN) (Gn YN) (Gc YN) (.ref dT) kV20 dc20 pm20 an20 cd20 ct20),sl20⟩)(cF20:W.codeIn K cd20 "roads_of" = true)(kF20:W.keepIn K (.ref f20)=true)(aF21:W.nsIn K mainGlobals "chosen_roads" = some (some (.ref f21)))(lF21:K.lookup f21=some ⟨oc21,od21,.func (W.fnOf "chosen_roads" "chosen_roads" (Gp Zcb) (Gn Zcb) (Gc Zcb) .none kV21 dc21 pm21 an21 cd21 ct21),sl21⟩)(cF21:W.codeIn K cd21 "chosen_roads" = true)(kF21:W.keepIn K (.ref f21)=true)(aF22:W.nsIn K mainGlobals "walk" = some (some (.ref f22)))(lF22:K.lookup f22=some ⟨oc22,od22,.func (W.fnOf "walk" "walk" (Gp Zcc) (Gn Zcc) (Gc Zcc) .none kV22 dc22 pm22 an22 cd22 ct22),sl22⟩)(cF22:W.codeIn K cd22 "walk" = true)(kF22:W.keepIn K (.ref f22)=true)(aF23:W.nsIn K mainGlobals "closed_of" = some (some (.ref f23)))(lF23:K.lookup f23=some ⟨oc23,od23,.func (W.fnOf "closed_of" "closed_of" (Gp Zbq) (Gn Zbq) (Gc Zbq) .none kV23 dc23 pm23 an23 cd23 ct23),sl23⟩)(cF23:W.codeIn K cd23 "closed_of" = true)(kF23:W.keepIn K (.ref f23)=true)(aF24:W.nsIn K mainGlobals "reached" = some (some (.ref f24)))(lF24:K.lookup f24=some ⟨oc24,od24,.func (W.fnOf "reached" "reached" (Gp Zcd) (Gn Zcd) (Gc Zcd) .none kV24 dc24 pm24 an24 cd24 ct24),sl24⟩)(cF24:W.codeIn K cd24 "reached" = true)(kF24:W.keepIn K (.ref f24)=true)(aF25:W.nsIn K mainGlobals "ways_between" = some (some (.ref f25)))(lF25:K.lookup f25=some ⟨oc25,od25,.func (W.fnOf "ways_between" "ways_between" (Gp Zce) (Gn Zce) (Gc Zce) .none kV25 dc25 pm25 an25 cd25 ct25),sl25⟩)(cF25:W.codeIn K cd25 "ways_between" = true)(kF25:W.keepIn K (.ref f25)=true)(aF26:W.nsIn K mainGlobals "told_sets" = some (some (.ref f26)))(lF26:K.lookup f26=some ⟨oc26,od26,.func (W.fnOf "told_sets" "told_sets" (Gp Zdd) (Gn Zdd) (Gc Zdd) .none kV26 dc26 pm26 an26 cd26 ct26),sl26⟩)(cF26:W.codeIn K cd26 "told_sets" = true)(kF26:W.keepIn K (.ref f26)=true)(aF27:W.nsIn K mainGlobals "every_closed" = some (some (.ref f27)))(lF27:K.lookup f27=some ⟨oc27,od27,.func (W.fnOf "every_closed" "every_closed" (Gp Zde) (Gn Zde) (Gc Zde) .none kV27 dc27 pm27 an27 cd27 ct27),sl27⟩)(cF27:W.codeIn K cd27 "every_closed" = true)(kF27:W.keepIn K (.ref f27)=true)(aF28:W.nsIn K mainGlobals "behind_step" = some (some (.ref f28)))(lF28:K.lookup f28=some ⟨oc28,od28,.func (W.fnOf "behind_step" "behind_step" (Gp sBs) (Gn sBs) (Gc sBs) .none kV28 dc28 pm28 an28 cd28 ct28),sl28⟩)(cF28:W.codeIn K cd28 "behind_step" = true)(kF28:W.keepIn K (.ref f28)=true)(aF29:W.nsIn K mainGlobals "numbers_behind" = some (some (.ref f29)))(lF29:K.lookup f29=some ⟨oc29,od29,.func (W.fnOf "numbers_behind" "numbers_behind" (Gp sNb) (Gn sNb) (Gc sNb) .none kV29 dc29 pm29 an29 cd29 ct29),sl29⟩)(cF29:W.codeIn K cd29 "numbers_behind" = true)(kF29:W.keepIn K (.ref f29)=true)(aF30:W.nsIn K mainGlobals "roads_of_row" = some (some (.ref f30)))(lF30:K.lookup f30=some ⟨oc30,od30,.func (W.fnOf "roads_of_row" "roads_of_row" (Gp sRr) (Gn sRr) (Gc sRr) .none kV30 dc30 pm30 an30 cd30 ct30),sl30⟩)(cF30:W.codeIn K cd30 "roads_of_row" = true)(kF30:W.keepIn K (.ref f30)=true)(aF31:W.nsIn K mainGlobals "sign_of" = some (some (.ref f31)))(lF31:K.lookup f31=some ⟨oc31,od31,.func (W.fnOf "sign_of" "sign_of" (Gp sSg) (Gn sSg) (Gc sSg) .none kV31 dc31 pm31 an31 cd31 ct31),sl31⟩)(cF31:W.codeIn K cd31 "sign_of" = true)(kF31:W.keepIn K (.ref f31)=true)(aF32:W.nsIn K mainGlobals "word_in" = some (some (.ref f32)))(lF32:K.lookup f32=some ⟨oc32,od32,.func (W.fnOf "word_in" "word_in" (Gp sWn) (Gn sWn) (Gc sWn) .none kV32 dc32 pm32 an32 cd32 ct32),sl32⟩)(cF32:W.codeIn K cd32 "word_in" = true)(kF32:W.keepIn K (.ref f32)=true)(aF33:W.nsIn K mainGlobals "words_below" = some (some (.ref f33)))(lF33:K.lookup f33=some ⟨oc33,od33,.func (W.fnOf "words_below" "words_below" (Gp sWb) (Gn sWb) (Gc sWb) .none kV33 dc33 pm33 an33 cd33 ct33),sl33⟩)(cF33:W.codeIn K cd33 "words_below" = true)(kF33:W.keepIn K (.ref f33)=true)(aF34:W.nsIn K mainGlobals "count_by_words" = some (some (.ref f34)))(lF34:K.lookup f34=some ⟨oc34,od34,.func (W.fnOf "count_by_words" "count_by_words" (Gp sCw) (Gn sCw) (Gc sCw) .none kV34 dc34 pm34 an34 cd34 ct34),sl34⟩)(cF34:W.codeIn K cd34 "count_by_words" = true)(kF34:W.keepIn K (.ref f34)=true)(aF35:W.nsIn K mainGlobals "closed_by_words" = some (some (.ref f35)))(lF35:K.lookup f35=some ⟨oc35,od35,.func (W.fnOf "closed_by_words" "closed_by_words" (Gp sCb) (Gn sCb) (Gc sCb) .none kV35 dc35 pm35 an35 cd35 ct35),sl35⟩)(cF35:W.codeIn K cd35 "closed_by_words" = true)(kF35:W.keepIn K (.ref f35)=true)(aF36:W.nsIn K mainGlobals "words_of" = some (some (.ref f36)))(lF36:K.lookup f36=some ⟨oc36,od36,.func (W.fnOf "words_of" "words_of" (Gp sWf) (Gn sWf) (Gc sWf) .none kV36 dc36 pm36 an36 cd36 ct36),sl36⟩)(cF36:W.codeIn K cd36 "words_of" = true)(kF36:W.keepIn K (.ref f36)=true)(aF37:W.nsIn K mainGlobals "is_chosen" = some (some (.ref f37)))(lF37:K.lookup f37=some ⟨oc37,od37,.func (W.fnOf "is_chosen" "is_chosen" (Gp sIc) (Gn sIc) (Gc sIc) .none kV37 dc37 pm37 an37 cd37 ct37),sl37⟩)(cF37:W.codeIn K cd37 "is_chosen" = true)(kF37:W.keepIn K (.ref f37)=true)(aF38:W.nsIn K mainGlobals "set_by_words" = some (some (.ref f38)))(lF38:K.lookup f38=some ⟨oc38,od38,.func (W.fnOf "set_by_words" "set_by_words" (Gp sSw) (Gn sSw) (Gc sSw) .none kV38 dc38 pm38 an38 cd38 ct38),sl38⟩)(cF38:W.codeIn K cd38 "set_by_words" = true)(kF38:W.keepIn K (.ref f38)=true)(aF39:W.nsIn K mainGlobals "_law_cell_at" = some (some (.ref f39)))(lF39:K.lookup f39=some ⟨oc39,od39,.func (W.fnOf "_law_cell_at" "_law_cell_at" (Gp Zdf) (Gn Zdf) (Gc Zdf) .none kV39 dc39 pm39 an39 cd39 ct39),sl39⟩)(cF39:W.codeIn K cd39 "_law_cell_at" = true)(kF39:W.keepIn K (.ref f39)=true)(aF40:W.nsIn K mainGlobals "_law_mixed" = some (some (.ref f40)))(lF40:K.lookup f40=some ⟨oc40,od40,.func (W.fnOf "_law_mixed" "_law_mixed" (Gp sMi) (Gn sMi) (Gc sMi) .none kV40 dc40 pm40 an40 cd40 ct40),sl40⟩)(cF40:W.codeIn K cd40 "_law_mixed" = true)(kF40:W.keepIn K (.ref f40)=true)(aF41:W.nsIn K mainGlobals "law" = some (some (.ref f41)))(lF41:K.lookup f41=some ⟨oc41,od41,.func (W.fnOf "law" "law" (Gp Z4) (Gn Z4) (Gc Z4) .none kV41 dc41 pm41 an41 cd41 ct41),sl41⟩)(cF41:W.codeIn K cd41 "law" = true)(kF41:W.keepIn K (.ref f41)=true)(gN:W.nsIn K mainGlobals "NoWay" = some (some (.ref NW)))(gP:W.nsIn K mainGlobals "NoPlace" = some (some (.ref C2)))(gT:W.nsIn K mainGlobals "TooMany" = some (some (.ref TM)))(gW:W.nsIn K mainGlobals "NoWeb" = some (some (.ref no)))(xN:ExcC K NW)(xP:ExcC K C2)(xT:ExcC K TM)(xW:ExcC K no)(gMW:W.nsIn K mainGlobals "MOST_WAYS" = some (some (.int 300 tM)))(dTl:K.lookup dT=some ⟨dtc,dtd,.seq #[.bool false] dtn,dts⟩)(gUSED:W.nsIn K mainGlobals "USED" = some (some (.int (-1) u1)))(gFREE:W.nsIn K mainGlobals "FREE" = some (some (.int (-2) u2)))(gFIRST:W.nsIn K mainGlobals "FIRST" = some (some (.int (-3) u3)))(gSECOND:W.nsIn K mainGlobals "SECOND" = some (some (.int (-4) u4)))(gBARRED:W.nsIn K mainGlobals "BARRED" = some (some (.int (-5) u5)))(gDONE:W.nsIn K mainGlobals "DONE" = some (some (.int 0 u0)))(nrange:W.nsIn K mainGlobals "range" = some none)(nlist:W.nsIn K mainGlobals "list" = some none)(nlen:W.nsIn K mainGlobals "len" = some none)(nmin:W.nsIn K mainGlobals "min" = some none)(nmax:W.nsIn K mainGlobals "max" = some none)(nsorted:W.nsIn K mainGlobals "sorted" = some none)(nset:W.nsIn K mainGlobals "set" = some none)(nall:W.nsIn K mainGlobals "all" = some none)(nany:W.nsIn K mainGlobals "any" = some none)(nzip:W.nsIn K mainGlobals "zip" = some none)(nenumerate:W.nsIn K mainGlobals "enumerate" = some none)(ntuple:W.nsIn K mainGlobals "tuple" = some none)(nsum:W.nsIn K mainGlobals "sum" = some none)(ndivmod:W.nsIn K mainGlobals "divmod" = some none)
  : ∃fd:FuncData,(∀(s:Shared)(v:Value),BindsTo s fd ⟨[v],[]⟩ [("script", v)])/\∀base:Heap,K.In base->base.Ns mainGlobals mg->GG l.prog w K mg base CX0 8 fa fd ["script"] (ZbO K):=by
 have e:=hfa.symm.trans (W.mg_of X G aF41);cases e;have FGr:=GA (st:=sGr) lF1 cF1 kF1;have bGr:=FGr.binds (ps:=["rows", "columns"]) λ_ _ _ _ _ _ us hl=>by obtain ⟨_,_,rfl⟩:=WM hl;rfl
 have mGr:mg "grid" = some (.ref f1):=W.mg_of X G aF1;have FIp:=GA (st:=sIs) lF2 cF2 kF2;have bIp:=FIp.binds (ps:=["web", "place"]) λ_ _ _ _ _ _ us hl=>by obtain ⟨_,_,rfl⟩:=WM hl;rfl
 have mIp:mg "is_place" = some (.ref f2):=W.mg_of X G aF2;have FCp:=GA (st:=Zdb) lF3 cF3 kF3;have bCp:=FCp.binds (ps:=["web", "place"]) λ_ _ _ _ _ _ us hl=>by obtain ⟨_,_,rfl⟩:=WM hl;rfl
 have mCp:mg "check_place" = some (.ref f3):=W.mg_of X G aF3;have FBe:=GA (st:=Zbo) lF4 cF4 kF4;have bBe:=FBe.binds (ps:=["web", "place"]) λ_ _ _ _ _ _ us hl=>by obtain ⟨_,_,rfl⟩:=WM hl;rfl
 have mBe:mg "beside" = some (.ref f4):=W.mg_of X G aF4;have FLr:=GA (st:=sLr) lF5 cF5 kF5;have bLr:=FLr.binds (ps:=["web"]) λ_ _ _ _ _ _ us hl=>by obtain ⟨_,rfl⟩:=ZaC hl;rfl
 have mLr:mg "last_roads" = some (.ref f5):=W.mg_of X G aF5;have FSo:=GA (st:=sSo) lF6 cF6 kF6;have bSo:=FSo.binds (ps:=["web", "needed"]) λ_ _ _ _ _ _ us hl=>by obtain ⟨_,_,rfl⟩:=WM hl;rfl
 have mSo:mg "steps_of_marks" = some (.ref f6):=W.mg_of X G aF6;have FFm:=GA (st:=sFm) lF7 cF7 kF7;have bFm:=FFm.binds (ps:=["web", "needed"]) λ_ _ _ _ _ _ us hl=>by obtain ⟨_,_,rfl⟩:=WM hl;rfl
 have mFm:mg "first_marks" = some (.ref f7):=W.mg_of X G aF7;have FId:=GA (st:=sId) lF8 cF8 kF8;have bId:=FId.binds (ps:=["marks"]) λ_ _ _ _ _ _ us hl=>by obtain ⟨_,rfl⟩:=ZaC hl;rfl
 have mId:mg "is_done" = some (.ref f8):=W.mg_of X G aF8;have FIl:=GA (st:=sIl) lF9 cF9 kF9;have bIl:=FIl.binds (ps:=["mark"]) λ_ _ _ _ _ _ us hl=>by obtain ⟨_,rfl⟩:=ZaC hl;rfl
 have mIl:mg "is_loose" = some (.ref f9):=W.mg_of X G aF9;have FIf:=GA (st:=sIf) lF10 cF10 kF10;have bIf:=FIf.binds (ps:=["mark"]) λ_ _ _ _ _ _ us hl=>by obtain ⟨_,rfl⟩:=ZaC hl;rfl
 have mIf:mg "is_full" = some (.ref f10):=W.mg_of X G aF10;have FIm:=GA (st:=sIm) lF11 cF11 kF11;have bIm:=FIm.binds (ps:=["mark"]) λ_ _ _ _ _ _ us hl=>by obtain ⟨_,rfl⟩:=ZaC hl;rfl
 have mIm:mg "is_met" = some (.ref f11):=W.mg_of X G aF11;have FFe:=GA (st:=sFe) lF12 cF12 kF12;have bFe:=FFe.binds (ps:=["marks", "place", "ends"]) λ_ _ _ _ _ _ us hl=>by obtain ⟨_,_,_,rfl⟩:=XF hl;rfl
 have mFe:mg "far_end" = some (.ref f12):=W.mg_of X G aF12;have FWr:=GA (st:=sWr) lF13 cF13 kF13;have bWr:=FWr.binds (ps:=["marks", "road", "ends"]) λ_ _ _ _ _ _ us hl=>by obtain ⟨_,_,_,rfl⟩:=XF hl;rfl
 have mWr:mg "with_road" = some (.ref f13):=W.mg_of X G aF13;have FLb:=GA (st:=sLb) lF14 cF14 kF14;have bLb:=FLb.binds (ps:=["marks", "leaving", "needed"]) λ_ _ _ _ _ _ us hl=>by obtain ⟨_,_,_,rfl⟩:=XF hl;rfl
 have mLb:mg "left_behind" = some (.ref f14):=W.mg_of X G aF14;have FDe:=GA (st:=sDe) lF15 cF15 kF15;have bDe:=FDe.binds (ps:=["marks", "step", "ends", "chosen"]) λ_ _ _ _ _ _ us hl=>by obtain ⟨_,_,_,_,rfl⟩:=Zfu hl;rfl
 have mDe:mg "decided" = some (.ref f15):=W.mg_of X G aF15;have FNby:=GA (st:=Zbp) lF16 cF16 kF16;have bNby:=FNby.binds (ps:=["web"]) λ_ _ _ _ _ _ us hl=>by obtain ⟨_,rfl⟩:=ZaC hl;rfl
 have mNby:mg "numbers_by_step" = some (.ref f16):=W.mg_of X G aF16;have FSow:=GA (st:=Zb9) lF17 cF17 kF17;have bSow:=FSow.binds (ps:=["places", "closed"]) λ_ _ _ _ _ _ us hl=>by obtain ⟨_,_,rfl⟩:=WM hl;rfl
 have mSow:mg "steps_of_ways" = some (.ref f17):=W.mg_of X G aF17;have FGo:=GA (st:=Zca) lF18 cF18 kF18;have bGo:=FGo.binds (ps:=["web", "places", "closed"]) λ_ _ _ _ _ _ us hl=>by obtain ⟨_,_,_,rfl⟩:=XF hl;rfl
 have mGo:mg "goes_once" = some (.ref f18):=W.mg_of X G aF18;have FIcl:=GA (st:=Zdc) lF19 cF19 kF19;have bIcl:=FIcl.binds (ps:=["web", "places"]) λ_ _ _ _ _ _ us hl=>by obtain ⟨_,_,rfl⟩:=WM hl;rfl
 have mIcl:mg "is_closed" = some (.ref f19):=W.mg_of X G aF19;have FRo:=ZcT (st:=YN) lF20 cF20 kF20;have bRo:Binds K _ ["web", "places", "closed"] []:=λs us X' hl=>match us,hl with | [_,_,_],_=>W.binds_K (fd:=W.fnOf "roads_of" "roads_of" (Gp YN) (Gn YN) (Gc YN) (.ref dT) kV20 dc20 pm20 an20 cd20 ct20) X' rfl dTl rfl rfl rfl
 have mRo:mg "roads_of" = some (.ref f20):=W.mg_of X G aF20;have FCho:=GA (st:=Zcb) lF21 cF21 kF21;have bCho:=FCho.binds (ps:=["web", "roads"]) λ_ _ _ _ _ _ us hl=>by obtain ⟨_,_,rfl⟩:=WM hl;rfl
 have mCho:mg "chosen_roads" = some (.ref f21):=W.mg_of X G aF21;have FWal:=GA (st:=Zcc) lF22 cF22 kF22;have bWal:=FWal.binds (ps:=["web", "start", "roads"]) λ_ _ _ _ _ _ us hl=>by obtain ⟨_,_,_,rfl⟩:=XF hl;rfl
 have mWal:mg "walk" = some (.ref f22):=W.mg_of X G aF22;have FCof:=GA (st:=Zbq) lF23 cF23 kF23;have bCof:=FCof.binds (ps:=["web", "roads"]) λ_ _ _ _ _ _ us hl=>by obtain ⟨_,_,rfl⟩:=WM hl;rfl
 have mCof:mg "closed_of" = some (.ref f23):=W.mg_of X G aF23;have FRea:=GA (st:=Zcd) lF24 cF24 kF24;have bRea:=FRea.binds (ps:=["links", "start", "gone"]) λ_ _ _ _ _ _ us hl=>by obtain ⟨_,_,_,rfl⟩:=XF hl;rfl
 have mRea:mg "reached" = some (.ref f24):=W.mg_of X G aF24;have FWbt:=GA (st:=Zce) lF25 cF25 kF25;have bWbt:=FWbt.binds (ps:=["web", "one", "other"]) λ_ _ _ _ _ _ us hl=>by obtain ⟨_,_,_,rfl⟩:=XF hl;rfl
 have mWbt:mg "ways_between" = some (.ref f25):=W.mg_of X G aF25;have FTse:=GA (st:=Zdd) lF26 cF26 kF26;have bTse:=FTse.binds (ps:=["sets"]) λ_ _ _ _ _ _ us hl=>by obtain ⟨_,rfl⟩:=ZaC hl;rfl
 have mTse:mg "told_sets" = some (.ref f26):=W.mg_of X G aF26;have FEvc:=GA (st:=Zde) lF27 cF27 kF27;have bEvc:=FEvc.binds (ps:=["web"]) λ_ _ _ _ _ _ us hl=>by obtain ⟨_,rfl⟩:=ZaC hl;rfl
 have mEvc:mg "every_closed" = some (.ref f27):=W.mg_of X G aF27;have FBs:=GA (st:=sBs) lF28 cF28 kF28;have bBs:=FBs.binds (ps:=["numbers", "step", "ends"]) λ_ _ _ _ _ _ us hl=>by obtain ⟨_,_,_,rfl⟩:=XF hl;rfl
 have mBs:mg "behind_step" = some (.ref f28):=W.mg_of X G aF28;have FNb:=GA (st:=sNb) lF29 cF29 kF29;have bNb:=FNb.binds (ps:=["web", "ends", "needed", "i"]) λ_ _ _ _ _ _ us hl=>by obtain ⟨_,_,_,_,rfl⟩:=Zfu hl;rfl
 have mNb:mg "numbers_behind" = some (.ref f29):=W.mg_of X G aF29;have FRr:=GA (st:=sRr) lF30 cF30 kF30;have bRr:=FRr.binds (ps:=["columns"]) λ_ _ _ _ _ _ us hl=>by obtain ⟨_,rfl⟩:=ZaC hl;rfl
 have mRr:mg "roads_of_row" = some (.ref f30):=W.mg_of X G aF30;have FSg:=GA (st:=sSg) lF31 cF31 kF31;have bSg:=FSg.binds (ps:=["mark", "place"]) λ_ _ _ _ _ _ us hl=>by obtain ⟨_,_,rfl⟩:=WM hl;rfl
 have mSg:mg "sign_of" = some (.ref f31):=W.mg_of X G aF31;have FWn:=GA (st:=sWn) lF32 cF32 kF32;have bWn:=FWn.binds (ps:=["marks", "row", "columns"]) λ_ _ _ _ _ _ us hl=>by obtain ⟨_,_,_,rfl⟩:=XF hl;rfl
 have mWn:mg "word_in" = some (.ref f32):=W.mg_of X G aF32;have FWb:=GA (st:=sWb) lF33 cF33 kF33;have bWb:=FWb.binds (ps:=["rows", "columns", "i"]) λ_ _ _ _ _ _ us hl=>by obtain ⟨_,_,_,rfl⟩:=XF hl;rfl
 have mWb:mg "words_below" = some (.ref f33):=W.mg_of X G aF33;have FCw:=GA (st:=sCw) lF34 cF34 kF34;have bCw:=FCw.binds (ps:=["web", "needed"]) λ_ _ _ _ _ _ us hl=>by obtain ⟨_,_,rfl⟩:=WM hl;rfl
 have mCw:mg "count_by_words" = some (.ref f34):=W.mg_of X G aF34;have FCb:=GA (st:=sCb) lF35 cF35 kF35;have bCb:=FCb.binds (ps:=["rows", "columns"]) λ_ _ _ _ _ _ us hl=>by obtain ⟨_,_,rfl⟩:=WM hl;rfl
 have mCb:mg "closed_by_words" = some (.ref f35):=W.mg_of X G aF35;have FWf:=GA (st:=sWf) lF36 cF36 kF36;have bWf:=FWf.binds (ps:=["rows", "columns", "roads"]) λ_ _ _ _ _ _ us hl=>by obtain ⟨_,_,_,rfl⟩:=XF hl;rfl
 have mWf:mg "words_of" = some (.ref f36):=W.mg_of X G aF36;have FIc:=GA (st:=sIc) lF37 cF37 kF37;have bIc:=FIc.binds (ps:=["road", "words", "columns"]) λ_ _ _ _ _ _ us hl=>by obtain ⟨_,_,_,rfl⟩:=XF hl;rfl
 have mIc:mg "is_chosen" = some (.ref f37):=W.mg_of X G aF37;have FSw:=GA (st:=sSw) lF38 cF38 kF38;have bSw:=FSw.binds (ps:=["rows", "columns", "words"]) λ_ _ _ _ _ _ us hl=>by obtain ⟨_,_,_,rfl⟩:=XF hl;rfl
 have mSw:mg "set_by_words" = some (.ref f38):=W.mg_of X G aF38;have FCa:=GA (st:=Zdf) lF39 cF39 kF39;have bCa:=FCa.binds (ps:=["script", "k"]) λ_ _ _ _ _ _ us hl=>by obtain ⟨_,_,rfl⟩:=WM hl;rfl
 have mCa:mg "_law_cell_at" = some (.ref f39):=W.mg_of X G aF39;have FMi:=GA (st:=sMi) lF40 cF40 kF40;have bMi:=FMi.binds (ps:=["cell", "k"]) λ_ _ _ _ _ _ us hl=>by obtain ⟨_,_,rfl⟩:=WM hl;rfl
 have mMi:mg "_law_mixed" = some (.ref f40):=W.mg_of X G aF40;have FL:=GA (st:=Z4) lF41 cF41 kF41;refine ⟨W.fnOf "law" "law" (Gp Z4) (Gn Z4) (Gc Z4) .none kV41 dc41 pm41 an41 cd41 ct41,λs v=>.of_eq rfl,λbase _ _=>?_⟩;have GCa:=ZeV (P:=l.prog) (w:=w) (base:=base) FCa (W.mg_none_of X G nlen);have GMi:=Zgk (P:=l.prog) (w:=w) (base:=base) (mg:=mg) FMi;have GCp:=ZeF (P:=l.prog) (w:=w) (base:=base) FCp FIp bIp mIp (W.mg_of X G gP) xP;have GBe:=ZeG (P:=l.prog) (w:=w) (base:=base) FBe FCp bCp mCp GCp (W.mg_none_of X G nsorted);have GGo:=Zex (P:=l.prog) (w:=w) (base:=base) FGo FNby bNby mNby FSow bSow mSow (W.mg_none_of X G nenumerate) (W.mg_none_of X G nlist) (W.mg_none_of X G nzip) (W.mg_none_of X G nall) (W.mg_none_of X G nset) (W.mg_none_of X G nlen);have GIcl:=ZeB (P:=l.prog) (w:=w) (base:=base) FIcl FGo bGo mGo GGo (W.mg_none_of X G nlen) (W.mg_none_of X G nmin);have GRo:=ZeD (P:=l.prog) (w:=w) (base:=base) FRo FNby bNby mNby FSow bSow mSow (W.mg_none_of X G nenumerate) (W.mg_none_of X G nlist) (W.mg_none_of X G nzip) (W.mg_none_of X G nsorted);have GWal:=ZeI (P:=l.prog) (w:=w) (base:=base) FWal FCho bCho mCho FBe bBe mBe GBe (W.mg_none_of X G nenumerate) (W.mg_none_of X G nmin) (W.mg_none_of X G nmax);have GCof:=ZeL (P:=l.prog) (w:=w) (base:=base) FCof FCho bCho mCho FWal bWal mWal GWal FIcl bIcl mIcl GIcl FRo bRo mRo GRo (W.mg_none_of X G nenumerate) (W.mg_none_of X G nmin) (W.mg_of X G gN) xN;have GWbt:=ZeP (P:=l.prog) (w:=w) (base:=base) FWbt FBe bBe mBe GBe FRea bRea mRea (W.mg_of X G gMW) (W.mg_none_of X G nrange) (W.mg_none_of X G nlen);have GTse:=ZeR (P:=l.prog) (w:=w) (base:=base) FTse (W.mg_of X G gMW) (W.mg_of X G gT) xT (W.mg_none_of X G nlen) (W.mg_none_of X G nsorted);have GEvc:=ZeT (P:=l.prog) (w:=w) (base:=base) FEvc FWbt bWbt mWbt GWbt FTse bTse mTse GTse FRo bRo mRo GRo (W.mg_none_of X G nenumerate);have GB0:=Zdr (P:=l.prog) (w:=w) (base:=base) (mg:=mg) ["web", "place"] FBe;have GId:=ZfT (P:=l.prog) (w:=w) (base:=base) FId (W.mg_of X G gDONE);have GIl:=ZfV (P:=l.prog) (w:=w) (base:=base) FIl (W.mg_of X G gFIRST) (W.mg_of X G gSECOND);have GIf:=ZfW (P:=l.prog) (w:=w) (base:=base) FIf (W.mg_of X G gUSED) (W.mg_of X G gBARRED);have GIm:=ZfX (P:=l.prog) (w:=w) (base:=base) FIm (W.mg_of X G gFREE) (W.mg_of X G gBARRED);have GFe:=ZfY (P:=l.prog) (w:=w) (base:=base) FFe (W.mg_of X G gFREE);have GWr:=ZfZ (P:=l.prog) (w:=w) (base:=base) FWr FId bId mId GId FIf bIf mIf GIf FFe bFe mFe GFe FIl bIl mIl GIl (W.mg_of X G gDONE) (W.mg_of X G gUSED) (W.mg_none_of X G nlist) (W.mg_none_of X G nany) (W.mg_none_of X G ntuple);have GLb:=Zf1 (P:=l.prog) (w:=w) (base:=base) FLb FIl bIl mIl GIl FIm bIm mIm GIm (W.mg_of X G gFREE) (W.mg_none_of X G nlist) (W.mg_none_of X G nany) (W.mg_none_of X G nall) (W.mg_none_of X G ntuple);have GDe:=Zf3 (P:=l.prog) (w:=w) (base:=base) FDe FWr bWr mWr GWr FLb bLb mLb GLb;have GLr:=Zf4 (P:=l.prog) (w:=w) (base:=base) FLr (W.mg_none_of X G nenumerate);have GSo:=Zf6 (P:=l.prog) (w:=w) (base:=base) FSo FLr bLr mLr GLr (W.mg_none_of X G nenumerate);have GFm:=Zf8 (P:=l.prog) (w:=w) (base:=base) FFm FBe bBe mBe GB0 (W.mg_of X G gFREE) (W.mg_none_of X G nall) (W.mg_none_of X G ntuple);have GBs:=Zf9 (P:=l.prog) (w:=w) (base:=base) FBs FDe bDe mDe GDe;have GNb:=Zgd (P:=l.prog) (w:=w) (base:=base) FNb FFm bFm mFm GFm FSo bSo mSo GSo FBs bBs mBs GBs;have GGr:=Zdu (P:=l.prog) (w:=w) (base:=base) FGr (W.mg_of X G gW) xW (W.mg_none_of X G nrange);have GRr:=Zgf (P:=l.prog) (w:=w) (base:=base) (mg:=mg) FRr;have GSg:=Zgg (P:=l.prog) (w:=w) (base:=base) FSg (W.mg_of X G gFREE);have GWn:=Zgi (P:=l.prog) (w:=w) (base:=base) FWn FSg bSg mSg GSg (W.mg_none_of X G nrange);have GWb:=Zgj (P:=l.prog) (w:=w) (base:=base) FWb FGr bGr mGr GGr FNb bNb mNb GNb FRr bRr mRr GRr FWn bWn mWn GWn (W.mg_of X G gW) xW (W.mg_none_of X G nsorted);have GCw:=Zgl (P:=l.prog) (w:=w) (base:=base) FCw FNb bNb mNb GNb FId bId mId GId (W.mg_none_of X G nlen) (W.mg_none_of X G nsum);have GCb:=Zgm (P:=l.prog) (w:=w) (base:=base) FCb FGr bGr mGr GGr FCw bCw mCw GCw;have GWf:=Zgp (P:=l.prog) (w:=w) (base:=base) FWf FGr bGr mGr GGr FCof bCof mCof GCof FFm bFm mFm GFm FSo bSo mSo GSo FDe bDe mDe GDe FRr bRr mRr GRr FWn bWn mWn GWn (W.mg_none_of X G nenumerate) (W.mg_none_of X G ndivmod);have GIc:=Zgq (P:=l.prog) (w:=w) (base:=base) FIc (W.mg_none_of X G ndivmod) (W.mg_none_of X G nlen);have GSw:=Zgr (P:=l.prog) (w:=w) (base:=base) FSw FGr bGr mGr GGr FIc bIc mIc GIc FWf bWf mWf GWf (W.mg_none_of X G nenumerate) (W.mg_none_of X G nlen) (W.mg_of X G gN) xN;exact Ze8 FL FCa bCa mCa GCa FMi bMi mMi GMi FGr bGr mGr GGr FEvc bEvc mEvc GEvc FCb bCb mCb GCb FWb bWb mWb GWb FWf bWf mWf GWf FSw bSw mSw GSw (W.mg_none_of X G nlist) (W.mg_none_of X G nlen) (W.mg_none_of X G nrange) (W.mg_none_of X G nenumerate)
theorem walk {l:W.OpenLaw}{q:Program}{loose:List Str}{XP:(Str->Option Value)->Heap->Prop}{YP:World->Heap->Prop}{d:DefRec}{K:Params->W.Frag}(hn:l.most=some 63)(hdf:d.params.defaults=[])(hY:∀(w:World)(h:Heap),YP w h->(K w.params).In h)(F:∀(w:World)(mg:Str->Option Value)(fa:Addr)(h:Heap),(K w.params).In h->h.Ns mainGlobals mg->mg d.name=some (.ref fa) ->
   ∃fd:FuncData,(∀(s:Shared)(u:Value),BindsTo s fd ⟨[u],[]⟩ [("script", u)])/\∀base:Heap,(K w.params).In base->base.Ns mainGlobals mg->GG l.prog w (K w.params) mg base CX0 8 fa fd ["script"] (ZbO (K w.params))) :
  W.WalkO q loose XP YP l.row.toRowW d [] (λf vs=>PySem.call f vs):=
 L2.walk_of (n:=63) (k:=8) (x := "script") (CX:=λ_=>CX0) (sp:=λw=>ZbO (K w.params)) hn (by decide) hdf ⟨rfl,by decide,by decide⟩ hY F (λ_ _ a ns hl _ hS=>⟨a,ns,rfl,hS,hl,λ_=>rfl⟩) λ_ _ _ _ _ z=>z
end M
open PySem PySem.W PyProof.Rows
local macro_rules
 | `(tactic| o_head $H)=>`(tactic| (
  refine @holds_open _ M.seenP M.loosely M.hookX (XL M.seenP []) _ (Hook.obs $H) (Hook.val $H) (Hook.says $H) _ _ 4976
   (@M.left_boot M.rowP M.seenP M.loosely M.hookX _ (Hook.obs $H) (Hook.val $H) 4976 ?b1 ?b2 ?b3 M.topC M.topA ?hl)
   (Hook.of $H) (Hook.keeps $H) ?h1 XL.keeps (by rfl) (by rfl) (by rfl) ?h5 ?h6 ?h7 ?h8 ?h9 ?hw ?hc
  (case h1=>exact λs e=>xl_of s (Bool.and_eq_true_iff.mp e).1)
  (case h5=>exact λs e=>recFacts_of (Bool.and_eq_true_iff.mp e).2)
  (case h6=>rfl)
  (case h7=>first | assumption | decide +kernel)
  (case h8=>decide +kernel)
  (case h9=>exact ⟨rfl,rfl,rfl,rfl,rfl,by decide +kernel⟩)
  (case b1=>kernel_rfl)
  (case b2=>decide)
  (case b3=>(intro s;kernel_rfl))
  (case hl=>(intro w os;unfold M.topOf;rw [W.Fast.te14082659384304107361,W.Fast.te14364793385576792824];kernel_rfl))))
set_option maxRecDepth 100000 in
set_option maxHeartbeats 0 in
theorem PySem.Challenge.cw_onceways_k72_whole_each_by_its_words_holds : PySem.Challenge.rw_onceways_k72_whole_each_by_its_words.Holds := by
 w_on;o_law;k_head;(case hw=>w_witness2)
 k_fill
 refine M.walk (l:=PySem.Challenge.rw_onceways_k72_whole_each_by_its_words) rfl rfl (λw h Y=>W.kIn_of Y) ?F
 case F=>
  intro w mg fa h KX G hmg
  refine' M.all_mk KX G hmg ?aF1 ?lF1 ?cF1 ?kF1 ?aF2 ?lF2 ?cF2 ?kF2 ?aF3 ?lF3 ?cF3 ?kF3 ?aF4 ?lF4 ?cF4 ?kF4 ?aF5 ?lF5 ?cF5 ?kF5 ?aF6 ?lF6 ?cF6 ?kF6 ?aF7 ?lF7 ?cF7 ?kF7 ?aF8 ?lF8 ?cF8 ?kF8 ?aF9 ?lF9 ?cF9 ?kF9 ?aF10 ?lF10 ?cF10 ?kF10 ?aF11 ?lF11 ?cF11 ?kF11 ?aF12 ?lF12 ?cF12 ?kF12 ?aF13 ?lF13 ?cF13 ?kF13 ?aF14 ?lF14 ?cF14 ?kF14 ?aF15 ?lF15 ?cF15 ?kF15 ?aF16 ?lF16 ?cF16 ?kF16 ?aF17 ?lF17 ?cF17 ?kF17 ?aF18 ?lF18 ?cF18 ?kF18 ?aF19 ?lF19 ?cF19 ?kF19 ?aF20 ?lF20 ?cF20 ?kF20 ?aF21 ?lF21 ?cF21 ?kF21 ?aF22 ?lF22 ?cF22 ?kF22 ?aF23 ?lF23 ?cF23 ?kF23 ?aF24 ?lF24 ?cF24 ?kF24 ?aF25 ?lF25 ?cF25 ?kF25 ?aF26 ?lF26 ?cF26 ?kF26 ?aF27 ?lF27 ?cF27 ?kF27 ?aF28 ?lF28 ?cF28 ?kF28 ?aF29 ?lF29 ?cF29 ?kF29 ?aF30 ?lF30 ?cF30 ?kF30 ?aF31 ?lF31 ?cF31 ?kF31 ?aF32 ?lF32 ?cF32 ?kF32 ?aF33 ?lF33 ?cF33 ?kF33 ?aF34 ?lF34 ?cF34 ?kF34 ?aF35 ?lF35 ?cF35 ?kF35 ?aF36 ?lF36 ?cF36 ?kF36 ?aF37 ?lF37 ?cF37 ?kF37 ?aF38 ?lF38 ?cF38 ?kF38 ?aF39 ?lF39 ?cF39 ?kF39 ?aF40 ?lF40 ?cF40 ?kF40 ?aF41 ?lF41 ?cF41 ?kF41 ?gN ?gP ?gT ?gW ?xN ?xP ?xT ?xW ?gMW ?dTl ?gUSED ?gFREE ?gFIRST ?gSECOND ?gBARRED ?gDONE ?nrange ?nlist ?nlen ?nmin ?nmax ?nsorted ?nset ?nall ?nany ?nzip ?nenumerate ?ntuple ?nsum ?ndivmod
  (case aF1=>k_is)
  (case lF1=>k_is)
  (case cF1=>k_is)
  (case kF1=>k_is)
  (case aF2=>k_is)
  (case lF2=>k_is)
  (case cF2=>k_is)
  (case kF2=>k_is)
  (case aF3=>k_is)
  (case lF3=>k_is)
  (case cF3=>k_is)
  (case kF3=>k_is)
  (case aF4=>k_is)
  (case lF4=>k_is)
  (case cF4=>k_is)
  (case kF4=>k_is)
  (case aF5=>k_is)
  (case lF5=>k_is)
  (case cF5=>k_is)
  (case kF5=>k_is)
  (case aF6=>k_is)
  (case lF6=>k_is)
  (case cF6=>k_is)
  (case kF6=>k_is)
  (case aF7=>k_is)
  (case lF7=>k_is)
  (case cF7=>k_is)
  (case kF7=>k_is)
  (case aF8=>k_is)
  (case lF8=>k_is)
  (case cF8=>k_is)
  (case kF8=>k_is)
  (case aF9=>k_is)
  (case lF9=>k_is)
  (case cF9=>k_is)
  (case kF9=>k_is)
  (case aF10=>k_is)
  (case lF10=>k_is)
  (case cF10=>k_is)
  (case kF10=>k_is)
  (case aF11=>k_is)
  (case lF11=>k_is)
  (case cF11=>k_is)
  (case kF11=>k_is)
  (case aF12=>k_is)
  (case lF12=>k_is)
  (case cF12=>k_is)
  (case kF12=>k_is)
  (case aF13=>k_is)
  (case lF13=>k_is)
  (case cF13=>k_is)
  (case kF13=>k_is)
  (case aF14=>k_is)
  (case lF14=>k_is)
  (case cF14=>k_is)
  (case kF14=>k_is)
  (case aF15=>k_is)
  (case lF15=>k_is)
  (case cF15=>k_is)
  (case kF15=>k_is)
  (case aF16=>k_is)
  (case lF16=>k_is)
  (case cF16=>k_is)
  (case kF16=>k_is)
  (case aF17=>k_is)
  (case lF17=>k_is)
  (case cF17=>k_is)
  (case kF17=>k_is)
  (case aF18=>k_is)
  (case lF18=>k_is)
  (case cF18=>k_is)
  (case kF18=>k_is)
  (case aF19=>k_is)
  (case lF19=>k_is)
  (case cF19=>k_is)
  (case kF19=>k_is)
  (case aF20=>k_is)
  (case lF20=>k_is)
  (case cF20=>k_is)
  (case kF20=>k_is)
  (case aF21=>k_is)
  (case lF21=>k_is)
  (case cF21=>k_is)
  (case kF21=>k_is)
  (case aF22=>k_is)
  (case lF22=>k_is)
  (case cF22=>k_is)
  (case kF22=>k_is)
  (case aF23=>k_is)
  (case lF23=>k_is)
  (case cF23=>k_is)
  (case kF23=>k_is)
  (case aF24=>k_is)
  (case lF24=>k_is)
  (case cF24=>k_is)
  (case kF24=>k_is)
  (case aF25=>k_is)
  (case lF25=>k_is)
  (case cF25=>k_is)
  (case kF25=>k_is)
  (case aF26=>k_is)
  (case lF26=>k_is)
  (case cF26=>k_is)
  (case kF26=>k_is)
  (case aF27=>k_is)
  (case lF27=>k_is)
  (case cF27=>k_is)
  (case kF27=>k_is)
  (case aF28=>k_is)
  (case lF28=>k_is)
  (case cF28=>k_is)
  (case kF28=>k_is)
  (case aF29=>k_is)
  (case lF29=>k_is)
  (case cF29=>k_is)
  (case kF29=>k_is)
  (case aF30=>k_is)
  (case lF30=>k_is)
  (case cF30=>k_is)
  (case kF30=>k_is)
  (case aF31=>k_is)
  (case lF31=>k_is)
  (case cF31=>k_is)
  (case kF31=>k_is)
  (case aF32=>k_is)
  (case lF32=>k_is)
  (case cF32=>k_is)
  (case kF32=>k_is)
  (case aF33=>k_is)
  (case lF33=>k_is)
  (case cF33=>k_is)
  (case kF33=>k_is)
  (case aF34=>k_is)
  (case lF34=>k_is)
  (case cF34=>k_is)
  (case kF34=>k_is)
  (case aF35=>k_is)
  (case lF35=>k_is)
  (case cF35=>k_is)
  (case kF35=>k_is)
  (case aF36=>k_is)
  (case lF36=>k_is)
  (case cF36=>k_is)
  (case kF36=>k_is)
  (case aF37=>k_is)
  (case lF37=>k_is)
  (case cF37=>k_is)
  (case kF37=>k_is)
  (case aF38=>k_is)
  (case lF38=>k_is)
  (case cF38=>k_is)
  (case kF38=>k_is)
  (case aF39=>k_is)
  (case lF39=>k_is)
  (case cF39=>k_is)
  (case kF39=>k_is)
  (case aF40=>k_is)
  (case lF40=>k_is)
  (case cF40=>k_is)
  (case kF40=>k_is)
  (case aF41=>k_is)
  (case lF41=>k_is)
  (case cF41=>k_is)
  (case kF41=>k_is)
  (case gN=>k_is)
  (case gP=>k_is)
  (case gT=>k_is)
  (case gW=>k_is)
  (case xN=>(unfold L2.ExcC;k_exc))
  (case xP=>(unfold L2.ExcC;k_exc))
  (case xT=>(unfold L2.ExcC;k_exc))
  (case xW=>(unfold L2.ExcC;k_exc))
  (case gMW=>k_is)
  (case dTl=>k_is)
  (case gUSED=>k_is)
  (case gFREE=>k_is)
  (case gFIRST=>k_is)
  (case gSECOND=>k_is)
  (case gBARRED=>k_is)
  (case gDONE=>k_is)
  (case nrange=>k_is)
  (case nlist=>k_is)
  (case nlen=>k_is)
  (case nmin=>k_is)
  (case nmax=>k_is)
  (case nsorted=>k_is)
  (case nset=>k_is)
  (case nall=>k_is)
  (case nany=>k_is)
  (case nzip=>k_is)
  (case nenumerate=>k_is)
  (case ntuple=>k_is)
  (case nsum=>k_is)
  (case ndivmod=>k_is)
#print axioms PySem.Challenge.cw_onceways_k72_whole_each_by_its_words_holds
