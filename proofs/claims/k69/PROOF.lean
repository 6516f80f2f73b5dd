import PyProof.Rows.All
import Wide.All
import OpenK.AllK
import Wide.FinOn
import Lean
import PyProof.EqAt
import PyProof.EqKinds
import PyProof.TupleCall
import PyProof.SumAny
import PySem.Challenge.RW_onceways_k69_words_below_a_row
set_option Elab.async false
set_option linter.all false
set_option maxRecDepth 100000
set_option maxHeartbeats 4000000
namespace L2
open PySem PySem.Spec PyProof.Rows
abbrev Key:=Sum Int Str
def Uz:Key->Value->Bool
 | .inl k,v=>Value.isInt k v
 | .inr x,v=>Value.isStrOf x v
def Zel (w:World):Key->Int
 | .inl k=>hashInt k
 | .inr x=>hashStr w x
theorem GC:∀{k:Key}{v:Value},Uz k v=true->(∃i t,k=Sum.inl i/\v=Value.int i t)\/(∃x t,k=Sum.inr x/\v=Value.str x t)
 | .inl i,v,h=>by
  obtain ⟨t,e⟩:=Value.isInt_shape (k:=i) (v:=v) h;exact .inl ⟨i,t,rfl,e⟩
 | .inr x,v,h=>by
  obtain ⟨t,e⟩:=Value.isStrOf_shape (x:=x) (v:=v) h;exact .inr ⟨x,t,rfl,e⟩
theorem WY (i:Int)(t:Tok):Uz (.inl i) (.int i t)=true:=by simp [Uz,Value.isInt]
theorem WZ (x:Str)(t:Tok):Uz (.inr x) (.str x t)=true:=by simp [Uz,Value.isStrOf]
theorem Zbf (a b:Int):decide ((Sum.inl a:Key)=Sum.inl b)=(a == b):=by
 by_cases e:a=b
 ·subst e;simp
 ·have h:¬ (Sum.inl a:Key)=Sum.inl b:=λq=>e (Sum.inl.inj q);rw [decide_eq_false h];exact (beq_eq_false_iff_ne.mpr e).symm
theorem Zbg (a b:Str):decide ((Sum.inr a:Key)=Sum.inr b)=decide (a=b):=by
 by_cases e:a=b
 ·subst e;simp
 ·have h:¬ (Sum.inr a:Key)=Sum.inr b:=λq=>e (Sum.inr.inj q);rw [decide_eq_false h,decide_eq_false e]
theorem Zbh (a:Int)(b:Str):decide ((Sum.inl a:Key)=Sum.inr b)=false:=decide_eq_false (λq=>nomatch q)
theorem Zbi (a:Str)(b:Int):decide ((Sum.inr a:Key)=Sum.inl b)=false:=decide_eq_false (λq=>nomatch q)
def Gz (prog:Program)(w:World):PySem.KeyKind prog w Key where
 is:=Uz
 hash:=Zel w
 inj:=λv a b ha hb=>by
  rcases GC ha with ⟨i,t,rfl,rfl⟩ | ⟨x,t,rfl,rfl⟩
  ·rcases GC hb with ⟨j,u,rfl,e⟩ | ⟨y,u,rfl,e⟩
   ·injection e with e1 _;rw [e1]
   ·exact nomatch e
  ·rcases GC hb with ⟨j,u,rfl,e⟩ | ⟨y,u,rfl,e⟩
   ·exact nomatch e
   ·injection e with e1 _;rw [e1]
 byValue:=λk v h=>by
  rcases GC h with ⟨i,t,rfl,rfl⟩ | ⟨x,t,rfl,rfl⟩ <;> rfl
 pyHash:=λhv h=>by
  rcases GC hv with ⟨i,t,rfl,rfl⟩ | ⟨x,t,rfl,rfl⟩
  ·exact wpAny_pyHash_int h
  ·exact wpAny_pyHash_str h
 eqBool:=λhu hv h=>by
  rcases GC hu with ⟨i,t,rfl,rfl⟩ | ⟨x,t,rfl,rfl⟩
  ·rcases GC hv with ⟨j,u,rfl,rfl⟩ | ⟨y,u,rfl,rfl⟩
   ·rw [Zbf] at h;exact wpAny_eqBool_int h
   ·rw [Zbh] at h;exact SeqAt.EqAt.int_str i t y u _ _ _ _ h
  ·rcases GC hv with ⟨j,u,rfl,rfl⟩ | ⟨y,u,rfl,rfl⟩
   ·rw [Zbi] at h;exact SeqAt.EqAt.str_int x t j u _ _ _ _ h
   ·rw [Zbg] at h;exact wpAny_eqBool_str h
 «strs»:=λk x t v h=>by
  rcases GC h with ⟨i,u,rfl,e⟩ | ⟨y,u,rfl,e⟩
  ·exact nomatch e
  ·injection e with e1 _
   subst e1;cases v <;> rfl
theorem Vj (prog:Program)(w:World)(i:Int)(t:Tok):(Gz prog w).is (.inl i) (.int i t)=true:=WY i t
theorem Vk (prog:Program)(w:World)(x:Str)(t:Tok):(Gz prog w).is (.inr x) (.str x t)=true:=WZ x t
end L2
namespace L2
open PySem PySem.Spec PyProof.Rows
inductive V where
 | non | bl (b:Bool) | int (i:Int) | str (x:Str) | byt (b:Array UInt8) | flt (b:UInt64) | ref (a:Addr) | ty (n:String)
 deriving DecidableEq
def RelV:V->Value->Prop
 | .non,u=>u=Value.none
 | .bl b,u=>u=Value.bool b
 | .int i,u=>∃t,u=Value.int i t
 | .str x,u=>∃t,u=Value.str x t
 | .byt b,u=>∃t,u=Value.bytes b t
 | .flt b,u=>∃t,u=Value.float b t
 | .ref a,u=>u=Value.ref a
 | .ty n,u=>u=Value.type n
abbrev Vals:List V->List Value->Prop:=Paired RelV
theorem Vals.length {xs:List V}{us:List Value}(r:Vals xs us):xs.length=us.length:=Paired.length r
theorem Vals.get:∀{xs:List V}{us:List Value}{i:Nat}{x:V},Vals xs us->xs[i]?=some x->∃u,us[i]?=some u/\RelV x u
 | _,_,_,_,.nil,e=>by simp at e
 | _,_,0,_,.cons r _,e=>by simp at e;subst e;exact ⟨_,rfl,r⟩
 | _,_,i+1,x,.cons _ t,e=>by
  obtain ⟨u,h1,h2⟩:=Vals.get (i:=i) (x:=x) t (by simpa using e);exact ⟨u,by simpa using h1,h2⟩
theorem Vals.set {x:V}{u:Value}(r:RelV x u):∀{xs:List V}{us:List Value}(i:Nat),Vals xs us->Vals (xs.set i x) (us.set i u)
 | _,_,_,.nil=>.nil
 | _,_,0,.cons _ t=>.cons r t
 | _,_,i+1,.cons q t=>.cons q (Vals.set r i t)
theorem Vals.append:∀{xs ys:List V}{us ws:List Value},Vals xs us->Vals ys ws->Vals (xs++ys) (us++ws)
 | _,_,_,_,.nil,s=>s
 | _,_,_,_,.cons r t,s=>.cons r (Vals.append t s)
theorem Vals.take:∀{xs:List V}{us:List Value}(n:Nat),Vals xs us->Vals (xs.take n) (us.take n)
 | _,_,0,_=>.nil
 | _,_,_+1,.nil=>.nil
 | _,_,n+1,.cons r t=>.cons r (Vals.take n t)
theorem Vals.drop:∀{xs:List V}{us:List Value}(n:Nat),Vals xs us->Vals (xs.drop n) (us.drop n)
 | _,_,0,r=>r
 | _,_,_+1,.nil=>.nil
 | _,_,n+1,.cons _ t=>Vals.drop n t
def RelO:Option V->Option Value->Prop
 | some v,some u=>RelV v u
 | none,none=>True
 | _,_=>False
def KV {κ:Type}:List (κ×V)->List (κ×Value)->Prop:=Paired λ(p:κ×V) (q:κ×Value)=>p.1=q.1/\RelV p.2 q.2
def kV:Key->V
 | .inl i=>.int i
 | .inr x=>.str x
inductive HO where
  | lst (xs:List V)
  | tup (xs:List V)
  | dK (kvs:List (Key×V)) | dT (kvs:List (List Key×V))
  | set (S:Int->Bool) (n:Nat)
  | ins (C dx:Addr) (fs:List (Str×V))
  | own (x:Addr)
  | xd (fs:List (Str×V))
  | met (f x:Addr)
  | rng (lo hi:Int)
  | frz (o:Obj) (u:HO)
  | tbl (ps:Array Value)
  | ext (φ:Heap->Prop)
abbrev Hp:=Addr->Option HO
def upd (H:Hp)(a:Addr)(o:HO):Hp:=λb=>if b=a then some o else H b
theorem Gb {H:Hp}{a:Addr}{o:HO}:upd H a o a=some o:=by unfold upd;rw [if_pos rfl]
theorem Go {H:Hp}{a b:Addr}{o:HO}(h:b≠a):upd H a o b=H b:=by unfold upd;rw [if_neg h]
theorem Ox {H:Hp}{a:Addr}{o u:HO}:upd (upd H a o) a u=upd H a u:=by
 funext b;unfold upd;split <;> rfl
theorem GV {H:Hp}{a b:Addr}{o u:HO}(h:H a=some o)(h':H b=some u)(d:o≠u):a≠b:=by
 intro e;subst e;rw [h] at h';exact d (Option.some.inj h')
theorem Gh {H:Hp}{a b:Addr}{o:HO}(h:H a=some o)(h':H b=none):a≠b:=by
 intro e;subst e;rw [h] at h';cases h'
section
variable (P:Program)(w:World)
def ObjOk (H:Hp)(h:Heap)(a:Addr):HO->Prop
 | .lst xs=>xs.length<=sizeLine/\∃(its:List Value)(n:Nat),Vals xs its/\h.get? a=some { cls:=.type "list", data:=.seq its.toArray n }
 | .tup xs=>xs.length<=sizeLine/\∃its:List Value,Vals xs its/\IsTup h a its.toArray
 | .dK kvs=>kvs.length<=sizeLine/\(a == sysModules)=false/\∃vs,KV kvs vs/\h.DictOf (Gz P w) a vs
 | .dT kvs=>kvs.length<=sizeLine/\(a == sysModules)=false/\∃xs:List (List Key×Addr×Value),
   Paired (λ(p:List Key×V) (q:List Key×Addr×Value)=>p.1=q.1/\H q.2.1=some (.tup (p.1.map kV))/\RelV p.2 q.2.2) kvs xs /\
   ∃o es ep,h.get? a=some o/\o.ExactDict/\o.data=.dict es ep/\es.toList=xs.map (entryOfKey (tupleKind (Gz P w)))/\(xs.map (·.1)).Nodup
 | .set S n=>h.SetOf (intKind P w) a S n
 | .ins C dx fs=>H dx=some (.own a)/\fs.length<=1000/\dx≠a/\h.get? a=some (W.instObj C dx) /\
   ∃mA,h.Ns1 dx mA/\(∀f,RelO (fs.lookup f) (mA f))/\PySem.Within mA (fs.map (·.1))
 | .own _=>∃o,h.get? a=some o
 | .xd fs=>∃mA,h.Ns1 a mA/\∀f,RelO (fs.lookup f) (mA f)
 | .rng lo hi=>∃t u v,h.get? a=some { cls:=.type "range", data:=.fields #[.int lo t,.int hi u,.int 1 v] }
 | .frz o u=>h.get? a=some o/\ObjOk H h a u
 | .tbl ps=>h.get? a=some { cls:=.none,data:=.fields ps }
 | .met f x=>h.get? a=some (W.methodObj (.ref f) (.ref x))
 | .ext φ=>φ h/\(∃o,h.get? a=some o)/\∀h1 h2:Heap,φ h1->(∀o,h1.get? a=some o->h2.get? a=some o)->φ h2
def HOk (H:Hp)(h:Heap):Prop:=∀a o,H a=some o->ObjOk P w H h a o
end
section
variable {P:Program}{w:World}{H H':Hp}{h h':Heap}{a:Addr}{o:HO}
theorem ObjOk.lt (x:ObjOk P w H h a o):a<h.objs.size:=by
 cases o with
 | lst xs=>obtain ⟨_,_,_,_,e⟩:=x;exact Heap.lt_size e
 | tup xs=>obtain ⟨_,_,_,p⟩:=x;exact p.lt
 | dK kvs=>obtain ⟨_,_,_,_,o,_,_,e,_⟩:=x;exact Heap.lt_size e
 | dT kvs=>obtain ⟨_,_,_,_,o,_,_,e,_⟩:=x;exact Heap.lt_size e
 | set S n=>obtain ⟨o,_,_,_,e,_⟩:=x;exact Heap.lt_size e
 | ins C dx fs=>obtain ⟨_,_,_,e,_⟩:=x;exact Heap.lt_size e
 | own y=>obtain ⟨_,e⟩:=x;exact Heap.lt_size e
 | xd fs=>obtain ⟨_,⟨_,_,_,e,_⟩,_⟩:=x;exact Heap.lt_size e
 | rng lo hi=>obtain ⟨_,_,_,e⟩:=x;exact Heap.lt_size e
 | frz ob u=>obtain ⟨e,_⟩:=x;exact Heap.lt_size e
 | tbl ps=>exact Heap.lt_size (show h.get? a=some _ from x)
 | met f y=>exact Heap.lt_size (show h.get? a=some _ from x)
 | ext φ=>obtain ⟨_,⟨_,e⟩,_⟩:=x;exact Heap.lt_size e
theorem Paired.mapP {α β:Type}{F G:α->β->Prop}:∀{l₁:List α}{l₂:List β},Paired F l₁ l₂->(∀a b,F a b->G a b)->Paired G l₁ l₂
 | _,_,.nil,_=>.nil
 | _,_,.cons r t,f=>.cons (f _ _ r) (Paired.mapP t f)
theorem ObjOk.stay (x:ObjOk P w H h a o)(k:∀b u,(b=a\/H b=some (.own a))->h.get? b=some u->h'.get? b=some u)(ho:∀b,H b=some (.own a)->H' b=some (.own a))(ht:∀b xs,H b=some (.tup xs)->H' b=some (.tup xs)):ObjOk P w H' h' a o:=by
 induction o with
 | lst xs=>obtain ⟨z,its,n,r,e⟩:=x;exact ⟨z,its,n,r,k _ _ (.inl rfl) e⟩
 | tup xs=>obtain ⟨z,its,r,ob,e,c⟩:=x;exact ⟨z,its,r,ob,k _ _ (.inl rfl) e,c⟩
 | dK kvs=>obtain ⟨z,y,vs,r,ob,es,ep,e,c⟩:=x;exact ⟨z,y,vs,r,ob,es,ep,k _ _ (.inl rfl) e,c⟩
 | dT kvs=>
  obtain ⟨z,y,xs,r,ob,es,ep,e,c⟩:=x;exact ⟨z,y,xs,Paired.mapP r λp q z=>⟨z.1,ht _ _ z.2.1,z.2.2⟩,ob,es,ep,k _ _ (.inl rfl) e,c⟩
 | set S n=>obtain ⟨ob,es,ep,t,e,c⟩:=x;exact ⟨ob,es,ep,t,k _ _ (.inl rfl) e,c⟩
 | ins C dx fs=>
  obtain ⟨d,z,ne,e,mA,⟨od,es,ep,e2,c⟩,r⟩:=x;exact ⟨ho _ d,z,ne,k _ _ (.inl rfl) e,mA,⟨od,es,ep,k _ _ (.inr d) e2,c⟩,r⟩
 | own y=>obtain ⟨ob,e⟩:=x;exact ⟨ob,k _ _ (.inl rfl) e⟩
 | xd fs=>obtain ⟨mA,⟨od,es,ep,e,c⟩,r⟩:=x;exact ⟨mA,⟨od,es,ep,k _ _ (.inl rfl) e,c⟩,r⟩
 | rng lo hi=>obtain ⟨t,u,v,e⟩:=x;exact ⟨t,u,v,k _ _ (.inl rfl) e⟩
 | frz ob u ih=>obtain ⟨e,q⟩:=x;exact ⟨k _ _ (.inl rfl) e,ih q⟩
 | tbl ps=>
  have e:h.get? a=some { cls:=.none,data:=.fields ps }:=x;show h'.get? a=some { cls:=.none,data:=.fields ps };exact k a _ (.inl rfl) e
 | met f y=>
  have e:h.get? a=some (W.methodObj (.ref f) (.ref y)):=x;show h'.get? a=some (W.methodObj (.ref f) (.ref y));exact k a _ (.inl rfl) e
 | ext φ=>obtain ⟨p,⟨o,e⟩,st⟩:=x;exact ⟨st _ _ p λo q=>k _ _ (.inl rfl) q,⟨o,k _ _ (.inl rfl) e⟩,st⟩
theorem HOk.lt (x:HOk P w H h)(e:H a=some o):a<h.objs.size:=(x a o e).lt
theorem HOk.fresh (x:HOk P w H h)(e:h.objs.size<=a):H a=none:=by
 cases q:H a with
 | none=>rfl
 | some u=>exact absurd (Nat.lt_of_lt_of_le (x.lt q) e) (Nat.lt_irrefl _)
theorem HOk.kept (x:HOk P w H h)(k:∀b u,h.get? b=some u->h'.get? b=some u):HOk P w H h':=λa o e=>
 (x a o e).stay (λb u _ q=>k b u q) (λ_ q=>q) λ_ _ q=>q
theorem HOk.laid (x:HOk P w H h)(k:∀b u,h.get? b=some u->h'.get? b=some u)(hp:h.objs.size<=a)(new:ObjOk P w (upd H a o) h' a o):HOk P w (upd H a o) h':=λb u e=>by
 have hn:=x.fresh hp;by_cases hb:b=a
 ·subst hb;rw [Gb] at e;cases e;exact new
 ·rw [Go hb] at e;exact (x b u e).stay (λc v _ q=>k c v q) (λc q=>by rw [Go (Gh q hn)];exact q) λc xs q=>by rw [Go (Gh q hn)];exact q
end
def Rd (H:Hp)(a:Addr)(u:HO):Prop:=H a=some u\/∃o,H a=some (.frz o u)
theorem Rd.ok {P:Program}{w:World}{H:Hp}{h:Heap}{a:Addr}{u:HO}(r:Rd H a u)(x:HOk P w H h):ObjOk P w H h a u:=by
 rcases r with r | ⟨o,r⟩
 ·exact x a u r
 ·obtain ⟨_,q⟩:=x a _ r;exact q
def Mut:Option HO->Prop
 | some (.lst _)=>True
 | some (.dK _)=>True
 | some (.dT _)=>True
 | some (.set _ _)=>True
 | some (.ins _ _ _)=>True
 | some (.ext _)=>True
 | _=>False
section
variable {P:Program}{w:World}{H:Hp}{h h':Heap}{x e:Addr}{o':HO}
theorem HOk.write (ok:HOk P w H h)(mu:Mut (H x))(he:e=x\/H e=some (.own x))(k:∀b u,b≠e->h.get? b=some u->h'.get? b=some u)(heo:∃u,h'.get? e=some u)(new:ObjOk P w (upd H x o') h' x o'):HOk P w (upd H x o') h':=λb u q=>by
 have nown:∀c y,H c=some (.own y)->c≠x:=λc y r z=>by subst z;rw [r] at mu;exact mu
 have ntup:∀c xs,H c=some (.tup xs)->c≠x:=λc xs r z=>by subst z;rw [r] at mu;exact mu
 by_cases hb:b=x
 ·subst hb;rw [Gb] at q;cases q;exact new
 ·rw [Go hb] at q;by_cases hbe:b=e
  ·have q':H b=some (.own x):=by
    rcases he with z | z
    ·exact absurd (hbe.trans z) hb
    ·rw [hbe];exact z
   rw [q] at q';cases q';obtain ⟨v,hv⟩:=heo;exact ⟨v,by rw [hbe];exact hv⟩
  ·refine (ok b u q).stay (λc v hc r=>k c v ?_ r) (λc r=>by rw [Go (nown c b r)];exact r) λc xs r=>by rw [Go (ntup c xs r)];exact r
   rcases hc with rfl | hc
   ·exact hbe
   ·rintro rfl;rcases he with z | z
    ·exact nown c b hc z
    ·rw [hc] at z;cases z;exact hb rfl
end
structure Un (fs ex:List Addr)(H H':Hp)(h h':Heap):Prop where
 keep:∀b o,h.get? b=some o->H b=none->b ∉ fs->b ∉ ex->h'.get? b=some o
 slot:∀b o,h.get? b=some o->H b=none->b∈fs->b ∉ ex->∃sl,h'.get? b=some { o with slots:=sl }
 free:∀b o,h.get? b=some o->H b=none->b ∉ ex->H' b=none
 there:∀b o,h.get? b=some o->b ∉ ex->∃o',h'.get? b=some o'
 tups:∀b xs,H b=some (.tup xs)->H' b=some (.tup xs)
 frzs:∀b o u,H b=some (.frz o u)->H' b=some (.frz o u)
 tbls:∀b ps,H b=some (.tbl ps)->∃more,H' b=some (.tbl (ps++more))
section
variable {fs fs' ex ex':List Addr}{H H1 H2:Hp}{h h1 h2 h':Heap}{a x e:Addr}{o:HO}
theorem Un.any (u:Un fs ex H H1 h h1){b:Addr}{ob:Obj}(q:h.get? b=some ob)(n:H b=none)(hx:b ∉ ex):∃sl,h1.get? b=some { ob with slots:=sl }:=by
 by_cases hb:b∈fs
 ·exact u.slot b ob q n hb hx
 ·exact ⟨ob.slots,u.keep b ob q n hb hx⟩
theorem Un.trans (a:Un fs ex H H1 h h1)(b:Un fs ex H1 H2 h1 h2):Un fs ex H H2 h h2 where
 keep:=λc ob q n hc hx=>b.keep c ob (a.keep c ob q n hc hx) (a.free c ob q n hx) hc hx
 slot:=λc ob q n hc hx=>by
  obtain ⟨sl,e1⟩:=a.slot c ob q n hc hx;obtain ⟨sl',e2⟩:=b.slot c _ e1 (a.free c ob q n hx) hc hx;exact ⟨sl',e2⟩
 free:=λc ob q n hx=>by
  obtain ⟨o',e1⟩:=a.there c ob q hx;exact b.free c o' e1 (a.free c ob q n hx) hx
 there:=λc ob q hx=>by
  obtain ⟨o',e1⟩:=a.there c ob q hx;exact b.there c o' e1 hx
 tups:=λc xs q=>b.tups c xs (a.tups c xs q)
 frzs:=λc ob xs q=>b.frzs c ob xs (a.frzs c ob xs q)
 tbls:=λc ps q=>by
  obtain ⟨m1,e1⟩:=a.tbls c ps q;obtain ⟨m2,e2⟩:=b.tbls c _ e1;exact ⟨m1++m2,by rw [e2,Array.append_assoc]⟩
theorem Un.kept (k:∀b u,h.get? b=some u->h'.get? b=some u):Un fs ex H H h h':=
 ⟨λb ob q _ _ _=>k b ob q,λb ob q _ _ _=>⟨ob.slots,k b ob q⟩,λ_ _ _ n _=>n,λb ob q _=>⟨ob,k b ob q⟩,λ_ _ q=>q,λ_ _ _ q=>q,λ_ ps q=>⟨#[],by rw [q];simp⟩⟩
theorem Un.refl:Un fs ex H H h h:=Un.kept λ_ _ q=>q
theorem Un.laid (k:∀b u,h.get? b=some u->h'.get? b=some u)(hp:h.objs.size<=a)(hn:H a=none):Un fs ex H (upd H a o) h h' where
 keep:=λb u q _ _ _=>k b u q
 slot:=λb u q _ _ _=>⟨u.slots,k b u q⟩
 free:=λb u q n _=>by rw [Go (Nat.ne_of_lt (Nat.lt_of_lt_of_le (Heap.lt_size q) hp))];exact n
 there:=λb u q _=>⟨u,k b u q⟩
 tups:=λb xs q=>by rw [Go (Gh q hn)];exact q
 frzs:=λb u xs q=>by rw [Go (Gh q hn)];exact q
 tbls:=λb ps q=>⟨#[],by rw [Go (Gh q hn),q];simp⟩
theorem Un.write (mu:Mut (H x))(he:e=x\/H e=some (.own x))(k:∀b u,b≠e->h.get? b=some u->h'.get? b=some u)(heo:∃u,h'.get? e=some u):Un fs ex H (upd H x o) h h':=by
 have hx:∀b,H b=none->b≠x:=λb n z=>by subst z;rw [n] at mu;exact mu
 have hb:∀b,H b=none->b≠e:=λb n z=>by
  subst z;rcases he with r | r
  ·exact hx b n r
  ·rw [n] at r;cases r
 have hm:∀b u,H b=some u->¬ Mut (some u)->b≠x:=λb u q nm z=>by subst z;rw [q] at mu;exact nm mu
 refine ⟨λb u q n _ _=>k b u (hb b n) q,λb u q n _ _=>⟨u.slots,k b u (hb b n) q⟩,λb u q n _=>by rw [Go (hx b n)];exact n,λb u q _=>?_,
  λb xs q=>by rw [Go (hm b _ q λz=>z)];exact q,λb u xs q=>by rw [Go (hm b _ q λz=>z)];exact q,λb ps q=>⟨#[],by rw [Go (hm b _ q λz=>z),q];simp⟩⟩
 by_cases hbe:b=e
 ·subst hbe;exact heo
 ·exact ⟨u,k b u hbe q⟩
theorem Un.mono (u:Un fs ex H H1 h h1)(hs:∀b∈fs,b∈fs')(hx:∀b∈ex,b∈ex'):Un fs' ex' H H1 h h1:=
 ⟨λb ob q n hb he=>u.keep b ob q n (λz=>hb (hs b z)) λz=>he (hx b z),λ_ _ q n _ he=>u.any q n λz=>he (hx _ z),λb ob q n he=>u.free b ob q n λz=>he (hx b z),λb ob q he=>u.there b ob q λz=>he (hx b z),u.tups,u.frzs,u.tbls⟩
end
def trk (h:Heap)(H:Hp):List Addr:=(List.range h.objs.size).filter λa=>(H a).isSome
def YE (h:Heap)(H:Hp):Heap:=W.hideAll h (trk h H)
theorem W0 (h:Heap)(H:Hp):(YE h H).objs.size=h.objs.size:=W.hideAll_size _ _
theorem YF {h:Heap}{H:Hp}{b:Addr}{o:Obj}(e:h.get? b=some o)(n:H b=none):(YE h H).get? b=some o:=
 W.hideAll_get _ e λhm=>by
  have q:(H b).isSome=true:=(List.mem_filter.mp hm).2;rw [n] at q;simp at q
theorem Zab {h:Heap}{H:Hp}{b:Addr}{o:Obj}(e:(YE h H).get? b=some o):h.get? b=some o/\H b=none:=by
 have e':h.get? b=some o:=W.of_hideAll (trk h H) e;refine ⟨e',?_⟩;cases q:H b with
 | none=>rfl
 | some x=>
  have hm:b∈trk h H:=List.mem_filter.mpr ⟨List.mem_range.mpr (Heap.lt_size e'),by simp [q]⟩;have z:(YE h H).get? b=none:=W.hideAll_none (trk h H) hm;rw [z] at e;cases e
end L2
namespace L2
open PySem PySem.Spec PyProof.Rows
structure Mod (K:W.Frag)(mg:Str->Option Value)(base:Heap):Prop where
 kin:K.In base
 glob:base.Ns mainGlobals mg
 blt:∃mb,base.Ns builtinsNs mb/\∀x:Str,x ≠ "__name__" -> mb x=bootBuiltins x
 nolimit:base.NoLimit
structure Cx where
 prog:Program
 w:World
 K:W.Frag
 mg:Str->Option Value
 base:Heap
 A:Around
 N:List Str
 s₀:Shared
 H₀:Hp
 env:Env
 outer:List Env
 stack:List Env
 ex:List Addr
 fn:Str->Bool
 calm:Bool
 pn:List (Addr×Obj)
 xe:Value->Shared->Prop
def frs (l:List Env):List Addr:=l.filterMap (·.frame)
abbrev Cx.fs (X:Cx):List Addr:=frs X.outer
def Vis (sc:Scope)(x:Str):Prop:=sc.names.lookup x=some .local\/sc.names.lookup x=some .cell\/sc.names.lookup x=some .free
def Loc (sc:Scope)(x:Str):Prop:=sc.names.lookup x=some .local\/sc.names.lookup x=some .cell
def Zem (env:Env)(h:Heap)(m:Str->Option Value)(x:Str)(u:Value):Prop:=
 (env.kindOf x=some .local/\m x=some u)\/((env.kindOf x=some .cell\/env.kindOf x=some .free)/\∃c,env.cells.lookup x=some c/\h.IsCell c (some u))
structure Cx.Ok (X:Cx):Prop where
 mod:Mod X.K X.mg X.base
 kind:X.env.scope.kind=.function
 glob:X.env.globals=mainGlobals
 blt:X.env.builtins=builtinsNs
 above:X.s₀.heap.objs.size<=X.env.locals
 inj:∀x y c,X.env.cells.lookup x=some c->X.env.cells.lookup y=some c->x=y
 has:∀x,(X.env.kindOf x=some .cell\/X.env.kindOf x=some .free)->∃c,X.env.cells.lookup x=some c
 cab:∀x c,X.fn x=true->X.env.cells.lookup x=some c->X.s₀.heap.objs.size<=c
 hd:X.calm=true->X.A.handled=none
 frames:X.A.frames=some X.stack
 stk:X.stack=X.outer\/(X.stack=X.env::X.outer/\X.env.frame=some X.env.locals)
 exf:∀b∈X.ex,b≠X.env.locals/\∀x c,X.env.cells.lookup x=some c->c≠b
 bs:∀b o,X.base.get? b=some o->X.s₀.heap.get? b=some o/\X.H₀ b=none
 bsz:X.base.objs.size<=X.s₀.heap.objs.size
 noex:∀b o,X.base.get? b=some o->b ∉ X.ex
 exfs:∀b∈X.ex,b ∉ X.fs
 funs:X.s₀.heap.FunFrames X.base X.outer
 frf:∀b∈X.fs,X.H₀ b=none
structure Inv (X:Cx)(qQ:List (Addr×Obj))(σ:List (Option V))(H:Hp)(s:Shared):Prop where
 ok:X.Ok
 os:s.os=X.s₀.os
 bare:AllBare s.gens
 base:Un X.fs X.ex X.H₀ H X.s₀.heap s.heap
 loc:∃m,s.heap.Ns X.env.locals m/\∀(i:Nat)(x:Str)(v:V),X.N[i]?=some x->σ[i]?=some (some v)->Vis X.env.scope x->∃u,RelV v u/\Zem X.env s.heap m x u
 cell:∀x c,X.env.cells.lookup x=some c->∃v,s.heap.IsCell c v
 free:H X.env.locals=none
 freeC:∀x c,X.env.cells.lookup x=some c->H c=none
 pin:∀p∈X.pn++qQ,s.heap.get? p.1=some p.2/\H p.1=none/\p.1≠X.env.locals/\p.1 ∉ X.fs/\∀v,p.2.data≠.cell v
 hok:HOk X.prog X.w H s.heap
 len:σ.length=X.N.length
section
variable {X:Cx}{qQ:List (Addr×Obj)}{σ:List (Option V)}{H H':Hp}{s:Shared}{h':Heap}
theorem Cx.Ok.nofr (ok:X.Ok){b:Addr}{o:Obj}(e:X.base.get? b=some o):b ∉ X.fs:=λhb=>by
 have:=(ok.funs.mem hb).1;rw [e] at this;cases this
theorem Inv.bs (I:Inv X qQ σ H s):∀b o,X.base.get? b=some o->s.heap.get? b=some o/\H b=none:=λb o e=>
 ⟨I.base.keep b o (I.ok.bs b o e).1 (I.ok.bs b o e).2 (I.ok.nofr e) (I.ok.noex b o e),I.base.free b o (I.ok.bs b o e).1 (I.ok.bs b o e).2 (I.ok.noex b o e)⟩
theorem Inv.bk (I:Inv X qQ σ H s):∀b o,X.base.get? b=some o->s.heap.get? b=some o:=λb o e=>(I.bs b o e).1
theorem Inv.mod (I:Inv X qQ σ H s):Mod X.K X.mg X.base:=I.ok.mod
theorem Inv.kIn (I:Inv X qQ σ H s):X.K.In s.heap:=I.ok.mod.kin.keeps I.bk
theorem Inv.lt (I:Inv X qQ σ H s):X.env.locals<s.heap.objs.size:=let ⟨_,hn,_⟩:=I.loc;hn.lt
theorem Inv.sz (I:Inv X qQ σ H s):X.s₀.heap.objs.size<=s.heap.objs.size:=Nat.le_trans I.ok.above (Nat.le_of_lt I.lt)
theorem Inv.nofs (I:Inv X qQ σ H s){a:Addr}(h:s.heap.objs.size<=a):a ∉ X.fs:=λhb=>by
 obtain ⟨_,o,ho,_⟩:=I.ok.funs.mem hb;exact absurd (Nat.lt_of_lt_of_le (Heap.lt_size ho) (Nat.le_trans I.sz h)) (Nat.lt_irrefl _)
theorem Inv.cne (I:Inv X qQ σ H s):∀x c,X.env.cells.lookup x=some c->c≠X.env.locals:=λx c e z=>by
 obtain ⟨v,o,ho,hd⟩:=I.cell x c e;obtain ⟨m,⟨o',es,ep,ho',hd',_⟩,_⟩:=I.loc;rw [z,ho'] at ho;cases ho;rw [hd'] at hd;cases hd
theorem Inv.funs (I:Inv X qQ σ H s):s.heap.FunFrames X.base X.outer:=by
 have all:∀(l:List Env),(∀b∈frs l,b∈X.fs)->X.s₀.heap.FunFrames X.base l->s.heap.FunFrames X.base l:=by
  intro l
  induction l with
  | nil=>intro _ _;trivial
  | cons env r ih=>
   intro hs hl;obtain ⟨hk,⟨L,o,hf,hn,ho,hd⟩,hr⟩:=hl;have hL:L∈X.fs:=hs L (by unfold frs;rw [List.filterMap_cons,hf];exact List.mem_cons_self);obtain ⟨sl,e⟩:=I.base.slot L o ho (I.ok.frf L hL) hL λz=>I.ok.exfs L z hL;exact ⟨hk,⟨L,_,hf,hn,e,hd⟩,ih (λb hb=>hs b (by unfold frs;rw [List.filterMap_cons,hf];exact List.mem_cons_of_mem _ hb)) hr⟩
 exact all X.outer (λ_ hb=>hb) I.ok.funs
theorem Inv.stack (I:Inv X qQ σ H s):s.heap.FunFrames X.base X.stack:=by
 rcases I.ok.stk with e | ⟨e,hf⟩
 ·rw [e];exact I.funs
 ·rw [e];obtain ⟨m,hn,_⟩:=I.loc;refine .cons (by rw [I.ok.kind];decide) hf hn ?_ I.funs;exact Heap.get?_none_of_le (Nat.le_trans I.ok.bsz I.ok.above)
theorem Inv.stkSub (I:Inv X qQ σ H s):∀b∈frs X.stack,b∈X.env.locals::X.fs:=λb hb=>by
 rcases I.ok.stk with e | ⟨e,hf⟩
 ·rw [e] at hb;exact List.mem_cons_of_mem _ hb
 ·rw [e] at hb;unfold frs at hb;rw [List.filterMap_cons,hf] at hb;exact hb
theorem Inv.stkFree (I:Inv X qQ σ H s):∀b∈frs X.stack,H b=none:=λb hb=>by
 rcases List.mem_cons.mp (I.stkSub b hb) with e | hb
 ·rw [e];exact I.free
 ·obtain ⟨_,o,ho,_⟩:=I.ok.funs.mem hb;exact I.base.free b o ho (I.ok.frf b hb) λz=>I.ok.exfs b z hb
theorem Inv.step {g':Array GenState}{t':Nat}{d':Drawn}{ch:List Addr}(I:Inv X qQ σ H s)(hch:∀b∈ch,(b∈X.ex\/X.s₀.heap.objs.size<=b)/\b≠X.env.locals/\(∀x c,X.env.cells.lookup x=some c->c≠b)/\∀p∈X.pn++qQ,p.1≠b)(keep:∀b o,b≠X.env.locals->b ∉ X.fs->b ∉ ch->s.heap.get? b=some o->H b=none->h'.get? b=some o)(slot:∀b o,b≠X.env.locals->b∈X.fs->b ∉ ch->s.heap.get? b=some o->H b=none->∃sl,h'.get? b=some { o with slots:=sl })(free:∀b o,b ∉ ch->s.heap.get? b=some o->H b=none->H' b=none)(there:∀b o,b ∉ ch->s.heap.get? b=some o->∃o',h'.get? b=some o')(tups:∀b xs,H b=some (.tup xs)->H' b=some (.tup xs))(frzs:∀b o u,H b=some (.frz o u)->H' b=some (.frz o u))(tbls:∀b ps,H b=some (.tbl ps)->∃more,H' b=some (.tbl (ps++more)))(ns:∀m,s.heap.Ns X.env.locals m->h'.Ns X.env.locals m)(hok:HOk X.prog X.w H' h')(hg:AllBare g') :
  Inv X qQ σ H' { s with heap:=h',gens:=g',drawn:=d',toks:=t' }:=by
 have neL:∀b o,X.s₀.heap.get? b=some o->b≠X.env.locals:=λb o e=>Nat.ne_of_lt (Nat.lt_of_lt_of_le (Heap.lt_size e) I.ok.above);have neC:∀b o,X.s₀.heap.get? b=some o->b ∉ X.ex->b ∉ ch:=λb o e hx hb=>by
  rcases (hch b hb).1 with z | z
  ·exact hx z
  ·exact absurd (Nat.lt_of_lt_of_le (Heap.lt_size e) z) (Nat.lt_irrefl _)
 have cellK:∀x c,X.env.cells.lookup x=some c->∀v,s.heap.IsCell c v->h'.IsCell c v:=λx c e v ⟨o,ho,hd⟩=>by
  have nch:c ∉ ch:=λz=>(hch c z).2.2.1 x c e rfl;by_cases hc:c∈X.fs
  ·obtain ⟨sl,q⟩:=slot c o (I.cne x c e) hc nch ho (I.freeC x c e);exact ⟨_,q,hd⟩
  ·exact ⟨o,keep c o (I.cne x c e) hc nch ho (I.freeC x c e),hd⟩
 refine ⟨I.ok,I.os,hg,⟨λb o e n hb hx=>?_,λb o e n hb hx=>?_,λb o e n hx=>?_,λb o e hx=>?_,λb xs e=>tups b xs (I.base.tups b xs e),λb o xs e=>frzs b o xs (I.base.frzs b o xs e),λb ps e=>?_⟩,?_,λx c e=>?_,?_,λx c e=>?_,λp hp=>?_,hok,I.len⟩
 ·exact keep b o (neL b o e) hb (neC b o e hx) (I.base.keep b o e n hb hx) (I.base.free b o e n hx)
 ·obtain ⟨sl,e1⟩:=I.base.slot b o e n hb hx;obtain ⟨sl',e2⟩:=slot b _ (neL b o e) hb (neC b o e hx) e1 (I.base.free b o e n hx);exact ⟨sl',e2⟩
 ·obtain ⟨o',e1⟩:=I.base.there b o e hx;exact free b o' (neC b o e hx) e1 (I.base.free b o e n hx)
 ·obtain ⟨o',e1⟩:=I.base.there b o e hx;exact there b o' (neC b o e hx) e1
 ·obtain ⟨m1,e1⟩:=I.base.tbls b ps e;obtain ⟨m2,e2⟩:=tbls b _ e1;exact ⟨m1++m2,by rw [e2,Array.append_assoc]⟩
 ·obtain ⟨m,hn,hl⟩:=I.loc;refine ⟨m,ns m hn,λi x v e1 e2 e3=>?_⟩;obtain ⟨u,r,l⟩:=hl i x v e1 e2 e3;refine ⟨u,r,?_⟩;rcases l with l | ⟨k,c,e,z⟩
  ·exact .inl l
  ·exact .inr ⟨k,c,e,cellK x c e _ z⟩
 ·obtain ⟨v,z⟩:=I.cell x c e;exact ⟨v,cellK x c e v z⟩
 ·obtain ⟨m,⟨o,_,_,ho,_⟩,_⟩:=I.loc;exact free _ o (λz=>(hch _ z).2.1 rfl) ho I.free
 ·obtain ⟨v,o,ho,hd⟩:=I.cell x c e;exact free c o (λz=>(hch c z).2.2.1 x c e rfl) ho (I.freeC x c e)
 ·obtain ⟨e,n,ne,nf,d⟩:=I.pin p hp;have nch:p.1 ∉ ch:=λz=>(hch p.1 z).2.2.2 p hp rfl;exact ⟨keep p.1 p.2 ne nf nch e n,free p.1 p.2 nch e n,ne,nf,d⟩
theorem Inv.un {t':Nat}(I:Inv X qQ σ H s)(u:Un X.fs [] H H' s.heap h')(hok:HOk X.prog X.w H' h'):Inv X qQ σ H' { s with heap:=h',toks:=t' }:=by
 obtain ⟨m,⟨o,es,ep,ho,r⟩,_⟩:=id I.loc;obtain ⟨sl,hL⟩:=u.any ho I.free (by simp);exact I.step (g':=s.gens) (d':=s.drawn) (ch:=[]) (λ_ z=>nomatch z) (λb o _ hb _ e n=>u.keep b o e n hb (by simp)) (λb o _ hb _ e n=>u.slot b o e n hb (by simp)) (λb o _ e n=>u.free b o e n (by simp)) (λb o _ e=>u.there b o e (by simp)) u.tups u.frzs u.tbls (λm' hm=>by
  obtain ⟨o',es',ep',ho',r'⟩:=hm;rw [ho] at ho';cases ho';exact ⟨_,es',ep',hL,r'⟩) hok I.bare
theorem Inv.call {g':Array GenState}{t':Nat}{d':Drawn}{ch:List Addr}(I:Inv X qQ σ H s)(u:Un (frs X.stack) ch H H' s.heap h')(hok:HOk X.prog X.w H' h')(hg:AllBare g')(hch:∀b∈ch,(b∈X.ex\/X.s₀.heap.objs.size<=b)/\b≠X.env.locals/\(∀x c,X.env.cells.lookup x=some c->c≠b)/\∀p∈X.pn++qQ,p.1≠b) :
  Inv X qQ σ H' { s with heap:=h',gens:=g',drawn:=d',toks:=t' }:=by
 obtain ⟨m,⟨o,es,ep,ho,r⟩,_⟩:=id I.loc;obtain ⟨sl,hL⟩:=u.any ho I.free λz=>(hch _ z).2.1 rfl;exact I.step (ch:=ch) hch (λb o hL hb hc e n=>u.keep b o e n (λz=>(List.mem_cons.mp (I.stkSub b z)).elim hL hb) hc) (λb o _ _ hc e n=>u.any e n hc) (λb o hc e n=>u.free b o e n hc) (λb o hc e=>u.there b o e hc) u.tups u.frzs u.tbls (λm' hm=>by
  obtain ⟨o',es',ep',ho',r'⟩:=hm;rw [ho] at ho';cases ho';exact ⟨_,es',ep',hL,r'⟩) hok hg
theorem Inv.turned {t':Nat}{it:Addr}(I:Inv X qQ σ H s)(k:∀b o,b≠it->s.heap.get? b=some o->h'.get? b=some o)(hn:H it=none)(hL:it≠X.env.locals)(h1:it∈X.ex\/X.s₀.heap.objs.size<=it)(h2:∀x c,X.env.cells.lookup x=some c->c≠it)(h3:∀p∈X.pn++qQ,p.1≠it):Inv X qQ σ H { s with heap:=h',toks:=t' }:=by
 have nit:∀b u,H b=some u->b≠it:=λb u e z=>by rw [z,hn] at e;cases e
 refine I.step (g':=s.gens) (d':=s.drawn) (ch:=[it]) (λb hb=>?_) (λb o _ _ hc e _=>k b o (λz=>hc (by simp [z])) e) (λb o _ _ hc e _=>⟨o.slots,k b o (λz=>hc (by simp [z])) e⟩) (λ_ _ _ _ n=>n)
  (λb o hc e=>⟨o,k b o (λz=>hc (by simp [z])) e⟩) (λ_ _ e=>e) (λ_ _ _ e=>e) (λb ps e=>⟨#[],by rw [e];simp⟩) (λm hm=>?_) (λb u e=>?_) I.bare
 ·have e:b=it:=by simpa using hb
  subst e;exact ⟨h1,hL,h2,h3⟩
 ·obtain ⟨o,es,ep,ho,r⟩:=hm;exact ⟨o,es,ep,k _ o (Ne.symm hL) ho,r⟩
 ·refine (I.hok b u e).stay (λc v hc q=>k c v ?_ q) (λ_ q=>q) λ_ _ q=>q;rcases hc with z | z
  ·rw [z];exact nit b u e
  ·exact nit c _ z
theorem Inv.tok (I:Inv X qQ σ H s)(t:Nat):Inv X qQ σ H { s with toks:=t }:=I.un (h':=s.heap) (t':=t) Un.refl I.hok
theorem Inv.kept {t':Nat}(I:Inv X qQ σ H s)(k:∀b u,s.heap.get? b=some u->h'.get? b=some u):Inv X qQ σ H { s with heap:=h',toks:=t' }:=I.un (Un.kept k) (I.hok.kept k)
theorem Inv.laid {a:Addr}{o:HO}{t':Nat}(I:Inv X qQ σ H s)(k:∀b u,s.heap.get? b=some u->h'.get? b=some u)(hp:s.heap.objs.size<=a)(new:ObjOk X.prog X.w (upd H a o) h' a o) :
  Inv X qQ σ (upd H a o) { s with heap:=h',toks:=t' }:=I.un (Un.laid k hp (I.hok.fresh hp)) (I.hok.laid k hp new)
theorem Inv.write {x e:Addr}{o:HO}{t':Nat}(I:Inv X qQ σ H s)(mu:Mut (H x))(he:e=x\/H e=some (.own x))(k:∀b u,b≠e->s.heap.get? b=some u->h'.get? b=some u)(heo:∃u,h'.get? e=some u)(new:ObjOk X.prog X.w (upd H x o) h' x o):Inv X qQ σ (upd H x o) { s with heap:=h',toks:=t' }:=I.un (Un.write mu he k heo) (I.hok.write mu he k heo new)
theorem Inv.weak {σ':List (Option V)}(I:Inv X qQ σ H s)(hl:σ'.length=σ.length)(w:∀(i:Nat) v,σ'[i]?=some (some v)->σ[i]?=some (some v)):Inv X qQ σ' H s:=
 ⟨I.ok,I.os,I.bare,I.base,let ⟨m,hn,hl'⟩:=I.loc;⟨m,hn,λi x v e1 e2 e3=>hl' i x v e1 (w i v e2) e3⟩,I.cell,I.free,I.freeC,I.pin,I.hok,hl.trans I.len⟩
theorem Inv.pins_of {pins':List (Addr×Obj)}(I:Inv X qQ σ H s)(h:∀p∈pins',s.heap.get? p.1=some p.2/\H p.1=none/\p.1≠X.env.locals/\p.1 ∉ X.fs/\∀v,p.2.data≠.cell v):Inv X pins' σ H s:=
 ⟨I.ok,I.os,I.bare,I.base,I.loc,I.cell,I.free,I.freeC,λp hp=>(List.mem_append.mp hp).elim (λz=>I.pin p (List.mem_append_left _ z)) (h p),I.hok,I.len⟩
theorem VM {N:List Str}(hN:N.Nodup){i j:Nat}{x:Str}(a:N[i]?=some x)(b:N[j]?=some x):i=j:=by
 obtain ⟨h1,e1⟩:=List.getElem?_eq_some_iff.mp a;obtain ⟨h2,e2⟩:=List.getElem?_eq_some_iff.mp b;exact (List.getElem_inj hN).mp (e1.trans e2.symm)
theorem UA {M:Model}{A:Around}{E:Value->Shared->Prop}{i:Nat}{x:Str}{v:V}{u:Value}{Q:Unit->Shared->Prop}(I:Inv X qQ σ H s)(hN:X.N.Nodup)(hi:X.N[i]?=some x)(hx:Loc X.env.scope x)(r:RelV v u)(h:∀s',Inv X qQ (σ.set i (some v)) H s'->(∃a,Heap.SameBut a s.heap s'.heap/\(a=X.env.locals\/X.env.cells.lookup x=some a))->Q () s')(hf:X.fn x=true\/X.env.scope.names.lookup x=some .local:=by first | exact .inl rfl | exact .inr rfl | assumption):wpAny M A (storeName X.env x u) Q E s:=by
 obtain ⟨m,hn,hl⟩:=id I.loc;have hcls:(X.env.scope.kind == .class || (X.env.scope.kind == .module && X.env.locals != X.env.globals))=false:=by rw [I.ok.kind];rfl
 have hiσ:i<σ.length:=by rw [I.len];exact (List.getElem?_eq_some_iff.mp hi).1
 have cne:=I.cne;have tracked:∀{a:Addr}{h':Heap},(∃o,s.heap.get? a=some o/\H a=none)->Heap.SameBut a s.heap h'->HOk X.prog X.w H h':=λ{a h'} ha hs b ob e=>by
  obtain ⟨_,_,hfree⟩:=ha;refine (I.hok b ob e).stay (λc w' hc q=>(hs.2 c ?_).trans q) (λ_ q=>q) λ_ _ q=>q;rintro rfl;rcases hc with rfl | hc
  ·rw [hfree] at e;cases e
  ·rw [hfree] at hc;cases hc
 rcases hx with hk | hk
 ·refine wpAny_storeName_local hk hn (λh' hn' hs=>?_) hcls;obtain ⟨oL,_,_,hoL,_⟩:=id hn;refine h _ ⟨I.ok,I.os,I.bare,⟨λb o e n hb hx=>?_,λb o e n hb hx=>?_,I.base.free,λb o e hx=>?_,I.base.tups,I.base.frzs,I.base.tbls⟩,⟨_,hn',λj y v' e1 e2 e3=>?_⟩,λy c e=>?_,I.free,I.freeC,λp hp=>?_,tracked ⟨oL,hoL,I.free⟩ hs,by simpa using I.len⟩ ⟨_,hs,.inl rfl⟩
  ·exact (hs.2 b (Nat.ne_of_lt (Nat.lt_of_lt_of_le (Heap.lt_size e) I.ok.above))).trans (I.base.keep b o e n hb hx)
  ·obtain ⟨sl,e1⟩:=I.base.slot b o e n hb hx;exact ⟨sl,(hs.2 b (Nat.ne_of_lt (Nat.lt_of_lt_of_le (Heap.lt_size e) I.ok.above))).trans e1⟩
  ·obtain ⟨o',e1⟩:=I.base.there b o e hx;exact ⟨o',(hs.2 b (Nat.ne_of_lt (Nat.lt_of_lt_of_le (Heap.lt_size e) I.ok.above))).trans e1⟩
  ·by_cases hj:j=i
   ·subst hj;rw [hi] at e1;cases e1;rw [List.getElem?_set_self hiσ] at e2;cases e2;exact ⟨u,r,.inl ⟨hk,by simp⟩⟩
   ·rw [List.getElem?_set_ne (Ne.symm hj)] at e2;obtain ⟨u',r',q⟩:=hl j y v' e1 e2 e3;refine ⟨u',r',?_⟩;rcases q with ⟨k,e⟩ | ⟨k,c,e,z⟩
    ·refine .inl ⟨k,?_⟩;have:y≠x:=λe=>hj (VM hN e1 (e▸hi));simp [this,e]
    ·exact .inr ⟨k,c,e,z.sameBut hs (cne y c e)⟩
  ·obtain ⟨w',z⟩:=I.cell y c e;exact ⟨w',z.sameBut hs (cne y c e)⟩
  ·obtain ⟨e,n,ne,nf,d⟩:=I.pin p hp;exact ⟨(hs.2 p.1 ne).trans e,n,ne,nf,d⟩
 ·have hfn:X.fn x=true:=by
   rcases hf with z | z
   ·exact z
   ·rw [z] at hk;cases hk
  obtain ⟨c,hc⟩:=I.ok.has x (.inl hk);obtain ⟨w',z⟩:=I.cell x c hc;refine wpAny_storeName_cell I.ok.kind hk hc z (λh' hc' hs=>?_);obtain ⟨oc,hoc,hocd⟩:=id z;refine h { s with heap:=h' } ⟨I.ok,I.os,I.bare,⟨λb o e n hb hx=>?_,λb o e n hb hx=>?_,I.base.free,λb o e hx=>?_,I.base.tups,I.base.frzs,I.base.tbls⟩,⟨m,hn.sameBut hs (Ne.symm (cne x c hc)),λj y v' e1 e2 e3=>?_⟩,λy c' e=>?_,I.free,I.freeC,λp hp=>?_,tracked ⟨oc,hoc,I.freeC x c hc⟩ hs,by simpa using I.len⟩ ⟨c,hs,.inr hc⟩
  ·exact (hs.2 b (Nat.ne_of_lt (Nat.lt_of_lt_of_le (Heap.lt_size e) (I.ok.cab x c hfn hc)))).trans (I.base.keep b o e n hb hx)
  ·obtain ⟨sl,e1⟩:=I.base.slot b o e n hb hx;exact ⟨sl,(hs.2 b (Nat.ne_of_lt (Nat.lt_of_lt_of_le (Heap.lt_size e) (I.ok.cab x c hfn hc)))).trans e1⟩
  ·obtain ⟨o',e1⟩:=I.base.there b o e hx;exact ⟨o',(hs.2 b (Nat.ne_of_lt (Nat.lt_of_lt_of_le (Heap.lt_size e) (I.ok.cab x c hfn hc)))).trans e1⟩
  ·by_cases hj:j=i
   ·subst hj;rw [hi] at e1;cases e1;rw [List.getElem?_set_self hiσ] at e2;cases e2;exact ⟨u,r,.inr ⟨.inl hk,c,hc,hc'⟩⟩
   ·rw [List.getElem?_set_ne (Ne.symm hj)] at e2;obtain ⟨u',r',q⟩:=hl j y v' e1 e2 e3;refine ⟨u',r',?_⟩;rcases q with q | ⟨k,c',e,z'⟩
    ·exact .inl q
    ·refine .inr ⟨k,c',e,z'.sameBut hs ?_⟩;rintro rfl;exact hj (VM hN e1 (I.ok.inj _ _ _ e hc▸hi))
  ·by_cases hcc:c'=c
   ·subst hcc;exact ⟨_,hc'⟩
   ·obtain ⟨w2,z2⟩:=I.cell y c' e;exact ⟨w2,z2.sameBut hs hcc⟩
  ·obtain ⟨e,n,ne,nf,d⟩:=I.pin p hp;refine ⟨(hs.2 p.1 ?_).trans e,n,ne,nf,d⟩;intro q;rw [q,hoc] at e;have q':oc=p.2:=Option.some.inj e;exact d w' (by rw [<-q'];exact hocd)
theorem VN {M:Model}{A:Around}{E:Value->Shared->Prop}{i:Nat}{x:Str}{v:V}{u:Value}{Q:Unit->Shared->Prop}(I:Inv X qQ σ H s)(hN:X.N.Nodup)(hi:X.N[i]?=some x)(hx:Loc X.env.scope x)(r:RelV v u)(h:∀s',Inv X qQ (σ.set i (some v)) H s'->Q () s')(hf:X.fn x=true\/X.env.scope.names.lookup x=some .local:=by first | exact .inl rfl | exact .inr rfl | assumption):wpAny M A (storeName X.env x u) Q E s:=
 UA I hN hi hx r (λs' I' _=>h s' I') hf
theorem Inv.call' {s':Shared}{ch:List Addr}(I:Inv X qQ σ H s)(ho:s'.os=s.os)(u:Un (frs X.stack) ch H H' s.heap s'.heap)(hok:HOk X.prog X.w H' s'.heap)(hg:AllBare s'.gens)(hch:∀b∈ch,(b∈X.ex\/X.s₀.heap.objs.size<=b)/\b≠X.env.locals/\(∀x c,X.env.cells.lookup x=some c->c≠b)/\∀p∈X.pn++qQ,p.1≠b):Inv X qQ σ H' s':=by
 obtain ⟨h',g',d',t',o'⟩:=s';have e:o'=s.os:=ho;subst e;exact I.call (g':=g') (t':=t') (d':=d') u hok hg hch
end
abbrev XK:=Value->Option Addr->Hp->Prop
abbrev St:=List (Option V)
abbrev VK:=V->Hp->Prop
abbrev TE:=St->Hp->VK->Prop
abbrev TT:=St->Hp->(Bool->Hp->Prop)->Prop
abbrev TA:=St->Hp->(List V->Hp->Prop)->Prop
structure Wx where
 nx:St->Hp->Prop
 rt:VK
 bk:St->Hp->Prop:=λ_ _=>False
 ct:St->Hp->Prop:=λ_ _=>False
abbrev TS:=Wx->St->Hp->Prop
def EP (X:Cx)(qQ:List (Addr×Obj))(σ:St)(Q:VK)(u:Value)(s':Shared):Prop:=∃v H',Inv X qQ σ H' s'/\RelV v u/\Q v H'
def TP (X:Cx)(qQ:List (Addr×Obj))(σ:St)(Q:Bool->Hp->Prop)(b:Bool)(s':Shared):Prop:=∃H',Inv X qQ σ H' s'/\Q b H'
def AP (X:Cx)(qQ:List (Addr×Obj))(σ:St)(Q:List V->Hp->Prop)(us:List Value)(s':Shared):Prop:=∃vs H',Inv X qQ σ H' s'/\Vals vs us/\Q vs H'
def SP (X:Cx)(qQ:List (Addr×Obj))(D:Wx)(f:Flow)(s':Shared):Prop:=
 match f with
 | .next=>∃ σ' H',Inv X qQ σ' H' s'/\D.nx σ' H'
 | .brk=>∃ σ' H',Inv X qQ σ' H' s'/\D.bk σ' H'
 | .cont=>∃ σ' H',Inv X qQ σ' H' s'/\D.ct σ' H'
 | .ret u=>∃v σ' H',Inv X qQ σ' H' s'/\RelV v u/\D.rt v H'
def PE (X:Cx)(e:Expr)(t:TE):Prop:=
 ∀(qQ:List (Addr×Obj))(s:Shared)(σ:St)(H:Hp)(Q:VK),Inv X qQ σ H s->t σ H Q->wpAny (model X.prog X.w) X.A (eval e X.env) (EP X qQ σ Q) X.xe s
def PT (X:Cx)(e:Expr)(t:TT):Prop:=
 ∀(qQ:List (Addr×Obj))(s:Shared)(σ:St)(H:Hp)(Q:Bool->Hp->Prop),Inv X qQ σ H s->t σ H Q->wpAny (model X.prog X.w) X.A (isTrue e X.env (eval e X.env)) (TP X qQ σ Q) X.xe s
def PW (X:Cx)(e:Expr)(t:TT):Prop:=
 ∀(whole:Sem Value)(qQ:List (Addr×Obj))(s:Shared)(σ:St)(H:Hp)(Q:Bool->Hp->Prop),Inv X qQ σ H s->t σ H Q->wpAny (model X.prog X.w) X.A (isTrue e X.env whole) (TP X qQ σ Q) X.xe s
theorem PW.pt {X:Cx}{e:Expr}{t:TT}(h:PW X e t):PT X e t:=h _
def PA (X:Cx)(es:List Expr)(t:TA):Prop:=
 ∀(pos:Pos)(qQ:List (Addr×Obj))(s:Shared)(σ:St)(H:Hp)(Q:List V->Hp->Prop),Inv X qQ σ H s->t σ H Q->wpAny (model X.prog X.w) X.A (spliced (backTo pos (starEach es X.env))) (AP X qQ σ Q) X.xe s
def PS (X:Cx)(st:Stmt)(t:TS):Prop:=
 ∀(qQ:List (Addr×Obj))(s:Shared)(σ:St)(H:Hp)(D:Wx),Inv X qQ σ H s->t D σ H->wpAny (model X.prog X.w) X.A (exec st X.env) (SP X qQ D) X.xe s
def PSs (X:Cx)(st:List Stmt)(t:TS):Prop:=
 ∀(qQ:List (Addr×Obj))(s:Shared)(σ:St)(H:Hp)(D:Wx),Inv X qQ σ H s->t D σ H->wpAny (model X.prog X.w) X.A (execs st X.env) (SP X qQ D) X.xe s
theorem thn {α:Type}{t:Sem α}{Q Q':α->Shared->Prop}{M:Model}{A:Around}{E:Value->Shared->Prop}{s:Shared}(h:wpAny M A t Q E s)(hQ:∀a s,Q a s->Q' a s):wpAny M A t Q' E s:=wpAny_mono h hQ λ_ _ x=>x
end L2
namespace L2
open PySem PySem.Spec PyProof.Rows
section
variable {X:Cx}
def YG (i:Nat):TE:=λσ H Q=>∃v,σ[i]?=some (some v)/\Q v H
def tC (v:V):TE:=λ_ H Q=>Q v H
theorem Zbj {i:Nat}{x:Str}{pos:Pos}(hN:X.N[i]?=some x)(hv:Vis X.env.scope x)(hd:(x == ("__debug__" : Str))=false:=by decide)(hcd:(x == ("__classdict__" : Str))=false:=by decide):PE X (.Name x pos) (YG i):=by
 intro qQ s σ H Q I h;obtain ⟨v,e,h⟩:=h;obtain ⟨m,hn,hl⟩:=I.loc;obtain ⟨u,r,l⟩:=hl i x v hN e hv;have fin:EP X qQ σ Q u s:=⟨v,H,I,r,h⟩;rcases l with ⟨hk,hm⟩ | ⟨hk,c,hc,jQ⟩
 ·exact wpAny_Name (wpAny_loadName_local I.ok.kind hk hn hm fin) hd
 ·rcases hk with hk | hk
  ·exact wpAny_Name (wpAny_loadName_cell I.ok.kind hk hc jQ fin) hd
  ·exact wpAny_Name (wpAny_loadName_free I.ok.kind hk hc jQ fin hcd) hd
theorem Gg {i j pos}:PE X (.Constant (.int i) j pos) (tC (.int i)):=λ_ _ _ H _ I h=>wpAny_Constant_int ⟨.int i,H,I.tok _,⟨_,rfl⟩,h⟩
theorem YH {b j pos}:PE X (.Constant (.bool b) j pos) (tC (.bl b)):=λ_ _ _ H _ I h=>Constant_bool ⟨.bl b,H,I,rfl,h⟩
theorem Ju {j pos}:PE X (.Constant .none j pos) (tC .non):=λ_ _ _ H _ I h=>Constant_none ⟨.non,H,I,rfl,h⟩
theorem Jq {x j pos}:PE X (.Constant (.str x) j pos) (tC (.str x)):=λ_ _ _ H _ I h=>Calls.Constant_str ⟨.str x,H,I.tok _,⟨_,rfl⟩,h⟩
def Gl (X:Cx)(x:Str):Prop:=X.env.kindOf x=some .globalImplicit
theorem Vl {E:Value->Shared->Prop}{qQ:List (Addr×Obj)}{s:Shared}{σ:St}{H:Hp}{x:Str}{u:Value}{pos:Pos}{Q:Value->Shared->Prop}(I:Inv X qQ σ H s)(hg:Gl X x)(hm:X.mg x=some u)(h:Q u s)(hd:(x == ("__debug__" : Str))=false:=by decide):wpAny (model X.prog X.w) X.A (eval (.Name x pos) X.env) Q E s:=
 Calls.Name_function_global I.ok.kind hg (Calls.loadGlobal_global (by rw [I.ok.glob];exact I.mod.glob.keeps I.bk) hm h) hd
theorem OR {E:Value->Shared->Prop}{qQ:List (Addr×Obj)}{s:Shared}{σ:St}{H:Hp}{x:Str}{u:Value}{pos:Pos}{Q:Value->Shared->Prop}(I:Inv X qQ σ H s)(hg:Gl X x)(hm:X.mg x=none)(hv:bootBuiltins x=some u)(h:Q u s)(hn:x ≠ "__name__" := by decide)(hd:(x == ("__debug__" : Str))=false:=by decide):wpAny (model X.prog X.w) X.A (eval (.Name x pos) X.env) Q E s:=by
 obtain ⟨mb,h1,h2⟩:=I.mod.blt;exact Calls.Name_function_global I.ok.kind hg (Calls.loadGlobal_builtin (by rw [I.ok.glob];exact I.mod.glob.keeps I.bk) hm (by rw [I.ok.blt];exact h1.keeps I.bk) ((h2 x hn).trans hv) h) hd
theorem GP {x:Str}{v:V}{u:Value}{pos:Pos}(hg:Gl X x)(hm:X.mg x=some u)(r:RelV v u)(hd:(x == ("__debug__" : Str))=false:=by decide):PE X (.Name x pos) (tC v):=
 λ_ _ _ H _ I h=>Vl I hg hm ⟨v,H,I,r,h⟩ hd
theorem Zac {x:Str}{v:V}{u:Value}{pos:Pos}(hg:Gl X x)(hm:X.mg x=none)(hv:bootBuiltins x=some u)(r:RelV v u)(hn:x ≠ "__name__" := by decide)(hd:(x == ("__debug__" : Str))=false:=by decide):PE X (.Name x pos) (tC v):=
 λ_ _ _ H _ I h=>OR I hg hm hv ⟨v,H,I,r,h⟩ hn hd
variable {a b:Expr}{ta tb:TE}{pos:Pos}
def PC (X:Cx)(op:CmpOp)(a b:Expr)(t:TE):Prop:=
 ∀(qQ:List (Addr×Obj))(s:Shared)(σ:St)(H:Hp)(Q:VK),Inv X qQ σ H s->t σ H Q ->
  wpAny (model X.prog X.w) X.A (eval a X.env) (λv s₁=>wpAny (model X.prog X.w) X.A (eval b X.env) (λu s₂=>wpAny (model X.prog X.w) X.A (compareOp op v u) (EP X qQ σ Q) X.xe s₂) X.xe s₁) X.xe s
def tB (t:TE):TT:=λσ H Q=>t σ H λx H1=>∃c,x=.bl c/\Q c H1
theorem W2 {op:CmpOp}{t:TE}(h:PC X op a b t)(h1:behindInMarks op b=false:=by first | exact nobehind _ (by decide) (by decide) | rfl):PT X (.Compare a [op] [b] pos) (tB t):=by
 intro qQ s σ H Q I hw;refine wpAny_isTrue_Compare1 (thn (h qQ s σ H _ I hw) λv s1 h1=>thn h1 λu s2 h2=>thn h2 λc s3 ⟨x,H1,I1,r1,q1⟩=>?_) h1;obtain ⟨d,rfl,q⟩:=q1;cases r1;exact wpAny_truthy_bool ⟨H1,I1,q⟩
theorem Jv {e:Expr}{t:TE}(h:PE X e t)(he:∀whole,isTrue e X.env whole=(do let v <- whole;standAt e.pos;holding [v] (truthy v)):=by intro _;rfl):PT X e (tB t):=by
 intro qQ s σ H Q I hw;refine isTrue_plain (thn (h qQ s σ H _ I hw) λv s1 ⟨x,H1,I1,r1,q1⟩=>?_) (he _);obtain ⟨d,rfl,q⟩:=q1;cases r1;exact wpAny_truthy_bool ⟨H1,I1,q⟩
variable {tA tB':TT}{rest:List Expr}
def Zen (t u:TT):TT:=λσ H Q=>t σ H λc H1=>if c=true then u σ H1 Q else Q false H1
def tOr (t u:TT):TT:=λσ H Q=>t σ H λc H1=>if c=true then Q true H1 else u σ H1 Q
def Zeo (t:TT):TT:=λσ H Q=>t σ H λc H1=>Q (!c) H1
theorem Oy (ha:PT X a tA):PW X (.BoolOp .And [a] pos) tA:=by
 intro wh qQ s σ H Q I h;refine isTrue_and (thn (ha qQ s σ H Q I h) λc s1 e=>?_);cases c with
 | true=>exact isTrue_and_nil e
 | false=>exact e
theorem Og (ha:PT X a tA):PW X (.BoolOp .Or [a] pos) tA:=by
 intro wh qQ s σ H Q I h;refine isTrue_or (thn (ha qQ s σ H Q I h) λc s1 e=>?_);cases c with
 | false=>exact isTrue_or_nil e
 | true=>exact e
theorem UB (ha:PT X a tA)(hb:PW X (.BoolOp .And (b::rest) pos) tB'):PW X (.BoolOp .And (a::b::rest) pos) (Zen tA tB'):=by
 intro wh qQ s σ H Q I h;refine isTrue_and (thn (ha qQ s σ H _ I h) λc s1 ⟨H1,I1,q1⟩=>?_);cases c with
 | true=>exact hb wh qQ s1 σ H1 Q I1 q1
 | false=>exact ⟨H1,I1,q1⟩
theorem Oz (ha:PT X a tA)(hb:PW X (.BoolOp .Or (b::rest) pos) tB'):PW X (.BoolOp .Or (a::b::rest) pos) (tOr tA tB'):=by
 intro wh qQ s σ H Q I h;refine isTrue_or (thn (ha qQ s σ H _ I h) λc s1 ⟨H1,I1,q1⟩=>?_);cases c with
 | true=>exact ⟨H1,I1,q1⟩
 | false=>exact hb wh qQ s1 σ H1 Q I1 q1
theorem JW (ha:PT X a tA):PT X (.UnaryOp .Not a pos) (Zeo tA):=by
 intro qQ s σ H Q I h;exact isTrue_not (ha qQ s σ H (λc H1=>Q (!c) H1) I h)
def ZcS (ta tb:TE):TE:=λσ H Q=>ta σ H λx H1=>∃c,x=.bl c/\if c=true then tb σ H1 Q else Q (.bl false) H1
def Zep (ta tb:TE):TE:=λσ H Q=>ta σ H λx H1=>∃c,x=.bl c/\if c=true then Q (.bl true) H1 else tb σ H1 Q
theorem ZK {op}{t:TE}(h:PE X a t):PE X (.BoolOp op [a] pos) t:=λqQ s σ H Q I hw=>BoolOp_one (h qQ s σ H Q I hw)
theorem Zbk (ha:PE X a ta)(hb:PE X (.BoolOp .And (b::rest) pos) tb):PE X (.BoolOp .And (a::b::rest) pos) (ZcS ta tb):=by
 intro qQ s σ H Q I h;refine BoolOp_and (thn (ha qQ s σ H _ I h) λv s1 ⟨x,H1,I1,r1,q1⟩=>?_);obtain ⟨c,rfl,q1⟩:=q1;cases r1;refine wpAny_truthy_bool ?_;cases c with
 | true=>exact hb qQ s1 σ H1 Q I1 q1
 | false=>exact ⟨.bl false,H1,I1,rfl,q1⟩
theorem ZcT (ha:PE X a ta)(hb:PE X (.BoolOp .Or (b::rest) pos) tb):PE X (.BoolOp .Or (a::b::rest) pos) (Zep ta tb):=by
 intro qQ s σ H Q I h;refine BoolOp_or (thn (ha qQ s σ H _ I h) λv s1 ⟨x,H1,I1,r1,q1⟩=>?_);obtain ⟨c,rfl,q1⟩:=q1;cases r1;refine wpAny_truthy_bool ?_;cases c with
 | false=>exact hb qQ s1 σ H1 Q I1 q1
 | true=>exact ⟨.bl true,H1,I1,rfl,q1⟩
def tIf (t:TT)(ta tb:TE):TE:=λσ H Q=>t σ H λc H1=>if c=true then ta σ H1 Q else tb σ H1 Q
theorem Oo {c:Expr}(hc:PT X c tA)(ha:PE X a ta)(hb:PE X b tb):PE X (.IfExp c a b pos) (tIf tA ta tb):=by
 intro qQ s σ H Q I h;refine wpAny_IfExp (thn (hc qQ s σ H _ I h) λd s1 ⟨H1,I1,q1⟩=>?_);cases d with
 | true=>exact ha qQ s1 σ H1 Q I1 q1
 | false=>exact hb qQ s1 σ H1 Q I1 q1
end
end L2
namespace L2
open PySem PySem.Spec PyProof.Rows
def SqL (K:W.Frag)(H:Hp)(a:Addr)(xs:List V):Prop:=
 Rd H a (.lst xs) \/
  ∃(o:Obj)(its:Array Value)(n:Nat),K.lookup a=some o/\o.cls=.type "list" /\ o.dict=none/\o.data=.seq its n/\its.size<=sizeLine/\Vals xs its.toList
def SqT (K:W.Frag)(H:Hp)(a:Addr)(xs:List V):Prop:=
 Rd H a (.tup xs) \/
  ∃(o:Obj)(its:Array Value)(n:Nat),K.lookup a=some o/\o.cls=.type "tuple" /\ o.data=.seq its n/\its.size<=sizeLine/\Vals xs its.toList
def Zeq:Value->Option V
 | .none=>some .non
 | .bool b=>some (.bl b)
 | .int i _=>some (.int i)
 | .str x _=>some (.str x)
 | .bytes b _=>some (.byt b)
 | .float b _=>some (.flt b)
 | .ref a=>some (.ref a)
 | .type n=>some (.ty n)
 | _=>none
theorem RelV.abs {x:V}{u:Value}(r:RelV x u):Zeq u=some x:=by
 cases x with
 | non=>cases r;rfl
 | bl _=>cases r;rfl
 | int _=>obtain ⟨t,rfl⟩:=r;rfl
 | str _=>obtain ⟨t,rfl⟩:=r;rfl
 | byt _=>obtain ⟨t,rfl⟩:=r;rfl
 | flt _=>obtain ⟨t,rfl⟩:=r;rfl
 | ref _=>cases r;rfl
 | ty _=>cases r;rfl
theorem RelV.inj {x y:V}{u:Value}(r:RelV x u)(q:RelV y u):x=y:=Option.some.inj (r.abs.symm.trans q.abs)
theorem Vals.inj:∀{xs ys:List V}{us:List Value},Vals xs us->Vals ys us->xs=ys
 | _,_,_,.nil,.nil=>rfl
 | _,_,_,.cons r t,.cons r' t'=>by rw [r.inj r',Vals.inj t t']
section
variable {X:Cx}{qQ:List (Addr×Obj)}{σ:St}{H:Hp}{s:Shared}{a:Addr}{xs ys:List V}
theorem SqL.of {K:W.Frag}(h:H a=some (.lst xs)):SqL K H a xs:=.inl (.inl h)
theorem SqT.of {K:W.Frag}(h:H a=some (.tup xs)):SqT K H a xs:=.inl (.inl h)
theorem Inv.list (I:Inv X qQ σ H s)(h:SqL X.K H a xs):∃its:List Value,Vals xs its/\PlainL s.heap a its.toArray/\xs.length<=sizeLine:=by
 rcases h with h | ⟨o,its,n,hk,hc,hd,hs,hz,r⟩
 ·obtain ⟨z,its,n,r,e⟩:=h.ok I.hok;exact ⟨its,r,⟨_,n,e,rfl,rfl,rfl⟩,z⟩
 ·refine ⟨its.toList,r,⟨o,n,I.kIn a o hk,hc,hd,by simpa using hs⟩,?_⟩;have e:=r.length;simp only [Array.length_toList] at e
  lia
theorem Inv.tuple (I:Inv X qQ σ H s)(h:SqT X.K H a xs):∃its:List Value,Vals xs its/\IsTup s.heap a its.toArray/\xs.length<=sizeLine:=by
 rcases h with h | ⟨o,its,n,hk,hc,hs,hz,r⟩
 ·obtain ⟨z,its,r,p⟩:=h.ok I.hok;exact ⟨its,r,p,z⟩
 ·refine ⟨its.toList,r,⟨o,I.kIn a o hk,hc,n,by simpa using hs⟩,?_⟩;have e:=r.length;simp only [Array.length_toList] at e
  lia
theorem Inv.list_inj (I:Inv X qQ σ H s)(h:SqL X.K H a xs)(h':SqL X.K H a ys):xs=ys:=by
 obtain ⟨its,r,⟨o,n,e,_,_,d⟩,_⟩:=I.list h;obtain ⟨its',r',⟨o',n',e',_,_,d'⟩,_⟩:=I.list h';rw [e] at e';cases e';rw [d] at d';injection d' with d1 _
 have:its=its':=by simpa using congrArg Array.toList d1
 subst this;exact r.inj r'
theorem Inv.tuple_inj (I:Inv X qQ σ H s)(h:SqT X.K H a xs)(h':SqT X.K H a ys):xs=ys:=by
 obtain ⟨its,r,⟨o,e,_,n,d⟩,_⟩:=I.tuple h;obtain ⟨its',r',⟨o',e',_,n',d'⟩,_⟩:=I.tuple h';rw [e] at e';cases e';rw [d] at d';injection d' with d1 _
 have:its=its':=by simpa using congrArg Array.toList d1
 subst this;exact r.inj r'
end
abbrev Cx.wish (X:Cx)(E:Value->Shared->Prop):Cx:={ X with xe:=E }
abbrev Cx.nox (X:Cx):Cx:=X.wish λ_ _=>False
theorem Cx.Ok.wish {X:Cx}(ok:X.Ok)(E:Value->Shared->Prop):(X.wish E).Ok:=
 ⟨ok.mod,ok.kind,ok.glob,ok.blt,ok.above,ok.inj,ok.has,ok.cab,ok.hd,ok.frames,ok.stk,ok.exf,ok.bs,ok.bsz,ok.noex,ok.exfs,ok.funs,ok.frf⟩
theorem Cx.Ok.unwish {X:Cx}{E:Value->Shared->Prop}(ok:(X.wish E).Ok):X.Ok:=
 ⟨ok.mod,ok.kind,ok.glob,ok.blt,ok.above,ok.inj,ok.has,ok.cab,ok.hd,ok.frames,ok.stk,ok.exf,ok.bs,ok.bsz,ok.noex,ok.exfs,ok.funs,ok.frf⟩
section
variable {X:Cx}{qQ:List (Addr×Obj)}{σ:St}{H:Hp}{s:Shared}{E:Value->Shared->Prop}
theorem Inv.wish (I:Inv X qQ σ H s)(E:Value->Shared->Prop):Inv (X.wish E) qQ σ H s:=⟨I.ok.wish E,I.os,I.bare,I.base,I.loc,I.cell,I.free,I.freeC,I.pin,I.hok,I.len⟩
theorem Inv.unwish (I:Inv (X.wish E) qQ σ H s):Inv X qQ σ H s:=⟨I.ok.unwish,I.os,I.bare,I.base,I.loc,I.cell,I.free,I.freeC,I.pin,I.hok,I.len⟩
theorem SP.unwish {D:Wx}{f:Flow}{s':Shared}(h:SP (X.wish E) qQ D f s'):SP X qQ D f s':=by
 cases f with
 | next=>obtain ⟨σ',H',I,q⟩:=h;exact ⟨σ',H',I.unwish,q⟩
 | brk=>obtain ⟨σ',H',I,q⟩:=h;exact ⟨σ',H',I.unwish,q⟩
 | cont=>obtain ⟨σ',H',I,q⟩:=h;exact ⟨σ',H',I.unwish,q⟩
 | ret u=>obtain ⟨v,σ',H',I,r,q⟩:=h;exact ⟨v,σ',H',I.unwish,r,q⟩
theorem PSs.nox {st:List Stmt}{t:TS}(h:PSs X.nox st t):PSs X st t:=λqQ s σ H D I hw=>
 wpAny_mono (h qQ s σ H D (I.wish _) hw) (λ_ _ q=>q.unwish) λ_ _ z=>False.elim z
end
section
variable {X:Cx}{st:Stmt}{rest:List Stmt}{t u:TS}{e:Expr}{te:TE}{pos:Pos}
def Zad:TS:=λD σ H=>D.nx σ H
def ZdN (t u:TS):TS:=λD σ H=>t { D with nx:=u D } σ H
theorem Gy:PSs X [] Zad:=λ_ _ σ H _ I h=>wpAny_execs_nil ⟨σ,H,I,h⟩
theorem Gd (h1:PS X st t)(h2:PSs X rest u):PSs X (st::rest) (ZdN t u):=by
 intro qQ s σ H D I h;refine wpAny_execs_cons (thn (h1 qQ s σ H { D with nx:=u D } I h) λf s1 q=>?_);cases f with
 | next=>
  obtain ⟨σ',H',I',q⟩:=q;exact h2 qQ s1 σ' H' D I' q
 | ret v=>exact q
 | brk=>exact q
 | cont=>exact q
theorem Gf (h1:PS X st t):PSs X [st] t:=by
 intro qQ s σ H D I h;refine wpAny_execs_cons (thn (h1 qQ s σ H D I h) λf s1 q=>?_);cases f with
 | next=>exact wpAny_execs_nil q
 | ret v=>exact q
 | brk=>exact q
 | cont=>exact q
theorem Inv.quiet {qQ:List (Addr×Obj)}{σ:St}{H:Hp}{s:Shared}(I:Inv X qQ σ H s):interactive X.env=false:=by simp [interactive,I.ok.kind]
def Zae (te:TE):TS:=λD σ H=>te σ H λ_ H1=>D.nx σ H1
theorem JQ (he:PE X e te)(hs:swapsWith e none pos.line X.env=pure false:=by rfl):PS X (.Expr e pos) (Zae te):=by
 intro qQ s σ H D I h;exact wpAny_Expr_any (thn (he qQ s σ H _ I h) λv s1 ⟨x,H1,I1,r1,q1⟩=>⟨σ,H1,I1,q1⟩) I.quiet hs
def Zer (te:TE):TS:=λD σ H=>te σ H D.rt
theorem Gu (he:PE X e te):PS X (.Return (some e) pos) (Zer te):=by
 intro qQ s σ H D I h;exact wpAny_Return_some (thn (he qQ s σ H _ I h) λv s1 ⟨x,H1,I1,r1,q1⟩=>⟨x,σ,H1,I1,r1,q1⟩)
def ZdO (c:TT)(t u:TS):TS:=λD σ H=>c σ H λb H1=>if b=true then t D σ H1 else u D σ H1
theorem GW {c:Expr}{a b:List Stmt}{tc:TT}(hc:PT X c tc)(ha:PSs X a t)(hb:PSs X b u):PS X (.If c a b pos) (ZdO tc t u):=by
 intro qQ s σ H D I h;refine wpAny_If (thn (hc qQ s σ H _ I h) λd s1 ⟨H1,I1,q1⟩=>?_);cases d with
 | true=>exact ha qQ s1 σ H1 D I1 q1
 | false=>exact hb qQ s1 σ H1 D I1 q1
end
abbrev TG:=V->St->Hp->(St->Hp->Prop)->Prop
abbrev TGs:=List V->St->Hp->(St->Hp->Prop)->Prop
def PG (X:Cx)(qU:Expr)(t:TG):Prop:=
 ∀(qQ:List (Addr×Obj))(s:Shared)(σ:St)(H:Hp)(v:V)(u:Value)(Q:St->Hp->Prop),Inv X qQ σ H s->RelV v u->t v σ H Q ->
  wpAny (model X.prog X.w) X.A (assign qU X.env u) (λ_ s'=>∃ σ' H',Inv X qQ σ' H' s'/\Q σ' H') X.xe s
def PGs (X:Cx)(ts:List Expr)(t:TGs):Prop:=
 ∀(qQ:List (Addr×Obj))(s:Shared)(σ:St)(H:Hp)(vs:List V)(us:List Value)(Q:St->Hp->Prop),Inv X qQ σ H s->Vals vs us->t vs σ H Q ->
  wpAny (model X.prog X.w) X.A (assignInOrder ((assignEach ts X.env).map (·.2)) us) (λ_ s'=>∃ σ' H',Inv X qQ σ' H' s'/\Q σ' H') X.xe s
abbrev ZcU:=V->V->V->Hp->(Hp->Prop)->Prop
def ZdP (X:Cx)(t:ZcU):Prop:=
 ∀(qQ:List (Addr×Obj))(s:Shared)(σ:St)(H:Hp)(o i v:V)(ov iv u:Value)(Q:Hp->Prop),Inv X qQ σ H s->RelV o ov->RelV i iv->RelV v u->t o i v H Q ->
  wpAny (model X.prog X.w) X.A (setItem ov iv u) (λ_ s'=>∃H',Inv X qQ σ H' s'/\Q H') X.xe s
section
variable {X:Cx}{pos:Pos}
def GG (i:Nat):TG:=λv σ H Q=>Q (σ.set i (some v)) H
theorem Gi {i:Nat}{x:Str}(hN:X.N.Nodup)(hi:X.N[i]?=some x)(hx:Loc X.env.scope x)(hf:X.fn x=true\/X.env.scope.names.lookup x=some .local:=by first | exact .inl rfl | exact .inr rfl | assumption):PG X (.Name x pos) (GG i):=by
 intro qQ s σ H v u Q I r h;exact wpAny_assign_Name (VN I hN hi hx r (λs' I'=>⟨_,H,I',h⟩) hf)
def Zes:TGs:=λvs σ H Q=>vs=[]/\Q σ H
def ZcV (t:TG)(u:TGs):TGs:=λvs σ H Q=>∃v r,vs=v::r/\t v σ H λσ' H'=>u r σ' H' Q
theorem J8:PGs X [] Zes:=by
 intro qQ s σ H vs us Q I r h;obtain ⟨e,h⟩:=h;subst e;cases r;exact assignInOrder_nil ⟨σ,H,I,h⟩
theorem GE {e:Expr}{es:List Expr}{t:TG}{u:TGs}(h1:PG X e t)(h2:PGs X es u)(hs:(assignEach (e::es) X.env).map (·.2)=assign e X.env::(assignEach es X.env).map (·.2):=by rfl):PGs X (e::es) (ZcV t u):=by
 intro qQ s σ H vs us Q I r h;obtain ⟨v,vr,e1,h⟩:=h;subst e1;cases r with
 | cons r rr=>
  rw [hs];refine assignInOrder_cons (thn (h1 qQ s σ H _ _ _ I r h) λ_ s1 ⟨σ1,H1,I1,q1⟩=>?_);exact h2 qQ s1 σ1 H1 _ _ Q I1 rr q1
def ZdQ (K:W.Frag)(n:Nat)(t:TGs):TG:=λv σ H Q=>∃a xs,v=.ref a/\SqT K H a xs/\xs.length=n/\t xs σ H Q
theorem Zbl {es:List Expr}{k:Nat}{t:TGs}{n:Nat}(hc:X.calm=true)(h:PGs X es t)(hn:(assignEach es X.env).length=n:=by rfl)(hst:(assignEach es X.env).findIdx? (·.1)=none:=by rfl):PG X (.Tuple es k pos) (ZdQ X.K n t):=by
 intro qQ s σ H v u Q I r hw;obtain ⟨a,xs,e1,hq,hl,hw⟩:=hw;subst e1;cases r;obtain ⟨its,rv,ht,hz⟩:=I.tuple hq;refine assign_Tuple_tuple (I.ok.hd hc) ht (by simp [hn,<-hl,rv.length]) hst λh' hx=>?_;have I1:Inv X qQ σ H { s with heap:=h' }:=I.kept (t':=s.toks) λb o e=>hx b o (Nat.ne_of_lt (Heap.lt_size e)) e;exact h qQ _ σ H xs _ Q I1 (by simpa using rv) hw
def Zet (to ti:TE)(t:ZcU):TG:=λv σ H Q=>to σ H λo H1=>ti σ H1 λi H2=>t o i v H2 λH3=>Q σ H3
theorem OS {o i:Expr}{to ti:TE}{t:ZcU}(ho:PE X o to)(hi:PE X i ti)(hs:ZdP X t)(ha:∀v,assign (.Subscript o i pos) X.env v=(do
   let ov <- holding [v] (eval o X.env)
   let iv <- holding [v,ov] (eval i X.env)
   standAt pos
   holding [v,ov,iv] (setItem ov iv v)
   release [v,ov,iv] []):=by intro _;rfl):PG X (.Subscript o i pos) (Zet to ti t):=by
 intro qQ s σ H v u Q I r h;rw [ha];refine wpAny_bind (wpAny_holding (thn (ho qQ s σ H _ I h) λov s1 ⟨x,H1,I1,r1,q1⟩=>?_));refine wpAny_bind (wpAny_holding (thn (hi qQ s1 σ H1 _ I1 q1) λiv s2 ⟨y,H2,I2,r2,q2⟩=>?_));refine wpAny_bind (wpAny_standAt (wpAny_bind (wpAny_holding (thn (hs qQ s2 σ H2 x y v ov iv u _ I2 r1 r2 r q2) λ_ s3 ⟨H3,I3,q3⟩=>?_))));exact wpAny_release ⟨σ,H3,I3,q3⟩
def ZcW (te:TE)(g:TG):TS:=λD σ H=>te σ H λx H1=>g x σ H1 D.nx
theorem Oh {tg e:Expr}{te:TE}{g:TG}(he:PE X e te)(hg:PG X tg g)(hs:swapsWithSole [tg] e pos.line X.env=pure false:=by rfl)(hw:swappedStores [tg] e X.env=pure none:=by rfl)(h1:(assignEach [tg] X.env).map (·.2)=[assign tg X.env]:=by rfl):PS X (.Assign [tg] e pos) (ZcW te g):=by
 intro qQ s σ H D I h;refine wpAny_Assign_stores (thn (he qQ s σ H _ I h) λv s1 ⟨x,H1,I1,r1,q1⟩=>?_) hs hw;rw [h1];exact thn (hg qQ s1 σ H1 x v _ I1 r1 q1) λ_ s2 q=>q
theorem Gq {i:Nat}{x:Str}{e:Expr}{te:TE}{pos':Pos}(hN:X.N.Nodup)(hi:X.N[i]?=some x)(hx:Loc X.env.scope x)(he:PE X e te)(hs:swapsWith e (some (.Name x pos')) pos.line X.env=pure false:=by rfl)(hf:X.fn x=true\/X.env.scope.names.lookup x=some .local:=by first | exact .inl rfl | exact .inr rfl | assumption) :
  PS X (.Assign [.Name x pos'] e pos) (ZcW te (GG i)):=by
 intro qQ s σ H D I h;refine wpAny_Assign_Name (thn (he qQ s σ H _ I h) λv s1 ⟨y,H1,I1,r1,q1⟩=>?_) hs;exact VN I1 hN hi hx r1 (λs2 I2=>⟨_,H1,I2,q1⟩) hf
def Zbm (c:TT)(tb:TS):TS:=λD σ H=>∃W:Nat->St->Hp->Prop,(∃m,W m σ H)/\∀m σ H,W m σ H ->
 c σ H λb H1=>if b=true then ∃N:St->Hp->Prop,(∀ σ' H',N σ' H'->∃m',m'<m/\W m' σ' H')/\tb { D with nx:=N,ct:=N,bk:=D.nx } σ H1 else D.nx σ H1
theorem VO {c:Expr}{body:List Stmt}{tc:TT}{tb:TS}(hp:PassesOwn (model X.prog X.w) X.A X.env X.xe)(hc:PT X c tc)(hb:PSs X body tb):PS X (.While c body [] pos) (Zbm tc tb):=by
 intro qQ s σ H D I h;obtain ⟨W,⟨m0,w0⟩,turn⟩:=h;refine wpAny_While (codeAny_whileLoop (λn s'=>∃ σ' H',Inv X qQ σ' H' s'/\W n σ' H') ?_ m0 ⟨σ,H,I,w0⟩);rintro n s1 ⟨σ1,H1,I1,w1⟩;refine wpAny_passesOwn hp (thn (hc qQ s1 σ1 H1 _ I1 (turn n σ1 H1 w1)) λb s2 ⟨H2,I2,q2⟩=>?_);cases b with
 | true=>
  obtain ⟨N,hN,q2⟩:=q2;rw [if_pos rfl];refine wpAny_passesOwn hp (thn (hb qQ s2 σ1 H2 _ I2 q2) λf s3 q3=>?_);cases f with
  | next=>
   obtain ⟨σ3,H3,I3,n3⟩:=q3;obtain ⟨m',hm,w3⟩:=hN σ3 H3 n3;exact ⟨m',hm,σ3,H3,I3,w3⟩
  | cont=>
   obtain ⟨σ3,H3,I3,n3⟩:=q3;obtain ⟨m',hm,w3⟩:=hN σ3 H3 n3;exact ⟨m',hm,σ3,H3,I3,w3⟩
  | brk=>exact q3
  | ret v=>exact q3
 | false=>
  rw [if_neg Bool.false_ne_true];exact wpAny_execs_nil ⟨σ1,H2,I2,q2⟩
end
structure It where
 go:Nat->Hp->Prop
 yld:Nat->Hp->V->Hp->Prop
 stop:Nat->Hp->Prop
def Yy (X:Cx)(qQ:List (Addr×Obj))(H:Hp)(b:Addr):Prop:=
 H b=none/\b≠X.env.locals/\b ∉ X.fs/\(b∈X.ex\/X.s₀.heap.objs.size<=b)/\(∀x c,X.env.cells.lookup x=some c->c≠b)/\∀p∈X.pn++qQ,p.1≠b
theorem Inv.fpOk {X:Cx}{qQ:List (Addr×Obj)}{σ:St}{H H':Hp}{s:Shared}{b:Addr}(I:Inv X qQ σ H s)(hb:s.heap.objs.size<=b)(hn:H' b=none):Yy X qQ H' b:=by
 refine ⟨hn,Nat.ne_of_gt (Nat.lt_of_lt_of_le I.lt hb),I.nofs hb,.inr (Nat.le_trans I.sz hb),λx c e z=>?_,λp hp z=>?_⟩
 ·obtain ⟨v,q⟩:=I.cell x c e;exact absurd (Nat.lt_of_lt_of_le q.lt (by rw [z];exact hb)) (Nat.lt_irrefl _)
 ·exact absurd (Nat.lt_of_lt_of_le (Heap.lt_size (I.pin p hp).1) (by rw [z];exact hb)) (Nat.lt_irrefl _)
structure YI (P:Program)(w:World)(K:W.Frag)(tg:Expr)(J:It)(fp:List Addr)(it:Addr)(tn:Nat->Heap->Prop):Prop where
 mem:it∈fp
 obj:∀i h,tn i h->∀b∈fp,∃o,h.get? b=some o/\∀v,o.data≠.cell v
 keep:∀i h h',tn i h->(∀b∈fp,∀o,h.get? b=some o->h'.get? b=some o)->tn i h'
 item:∀(X:Cx),X.prog=P->X.w=w->X.K=K->X.calm=true->∀(i:Nat)(qQ:List (Addr×Obj))(s:Shared)(σ:St)(H:Hp)(E:Value->Shared->Prop),Inv X qQ σ H s->(∀b∈fp,Yy X qQ H b)->tn i s.heap->J.go i H ->
  wpAny (model P w) X.A (pyNext (.ref it)) (λr s1=>∃u,r=some u /\
   wpAny (model P w) X.A (letOwnedTupleGo tg (.ref it) u) (λ_ s2=>∃x H',Inv X qQ σ H' s2/\RelV x u/\J.yld i H x H'/\tn (i+1) s2.heap/\∀b∈fp,H' b=none) E s1) E s
 done:∀(X:Cx),X.prog=P->X.w=w->X.K=K->X.calm=true->∀(i:Nat)(qQ:List (Addr×Obj))(s:Shared)(σ:St)(H:Hp)(E:Value->Shared->Prop),Inv X qQ σ H s->(∀b∈fp,Yy X qQ H b)->tn i s.heap->J.stop i H ->
  wpAny (model P w) X.A (pyNext (.ref it)) (λr s1=>r=none/\Inv X qQ σ H s1) E s
 self:∀(A:Around)(i:Nat)(s:Shared)(Q:Value->Shared->Prop)(E:Value->Shared->Prop),tn i s.heap->Q (.ref it) s->wpAny (model P w) A (pyIter (.ref it)) Q E s
abbrev TI:=St->Hp->(It->Hp->Prop)->Prop
def PIE (X:Cx)(qQ:List (Addr×Obj))(σ:St)(tg:Expr)(R:It->Hp->Prop)(itv:Value)(s2:Shared):Prop:=
 ∃(it:Addr)(fp:List Addr)(tn:Nat->Heap->Prop)(J:It)(H':Hp),itv=.ref it/\Inv X qQ σ H' s2/\YI X.prog X.w X.K tg J fp it tn/\tn 0 s2.heap/\(∀b∈fp,Yy X qQ H' b)/\R J H'
def PI (X:Cx)(tg iter:Expr)(wi:TI):Prop:=
 ∀(qQ:List (Addr×Obj))(s:Shared)(σ:St)(H:Hp)(R:It->Hp->Prop),Inv X qQ σ H s->wi σ H R ->
  wpAny (model X.prog X.w) X.A (eval iter X.env) (λv s1=>wpAny (model X.prog X.w) X.A (pyIter v) (PIE X qQ σ tg R) X.xe s1) X.xe s
theorem W4 {M:Model}{A:Around}{E:Value->Shared->Prop}{s:Shared}{tg:Expr}{it:Addr}{u:Value}{o:Obj}{n:String}{vs:Array Value}{Q:Unit->Shared->Prop}(ho:s.heap.get? it=some o)(hc:o.cls=.type n)(hd:o.data=.fields vs)(hn:["enumerate", "zip", "dict_itemiterator", "dict_reverseitemiterator", "odict_iterator", "itertools.zip_longest", "itertools.pairwise"].contains n=false)(hQ:Q () s):wpAny M A (letOwnedTupleGo tg (.ref it) u) Q E s:=by
 unfold letOwnedTupleGo;cases tg <;> first
  | exact wpAny_pure hQ
  | (cases u <;> first
    | exact wpAny_pure hQ
    | (refine wpAny_bind (wpAny_load ho ?_)
       rw [hc,hd];show wpAny M A (if (["enumerate", "zip", "dict_itemiterator", "dict_reverseitemiterator", "odict_iterator", "itertools.zip_longest", "itertools.pairwise"].contains n && vs[0]? == some (rawInt _))=true then _ else _) Q E s;rw [if_neg (by intro h;rw [hn,Bool.false_and] at h;cases h)];exact wpAny_pure hQ))
def Itl (K:W.Frag)(a:Addr):It:=
 ⟨λi H=>∃xs x,SqL K H a xs/\xs[i]?=some x,λi H x H'=>H'=H/\∀xs,SqL K H a xs->xs[i]?=some x,λi H=>∃xs,SqL K H a xs/\xs.length<=i⟩
def Itt (K:W.Frag)(a:Addr):It:=
 ⟨λi H=>∃xs x,SqT K H a xs/\xs[i]?=some x,λi H x H'=>H'=H/\∀xs,SqT K H a xs->xs[i]?=some x,λi H=>∃xs,SqT K H a xs/\xs.length<=i⟩
def Itr (lo:Int)(n:Nat):It:=⟨λi _=>i<n,λi H x H'=>H'=H/\x=.int (lo+i),λi _=>n<=i⟩
theorem W5 {P:Program}{w:World}{K:W.Frag}{tg:Expr}(a it:Addr):YI P w K tg (Itl K a) [it] it (λi h=>h.IsListIter it a i) where
 mem:=by simp
 obj:=λi h st b hb=>by
  have e:b=it:=by simpa using hb
  subst e;obtain ⟨o,e,c,d⟩:=st;exact ⟨o,e,λv z=>by rw [d] at z;cases z⟩
 keep:=λi h h' st k=>st.at λo e=>k it (by simp) o e
 item:=by
  intro X hP hw hK hc i qQ s σ H E I hf st hg;subst hP hw hK;obtain ⟨xs,x,hq,hx⟩:=hg;obtain ⟨its,rv,p,hz⟩:=I.list hq;obtain ⟨u,hu,ru⟩:=rv.get hx;obtain ⟨f0,f1,f2,f3,f4,f5⟩:=hf it (by simp);refine wpAny_pyNext_list_item st p.isList (x:=u) (by simpa using hu) λh' st' sb=>?_;have I1:Inv X qQ σ H { s with heap:=h' }:=I.turned (t':=s.toks) (λb o hb e=>(sb.2 b hb).trans e) f0 f1 f3 f4 f5;obtain ⟨o,e,c,d⟩:=id st';exact ⟨u,rfl,W4 (s:={ s with heap:=h' }) e c d (by decide) ⟨x,H,I1,ru,⟨rfl,λys hy=>by rw [I.list_inj hy hq];exact hx⟩,st',λb hb=>(hf b hb).1⟩⟩
 done:=by
  intro X hP hw hK hc i qQ s σ H E I hf st hg;subst hP hw hK;obtain ⟨xs,hq,hx⟩:=hg;obtain ⟨its,rv,p,hz⟩:=I.list hq;obtain ⟨f0,f1,f2,f3,f4,f5⟩:=hf it (by simp);have hl:=rv.length;exact wpAny_pyNext_list_end (I.ok.hd hc) st p.isList (by simp;lia) λh' eb=>⟨rfl,I.turned (t':=s.toks) (λb o hb e=>eb b o hb e) f0 f1 f3 f4 f5⟩
 self:=λ_ _ _ _ _ st h=>wpAny_pyIter_listiter st h
theorem Wy {P:Program}{w:World}{K:W.Frag}{tg:Expr}(a it:Addr):YI P w K tg (Itt K a) [it] it (λi h=>h.IsTupleIter it a i) where
 mem:=by simp
 obj:=λi h st b hb=>by
  have e:b=it:=by simpa using hb
  subst e;obtain ⟨o,e,c,d⟩:=st;exact ⟨o,e,λv z=>by rw [d] at z;cases z⟩
 keep:=λi h h' st k=>st.at λo e=>k it (by simp) o e
 item:=by
  intro X hP hw hK hc i qQ s σ H E I hf st hg;subst hP hw hK;obtain ⟨xs,x,hq,hx⟩:=hg;obtain ⟨its,rv,p,hz⟩:=I.tuple hq;obtain ⟨u,hu,ru⟩:=rv.get hx;obtain ⟨f0,f1,f2,f3,f4,f5⟩:=hf it (by simp);refine wpAny_pyNext_tuple_item st (show s.heap.IsTuple a its.toArray from p) (x:=u) (by simpa using hu) λh' st' sb=>?_;have I1:Inv X qQ σ H { s with heap:=h' }:=I.turned (t':=s.toks) (λb o hb e=>(sb.2 b hb).trans e) f0 f1 f3 f4 f5;obtain ⟨o,e,c,d⟩:=id st';exact ⟨u,rfl,W4 (s:={ s with heap:=h' }) e c d (by decide) ⟨x,H,I1,ru,⟨rfl,λys hy=>by rw [I.tuple_inj hy hq];exact hx⟩,st',λb hb=>(hf b hb).1⟩⟩
 done:=by
  intro X hP hw hK hc i qQ s σ H E I hf st hg;subst hP hw hK;obtain ⟨xs,hq,hx⟩:=hg;obtain ⟨its,rv,p,hz⟩:=I.tuple hq;obtain ⟨f0,f1,f2,f3,f4,f5⟩:=hf it (by simp);have hl:=rv.length;exact wpAny_pyNext_tuple_end (I.ok.hd hc) st (show s.heap.IsTuple a its.toArray from p) (by simp;lia) λh' eb=>⟨rfl,I.turned (t':=s.toks) (λb o hb e=>eb b o hb e) f0 f1 f3 f4 f5⟩
 self:=λ_ _ _ _ _ st h=>wpAny_pyIter_tupleiter st h
theorem Wz {P:Program}{w:World}{K:PySem.W.Frag}{tg:Expr}(it:Addr)(lo:Int)(n:Nat):YI P w K tg (Itr lo n) [it] it (λi h=>IsRangeIter h it (lo+(i:Nat) * 1) ((n:Int)-(i:Nat)) 1) where
 mem:=by simp
 obj:=λi h st b hb=>by
  have e:b=it:=by simpa using hb
  subst e;exact ⟨_,st,λv z=>by
   have z':Data.fields _=Data.cell v:=z;cases z'⟩
 keep:=λi h h' st k=>k it (by simp) _ st
 item:=by
  intro X hP hw hK hc i qQ s σ H E I hf st hg;subst hP hw hK;obtain ⟨f0,f1,f2,f3,f4,f5⟩:=hf it (by simp);have W:=Walks.range (prog:=X.prog) (w:=X.w) (I.ok.hd hc) it lo 1 n;refine W.item i s _ _ hg st λv h' tk hv st' kk=>?_;obtain ⟨t,rfl⟩:=hv;have I1:Inv X qQ σ H { s with heap:=h',toks:=tk }:=I.turned (λb o hb e=>kk b o (by simpa using hb) e) f0 f1 f3 f4 f5;refine ⟨_,rfl,W4 (s:={ s with heap:=h',toks:=tk }) (n := "range_iterator") st' rfl rfl (by decide) ⟨.int (lo+i),H,I1,⟨t,?_⟩,⟨rfl,rfl⟩,st',λb hb=>(hf b hb).1⟩⟩;rw [Int.mul_one]
 done:=by
  intro X hP hw hK hc i qQ s σ H E I hf st hg;subst hP hw hK;obtain ⟨f0,f1,f2,f3,f4,f5⟩:=hf it (by simp);exact wpAny_pyNext_range_end (I.ok.hd hc) st (by have:n<=i:=hg;lia) λh' eb=>⟨rfl,I.turned (t':=s.toks) (λb o hb e=>eb b o hb e) f0 f1 f3 f4 f5⟩
 self:=λ_ _ _ _ _ st h=>wpAny_pyIter_rangeiter st h
end L2
namespace L2
open PySem PySem.Spec PyProof.Rows
section
variable {X:Cx}{tg:Expr}
def Zbn (K:W.Frag)(tl:TE):TI:=λσ H R=>tl σ H λx H1=>∃a,x=.ref a/\(∃xs,SqL K H1 a xs)/\R (Itl K a) H1
def ZdR (K:W.Frag)(tl:TE):TI:=λσ H R=>tl σ H λx H1=>∃a,x=.ref a/\(∃xs,SqT K H1 a xs)/\R (Itt K a) H1
theorem Zaf {l:Expr}{tl:TE}(hl:PE X l tl):PI X tg l (Zbn X.K tl):=by
 intro qQ s σ H R I h;refine thn (hl qQ s σ H _ I h) λv s1 ⟨x,H1,I1,r1,q1⟩=>?_;obtain ⟨a,e,⟨xs,hq⟩,q⟩:=q1;subst e;cases r1;obtain ⟨its,rv,p,hz⟩:=I1.list hq;refine wpAny_pyIter_list p.isList ?_;refine ⟨s1.heap.objs.size,[s1.heap.objs.size],_,_,H1,rfl,I1.kept (t':=s1.toks) λb o e=>Heap.get?_push_of_some _ e,W5 a _,⟨_,Heap.get?_push_size _ rfl,rfl,rfl⟩,λb hb=>?_,q⟩;have e:b=s1.heap.objs.size:=by simpa using hb
 subst e;exact I1.fpOk (Nat.le_refl _) (I1.hok.fresh (Nat.le_refl _))
theorem Zbo {l:Expr}{tl:TE}(hl:PE X l tl):PI X tg l (ZdR X.K tl):=by
 intro qQ s σ H R I h;refine thn (hl qQ s σ H _ I h) λv s1 ⟨x,H1,I1,r1,q1⟩=>?_;obtain ⟨a,e,⟨xs,hq⟩,q⟩:=q1;subst e;cases r1;obtain ⟨its,rv,p,hz⟩:=I1.tuple hq;refine wpAny_pyIter_tuple (show s1.heap.IsTuple a its.toArray from p) ?_;refine ⟨s1.heap.objs.size,[s1.heap.objs.size],_,_,H1,rfl,I1.kept (t':=s1.toks) λb o e=>Heap.get?_push_of_some _ e,Wy a _,⟨_,Heap.get?_push_size _ rfl,rfl,rfl⟩,λb hb=>?_,q⟩;have e:b=s1.heap.objs.size:=by simpa using hb
 subst e;exact I1.fpOk (Nat.le_refl _) (I1.hok.fresh (Nat.le_refl _))
theorem VP {qQ:List (Addr×Obj)}{σ:St}{H:Hp}{s:Shared}{R:It->Hp->Prop}{E:Value->Shared->Prop}{lo hi:Int}{t u v:Tok}{tk:Nat}(I:Inv X qQ σ H s)(h1:-(2 ^ 62)<=lo)(h2:lo<2 ^ 62)(h3:-(2 ^ 62)<=hi)(h4:hi<2 ^ 62)(q:R (Itr lo (hi-lo).toNat) H):wpAny (model X.prog X.w) X.A (pyIter (.ref s.heap.objs.size)) (PIE X qQ σ tg R) E { s with heap:=s.heap.push { cls:=.type "range", data:=.fields #[.int lo t,.int hi u,.int 1 v] },toks:=tk }:=by
 refine wpAny_pyIter_range (IsRange.new ..) (small_one h1 h2 h3 h4) ?_;have I1:Inv X qQ σ H { s with heap:=s.heap.push { cls:=.type "range", data:=.fields #[.int lo t,.int hi u,.int 1 v] },toks:=tk }:=I.kept λb o e=>Heap.get?_push_of_some _ e;refine ⟨(s.heap.push { cls:=.type "range", data:=.fields #[.int lo t,.int hi u,.int 1 v] }).objs.size,[(s.heap.push { cls:=.type "range", data:=.fields #[.int lo t,.int hi u,.int 1 v] }).objs.size],_,_,H,rfl,
  I1.kept (t':=tk) λb o e=>Heap.get?_push_of_some _ e,Wz _ lo (hi-lo).toNat,?_,λb hb=>?_,q⟩
 ·have e1:lo+((0:Nat):Int) * 1=lo:=by simp
  have e2:(((hi-lo).toNat:Nat):Int)-((0:Nat):Int)=Builtin.Range.rangeSize lo hi 1:=by rw [rangeSize_one];split <;> lia
  show IsRangeIter _ _ (lo+((0:Nat):Int) * 1) ((((hi-lo).toNat:Nat):Int)-((0:Nat):Int)) 1;rw [e1,e2];exact Heap.get?_push_size _ rfl
 ·have e:b=(s.heap.push { cls:=.type "range", data:=.fields #[.int lo t,.int hi u,.int 1 v] }).objs.size:=by simpa using hb
  subst e;exact I1.fpOk (Nat.le_refl _) (I1.hok.fresh (Nat.le_refl _))
def ZcX (ta:TA):TI:=λσ H R=>ta σ H λvs H1=>∃j:Int,vs=[.int j]/\-(2 ^ 62)<=j/\j<2 ^ 62/\R (Itr 0 j.toNat) H1
def ZcY (ta:TA):TI:=λσ H R=>ta σ H λvs H1=>∃i j:Int,vs=[.int i,.int j]/\(-(2 ^ 62)<=i/\i<2 ^ 62/\-(2 ^ 62)<=j/\j<2 ^ 62)/\R (Itr i (j-i).toNat) H1
theorem Jw {a:Expr}{ta:TA}{p pos:Pos}(hg:Gl X "range")(hm:X.mg "range" = none)(ha:PA X [a] ta)(hs:starEach [a] X.env=[(false,eval a X.env)]:=by rfl):PI X tg (.Call (.Name "range" p) [a] [] pos) (ZcX ta):=by
 intro qQ s σ H R I h;refine Call_ (OR I hg hm boot_range (PyProof.Rows.callWith_type1 (thn (ha pos qQ s σ H _ I h) λus s1 ⟨vs,H1,I1,r1,q1⟩=>?_) hs rfl));obtain ⟨j,e,q1,q2,q⟩:=q1;subst e;cases r1 with
 | cons r rr=>
  cases rr;obtain ⟨t,rfl⟩:=r;exact call_range_1 (VP I1 (by lia) (by lia) q1 q2 (by simpa using q))
theorem W6 {a b:Expr}{ta:TA}{p pos:Pos}(hg:Gl X "range")(hm:X.mg "range" = none)(ha:PA X [a,b] ta)(hs:starEach [a,b] X.env=[(false,eval a X.env),(false,eval b X.env)]:=by rfl)(hs2:starEach [b] X.env=[(false,eval b X.env)]:=by rfl) :
  PI X tg (.Call (.Name "range" p) [a,b] [] pos) (ZcY ta):=by
 intro qQ s σ H R I h;refine Call_ (OR I hg hm boot_range (PyProof.Rows.callWith_type1 (thn (ha pos qQ s σ H _ I h) λus s1 ⟨vs,H1,I1,r1,q1⟩=>?_) (by rw [hs,hs2]) (by rw [hs2];rfl)));obtain ⟨i,j,e,⟨q1,q2,q3,q4⟩,q⟩:=q1;subst e;cases r1 with
 | cons r rr=>
  cases rr with
  | cons r' rr=>
   cases rr;obtain ⟨t,rfl⟩:=r;obtain ⟨t',rfl⟩:=r';exact call_range_2 (VP I1 q1 q2 q3 q4 q)
def Zeu (wi:TI)(g:TG)(tb:TS):TS:=λD σ H=>wi σ H λJ H1=>∃W:Nat->Nat->St->Hp->Prop,(∃m,W 0 m σ H1)/\∀i m σ H,W i m σ H ->
 (J.stop i H/\D.nx σ H)\/(J.go i H/\∃N:St->Hp->Prop,(∀ σ' H',N σ' H'->∃m',m'<m/\W (i+1) m' σ' H')/\∀x H',J.yld i H x H'->g x σ H' λσ2 H2=>tb { D with nx:=N,ct:=N,bk:=D.nx } σ2 H2)
def UC (fp:List Addr)(h:Heap):List (Addr×Obj):=fp.filterMap λb=>(h.get? b).map λo=>(b,o)
theorem JD {fp:List Addr}{h:Heap}{b:Addr}{o:Obj}(hb:b∈fp)(e:h.get? b=some o):(b,o)∈UC fp h:=List.mem_filterMap.mpr ⟨b,hb,by rw [e];rfl⟩
theorem W7 {fp:List Addr}{h:Heap}{p:Addr×Obj}(hp:p∈UC fp h):p.1∈fp/\h.get? p.1=some p.2:=by
 obtain ⟨b,hb,e⟩:=List.mem_filterMap.mp hp;cases q:h.get? b with
 | none=>rw [q] at e;cases e
 | some o=>
  rw [q] at e;have e':(b,o)=p:=Option.some.inj e;subst e';exact ⟨hb,q⟩
theorem Inv.pinned {qQ:List (Addr×Obj)}{σ:St}{H:Hp}{s:Shared}{fp:List Addr}(I:Inv X qQ σ H s)(hf:∀b∈fp,Yy X qQ H b)(ho:∀b∈fp,∃o,s.heap.get? b=some o/\∀v,o.data≠.cell v):Inv X (qQ++UC fp s.heap) σ H s:=
 I.pins_of λp hp=>(List.mem_append.mp hp).elim (λz=>I.pin p (List.mem_append_right _ z)) λz=>by
  obtain ⟨hb,e⟩:=W7 z;obtain ⟨f0,f1,f2,_⟩:=hf p.1 hb;obtain ⟨o,e',d⟩:=ho p.1 hb;rw [e] at e';cases e';exact ⟨e,f0,f1,f2,d⟩
theorem Inv.unpinned {qQ pl:List (Addr×Obj)}{σ:St}{H:Hp}{s:Shared}(I:Inv X (qQ++pl) σ H s):Inv X qQ σ H s:=I.pins_of λp hp=>I.pin p (List.mem_append_right _ (List.mem_append_left _ hp))
theorem GX {iter:Expr}{body:List Stmt}{wi:TI}{g:TG}{tb:TS}{pos:Pos}(hp:PassesOwn (model X.prog X.w) X.A X.env X.xe)(hc:X.calm=true)(hi:PI X tg iter wi)(hg:PG X tg g)(hb:PSs X body tb)(hs:∀x,foldedSetIterable iter X.env x=pure x:=by intro _;rfl):PS X (.For tg iter body [] pos) (Zeu wi g tb):=by
 intro qQ s σ H D I h;refine wpAny_For (thn (hi qQ s σ H _ I h) λv s1 h1=>thn h1 λitv s2 h2=>?_) hs;obtain ⟨it,fp,tn,J,H2,e,I2,T,st2,f2,W,⟨m0,w0⟩,turn⟩:=h2;subst e;have stat:∀{H':Hp},(∀b∈fp,H' b=none)->∀b∈fp,Yy X qQ H' b:=λhn b hb=>⟨hn b hb,(f2 b hb).2⟩;refine codeAny_forLoop_any (λn s'=>∃i σ' H',Inv X qQ σ' H' s'/\tn i s'.heap/\(∀b∈fp,H' b=none)/\W i n σ' H') ?_ m0 ⟨0,σ,H2,I2,st2,λb hb=>(f2 b hb).1,w0⟩;rintro n s3 ⟨i,σ3,H3,I3,st3,fr3,w3⟩;rcases turn i n σ3 H3 w3 with ⟨stop,qn⟩ | ⟨go,N,hN,step⟩
 ·refine wpAny_passesOwn hp (thn (T.done X rfl rfl rfl hc i qQ s3 σ3 H3 X.xe I3 (stat fr3) st3 stop) λr s4 ⟨hr,I4⟩=>?_);subst hr;exact wpAny_execs_nil ⟨σ3,H3,I4,qn⟩
 ·refine wpAny_passesOwn hp (thn (T.item X rfl rfl rfl hc i qQ s3 σ3 H3 X.xe I3 (stat fr3) st3 go) λr s4 ⟨u,hr,h4⟩=>?_);subst hr;refine wpAny_passesOwn hp (thn h4 λ_ s5 ⟨x,H5,I5,r5,y5,st5,fr5⟩=>?_);have I5':=I5.pinned (stat fr5) (T.obj _ _ st5);refine wpAny_passesOwn hp (thn (hg _ s5 σ3 H5 x u _ I5' r5 (step x H5 y5)) λ_ s6 ⟨σ6,H6,I6,q6⟩=>?_);refine wpAny_passesOwn hp (thn (hb _ s6 σ6 H6 _ I6 q6) λf s7 q7=>?_);have again:∀{σ7:St}{H7:Hp},Inv X (qQ++UC fp s5.heap) σ7 H7 s7->N σ7 H7->∃m,m<n/\∃i σ' H',Inv X qQ σ' H' s7/\tn i s7.heap/\(∀b∈fp,H' b=none)/\W i m σ' H':=λ{σ7 H7} I7 n7=>by
   obtain ⟨m',hm,w7⟩:=hN σ7 H7 n7;refine ⟨m',hm,i+1,σ7,H7,I7.unpinned,T.keep _ _ _ st5 λb hb o e=>(I7.pin (b,o) (List.mem_append_right _ (List.mem_append_right _ (JD hb e)))).1,λb hb=>?_,w7⟩;obtain ⟨o,e,d⟩:=T.obj _ _ st5 b hb;exact (I7.pin (b,o) (List.mem_append_right _ (List.mem_append_right _ (JD hb e)))).2.1
  cases f with
  | next=>obtain ⟨σ7,H7,I7,n7⟩:=q7;exact again I7 n7
  | cont=>obtain ⟨σ7,H7,I7,n7⟩:=q7;exact again I7 n7
  | brk=>obtain ⟨σ7,H7,I7,q7⟩:=q7;exact ⟨σ7,H7,I7.unpinned,q7⟩
  | ret v=>obtain ⟨x7,σ7,H7,I7,r7,q7⟩:=q7;exact ⟨x7,σ7,H7,I7.unpinned,r7,q7⟩
end
theorem Jk {K:PySem.W.Frag}{a:Addr}{xs:List V}{g:TG}{tb:TS}{D:Wx}{σ:St}{H:Hp}(Pv:Nat->St->Hp->Prop)(h0:Pv 0 σ H)(hl:∀i σ H,i<=xs.length->Pv i σ H->SqL K H a xs)(hs:∀i x σ H,xs[i]?=some x->Pv i σ H->g x σ H λσ2 H2=>tb { D with nx:=Pv (i+1),ct:=Pv (i+1),bk:=D.nx } σ2 H2)(hd:∀ σ H,Pv xs.length σ H->D.nx σ H) :
  ∃W:Nat->Nat->St->Hp->Prop,(∃m,W 0 m σ H)/\∀i m σ H,W i m σ H ->
   ((Itl K a).stop i H/\D.nx σ H)\/((Itl K a).go i H/\∃N:St->Hp->Prop,(∀ σ' H',N σ' H'->∃m',m'<m/\W (i+1) m' σ' H')/\∀x H',(Itl K a).yld i H x H'->g x σ H' λσ2 H2=>tb { D with nx:=N,ct:=N,bk:=D.nx } σ2 H2):=by
 refine ⟨λi m σ H=>m=xs.length-i/\i<=xs.length/\Pv i σ H,⟨xs.length,by simp,Nat.zero_le _,h0⟩,?_⟩;rintro i m σ H ⟨rfl,hi,p⟩;have q:=hl i σ H hi p;by_cases hlt:i<xs.length
 ·refine .inr ⟨⟨xs,xs[i],q,by simp [hlt]⟩,Pv (i+1),λσ' H' p'=>⟨xs.length-(i+1),by lia,rfl,hlt,p'⟩,λx H' y=>?_⟩;obtain ⟨e,y⟩:=y;subst e;exact hs i x σ _ (y xs q) p
 ·have e:i=xs.length:=by lia
  subst e;exact .inl ⟨⟨xs,q,Nat.le_refl _⟩,hd σ H p⟩
theorem Zag {K:PySem.W.Frag}{a:Addr}{xs:List V}{g:TG}{tb:TS}{D:Wx}{σ:St}{H:Hp}(Pv:Nat->St->Hp->Prop)(h0:Pv 0 σ H)(hl:∀i σ H,i<=xs.length->Pv i σ H->SqT K H a xs)(hs:∀i x σ H,xs[i]?=some x->Pv i σ H->g x σ H λσ2 H2=>tb { D with nx:=Pv (i+1),ct:=Pv (i+1),bk:=D.nx } σ2 H2)(hd:∀ σ H,Pv xs.length σ H->D.nx σ H) :
  ∃W:Nat->Nat->St->Hp->Prop,(∃m,W 0 m σ H)/\∀i m σ H,W i m σ H ->
   ((Itt K a).stop i H/\D.nx σ H)\/((Itt K a).go i H/\∃N:St->Hp->Prop,(∀ σ' H',N σ' H'->∃m',m'<m/\W (i+1) m' σ' H')/\∀x H',(Itt K a).yld i H x H'->g x σ H' λσ2 H2=>tb { D with nx:=N,ct:=N,bk:=D.nx } σ2 H2):=by
 refine ⟨λi m σ H=>m=xs.length-i/\i<=xs.length/\Pv i σ H,⟨xs.length,by simp,Nat.zero_le _,h0⟩,?_⟩;rintro i m σ H ⟨rfl,hi,p⟩;have q:=hl i σ H hi p;by_cases hlt:i<xs.length
 ·refine .inr ⟨⟨xs,xs[i],q,by simp [hlt]⟩,Pv (i+1),λσ' H' p'=>⟨xs.length-(i+1),by lia,rfl,hlt,p'⟩,λx H' y=>?_⟩;obtain ⟨e,y⟩:=y;subst e;exact hs i x σ _ (y xs q) p
 ·have e:i=xs.length:=by lia
  subst e;exact .inl ⟨⟨xs,q,Nat.le_refl _⟩,hd σ H p⟩
theorem JX {lo:Int}{n:Nat}{g:TG}{tb:TS}{D:Wx}{σ:St}{H:Hp}(Pv:Nat->St->Hp->Prop)(h0:Pv 0 σ H)(hs:∀i σ H,i<n->Pv i σ H->g (.int (lo+i)) σ H λσ2 H2=>tb { D with nx:=Pv (i+1),ct:=Pv (i+1),bk:=D.nx } σ2 H2)(hd:∀ σ H,Pv n σ H->D.nx σ H) :
  ∃W:Nat->Nat->St->Hp->Prop,(∃m,W 0 m σ H)/\∀i m σ H,W i m σ H ->
   ((Itr lo n).stop i H/\D.nx σ H)\/((Itr lo n).go i H/\∃N:St->Hp->Prop,(∀ σ' H',N σ' H'->∃m',m'<m/\W (i+1) m' σ' H')/\∀x H',(Itr lo n).yld i H x H'->g x σ H' λσ2 H2=>tb { D with nx:=N,ct:=N,bk:=D.nx } σ2 H2):=by
 refine ⟨λi m σ H=>m=n-i/\i<=n/\Pv i σ H,⟨n,by simp,Nat.zero_le _,h0⟩,?_⟩;rintro i m σ H ⟨rfl,hi,p⟩;by_cases hlt:i<n
 ·refine .inr ⟨hlt,Pv (i+1),λσ' H' p'=>⟨n-(i+1),by lia,rfl,hlt,p'⟩,λx H' y=>?_⟩;obtain ⟨e,y⟩:=y;subst e y;exact hs i σ _ hlt p
 ·have e:i=n:=by lia
  subst e;exact .inl ⟨Nat.le_refl _,hd σ H p⟩
end L2
namespace L2
open PySem PySem.Spec PyProof.Rows
abbrev R2:=V->V->Hp->VK->Prop
def OpR (X:Cx)(f:Value->Value->Sem Value)(r:R2):Prop:=
 ∀(qQ:List (Addr×Obj))(s:Shared)(σ:St)(H:Hp)(x y:V)(v u:Value)(Q:VK),Inv X qQ σ H s->RelV x v->RelV y u->r x y H Q ->
  wpAny (model X.prog X.w) X.A (f v u) (EP X qQ σ Q) X.xe s
def UnR (X:Cx)(f:Value->Sem Value)(r:V->Hp->VK->Prop):Prop:=
 ∀(qQ:List (Addr×Obj))(s:Shared)(σ:St)(H:Hp)(x:V)(v:Value)(Q:VK),Inv X qQ σ H s->RelV x v->r x H Q ->
  wpAny (model X.prog X.w) X.A (f v) (EP X qQ σ Q) X.xe s
def Js (X:Cx)(f:Value)(r:List V->Hp->VK->Prop):Prop:=
 ∀(qQ:List (Addr×Obj))(s:Shared)(σ:St)(H:Hp)(xs:List V)(us:List Value)(Q:VK),Inv X qQ σ H s->Vals xs us->r xs H Q ->
  wpAny (model X.prog X.w) X.A (call f us) (EP X qQ σ Q) X.xe s
def Zev (X:Cx)(r:V->Hp->(Bool->Hp->Prop)->Prop):Prop:=
 ∀(qQ:List (Addr×Obj))(s:Shared)(σ:St)(H:Hp)(x:V)(v:Value)(Q:Bool->Hp->Prop),Inv X qQ σ H s->RelV x v->r x H Q ->
  wpAny (model X.prog X.w) X.A (truthy v) (TP X qQ σ Q) X.xe s
def tOp (r:R2)(ta tb:TE):TE:=λσ H Q=>ta σ H λx H1=>tb σ H1 λy H2=>r x y H2 Q
def tUn (r:V->Hp->VK->Prop)(ta:TE):TE:=λσ H Q=>ta σ H λx H1=>r x H1 Q
def rI (C:Int->Int->Prop)(g:Int->Int->V):R2:=λx y H Q=>∃i j,x=.int i/\y=.int j/\C i j/\Q (g i j) H
def rI0 (g:Int->Int->V):R2:=λx y H Q=>∃i j,x=.int i/\y=.int j/\Q (g i j) H
def rU (g:Int->V):V->Hp->VK->Prop:=λx H Q=>∃i,x=.int i/\Q (g i) H
section
variable {X:Cx}{a b c:Expr}{ta tb tc:TE}{pos:Pos}
theorem ZcZ (ha:PE X a ta)(hb:PE X b tb){qQ:List (Addr×Obj)}{s:Shared}{σ:St}{H:Hp}{R:V->V->Hp->Prop}(I:Inv X qQ σ H s)(h:ta σ H λx H1=>tb σ H1 λy H2=>R x y H2){Q:Value->Shared->Prop}{f:Value->Value->Sem Value}(hf:∀v u s2 x y H2,Inv X qQ σ H2 s2->RelV x v->RelV y u->R x y H2->wpAny (model X.prog X.w) X.A (f v u) Q X.xe s2) :
  wpAny (model X.prog X.w) X.A (eval a X.env) (λv s₁=>wpAny (model X.prog X.w) X.A (eval b X.env) (λu s₂=>wpAny (model X.prog X.w) X.A (f v u) Q X.xe s₂) X.xe s₁) X.xe s:=by
 refine thn (ha qQ s σ H _ I h) λv s1 ⟨x,H1,I1,r1,q1⟩=>?_;refine thn (hb qQ s1 σ H1 _ I1 q1) λu s2 ⟨y,H2,I2,r2,q2⟩=>?_;exact hf v u s2 x y H2 I2 r1 r2 q2
theorem Gx {op:Operator}{r:R2}(ho:OpR X (binaryOp op) r)(ha:PE X a ta)(hb:PE X b tb):PE X (.BinOp a op b pos) (tOp r ta tb):=by
 intro qQ s σ H Q I h;exact wpAny_BinOp (ZcZ ha hb I h λv u s2 x y H2 I2 rx ry q=>ho qQ s2 σ H2 x y v u Q I2 rx ry q)
theorem Zbp {op:UnaryOp}{r:V->Hp->VK->Prop}(ho:UnR X (unaryOp op) r)(ha:PE X a ta):PE X (.UnaryOp op a pos) (tUn r ta):=by
 intro qQ s σ H Q I h;exact UnaryOp_ (thn (ha qQ s σ H _ I h) λv s1 ⟨x,H1,I1,r1,q1⟩=>ho qQ s1 σ H1 x v Q I1 r1 q1)
theorem opI {f:Value->Value->Sem Value}{C:Int->Int->Prop}{g:Int->Int->Int}(rule:∀(i j:Int)(t u:Tok)(s:Shared)(Q:Value->Shared->Prop)(E:Value->Shared->Prop),C i j->Q (.int (g i j) s.toks) { s with toks:=s.toks+1 }->wpAny (model X.prog X.w) X.A (f (.int i t) (.int j u)) Q E s) :
  OpR X f (rI C λi j=>.int (g i j)):=by
 intro qQ s σ H x y v u Q I rx ry h;obtain ⟨i,j,rfl,rfl,hc,q⟩:=h;obtain ⟨t,rfl⟩:=rx;obtain ⟨t',rfl⟩:=ry;exact rule i j t t' s _ _ hc ⟨.int (g i j),H,I.tok _,⟨_,rfl⟩,q⟩
theorem ZdS {f:Value->Value->Sem Value}{g:Int->Int->Int}(rule:∀(i j:Int)(t u:Tok)(s:Shared)(Q:Value->Shared->Prop)(E:Value->Shared->Prop),Q (.int (g i j) s.toks) { s with toks:=s.toks+1 }->wpAny (model X.prog X.w) X.A (f (.int i t) (.int j u)) Q E s) :
  OpR X f (rI0 λi j=>.int (g i j)):=by
 intro qQ s σ H x y v u Q I rx ry h;obtain ⟨i,j,rfl,rfl,q⟩:=h;obtain ⟨t,rfl⟩:=rx;obtain ⟨t',rfl⟩:=ry;exact rule i j t t' s _ _ ⟨.int (g i j),H,I.tok _,⟨_,rfl⟩,q⟩
theorem ZcF {f:Value->Value->Sem Value}{g:Int->Int->Bool}(rule:∀(i j:Int)(t u:Tok)(s:Shared)(Q:Value->Shared->Prop)(E:Value->Shared->Prop),Q (.bool (g i j)) s->wpAny (model X.prog X.w) X.A (f (.int i t) (.int j u)) Q E s) :
  OpR X f (rI0 λi j=>.bl (g i j)):=by
 intro qQ s σ H x y v u Q I rx ry h;obtain ⟨i,j,rfl,rfl,q⟩:=h;obtain ⟨t,rfl⟩:=rx;obtain ⟨t',rfl⟩:=ry;exact rule i j t t' s _ _ ⟨.bl (g i j),H,I,rfl,q⟩
def Zew (i j:Int):Prop:=0<=j/\j<=1000000/\i.natAbs<2 ^ 64
def CMul (i j:Int):Prop:=(-(2 ^ 64)<i/\i<2 ^ 64)\/(-(2 ^ 64)<j/\j<2 ^ 64)
theorem CMul.ok {i j:Int}(h:CMul i j):IntMulOk i j:=by
 rcases h with ⟨h1,h2⟩ | ⟨h1,h2⟩
 ·exact .of_left (intBits_le_64 h1 h2)
 ·exact .of_right (intBits_le_64 h1 h2)
theorem GF:OpR X (binaryOp .Add) (rI0 λi j=>.int (i+j)):=ZdS λ_ _ _ _ _ _ _ q=>add_int q
theorem W8:OpR X (binaryOp .Sub) (rI0 λi j=>.int (i-j)):=ZdS λ_ _ _ _ _ _ _ q=>sub_int q
theorem Jd:OpR X (binaryOp .Mult) (rI CMul λi j=>.int (i * j)):=opI λ_ _ _ _ _ _ _ hc q=>mul_int q hc.ok
theorem OT:OpR X (binaryOp .Mod) (rI (λ_ j=>0<j) λi j=>.int (i % j)):=opI λi j _ _ _ _ _ hc q=>by
 have h1:(0:Int)<j:=hc;exact mod_int' (by lia) (by rw [Int.fmod_eq_emod_of_nonneg i (by lia)];exact q)
theorem Zbq:OpR X (binaryOp .Pow) (rI Zew λi j=>.int (i ^ j.toNat)):=opI λ_ _ _ _ _ _ _ hc q=>pow_int_small hc.1 hc.2.1 hc.2.2 q
end
def ZdT:V->V->Bool
 | .non,.non=>true | .non,.int _=>true | .int _,.non=>true | .non,.bl _=>true | .bl _,.non=>true | .non,.str _=>true | .str _,.non=>true
 | .int _,.int _=>true | .bl _,.bl _=>true | .str _,.str _=>true | .byt _,.byt _=>true
 | .int _,.str _=>true | .str _,.int _=>true | .bl _,.str _=>true | .str _,.bl _=>true
 | _,_=>false
def rEq:R2:=λx y H Q=>ZdT x y=true/\Q (.bl (decide (x=y))) H
def rNe:R2:=λx y H Q=>ZdT x y=true/\Q (.bl (!decide (x=y))) H
theorem W9 {i j:Int}:decide (V.int i=V.int j)=(i == j):=by
 rw [Bool.eq_iff_iff];simp
theorem ZL {i j:Bool}:decide (V.bl i=V.bl j)=(i == j):=by
 rw [Bool.eq_iff_iff];simp
theorem Xa {i j:Str}:decide (V.str i=V.str j)=(i == j):=by
 rw [Bool.eq_iff_iff];simp
theorem Xb {i j:Array UInt8}:decide (V.byt i=V.byt j)=(i.toList == j.toList):=by
 rw [Bool.eq_iff_iff];cases i;cases j;simp
section
variable {X:Cx}{a b c:Expr}{ta tb tc:TE}{pos:Pos}
theorem GB {qQ:List (Addr×Obj)}{σ:St}{H:Hp}{s:Shared}{Q:VK}{k k':Bool}(I:Inv X qQ σ H s)(q:Q (.bl k) H)(e:k=k'):EP X qQ σ Q (.bool k') s:=by
 subst e;exact ⟨.bl k,H,I,rfl,q⟩
theorem Xc:OpR X (compareOp .Eq) rEq:=by
 intro qQ s σ H x y v u Q I rx ry h;obtain ⟨hs,q⟩:=h;cases x with
 | non=>
  cases rx;cases y with
  | non=>cases ry;exact PySem.EqNone.eq_none_none (GB I q (by simp))
  | bl j=>cases ry;exact PySem.EqNone.eq_none_bool (GB I q (by simp))
  | int j=>obtain ⟨t',rfl⟩:=ry;exact PySem.EqNone.eq_none_int (GB I q (by simp))
  | str j=>obtain ⟨t',rfl⟩:=ry;exact PySem.EqNone.eq_none_str (GB I q (by simp))
  | _=>exact absurd (show false=true from hs) Bool.false_ne_true
 | bl i=>
  cases rx;cases y with
  | non=>cases ry;exact PySem.EqNone.eq_bool_none (GB I q (by simp))
  | bl j=>cases ry;exact eq_bool (GB I q ZL)
  | str j=>obtain ⟨t',rfl⟩:=ry;exact PySem.EqMixed.eq_bool_str (GB I q (by simp))
  | _=>exact absurd (show false=true from hs) Bool.false_ne_true
 | int i=>
  obtain ⟨t,rfl⟩:=rx;cases y with
  | non=>cases ry;exact PySem.EqNone.eq_int_none (GB I q (by simp))
  | int j=>obtain ⟨t',rfl⟩:=ry;exact eq_int (GB I q W9)
  | str j=>obtain ⟨t',rfl⟩:=ry;exact PySem.EqMixed.eq_int_str (GB I q (by simp))
  | _=>exact absurd (show false=true from hs) Bool.false_ne_true
 | str i=>
  obtain ⟨t,rfl⟩:=rx;cases y with
  | non=>cases ry;exact PySem.EqNone.eq_str_none (GB I q (by simp))
  | bl j=>cases ry;exact PySem.EqMixed.eq_str_bool (GB I q (by simp))
  | int j=>obtain ⟨t',rfl⟩:=ry;exact PySem.EqMixed.eq_str_int (GB I q (by simp))
  | str j=>obtain ⟨t',rfl⟩:=ry;exact eq_str (GB I q Xa)
  | _=>exact absurd (show false=true from hs) Bool.false_ne_true
 | byt i=>
  obtain ⟨t,rfl⟩:=rx;cases y with
  | byt j=>obtain ⟨t',rfl⟩:=ry;exact W.eq_bytes (GB I q Xb)
  | _=>exact absurd (show false=true from hs) Bool.false_ne_true
 | _=>cases y <;> exact absurd (show false=true from hs) Bool.false_ne_true
theorem YJ:OpR X (compareOp .NotEq) rNe:=by
 intro qQ s σ H x y v u Q I rx ry h;obtain ⟨hs,q⟩:=h;cases x with
 | non=>
  cases rx;cases y with
  | non=>cases ry;exact PySem.EqNone.ne_none_none (GB I q (by simp))
  | bl j=>cases ry;exact PySem.EqNone.ne_none_bool (GB I q (by simp))
  | int j=>obtain ⟨t',rfl⟩:=ry;exact PySem.EqNone.ne_none_int (GB I q (by simp))
  | str j=>obtain ⟨t',rfl⟩:=ry;exact PySem.EqNone.ne_none_str (GB I q (by simp))
  | _=>exact absurd (show false=true from hs) Bool.false_ne_true
 | bl i=>
  cases rx;cases y with
  | non=>cases ry;exact PySem.EqNone.ne_bool_none (GB I q (by simp))
  | bl j=>cases ry;exact ne_bool (GB I q (congrArg not ZL))
  | str j=>obtain ⟨t',rfl⟩:=ry;exact PySem.EqMixed.ne_bool_str (GB I q (by simp))
  | _=>exact absurd (show false=true from hs) Bool.false_ne_true
 | int i=>
  obtain ⟨t,rfl⟩:=rx;cases y with
  | non=>cases ry;exact PySem.EqNone.ne_int_none (GB I q (by simp))
  | int j=>obtain ⟨t',rfl⟩:=ry;exact ne_int (GB I q (congrArg not W9))
  | str j=>obtain ⟨t',rfl⟩:=ry;exact PySem.EqMixed.ne_int_str (GB I q (by simp))
  | _=>exact absurd (show false=true from hs) Bool.false_ne_true
 | str i=>
  obtain ⟨t,rfl⟩:=rx;cases y with
  | non=>cases ry;exact PySem.EqNone.ne_str_none (GB I q (by simp))
  | bl j=>cases ry;exact PySem.EqMixed.ne_str_bool (GB I q (by simp))
  | int j=>obtain ⟨t',rfl⟩:=ry;exact PySem.EqMixed.ne_str_int (GB I q (by simp))
  | str j=>obtain ⟨t',rfl⟩:=ry;exact ne_str (GB I q (congrArg not Xa))
  | _=>exact absurd (show false=true from hs) Bool.false_ne_true
 | byt i=>
  obtain ⟨t,rfl⟩:=rx;cases y with
  | byt j=>obtain ⟨t',rfl⟩:=ry;exact W.ne_bytes (GB I q (congrArg not Xb))
  | _=>exact absurd (show false=true from hs) Bool.false_ne_true
 | _=>cases y <;> exact absurd (show false=true from hs) Bool.false_ne_true
theorem JY:OpR X (compareOp .Lt) (rI0 λi j=>.bl (decide (i<j))):=ZcF λ_ _ _ _ _ _ _ q=>lt_int q
theorem Zc0:OpR X (compareOp .LtE) (rI0 λi j=>.bl (decide (i<=j))):=ZcF λ_ _ _ _ _ _ _ q=>le_int q
theorem Zc1:OpR X (compareOp .Gt) (rI0 λi j=>.bl (decide (j<i))):=ZcF λ_ _ _ _ _ _ _ q=>gt_int q
theorem YK:OpR X (compareOp .GtE) (rI0 λi j=>.bl (decide (j<=i))):=ZcF λ_ _ _ _ _ _ _ q=>ge_int q
theorem ZM:OpR X (compareOp .Is) (λx y H Q=>y=.non/\Q (.bl (decide (x=.non))) H):=by
 intro qQ s σ H x y v u Q I rx ry h;obtain ⟨rfl,q⟩:=h;cases ry;refine is_none_gen (GB I q ?_);cases x <;> first
  | (cases rx;rfl)
  | (obtain ⟨t,rfl⟩:=rx;rfl)
theorem Xd:OpR X (compareOp .IsNot) (λx y H Q=>y=.non/\Q (.bl (!decide (x=.non))) H):=by
 intro qQ s σ H x y v u Q I rx ry h;obtain ⟨rfl,q⟩:=h;cases ry;refine isnot_none_gen (GB I q ?_);cases x <;> first
  | (cases rx;rfl)
  | (obtain ⟨t,rfl⟩:=rx;rfl)
theorem Gw (b:Expr){op:CmpOp}(h:op≠.In:=by decide)(h2:op≠.NotIn:=by decide):behindInMarks op b=false:=by
 have e1:(op == CmpOp.In)=false:=by cases op <;> first | rfl | exact absurd rfl h
 have e2:(op == CmpOp.NotIn)=false:=by cases op <;> first | rfl | exact absurd rfl h2
 cases b <;> simp [behindInMarks,e1,e2]
theorem Jl {op:CmpOp}{r:R2}(ho:OpR X (compareOp op) r)(ha:PE X a ta)(hb:PE X b tb)(hm:behindInMarks op b=false):PE X (.Compare a [op] [b] pos) (tOp r ta tb):=by
 intro qQ s σ H Q I h;exact wpAny_Compare1 (ZcZ ha hb I h λv u s2 x y H2 I2 rx ry q=>ho qQ s2 σ H2 x y v u Q I2 rx ry q) hm
def Zah (t:TE):TT:=λσ H Q=>t σ H λx H'=>∃k,x=.bl k/\Q k H'
theorem Gr {op:CmpOp}{r:R2}(ho:OpR X (compareOp op) r)(ha:PE X a ta)(hb:PE X b tb)(hm:behindInMarks op b=false):PT X (.Compare a [op] [b] pos) (Zah (tOp r ta tb)):=by
 intro qQ s σ H Q I h;refine wpAny_isTrue_Compare1 (thn (ha qQ s σ H _ I h) λv s1 ⟨x,H1,I1,r1,q1⟩=>thn (hb qQ s1 σ H1 _ I1 q1) λu s2 ⟨y,H2,I2,r2,q2⟩=>
  thn (ho qQ s2 σ H2 x y v u _ I2 r1 r2 q2) λc s3 ⟨z,H3,I3,r3,k,e,q3⟩=>?_) hm
 subst e;cases r3;exact wpAny_truthy_bool ⟨H3,I3,q3⟩
def Zbr (r r':R2)(ta tb tc:TE):TE:=λσ H Q=>ta σ H λx H1=>tb σ H1 λy H2=>r x y H2 λz H3=>∃k,z=.bl k /\
 (if k=true then tc σ H3 λw' H4=>r' y w' H4 Q else Q (.bl false) H3)
theorem YL {op op':CmpOp}{r r':R2}(ho:OpR X (compareOp op) r)(ho':OpR X (compareOp op') r')(ha:PE X a ta)(hb:PE X b tb)(hc:PE X c tc)(hm:lastMarks [op,op'] [b,c]=false:=by with_unfolding_all rfl):PT X (.Compare a [op,op'] [b,c] pos) (Zah (Zbr r r' ta tb tc)):=by
 intro qQ s σ H Q I h;refine isTrue_chain (thn (ha qQ s σ H _ I h) λv s1 ⟨x,H1,I1,r1,q1⟩=>test_link (thn (hb qQ s1 σ H1 _ I1 q1) λu s2 ⟨y,H2,I2,r2,q2⟩=>
  thn (ho qQ s2 σ H2 x y v u _ I2 r1 r2 q2) λd s3 ⟨z,H3,I3,r3,k,e,q3⟩=>?_)) hm
 subst e;cases r3;refine wpAny_truthy_bool ?_;cases k with
 | false=>
  obtain ⟨k',e',q'⟩:=q3;cases e';exact ite_ff ⟨H3,I3,q'⟩
 | true=>
  refine ite_tt (test_last (thn (hc qQ s3 σ H3 _ I3 q3) λw' s4 ⟨z',H4,I4,r4,q4⟩=>thn (ho' qQ s4 σ H4 y z' u w' _ I4 r2 r4 q4) λd' s5 ⟨z2,H5,I5,r5,k2,e2,q5⟩=>?_));subst e2;cases r5;exact wpAny_truthy_bool ⟨H5,I5,q5⟩
def ZdU (K:W.Frag)(x:V)(H:Hp)(k:Bool):Prop:=
 match x with
 | .non=>k=false
 | .bl b=>k=b
 | .int i=>k=(i != 0)
 | .str y=>y.length<=sizeLine/\k=((y.length:Int) != 0)
 | .byt y=>y.size<=sizeLine/\k=((y.size:Int) != 0)
 | .ref p=>(∃xs,SqL K H p xs/\k=!xs.isEmpty)\/(∃xs,SqT K H p xs/\k=!xs.isEmpty)\/∃kvs,H p=some (.dK kvs)/\k=!kvs.isEmpty
 | _=>False
theorem OU {κ:Type}{kvs:List (κ×V)}{vs:List (κ×Value)}(r:KV kvs vs):(!vs.isEmpty)=!kvs.isEmpty:=by
 cases r <;> rfl
theorem J9 {xs:List V}{its:List Value}(r:Vals xs its):(!its.toArray.isEmpty)=!xs.isEmpty:=by
 cases r <;> simp
theorem OA:(sizeLine:Nat)<2 ^ 63:=by rw [sizeLine_eq];decide
theorem Zbs:Zev X (λx H Q=>∃k,ZdU X.K x H k/\Q k H):=by
 intro qQ s σ H x v Q I rx h;obtain ⟨k,e,q⟩:=h;have hl:=OA;have hs:sizeLine=16777216:=sizeLine_eq;cases x with
 | non=>
  cases rx;have e':k=false:=e;subst e';exact truthy_none ⟨H,I,q⟩
 | bl b=>
  cases rx;have e':k=b:=e;subst e';exact wpAny_truthy_bool ⟨H,I,q⟩
 | int i=>
  obtain ⟨t,rfl⟩:=rx;have e':k=(i != 0):=e;subst e';exact PySem.P.truthy_int ⟨H,I,q⟩
 | str y=>
  obtain ⟨t,rfl⟩:=rx;obtain ⟨hy,e'⟩:y.length<=sizeLine/\k=((y.length:Int) != 0):=e;subst e';exact PySem.P.truthy_str (by lia) ⟨H,I.tok _,q⟩
 | byt y=>
  obtain ⟨t,rfl⟩:=rx;obtain ⟨hy,e'⟩:y.size<=sizeLine/\k=((y.size:Int) != 0):=e;subst e';exact W.truthy_bytes (by lia) ⟨H,I.tok _,q⟩
 | ref p=>
  cases rx;have e':(∃xs,SqL X.K H p xs/\k=!xs.isEmpty)\/(∃xs,SqT X.K H p xs/\k=!xs.isEmpty)\/∃kvs,H p=some (.dK kvs)/\k=!kvs.isEmpty:=e;rcases e' with ⟨xs,hx,e'⟩ | ⟨xs,hx,e'⟩ | ⟨kvs,hx,e'⟩
  ·subst e';obtain ⟨its,r,pl,hz⟩:=I.list hx;have qV:=r.length;exact wpAny_truthy_list pl.isList (by simp only [List.size_toArray];lia) ⟨H,I.tok _,by rw [J9 r];exact q⟩
  ·subst e';obtain ⟨its,r,pl,hz⟩:=I.tuple hx;have qV:=r.length;exact truthy_tuple pl (by simp only [List.size_toArray];lia) ⟨H,I.tok _,by rw [J9 r];exact q⟩
  ·subst e';obtain ⟨hz,hS,vs,r,m⟩:kvs.length<=sizeLine/\(p == sysModules)=false/\∃vs,KV kvs vs/\s.heap.DictOf (Gz X.prog X.w) p vs:=I.hok p _ hx;have qV:kvs.length=vs.length:=Paired.length r;exact wpAny_truthy_dict hS m (by lia) ⟨H,I.tok _,by rw [OU r];exact q⟩
 | _=>exact (show False from e).elim
theorem JE (ha:PE X a ta)(he:∀whole,isTrue a X.env whole=(do let v <- whole;standAt a.pos;holding [v] (truthy v))) :
  PT X a (λσ H Q=>ta σ H λx H'=>∃k,ZdU X.K x H' k/\Q k H'):=by
 intro qQ s σ H Q I h;exact isTrue_plain (thn (ha qQ s σ H _ I h) λv s1 ⟨x,H1,I1,r1,q1⟩=>Zbs qQ s1 σ H1 x v Q I1 r1 q1) (he _)
theorem OV:OpR X (binaryOp .Add) (λx y H Q=>∃i j,x=.str i/\y=.str j/\i.length+j.length<=sizeLine/\Q (.str (i++j)) H):=by
 intro qQ s σ H x y v u Q I rx ry h;obtain ⟨i,j,rfl,rfl,hz,q⟩:=h;obtain ⟨t,rfl⟩:=rx;obtain ⟨t',rfl⟩:=ry;exact add_str (λt' tk=>⟨.str (i++j),H,I.tok _,⟨_,rfl⟩,q⟩) hz
theorem Xe {x:V}{us:List Value}(r:Vals [x] us):∃u,us=[u]/\RelV x u:=by
 cases r with
 | cons r1 r2=>cases r2;exact ⟨_,rfl,r1⟩
theorem Zc2 {x y:V}{us:List Value}(r:Vals [x,y] us):∃u w',us=[u,w']/\RelV x u/\RelV y w':=by
 cases r with
 | cons r1 r2=>
  cases r2 with
  | cons r3 r4=>cases r4;exact ⟨_,_,rfl,r1,r3⟩
theorem Xf (hc:X.calm=true):Js X (.builtin "min") (λxs H Q=>∃i j,xs=[.int i,.int j]/\Q (.int (if j<i then j else i)) H):=by
 intro qQ s σ H xs us Q I r h;obtain ⟨i,j,rfl,q⟩:=h;obtain ⟨u,w',rfl,⟨t,rfl⟩,⟨t',rfl⟩⟩:=Zc2 r;refine min_two_ints (I.ok.hd hc) λh' tk k=>⟨_,H,I.kept k,?_,q⟩;by_cases hj:j<i
 ·rw [if_pos hj,if_pos hj];exact ⟨_,rfl⟩
 ·rw [if_neg hj,if_neg hj];exact ⟨_,rfl⟩
theorem Xg:Js X (.type "int") (λxs H Q=>(∃i,xs=[.int i]/\Q (.int i) H)\/∃k,xs=[.bl k]/\Q (.int (if k then 1 else 0)) H):=by
 intro qQ s σ H xs us Q I r h;rcases h with ⟨i,rfl,q⟩ | ⟨k,rfl,q⟩
 ·obtain ⟨u,rfl,t,rfl⟩:=Xe r;exact call_int_int ⟨.int i,H,I,⟨_,rfl⟩,q⟩
 ·obtain ⟨u,rfl,r1⟩:=Xe r;cases r1;exact call_int_bool ⟨.int (if k then 1 else 0),H,I.tok _,⟨_,rfl⟩,q⟩
end
end L2
namespace L2
open PySem PySem.Spec PyProof.Rows
structure ObjM (h:Heap)(x dx C:Addr)(mA:Str->Option Value):Prop where
 obj:h.get? x=some (W.instObj C dx)
 ns:h.Ns1 dx mA
 ne:dx≠x
theorem Xh {h:Heap}{dx:Addr}{mA:Str->Option Value}(n:h.Ns1 dx mA):∃od,h.get? dx=some od/\∀name,W.lookIn name od=some (mA name):=by
 obtain ⟨o,es,ep,ho,hd,hk,_,hm⟩:=n;refine ⟨o,ho,λname=>?_⟩;have e:=hm name;unfold nsFind findBy at e;rw [<-Array.find?_toList] at e;unfold W.lookIn;rw [hd];dsimp only;split
 ·rename_i y q;rw [q] at e;exact congrArg some e
 ·rename_i q;rw [q] at e;have a:es.toList.any (·.refKey)=false:=by
   rw [List.any_eq_false];intro y hy;obtain ⟨z,t,hkey⟩:=hk y (Array.mem_toList_iff.mp hy);simp [DictEntry.refKey,hkey]
  have a':¬ es.toList.any (·.refKey)=true:=by rw [a];exact Bool.false_ne_true
  rw [if_neg a'];exact congrArg some e
theorem ObjM.look {h:Heap}{x dx C:Addr}{mA:Str->Option Value}(I:ObjM h x dx C mA):∃od,W.InstAt h x (W.instObj C dx) C (some od)/\∀name,W.lookIn name od=some (mA name):=
 let ⟨od,ho,hl⟩:=Xh I.ns
 ⟨od,⟨I.obj,rfl,rfl,ho⟩,hl⟩
theorem RelO.some_of {v:V}{o:Option Value}(r:RelO (some v) o):∃u,o=some u/\RelV v u:=by
 cases o with
 | none=>exact (show False from r).elim
 | some u=>exact ⟨u,rfl,r⟩
section
variable {P:Program}{w:World}{H H':Hp}{h h':Heap}{a C dx:Addr}{fs fs':List (Str×V)}
theorem Zai (hok:HOk P w H h)(e:H a=some (.ins C dx fs)):∃mA,ObjM h a dx C mA/\(∀f,RelO (fs.lookup f) (mA f))/\PySem.Within mA (fs.map (·.1))/\fs.length<=1000/\H dx=some (.own a):=by
 obtain ⟨d,z,ne,ob,mA,n,r,q⟩:=(show ObjOk P w H h a (.ins C dx fs) from hok a _ e);exact ⟨mA,⟨ob,n,ne⟩,r,q,z,d⟩
end
structure Cls (K:W.Frag)(C:Addr):Prop where
 pg:W.plainGet K C Str.empty=true
 hd:W.hasDictIn K C=true
 po:W.plainOver K C=true
 sa:W.findIn K (.ref C) "__setattr__" = some (some (.builtin "object.__setattr__"))
theorem Cls.get {K:W.Frag}{C:Addr}(c:Cls K C)(f:Str):W.plainGet K C f=true:=c.pg
section
variable {X:Cx}{qQ:List (Addr×Obj)}{σ:St}{H:Hp}{s:Shared}{A:Around}{E:Value->Shared->Prop}{Q:Value->Shared->Prop}{c:Value}{b:Bool}
inductive WA (K:W.Frag)(H:Hp):V->Value->Prop where
 | non:WA K H .non (.type "NoneType")
 | bl (x:Bool):WA K H (.bl x) (.type "bool")
 | int (i:Int):WA K H (.int i) (.type "int")
 | str (x:Str):WA K H (.str x) (.type "str")
 | flt (x:UInt64):WA K H (.flt x) (.type "float")
 | lst {a:Addr} {xs:List V} (e:H a=some (.lst xs)):WA K H (.ref a) (.type "list")
 | frz {a:Addr} {o:Obj} {xs:List V} (e:H a=some (.frz o (.lst xs))):WA K H (.ref a) (.type "list")
 | tup {a:Addr} {xs:List V} (e:H a=some (.tup xs)):WA K H (.ref a) (.type "tuple")
 | dK {a:Addr} {kvs:List (Key×V)} (e:H a=some (.dK kvs)):WA K H (.ref a) (.type "dict")
 | dT {a:Addr} {kvs:List (List Key×V)} (e:H a=some (.dT kvs)):WA K H (.ref a) (.type "dict")
 | ins {a C dx:Addr} {fs:List (Str×V)} (e:H a=some (.ins C dx fs)) (cl:Cls K C) (ha:W.findIn K (.ref C) "__class__" = some (some (.builtin "object.__class__")))
   (hn:W.specialIn K (.builtin "object.__class__") "__get__" = some (some (.builtin "getset_descriptor.__get__"))) (htk:W.takesIn K (.builtin "object.__class__")=some true)
   (hm:W.mroIn K C (.type "object")=some true):WA K H (.ref a) (.ref C)
theorem Xi {x:V}{u t:Value}(I:Inv X qQ σ H s)(rx:RelV x u)(ty:WA X.K H x t)(e:W.kitOne X.K t c=some b)(h:∀tk,Q (.bool b) { s with toks:=tk }) :
  wpAny (model X.prog X.w) A (call (.builtin "isinstance") [u,c]) Q E s:=by
 cases ty with
 | non=>cases (show u=Value.none from rx);exact W.kia_one W.kitx_none I.kIn True.intro e (λz=>nomatch z) h
 | bl y=>cases (show u=Value.bool y from rx);exact W.kia_one W.kitx_bool I.kIn True.intro e (λz=>nomatch z) h
 | int i=>obtain ⟨t,q⟩:=(show ∃t,u=Value.int i t from rx);cases q;exact W.kia_one W.kitx_int I.kIn True.intro e (λz=>nomatch z) h
 | str y=>obtain ⟨t,q⟩:=(show ∃t,u=Value.str y t from rx);cases q;exact W.kia_one W.kitx_str I.kIn True.intro e (λz=>nomatch z) h
 | flt y=>obtain ⟨t,q⟩:=(show ∃t,u=Value.float y t from rx);cases q;exact W.kia_one W.kitx_float I.kIn True.intro e (λz=>nomatch z) h
 | @lst a xs ea=>
  cases (show u=Value.ref a from rx);obtain ⟨_,_,n,_,h1⟩:=(show ObjOk X.prog X.w H s.heap a (.lst xs) from I.hok a _ ea);exact W.kia_one W.kitx_list I.kIn ⟨_,h1,rfl⟩ e (λz=>nomatch z) h
 | @frz a ob xs ea=>
  cases (show u=Value.ref a from rx);obtain ⟨_,_,_,n,_,h1⟩:=(show ObjOk X.prog X.w H s.heap a (.frz ob (.lst xs)) from I.hok a _ ea);exact W.kia_one W.kitx_list I.kIn ⟨_,h1,rfl⟩ e (λz=>nomatch z) h
 | @tup a xs ea=>
  cases (show u=Value.ref a from rx);obtain ⟨_,_,_,p⟩:=(show ObjOk X.prog X.w H s.heap a (.tup xs) from I.hok a _ ea);obtain ⟨o,h1,h2,_⟩:=p;exact W.kia_one W.kitx_tuple I.kIn ⟨o,h1,h2⟩ e (λz=>nomatch z) h
 | @dK a kvs ea=>
  cases (show u=Value.ref a from rx);obtain ⟨_,_,vs,_,p⟩:=(show ObjOk X.prog X.w H s.heap a (.dK kvs) from I.hok a _ ea);obtain ⟨o,es,ep,h1,h2,_⟩:=p;exact W.kia_one W.kitx_dict I.kIn ⟨o,h1,h2.1⟩ e (λz=>nomatch z) h
 | @dT a kvs ea=>
  cases (show u=Value.ref a from rx);obtain ⟨_,_,xs,_,o,es,ep,h1,h2,_⟩:=(show ObjOk X.prog X.w H s.heap a (.dT kvs) from I.hok a _ ea);exact W.kia_one W.kitx_dict I.kIn ⟨o,h1,h2.1⟩ e (λz=>nomatch z) h
 | @ins a C dx fs ea cl ha hn htk hm=>
  cases (show u=Value.ref a from rx);obtain ⟨mA,O,_⟩:=Zai I.hok ea;obtain ⟨od,J,_⟩:=O.look;exact W.kia_one (W.kitx_own (cl.get _) cl.hd ha hn htk hm) I.kIn J e (λz=>nomatch z) h
end
end L2
namespace L2
open PySem PySem.Spec PyProof.Rows
structure Room (k:Nat)(A:Around):Prop where
 hd:A.handled=none
 dp:A.depth+3 * k+5<recursionLimit
 un:A.units+16 * k+200<cLine
theorem Room.mono {j k:Nat}{A:Around}(r:Room k A)(h:j<=k):Room j A:=⟨r.hd,by have:=r.dp;lia,by have:=r.un;lia⟩
theorem Room.deeper {k:Nat}{A:Around}(r:Room (k+1) A)(env:Env):Room k (A.deeper env):=
 ⟨r.hd,by have:=r.dp;show A.depth+1+3 * k+5<_;lia,by have:=r.un;show A.units+3+16 * k+200<_;lia⟩
theorem Room.depth {k:Nat}{A:Around}(r:Room k A):A.depth<recursionLimit:=by have:=r.dp;lia
def Zaj:TA:=λ_ H Q=>Q [] H
def YM (ta:TE)(tr:TA):TA:=λσ H Q=>ta σ H λx H1=>tr σ H1 λxs H2=>Q (x::xs) H2
section
variable {X:Cx}{e:Expr}{es:List Expr}{te:TE}{t:TA}{pos:Pos}
theorem Ge:PA X [] Zaj:=λ_ _ _ _ H Q I h=>Calls.spliced_nil ⟨[],H,I,.nil,h⟩
theorem Ga (ha:PE X e te)(hr:PA X es t)(hs:starEach (e::es) X.env=(false,eval e X.env)::starEach es X.env:=by rfl):PA X (e::es) (YM te t):=by
 intro pos qQ s σ H Q I h;rw [hs];show wpAny _ _ (spliced ((false,eval e X.env)::backTo pos (starEach es X.env))) _ _ s;refine Calls.spliced_cons (thn (ha qQ s σ H _ I h) λu s1 ⟨x,H1,I1,r1,q1⟩=>?_);exact thn (hr pos qQ s1 σ H1 _ I1 q1) λus s2 ⟨xs,H2,I2,r2,q2⟩=>⟨x::xs,H2,I2,.cons r1 r2,q2⟩
def ZdV (t:TA):TE:=λσ H Q=>t σ H λxs H1=>xs.length<=sizeLine/\∀p,H1 p=none->Q (.ref p) (upd H1 p (.tup xs))
def ZdW (t:TA):TE:=λσ H Q=>t σ H λxs H1=>xs.length<=sizeLine/\∀p,H1 p=none->Q (.ref p) (upd H1 p (.lst xs))
theorem GO {x1}(h:PA X es t):PE X (.Tuple es x1 pos) (ZdV t):=by
 intro qQ s σ H Q I hq;refine wpAny_Tuple_spliced (thn (h pos qQ s σ H _ I hq) λus s1 ⟨xs,H1,I1,r,z,q⟩=>⟨by rw [<-r.length];exact z,?_⟩);have hf:H1 s1.heap.objs.size=none:=I1.hok.fresh (Nat.le_refl _);refine ⟨.ref s1.heap.objs.size,upd H1 s1.heap.objs.size (.tup xs),I1.laid (t':=s1.toks) (λb u e=>Heap.get?_push_of_some _ e) (Nat.le_refl _) ?_,rfl,q _ hf⟩;exact ⟨z,us,r,⟨_,Heap.get?_push_size _ rfl,rfl,_,rfl⟩⟩
theorem Jr (h:PA X es t):PE X (.List es pos) (ZdW t):=by
 intro qQ s σ H Q I hq;refine wpAny_List_spliced (thn (h pos qQ s σ H _ I hq) λus s1 ⟨xs,H1,I1,r,z,q⟩=>⟨by rw [<-r.length];exact z,?_⟩);have hf:H1 s1.heap.objs.size=none:=I1.hok.fresh (Nat.le_refl _);refine ⟨.ref s1.heap.objs.size,upd H1 s1.heap.objs.size (.lst xs),I1.laid (t':=s1.toks) (λb u e=>Heap.get?_push_of_some _ e) (Nat.le_refl _) ?_,rfl,q _ hf⟩;exact ⟨z,us,0,r,Heap.get?_push_size _ rfl⟩
end
abbrev Sp:=List V->Hp->VK->XK->Prop
abbrev CXT:=List Env->Hp->Shared->XK->Value->Shared->Prop
structure ZcG (P:Program)(w:World)(K:W.Frag)(mg:Str->Option Value)(base:Heap)(A:Around)(outer:List Env)(s:Shared)(H:Hp):Prop where
 frames:A.frames=some outer
 mod:Mod K mg base
 bs:∀b o,base.get? b=some o->s.heap.get? b=some o/\H b=none
 bsz:base.objs.size<=s.heap.objs.size
 funs:s.heap.FunFrames base outer
 frf:∀b∈frs outer,H b=none
 hok:HOk P w H s.heap
 bare:AllBare s.gens
def CE (outer:List Env)(P:Program)(w:World)(H:Hp)(s:Shared)(Q:VK)(u:Value)(s':Shared):Prop:=
 ∃v H',s'.os=s.os/\AllBare s'.gens/\Un (frs outer) [] H H' s.heap s'.heap/\HOk P w H' s'.heap/\RelV v u/\Q v H'
def CR (CX:CXT)(outer:List Env)(P:Program)(w:World)(H:Hp)(s:Shared)(Q:VK)(E:XK)(r:Result)(s':Shared):Prop:=
 match r with
 | .ok (.ret u)=>CE outer P w H s Q u s'
 | .ok _=>False
 | .error e=>CX outer H s E e s'
structure GL (P:Program)(w:World)(K:W.Frag)(mg:Str->Option Value)(base:Heap)(CX:CXT)(k:Nat)(f:Addr)(fd:FuncData)(ps:List Str)(sp:Sp):Prop where
 len:∀vs H Q E,sp vs H Q E->vs.length=ps.length
 run:∀(A:Around)(outer:List Env)(s:Shared)(H:Hp)(args:Args)(us:List Value)(vs:List V)(Q:VK)(E:XK),Room k A->ZcG P w K mg base A outer s H->BindsTo s fd args (ps.zip us)->Vals vs us->sp vs H Q E ->
  codeAny (model P w) A (.call (.ref f) args) (CR CX outer P w H s Q E) s
section
variable {X:Cx}{qQ:List (Addr×Obj)}{σ:St}{H:Hp}{s s':Shared}
theorem Inv.env0 (I:Inv X qQ σ H s):ZcG X.prog X.w X.K X.mg X.base X.A X.stack s H:=
 ⟨I.ok.frames,I.ok.mod,I.bs,Nat.le_trans I.ok.bsz I.sz,I.stack,I.stkFree,I.hok,I.bare⟩
theorem Inv.after {Q:VK}{u:Value}(I:Inv X qQ σ H s)(h:CE X.stack X.prog X.w H s Q u s'):EP X qQ σ Q u s':=by
 obtain ⟨v,H',os,bare,un,hok,r,q⟩:=h;obtain ⟨hh,g,d,t,os'⟩:=s';obtain rfl:os'=s.os:=os;exact ⟨v,H',I.call (h':=hh) (g':=g) (d':=d) (t':=t) (ch:=[]) un hok bare (λb z=>absurd z (by simp)),r,q⟩
end
def Zc3 (sp:Sp)(dvs:List V)(E:XK)(t:TA):TE:=λσ H Q=>t σ H λvs H1=>sp (vs++dvs) H1 Q E
def Binds (K:W.Frag)(fd:FuncData)(ps:List Str)(ds:List Value):Prop:=
 ∀(s:Shared)(us:List Value),K.In s.heap->(us++ds).length=ps.length->BindsTo s fd ⟨us,[]⟩ (ps.zip (us++ds))
theorem Binds.all {K:W.Frag}{fd:FuncData}{ps:List Str}(h:∀us:List Value,us.length=ps.length->bindArgs fd ⟨us,[]⟩=pure (ps.zip us)):Binds K fd ps []:=λs us _ hl=>by
 rw [List.append_nil] at hl ⊢;exact .of_eq (h us hl)
def UD (CX:CXT)(X:Cx)(E:XK):Prop:=∀(qQ:List (Addr×Obj))(σ:St)(H:Hp)(s:Shared)(e:Value)(s':Shared),Inv X qQ σ H s->CX X.stack H s E e s'->X.xe e s'
section
variable {X:Cx}{CX:CXT}{k:Nat}{f C:Addr}{fd:FuncData}{ps:List Str}{sp:Sp}{dvs:List V}{ds:List Value}{E:XK}{x m:Str}{p pos apos:Pos}{e o:Expr}{es:List Expr}{ta:TE}{t:TA}
theorem Zbt {qQ:List (Addr×Obj)}{σ:St}{H:Hp}{s:Shared}{Q:VK}{us:List Value}{vs:List V}(F:GL X.prog X.w X.K X.mg X.base CX k f fd ps sp)(hr:Room k X.A)(hb:Binds X.K fd ps ds)(hd:Vals dvs ds)(hx:UD CX X E)(I:Inv X qQ σ H s)(r:Vals vs us)(h:sp (vs++dvs) H Q E):wpAny (model X.prog X.w) X.A (call (.ref f) us) (EP X qQ σ Q) X.xe s:=by
 have r2:Vals (vs++dvs) (us++ds):=r.append hd;have hl:(us++ds).length=ps.length:=by rw [<-r2.length];exact F.len _ _ _ _ h
 refine wpAny_call (codeAny_mono (F.run X.A X.stack s H ⟨us,[]⟩ (us++ds) (vs++dvs) Q E hr I.env0 (hb s us I.kIn hl) r2 h) λr s' hq=>?_);cases r with
 | error e=>exact hx qQ σ H s e s' I hq
 | ok fl=>
  cases fl with
  | ret u=>exact I.after hq
  | next=>exact False.elim hq
  | brk=>exact False.elim hq
  | cont=>exact False.elim hq
theorem Gk (F:GL X.prog X.w X.K X.mg X.base CX k f fd ps sp)(hr:Room k X.A)(hg:Gl X x)(hm:X.mg x=some (.ref f))(hk:W.keepIn X.K (.ref f)=true)(hb:Binds X.K fd ps ds)(hd:Vals dvs ds)(hx:UD CX X E)(ha:PA X (e::es) t)(hdb:(x == ("__debug__" : Str))=false:=by decide)(he:starEach (e::es) X.env=(false,eval e X.env)::starEach es X.env:=by rfl)(hpl:(backTo pos (starEach es X.env)).any (·.1)=false:=by rfl) :
  PE X (.Call (.Name x p) (e::es) [] pos) (Zc3 sp dvs E t):=by
 intro qQ s σ H Q I h;refine wpAny_Call_Name_kw (Vl I hg hm ?_ hdb);refine W.callWith_K (h₀:=X.base) I.ok.mod.kin hk (thn (ha pos qQ s σ H _ I h) λus s1 ⟨vs,H1,I1,r,q⟩=>⟨I1.kIn,?_⟩) he hpl;exact Zbt F hr hb hd hx I1 r q
end
structure Gs (N P:List Str)(sc:Scope):Prop where
 kind:sc.kind=.function
 co:sc.isCoroutine=false
 gen:sc.isGenerator=false
 nd:N.Nodup
 pre:N.take P.length=P
 par:∀x∈P,sc.names.lookup x=some .local\/sc.names.lookup x=some .cell
 nofree:∀y∈sc.names,y.2≠.free
theorem UE {kindOf:Str->Option NameKind}{x:Str}:∀{binds:List (Str×Value)}{m:Str->Option Value},(∀v,(x,v) ∉ binds)->bindL kindOf binds m x=m x
 | [],_,_=>rfl
 | (n,v)::r,m,h=>by
  unfold bindL;rw [UE λw hw=>h w (List.mem_cons_of_mem _ hw)];split
  ·have:x≠n:=by rintro rfl;exact h v List.mem_cons_self
   simp [this]
  ·rfl
theorem UF {kindOf:Str->Option NameKind}{x:Str}:∀{binds:List (Str×Value)}{m:Str->Option Value},(∀v,(x,v) ∉ binds)->bindC kindOf binds m x=m x
 | [],_,_=>rfl
 | (n,v)::r,m,h=>by
  unfold bindC;rw [UF λw hw=>h w (List.mem_cons_of_mem _ hw)];split
  ·rfl
  ·have:x≠n:=by rintro rfl;exact h v List.mem_cons_self
   simp [this]
theorem UG {kindOf:Str->Option NameKind}{x:Str}{v:Value}:∀{P:List Str}{vs:List Value}{i:Nat}{m:Str->Option Value},P.Nodup->P[i]?=some x->vs[i]?=some v->kindOf x=some .local ->
  bindL kindOf (P.zip vs) m x=some v
 | [],_,_,_,_,h,_,_=>by simp at h
 | _::_,[],_,_,_,_,h,_=>by simp at h
 | p::P,w::vs,0,m,nd,h1,h2,hk=>by
  simp at h1 h2;subst h1;subst h2;show bindL kindOf ((p,w)::P.zip vs) m p=_;unfold bindL;rw [UE λv hv=>(List.nodup_cons.mp nd).1 (List.of_mem_zip hv).1,if_pos hk];simp
 | p::P,w::vs,i+1,m,nd,h1,h2,hk=>by
  show bindL kindOf ((p,w)::P.zip vs) m x=_;unfold bindL;exact UG (i:=i) (List.nodup_cons.mp nd).2 (by simpa using h1) (by simpa using h2) hk
theorem UH {kindOf:Str->Option NameKind}{x:Str}{v:Value}:∀{P:List Str}{vs:List Value}{i:Nat}{m:Str->Option Value},P.Nodup->P[i]?=some x->vs[i]?=some v->kindOf x≠some .local ->
  bindC kindOf (P.zip vs) m x=some v
 | [],_,_,_,_,h,_,_=>by simp at h
 | _::_,[],_,_,_,_,h,_=>by simp at h
 | p::P,w::vs,0,m,nd,h1,h2,hk=>by
  simp at h1 h2;subst h1;subst h2;show bindC kindOf ((p,w)::P.zip vs) m p=_;unfold bindC;rw [UF λv hv=>(List.nodup_cons.mp nd).1 (List.of_mem_zip hv).1,if_neg hk];simp
 | p::P,w::vs,i+1,m,nd,h1,h2,hk=>by
  show bindC kindOf ((p,w)::P.zip vs) m x=_;unfold bindC;exact UH (i:=i) (List.nodup_cons.mp nd).2 (by simpa using h1) (by simpa using h2) hk
def O5 (N:List Str)(vs:List V):St:=vs.map some++List.replicate (N.length-vs.length) none
def Yz (CX:CXT)(P:Program)(w:World)(K:W.Frag)(mg:Str->Option Value)(base:Heap)(N:List Str)(qual:Str)(scope:Scope)(f:Addr)(cd:Value)(A:Around)(outer:List Env)(s:Shared)(H:Hp)(E:XK):Cx where
 prog:=P
 w:=w
 K:=K
 mg:=mg
 base:=base
 A:=A.deeper (envOfC qual scope s.heap.objs.size f cd)
 N:=N
 s₀:=s
 H₀:=H
 env:=envOfC qual scope s.heap.objs.size f cd
 outer:=outer
 stack:=envOfC qual scope s.heap.objs.size f cd::outer
 ex:=[]
 calm:=true
 fn:=λ_=>true
 pn:=[]
 xe:=λe s'=>wpAny (model P w) (A.deeper (envOfC qual scope s.heap.objs.size f cd)) (leaving (envOfC qual scope s.heap.objs.size f cd) e) (λ_ s''=>CX outer H s E e s'') (λe' s''=>CX outer H s E e' s'') s'
theorem VQ {sc:Scope}{n:Nat}{x:Str}(h:sc.names.lookup x=some .cell):∃c,(cellsFrom n sc.names []).lookup x=some c:=by
 have q:=W.cellsFrom_some sc.names n [] (.inl h);exact Option.isSome_iff_exists.mp q
theorem Xj {CX:CXT}{P:Program}{w:World}{K:W.Frag}{mg:Str->Option Value}{base:Heap}{N ps:List Str}{qual:Str}{scope:Scope}{f:Addr}{cd:Value}{A:Around}{outer:List Env}{s s1:Shared}{H:Hp}{E:XK}{us:List Value}{vs:List V}(S:Gs N ps scope)(hd:A.handled=none)(e0:ZcG P w K mg base A outer s H)(hl:vs.length=ps.length)(r:Vals vs us)(x:InCallC s s.heap.objs.size (bindL (envOfC qual scope s.heap.objs.size f cd).kindOf (ps.zip us) λ_=>none) (cellsFrom (s.heap.objs.size+1) scope.names []) (bindC (envOfC qual scope s.heap.objs.size f cd).kindOf (ps.zip us) λ_=>none) s1) :
  Inv (Yz CX P w K mg base N qual scope f cd A outer s H E) [] (O5 N vs) H s1:=by
 have hpl:ps.length<=N.length:=by have:=congrArg List.length S.pre;rw [List.length_take] at this;lia
 obtain ⟨h1,tk,rfl,hk⟩:=x.done;have noA:∀b:Addr,b ∉ (Yz CX P w K mg base N qual scope f cd A outer s H E).ex:=λb z=>absurd (show b∈([]:List Addr) from z) (by simp);refine ⟨⟨e0.mod,S.kind,rfl,rfl,Nat.le_refl _,λy z c h1 h2=>?_,λy hy=>?_,λy c _ h=>?_,λ_=>hd,Around.frames_deeper e0.frames,.inr ⟨rfl,rfl⟩,λb z=>absurd z (noA b),e0.bs,e0.bsz,λb _ _=>noA b,λb z=>absurd z (noA b),e0.funs,e0.frf⟩,
  rfl,e0.bare,Un.kept hk,⟨_,x.toInCall.ns,λi y v h1 h2 h3=>?_⟩,λy c h=>⟨_,x.cell y c h⟩,e0.hok.fresh (Nat.le_refl _),λy c h=>?_,λp hp=>absurd (show p∈([]:List (Addr×Obj)) from hp) (by simp),e0.hok.kept hk,?_⟩
 ·exact name_of_addr x.apart (PySem.mem_of_lookup h1) (PySem.mem_of_lookup h2)
 ·have hy:scope.names.lookup y=some .cell\/scope.names.lookup y=some .free:=hy;rcases hy with hy | hy
  ·exact VQ hy
  ·exact absurd rfl (S.nofree _ (PySem.mem_of_lookup hy))
 ·exact Nat.le_of_lt (x.above y c (PySem.mem_of_lookup h))
 ·have hi:i<vs.length:=by
   unfold O5 at h2;by_cases hi:i<vs.length
   ·exact hi
   ·rw [List.getElem?_append_right (by simpa using hi)] at h2;rw [List.getElem?_replicate] at h2;split at h2 <;> cases h2
  have ha:vs[i]?=some v:=by
   unfold O5 at h2;rw [List.getElem?_append_left (by simpa using hi),List.getElem?_map] at h2;cases e:vs[i]? with
   | none=>rw [e] at h2;cases h2
   | some a=>rw [e] at h2;cases h2;rfl
  obtain ⟨u,hu,rv⟩:=r.get ha;have hp:ps[i]?=some y:=by
   rw [<-S.pre,List.getElem?_take_of_lt (by lia)];exact h1
  have ndP:ps.Nodup:=by rw [<-S.pre];exact S.nd.sublist (List.take_sublist _ _)
  refine ⟨u,rv,?_⟩;rcases S.par y (List.mem_of_getElem? hp) with k | k
  ·exact .inl ⟨k,UG ndP hp hu k⟩
  ·obtain ⟨c,e⟩:=VQ (n:=s.heap.objs.size+1) k;refine .inr ⟨.inl k,c,e,?_⟩;have q:=x.cell y c e;rw [UH ndP hp hu (by show scope.names.lookup y≠_;rw [k];decide)] at q;exact q
 ·exact e0.hok.fresh (Nat.le_of_lt (x.above y c (PySem.mem_of_lookup h)))
 ·unfold O5;show _=N.length;rw [List.length_append,List.length_map,List.length_replicate]
  lia
theorem Zbu {CX:CXT}{P:Program}{w:World}{K:W.Frag}{mg:Str->Option Value}{base:Heap}{k:Nat}{f:Addr}{name qual:Str}{params:Arguments}{body:List Stmt}{scope:Scope}{dV kV doc pm cdv ct oc:Value}{an od:Option Addr}{osl:Array (Option Value)}{N ps:List Str}{sp:Sp}(lk:K.lookup f=some ⟨oc,od,.func (W.fnOf name qual params body scope dV kV doc pm an cdv ct),osl⟩)(hcd:W.codeIn K cdv qual=true)(S:Gs N ps scope)(len:∀vs H Q E,sp vs H Q E->vs.length=ps.length)(qG:∀(A:Around)(outer:List Env)(s:Shared)(H:Hp)(vs:List V)(Q:VK)(E:XK),Room k (A.deeper (envOfC qual scope s.heap.objs.size f cdv))->sp vs H Q E ->
   ∃t,PSs (Yz CX P w K mg base N qual scope f cdv A outer s H E) body t/\t { nx:=λ_ H'=>Q .non H',rt:=Q } (O5 N vs) H) :
  GL P w K mg base CX (k+1) f (W.fnOf name qual params body scope dV kV doc pm an cdv ct) ps sp:=by
 refine ⟨len,λA outer s H args us vs Q E hr e0 hb r hsp=>?_⟩;have hl:=len _ _ _ _ hsp;have KX:K.In s.heap:=e0.mod.kin.keeps λb o e=>(e0.bs b o e).1;have lim:s.heap.NoLimit:=e0.mod.nolimit.keeps λb o e=>(e0.bs b o e).1;have hkind:∀y∈ps.zip us,scope.names.lookup y.1=some .local\/(scope.names.lookup y.1=some .cell/\((cellsFrom (s.heap.objs.size+1) scope.names []).lookup y.1).isSome=true):=λ⟨n,v⟩ hy=>by
  rcases S.par n (List.of_mem_zip hy).1 with q | q
  ·exact .inl q
  ·exact .inr ⟨q,W.cellsFrom_some _ _ _ (.inl q)⟩
 refine codeAny_call_function hr.depth (KX _ _ lk) rfl S.co S.gen rfl (W.codeRec_of KX hcd) (hb _ _ _ _ ?_);refine wpAny_newFunctionEnv_cells S.kind hkind λenv he s1 x=>?_;subst he;refine ⟨lim.keeps x.toInCall.keep,codeAny_func ?_⟩;obtain ⟨t,ht,hq⟩:=qG A outer s H vs Q E (hr.deeper _) hsp;have I:Inv (Yz CX P w K mg base N qual scope f cdv A outer s H E) [] (O5 N vs) H s1:=Xj S hr.hd e0 hl r x;refine wpAny_mono (ht [] s1 (O5 N vs) H _ I hq) (λfl s' hs=>?_) λe s' hs=>hs;have fin:∀{σ':St}{H':Hp}{v:V}{u:Value},Inv (Yz CX P w K mg base N qual scope f cdv A outer s H E) [] σ' H' s'->RelV v u->Q v H'->CE outer P w H s Q u s':=
  λ{σ' H' v u} J rv q=>⟨v,H',J.os,J.bare,J.base,J.hok,rv,q⟩
 cases fl with
 | ret u=>
  obtain ⟨v,σ',H',J,rv,q⟩:=hs;exact fin J rv q
 | next=>
  obtain ⟨σ',H',J,q⟩:=hs;exact fin (v:=V.non) (u:=Value.none) J rfl q
 | brk=>
  obtain ⟨_,_,_,q⟩:=hs;exact False.elim q
 | cont=>
  obtain ⟨_,_,_,q⟩:=hs;exact False.elim q
end L2
namespace L2
open PySem PySem.Spec PyProof.Rows
section
variable {X:Cx}{x:Str}{p pos:Pos}{e:Expr}{es:List Expr}{t:TA}{id T:String}{r:List V->Hp->VK->Prop}
def tCB (r:List V->Hp->VK->Prop)(t:TA):TE:=λσ H Q=>t σ H λvs H1=>r vs H1 Q
theorem GA (hc:Js X (.builtin id) r)(hg:Gl X x)(hm:X.mg x=none)(hv:bootBuiltins x=some (.builtin id))(ha:PA X (e::es) t)(hn:x ≠ "__name__" := by decide)(hdb:(x == ("__debug__" : Str))=false:=by decide)(he:starEach (e::es) X.env=(false,eval e X.env)::starEach es X.env:=by rfl)(hpl:(backTo pos (starEach es X.env)).any (·.1)=false:=by rfl):PE X (.Call (.Name x p) (e::es) [] pos) (tCB r t):=by
 intro qQ s σ H Q I h;refine wpAny_Call_Name_kw (OR I hg hm hv ?_ hn hdb);exact PyProof.Rows.callWith_builtin1 (thn (ha pos qQ s σ H _ I h) λus s1 ⟨vs,H1,I1,r1,q1⟩=>hc qQ s1 σ H1 vs us Q I1 r1 q1) he hpl
theorem G5 (hc:Js X (.type T) r)(hg:Gl X x)(hm:X.mg x=none)(hv:bootBuiltins x=some (.type T))(ha:PA X (e::es) t)(hn:x ≠ "__name__" := by decide)(hdb:(x == ("__debug__" : Str))=false:=by decide)(he:starEach (e::es) X.env=(false,eval e X.env)::starEach es X.env:=by rfl)(hpl:(backTo pos (starEach es X.env)).any (·.1)=false:=by rfl):PE X (.Call (.Name x p) (e::es) [] pos) (tCB r t):=by
 intro qQ s σ H Q I h;refine wpAny_Call_Name_kw (OR I hg hm hv ?_ hn hdb);exact PyProof.Rows.callWith_type1 (thn (ha pos qQ s σ H _ I h) λus s1 ⟨vs,H1,I1,r1,q1⟩=>hc qQ s1 σ H1 vs us Q I1 r1 q1) he hpl
end
end L2
namespace HT
open PySem PyProof.Rows
section
variable {prog:Program}{w:World}{A:Around}{E:Value->Shared->Prop}{s:Shared}
def sIx (n d:Nat):Option Int->Nat
 | none=>d
 | some v=>if v<0 then (v+(n:Int)).toNat else min v.toNat n
theorem sIx_none (n d:Nat):sIx n d none=d:=rfl
theorem sIx_nat (n d k:Nat):sIx n d (some (k:Int))=min k n:=by
 show (if (k:Int)<0 then ((k:Int)+(n:Int)).toNat else min (k:Int).toNat n)=min k n;rw [if_neg (by lia),Int.toNat_natCast]
end
end HT
namespace L2
open PySem PySem.Spec PyProof.Rows
abbrev TO:=St->Hp->(Option Int->Hp->Prop)->Prop
def PO (X:Cx)(e:Option Expr)(t:TO):Prop:=
 ∀(qQ:List (Addr×Obj))(s:Shared)(σ:St)(H:Hp)(Q:Option Int->Hp->Prop),Inv X qQ σ H s->t σ H Q ->
  wpAny (model X.prog X.w) X.A (evalPart e X.env) (λu s'=>∃o H',Inv X qQ σ H' s'/\IsPart u o/\Q o H') X.xe s
def Zak:TO:=λ_ H Q=>Q none H
def Zc4 (t:TE):TO:=λσ H Q=>t σ H λx H1=>∃i,x=.int i/\Q (some i) H1
theorem WB {ns:List Int}:∀{us:List Value},Vals (ns.map V.int) us->IntsAre us ns:=by
 induction ns with
 | nil=>intro us r;rw [List.map_nil] at r;cases r;exact .nil
 | cons n ns ih=>
  intro us r;rw [List.map_cons] at r;cases r with
  | cons r1 r2=>
   obtain ⟨t,e⟩:=r1;subst e;exact .cons n t (ih r2)
section
variable {X:Cx}{e:Expr}{te:TE}{lo hi:Option Expr}{tl th:TO}{pos p2:Pos}
theorem Zal:PO X none Zak:=by
 intro qQ s σ H Q I h;rw [evalPart_none];exact wpAny_pure ⟨none,H,I,.none,h⟩
theorem Zam (h:PE X e te):PO X (some e) (Zc4 te):=by
 intro qQ s σ H Q I hw;rw [evalPart_some];refine thn (h qQ s σ H _ I hw) λu s1 ⟨x,H1,I1,r1,q1⟩=>?_;obtain ⟨i,rfl,q⟩:=q1;obtain ⟨t,rfl⟩:=r1;exact ⟨some i,H1,I1,.int i t,q⟩
def SlR (X:Cx)(r:V->Option Int->Option Int->Hp->VK->Prop):Prop:=
 ∀(qQ:List (Addr×Obj))(s:Shared)(σ:St)(H:Hp)(x:V)(v vl vu:Value)(lo hi:Option Int)(sl:Addr)(Q:VK),Inv X qQ σ H s->RelV x v->s.heap.IsSliceOf sl vl vu .none->IsPart vl lo->IsPart vu hi->r x lo hi H Q ->
  ∃T id,typeLookup (.type T) "__getitem__" = pure (some (.builtin id))/\s.TypeIs v T/\wpAny (model X.prog X.w) X.A (getItem v (.ref sl)) (EP X qQ σ Q) X.xe s
def tSl (r:V->Option Int->Option Int->Hp->VK->Prop)(te:TE)(tl th:TO):TE:=λσ H Q=>te σ H λx H1=>tl σ H1 λl H2=>th σ H2 λu H3=>r x l u H3 Q
theorem YN {r:V->Option Int->Option Int->Hp->VK->Prop}(hr:SlR X r)(he:PE X e te)(hl:PO X lo tl)(hu:PO X hi th):PE X (.Subscript e (.Slice lo hi none p2) pos) (tSl r te tl th):=by
 intro qQ s σ H Q I h;refine Subscript_ (thn (he qQ s σ H _ I h) λv s1 ⟨x,H1,I1,r1,q1⟩=>?_);refine wpAny_Slice (thn (hl qQ s1 σ H1 _ I1 q1) λvl s2 ⟨l,H2,I2,pl,q2⟩=>thn (hu qQ s2 σ H2 _ I2 q2) λvu s3 ⟨u,H3,I3,pu,q3⟩=>?_);rw [evalPart_none];refine wpAny_pure ?_;have I4:Inv X qQ σ H3 { s3 with heap:=s3.heap.push { cls:=.type "slice", data:=.fields #[vl,vu,.none] } }:=I3.kept (t':=s3.toks) λb ob q=>Heap.get?_push_of_some _ q;obtain ⟨T,id,hT,ht,hg⟩:=hr qQ { s3 with heap:=s3.heap.push { cls:=.type "slice", data:=.fields #[vl,vu,.none] } } σ H3 x v vl vu l u s3.heap.objs.size Q I4 r1 (Heap.IsSliceOf.new ..) pl pu q3;show wpAny (model X.prog X.w) X.A (subscriptTail e (.Slice lo hi none p2) v (.ref s3.heap.objs.size)) (EP X qQ σ Q) X.xe { s3 with heap:=s3.heap.push { cls:=.type "slice", data:=.fields #[vl,vu,.none] } };exact tail_any (ops:=[.ref s3.heap.objs.size,v]) ht hT hg (by with_unfolding_all rfl)
def YO (xs:List V)(lo hi:Option Int):List V:=(xs.drop (HT.sIx xs.length 0 lo)).take (HT.sIx xs.length xs.length hi-HT.sIx xs.length 0 lo)
theorem Vm (xs:List V)(lo hi:Option Int):(YO xs lo hi).length<=xs.length:=by
 unfold YO;rw [List.length_take,List.length_drop]
 lia
end
end L2
namespace L2
open PySem PySem.Spec PyProof.Rows
def ixN (n:Nat)(i:Int):Option Nat:=if 0<=i then (if i<n then some i.toNat else none) else if -(n:Int)<=i then some (i+n).toNat else none
def atI {α:Type}(xs:List α)(i:Int):Option α:=(ixN xs.length i).bind λj=>xs[j]?
theorem Xk {n:Nat}{i:Int}{j:Nat}(h:ixN n i=some j):seqIndex? i n=some j/\j<n/\-(n:Int)<=i/\i<n:=by
 unfold ixN at h;by_cases h0:0<=i
 ·rw [if_pos h0] at h;by_cases h1:i<n
  ·rw [if_pos h1] at h;have e:i.toNat=j:=Option.some.inj h;exact ⟨by rw [seqIndex_of h0 h1,e],by lia,by lia,h1⟩
  ·rw [if_neg h1] at h;cases h
 ·rw [if_neg h0] at h;by_cases h1:-(n:Int)<=i
  ·rw [if_pos h1] at h;have e:(i+n).toNat=j:=Option.some.inj h;exact ⟨by rw [seqIndex_neg (by lia) h1,e],by lia,h1,by lia⟩
  ·rw [if_neg h1] at h;cases h
theorem Xl {α:Type}{xs:List α}{i:Int}{v:α}(h:atI xs i=some v):∃j,seqIndex? i xs.length=some j/\xs[j]?=some v/\j<xs.length/\-(xs.length:Int)<=i/\i<xs.length:=by
 unfold atI at h;cases e:ixN xs.length i with
 | none=>rw [e] at h;cases h
 | some j=>
  rw [e] at h;obtain ⟨h1,h2,h3,h4⟩:=Xk e;exact ⟨j,h1,h,h2,h3,h4⟩
theorem Jx {α:Type}{xs:List α}{j:Nat}{v:α}(h:xs[j]?=some v):atI xs (j:Int)=some v:=by
 have hj:j<xs.length:=(List.getElem?_eq_some_iff.mp h).1;have e:ixN xs.length (j:Int)=some j:=by
  unfold ixN;rw [if_pos (by lia),if_pos (by lia)];simp
 unfold atI;rw [e];exact h
def Zan (b:Expr):Prop:=∀o i,subscripted b false o i=operate [o,i] (getItem o i)
def IxR (X:Cx)(r:R2):Prop:=
 ∀(value slice:Expr)(qQ:List (Addr×Obj))(s:Shared)(σ:St)(H:Hp)(x y:V)(v u:Value)(Q:VK),Inv X qQ σ H s->RelV x v->RelV y u->r x y H Q ->
  subscripted slice false v u=operate [v,u] (getItem v u)->wpAny (model X.prog X.w) X.A (subscriptTail value slice v u) (EP X qQ σ Q) X.xe s
def MtR (X:Cx)(id:String)(r:V->List V->Hp->VK->Prop):Prop:=
 ∀(qQ:List (Addr×Obj))(s:Shared)(σ:St)(H:Hp)(x:V)(xs:List V)(v:Value)(us:List Value)(Q:VK),Inv X qQ σ H s->RelV x v->Vals xs us->r x xs H Q ->
  wpAny (model X.prog X.w) X.A (call (.builtin id) (v::us)) (EP X qQ σ Q) X.xe s
section
variable {X:Cx}{a b:Expr}{ta tb:TE}{pos:Pos}
theorem G3 {r:R2}(hr:IxR X r)(ha:PE X a ta)(hb:PE X b tb)(hs:Zan b):PE X (.Subscript a b pos) (tOp r ta tb):=by
 intro qQ s σ H Q I h;exact Subscript_ (ZcZ ha hb I h λv u s2 x y H2 I2 rx ry q=>hr a b qQ s2 σ H2 x y v u Q I2 rx ry q (hs _ _))
def ZdX (K:W.Frag):R2:=λx y H Q=>∃p xs i v,x=.ref p/\y=.int i/\SqL K H p xs/\atI xs i=some v/\Q v H
def ZdY (K:W.Frag):R2:=λx y H Q=>∃p xs i v,x=.ref p/\y=.int i/\SqT K H p xs/\atI xs i=some v/\Q v H
theorem Zao:IxR X (ZdX X.K):=by
 intro value slice qQ s σ H x y v u Q I rx ry h hs;obtain ⟨p,xs,i,z,rfl,rfl,hq,he,q⟩:=h;cases rx;obtain ⟨t,rfl⟩:=ry;obtain ⟨its,r,pl,hz⟩:=I.list hq;obtain ⟨j,h1,h2,h3,h4,h5⟩:=Xl he;obtain ⟨w,ew,rw'⟩:=r.get h2;have hl:=r.length;have hn:=OA;have fin:EP X qQ σ Q w s:=⟨z,H,I,rw',q⟩;by_cases h0:0<=i
 ·have hj:i.toNat=j:=by
   rw [seqIndex_of h0 h5] at h1;exact Option.some.inj h1
  exact item_listR pl.isList h0 (by lia) (by rw [hj];simpa using ew) fin hs
 ·have hj:(i+(its.toArray.size:Int)).toNat=j:=by
   rw [seqIndex_neg (by lia) h4] at h1;rw [List.size_toArray,<-hl];exact Option.some.inj h1
  exact subscriptTail_builtinR (x:=w) pl.isList.typeIs slot_list_getitem.lookup
   (wpAny_getItem_list_neg (Q:=λr s'=>r=w/\EP X qQ σ Q r s') pl.isList (by lia) (by rw [List.size_toArray] <;> lia) (by lia) (by rw [hj];simpa using ew) ⟨rfl,fin⟩) hs
theorem Zbv:IxR X (ZdY X.K):=by
 intro value slice qQ s σ H x y v u Q I rx ry h hs;obtain ⟨p,xs,i,z,rfl,rfl,hq,he,q⟩:=h;cases rx;obtain ⟨t,rfl⟩:=ry;obtain ⟨its,r,pl,hz⟩:=I.tuple hq;obtain ⟨j,h1,h2,h3,h4,h5⟩:=Xl he;obtain ⟨w,ew,rw'⟩:=r.get h2;have hl:=r.length;have hn:=OA;have fin:EP X qQ σ Q w s:=⟨z,H,I,rw',q⟩;exact subscriptTail_builtinR (x:=w) pl.typeIs slot_tuple_getitem.lookup
  (getItem_tuple (j:=j) (Q:=λr s'=>r=w/\EP X qQ σ Q r s') pl (by lia) (by lia) (by rw [List.size_toArray,<-hl];exact h1) (by simpa using ew) ⟨rfl,fin⟩) hs
theorem WC (its:List Value)(n j:Nat)(u:Value):Obj.mapSeq (·.setIfInBounds j u) { cls:=.type "list", data:=.seq its.toArray n }={ cls:=.type "list", data:=.seq (its.set j u).toArray n }:=by
 simp [Obj.mapSeq]
theorem Inv.lst {qQ:List (Addr×Obj)}{σ:St}{H:Hp}{s:Shared}{p:Addr}{xs:List V}(I:Inv X qQ σ H s)(h:H p=some (.lst xs)) :
  ∃(its:List Value)(n:Nat),Vals xs its/\s.heap.get? p=some { cls:=.type "list", data:=.seq its.toArray n }/\xs.length<=sizeLine:=by
 obtain ⟨z,its,n,r,e⟩:=I.hok p _ h;exact ⟨its,n,r,e,z⟩
theorem Inv.lstUpd {qQ:List (Addr×Obj)}{σ:St}{H:Hp}{s:Shared}{p:Addr}{xs ys:List V}{its its':List Value}{n n':Nat}{f:Obj->Obj}(I:Inv X qQ σ H s)(h:H p=some (.lst xs))(ho:s.heap.get? p=some { cls:=.type "list", data:=.seq its.toArray n })(hf:f { cls:=.type "list", data:=.seq its.toArray n }={ cls:=.type "list", data:=.seq its'.toArray n' })(r:Vals ys its')(hz:ys.length<=sizeLine)(t:Nat) :
  Inv X qQ σ (upd H p (.lst ys)) { s with heap:=s.heap.update p f,toks:=t }:=by
 have e:(s.heap.update p f).get? p=some { cls:=.type "list", data:=.seq its'.toArray n' }:=by
  rw [Heap.get?_update_self f ho (by rw [hf] <;> rfl),hf]
 refine I.write (x:=p) (e:=p) (by rw [h];trivial) (.inl rfl) (λb u hb q=>(Heap.get?_update_other _ _ (Ne.symm hb)).trans q) ⟨_,e⟩ ?_;exact ⟨hz,its',n',r,e⟩
def Zc5:V->V->V->Hp->(Hp->Prop)->Prop:=λo i v H Q=>∃p xs k j,o=.ref p/\i=.int k/\H p=some (.lst xs)/\ixN xs.length k=some j/\Q (upd H p (.lst (xs.set j v)))
theorem JF:ZdP X Zc5:=by
 intro qQ s σ H o i v ov iv u Q I ro ri rv h;obtain ⟨p,xs,k,j,rfl,rfl,hp,hj,q⟩:=h;cases ro;obtain ⟨t,rfl⟩:=ri;obtain ⟨its,n,r,ho,hz⟩:=I.lst hp;obtain ⟨h1,h2,h3,h4⟩:=Xk hj;have hl:=r.length;have hn:=OA;have I':Inv X qQ σ (upd H p (.lst (xs.set j v))) { s with heap:=s.heap.update p (Obj.mapSeq (·.setIfInBounds j u)) }:=
  I.lstUpd hp ho (WC its n j u) (r.set rv j) (by rw [List.length_set];exact hz) s.toks
 by_cases h0:0<=k
 ·have hk:k.toNat=j:=by
   rw [seqIndex_of h0 h4] at h1;exact Option.some.inj h1
  exact W.ki_setAt ho h0 (by lia) (by rw [List.size_toArray,<-hl];exact h4) (by rw [hk];exact ⟨_,I',q⟩)
 ·have hk:(k+(its.toArray.size:Int)).toNat=j:=by
   rw [seqIndex_neg (by lia) h3] at h1;rw [List.size_toArray,<-hl];exact Option.some.inj h1
  exact W.ki_setBack ho (by lia) (by rw [List.size_toArray,<-hl];exact h3) (by lia) (by rw [hk];exact ⟨_,I',q⟩)
theorem UI (lo hi:Option Int)(n:Nat):(sliceBounds lo hi none n).1=((HT.sIx n 0 lo:Nat):Int)/\(sliceBounds lo hi none n).2.1=((HT.sIx n n hi:Nat):Int)/\(sliceBounds lo hi none n).2.2=1:=by
 refine ⟨?_,?_,rfl⟩
 ·cases lo with
  | none=>simp [sliceBounds,HT.sIx]
  | some i=>
   simp only [sliceBounds,HT.sIx,Option.getD_none,show (1:Int) > 0 by decide,if_true];by_cases h:i<0
   ·simp only [h,if_true] <;> lia
   ·simp only [h,if_false] <;> lia
 ·cases hi with
  | none=>simp [sliceBounds,HT.sIx]
  | some i=>
   simp only [sliceBounds,HT.sIx,Option.getD_none,show (1:Int) > 0 by decide,if_true];by_cases h:i<0
   ·simp only [h,if_true] <;> lia
   ·simp only [h,if_false] <;> lia
theorem O6 (its:List Value)(lo hi:Option Int):slicePick its.toArray lo hi none=((its.drop (HT.sIx its.length 0 lo)).take (HT.sIx its.length its.length hi-HT.sIx its.length 0 lo)).toArray:=by
 obtain ⟨h1,h2,h3⟩:=UI lo hi its.toArray.size;unfold slicePick;rw [h1,h2,h3];simp only [sliceRange_one,pick_run,List.size_toArray] <;> rfl
def ZdZ (K:W.Frag):V->Option Int->Option Int->Hp->VK->Prop:=λx lo hi H Q=>∃a xs,x=.ref a/\SqL K H a xs/\∀p,H p=none->Q (.ref p) (upd H p (.lst (YO xs lo hi)))
theorem Zap:SlR X (ZdZ X.K):=by
 intro qQ s σ H x v vl vu lo hi sl Q I rx hs pl pu h;obtain ⟨a,xs,rfl,hx,q⟩:=h;cases rx;obtain ⟨its,r,ht,hz⟩:=I.list hx;have qV:=r.length;refine ⟨"list", _,slot_list_getitem.lookup,ht.isList.typeIs,?_⟩;refine wpAny_getItem_list_slice ht.isList hs pl pu .none (by simp) ?_ (by rw [List.size_toArray] <;> lia);rw [O6,<-qV];refine ⟨.ref s.heap.objs.size,_,I.laid (t':=s.toks) (o:=.lst (YO xs lo hi)) (λb ob q=>Heap.get?_push_of_some _ q) (Nat.le_refl _) ?_,rfl,q _ (I.hok.fresh (Nat.le_refl _))⟩;exact ⟨Nat.le_trans (Vm xs lo hi) hz,_,0,(r.drop (HT.sIx xs.length 0 lo)).take (HT.sIx xs.length xs.length hi-HT.sIx xs.length 0 lo),Heap.get?_push_size _ rfl⟩
def O7:V->Bool
 | .non=>true
 | .bl _=>true
 | .int _=>true
 | .str _=>true
 | _=>false
def eqV:V->V->Bool
 | .non,.non=>true
 | .bl a,.bl b=>a == b
 | .bl a,.int b=>(if a then 1 else 0) == b
 | .int a,.bl b=>a == (if b then 1 else 0)
 | .int a,.int b=>a == b
 | .str a,.str b=>a == b
 | _,_=>false
theorem Zbw {A:Around}{s:Shared}{y x:V}{u v:Value}(ry:RelV y u)(rx:RelV x v)(fy:O7 y=true)(fx:O7 x=true):SeqAt.EqAt A s u v (eqV y x):=by
 cases y with
 | non=>
  cases ry;cases x with
  | non=>cases rx;exact SeqAt.EqAt.same _
  | bl b=>cases rx;exact SeqAt.EqAt.none_bool b
  | int b=>obtain ⟨t,rfl⟩:=rx;exact SeqAt.EqAt.none_int b t
  | str b=>obtain ⟨t,rfl⟩:=rx;exact SeqAt.EqAt.none_str b t
  | _=>exact absurd (show false=true from fx) Bool.false_ne_true
 | bl a=>
  cases ry;cases x with
  | non=>cases rx;exact SeqAt.EqAt.bool_none a
  | bl b=>cases rx;exact SeqAt.EqAt.bool_bool a b
  | int b=>obtain ⟨t,rfl⟩:=rx;exact SeqAt.EqAt.bool_int a b t
  | str b=>obtain ⟨t,rfl⟩:=rx;exact SeqAt.EqAt.bool_str a b t
  | _=>exact absurd (show false=true from fx) Bool.false_ne_true
 | int a=>
  obtain ⟨t',rfl⟩:=ry;cases x with
  | non=>cases rx;exact SeqAt.EqAt.int_none a t'
  | bl b=>cases rx;exact SeqAt.EqAt.int_bool a t' b
  | int b=>obtain ⟨t,rfl⟩:=rx;exact SeqAt.EqAt.int_int a t' b t
  | str b=>obtain ⟨t,rfl⟩:=rx;exact SeqAt.EqAt.int_str a t' b t
  | _=>exact absurd (show false=true from fx) Bool.false_ne_true
 | str a=>
  obtain ⟨t',rfl⟩:=ry;cases x with
  | non=>cases rx;exact SeqAt.EqAt.str_none a t'
  | bl b=>cases rx;exact SeqAt.EqAt.str_bool a t' b
  | int b=>obtain ⟨t,rfl⟩:=rx;exact SeqAt.EqAt.str_int a t' b t
  | str b=>obtain ⟨t,rfl⟩:=rx;exact SeqAt.EqAt.str_str a t' b t
  | _=>exact absurd (show false=true from fx) Bool.false_ne_true
 | _=>exact absurd (show false=true from fy) Bool.false_ne_true
def eqU (x:V)(u:Value):Bool:=match u with
 | .none=>eqV .non x
 | .bool b=>eqV (.bl b) x
 | .int i _=>eqV (.int i) x
 | .str z _=>eqV (.str z) x
 | _=>false
theorem ZO {x y:V}{u:Value}(r:RelV y u)(f:O7 y=true):eqU x u=eqV y x:=by
 cases y with
 | non=>cases r;rfl
 | bl b=>cases r;rfl
 | int i=>obtain ⟨t,rfl⟩:=r;rfl
 | str z=>obtain ⟨t,rfl⟩:=r;rfl
 | _=>exact absurd (show false=true from f) Bool.false_ne_true
theorem OB {x:V}:∀{xs:List V}{us:List Value},Vals xs us->xs.all O7=true->us.any (eqU x)=xs.any λy=>eqV y x
 | _,_,.nil,_=>rfl
 | y::xs,u::us,.cons r t,f=>by
  rw [List.all_cons,Bool.and_eq_true] at f;rw [List.any_cons,List.any_cons,ZO r f.1,OB t f.2]
theorem JZ {A:Around}{s:Shared}{x:V}{v:Value}(rx:RelV x v)(fx:O7 x=true):∀{xs:List V}{us:List Value},Vals xs us->xs.all O7=true->∀u∈us,SeqAt.EqAt A s u v (eqU x u)
 | _,_,.nil,_=>λu hu=>by cases hu
 | y::xs,u::us,.cons r t,f=>λu' hu=>by
  rw [List.all_cons,Bool.and_eq_true] at f;rcases List.mem_cons.mp hu with rfl | hu
  ·rw [ZO r f.1];exact Zbw r rx f.1 fx
  ·exact JZ rx fx t f.2 u' hu
def inV (x:V)(xs:List V):Bool:=xs.any λy=>eqV y x
def rIn (K:W.Frag)(neg:Bool):R2:=λx y H Q=>∃p xs,y=.ref p/\(SqL K H p xs\/SqT K H p xs)/\O7 x=true/\xs.all O7=true/\Q (.bl (if neg then !inV x xs else inV x xs)) H
theorem Xm:OpR X (compareOp .In) (rIn X.K false):=by
 intro qQ s σ H x y v u Q I rx ry h;obtain ⟨p,xs,rfl,hq,fx,fs,q⟩:=h;cases ry;rcases hq with hq | hq
 ·obtain ⟨its,r,pl,hz⟩:=I.list hq;refine SeqAt.in_listAt (eqU x) pl.isList (λw hw=>JZ rx fx r fs w (by simpa using hw)) ⟨.bl _,H,I,rfl,?_⟩;rw [show its.toArray.any (eqU x)=its.any (eqU x) by simp,OB r fs];exact q
 ·obtain ⟨its,r,pl,hz⟩:=I.tuple hq;refine SeqAt.in_tupleAt (eqU x) pl (λw hw=>JZ rx fx r fs w (by simpa using hw)) ⟨.bl _,H,I,rfl,?_⟩;rw [show its.toArray.any (eqU x)=its.any (eqU x) by simp,OB r fs];exact q
theorem UJ:OpR X (compareOp .NotIn) (rIn X.K true):=by
 intro qQ s σ H x y v u Q I rx ry h;obtain ⟨p,xs,rfl,hq,fx,fs,q⟩:=h;cases ry;rcases hq with hq | hq
 ·obtain ⟨its,r,pl,hz⟩:=I.list hq;refine SeqAt.notIn_listAt (eqU x) pl.isList (λw hw=>JZ rx fx r fs w (by simpa using hw)) ⟨.bl _,H,I,rfl,?_⟩;rw [show its.toArray.any (eqU x)=its.any (eqU x) by simp,OB r fs];exact q
 ·obtain ⟨its,r,pl,hz⟩:=I.tuple hq;refine SeqAt.notIn_tupleAt (eqU x) pl (λw hw=>JZ rx fx r fs w (by simpa using hw)) ⟨.bl _,H,I,rfl,?_⟩;rw [show its.toArray.any (eqU x)=its.any (eqU x) by simp,OB r fs];exact q
theorem UK:Js X (.builtin "len") (λxs H Q=>∃p ys,xs=[.ref p]/\(SqL X.K H p ys\/SqT X.K H p ys)/\Q (.int ys.length) H):=by
 intro qQ s σ H xs us Q I r h;obtain ⟨p,ys,rfl,hq,q⟩:=h;obtain ⟨u,rfl,rx⟩:=Xe r;cases rx;have hn:=OA;rcases hq with hq | hq
 ·obtain ⟨its,r',pl,hz⟩:=I.list hq;have qV:=r'.length;exact Calls.call_len_list pl.isList (by simp only [List.size_toArray] <;> lia) ⟨.int ys.length,H,I.tok _,⟨s.toks+1,by rw [List.size_toArray,qV]⟩,q⟩
 ·obtain ⟨its,r',pl,hz⟩:=I.tuple hq;have qV:=r'.length;exact len_tuple pl (by simp only [List.size_toArray] <;> lia) ⟨.int ys.length,H,I.tok _,⟨s.toks+1,by rw [List.size_toArray,qV]⟩,q⟩
theorem UL:Js X (.type "list") (λxs H Q=>∃p ys,xs=[.ref p]/\(SqL X.K H p ys\/SqT X.K H p ys)/\∀l,H l=none->Q (.ref l) (upd H l (.lst ys))):=by
 intro qQ s σ H xs us Q I r h;obtain ⟨p,ys,rfl,hq,q⟩:=h;obtain ⟨u,rfl,rx⟩:=Xe r;cases rx;have fin:∀(its:List Value),Vals ys its->ys.length<=sizeLine->∀(h':Heap)(c':Nat),(∀b o',s.heap.get? b=some o'->h'.get? b=some o') ->
   h'.get? s.heap.objs.size=some { cls:=.type "list", dict:=none,data:=.seq its.toArray c',slots:=#[] }->EP X qQ σ Q (.ref s.heap.objs.size) { s with heap:=h' }:=λits r' hz h' c' kp e=>
  ⟨.ref s.heap.objs.size,_,I.laid (t':=s.toks) kp (Nat.le_refl _) (show ObjOk X.prog X.w _ h' _ (.lst ys) from ⟨hz,its,c',r',e⟩),rfl,q _ (I.hok.fresh (Nat.le_refl _))⟩
 rcases hq with hq | hq
 ·obtain ⟨its,r',pl,hz⟩:=I.list hq;have qV:=r'.length;obtain ⟨o,ho,hc,n,hd⟩:=pl.isList;exact call_list_seq p (.inl rfl) ho hc hd (λh' c' kp e=>fin its r' hz h' c' kp e) (by simp only [List.size_toArray] <;> lia)
 ·obtain ⟨its,r',pl,hz⟩:=I.tuple hq;have qV:=r'.length;obtain ⟨o,ho,hc,n,hd⟩:=pl;exact call_list_seq p (.inr rfl) ho hc hd (λh' c' kp e=>fin its r' hz h' c' kp e) (by simp only [List.size_toArray] <;> lia)
theorem O8:Js X (.type "tuple") (λxs H Q=>∃p ys,xs=[.ref p]/\((SqL X.K H p ys/\∀l,H l=none->Q (.ref l) (upd H l (.tup ys)))\/(SqT X.K H p ys/\Q (.ref p) H))):=by
 intro qQ s σ H xs us Q I r h;obtain ⟨p,ys,rfl,h⟩:=h;obtain ⟨u,rfl,rx⟩:=Xe r;cases rx;rcases h with ⟨hq,q⟩ | ⟨hq,q⟩
 ·obtain ⟨its,r',pl,hz⟩:=I.list hq;have qV:=r'.length;refine call_tuple_list pl.isList (λh' kp=>?_) (by simp only [List.size_toArray] <;> lia);have I1:Inv X qQ σ H { s with heap:=h' }:=I.kept (t':=s.toks) kp;have I2:Inv X qQ σ (upd H h'.objs.size (.tup ys)) { s with heap:=h'.push { cls:=.type "tuple", data:=.seq its.toArray } }:=
   I1.laid (t':=s.toks) (λb o e=>Heap.get?_push_of_some _ e) (Nat.le_refl _) (show ObjOk X.prog X.w _ _ _ (.tup ys) from ⟨hz,its,r',IsTup.new _ _⟩)
  exact ⟨.ref h'.objs.size,_,I2,rfl,q _ (I1.hok.fresh (Nat.le_refl _))⟩
 ·obtain ⟨its,r',pl,hz⟩:=I.tuple hq;exact call_tuple_same pl ⟨.ref p,H,I,rfl,q⟩
def tyV (K:W.Frag)(T:String)(x:V)(H:Hp):Prop:=match x with
 | .str _=>T = "str"
 | .int _=>T = "int"
 | .ref p=>(T = "list" /\ ∃xs,SqL K H p xs)\/(T = "tuple" /\ ∃o,K.lookup p=some o/\o.cls=.type "tuple" /\ o.dict=none) \/
   (T = "dict" /\ ((∃kvs,H p=some (.dK kvs))\/∃kvs,H p=some (.dT kvs)))\/(T = "set" /\ ∃S n,H p=some (.set S n))
 | _=>False
theorem Zbx {qQ:List (Addr×Obj)}{σ:St}{H:Hp}{s:Shared}{T:String}{x:V}{v:Value}(I:Inv X qQ σ H s)(r:RelV x v)(ty:tyV X.K T x H) :
  s.TypeIs v T/\∀a,v=.ref a->∃ob,s.heap.get? a=some ob/\ob.dict=none:=by
 cases x with
 | str z=>
  obtain ⟨t,rfl⟩:=r;cases (show T = "str" from ty);exact ⟨typeIs_str s z t,λ_ e=>nomatch e⟩
 | int i=>
  obtain ⟨t,rfl⟩:=r;cases (show T = "int" from ty);exact ⟨typeIs_int s i t,λ_ e=>nomatch e⟩
 | ref p=>
  cases r;rcases ty with ⟨rfl,xs,hq⟩ | ⟨rfl,o,hk,hc,hd⟩ | ⟨rfl,hk⟩ | ⟨rfl,S,n,hk⟩
  ·obtain ⟨its,_,pl,_⟩:=I.list hq;refine ⟨pl.isList.typeIs,λa e=>?_⟩;cases e;obtain ⟨o,n,e,c,hd,_⟩:=pl;exact ⟨o,e,hd⟩
  ·refine ⟨⟨o,I.kIn p o hk,hc⟩,λa e=>?_⟩;cases e;exact ⟨o,I.kIn _ o hk,hd⟩
  ·have z:∃o,s.heap.get? p=some o/\o.ExactDict:=by
    rcases hk with ⟨kvs,hk⟩ | ⟨kvs,hk⟩
    ·obtain ⟨_,_,_,_,o,_,_,e,ex,_⟩:=I.hok p _ hk;exact ⟨o,e,ex⟩
    ·obtain ⟨_,_,_,_,o,_,_,e,ex,_⟩:=I.hok p _ hk;exact ⟨o,e,ex⟩
   obtain ⟨o,e,ex⟩:=z;refine ⟨⟨o,e,ex.1⟩,λa e2=>?_⟩;cases e2;exact ⟨o,e,ex.2.1⟩
  ·obtain ⟨o,_,_,_,e,ex,_⟩:=I.hok p _ hk;refine ⟨⟨o,e,ex.1⟩,λa e2=>?_⟩;cases e2;exact ⟨o,e,ex.2.1⟩
 | _=>exact False.elim ty
def tBM (K:W.Frag)(T:String)(r:V->List V->Hp->VK->Prop)(to:TE)(t:TA):TE:=λσ H Q=>to σ H λx H1=>tyV K T x H1/\t σ H1 λxs H2=>r x xs H2 Q
variable {o e:Expr}{es:List Expr}{to:TE}{t:TA}{name:Str}{apos qK:Pos}{T id:String}{r:V->List V->Hp->VK->Prop}
theorem UM (pa:PlainAttrs T)(slot:Slot T name id)(hty:typeOf (.builtin id)=pure (.type "method_descriptor"))(hm:MtR X id r)(ho:PE X o to)(ha:PA X (e::es) t)(hbase:attributeBase o name X.env (eval o X.env)=eval o X.env:=by rfl)(hfew:((backTo qK (starEach (e::es) X.env)).all (λx=>!x.1) && (backToKw qK (keywordEach [] X.env)).all (λx=>x.1.isSome)
   && decide ((e::es).length+([]:List Keyword).length+(if ([]:List Keyword).isEmpty then 0 else 1)<30))=true:=by rfl)(hline:(apos.endLine == qK.line)=true:=by rfl)(hs:starEach (e::es) X.env=(false,eval e X.env)::starEach es X.env:=by rfl)(hplain:(backTo qK (starEach es X.env)).any (·.1)=false:=by rfl) :
  PE X (.Call (.Attribute o name apos) (e::es) [] qK) (tBM X.K T r to t):=by
 intro qQ s σ H Q I h;refine wpAny_Call_method_late hbase hfew hline rfl (thn (ho qQ s σ H _ I h) λv s1 ⟨x,H1,I1,r1,ty,q1⟩=>?_);obtain ⟨h1,h2⟩:=Zbx I1 r1 ty;refine ⟨T,id,pa,slot,hty,h1,h2,?_⟩;have hA:=ha qK qQ s1 σ H1 _ I1 q1;rw [hs] at hA ⊢;refine Calls.callWith_builtin (by show (false || (backTo qK (starEach es X.env)).any (·.1))=false;rw [hplain] <;> rfl) (Calls.evalArgs_plain ?_);exact thn hA λus s2 ⟨vs,H2,I2,r2,q2⟩=>hm qQ s2 σ H2 x vs v us Q I2 r1 r2 q2
/- xs.append(e),list.index on a module's tuple .. are MtR facts of 06m -/
end
end L2
namespace L2
open PySem PySem.Spec PyProof.Rows
def MtM (X:Cx)(id:String)(r:V->List V->Hp->VK->Prop):Prop:=
 ∀(qQ:List (Addr×Obj))(s:Shared)(σ:St)(H:Hp)(x:V)(xs:List V)(v:Value)(us:List Value)(Q:VK),Inv X qQ σ H s->RelV x v->Vals xs us->r x xs H Q ->
  wpAny (model X.prog X.w) X.A (call (.builtin id) (v::us)) (EP X qQ σ Q) X.xe s
theorem Vals.one:∀{x:V}{us:List Value},Vals [x] us->∃u,us=[u]/\RelV x u
 | _,_,.cons r .nil=>⟨_,rfl,r⟩
theorem Vals.two:∀{x y:V}{us:List Value},Vals [x,y] us->∃u v,us=[u,v]/\RelV x u/\RelV y v
 | _,_,_,.cons r (.cons q .nil)=>⟨_,_,rfl,r,q⟩
theorem Vals.zero:∀{us:List Value},Vals [] us->us=[]
 | _,.nil=>rfl
theorem Vals.rep {xs:List V}{us:List Value}(h:Vals xs us):∀k:Nat,Vals (List.replicate k xs).flatten (List.replicate k us).flatten
 | 0=>.nil
 | k+1=>by
  rw [List.replicate_succ,List.replicate_succ,List.flatten_cons,List.flatten_cons];exact Vals.append h (Vals.rep h k)
theorem UN (its:List Value):∀(k:Nat)(acc:List Value),
  List.foldl (λx1 x2=>x1++x2) acc.toArray (List.replicate k its.toArray)=(acc++(List.replicate k its).flatten).toArray
 | 0,acc=>by simp
 | k+1,acc=>by
  have e:acc.toArray++its.toArray=(acc++its).toArray:=by simp
  have e2:(acc++its)++(List.replicate k its).flatten=acc++(List.replicate (k+1) its).flatten:=by
   rw [List.replicate_succ,List.flatten_cons,List.append_assoc]
  rw [<-e2,<-UN its k (acc++its),<-e,List.replicate_succ,List.foldl_cons]
section
variable {X:Cx}{qQ:List (Addr×Obj)}{σ:St}{H:Hp}{s:Shared}{l b:Addr}{xs ys zs:List V}
theorem Inv.lset {its its':List Value}{n:Nat}{f:Array Value->Array Value}{t':Nat}(I:Inv X qQ σ H s)(hH:H l=some (.lst xs))(e:s.heap.get? l=some { cls:=.type "list", data:=.seq its.toArray n })(hf:f its.toArray=its'.toArray)(hv:Vals ys its')(hz:ys.length<=sizeLine) :
  Inv X qQ σ (upd H l (.lst ys)) { s with heap:=s.heap.update l (Obj.mapSeq f),toks:=t' }:=by
 have q:=PySem.IsL.update e f;rw [hf] at q;refine I.write (x:=l) (e:=l) (by rw [hH];exact trivial) (.inl rfl) (λb' u hb hu=>(Heap.get?_update_other s.heap (Obj.mapSeq f) (Ne.symm hb)).trans hu) ⟨_,q⟩ ?_;exact ⟨hz,its',_,hv,q⟩
theorem Inv.lnew {its:List Value}{t':Nat}(I:Inv X qQ σ H s)(hv:Vals ys its)(hz:ys.length<=sizeLine) :
  Inv X qQ σ (upd H s.heap.objs.size (.lst ys)) { s with heap:=s.heap.push { cls:=.type "list", data:=.seq its.toArray },toks:=t' }:=
 I.laid (λ_ _ q=>Heap.get?_push_of_some _ q) (Nat.le_refl _) ⟨hz,its,0,hv,Heap.get?_push_size _ rfl⟩
theorem Inv.fresh (I:Inv X qQ σ H s):H s.heap.objs.size=none:=I.hok.fresh (Nat.le_refl _)
theorem Inv.lstM (I:Inv X qQ σ H s)(hH:H l=some (.lst xs)):xs.length<=sizeLine/\∃(its:List Value)(n:Nat),Vals xs its/\xs.length=its.length/\s.heap.get? l=some { cls:=.type "list", data:=.seq its.toArray n }:=by
 obtain ⟨z,its,n,r,e⟩:=I.hok l _ hH;exact ⟨z,its,n,r,r.length,e⟩
theorem YQ {n:Nat}(h:n<=sizeLine):Builtin.List.listTooLong n=false:=by
 unfold Builtin.List.listTooLong;exact decide_eq_false (by lia)
end
section
variable {X:Cx}
def O9:V->List V->Hp->VK->Prop:=λx vs H Q=>∃l xs y,x=.ref l/\vs=[y]/\H l=some (.lst xs)/\xs.length<sizeLine/\Q .non (upd H l (.lst (xs++[y])))
theorem GY:MtM X "list.append" O9:=by
 intro qQ s σ H x vs v us Q I rx rv h;obtain ⟨l,xs,y,rfl,rfl,hH,hz,q⟩:=h;cases rx;obtain ⟨u,rfl,ru⟩:=rv.one;obtain ⟨z,its,n,r,hl,e⟩:=I.lstM hH;refine call_meets F.slot_list_append ⟨_,e,rfl⟩ F.entry_list_append (F.args_list_append_2 _ _) (PySem.list_append l its.toArray n u (by rw [List.size_toArray];lia)) ⟨e,?_⟩;refine ⟨.non,_,I.lset (its':=its++[u]) hH e (by simp) (r.append (.cons ru .nil)) ?_,rfl,q⟩;rw [List.length_append,List.length_singleton]
 lia
def Zex:R2:=λx y H Q=>∃l b xs zs,x=.ref l/\y=.ref b/\H l=some (.lst xs)/\H b=some (.lst zs)/\xs.length+zs.length<=sizeLine/\∀p,H p=none->Q (.ref p) (upd H p (.lst (xs++zs)))
theorem ZP:OpR X (binaryOp .Add) Zex:=by
 intro qQ s σ H x y v u Q I rx ry h;obtain ⟨l,b,xs,zs,rfl,rfl,hH,hB,hz,q⟩:=h;cases rx;cases ry;obtain ⟨z,its,n,r,hl,e⟩:=I.lstM hH;obtain ⟨z2,its2,n2,r2,hl2,e2⟩:=I.lstM hB;refine PySem.P.add_list e e2 ?_ (by rw [List.size_toArray,List.size_toArray];lia);have ea:its.toArray++its2.toArray=(its++its2).toArray:=by simp
 rw [ea];exact ⟨.ref _,_,I.lnew (t':=s.toks) (r.append r2) (by rw [List.length_append];lia),rfl,q _ I.fresh⟩
def Zey:R2:=λx y H Q=>∃l k xs,x=.ref l/\y=.int k/\H l=some (.lst xs)/\-(2 ^ 63)<=k/\k<2 ^ 63/\xs.length * k.toNat<=sizeLine /\
 ∀p,H p=none->Q (.ref p) (upd H p (.lst (List.replicate k.toNat xs).flatten))
theorem Zaq {α:Type}(xs:List α)(k:Nat):(List.replicate k xs).flatten.length=k * xs.length:=by
 induction k with
 | zero=>simp
 | succ k ih=>rw [List.replicate_succ,List.flatten_cons,List.length_append,ih,Nat.succ_mul,Nat.add_comm]
theorem Zby:OpR X (binaryOp .Mult) Zey:=by
 intro qQ s σ H x y v u Q I rx ry h;obtain ⟨l,k,xs,rfl,rfl,hH,h1,h2,hz,q⟩:=h;cases rx;obtain ⟨t,rfl⟩:=ry;obtain ⟨z,its,n,r,hl,e⟩:=I.lstM hH;have qV:its.toArray.size * k.toNat<=sizeLine:=by rw [List.size_toArray,<-hl];exact hz
 have hcap:¬ its.toArray.size * k.toNat > (2 ^ 63-1) / 8:=by
  have:(sizeLine:Nat)<=(2 ^ 63-1) / 8:=by decide
  lia
 have hfit:¬ (!Builtin.List.listFitsIndex k)=true:=by
  rw [fitsIndex_both h1 h2];exact Bool.false_ne_true
 have hlong:¬ Builtin.List.listTooLong (its.toArray.size * k.toNat)=true:=by
  rw [YQ qV];exact Bool.false_ne_true
 have hnew:List.foldl (λx1 x2=>x1++x2) #[] (List.replicate (if its.toArray.isEmpty=true then 0 else k.toNat) its.toArray)=(List.replicate k.toNat its).flatten.toArray:=by
  have f0:∀m:Nat,List.foldl (λx1 x2=>x1++x2) #[] (List.replicate m its.toArray)=(List.replicate m its).flatten.toArray:=λm=>by
   have:=UN its m [];rw [List.nil_append] at this;exact this
  rw [f0];cases its with
  | nil=>simp
  | cons a r'=>rw [if_neg (by simp)]
 refine wpAny_binaryOp_repeat_ref (T := "list") (U := "int") (by decide) ⟨_,e,rfl⟩ (λs'=>typeIs_int s' k t) noFill_list_mul F.fills_int_mul F.slot_int_rmul repeat_list F.slot_int_index.lookup
  (call_meets F.slot_int_rmul (typeIs_int s k t) F.entry_int_rmul (F.args_int_rmul_2 _ _) (int___rmul___int_list k t l its.toArray n)
   ⟨e,rfl,⟨_,e,rfl⟩,call_meets F.slot_list_mul ⟨_,e,rfl⟩ F.entry_list_mul (F.args_list_mul_2 _ _) (AutoListH.list___mul___list_int_3 l its.toArray n k t hfit hcap hlong) ⟨e,?_⟩⟩)
 rw [hnew];exact ⟨.ref _,_,I.lnew (t':=s.toks) (r.rep k.toNat) (by rw [Zaq,Nat.mul_comm];exact hz),rfl,q _ I.fresh⟩
end
end L2
namespace Att
open PySem PySem.W PySem.Calls PyProof.Rows
theorem OC {P:Params}{h:Heap}:∀(ns:List Int)(vs:List Value),WellAll P h vs (ns.map WData.int)->IntsAre vs ns:=by
 intro ns
 induction ns with
 | nil=>
  intro vs w;rw [List.map_nil] at w;cases w;exact .nil
 | cons n ns ih=>
  intro vs w;rw [List.map_cons] at w;cases w with
  | cons a b=>
   cases a;exact .cons _ _ (ih _ b)
theorem Xn {l:OpenLaw}{n:Nat}(hn:l.most=some n){P:Params}{h:Heap}{args:List WData}{vals:List Value}(hpre:l.row.toRowW.claim.pre args=true)(hwl:WellAll P h vals args) :
  ∃a vs ns,vals=[Value.ref a]/\args=[WData.list (ns.map WData.int)]/\h.get? a=some { cls:=.type "list", data:=.seq vs.toArray }/\IntsAre vs ns/\ns.length<=n:=by
 have hsh:WShape.hasAll [] args [.list .int]=true:=(pre_splitW hpre).1;have hc:l.pre.holds [] { args:=args }=true:=(pre_splitW hpre).2;obtain ⟨d,r,rfl,h1,h2⟩:=hasAllW_cons hsh;obtain rfl:=hasAllW_nil h2;obtain ⟨xs,rfl,h3⟩:=hasW_list h1;obtain ⟨ns,rfl⟩:=items_int h3;have qV:ns.length<=n:=by
  unfold OpenLaw.pre at hc;have h4:(WTm.not (.lt (.lit (.int (n:Int))) (.len (.arg 0)))).holds [] { args:=[.list (ns.map .int)] }=true:=by
   have h4:=(holds_andW hc).1;rw [hn] at h4;exact h4
  have h5:=condW_of h4 (w_not (w_lt w_lit (w_len_list (w_arg rfl))));rw [List.length_map] at h5;refine Nat.le_of_not_lt λq=>?_;have q':(n:Int)<((ns.length:Nat):Int):=by lia
  first
   | (rw [decide_eq_true q'] at h5;exact absurd h5 (by decide))
   | (simp at h5;lia)
 cases hwl with
 | cons w1 w2=>
  cases w2;cases w1 with
  | list ho qY=>exact ⟨_,_,ns,rfl,rfl,ho,OC ns _ qY,qV⟩
theorem Xo (l:OpenLaw)(args:List WData):l.row.toRowW.claim.post args (.bool true) args=true:=
 postW_of (r:=l.row.toRowW) (X:=(true == true))
  (show WShape.has [] (.bool true) .bool=true by first | rfl | decide | simp [WShape.has,WShape.arms,WShape.armsAll])
  (show (WTm.eq .res (.lit (.bool true))).value [] { args:=args,res:=some (.bool true),after:=args }=some (.bool (true == true)) from w_eq_bool (w_res rfl) w_lit) rfl
theorem attach_call {l:OpenLaw}{n:Nat}{q:Program}{loose:List Str}{XP:(Str->Option Value)->Heap->Prop}{YP:World->Heap->Prop}{d:DefRec}(hn:l.most=some n)(hdf:d.params.defaults=[])(call:∀(w:World)(s₀ s₁:Shared)(mg mb:Str->Option Value)(fa:Addr)(o:Obj)(pm cd doc:Value)(a:Addr)(vs:List Value)(ns:List Int),
   Ground q loose [] XP w s₀ mg mb s₁.heap->YP w s₁.heap ->
   s₁.heap.get? fa=some o->o.data=.func (docDef d.name d.params d.body d.scope pm cd doc)->s₁.heap.CodeRec cd d.name->mg d.name=some (.ref fa) ->
   s₁.heap.get? a=some { cls:=.type "list", data:=.seq vs.toArray }->IntsAre vs ns->ns.length<=n->s₁.gens=#[] ->
   codeAny (model l.prog w) callerA (.call (.ref fa) ⟨[.ref a],[]⟩) (λr s'=>r=.ok (.ret (.bool true))/\OldK s₁.heap s'.heap/\s'.os=s₁.os/\AllBare s'.gens) s₁) :
  WalkO q loose XP YP l.row.toRowW d [] (λf vs=>PySem.call f vs):=by
 intro w s₀ s₁ mg mb G Y fa o pm cd doc dV kV ho hd hcd hD hmg hg args vals as hpre hlay hrd hwl hlo;obtain rfl:dV=.none:=Dflts.none hD hdf;obtain rfl:kV=.none:=Dflts.noKw hD;obtain ⟨a,vs,ns,rfl,rfl,hobj,hints,qV⟩:=Xn hn hpre hwl;refine enter_call (codeAny_mono (call w s₀ s₁ mg mb fa o pm cd doc a vs ns G Y ho (fd_plain hd) hcd hmg hobj hints qV hg) λr s' hq=>?_);obtain ⟨rfl,h2,h3,h4⟩:=hq;exact ⟨.inl ⟨.bool true,.bool true,[],rfl,λ_=>rfl,.bool true,Xo l _,λ_=>⟨List.Pairwise.nil,λ_ hm=>(nomatch hm)⟩⟩,h2,h3,h4⟩
end Att
namespace L2
open PySem PySem.Spec PyProof.Rows
theorem UO:∀{vs:List Value}{ns:List Int},IntsAre vs ns->Vals (ns.map V.int) vs
 | _,_,.nil=>.nil
 | _,_,.cons n t h=>.cons ⟨t,rfl⟩ (UO h)
def Zc6 (H:Hp):Prop:=∀b,H b=none\/∃o xs,H b=some (.frz o (.lst xs))
theorem YR {P:Program}{w:World}{K:W.Frag}{mg mb:Str->Option Value}{CX:CXT}{k:Nat}{fa a:Addr}{fd:FuncData}{x:Str}{sp:Sp}{s₁:Shared}{vs:List Value}{ns:List Int}(KX:K.In s₁.heap)(hns:s₁.heap.Ns mainGlobals mg)(hb:s₁.heap.Ns builtinsNs mb)(hbb:∀x:Str,x ≠ "__name__" -> mb x=bootBuiltins x)(hlim:s₁.heap.NoLimit)(hg:s₁.gens=#[])(ha:s₁.heap.get? a=some { cls:=.type "list", data:=.seq vs.toArray })(hi:IntsAre vs ns)(hl:ns.length<=sizeLine)(hr:Room k callerA)(F:∀base:Heap,K.In base->base.Ns mainGlobals mg->GL P w K mg base CX k fa fd [x] sp)(hbind:∀(s:Shared)(u:Value),BindsTo s fd ⟨[u],[]⟩ [(x,u)])(hsp:∀H:Hp,Zc6 H->SqL K H a (ns.map V.int)->sp [.ref a] H (λv _=>v=.bl true) λ_ _ _=>False)(hCX:∀H e s',CX [] H s₁ (λ_ _ _=>False) e s'->False) :
  codeAny (model P w) callerA (.call (.ref fa) ⟨[.ref a],[]⟩) (λr s'=>r=.ok (.ret (.bool true))/\OldK s₁.heap s'.heap/\s'.os=s₁.os/\AllBare s'.gens) s₁:=by
 have rv:=UO hi;have lenV:=hi.length;have core:∀H:Hp,Zc6 H->SqL K H a (ns.map V.int)->HOk P w H s₁.heap->(∀b,H b≠none->b=a)->(H a≠none->K.lookup a=none) ->
   codeAny (model P w) callerA (.call (.ref fa) ⟨[.ref a],[]⟩) (λr s'=>r=.ok (.ret (.bool true))/\OldK s₁.heap s'.heap/\s'.os=s₁.os/\AllBare s'.gens) s₁:=by
  intro H hO hS hok hA hK;have base_of:∀{b:Addr}{o:Obj},s₁.heap.get? b=some o->H b=none->(YE s₁.heap H).get? b=some o:=λe n=>YF e n;have noA:∀{b:Addr}{o:Obj}{es:Array DictEntry}{ep:Nat},s₁.heap.get? b=some o->o.data=.dict es ep->H b=none:=λ{b o es ep} e d=>by
   cases q:H b with
   | none=>rfl
   | some u=>
    have e':b=a:=hA b (by rw [q];simp);subst e';rw [ha] at e;cases e;have d':Data.seq vs.toArray _=Data.dict es ep:=d;cases d'
  have nsK:∀{b:Addr}{m:Str->Option Value},s₁.heap.Ns b m->(YE s₁.heap H).Ns b m:=λ{b m} ⟨o,es,ep,e,d,r⟩=>⟨o,es,ep,base_of e (noA e d),d,r⟩;have hKb:K.In (YE s₁.heap H):=λb o e=>base_of (KX b o e) (by
   cases q:H b with
   | none=>rfl
   | some u=>
    have e':b=a:=hA b (by rw [q];simp);subst e';rw [hK (by rw [q];simp)] at e;cases e)
  have hM:Mod K mg (YE s₁.heap H):=⟨hKb,nsK hns,⟨mb,nsK hb,hbb⟩,let ⟨mc,h1,h2⟩:=hlim;⟨mc,nsK h1,h2⟩⟩;have e0:ZcG P w K mg (YE s₁.heap H) callerA [] s₁ H:=⟨rfl,hM,λb o e=>Zab e,Nat.le_of_eq (W0 _ _),trivial,λb hb=>absurd (show b∈([]:List Addr) from hb) (by simp),hok,.of_eq hg⟩;refine codeAny_mono ((F _ hKb (nsK hns)).run callerA [] s₁ H ⟨[.ref a],[]⟩ [.ref a] [.ref a] _ _ hr e0 (hbind s₁ (.ref a)) (.cons rfl .nil) (hsp H hO hS)) λr s' h=>?_;cases r with
  | error e=>exact (hCX H e s' h).elim
  | ok fl=>
   cases fl with
   | next=>exact False.elim h
   | brk=>exact False.elim h
   | cont=>exact False.elim h
   | ret u=>
    obtain ⟨v,H',os,bare,un,hok',r',q⟩:=h;have q':v=.bl true:=q;subst q';obtain rfl:u=Value.bool true:=r';refine ⟨rfl,OldK.of_keep λb o e=>?_,os,bare⟩;cases q:H b with
    | none=>exact un.keep b o e q (by intro z;exact absurd (show b∈([]:List Addr) from z) (by simp)) (by simp)
    | some u=>
     rcases hO b with z | ⟨ob,xs,z⟩
     ·rw [q] at z;cases z
     ·have z2:=un.frzs b ob _ z;obtain ⟨e1,_⟩:=hok b _ z;obtain ⟨e2,_⟩:=hok' b _ z2;rw [e] at e1;cases e1;exact e2
 cases hk:K.lookup a with
 | some o=>
  have e:=KX a o hk;rw [ha] at e;cases e;refine core (λ_=>none) (λ_=>.inl rfl) (.inr ⟨_,vs.toArray,_,hk,rfl,rfl,rfl,by rw [List.size_toArray,lenV];exact hl,by simpa using rv⟩) (λb u z=>by have z':(none:Option HO)=some u:=z;cases z') (λb z=>absurd rfl z) λz=>absurd rfl z
 | none=>
  refine core (λb=>if b=a then some (.frz { cls:=.type "list", data:=.seq vs.toArray } (.lst (ns.map V.int))) else none) (λb=>?_) (.inl (.inr ⟨{ cls:=.type "list", data:=.seq vs.toArray },if_pos rfl⟩)) (λb u z=>?_) (λb z=>?_) λ_=>hk
  ·by_cases hb:b=a
   ·exact .inr ⟨_,_,if_pos hb⟩
   ·exact .inl (if_neg hb)
  ·by_cases hb:b=a
   ·have z':=(if_pos hb).symm.trans z;cases z';subst hb;exact ⟨ha,by rw [List.length_map];exact hl,vs,_,rv,ha⟩
   ·have z':=(if_neg hb).symm.trans z;cases z'
  ·by_cases hb:b=a
   ·exact hb
   ·exact absurd (if_neg hb) z
end L2
namespace L2
open PySem PySem.Spec PyProof.Rows
theorem walk_of {l:W.OpenLaw}{n k:Nat}{q:Program}{loose:List Str}{XP:(Str->Option Value)->Heap->Prop}{YP:World->Heap->Prop}{d:DefRec}{K:Params->W.Frag}{CX:World->CXT}{sp:World->Sp}{x:Str}(hn:l.most=some n)(hn2:n<=sizeLine)(hdf:d.params.defaults=[])(hr:Room k callerA)(hY:∀(w:World)(h:Heap),YP w h->(K w.params).In h)(F:∀(w:World)(mg:Str->Option Value)(fa:Addr)(h:Heap),(K w.params).In h->h.Ns mainGlobals mg->mg d.name=some (.ref fa) ->
   ∃fd:FuncData,(∀(s:Shared)(u:Value),BindsTo s fd ⟨[u],[]⟩ [(x,u)]) /\
    ∀base:Heap,(K w.params).In base->base.Ns mainGlobals mg->GL l.prog w (K w.params) mg base (CX w) k fa fd [x] (sp w))(hsp:∀(w:World)(H:Hp)(a:Addr)(ns:List Int),ns.length<=n->Zc6 H->SqL (K w.params) H a (ns.map V.int)->sp w [.ref a] H (λv _=>v=.bl true) λ_ _ _=>False)(hCX:∀(w:World)(H:Hp)(s:Shared)(e:Value)(s':Shared),CX w [] H s (λ_ _ _=>False) e s'->False) :
  W.WalkO q loose XP YP l.row.toRowW d [] (λf vs=>PySem.call f vs):=by
 refine Att.attach_call hn hdf λw s₀ s₁ mg mb fa o pm cd doc a vs ns G Y ho hd hcd hmg hobj hints qV hg=>?_;have KX:=hY w _ Y;obtain ⟨fd,hb,hF⟩:=F w mg fa _ KX G.T.g hmg;exact YR KX G.T.g G.T.b G.T.builtins G.T.nolimit hg hobj hints (Nat.le_trans qV hn2) hr hF hb (λH hO hS=>hsp w H a ns qV hO hS) λH e s'=>hCX w H s₁ e s'
end L2
/- THE LAST THEOREM (shape;LID,My.* are yours):
  My.Adr: a structure of the addresses that your layer names (classes,functions);My.Txt K t: a structure (Prop) of the equations over K;
  My.txt_mk:{K} {implicit addresses ..} (e1:nsIn K mainGlobals "law" = some (some (.ref f))) (e2:K.lookup f=some ⟨oc,od,.func (fnOf "law" "law" params body scope dV kV doc pm an cdv ct),sl⟩) (e3:codeIn K cdv "law" = true) ..:∃t,My.Txt K t
set_option maxRecDepth 100000 in
set_option maxHeartbeats 0 in
theorem PySem.Challenge.cw_LID_holds:PySem.Challenge.rw_LID.Holds:=by
 w_on;o_law;k_head;(case hw=>w_witness2)
 k_fill
 refine L2.walk_of (l:=PySem.Challenge.rw_LID) (n:=63) (k:=40) (x := "script") (CX:=λw=>..) (sp:=λ_=>My.sp_law) rfl (by decide) rfl ⟨rfl,by decide,by decide⟩ (λw h Y=>W.kIn_of Y) ?F ?S ?C
 case F=>
  intro w mg fa h KX G hmg;have T:∃t,My.Txt (L2.KOf KX) t:=by
   dsimp only [L2.KOf]                          -- K must stand as «<heap const> w.params» for k_is
   refine' My.txt_mk ?e1 ?e2 ?e3 ..
   (case e1=>W.k_is)                    -- in the order: a name->its address->its object->its parts
   (case e2=>W.k_is)
   ..
  obtain ⟨t,T⟩:=T;have e0:=hmg.symm.trans (W.mg_of KX G T.law);cases e0                                       -- fa is the law's own address;exact ⟨_,λs u=>.of_eq rfl,λbase kb nb=>My.law_fn T kb nb⟩     -- if «.of_eq rfl» comes too early: refine' ⟨_,?b,λbase kb nb=>My.law_fn T kb nb⟩;exact λs u=>.of_eq rfl
 case S=>exact λw H a ns hl hO hS=>..
 case C=>exact ..
(the tactic k_is has no namespace: write k_is) -/
namespace L2
open PySem PySem.Spec PyProof.Rows
def Gp (s:Stmt):Arguments:=match s with
 | .FunctionDef _ a _ _ _ _ _ _ _ _=>a
 | _=>{ posonlyargs:=[],args:=[],vararg:=none,kwonlyargs:=[],kw_defaults:=[],kwarg:=none,defaults:=[] }
def Gn (s:Stmt):List Stmt:=match s with
 | .FunctionDef _ _ b _ _ _ _ _ _ _=>b
 | _=>[]
def Gc (s:Stmt):Scope:=match s with
 | .FunctionDef _ _ _ _ _ _ sc _ _ _=>sc
 | _=>{ kind:=.function,names:=[],isGenerator:=false,isCoroutine:=false }
abbrev CX0:CXT:=λ_ _ _ _ _ _=>False
abbrev E0:XK:=λ_ _ _=>False
theorem GM {X:Cx}:UD CX0 X E0:=λ_ _ _ _ _ _ _ h=>h.elim
structure Fun (K:W.Frag)(x qual:Str)(st:Stmt)(f:Addr)(fd:FuncData):Prop where
 ex:∃(oc:Value)(od:Option Addr)(kV doc pm:Value)(an:Option Addr)(cdv ct:Value)(osl:Array (Option Value)),
  fd=W.fnOf x qual (Gp st) (Gn st) (Gc st) .none kV doc pm an cdv ct/\K.lookup f=some ⟨oc,od,.func fd,osl⟩/\W.codeIn K cdv qual=true
 kp:W.keepIn K (.ref f)=true
section
variable {P:Program}{w:World}{K:W.Frag}{mg:Str->Option Value}{base:Heap}
theorem Zez {α:Type}{l:List α}(h:l.length=0):l=[]:=List.length_eq_zero_iff.mp h
theorem Zar {α:Type}{l:List α}{n:Nat}(h:l.length=n+1):∃a t,l=a::t/\t.length=n:=by
 cases l with
 | nil=>cases h
 | cons a t=>exact ⟨a,t,rfl,by simpa using h⟩
theorem ZQ {α:Type}{l:List α}(h:l.length=1):∃a,l=[a]:=by
 obtain ⟨a,t,rfl,g⟩:=Zar h;exact ⟨a,by rw [Zez g]⟩
theorem Xp {α:Type}{l:List α}(h:l.length=2):∃x0 x1,l=[x0,x1]:=by
 obtain ⟨a,t,rfl,g⟩:=Zar h;obtain ⟨x1,rfl⟩:=ZQ g;exact ⟨a,x1,rfl⟩
theorem YS {α:Type}{l:List α}(h:l.length=3):∃x0 x1 x2,l=[x0,x1,x2]:=by
 obtain ⟨a,t,rfl,g⟩:=Zar h;obtain ⟨x1,x2,rfl⟩:=Xp g;exact ⟨a,x1,x2,rfl⟩
theorem ZcH {α:Type}{l:List α}(h:l.length=4):∃x0 x1 x2 x3,l=[x0,x1,x2,x3]:=by
 obtain ⟨a,t,rfl,g⟩:=Zar h;obtain ⟨x1,x2,x3,rfl⟩:=YS g;exact ⟨a,x1,x2,x3,rfl⟩
theorem ZeA {α:Type}{l:List α}(h:l.length=5):∃x0 x1 x2 x3 x4,l=[x0,x1,x2,x3,x4]:=by
 obtain ⟨a,t,rfl,g⟩:=Zar h;obtain ⟨x1,x2,x3,x4,rfl⟩:=ZcH g;exact ⟨a,x1,x2,x3,x4,rfl⟩
theorem ZeB {α:Type}{l:List α}(h:l.length=6):∃x0 x1 x2 x3 x4 x5,l=[x0,x1,x2,x3,x4,x5]:=by
 obtain ⟨a,t,rfl,g⟩:=Zar h;obtain ⟨x1,x2,x3,x4,x5,rfl⟩:=ZeA g;exact ⟨a,x1,x2,x3,x4,x5,rfl⟩
theorem ZeQ {α:Type}{l:List α}(h:l.length=7):∃x0 x1 x2 x3 x4 x5 x6,l=[x0,x1,x2,x3,x4,x5,x6]:=by
 obtain ⟨a,t,rfl,g⟩:=Zar h;obtain ⟨x1,x2,x3,x4,x5,x6,rfl⟩:=ZeB g;exact ⟨a,x1,x2,x3,x4,x5,x6,rfl⟩
theorem Fun.ok {x qual:Str}{st:Stmt}{f:Addr}{fd:FuncData}{N ps:List Str}{k:Nat}{sp:Sp}(F:Fun K x qual st f fd)(S:Gs N ps (Gc st))(len:∀vs H Q E,sp vs H Q E->vs.length=ps.length)(qG:∀(cdv:Value)(A:Around)(outer:List Env)(s:Shared)(H:Hp)(vs:List V)(Q:VK)(E:XK),Room k (A.deeper (envOfC qual (Gc st) s.heap.objs.size f cdv))->sp vs H Q E ->
   ∃t,PSs (Yz CX0 P w K mg base N qual (Gc st) f cdv A outer s H E).nox (Gn st) t/\t { nx:=λ_ H'=>Q .non H',rt:=Q } (O5 N vs) H):GL P w K mg base CX0 (k+1) f fd ps sp:=by
 obtain ⟨oc,od,kV,doc,pm,an,cdv,ct,osl,rfl,lk,hcd⟩:=F.ex;refine Zbu lk hcd S len λA outer s H vs Q E hr hsp=>?_;obtain ⟨t,h,q⟩:=qG cdv A outer s H vs Q E hr hsp;exact ⟨t,h.nox,q⟩
theorem Fun.binds {x qual:Str}{st:Stmt}{f:Addr}{fd:FuncData}{ps:List Str}(F:Fun K x qual st f fd)(h:∀(kV doc pm:Value)(an:Option Addr)(cdv ct:Value)(us:List Value),us.length=ps.length->bindArgs (W.fnOf x qual (Gp st) (Gn st) (Gc st) .none kV doc pm an cdv ct) ⟨us,[]⟩=pure (ps.zip us)):Binds K fd ps []:=by
 obtain ⟨oc,od,kV,doc,pm,an,cdv,ct,osl,rfl,lk,hcd⟩:=F.ex;exact .all (h kV doc pm an cdv ct)
theorem GD {x qual:Str}{st:Stmt}{f:Addr}{oc:Value}{od an:Option Addr}{osl:Array (Option Value)}{kV doc pm cdv ct:Value}(l:K.lookup f=some ⟨oc,od,.func (W.fnOf x qual (Gp st) (Gn st) (Gc st) .none kV doc pm an cdv ct),osl⟩)(c:W.codeIn K cdv qual=true)(k:W.keepIn K (.ref f)=true):Fun K x qual st f (W.fnOf x qual (Gp st) (Gn st) (Gc st) .none kV doc pm an cdv ct):=⟨⟨oc,od,kV,doc,pm,an,cdv,ct,osl,rfl,l,c⟩,k⟩
end
section
variable {X:Cx}
theorem pv (i:Nat){x:Str}{pos:Pos}(hN:X.N[i]?=some x:=by rfl)(hv:Vis X.env.scope x:=by first | exact Or.inl rfl | exact Or.inr (Or.inl rfl) | exact Or.inr (Or.inr rfl))(hd:(x == ("__debug__" : Str))=false:=by decide)(hcd:(x == ("__classdict__" : Str))=false:=by decide):PE X (.Name x pos) (YG i):=Zbj hN hv hd hcd
end
theorem Je {A B:Prop}(h:B):if false=true then A else B:=by
 rw [if_neg Bool.false_ne_true];exact h
theorem G9 {A B:Prop}(h:A):if true=true then A else B:=by
 rw [if_pos rfl];exact h
theorem OO {c A B:Prop}[Decidable c](h1:c->A)(h2:¬ c->B):if c then A else B:=by
 by_cases h:c
 ·rw [if_pos h];exact h1 h
 ·rw [if_neg h];exact h2 h
def Same (H H':Hp):Prop:=∀b o,H b=some o->H' b=some o
theorem Same.refl (H:Hp):Same H H:=λ_ _ h=>h
theorem Same.trans {H H1 H2:Hp}(a:Same H H1)(b:Same H1 H2):Same H H2:=λc o h=>b c o (a c o h)
theorem Same.free {H H':Hp}(e:Same H H'){l:Addr}(h:H' l=Option.none):H l=Option.none:=by
 cases q:H l with
 | none=>rfl
 | some o=>
  rw [e l o q] at h;cases h
end L2
namespace L2
open PySem PySem.Spec PyProof.Rows
section
variable {prog:Program}{w:World}{A:Around}{R:Result->Shared->Prop}{s:Shared}
theorem UP {elt qU iter:Expr}{ifs:List Expr}{scope:Scope}{pos:Pos}{it acc:Value}{env:Env}(I:Nat->Shared->Prop)(turn:∀n s,I n s->wpAny (model prog w) A (pyNext it) (λr s1=>match r with
   | none=>R (.ok .next) s1
   | some v=>wpAny (model prog w) A (letOwnedTupleGo qU it v) (λ_ s1'=>wpAny (model prog w) A (assign qU env v) (λ_ s2=>
     wpAny (model prog w) A (forIn ifs true λc r=>if r=true then do let ok <- isTrue c env (eval c env);pure (ForInStep.yield ok) else pure (ForInStep.yield r)) (λok s3=>
      if ok=true then wpAny (model prog w) A (eval elt env) (λx s4=>
       wpAny (model prog w) A (call (.builtin "list.append") [acc,x]) (λ_ s5=>∃m,m<n/\I m s5) (λ_ _=>False) s4) (λ_ _=>False) s3
      else ∃m,m<n/\I m s3) (λ_ _=>False) s2) (λ_ _=>False) s1') (λ_ _=>False) s1) (λ_ _=>False) s)(n:Nat)(h:I n s) :
  codeAny (model prog w) A (.compLoop (.ListComp elt [⟨qU,iter,ifs,0⟩] scope pos) 0 it acc env) R s:=by
 have ff:∀{E:Value->Shared->Prop},∀(x:Value)(s:Shared),(λ(_:Value) (_:Shared)=>False) x s->E x s:=λ_ _ z=>False.elim z;refine codeAny_loop rfl I (λn s hI=>?_) n h;show wpAny _ A ((compTurn (.ListComp elt [⟨qU,iter,ifs,0⟩] scope pos) 0 it acc env).onRaise (λx=>do noteFrame x env;theTreesLotGoes x)) _ _ s;refine wpAny_noted ?_;rw [compTurn_list];refine wpAny_bind (wpAny_standAt (wpAny_bind (wpAny_mono (turn n s hI) (λr s1 h1=>?_) ff)));cases r with
 | none=>exact wpAny_pure h1
 | some v=>
  refine wpAny_bind (wpAny_mono h1 (λ_ s1' h1'=>?_) ff);refine wpAny_bind (wpAny_mono h1' (λ_ s2 h2=>wpAny_bind (wpAny_mono h2 (λok s3 h3=>?_) ff)) ff);cases ok with
  | false=>exact wpAny_pure ⟨rfl,h3⟩
  | true=>
   exact wpAny_bind (wpAny_bind (wpAny_mono h3 (λx s4 h4=>wpAny_bind (wpAny_mono h4 (λ_ s5 h5=>wpAny_pure (wpAny_pure ⟨rfl,h5⟩)) ff)) ff))
end
def Cx.comp (X:Cx)(scope:Scope)(cl:List (Str×Addr))(N:List Str)(C:Addr)(s:Shared)(H:Hp)(fp:List Addr):Cx:=
 { X with N:=N,s₀:=s,H₀:=H,env:=compEnvC scope cl C X.env,outer:=X.stack,ex:=fp,fn:=λ_=>false,pn:=[],xe:=λ_ _=>False }
def Zbz (X:Cx)(ifs:List Expr)(t:TT):Prop:=
 ∀(qQ:List (Addr×Obj))(s:Shared)(σ:St)(H:Hp)(Q:Bool->Hp->Prop),Inv X qQ σ H s->t σ H Q ->
  wpAny (model X.prog X.w) X.A (forIn ifs true λc r=>if r=true then do let ok <- isTrue c X.env (eval c X.env);pure (ForInStep.yield ok) else pure (ForInStep.yield r)) (TP X qQ σ Q) X.xe s
def YT:TT:=λ_ H Q=>Q true H
theorem Ja {X:Cx}:Zbz X [] YT:=λ_ _ _ H _ I h=>wpAny_tests_nil ⟨H,I,h⟩
theorem JG {X:Cx}{c:Expr}{t:TT}(h:PT X c t):Zbz X [c] t:=λqQ s σ H Q I hw=>wpAny_tests_one (h qQ s σ H Q I hw)
structure Jf (X:Cx)(scope:Scope)(cl:List (Str×Addr))(own:List Str)(fr:List (Str×Nat)):Prop where
 clos:closureFor scope X.env=pure cl
 nocell:∀y∈scope.names,y.2≠.cell
 kind:scope.kind=.function
 names:∀y∈scope.names,y.2=.local->scope.names.lookup y.1=some .local
 cls:∀y c,cl.lookup y=some c->X.env.cells.lookup y=some c
 has:∀y,((relabel scope X.env).names.lookup y=some .cell\/(relabel scope X.env).names.lookup y=some .free)->∃c,cl.lookup y=some c
 free:∀p∈fr,X.N[p.2]?=some p.1/\(X.env.kindOf p.1=some .cell\/X.env.kindOf p.1=some .free)/\((relabel scope X.env).names.lookup p.1=some .cell\/(relabel scope X.env).names.lookup p.1=some .free)
def JN (own:List Str)(fr:List (Str×Nat))(σ:St):St:=own.map (λ_=>none)++fr.map λp=>(σ[p.2]?).join
def J0:St->St->Prop
 | [],[]=>True
 | none::r,_::r'=>J0 r r'
 | some v::r,some v'::r'=>v=v'/\J0 r r'
 | _,_=>False
theorem JH:∀{a b:St},J0 a b->∀(i:Nat)(v:V),a[i]?=some (some v)->b[i]?=some (some v)
 | [],[],_,i,v,h=>by simp at h
 | [],_::_,z,_,_,_=>z.elim
 | none::r,[],z,_,_,_=>z.elim
 | some _::r,[],z,_,_,_=>z.elim
 | some _::r,none::_,z,_,_,_=>z.elim
 | none::r,_::r',z,0,v,h=>by simp at h
 | none::r,_::r',z,i+1,v,h=>by
  have:=JH (a:=r) (b:=r') z i v (by simpa using h);simpa using this
 | some x::r,some x'::r',z,0,v,h=>by
  obtain ⟨e,_⟩:=z;subst e;simpa using h
 | some x::r,some x'::r',z,i+1,v,h=>by
  have:=JH (a:=r) (b:=r') z.2 i v (by simpa using h);simpa using this
def G6 (J:It)(D:Addr)(g:TG)(tc:TT)(te:TE)(σ0:St)(W:Nat->Nat->List V->Hp->Prop)(R:Hp->Prop):Prop:=
 ∀i m ys H2,W i m ys H2->(J.stop i H2/\R H2)\/(J.go i H2/\∃N:List V->Hp->Prop,(∀ys' H',N ys' H'->∃m',m'<m/\W (i+1) m' ys' H')/\∀x H3,J.yld i H2 x H3->g x σ0 H3 λσ4 H4=>J0 σ0 σ4/\tc σ4 H4 λb H5=>
  if b=true then te σ4 H5 λy H6=>H6 D=some (.lst ys)/\ys.length<sizeLine/\N (ys++[y]) (upd H6 D (.lst (ys++[y])))
  else N ys H5)
def ZbA (wi:TI)(g:TG)(tc:TT)(te:TE)(own:List Str)(fr:List (Str×Nat)):TE:=λσ H Q=>wi σ H λJ H1=>∀D,H1 D=none ->
 ∃W:Nat->Nat->List V->Hp->Prop,(∃m,W 0 m [] (upd H1 D (.lst [])))/\G6 J D g tc te (JN own fr σ) W λH2=>Q (.ref D) H2
section
variable {X:Cx}{qU iter elt:Expr}{ifs:List Expr}{scope:Scope}{cl:List (Str×Addr)}{own:List Str}{fr:List (Str×Nat)}{pos:Pos}{wi:TI}{g:TG}{tc:TT}{te:TE}
theorem Inv.sub_pins {qQ pins':List (Addr×Obj)}{σ:St}{H:Hp}{s:Shared}(I:Inv X qQ σ H s)(h:∀p∈pins',p∈qQ):Inv X pins' σ H s:=I.pins_of λp hp=>I.pin p (List.mem_append_right _ (h p hp))
theorem Zas {qQ:List (Addr×Obj)}{σ:St}{H:Hp}{s:Shared}{C:Addr}{fp:List Addr}(S:Jf X scope cl own fr)(I:Inv X qQ σ H s)(hf:∀b∈fp,Yy X qQ H b)(hC:s.heap.objs.size<=C)(hfl:∀b∈fp,b<s.heap.objs.size) :
  (X.comp scope cl (own++fr.map (·.1)) C s H fp).Ok:=by
 refine ⟨I.ok.mod,?_,I.ok.glob,I.ok.blt,hC,λx y c h1 h2=>I.ok.inj x y c (S.cls x c h1) (S.cls y c h2),S.has,λx c z=>absurd z (by simp [Cx.comp]),I.ok.hd,I.ok.frames,.inl rfl,
  λb hb=>⟨Nat.ne_of_lt (Nat.lt_of_lt_of_le (hfl b hb) hC),λx c h=>(hf b hb).2.2.2.2.1 x c (S.cls x c h)⟩,I.bs,Nat.le_trans I.ok.bsz I.sz,λb o e hb=>?_,λb hb z=>?_,I.stack,I.stkFree⟩
 ·show (relabel scope X.env).kind=.function;exact S.kind
 ·rcases (hf b hb).2.2.2.1 with z | z
  ·exact I.ok.noex b o e z
  ·exact absurd (Nat.lt_of_lt_of_le (Heap.lt_size e) (Nat.le_trans I.ok.bsz z)) (Nat.lt_irrefl _)
 ·rcases List.mem_cons.mp (I.stkSub b z) with q | q
  ·exact (hf b hb).2.1 q
  ·exact (hf b hb).2.2.1 q
theorem OW (own:List Str)(fr:List (Str×Nat))(σ:St):(JN own fr σ).length=(own++fr.map (·.1)).length:=by
 unfold JN;simp
theorem OX {qQ:List (Addr×Obj)}{σ:St}{H:Hp}{s:Shared}{it:Addr}{fp:List Addr}{tn:Nat->Heap->Prop}{J:It}{E:Value->Shared->Prop}{RR:Value->Addr->Result->Shared->Prop}{Rf:Addr->Hp->Prop}(hc:X.calm=true)(S:Jf X scope cl own fr)(I:Inv X qQ σ H s)(T:YI X.prog X.w X.K qU J fp it tn)(st:tn 0 s.heap)(hf:∀b∈fp,Yy X qQ H b)(hg:∀C s H fp,PG (X.comp scope cl (own++fr.map (·.1)) C s H fp) qU g)(ht:∀C s H fp,Zbz (X.comp scope cl (own++fr.map (·.1)) C s H fp) ifs tc)(he:∀C s H fp,PE (X.comp scope cl (own++fr.map (·.1)) C s H fp) elt te)(hw:∀D,H D=none->∃W:Nat->Nat->List V->Hp->Prop,(∃m,W 0 m [] (upd H D (.lst [])))/\G6 J D g tc te (JN own fr σ) W (Rf D))(hRR:∀D C s' H',s.heap.objs.size<=C->C≠D->(∃m,s'.heap.Ns C m)->H' C=none->Un (frs X.stack) fp H H' s.heap s'.heap->HOk X.prog X.w H' s'.heap->AllBare s'.gens->s'.os=s.os->Rf D H'->RR (.ref D) C (.ok .next) s') :
  wpAny (model X.prog X.w) X.A (newList []) (λacc s3=>wpAny (model X.prog X.w) X.A (newFunctionEnv scope X.env.globals cl [] X.env.qual none .none (some X.env)) (λcenv s4=>
   codeAny (model X.prog X.w) X.A (.compStart (.ListComp elt [⟨qU,iter,ifs,0⟩] scope pos) 0 (.ref it) acc { cenv with scope:=relabel scope X.env }) (RR acc cenv.locals) s4) E s3) E s:=by
 have hfl:∀b∈fp,b<s.heap.objs.size:=λb hb=>by
  obtain ⟨o,e,_⟩:=T.obj 0 s.heap st b hb;exact Heap.lt_size e
 have hD:H s.heap.objs.size=none:=I.fresh;obtain ⟨W,⟨m0,w0⟩,turns⟩:=hw s.heap.objs.size hD;have I1:Inv X qQ σ (upd H s.heap.objs.size (.lst [])) { s with heap:=s.heap.push { cls:=.type "list", data:=.seq ([]:List Value).toArray },toks:=s.toks }:=I.lnew .nil (Nat.zero_le _);refine wpAny_newObj_type (wpAny_newFunctionEnv S.nocell (by intro y hy;simp at hy) (λh1 hns1 hsb1=>?_) S.kind);dsimp only at hns1 hsb1 ⊢;generalize hH2:s.heap.push { cls:=.type "list", dict:=none,data:=.seq ([]:List Value).toArray }=H2 at hns1 hsb1 ⊢ I1;have hCs:H2.objs.size=s.heap.objs.size+1:=by rw [<-hH2,Heap.size_push]
 have hCle:s.heap.objs.size<=H2.objs.size:=by lia
 have hDC:s.heap.objs.size≠H2.objs.size:=by lia
 have up1:∀b o,H2.get? b=some o->h1.get? b=some o:=λb o e=>hsb1.extBut b o (Nat.ne_of_lt (Heap.lt_size e)) (Heap.get?_push_of_some _ e);have up:∀b o,s.heap.get? b=some o->h1.get? b=some o:=λb o e=>up1 b o (hH2▸Heap.get?_push_of_some _ e);have okY:=Zas (C:=H2.objs.size) S I hf hCle hfl;have I0:∀tk,Inv (X.comp scope cl (own++fr.map (·.1)) H2.objs.size s H fp) [] (JN own fr σ) (upd H s.heap.objs.size (.lst [])) { s with heap:=h1,toks:=tk }:=by
  intro tk;have hok1:HOk X.prog X.w (upd H s.heap.objs.size (.lst [])) h1:=I1.hok.kept up1;refine ⟨okY,rfl,I.bare,⟨λb o e n _ _=>up b o e,λb o e n _ _=>⟨o.slots,up b o e⟩,λb o e n _=>?_,λb o e _=>⟨o,up b o e⟩,λb xs q=>?_,λb o u q=>?_,λb ps q=>⟨#[],?_⟩⟩,
   ⟨_,hns1,λi x v e1 e2 e3=>?_⟩,λx c e=>?_,?_,λx c e=>?_,λp hp=>?_,hok1,OW own fr σ⟩
  ·have e':s.heap.get? b=some o:=e;show upd H s.heap.objs.size (.lst []) b=none;rw [Go (Nat.ne_of_lt (Heap.lt_size e'))];exact n
  ·rw [Go (Gh q hD)];exact q
  ·rw [Go (Gh q hD)];exact q
  ·have q':H b=some (.tbl ps):=q;rw [Go (Gh q' hD),q'];simp
  ·-- the free names
   have e2':(JN own fr σ)[i]?=some (some v):=e2;have e1':(own++fr.map (·.1))[i]?=some x:=e1;unfold JN at e2';by_cases hi:i<own.length
   ·rw [List.getElem?_append_left (by simpa using hi),List.getElem?_map] at e2';cases q:own[i]? with
    | none=>rw [q] at e2';cases e2'
    | some y=>rw [q] at e2';cases e2'
   ·rw [List.getElem?_append_right (by simpa using hi),List.length_map,List.getElem?_map] at e2';rw [List.getElem?_append_right (by lia),List.getElem?_map] at e1';cases q:fr[i-own.length]? with
    | none=>rw [q] at e2';cases e2'
    | some p=>
     rw [q] at e1' e2';have ex:p.1=x:=Option.some.inj e1';have ev:(σ[p.2]?).join=some v:=Option.some.inj e2';have ev':σ[p.2]?=some (some v):=by
      cases z:σ[p.2]? with
      | none=>rw [z] at ev;cases ev
      | some o=>rw [z] at ev;cases o with
       | none=>cases ev
       | some v'=>have:v'=v:=Option.some.inj ev;rw [this]
     obtain ⟨f1,f2,f3⟩:=S.free p (List.mem_of_getElem? q);subst ex;obtain ⟨m,hn,hl⟩:=I.loc;have vis:Vis X.env.scope p.1:=by
      rcases f2 with f2 | f2
      ·exact .inr (.inl f2)
      ·exact .inr (.inr f2)
     obtain ⟨u,ru,lk⟩:=hl p.2 p.1 v f1 ev' vis;refine ⟨u,ru,?_⟩;rcases lk with ⟨k,_⟩ | ⟨k,c,e,z⟩
     ·rcases f2 with f2 | f2 <;> (rw [f2] at k;cases k)
     ·obtain ⟨c',hc'⟩:=S.has p.1 f3;have e':=S.cls _ _ hc';rw [e] at e';cases e';obtain ⟨oc,ho,hd⟩:=z;exact .inr ⟨f3,c,hc',⟨oc,up _ _ ho,hd⟩⟩
  ·obtain ⟨v,oc,ho,hd⟩:=I.cell x c (S.cls x c e);exact ⟨v,oc,up _ _ ho,hd⟩
  ·show upd H s.heap.objs.size (.lst []) H2.objs.size=none;rw [Go (Ne.symm hDC)];exact I.hok.fresh hCle
  ·obtain ⟨v,z⟩:=I.cell x c (S.cls x c e);show upd H s.heap.objs.size (.lst []) c=none;rw [Go (Nat.ne_of_lt z.lt)];exact I.freeC x c (S.cls x c e)
  ·exact absurd (show p∈([]:List (Addr×Obj)) from hp) (by simp)
 have fpf:∀b∈fp,upd H s.heap.objs.size (.lst []) b=none:=λb hb=>by rw [Go (Nat.ne_of_lt (hfl b hb))];exact (hf b hb).1
 have st1:tn 0 h1:=T.keep 0 _ _ st λb hb o e=>up b o e;have stat:∀{H':Hp},(∀b∈fp,H' b=none)->∀b∈fp,Yy (X.comp scope cl (own++fr.map (·.1)) H2.objs.size s H fp) [] H' b:=λhn b hb=>
  ⟨hn b hb,(okY.exf b hb).1,okY.exfs b hb,.inl hb,(okY.exf b hb).2,λp hp=>absurd (show p∈([]:List (Addr×Obj)) from hp) (by simp)⟩
 have loop:∀s3:Shared,(∃tk,s3={ s with heap:=h1,toks:=tk }) ->
   codeAny (model X.prog X.w) X.A (.compLoop (.ListComp elt [⟨qU,iter,ifs,0⟩] scope pos) 0 (.ref it) (.ref s.heap.objs.size) (compEnvC scope cl H2.objs.size X.env)) (RR (.ref s.heap.objs.size) H2.objs.size) s3:=by
  rintro s3 ⟨tk,rfl⟩;refine UP (λn s'=>∃i ys H',Inv (X.comp scope cl (own++fr.map (·.1)) H2.objs.size s H fp) [] (JN own fr σ) H' s'/\tn i s'.heap/\(∀b∈fp,H' b=none)/\W i n ys H') ?_ m0 ⟨0,[],_,I0 tk,st1,fpf,w0⟩;rintro n s4 ⟨i,ys,H4,I4,st4,fr4,w4⟩;rcases turns i n ys H4 w4 with ⟨stop,q⟩ | ⟨go,N,hN,step⟩
  ·refine thn (T.done (X.comp scope cl (own++fr.map (·.1)) H2.objs.size s H fp) rfl rfl rfl hc i [] s4 _ H4 _ I4 (stat fr4) st4 stop) λr s5 ⟨hr,I5⟩=>?_;subst hr;exact hRR _ _ s5 H4 hCle (Ne.symm hDC) ⟨_,I5.loc.choose_spec.1⟩ I5.free I5.base I5.hok I5.bare I5.os q
  ·refine thn (T.item (X.comp scope cl (own++fr.map (·.1)) H2.objs.size s H fp) rfl rfl rfl hc i [] s4 _ H4 _ I4 (stat fr4) st4 go) λr s5 ⟨u,hr,h5⟩=>?_;subst hr;refine thn h5 λ_ s6 ⟨x,H6,I6,r6,y6,st6,fr6⟩=>?_;have I6':=I6.pinned (stat fr6) (T.obj _ _ st6);refine thn (hg H2.objs.size s H fp _ s6 _ H6 x u _ I6' r6 (step x H6 y6)) λ_ s7 ⟨σ7,H7,I7,k7,q7⟩=>?_;refine thn (ht H2.objs.size s H fp _ s7 σ7 H7 _ I7 q7) λok s8 ⟨H8,I8,q8⟩=>?_;have again:∀{s9:Shared}{σ9:St}{H9:Hp}{zs:List V},Inv (X.comp scope cl (own++fr.map (·.1)) H2.objs.size s H fp) ([]++UC fp s6.heap) σ9 H9 s9->(∀(i:Nat) v,(JN own fr σ)[i]?=some (some v)->σ9[i]?=some (some v))->(∃m',m'<n/\W (i+1) m' zs H9) ->
     ∃m,m<n/\∃i ys H',Inv (X.comp scope cl (own++fr.map (·.1)) H2.objs.size s H fp) [] (JN own fr σ) H' s9/\tn i s9.heap/\(∀b∈fp,H' b=none)/\W i m ys H':=by
    intro s9 σ9 H9 zs I9 hσ ⟨m',hm,w9⟩;refine ⟨m',hm,i+1,zs,H9,(I9.sub_pins (λp hp=>absurd (show p∈([]:List (Addr×Obj)) from hp) (by simp))).weak ?_ hσ,T.keep _ _ _ st6 λb hb o e=>(I9.pin (b,o) (List.mem_append_right _ (List.mem_append_right _ (JD hb e)))).1,λb hb=>?_,w9⟩
    ·rw [I9.len];exact OW own fr σ
    ·obtain ⟨o,e,d⟩:=T.obj _ _ st6 b hb;exact (I9.pin (b,o) (List.mem_append_right _ (List.mem_append_right _ (JD hb e)))).2.1
   cases ok with
   | false=>exact (if_neg Bool.false_ne_true).mpr (again I8 (JH k7) (hN _ _ ((if_neg Bool.false_ne_true).mp q8)))
   | true=>
    refine (if_pos rfl).mpr ?_;have q8':=(if_pos rfl).mp q8;refine thn (he H2.objs.size s H fp _ s8 σ7 H8 _ I8 q8') λy s9 ⟨yv,H9,I9,r9,hD9,hz,q9⟩=>?_;refine thn (GY _ s9 σ7 H9 (.ref s.heap.objs.size) [yv] (.ref s.heap.objs.size) [y] (λ_ H'=>H'=upd H9 s.heap.objs.size (.lst (ys++[yv]))) I9 rfl (.cons r9 .nil) ⟨_,ys,yv,rfl,rfl,hD9,hz,rfl⟩) λ_ s10 ⟨_,H10,I10,_,e10⟩=>?_;subst e10;exact again I10 (JH k7) (hN _ _ q9)
 exact codeAny_compStart_list (loop _ ⟨_,rfl⟩) (T.self _ 0 _ _ _ st1 (loop _ ⟨_,rfl⟩))
theorem OY {qQ:List (Addr×Obj)}{σ:St}{H H':Hp}{s s':Shared}{fp:List Addr}(I:Inv X qQ σ H s)(hf:∀b∈fp,Yy X qQ H b)(un:Un (frs X.stack) fp H H' s.heap s'.heap)(hok:HOk X.prog X.w H' s'.heap)(bare:AllBare s'.gens)(os:s'.os=s.os):Inv X qQ σ H' s':=
 I.call' os un hok bare λb hb=>⟨(hf b hb).2.2.2.1,(hf b hb).2.1,(hf b hb).2.2.2.2.1,(hf b hb).2.2.2.2.2⟩
theorem VR {qQ:List (Addr×Obj)}{σ σ':St}{H H':Hp}{s s':Shared}{C:Addr}{h':Heap}(I:Inv X qQ σ H s)(hC:s.heap.objs.size<=C)(hn:H' C=none)(I':Inv X qQ σ' H' s')(sb:Heap.SameBut C s'.heap h') :
  Inv X qQ σ' H' { s' with heap:=h' }:=by
 obtain ⟨f0,f1,f2,f3,f4,f5⟩:=I.fpOk hC hn;exact I'.turned (t':=s'.toks) (λb o hb e=>(sb.2 b hb).trans e) f0 f1 f3 f4 f5
theorem Jm (hc:X.calm=true)(S:Jf X scope cl own fr)(hi:PI X qU iter wi)(hg:∀C s H fp,PG (X.comp scope cl (own++fr.map (·.1)) C s H fp) qU g)(ht:∀C s H fp,Zbz (X.comp scope cl (own++fr.map (·.1)) C s H fp) ifs tc)(he:∀C s H fp,PE (X.comp scope cl (own++fr.map (·.1)) C s H fp) elt te)(hs:∀x,foldedSetIterable iter X.env x=pure x:=by intro _;rfl):PE X (.ListComp elt [⟨qU,iter,ifs,0⟩] scope pos) (ZbA wi g tc te own fr):=by
 intro qQ s σ H Q I h;rw [eval_ListComp];refine wpAny_comprehension_free (use:=none) rfl hs S.clos S.kind S.names (thn (hi qQ s σ H _ I h) λv s1 h1=>thn h1 λitv s2 h2=>?_);obtain ⟨it,fp,tn,J,H2,e,I2,T,st2,f2,hw⟩:=h2;subst e;refine OX (RR:=λacc C=>compPost (model X.prog X.w) X.A X.xe none (EP X qQ σ Q) acc C) hc S I2 T st2 f2 hg ht he hw ?_;rintro D C s' H' hC hDC ⟨m,hn⟩ hCf un hok bare os q;refine ⟨m,hn,λh' hs'=>⟨.ref D,H',?_,rfl,q⟩⟩;exact VR (C:=C) (σ:=σ) I2 hC hCf (OY I2 f2 un hok bare os) hs'
theorem OD {i:Nat}{y:Str}{py spos:Pos}(hN:X.N.Nodup)(hi':X.N[i]?=some y)(hx:Loc X.env.scope y)(hc:X.calm=true)(S:Jf X scope cl own fr)(hi:PI X qU iter wi)(hg:∀C s H fp,PG (X.comp scope cl (own++fr.map (·.1)) C s H fp) qU g)(ht:∀C s H fp,Zbz (X.comp scope cl (own++fr.map (·.1)) C s H fp) ifs tc)(he:∀C s H fp,PE (X.comp scope cl (own++fr.map (·.1)) C s H fp) elt te)(hf:X.fn y=true\/X.env.scope.names.lookup y=some .local:=by first | exact .inl rfl | exact .inr rfl | assumption)(hsw:swapsWith (.ListComp elt [⟨qU,iter,ifs,0⟩] scope pos) (some (.Name y py)) spos.line X.env=pure true:=by rfl)(hs:∀x,foldedSetIterable iter X.env x=pure x:=by intro _;rfl):PS X (.Assign [.Name y py] (.ListComp elt [⟨qU,iter,ifs,0⟩] scope pos) spos) (ZcW (ZbA wi g tc te own fr) (GG i)):=by
 intro qQ s σ H Dn I h;rw [exec_Assign_Name_used _ _ _ _ hsw];refine wpAny_bind (wpAny_standAt (wpAny_bind ?_));show wpAny _ X.A (do let _ <- comprehension (.ListComp elt [⟨qU,iter,ifs,0⟩] scope pos) scope X.env _ (newList []) false (eval iter X.env) (some (assign (.Name y py) X.env))) _ _ s;refine wpAny_bind (wpAny_mono (wpAny_comprehension_free (use:=some (assign (.Name y py) X.env)) (Q:=λ_ s'=>SP X qQ Dn .next s') rfl hs S.clos S.kind S.names (thn (hi qQ s σ H _ I h) λv s1 h1=>thn h1 λitv s2 h2=>?_))
  (λ_ s' hq=>wpAny_pure (wpAny_pure hq)) λ_ _ e=>e)
 obtain ⟨it,fp,tn,J,H2,e,I2,T,st2,f2,hw⟩:=h2;subst e;refine OX (RR:=λacc C=>compPost (model X.prog X.w) X.A X.xe (some (assign (.Name y py) X.env)) (λ_ s'=>SP X qQ Dn .next s') acc C) hc S I2 T st2 f2 hg ht he hw ?_;rintro D C s' H' hC hDC ⟨m,hn⟩ hCf un hok bare os q;have I3:Inv X qQ σ H' s':=OY I2 f2 un hok bare os;show wpAny _ X.A (assign (.Name y py) X.env (.ref D)) _ _ s';refine wpAny_assign_Name (UA I3 hN hi' hx (v:=.ref D) rfl (λs4 I4 ⟨a,hsa,ha⟩=>?_) hf);have hCa:C≠a:=by
  rcases ha with z | z
  ·rw [z];exact Nat.ne_of_gt (Nat.lt_of_lt_of_le I2.lt hC)
  ·obtain ⟨v,q⟩:=I2.cell y a z;exact Nat.ne_of_gt (Nat.lt_of_lt_of_le q.lt hC)
 refine ⟨m,hn.sameBut hsa hCa,λh' hs'=>⟨_,H',VR (C:=C) (σ:=σ) I2 hC hCf I4 hs',q⟩⟩
end
theorem GH {K:PySem.W.Frag}{a D:Addr}{xs:List V}{g:TG}{tc:TT}{te:TE}{σ0:St}{R:Hp->Prop}{H1:Hp}(Pv:Nat->List V->Hp->Prop)(h0:Pv 0 [] (upd H1 D (.lst [])))(hl:∀i ys H,i<=xs.length->Pv i ys H->SqL K H a xs)(hs:∀i x ys H,xs[i]?=some x->Pv i ys H->g x σ0 H λσ4 H4=>J0 σ0 σ4/\tc σ4 H4 λb H5=>if b=true then te σ4 H5 λy H6=>H6 D=some (.lst ys)/\ys.length<sizeLine/\Pv (i+1) (ys++[y]) (upd H6 D (.lst (ys++[y]))) else Pv (i+1) ys H5)(hd:∀ys H,Pv xs.length ys H->R H):∃W:Nat->Nat->List V->Hp->Prop,(∃m,W 0 m [] (upd H1 D (.lst [])))/\G6 (Itl K a) D g tc te σ0 W R:=by
 refine ⟨λi m ys H=>m=xs.length-i/\i<=xs.length/\Pv i ys H,⟨_,rfl,Nat.zero_le _,h0⟩,?_⟩;rintro i m ys H ⟨rfl,hi,p⟩;have q:=hl i ys H hi p;by_cases hlt:i<xs.length
 ·refine .inr ⟨⟨xs,xs[i],q,by simp [hlt]⟩,Pv (i+1),λys' H' p'=>⟨xs.length-(i+1),by lia,rfl,hlt,p'⟩,λx H' y=>?_⟩;obtain ⟨e,y⟩:=y;subst e;exact hs i x ys _ (y xs q) p
 ·have e:i=xs.length:=by lia
  subst e;exact .inl ⟨⟨xs,q,Nat.le_refl _⟩,hd ys H p⟩
theorem OZ {lo:Int}{n:Nat}{D:Addr}{g:TG}{tc:TT}{te:TE}{σ0:St}{R:Hp->Prop}{H1:Hp}(Pv:Nat->List V->Hp->Prop)(h0:Pv 0 [] (upd H1 D (.lst [])))(hs:∀i ys H,i<n->Pv i ys H->g (.int (lo+i)) σ0 H λσ4 H4=>J0 σ0 σ4/\tc σ4 H4 λb H5=>if b=true then te σ4 H5 λy H6=>H6 D=some (.lst ys)/\ys.length<sizeLine/\Pv (i+1) (ys++[y]) (upd H6 D (.lst (ys++[y]))) else Pv (i+1) ys H5)(hd:∀ys H,Pv n ys H->R H):∃W:Nat->Nat->List V->Hp->Prop,(∃m,W 0 m [] (upd H1 D (.lst [])))/\G6 (Itr lo n) D g tc te σ0 W R:=by
 refine ⟨λi m ys H=>m=n-i/\i<=n/\Pv i ys H,⟨_,rfl,Nat.zero_le _,h0⟩,?_⟩;rintro i m ys H ⟨rfl,hi,p⟩;by_cases hlt:i<n
 ·refine .inr ⟨hlt,Pv (i+1),λys' H' p'=>⟨n-(i+1),by lia,rfl,hlt,p'⟩,λx H' y=>?_⟩;obtain ⟨e,y⟩:=y;subst e y;exact hs i ys _ hlt p
 ·have e:i=n:=by lia
  subst e;exact .inl ⟨Nat.le_refl _,hd ys H p⟩
theorem OE {X:Cx}{scope:Scope}{own:List Str}(hf:∀y∈scope.names,y.2≠.free)(hc:∀y∈scope.names,y.2≠.cell)(hk:scope.kind=.function)(hn:∀y∈scope.names,y.2=.local->scope.names.lookup y.1=some .local):Jf X scope [] own []:=by
 have rel:(relabel scope X.env).names=scope.names:=by
  unfold relabel;dsimp only;refine (List.map_congr_left λp hp=>?_).trans (List.map_id _);obtain ⟨n,k⟩:=p;have:(k == NameKind.free)=false:=by
   have:=hf _ hp;cases k <;> first | rfl | exact absurd rfl this
  simp [this]
 refine ⟨closureFor_none hf,hc,hk,hn,λy c h=>by simp at h,λy h=>?_,λp hp=>by simp at hp⟩;rw [rel] at h;rcases h with h | h
 ·exact absurd rfl (hc _ (PySem.mem_of_lookup h))
 ·exact absurd rfl (hf _ (PySem.mem_of_lookup h))
end L2
namespace L2
open PySem PySem.Spec PyProof.Rows
def YU (a C:Addr)(h:Heap):Prop:=∃ob vs,h.get? a=some ob/\ob.cls=.ref C/\ob.data=.fields vs
def Zd0 (a C:Addr):HO:=.ext (YU a C)
theorem ObjOk.there {P:Program}{w:World}{H:Hp}{h:Heap}{a:Addr}{u:HO}(ok:ObjOk P w H h a u):∃v,h.get? a=some v:=by
 cases u with
 | lst xs=>obtain ⟨_,_,_,_,e⟩:=ok;exact ⟨_,e⟩
 | tup xs=>obtain ⟨_,_,_,o,e,_⟩:=ok;exact ⟨_,e⟩
 | dK kvs=>obtain ⟨_,_,_,_,o,_,_,e,_⟩:=ok;exact ⟨_,e⟩
 | dT kvs=>obtain ⟨_,_,_,_,o,_,_,e,_⟩:=ok;exact ⟨_,e⟩
 | set S n=>obtain ⟨o,_,_,_,e,_⟩:=ok;exact ⟨_,e⟩
 | ins C dx fs=>obtain ⟨_,_,_,e,_⟩:=ok;exact ⟨_,e⟩
 | own y=>obtain ⟨_,e⟩:=ok;exact ⟨_,e⟩
 | xd fs=>obtain ⟨_,⟨_,_,_,e,_⟩,_⟩:=ok;exact ⟨_,e⟩
 | rng lo hi=>obtain ⟨_,_,_,e⟩:=ok;exact ⟨_,e⟩
 | frz ob u=>obtain ⟨e,_⟩:=ok;exact ⟨_,e⟩
 | tbl ps=>exact ⟨_,show h.get? a=some _ from ok⟩
 | met f y=>exact ⟨_,show h.get? a=some _ from ok⟩
 | ext φ=>obtain ⟨_,⟨_,e⟩,_⟩:=ok;exact ⟨_,e⟩
def Zc7 (P:Program)(w:World)(outer:List Env)(H H':Hp)(s:Shared)(a C:Addr)(s':Shared):Prop:=
 ∃(t:Addr)(B:Heap),s'.os=s.os/\AllBare s'.gens/\Un (frs outer) [] H H' s.heap s'.heap/\HOk P w H' s'.heap/\Heap.FlyingW B outer a (.ref C) (.ref t) s'.heap /\
  (∀b o,s'.heap.get? b=some o->H' b≠none->B.get? b=some o)/\(∀b o0 o,s.heap.get? b=some o0->s'.heap.get? b=some o->b ∉ frs outer->B.get? b=some o)
def CXr (P:Program)(w:World):CXT:=λouter H s E e s'=>∃(a C:Addr)(H':Hp),e=.ref a/\Zc7 P w outer H H' s a C s'/\E (.ref C) none H'
section
variable {X:Cx}{qQ:List (Addr×Obj)}{σ:St}{H:Hp}{s:Shared}
def VS (X:Cx)(E:XK):Prop:=∀(qQ:List (Addr×Obj))(σ:St)(H:Hp)(s:Shared)(h':Heap)(a C:Addr)(vs:List Value),Inv X qQ σ H s->Heap.MadeExcOf s.heap h' a (.ref C) vs->E (.ref C) none H->X.xe (.ref a) { s with heap:=h' }
theorem Oi {P:Program}{w:World}{K:W.Frag}{mg:Str->Option Value}{base:Heap}{N:List Str}{qual:Str}{scope:Scope}{f:Addr}{cd:Value}{A:Around}{outer:List Env}{s:Shared}{H:Hp}{E:XK} :
  VS (Yz (CXr P w) P w K mg base N qual scope f cd A outer s H E) E:=by
 intro qQ σ H1 s1 h' a C vs I hx hE;have hfr:=I.ok.frames;have hst:s1.heap.FunFrames base (envOfC qual scope s.heap.objs.size f cd::outer):=I.stack;have hin:∀env∈(envOfC qual scope s.heap.objs.size f cd::outer),∀b,env.frame=some b->b∈frs (envOfC qual scope s.heap.objs.size f cd::outer):=λenv he b hb=>List.mem_filterMap.mpr ⟨env,he,hb⟩;have inB:∀b o,s1.heap.get? b=some o->b ∉ frs (envOfC qual scope s.heap.objs.size f cd::outer)->(W.hideAll s1.heap (frs (envOfC qual scope s.heap.objs.size f cd::outer))).get? b=some o:=λb o e n=>W.hideAll_get _ e n;refine wpAny_leaves_madeW (base:=W.hideAll s1.heap (frs (envOfC qual scope s.heap.objs.size f cd::outer))) hfr rfl (λb o q=>W.of_hideAll _ q) (W.funFrames_hide hst hin) hx λh2 t fl tu tn sm=>?_;refine ⟨a,C,H1,rfl,⟨t,_,I.os,I.bare,⟨λb o e n hb _=>?_,λb o e n hb _=>?_,λb o e n _=>?_,λb o e _=>?_,I.base.tups,I.base.frzs,I.base.tbls⟩,λb u e=>?_,fl,λb o e n=>?_,λb o0 o e0 e nb=>?_⟩,hE⟩
 ·have e1:s1.heap.get? b=some o:=I.base.keep b o e n hb (by intro z;exact absurd (show b∈([]:List Addr) from z) (by simp));refine fl.1 b o (inB b o e1 λz=>?_);rcases List.mem_cons.mp (I.stkSub b z) with q | q
  ·exact absurd (Nat.lt_of_lt_of_le (Heap.lt_size e) I.ok.above) (by rw [q];exact Nat.lt_irrefl _)
  ·exact hb q
 ·obtain ⟨sl,e1⟩:=I.base.slot b o e n hb (by intro z;exact absurd (show b∈([]:List Addr) from z) (by simp));have nf:∀vs,o.data≠.fields vs:=by
   obtain ⟨_,o',ho',hnf⟩:=I.funs.mem (show b∈(outer.filterMap (·.frame)) from hb);rw [e1] at ho';cases ho';exact hnf
  obtain ⟨sl',e2⟩:=sm b { o with slots:=sl } (hx.keeps b _ e1) nf;exact ⟨sl',e2⟩
 ·exact I.base.free b o e n (by intro z;exact absurd (show b∈([]:List Addr) from z) (by simp))
 ·obtain ⟨o1,e1⟩:=I.base.there b o e (by intro z;exact absurd (show b∈([]:List Addr) from z) (by simp));by_cases hb:b∈frs (envOfC qual scope s.heap.objs.size f cd::outer)
  ·obtain ⟨_,o',ho',hnf⟩:=hst.mem hb;rw [e1] at ho';cases ho';obtain ⟨sl',e2⟩:=sm b o1 (hx.keeps b _ e1) hnf;exact ⟨_,e2⟩
  ·exact ⟨o1,fl.1 b o1 (inB b o1 e1 hb)⟩
 ·have trk:∀c v,s1.heap.get? c=some v->H1 c≠none->h2.get? c=some v:=λc v q hc=>fl.1 c v (inB c v q λz=>hc (I.stkFree c z));refine (I.hok b u e).stay (λc v hc q=>trk c v q ?_) (λ_ q=>q) λ_ _ q=>q;rcases hc with z | z
  ·rw [z,e];simp
  ·rw [z];simp
 ·cases q':H1 b with
  | none=>exact absurd q' n
  | some u=>
   obtain ⟨v,q⟩:=(I.hok b u q').there;have nb:b ∉ frs (envOfC qual scope s.heap.objs.size f cd::outer):=λz=>n (I.stkFree b z);have e2:=fl.1 b v (inB b v q nb);rw [e] at e2;cases e2;exact inB b _ q nb
 ·obtain ⟨o1,e1⟩:=I.base.there b o0 e0 (by intro z;exact absurd (show b∈([]:List Addr) from z) (by simp));have nb':b ∉ frs (envOfC qual scope s.heap.objs.size f cd::outer):=λz=>by
   rcases List.mem_cons.mp (I.stkSub b z) with q | q
   ·exact absurd (Nat.lt_of_lt_of_le (Heap.lt_size e0) I.ok.above) (by rw [q];exact Nat.lt_irrefl _)
   ·exact nb q
  have e2:=fl.1 b o1 (inB b o1 e1 nb');have e':h2.get? b=some o:=e;rw [e'] at e2;cases e2;exact inB b _ e1 nb'
theorem YV {P:Program}{w:World}{outer:List Env}{H H':Hp}{s s':Shared}{a C t:Addr}{B h2:Heap}(un:Un (frs outer) [] H H' s.heap s'.heap)(hok:HOk P w H' s'.heap)(fr:s'.heap.FunFrames B outer)(trk:∀b o,s'.heap.get? b=some o->H' b≠none->B.get? b=some o)(old:∀b o0 o,s.heap.get? b=some o0->s'.heap.get? b=some o->b ∉ frs outer->B.get? b=some o)(st:B.StaysIn h2)(sm:s'.heap.UpToSlots h2) :
  Un (frs outer) [] H H' s.heap h2/\HOk P w H' h2:=by
 refine ⟨⟨λb o e n hb hx=>st b o (old b o o e (un.keep b o e n hb hx) hb),λb o e n hb hx=>?_,un.free,λb o e hx=>?_,un.tups,un.frzs,un.tbls⟩,λb u e=>?_⟩
 ·obtain ⟨sl,e1⟩:=un.slot b o e n hb hx;obtain ⟨_,o',ho',hnf⟩:=fr.mem hb;rw [e1] at ho';cases ho';obtain ⟨sl',e2⟩:=sm b _ e1 hnf;exact ⟨sl',e2⟩
 ·obtain ⟨o1,e1⟩:=un.there b o e hx;by_cases hb:b∈frs outer
  ·obtain ⟨_,o',ho',hnf⟩:=fr.mem hb;rw [e1] at ho';cases ho';obtain ⟨sl',e2⟩:=sm b _ e1 hnf;exact ⟨_,e2⟩
  ·exact ⟨o1,st b o1 (old b o o1 e e1 hb)⟩
 ·refine (hok b u e).stay (λc v hc q=>st c v (trk c v q ?_)) (λ_ q=>q) λ_ _ q=>q;rcases hc with z | z
  ·rw [z,e];simp
  ·rw [z];simp
end
end L2
namespace L2
open PySem PySem.Spec PyProof.Rows
abbrev Zd1:List Value:=[.type "ValueError", .type "Exception", .type "BaseException", .type "object"]
abbrev ExcC (K:W.Frag)(C:Addr):Prop:=W.excIn K C Zd1 "ValueError.__new__" = true
theorem Vn {K:W.Frag}{h:Heap}{C:Addr}(KX:K.In h)(ex:ExcC K C):∃mro' ns' mN',(∃nm' qn' bs' hd' sn' sub' ab' col' dd' j0 j1 j2 j3 j5,
  h.get? C=some (excClassObj nm' qn' C ns' bs' mro' hd' sn' sub' ab' col' dd' j0 j1 j2 j3 j5 "ValueError.__new__"))/\h.Ns ns' mN'/\mN' "__init__" = none/\OwnTail h Zd1 mro':=by
 have ex':=ex;unfold ExcC W.excIn at ex';split at ex'
 ·rename_i dd' cd' sl' lk;have lk':=KX _ _ lk;split at ex'
  ·rename_i C' rest' j0 j1 j2 j3 n' j5 hm hs;rw [Bool.and_eq_true,Bool.and_eq_true,Bool.and_eq_true,Bool.and_eq_true,Bool.and_eq_true,beq_iff_eq,beq_iff_eq,beq_iff_eq] at ex';obtain ⟨⟨⟨⟨⟨z1,z2⟩,z3⟩,z4⟩,z5⟩,z6⟩:=ex';have z3':cd'.hasDel=false:=by simpa using z3
   subst z1 z2;cases cd' with
   | mk a1 a2 a3 a4 a5 a6 a7 a8 a9 a10 a11=>
    have hm':a3=.ref C'::rest':=hm;have h11:a11=false:=z3';subst hm' h11;have es:sl'=#[j0,j1,j2,j3,some (.builtin "ValueError.__new__"),j5]:=by
     cases sl' with
     | mk l=>exact congrArg Array.mk hs
    subst es;exact ⟨rest',a4,_,⟨_,_,_,_,_,_,_,_,_,_,_,_,_,_,lk'⟩,.of_isNs (W.isNs_of_in KX z5),W.nsMap_none_of_in KX z5 z6,W.tail_of_in KX z4⟩
  ·cases ex'
 ·cases ex'
section
variable {X:Cx}
def ZbB (C:Addr)(E:XK)(t:TA):TS:=λ_ σ H=>t σ H λvs H1=>vs.length<=sizeLine/\E (.ref C) none H1
theorem VT {C:Addr}{E:XK}{x:Str}{np qK pos:Pos}{e:Expr}{es:List Expr}{t:TA}(hc:X.calm=true)(hR:VS X E)(hg:Gl X x)(hm:X.mg x=some (.ref C))(ex:ExcC X.K C)(ha:PA X (e::es) t)(hdb:(x == ("__debug__" : Str))=false:=by decide)(he:starEach (e::es) X.env=(false,eval e X.env)::starEach es X.env:=by rfl)(hpl:(backTo qK (starEach es X.env)).any (·.1)=false:=by rfl) :
  PS X (.Raise (some (.Call (.Name x np) (e::es) [] qK)) none pos) (ZbB C E t):=by
 intro qQ s σ H D I h;obtain ⟨mro',ns',mN',⟨nm',qn',bs',hd',sn',sub',ab',col',dd',j0,j1,j2,j3,j5,hC⟩,hN,hni,T⟩:=Vn I.mod.kin ex;refine wpAny_Raise_call_subT (C:=C) (nm:=nm') (q:=qn') (N:=ns') (bs:=bs') (bm:=mro') (hdct:=hd') (sn:=sn') (sub:=sub') (ab:=ab') (col:=col') (dd:=dd') (k0:=j0) (k1:=j1) (k2:=j2) (k3:=j3) (k5:=j5)
  PySem.F.excBase_ValueError (mN:=mN') (T.hasType PySem.F.excBase_ValueError.hasBase) (I.ok.hd hc) (by rw [he];show (false || (backTo qK (starEach es X.env)).any (·.1))=false;rw [hpl];rfl) hni (Vl I hg hm ⟨rfl,?_⟩ hdb)
 have hA:=ha qK qQ s σ H _ I h;rw [he] at hA ⊢;refine Calls.evalArgs_plain (thn hA λus s2 ⟨vs,H2,I2,r2,hl,q2⟩=>?_);exact ⟨rfl,by rw [<-r2.length];exact hl,I2.bk _ _ hC,hN.keeps I2.bk,T.keeps I2.bk,λh' a hm=>hR qQ σ H2 s2 h' a C us I2 hm q2⟩
variable {qQ:List (Addr×Obj)}{σ:St}{H:Hp}{s:Shared}
end
end L2
namespace L2
open PySem PySem.Spec PyProof.Rows
theorem VU {M:Model}{h:Heap}{a C:Addr}(hx:YU a C h):W.Looks M h (typeOf (.ref a)) (.ref C):=by
 obtain ⟨ob,vs,e,c,d⟩:=hx;exact c▸(W.Looks.ld e).andThen .now
end L2
namespace L2
open PySem PySem.Spec PyProof.Rows
theorem Xq {K:W.Frag}{prog:Program}{w:World}{A:Around}{E:Value->Shared->Prop}{Q:Option Value->Shared->Prop}{s:Shared}{a C:Addr}(KX:K.In s.heap)(hx:YU a C s.heap)(hga:W.findIn K (.ref C) "__getattribute__" = some (some (.builtin "BaseException.__getattribute__")))(hnga:W.findIn K (.ref C) "__getattr__" = some none)(hcl:W.findIn K (.ref C) "__class__" = some (some (.builtin "object.__class__")))(hm:W.mroIn K C (.type "object")=some true)(hB:W.subIn K (.ref C) (.type "BaseException")=some true)(h:Q (some (.ref C)) { s with toks:=s.toks+1 }):wpAny (model prog w) A (getAttr? (.ref a) "__class__") Q E s:=by
 have L0:=VU (M:=model prog w) hx;have L1:=W.looks_findIn (M:=model prog w) KX hga;have L2:=W.looks_findIn (M:=model prog w) KX hnga;have L3:=W.looks_findIn (M:=model prog w) KX hcl;have L4:=W.looks_subIn (M:=model prog w) KX hB;obtain ⟨h0,g,d,t,os⟩:=s;have f3:=PySem.F.attr_ValueError.ga.bind (.ref a);unfold getAttr? getAttrBy? getAttrBy;refine wpAny_bind (wpAny_mkText (wpAny_bind (wpAny_attempt (wpAny_holding (wpAny_bind (L0.at (wpAny_bind (L1.at ?_))))))));dsimp only;have hx2:(onTheHeap (Value.ref C) && Value.builtin "BaseException.__getattribute__" == Value.builtin "object.__getattribute__")=false:=by
  have z:(Value.builtin "BaseException.__getattribute__" == Value.builtin "object.__getattribute__")=false:=by decide +kernel
  rw [z,Bool.and_false]
 rw [hx2];simp only [Bool.false_eq_true,if_false];unfold getAttrByItsOwn
 repeat (any_goals (first | assumption | with_reducible refine L0.at ?_ | with_reducible refine L2.at ?_ | wp_step))
 have hsp:splitId "BaseException.__getattribute__" = some ("BaseException", "__getattribute__"):=by decide +kernel
 have hkd:builtinKind "BaseException.__getattribute__" = some .slot:=by decide +kernel
 have har:=PySem.F.args_bexc_ga (.ref a) (.str (Str.ofString "__class__") t);refine codeAny_call_builtin PySem.F.attr_ValueError.ga.plain PySem.F.entry_bexc_ga ?_;show wpAny _ _ (checkBuiltinCall "BaseException.__getattribute__" ⟨[.ref a,.str (Str.ofString "__class__") t],[]⟩) _ _ _;simp only [checkBuiltinCall,hkd,hsp];refine wpAny_bind ?_;unfold isInstance;have f5:=PySem.F.typeOf_object_class;have f6:=PySem.F.slot_gs_get.lookup;have f7:=PySem.F.slot_gs_set.lookup;have hT5:(⟨h0,g,d,t+1,os⟩:Shared).TypeIs (.builtin "object.__class__") "getset_descriptor" := PySem.F.typeOf_object_class;refine wpAny_bind (L0.at (L4.at ?_))
 repeat (any_goals (first | assumption | with_reducible refine L0.at ?_ | with_reducible refine L3.at ?_ | wp_step))
 have Lo:W.Looks (model prog w) h0 (isSubtype (.ref C) (.type (".".intercalate ("object.__class__".cutAt '.').dropLast))) true:=by
  rw [PySem.F.owner_object_class];exact W.looks_mroIn KX hm
 have hT6:(⟨h0,g,d,t+1,os⟩:Shared).TypeIs (.builtin "object.__class__") "getset_descriptor" := PySem.F.typeOf_object_class;refine codeAny_call_builtin PySem.F.slot_gs_get.plain PySem.F.entry_gs_get (PySem.F.slot_gs_get.check _ _ _ _ _ _ _ _ hT6 (PySem.F.args_gs_get _ _ _) ?_)
 repeat (any_goals (first | assumption | with_reducible refine L0.at ?_ | with_reducible refine Lo.at ?_ | wp_step))
 refine ⟨Code.quiet_builtin _ (by decide +kernel),codeAny_builtin PySem.F.entry_object_class ?_⟩
 repeat (any_goals (first | assumption | with_reducible refine L0.at ?_ | wp_step))
end L2
namespace L2
open PySem PySem.Spec PyProof.Rows
structure Zc8 (K:W.Frag)(C:Addr):Prop where
 ex:ExcC K C
 ga:W.findIn K (.ref C) "__getattribute__" = some (some (.builtin "BaseException.__getattribute__"))
 nga:W.findIn K (.ref C) "__getattr__" = some none
 cl:W.findIn K (.ref C) "__class__" = some (some (.builtin "object.__class__"))
 ob:W.mroIn K C (.type "object")=some true
 be:W.subIn K (.ref C) (.type "BaseException")=some true
theorem VV {K:W.Frag}{a C:Addr}(k:Zc8 K C):W.KitX K (.ref a) (.ref C) (YU a C) where
 ty:=λ_ _ _ p=>VU p
 it:=λM h KX _=>by
  obtain ⟨_,_,_,⟨_,_,_,_,_,_,_,_,_,_,_,_,_,_,hC⟩,_⟩:=Vn KX k.ex;intro A Q E s kk q;unfold isType loadHead;exact wpAny_bind (wpAny_loadPart (kk _ _ hC) (wpAny_pure q))
 ne:=λh tp dd its n sl KX htp=>by
  obtain ⟨_,_,_,⟨_,_,_,_,_,_,_,_,_,_,_,_,_,_,hC⟩,_⟩:=Vn KX k.ex;refine Bool.eq_false_iff.mpr λq=>?_;have e:C=tp:=Value.ref.inj (beq_iff_eq.mp q);rw [<-e,hC] at htp;have z:=congrArg Obj.data (Option.some.inj htp);unfold excClassObj at z;cases z
 ca:=λKX p q=>Xq KX p k.ga k.nga k.cl k.ob k.be q
def UQ:V->Value
 | .ty n=>.type n
 | .ref a=>.ref a
 | _=>.none
def Xr:V->Bool
 | .ty _=>true
 | .ref _=>true
 | _=>false
theorem RelV.cls {c:V}{u:Value}(r:RelV c u)(h:Xr c=true):u=UQ c:=by
 cases c with
 | ty n=>exact r
 | ref a=>exact r
 | _=>cases h
theorem Vals.cls:∀{cs:List V}{us:List Value},Vals cs us->cs.all Xr=true->us=cs.map UQ
 | _,_,.nil,_=>rfl
 | _,_,.cons r t,h=>by
  rw [List.all_cons,Bool.and_eq_true] at h;rw [List.map_cons,r.cls h.1,Vals.cls t h.2]
def ZeC (K:W.Frag):List V->Hp->VK->Prop:=λxs H Q=>∃x c b,xs=[x,c]/\Q (.bl b) H /\
 ((∃t,WA K H x t/\Xr c=true/\W.kitOne K t (UQ c)=some b) \/
  (∃a C,x=.ref a/\H a=some (Zd0 a C)/\Zc8 K C/\Xr c=true/\W.kitOne K (.ref C) (UQ c)=some b) \/
  (∃a C tp cs,x=.ref a/\H a=some (Zd0 a C)/\Zc8 K C/\c=.ref tp/\H tp=some (.tup cs)/\cs.all Xr=true/\W.kitAny K (.ref C) (cs.map UQ)=some b))
theorem Op {X:Cx}:Js X (.builtin "isinstance") (ZeC X.K):=by
 intro qQ s σ H xs us Q I rv h;obtain ⟨x,c,b,rfl,q,h⟩:=h;obtain ⟨u,cv,rfl,ru,rc⟩:=rv.two;have fin:∀tk,EP X qQ σ Q (.bool b) { s with toks:=tk }:=λtk=>⟨.bl b,H,I.tok tk,rfl,q⟩;rcases h with ⟨t,ty,hc,e⟩ | ⟨a,C,rfl,ha,k,hc,e⟩ | ⟨a,C,tp,cs,rfl,ha,k,rfl,ht,hc,e⟩
 ·rw [rc.cls hc];exact Xi I ru ty e fin
 ·rw [rc.cls hc];cases (show u=Value.ref a from ru);obtain ⟨p,_⟩:=I.hok a _ ha;exact W.kia_one (VV k) I.kIn p e (λz=>nomatch z) fin
 ·cases (show u=Value.ref a from ru);cases (show cv=Value.ref tp from rc);obtain ⟨p,_⟩:=I.hok a _ ha;obtain ⟨_,its,r,o,eo,co,n,dn⟩:=I.hok tp _ ht;obtain ⟨ocl,odi,oda,osl⟩:=o;cases (show ocl=.type "tuple" from co);cases (show oda=.seq its.toArray n from dn);exact W.kia_tup (its:=its) (VV k) I.kIn p eo (by rw [r.cls hc];exact e) (λz=>nomatch z) fin
mutual
inductive DatV (K:W.Frag)(H:Hp):V->PyData->Prop
 | non:DatV K H .non .none
 | bl (b:Bool):DatV K H (.bl b) (.bool b)
 | int (i:Int):DatV K H (.int i) (.int i)
 | str (x:Str):DatV K H (.str x) (.str x)
 | lst {a:Addr} {xs:List V} {ds:List PyData}:SqL K H a xs->DatVs K H xs ds->DatV K H (.ref a) (.list ds)
 | tup {a:Addr} {xs:List V} {ds:List PyData}:SqT K H a xs->DatVs K H xs ds->DatV K H (.ref a) (.tuple ds)
inductive DatVs (K:W.Frag)(H:Hp):List V->List PyData->Prop
 | nil:DatVs K H [] []
 | cons {x:V} {d:PyData} {xs:List V} {ds:List PyData}:DatV K H x d->DatVs K H xs ds->DatVs K H (x::xs) (d::ds)
end
section
variable {X:Cx}{qQ:List (Addr×Obj)}{σ:St}{H:Hp}{s:Shared}
mutual
theorem DatV.reads (I:Inv X qQ σ H s):∀{x:V}{d:PyData}{u:Value},DatV X.K H x d->RelV x u->∃as,Reads s.heap u d as
 | _,_,_,.non,r=>by cases r;exact ⟨_,.none⟩
 | _,_,_,.bl b,r=>by cases r;exact ⟨_,.bool b⟩
 | _,_,_,.int i,r=>by obtain ⟨t,rfl⟩:=r;exact ⟨_,.int i t⟩
 | _,_,_,.str x,r=>by obtain ⟨t,rfl⟩:=r;exact ⟨_,.str x t⟩
 | _,_,_,.lst hq hs,r=>by
  cases r;obtain ⟨its,rv,⟨o,n,e,c,dd,dt⟩,_⟩:=I.list hq;obtain ⟨as,ra⟩:=DatVs.reads I hs rv;exact ⟨_,.list e c dt (by simpa using ra)⟩
 | _,_,_,.tup hq hs,r=>by
  cases r;obtain ⟨its,rv,⟨o,e,c,n,dt⟩,_⟩:=I.tuple hq;obtain ⟨as,ra⟩:=DatVs.reads I hs rv;exact ⟨_,.tuple e c dt (by simpa using ra)⟩
theorem DatVs.reads (I:Inv X qQ σ H s):∀{xs:List V}{ds:List PyData}{us:List Value},DatVs X.K H xs ds->Vals xs us->∃as,ReadsAll s.heap us ds as
 | _,_,_,.nil,.nil=>⟨_,.nil⟩
 | _,_,_,.cons h hs,.cons r rs=>by
  obtain ⟨as,ra⟩:=DatV.reads I h r;obtain ⟨bs,rb⟩:=DatVs.reads I hs rs;exact ⟨_,.cons ra rb⟩
end
end
def ZcI (K:W.Frag)(neg:Bool):R2:=λx y H Q=>∃d1 d2,DatV K H x d1/\DatV K H y d2/\SeqAt.shaped d1=true/\SeqAt.shaped d2=true/\Q (.bl (neg != PyData.eqv d1 d2)) H
theorem ZbC {X:Cx}(hu:X.A.units+64<cLine):OpR X (compareOp .Eq) (ZcI X.K false):=by
 intro qQ s σ H x y v u Q I rx ry h;obtain ⟨d1,d2,h1,h2,s1,s2,q⟩:=h;obtain ⟨as,r1⟩:=h1.reads I rx;obtain ⟨bs,r2⟩:=h2.reads I ry;exact eq_dataH r1 r2 s1 s2 hu ⟨.bl _,H,I,by cases PyData.eqv d1 d2 <;> rfl,q⟩
theorem ZbD {X:Cx}(hu:X.A.units+64<cLine):OpR X (compareOp .NotEq) (ZcI X.K true):=by
 intro qQ s σ H x y v u Q I rx ry h;obtain ⟨d1,d2,h1,h2,s1,s2,q⟩:=h;obtain ⟨as,r1⟩:=h1.reads I rx;obtain ⟨bs,r2⟩:=h2.reads I ry;exact ne_dataH r1 r2 s1 s2 hu ⟨.bl _,H,I,by cases PyData.eqv d1 d2 <;> rfl,q⟩
def Lt2 (p:Nat)(a:Int):Prop:=a.natAbs<2 ^ p
def Zc9 (i j:Int):Prop:=0<j/\Lt2 9000 j
theorem YW {X:Cx}:OpR X (binaryOp .FloorDiv) (rI Zc9 λi j=>.int (i / j)):=opI λi j _ _ _ _ _ hc q=>by
 have h1:(0:Int)<j:=hc.1;have h2:j.natAbs<2 ^ 9000:=hc.2;refine floordiv_int (by lia) (by rw [Int.fdiv_eq_ediv_of_nonneg i (by lia)];exact q) (.inl (PyProof.noPylong_of_log2 ?_));exact (Nat.log2_lt (by lia)).mpr h2
theorem Same.new {H:Hp}{p:Addr}{o:HO}(h:H p=none):Same H (upd H p o):=λb u e=>by rw [Go (Gh e h)];exact e
theorem Same.put {H H1:Hp}{p:Addr}{o:HO}(s:Same H H1)(h:H p=none):Same H (upd H1 p o):=λb u e=>by rw [Go (Gh e h)];exact s b u e
theorem Gm {H:Hp}{p b:Addr}{o u:HO}(h:H b=some u)(n:b≠p):upd H p o b=some u:=by rw [Go n];exact h
inductive Prs (H:Hp):List V->List (Int×Int)->Prop
 | nil:Prs H [] []
 | cons {p:Addr} {a b:Int} {xs:List V} {rs:List (Int×Int)}:H p=some (.tup [.int a,.int b])->Prs H xs rs->Prs H (.ref p::xs) ((a,b)::rs)
theorem Prs.len {H:Hp}{xs:List V}{rs:List (Int×Int)}(h:Prs H xs rs):xs.length=rs.length:=by
 induction h with
 | nil=>rfl
 | cons _ _ ih=>rw [List.length_cons,List.length_cons,ih]
theorem Prs.snoc {H:Hp}{xs:List V}{rs:List (Int×Int)}(h:Prs H xs rs){p:Addr}{a b:Int}(e:H p=some (.tup [.int a,.int b])):Prs H (xs++[.ref p]) (rs++[(a,b)]):=by
 induction h with
 | nil=>exact .cons e .nil
 | cons e1 _ ih=>exact .cons e1 ih
theorem Prs.keep {H H':Hp}{xs:List V}{rs:List (Int×Int)}(h:Prs H xs rs)(k:∀p ys,H p=some (.tup ys)->H' p=some (.tup ys)):Prs H' xs rs:=by
 induction h with
 | nil=>exact .nil
 | cons e1 _ ih=>exact .cons (k _ _ e1) ih
theorem Prs.same {H H':Hp}{xs:List V}{rs:List (Int×Int)}(h:Prs H xs rs)(k:Same H H'):Prs H' xs rs:=h.keep λp ys e=>k p _ e
theorem YX {H:Hp}{l:Addr}{zs:List V}{o:HO}(h:H l=some (.lst zs)):∀p ys,H p=some (.tup ys)->upd H l o p=some (.tup ys):=λp ys e=>Gm e (GV e h (λz=>by cases z))
theorem VW {H:Hp}{l:Addr}{o:HO}(h:H l=none):∀p ys,H p=some (.tup ys)->upd H l o p=some (.tup ys):=λp ys e=>Gm e (Gh e h)
def prD (r:Int×Int):PyData:=.tuple [.int r.1,.int r.2]
theorem Zat (r q:Int×Int):PyData.eqv (prD r) (prD q)=decide (r=q):=by
 obtain ⟨a,b⟩:=r;obtain ⟨c,d⟩:=q;simp only [prD,PyData.eqv,PyData.eqvAll,Prod.mk.injEq];by_cases h1:a=c <;> by_cases h2:b=d <;> simp [h1,h2]
end L2
namespace L2
open PySem PySem.Spec PyProof.Rows
section
variable {P:Program}{w:World}{K:W.Frag}{mg:Str->Option Value}{base:Heap}
theorem Fun.okR {x qual:Str}{st:Stmt}{f:Addr}{fd:FuncData}{N ps:List Str}{k:Nat}{sp:Sp}(F:Fun K x qual st f fd)(S:Gs N ps (Gc st))(len:∀vs H Q E,sp vs H Q E->vs.length=ps.length)(qG:∀(cdv:Value)(A:Around)(outer:List Env)(s:Shared)(H:Hp)(vs:List V)(Q:VK)(E:XK),Room k (A.deeper (envOfC qual (Gc st) s.heap.objs.size f cdv))->sp vs H Q E ->
   ∃t,PSs (Yz (CXr P w) P w K mg base N qual (Gc st) f cdv A outer s H E) (Gn st) t/\t { nx:=λ_ H'=>Q .non H',rt:=Q } (O5 N vs) H):GL P w K mg base (CXr P w) (k+1) f fd ps sp:=by
 obtain ⟨oc,od,kV,doc,pm,an,cdv,ct,osl,rfl,lk,hcd⟩:=F.ex;refine Zbu lk hcd S len λA outer s H vs Q E hr hsp=>?_;obtain ⟨t,h,q⟩:=qG cdv A outer s H vs Q E hr hsp;exact ⟨t,h,q⟩
theorem Zau {X:Cx}:UD (CXr X.prog X.w) X E0:=λ_ _ _ _ _ _ _ ⟨_,_,_,_,_,h⟩=>h.elim
end
section
variable {X:Cx}
theorem VX {x:Str}{T:String}{pos:Pos}(hm:X.mg x=none)(hv:bootBuiltins x=some (.type T))(hg:Gl X x:=by rfl)(hn:x ≠ "__name__" := by decide)(hd:(x == ("__debug__" : Str))=false:=by decide):PE X (.Name x pos) (tC (.ty T)):=Zac hg hm hv rfl hn hd
end
theorem Oq:bootBuiltins "isinstance" = some (.builtin "isinstance"):=by first | rfl | decide +kernel
theorem JI:bootBuiltins "tuple" = some (.type "tuple"):=by first | rfl | decide +kernel
theorem J1:bootBuiltins "list" = some (.type "list"):=by first | rfl | decide +kernel
theorem Xs:bootBuiltins "bool" = some (.type "bool"):=by first | rfl | decide +kernel
theorem YY:bootBuiltins "int" = some (.type "int"):=by first | rfl | decide +kernel
section
variable {X:Cx}(K:W.Frag)
theorem ZcJ (h:X.K=K:=by rfl):IxR X (ZdX K):=h▸Zao
theorem OP (h:X.K=K:=by rfl):IxR X (ZdY K):=h▸Zbv
theorem kIn (h:X.K=K:=by rfl):OpR X (compareOp .In) (rIn K false):=h▸Xm
theorem ZbE (h:X.K=K:=by rfl):OpR X (compareOp .NotIn) (rIn K true):=h▸UJ
theorem ZcK (h:X.K=K:=by rfl):Js X (.builtin "len") (λxs H Q=>∃p ys,xs=[.ref p]/\(SqL K H p ys\/SqT K H p ys)/\Q (.int ys.length) H):=h▸UK
theorem Vo (h:X.K=K:=by rfl):Js X (.type "list") (λxs H Q=>∃p ys,xs=[.ref p]/\(SqL K H p ys\/SqT K H p ys)/\∀l,H l=none->Q (.ref l) (upd H l (.lst ys))):=h▸UL
theorem Zda (hu:X.A.units+64<cLine)(h:X.K=K:=by rfl):OpR X (compareOp .Eq) (ZcI K false):=h▸ZbC hu
theorem Zd2 (hu:X.A.units+64<cLine)(h:X.K=K:=by rfl):OpR X (compareOp .NotEq) (ZcI K true):=h▸ZbD hu
theorem kSl (h:X.K=K:=by rfl):SlR X (ZdZ K):=h▸Zap
theorem Zbb {es:List Expr}{k:Nat}{t:TGs}{n:Nat}{pos:Pos}(hc:X.calm=true)(h:PGs X es t)(hK:X.K=K:=by rfl)(hn:(assignEach es X.env).length=n:=by rfl)(hst:(assignEach es X.env).findIdx? (·.1)=none:=by rfl):PG X (.Tuple es k pos) (ZdQ K n t):=hK▸Zbl hc h hn hst
theorem JM {tg l:Expr}{tl:TE}(hl:PE X l tl)(h:X.K=K:=by rfl):PI X tg l (Zbn K tl):=h▸Zaf hl
end
end L2
namespace L2
open PySem
def Vp (r c:Nat)(p:Nat):List (Int×Int):=
 (if ((p:Int)+1) % (c:Int)=0 then [] else [((p:Int),(p:Int)+1)])++(if (p:Int)+(c:Int)<(r:Int) * (c:Int) then [((p:Int),(p:Int)+(c:Int))] else [])
def GJ (r c i:Nat):List (Int×Int):=(List.range i).flatMap (Vp r c)
theorem JR (r c i:Nat):GJ r c (i+1)=GJ r c i++Vp r c i:=by
 unfold GJ;rw [List.range_succ,List.flatMap_append,List.flatMap_singleton]
theorem VY {H H2:Hp}{l t:Addr}{xs:List V}{rs:List (Int×Int)}{a b:Int}(s:Same H H2)(hl:H l=none)(h2:H2 l=some (.lst xs))(hp:Prs H2 xs rs)(ht:H2 t=none) :
  Same H (upd (upd H2 t (.tup [.int a,.int b])) l (.lst (xs++[.ref t])))/\upd (upd H2 t (.tup [.int a,.int b])) l (.lst (xs++[.ref t])) l=some (.lst (xs++[.ref t])) /\
   Prs (upd (upd H2 t (.tup [.int a,.int b])) l (.lst (xs++[.ref t]))) (xs++[.ref t]) (rs++[(a,b)]):=by
 have hne:t≠l:=λz=>by rw [z,h2] at ht;cases ht
 have s1:Same H (upd H2 t (.tup [.int a,.int b])):=s.put (s.free ht);refine ⟨s1.put hl,Gb,?_⟩;have k1:=hp.keep (VW (o:=.tup [.int a,.int b]) ht);have k2:=k1.keep (YX (H:=upd H2 t (.tup [.int a,.int b])) (l:=l) (zs:=xs) (o:=.lst (xs++[.ref t])) (Gm h2 (Ne.symm hne)));exact k2.snoc (by rw [Go hne,Gb])
end L2
namespace L2
open PySem PySem.Spec PyProof.Rows
def AllP {α:Type}(P:α->Prop):List α->Prop
 | []=>True
 | x::r=>P x/\AllP P r
theorem AllP.mem {α:Type}{P:α->Prop}:∀{l:List α},AllP P l->∀x∈l,P x
 | _::_,h,_,.head _=>h.1
 | _::_,h,x,.tail _ m=>AllP.mem h.2 x m
theorem Gj {X:Cx}{scope:Scope}{cl:List (Str×Addr)}{own:List Str}{fr:List (Str×Nat)}(L:List (Str×NameKind))(hcl:closureFor scope X.env=pure cl)(hL:(relabel scope X.env).names=L)(hc:∀y∈scope.names,y.2≠.cell)(hk:scope.kind=.function)(hn:∀y∈scope.names,y.2=.local->scope.names.lookup y.1=some .local)(hcs:AllP (λp=>X.env.cells.lookup p.1=some p.2) cl)(qY:AllP (λp=>(p.2=.cell\/p.2=.free)->∃c,cl.lookup p.1=some c) L)(hfr:AllP (λp=>X.N[p.2]?=some p.1/\(X.env.kindOf p.1=some .cell\/X.env.kindOf p.1=some .free)/\(L.lookup p.1=some .cell\/L.lookup p.1=some .free)) fr):Jf X scope cl own fr:=
 ⟨hcl,hc,hk,hn,λy c h=>hcs.mem (y,c) (PySem.mem_of_lookup h),λy h=>by
  rw [hL] at h;rcases h with h | h
  ·exact qY.mem _ (PySem.mem_of_lookup h) (.inl rfl)
  ·exact qY.mem _ (PySem.mem_of_lookup h) (.inr rfl),λp hp=>by
  rw [hL];exact hfr.mem p hp⟩
theorem GN {k:NameKind}{P:Prop}(h:k=.cell\/k=.free)(h1:(k == .cell)=false:=by rfl)(h2:(k == .free)=false:=by rfl):P:=by
 rcases h with z | z
 ·subst z;exact absurd h1 (by decide)
 ·subst z;exact absurd h2 (by decide)
theorem Prs.get {H:Hp}:∀{xs:List V}{rs:List (Int×Int)},Prs H xs rs->∀{i:Nat}{x:V},xs[i]?=some x->∃t r,x=.ref t/\H t=some (.tup [.int r.1,.int r.2])/\rs[i]?=some r
 | _,_,.nil,_,_,h=>by simp at h
 | _,_,.cons (a:=a) (b:=b) e _,0,_,h=>by
  simp at h;subst h;exact ⟨_,(a,b),rfl,e,rfl⟩
 | _,_,.cons _ r,i+1,x,h=>by
  obtain ⟨t,q,h1,h2,h3⟩:=Prs.get r (i:=i) (x:=x) (by simpa using h);exact ⟨t,q,h1,h2,by simpa using h3⟩
theorem Jn {t u:TS}{D:Wx}{σ:St}{H:Hp}(Pm:St->Hp->Prop)(h2:∀ σ' H',Pm σ' H'->u D σ' H')(h1:(∀ σ' H',Pm σ' H'->u D σ' H')->t { D with nx:=u D } σ H):ZdN t u D σ H:=h1 h2
end L2
namespace L2
open PySem PySem.Spec PyProof.Rows
section
variable {X:Cx}
theorem Xu:UnR X (unaryOp .USub) (rU λi=>.int (-i)):=by
 intro qQ s σ H x v Q I rx h;obtain ⟨i,rfl,q⟩:=h;obtain ⟨t,rfl⟩:=rx;exact neg_int ⟨.int (-i),H,I.tok _,⟨_,rfl⟩,q⟩
end
theorem ZbF {xs:List V}{k:Nat}:YO xs none (some (k:Int))=xs.take k:=by
 unfold YO;rw [HT.sIx_none,HT.sIx_nat,List.drop_zero,Nat.sub_zero];by_cases h:k<=xs.length
 ·rw [Nat.min_eq_left h]
 ·rw [Nat.min_eq_right (by lia),List.take_length,List.take_of_length_le (by lia)]
theorem Vq {xs:List V}{n:Int}(h0:0<=n)(h1:n<xs.length):atI xs n=some (xs.getD n.toNat .non):=by
 obtain ⟨k,rfl⟩:=Int.eq_ofNat_of_zero_le h0;have hk:k<xs.length:=by lia
 refine Jx ?_;show xs[k]?=some (xs.getD k .non);rw [List.getD_eq_getElem?_getD,List.getElem?_eq_getElem hk]
 rfl
end L2
namespace L2
open PySem PySem.Spec PyProof.Rows
theorem Zdb {P:Program}{w:World}{K:W.Frag}{mg:Str->Option Value}{base:Heap}{N:List Str}{qual:Str}{scope:Scope}{f:Addr}{cd:Value}{A:Around}{outer:List Env}{s:Shared}{H:Hp}{E:XK} :
  UD (CXr P w) (Yz (CXr P w) P w K mg base N qual scope f cd A outer s H E) E:=by
 intro qQ σ H1 s1 ev s' I h;obtain ⟨a,C,H',rfl,⟨t,B,os,bare,un,hok,fl,trk,old⟩,hE⟩:=h;have hfr:=I.ok.frames;have nox:∀b:Addr,b ∉ (Yz (CXr P w) P w K mg base N qual scope f cd A outer s H E).ex:=λb z=>absurd (show b∈([]:List Addr) from z) (by simp);refine wpAny_leaves_onW hfr rfl fl λh2 fl2 sm=>?_;obtain ⟨u2,k2⟩:=YV (t:=t) (a:=a) (C:=C) un hok fl.2.2.1 trk old fl2.1 sm;have u1:Un (frs (envOfC qual scope s.heap.objs.size f cd::outer)) [] H H1 s.heap s1.heap:=Un.mono I.base (λb hb=>by
  have hb':b∈frs outer:=hb;obtain ⟨env,he,q⟩:=List.mem_filterMap.mp hb';exact List.mem_filterMap.mpr ⟨env,List.mem_cons_of_mem _ he,q⟩) (λb hb=>absurd hb (nox b))
 have u3:=u1.trans u2;have nst:∀b o,s.heap.get? b=some o->b ∉ frs outer->b ∉ frs (envOfC qual scope s.heap.objs.size f cd::outer):=λb o e hb z=>by
  rcases List.mem_cons.mp (I.stkSub b z) with q | q
  ·exact absurd (Nat.lt_of_lt_of_le (Heap.lt_size e) I.ok.above) (by rw [q];exact Nat.lt_irrefl _)
  ·exact hb q
 have inst:∀b,b∈frs outer->b∈frs (envOfC qual scope s.heap.objs.size f cd::outer):=λb hb=>by
  obtain ⟨env,he,q⟩:=List.mem_filterMap.mp hb;exact List.mem_filterMap.mpr ⟨env,List.mem_cons_of_mem _ he,q⟩
 refine ⟨a,C,H',rfl,⟨t,B,os.trans I.os,bare,⟨λb o e n hb hx=>u3.keep b o e n (nst b o e hb) hx,λb o e n hb hx=>u3.slot b o e n (inst b hb) hx,u3.free,u3.there,u3.tups,u3.frzs,u3.tbls⟩,k2,fl2,λb o e n=>?_,λb o0 o e0 e nb=>?_⟩,hE⟩
 ·cases q':H' b with
  | none=>exact absurd q' n
  | some u=>
   obtain ⟨v,q⟩:=(hok b u q').there;have e1:=trk b v q n;have e2:=fl2.1 b v e1;have e':h2.get? b=some o:=e;rw [e'] at e2;cases e2;exact e1
 ·obtain ⟨o1,e1⟩:=u1.there b o0 e0 (by simp);obtain ⟨o2,e2⟩:=un.there b o1 e1 (by simp);have e3:=old b o1 o2 e1 e2 (nst b o0 e0 nb);have e4:=fl2.1 b o2 e3;have e':h2.get? b=some o:=e;rw [e'] at e4;cases e4;exact e3
section
variable {X:Cx}
def Zd3 (K:W.Frag)(neg:Bool):R2:=λx y H Q=>∃p xs d ds,y=.ref p/\(SqL K H p xs\/SqT K H p xs)/\DatV K H x d/\DatVs K H xs ds/\SeqAt.shaped d=true/\(∀e∈ds,SeqAt.shaped e=true)/\Q (.bl (neg != ds.any λe=>PyData.eqv e d)) H
open Classical in
noncomputable def Oa (h:Heap)(u:Value):PyData:=if q:∃d as,Reads h u d as/\SeqAt.shaped d=true then choose q else .none
theorem YZ {h:Heap}{u:Value}{d:PyData}{as:List Addr}(r:Reads h u d as)(hs:SeqAt.shaped d=true):Oa h u=d:=by
 have q:∃d as,Reads h u d as/\SeqAt.shaped d=true:=⟨d,as,r,hs⟩;unfold Oa;rw [dif_pos q];obtain ⟨as',r',s'⟩:=Classical.choose_spec q;exact SeqAt.Reads.unique _ _ _ _ _ (SeqAt.canLay_of_shaped s') r' r
theorem ZR {h:Heap}:∀{us:List Value}{ds:List PyData}{as:List Addr},ReadsAll h us ds as->(∀e∈ds,SeqAt.shaped e=true)->(∀u∈us,∃as',Reads h u (Oa h u) as'/\SeqAt.shaped (Oa h u)=true)/\us.map (Oa h)=ds
 | _,_,_,.nil,_=>⟨λu hu=>by simp at hu,rfl⟩
 | _,_,_,.cons r rs,hs=>by
  obtain ⟨i1,i2⟩:=ZR rs λe he=>hs e (List.mem_cons_of_mem _ he);have h0:=hs _ (List.mem_cons_self ..);have e0:=YZ r h0;refine ⟨λu hu=>?_,by rw [List.map_cons,e0,i2]⟩;rcases List.mem_cons.mp hu with rfl | hu
  ·rw [e0];exact ⟨_,r,h0⟩
  ·exact i1 u hu
theorem Y0 {h:Heap}{us:List Value}{ds:List PyData}{d:PyData}(e:us.map (Oa h)=ds):us.any (λu=>PyData.eqv (Oa h u) d)=ds.any λe=>PyData.eqv e d:=by
 rw [<-e,List.any_map]
 rfl
theorem ZbG {neg:Bool}{c:CmpOp}(hc:(neg=false/\c=.In)\/(neg=true/\c=.NotIn))(hu:X.A.units+65<cLine):OpR X (compareOp c) (Zd3 X.K neg):=by
 intro qQ s σ H x y v u Q I rx ry h;obtain ⟨p,xs,d,ds,rfl,hq,hd,hds,sd,sds,q⟩:=h;cases ry;obtain ⟨as,ra⟩:=hd.reads I rx;have hu1:X.A.in1.units+64<cLine:=by rw [Around.in1_units];lia
 have key:∀its:List Value,Vals xs its->(∀w∈its,SeqAt.EqAt X.A.in1 s w v (PyData.eqv (Oa s.heap w) d))/\its.toArray.any (λw=>PyData.eqv (Oa s.heap w) d)=ds.any λe=>PyData.eqv e d:=λits r=>by
  obtain ⟨bs,rb⟩:=hds.reads I r;obtain ⟨k1,k2⟩:=ZR rb sds;refine ⟨λw hw=>?_,?_⟩
  ·obtain ⟨as',r',s'⟩:=k1 w hw;exact W.keq_at r' ra s' sd hu1
  ·rw [List.any_toArray];exact Y0 k2
 rcases hq with hq | hq
 ·obtain ⟨its,r,pl,hz⟩:=I.list hq;obtain ⟨k1,k2⟩:=key its r;rcases hc with ⟨rfl,rfl⟩ | ⟨rfl,rfl⟩
  ·refine SeqAt.in_listAt (λw=>PyData.eqv (Oa s.heap w) d) pl.isList (λw hw=>k1 w (by simpa using hw)) ⟨.bl _,H,I,rfl,?_⟩;rw [k2];simpa using q
  ·refine SeqAt.notIn_listAt (λw=>PyData.eqv (Oa s.heap w) d) pl.isList (λw hw=>k1 w (by simpa using hw)) ⟨.bl _,H,I,rfl,?_⟩;rw [k2];simpa using q
 ·obtain ⟨its,r,pl,hz⟩:=I.tuple hq;obtain ⟨k1,k2⟩:=key its r;rcases hc with ⟨rfl,rfl⟩ | ⟨rfl,rfl⟩
  ·refine SeqAt.in_tupleAt (λw=>PyData.eqv (Oa s.heap w) d) pl (λw hw=>k1 w (by simpa using hw)) ⟨.bl _,H,I,rfl,?_⟩;rw [k2];simpa using q
  ·refine SeqAt.notIn_tupleAt (λw=>PyData.eqv (Oa s.heap w) d) pl (λw hw=>k1 w (by simpa using hw)) ⟨.bl _,H,I,rfl,?_⟩;rw [k2];simpa using q
theorem Zav (K:W.Frag)(hu:X.A.units+65<cLine)(h:X.K=K:=by rfl):OpR X (compareOp .NotIn) (Zd3 K true):=h▸ZbG (.inr ⟨rfl,rfl⟩) hu
theorem Jg (r:Int×Int):SeqAt.shaped (prD r)=true:=by
 unfold SeqAt.shaped prD;simp [PyData.canLay0,PyData.canLayAll0,PyData.depth,PyData.depthAll]
end
end L2
namespace L2
open PySem PySem.Spec PyProof.Rows
section
variable {X:Cx}
def Ite (K:W.Frag)(a:Addr):It:=
 ⟨λi H=>∃xs x,SqL K H a xs/\xs[i]?=some x,λi H x H'=>∃T y,x=.ref T/\H T=none/\H'=upd H T (.tup [.int (i:Nat),y])/\∀xs,SqL K H a xs->xs[i]?=some y,λi H=>∃xs,SqL K H a xs/\xs.length<=i⟩
theorem Xv {P:Program}{w:World}{K:W.Frag}{elts:List Expr}{k:Nat}{pos:Pos}(a e it:Addr)(hne:e≠it) :
  YI P w K (.Tuple elts k pos) (Ite K a) [e,it] e (λi h=>(∃old,IsEnum h e it ((i:Nat):Int) old)/\h.IsListIter it a i) where
 mem:=by simp
 obj:=λi h st b hb=>by
  obtain ⟨⟨old,he⟩,⟨o,ei,c,d⟩⟩:=st;rcases List.mem_cons.mp hb with rfl | hb
  ·exact ⟨_,he,λv z=>by
    have z':Data.fields _=Data.cell v:=z;cases z'⟩
  ·have eb:b=it:=by simpa using hb
   subst eb;exact ⟨o,ei,λv z=>by rw [d] at z;cases z⟩
 keep:=λi h h' st q=>by
  obtain ⟨⟨old,he⟩,hi⟩:=st;exact ⟨⟨old,q e (by simp) _ he⟩,hi.at λo ho=>q it (by simp) o ho⟩
 item:=by
  intro X hP hw hK hc i qQ s σ H E I hf st hg;subst hP hw hK;obtain ⟨xs,x,hq,hx⟩:=hg;obtain ⟨its,rv,p,hz⟩:=I.list hq;obtain ⟨u,hu,ru⟩:=rv.get hx;obtain ⟨⟨old,he⟩,hit⟩:=st;refine wpAny_pyNext_enum_item he hit p.isList (x:=u) (by simpa using hu) hne λh1 heo hit1 ht1 hz1 hk1=>?_;refine ⟨_,rfl,wpAny_letOwnedTupleGo_enum (s:={ s with heap:=h1,toks:=s.toks+1 }) heo λh2 he2 hs2=>?_⟩;have hs2':Heap.SameBut e h1 h2:=hs2;have hfr:H s.heap.objs.size=none:=I.fresh;have hel:e<s.heap.objs.size:=Heap.lt_size he;have kk:∀b o,b ∉ [e,it]->s.heap.get? b=some o->h2.get? b=some o:=λb o hb q=>by
   have n1:b≠e:=λz=>hb (by simp [z]);have n2:b≠it:=λz=>hb (by simp [z]);exact (hs2'.2 b n1).trans (hk1 b o n1 n2 q)
  have nT:∀b o,s.heap.get? b=some o->b≠s.heap.objs.size:=λb o q=>Nat.ne_of_lt (Heap.lt_size q);have trk:∀c u,H c=some u->c ∉ [e,it]:=λc u q z=>by
   rw [(hf c z).1] at q;cases q
  refine ⟨.ref s.heap.objs.size,upd H s.heap.objs.size (.tup [.int (i:Nat),x]),I.call' (ch:=[e,it]) rfl ⟨λb o q _ _ hb=>kk b o hb q,λb o q _ _ hb=>⟨o.slots,kk b o hb q⟩,λb o q n _=>by rw [Go (nT b o q)];exact n,
   λb o q hb=>⟨o,kk b o hb q⟩,λb ys q=>by rw [Go (Gh q hfr)];exact q,λb o u q=>by rw [Go (Gh q hfr)];exact q,λb ps q=>⟨#[],by rw [Go (Gh q hfr),q];simp⟩⟩ (λb v q=>?_) I.bare (λb hb=>?_),
   rfl,⟨_,x,rfl,hfr,rfl,λys hy=>by rw [I.list_inj hy hq];exact hx⟩,⟨⟨_,by rw [Int.natCast_add];exact he2⟩,hit1.extBut hs2'.extBut (Ne.symm hne)⟩,λb hb=>?_⟩
  ·by_cases hb:b=s.heap.objs.size
   ·subst hb;rw [Gb] at q;cases q;refine ⟨by have h16:(16777216:Nat)=sizeLine:=sizeLine_eq.symm;rw [<-h16];show 2<=16777216;lia,[.int (i:Nat) s.toks,u],.cons ⟨_,rfl⟩ (.cons ru .nil),⟨_,(hs2'.2 _ (Nat.ne_of_gt hel)).trans ht1,rfl,_,rfl⟩⟩
   ·rw [Go hb] at q;refine (I.hok b v q).stay (λc v' hc z=>kk c v' ?_ z) (λc z=>by rw [Go (Gh z hfr)];exact z) λc ys z=>by rw [Go (Gh z hfr)];exact z
    rcases hc with rfl | hc
    ·exact trk _ _ q
    ·exact trk _ _ hc
  ·obtain ⟨f0,f1,f2,f3,f4,f5⟩:=hf b hb;exact ⟨f3,f1,f4,f5⟩
  ·have ho:∃o,s.heap.get? b=some o:=by
    rcases List.mem_cons.mp hb with rfl | hb
    ·exact ⟨_,he⟩
    ·have eb:b=it:=by simpa using hb
     subst eb;obtain ⟨o,ei,_⟩:=hit;exact ⟨o,ei⟩
   obtain ⟨o,ho⟩:=ho;rw [Go (nT b o ho)];exact (hf b hb).1
 done:=by
  intro X hP hw hK hc i qQ s σ H E I hf st hg;subst hP hw hK;obtain ⟨xs,hq,hx⟩:=hg;obtain ⟨its,rv,p,hz⟩:=I.list hq;obtain ⟨⟨old,he⟩,hit⟩:=st;obtain ⟨f0,f1,f2,f3,f4,f5⟩:=hf it (by simp);have hl:=rv.length;exact wpAny_pyNext_enum_end (I.ok.hd hc) he hit p.isList (by simp;lia) λh' eb=>⟨rfl,I.turned (t':=s.toks) (λb o hb q=>eb b o hb q) f0 f1 f3 f4 f5⟩
 self:=λ_ _ _ _ _ ⟨⟨_,he⟩,_⟩ h=>wpAny_pyIter_enum he h
def ZbH (K:W.Frag)(ta:TA):TI:=λσ H R=>ta σ H λvs H1=>∃a xs,vs=[.ref a]/\SqL K H1 a xs/\R (Ite K a) H1
theorem Zaw {elts:List Expr}{k:Nat}{p0:Pos}{l:Expr}{ta:TA}{p pos:Pos}(hg:Gl X "enumerate")(hm:X.mg "enumerate" = none)(ha:PA X [l] ta)(hs:starEach [l] X.env=[(false,eval l X.env)]:=by rfl) :
  PI X (.Tuple elts k p0) (.Call (.Name "enumerate" p) [l] [] pos) (ZbH X.K ta):=by
 intro qQ s σ H R I h;refine Call_ (OR I hg hm boot_enumerate (PyProof.Rows.callWith_type1 (thn (ha pos qQ s σ H _ I h) λus s1 ⟨vs,H1,I1,r1,q1⟩=>?_) hs rfl));obtain ⟨a,xs,e,hq,q⟩:=q1;subst e;obtain ⟨u,rfl,ru⟩:=r1.one;cases ru;obtain ⟨its,rv,pl,hz⟩:=I1.list hq;refine call_enumerate_list pl.isList λh' hE hI hsz hk=>?_;refine wpAny_pyIter_enum hE ?_;refine ⟨s1.heap.objs.size+1,[s1.heap.objs.size+1,s1.heap.objs.size],_,_,H1,rfl,I1.kept (t':=s1.toks) hk,Xv a _ _ (Nat.succ_ne_self _),⟨⟨_,hE⟩,hI⟩,λb hb=>?_,q⟩;have e:s1.heap.objs.size<=b:=by
  rcases List.mem_cons.mp hb with rfl | hb
  ·exact Nat.le_succ _
  ·have eb:b=s1.heap.objs.size:=by simpa using hb
   rw [eb];exact Nat.le_refl _
 exact I1.fpOk e (I1.hok.fresh e)
theorem ZbI (K:W.Frag){elts:List Expr}{k:Nat}{p0:Pos}{l:Expr}{ta:TA}{p pos:Pos}(hg:Gl X "enumerate")(hm:X.mg "enumerate" = none)(ha:PA X [l] ta)(h:X.K=K:=by rfl)(hs:starEach [l] X.env=[(false,eval l X.env)]:=by rfl) :
  PI X (.Tuple elts k p0) (.Call (.Name "enumerate" p) [l] [] pos) (ZbH K ta):=h▸Zaw hg hm ha hs
end
end L2
namespace L2
open PySem PySem.Spec PyProof.Rows
section
variable {X:Cx}{a b c d:Expr}{ta tb tc td:TE}{pos:Pos}
theorem VZ:bootBuiltins "all" = some (.builtin "all"):=by first | rfl | decide +kernel
theorem OF:∀{bs:List Bool}{us:List Value},Vals (bs.map V.bl) us->us=bs.map Value.bool
 | [],_,.nil=>rfl
 | b::bs,_,.cons r t=>by rw [List.map_cons,<-OF t];cases r;rfl
theorem Xw (bs:List Bool):(List.range bs.length).all (λi=>bs.getD i false)=bs.all id:=by
 induction bs with
 | nil=>rfl
 | cons b bs ih=>
  rw [List.length_cons,List.range_succ_eq_map,List.all_cons,List.all_map,List.all_cons];show (b && _)=(b && _)
  congr 1
theorem ZeD (K:W.Frag)(hc:X.calm=true)(h:X.K=K:=by rfl):Js X (.builtin "all") (λxs H Q=>∃(p:Addr)(bs:List Bool),xs=[.ref p]/\SqL K H p (bs.map V.bl)/\Q (.bl (bs.all id)) H):=by
 subst h;intro qQ s σ H xs us Q I rv h;obtain ⟨p,bs,rfl,hq,q⟩:=h;obtain ⟨u,rfl,ru⟩:=rv.one;cases ru;obtain ⟨its,r,pl,hz⟩:=I.list hq;have e:=OF r;have hh:X.A.in1.handled=none:=I.ok.hd hc;obtain ⟨o,eo,_⟩:=id pl.isList;have hlt:p<s.heap.objs.size:=Heap.lt_size eo;refine call_all_walk (wpAny_pyIter_list pl.isList ?_);refine ⟨s.heap.objs.size,_,_,_,_,_,λi=>bs.getD i false,rfl,Walks.list hh s.heap.objs.size p (Nat.ne_of_lt hlt) its.toArray,⟨⟨_,Heap.get?_push_size _ rfl,rfl,rfl⟩,pl.isList.at λo e=>Heap.get?_push_of_some _ e⟩,?_,λh' tk hk=>?_⟩
 ·intro i v s' Q' E' hv hq';have hv':its[i]?=some v:=by simpa using hv
  rw [e,List.getElem?_map] at hv';cases z:bs[i]? with
  | none=>rw [z] at hv';cases hv'
  | some b=>
   rw [z] at hv';cases hv';have eb:bs.getD i false=b:=by rw [List.getD_eq_getElem?_getD,z];rfl
   exact wpAny_truthy_bool (by rw [<-eb];exact hq')
 ·have hl:its.toArray.size=bs.length:=by rw [List.size_toArray,e,List.length_map]
  have I1:Inv X qQ σ H { s with heap:=s.heap.push { cls:=.type "list_iterator", data:=.fields #[.ref p,.int 0 0] } }:=I.kept (t':=s.toks) λb o e=>Heap.get?_push_of_some _ e;refine ⟨.bl _,H,I.kept λb o e'=>hk b o ?_ (Heap.get?_push_of_some _ e'),?_,q⟩
  ·intro z;have:b=s.heap.objs.size:=by simpa using z
   exact absurd (Heap.lt_size e') (by rw [this];exact Nat.lt_irrefl _)
  ·show Value.bool _=Value.bool _;rw [hl,Xw]
end
end L2
namespace L2
open PySem PySem.Spec PyProof.Rows
section
variable {κ:Type}[DecidableEq κ]
def GZ (kvs:List (κ×V))(k:κ):Option V:=(kvs.find? λkv=>decide (kv.1=k)).map (·.2)
def Ol (kvs:List (κ×V))(k:κ)(v:V):List (κ×V):=
 if (kvs.any λkv=>decide (kv.1=k))=true then kvs.map (λkv=>if kv.1=k then (kv.1,v) else kv) else kvs++[(k,v)]
theorem GQ {p:κ×V}{r:List (κ×V)}{k:κ}(e:p.1=k):GZ (p::r) k=some p.2:=by simp [GZ,List.find?_cons,e]
theorem GR {p:κ×V}{r:List (κ×V)}{k:κ}(e:¬ p.1=k):GZ (p::r) k=GZ r k:=by simp [GZ,List.find?_cons,e]
theorem Os (k:κ):∀kvs:List (κ×V),(kvs.any λkv=>decide (kv.1=k))=(GZ kvs k).isSome
 | []=>rfl
 | p::r=>by
  rw [List.any_cons];by_cases e:p.1=k
  ·simp only [GQ e,decide_eq_true e,Bool.true_or,Option.isSome_some]
  ·rw [GR e,decide_eq_false e,Bool.false_or];exact Os k r
theorem V0 (k j:κ)(y:V):∀kvs:List (κ×V),GZ (kvs.map λkv=>if kv.1=k then (kv.1,y) else kv) j=(GZ kvs j).map λx=>if j=k then y else x
 | []=>rfl
 | p::r=>by
  have ih:=V0 k j y r;rw [List.map_cons];by_cases h:p.1=k
  ·rw [if_pos h];by_cases e:p.1=j
   ·rw [GQ (p:=(p.1,y)) e,GQ e,Option.map_some,if_pos (e.symm.trans h)]
   ·rw [GR (p:=(p.1,y)) e,GR e,ih]
  ·rw [if_neg h];by_cases e:p.1=j
   ·rw [GQ (p:=p) e,GQ e,Option.map_some,if_neg (λz=>h (e.trans z))]
   ·rw [GR (p:=p) e,GR e,ih]
theorem UR (k j:κ)(y:V):∀kvs:List (κ×V),GZ kvs k=none->GZ (kvs++[(k,y)]) j=if j=k then some y else GZ kvs j
 | [],_=>by
  by_cases e:k=j
  ·rw [if_pos e.symm];exact GQ (p:=(k,y)) e
  ·rw [if_neg (λz=>e z.symm)];exact GR (p:=(k,y)) e
 | p::r,hn=>by
  rw [List.cons_append];have hk:¬ p.1=k:=λz=>by rw [GQ z] at hn;cases hn
  rw [GR hk] at hn;have ih:=UR k j y r hn;by_cases e:p.1=j
  ·rw [GQ e,GQ e,if_neg (λz=>hk (e.trans z))]
  ·rw [GR e,GR e,ih]
theorem V1 (kvs:List (κ×V))(k j:κ)(y:V):GZ (Ol kvs k y) j=if j=k then some y else GZ kvs j:=by
 unfold Ol;by_cases a:(kvs.any λkv=>decide (kv.1=k))=true
 ·rw [if_pos a,V0];rw [Os] at a;by_cases e:j=k
  ·obtain ⟨x,hx⟩:=Option.isSome_iff_exists.mp a;rw [if_pos e,e,hx,Option.map_some,if_pos rfl]
  ·rw [if_neg e];cases GZ kvs j with
   | none=>rfl
   | some x=>rw [Option.map_some,if_neg e]
 ·rw [if_neg a];refine UR k j y kvs ?_;rw [Os] at a;cases q:GZ kvs k with
  | none=>rfl
  | some x=>rw [q] at a;exact (a rfl).elim
theorem G7 (kvs:List (κ×V))(k:κ)(v:V):(Ol kvs k v).length<=kvs.length+1:=by
 unfold Ol;split
 ·rw [List.length_map];lia
 ·rw [List.length_append,List.length_cons,List.length_nil];lia
theorem RelO.isSome_eq {o:Option V}{u:Option Value}(r:RelO o u):o.isSome=u.isSome:=by
 cases o with
 | none=>cases u with
  | none=>rfl
  | some _=>exact (show False from r).elim
 | some _=>cases u with
  | none=>exact (show False from r).elim
  | some _=>rfl
theorem RelO.getD {o:Option V}{u:Option Value}{d:V}{d':Value}(r:RelO o u)(rd:RelV d d'):RelV (o.getD d) (u.getD d'):=by
 cases o with
 | none=>cases u with
  | none=>exact rd
  | some _=>exact (show False from r).elim
 | some _=>cases u with
  | none=>exact (show False from r).elim
  | some _=>exact r
theorem KV.val {kvs:List (κ×V)}{vs:List (κ×Value)}(r:KV kvs vs)(k:κ):RelO (GZ kvs k) (valueAt vs k):=by
 unfold KV at r
 induction r with
 | nil=>exact True.intro
 | @cons p q ps qs h t ih=>
  obtain ⟨h1,h2⟩:=h;by_cases e:p.1=k
  ·have e':q.1=k:=h1.symm.trans e;have b:valueAt (q::qs) k=some q.2:=by simp [valueAt,List.find?_cons,e']
   rw [GQ e,b];exact h2
  ·have e':¬ q.1=k:=λz=>e (h1.trans z);have b:valueAt (q::qs) k=valueAt qs k:=by simp [valueAt,List.find?_cons,e']
   rw [GR e,b];exact ih
theorem KV.any {kvs:List (κ×V)}{vs:List (κ×Value)}(r:KV kvs vs)(k:κ):(kvs.any λkv=>decide (kv.1=k))=vs.any λkv=>decide (kv.1=k):=by
 unfold KV at r
 induction r with
 | nil=>rfl
 | cons h t ih=>rw [List.any_cons,List.any_cons,ih,h.1]
theorem KV.repl {kvs:List (κ×V)}{vs:List (κ×Value)}(r:KV kvs vs)(k:κ){y:V}{u:Value}(ry:RelV y u) :
  KV (kvs.map λkv=>if kv.1=k then (kv.1,y) else kv) (vs.map λkv=>if kv.1=k then (kv.1,u) else kv):=by
 unfold KV at r ⊢
 induction r with
 | nil=>exact .nil
 | @cons p q ps qs h t ih=>
  rw [List.map_cons,List.map_cons];refine .cons ?_ ih;obtain ⟨h1,h2⟩:=h;by_cases e:p.1=k
  ·rw [if_pos e,if_pos (h1.symm.trans e)];exact ⟨h1,ry⟩
  ·rw [if_neg e,if_neg (λz=>e (h1.trans z))];exact ⟨h1,h2⟩
theorem KV.put {kvs:List (κ×V)}{vs:List (κ×Value)}(r:KV kvs vs)(k:κ){y:V}{u:Value}(ry:RelV y u):KV (Ol kvs k y) (stored vs k u):=by
 unfold Ol stored;rw [r.any k];by_cases e:(vs.any λkv=>decide (kv.1=k))=true
 ·rw [if_pos e,if_pos e];exact r.repl k ry
 ·rw [if_neg e,if_neg e];exact Paired.snoc r ⟨rfl,ry⟩
theorem KV.length {kvs:List (κ×V)}{vs:List (κ×Value)}(r:KV kvs vs):kvs.length=vs.length:=Paired.length r
end
theorem WD {P:Program}{w:World}{k:Key}{u:Value}(r:RelV (kV k) u):(Gz P w).is k u=true:=by
 cases k with
 | inl i=>obtain ⟨t,e⟩:=(show ∃t,u=Value.int i t from r);subst e;exact Vj P w i t
 | inr x=>obtain ⟨t,e⟩:=(show ∃t,u=Value.str x t from r);subst e;exact Vk P w x t
theorem US {P:Program}{w:World}:∀{ks:List Key}{us:List Value},Vals (ks.map kV) us->ItemsAre (Gz P w) ks us
 | [],_,r=>by rw [List.map_nil] at r;cases r;exact .nil
 | k::ks,_,r=>by
  rw [List.map_cons] at r;cases r with
  | cons h t=>exact .cons (WD h) (US t)
abbrev KT (H:Hp):List (List Key×V)->List (List Key×Addr×Value)->Prop:=Paired λp q=>p.1=q.1/\H q.2.1=some (.tup (p.1.map kV))/\RelV p.2 q.2.2
theorem KT.val {H:Hp}{kvs:List (List Key×V)}{xs:List (List Key×Addr×Value)}(r:KT H kvs xs)(k:List Key):RelO (GZ kvs k) ((atKey xs k).map (·.2)):=by
 induction r with
 | nil=>exact True.intro
 | @cons p q ps qs h t ih=>
  obtain ⟨h1,_,h2⟩:=h;by_cases e:p.1=k
  ·have e':q.1=k:=h1.symm.trans e;have b:atKey (q::qs) k=some q.2:=by simp [atKey,List.find?_cons,e']
   rw [GQ e,b];exact h2
  ·have e':¬ q.1=k:=λz=>e (h1.trans z);have b:atKey (q::qs) k=atKey qs k:=by simp [atKey,List.find?_cons,e']
   rw [GR e,b];exact ih
theorem KT.repl {H:Hp}{kvs:List (List Key×V)}{xs:List (List Key×Addr×Value)}(r:KT H kvs xs)(k:List Key){y:V}{u:Value}(ry:RelV y u) :
  KT H (kvs.map λkv=>if kv.1=k then (kv.1,y) else kv) (xs.map (putAt k u)):=by
 induction r with
 | nil=>exact .nil
 | @cons p q ps qs h t ih=>
  rw [List.map_cons,List.map_cons];refine .cons ?_ ih;obtain ⟨h1,h2,h3⟩:=h;unfold putAt;by_cases e:p.1=k
  ·rw [if_pos e,if_pos (h1.symm.trans e)];exact ⟨h1,h2,ry⟩
  ·rw [if_neg e,if_neg (λz=>e (h1.trans z))];exact ⟨h1,h2,h3⟩
theorem KT.put {H:Hp}{kvs:List (List Key×V)}{xs:List (List Key×Addr×Value)}(r:KT H kvs xs)(k:List Key){b:Addr}{y:V}{u:Value}(hb:H b=some (.tup (k.map kV)))(ry:RelV y u) :
  KT H (Ol kvs k y) (storedH xs k b u):=by
 have e:(kvs.any λkv=>decide (kv.1=k))=(atKey xs k).isSome:=by
  rw [Os,(r.val k).isSome_eq,Option.isSome_map]
 unfold Ol storedH;rw [e];by_cases q:(atKey xs k).isSome=true
 ·rw [if_pos q,if_pos q];exact r.repl k ry
 ·rw [if_neg q,if_neg q];exact Paired.snoc r ⟨rfl,hb,ry⟩
theorem KT.keeps {H H':Hp}{kvs:List (List Key×V)}{xs:List (List Key×Addr×Value)}(r:KT H kvs xs)(ht:∀b ys,H b=some (.tup ys)->H' b=some (.tup ys)):KT H' kvs xs:=
 Paired.mapP r λ_ _ z=>⟨z.1,ht _ _ z.2.1,z.2.2⟩
section
variable {P:Program}{w:World}{H:Hp}{h:Heap}{a:Addr}
theorem ZbJ {u:HO}(ok:HOk P w H h)(e:Rd H a u):ObjOk P w H h a u:=e.ok ok
theorem Ua {kvs:List (Key×V)}(ok:HOk P w H h)(e:Rd H a (.dK kvs)):kvs.length<=sizeLine/\(a == sysModules)=false/\∃vs,KV kvs vs/\h.DictOf (Gz P w) a vs:=
 show ObjOk P w H h a (.dK kvs) from ZbJ ok e
theorem Zdc {kvs:List (Key×V)}(ok:HOk P w H h)(e:H a=some (.dK kvs)):kvs.length<=sizeLine/\(a == sysModules)=false/\∃vs,KV kvs vs/\h.DictOf (Gz P w) a vs:=Ua ok (.inl e)
theorem key_of {ks:List Key}(ok:HOk P w H h)(e:H a=some (.tup (ks.map kV))):(tupleKind (Gz P w)).is h ks a:=by
 obtain ⟨_,its,r,o,h1,h2,n,h3⟩:=(show ObjOk P w H h a (.tup (ks.map kV)) from ok a _ e);exact ⟨o,its.toArray,n,h1,h2,h3,by simpa using US r⟩
theorem Vr {kvs:List (List Key×V)}(ok:HOk P w H h)(e:Rd H a (.dT kvs)):kvs.length<=sizeLine/\(a == sysModules)=false /\
  ∃xs,KT H kvs xs/\h.DictOfH (tupleKind (Gz P w)) a xs:=by
 obtain ⟨z,y,xs,r,o,es,ep,h1,h2,h3,h4,h5⟩:=(show ObjOk P w H h a (.dT kvs) from ZbJ ok e);refine ⟨z,y,xs,r,o,es,ep,h1,h2,h3,h4,λx hx=>?_,h5⟩;have all:∀{l:List (List Key×V)}{m:List (List Key×Addr×Value)},KT H l m->∀x∈m,(tupleKind (Gz P w)).is h x.1 x.2.1:=by
  intro l m q
  induction q with
  | nil=>intro x hx;exact nomatch hx
  | @cons p q ps qs hq t ih=>
   intro x hx;rcases List.mem_cons.mp hx with e | hx
   ·subst e;exact key_of ok (by rw [<-hq.1];exact hq.2.1)
   ·exact ih x hx
 exact all r x hx
theorem ZbK {kvs:List (List Key×V)}(ok:HOk P w H h)(e:H a=some (.dT kvs)):kvs.length<=sizeLine/\(a == sysModules)=false /\
  ∃xs,KT H kvs xs/\h.DictOfH (tupleKind (Gz P w)) a xs:=Vr ok (.inl e)
end
def DGet (H:Hp)(a:Addr)(y:V)(r:Option V):Prop:=
 (∃kvs k,Rd H a (.dK kvs)/\y=kV k/\r=GZ kvs k)\/∃kvs k b,Rd H a (.dT kvs)/\y=.ref b/\H b=some (.tup (k.map kV))/\r=GZ kvs k
def DPut (H:Hp)(a:Addr)(y v:V)(H':Hp):Prop:=
 (∃kvs k,H a=some (.dK kvs)/\y=kV k/\kvs.length<sizeLine/\H'=upd H a (.dK (Ol kvs k v))) \/
 ∃kvs k b,H a=some (.dT kvs)/\y=.ref b/\H b=some (.tup (k.map kV))/\kvs.length<sizeLine/\H'=upd H a (.dT (Ol kvs k v))
theorem DGet.k {H:Hp}{a:Addr}{kvs:List (Key×V)}{k:Key}(e:H a=some (.dK kvs)):DGet H a (kV k) (GZ kvs k):=.inl ⟨kvs,k,.inl e,rfl,rfl⟩
theorem DGet.t {H:Hp}{a b:Addr}{kvs:List (List Key×V)}{k:List Key}(e:H a=some (.dT kvs))(eb:H b=some (.tup (k.map kV))):DGet H a (.ref b) (GZ kvs k):=.inr ⟨kvs,k,b,.inl e,rfl,eb,rfl⟩
theorem DPut.k {H:Hp}{a:Addr}{kvs:List (Key×V)}{k:Key}{v:V}(e:H a=some (.dK kvs))(hl:kvs.length<sizeLine):DPut H a (kV k) v (upd H a (.dK (Ol kvs k v))):=.inl ⟨kvs,k,e,rfl,hl,rfl⟩
theorem DPut.t {H:Hp}{a b:Addr}{kvs:List (List Key×V)}{k:List Key}{v:V}(e:H a=some (.dT kvs))(eb:H b=some (.tup (k.map kV)))(hl:kvs.length<sizeLine) :
  DPut H a (.ref b) v (upd H a (.dT (Ol kvs k v))):=.inr ⟨kvs,k,b,e,rfl,eb,hl,rfl⟩
section
variable {X:Cx}{qQ:List (Addr×Obj)}{σ:St}{H:Hp}{s:Shared}{a:Addr}{y v:V}{u r:Value}{o:Option V}{A:Around}{E:Value->Shared->Prop}
theorem Inv.big (I:Inv X qQ σ H s):sysModules<s.heap.objs.size:=by
 have h:mainGlobals<s.heap.objs.size:=(I.mod.glob.keeps I.bk).lt;exact Nat.lt_trans (by decide) h
theorem Xx {Q:Value->Shared->Prop}(hu:A.units+1<cLine)(I:Inv X qQ σ H s)(g:DGet H a y (some v))(ry:RelV y u)(h:∀w' s',Inv X qQ σ H s'->RelV v w'->Q w' s') :
  wpAny (model X.prog X.w) A (getItem (.ref a) u) Q E s:=by
 rcases g with ⟨kvs,k,e,ey,l⟩ | ⟨kvs,k,b,e,ey,eb,l⟩
 ·subst ey;obtain ⟨z,hd,vs,rel,dd⟩:=Ua I.hok e;obtain ⟨w',hw,rw'⟩:=RelO.some_of (v:=v) (o:=valueAt vs k) (by rw [l];exact rel.val k);exact wpAny_getItem_of (WD ry) dd.mapOf hw (h w' _ (I.tok _) rw')
 ·subst ey;cases (show u=Value.ref b from ry);obtain ⟨z,hd,xs,rel,dd⟩:=Vr I.hok e;obtain ⟨w',hw,rw'⟩:=RelO.some_of (v:=v) (o:=(atKey xs k).map (·.2)) (by rw [l];exact rel.val k);obtain ⟨p,hp,hp2⟩:=Option.map_eq_some_iff.mp hw;refine wpAny_getItem_heap (tupleKind_room_in1 hu) (key_of I.hok eb) dd hp ?_;rw [hp2];exact h w' _ (I.tok _) rw'
theorem ZeE {Q:Value->Shared->Prop}(hu:A.units+1<cLine)(I:Inv X qQ σ H s)(g:DGet H a y o)(ry:RelV y u)(h:∀s',Inv X qQ σ H s'->Q (.bool o.isSome) s') :
  wpAny (model X.prog X.w) A (compareOp .In u (.ref a)) Q E s:=by
 rcases g with ⟨kvs,k,e,ey,l⟩ | ⟨kvs,k,b,e,ey,eb,l⟩
 ·subst ey;obtain ⟨z,hd,vs,rel,dd⟩:=Ua I.hok e;refine wpAny_in_of (WD ry) hd dd.mapOf ?_;rw [<-(rel.val k).isSome_eq,<-l];exact h _ (I.tok _)
 ·subst ey;cases (show u=Value.ref b from ry);obtain ⟨z,hd,xs,rel,dd⟩:=Vr I.hok e;refine wpAny_in_heap (tupleKind_room_in1 hu) (key_of I.hok eb) hd dd ?_;have q:=(rel.val k).isSome_eq;rw [Option.isSome_map] at q;rw [<-q,<-l];exact h _ (I.tok _)
theorem Zax {Q:Value->Shared->Prop}(hu:A.units+1<cLine)(I:Inv X qQ σ H s)(g:DGet H a y o)(ry:RelV y u)(h:∀s',Inv X qQ σ H s'->Q (.bool (!o.isSome)) s') :
  wpAny (model X.prog X.w) A (compareOp .NotIn u (.ref a)) Q E s:=by
 rcases g with ⟨kvs,k,e,ey,l⟩ | ⟨kvs,k,b,e,ey,eb,l⟩
 ·subst ey;obtain ⟨z,hd,vs,rel,dd⟩:=Ua I.hok e;refine wpAny_notIn_of (WD ry) hd dd.mapOf ?_;rw [<-(rel.val k).isSome_eq,<-l];exact h _ (I.tok _)
 ·subst ey;cases (show u=Value.ref b from ry);obtain ⟨z,hd,xs,rel,dd⟩:=Vr I.hok e;refine wpAny_notIn_heap (tupleKind_room_in1 hu) (key_of I.hok eb) hd dd ?_;have q:=(rel.val k).isSome_eq;rw [Option.isSome_map] at q;rw [<-q,<-l];exact h _ (I.tok _)
theorem Vs {h':Heap}{t':Nat}{ob:HO}(I:Inv X qQ σ H s)(mu:Mut (H a))(hs:Heap.SameBut a s.heap h')(he:∃q,h'.get? a=some q)(new:ObjOk X.prog X.w (upd H a ob) h' a ob) :
  Inv X qQ σ (upd H a ob) { s with heap:=h',toks:=t' }:=
 I.write (x:=a) (e:=a) mu (.inl rfl) (λb q hb z=>(hs.2 b hb).trans z) he new
theorem ZbL {P:Program}{w:World}{H':Hp}{h':Heap}{kvs:List (Key×V)}{vs:List (Key×Value)}(z:kvs.length<=sizeLine)(hd:(a == sysModules)=false)(rel:KV kvs vs)(dd:h'.DictOf (Gz P w) a vs) :
  ObjOk P w H' h' a (.dK kvs):=⟨z,hd,vs,rel,dd⟩
theorem Xy {H':Hp}{Q:Unit->Shared->Prop}(hu:A.units+1<cLine)(I:Inv X qQ σ H s)(g:DPut H a y v H')(ry:RelV y u)(rv:RelV v r)(h:∀s',Inv X qQ σ H' s'->Q () s') :
  wpAny (model X.prog X.w) A (setItem (.ref a) u r) Q E s:=by
 rcases g with ⟨kvs,k,e,ey,l,eH⟩ | ⟨kvs,k,b,e,ey,eb,l,eH⟩
 ·subst ey eH;obtain ⟨z,hd,vs,rel,dd⟩:=Zdc I.hok e;have hz:vs.length<=sizeLine:=by rw [<-rel.length];exact z
  have hl:(Ol kvs k v).length<=sizeLine:=by have:=G7 kvs k v;lia
  refine wpAny_setItem_pairs (hsz:=hz) (WD ry) dd λh' dd' hs=>h _ ?_;have he:∃q,h'.get? a=some q:=let ⟨q,_,_,hq,_⟩:=dd';⟨q,hq⟩;exact Vs I (by rw [e];exact True.intro) hs he (ZbL hl hd (rel.put k rv) dd')
 ·subst ey eH;cases (show u=Value.ref b from ry);obtain ⟨z,hd,xs,rel,dd⟩:=ZbK I.hok e;have hz:xs.length<=sizeLine:=by rw [<-Paired.length rel];exact z
  have hl:(Ol kvs k v).length<=sizeLine:=by have:=G7 kvs k v;lia
  refine wpAny_setItem_heap (hsz:=hz) (tupleKind_room_in1 hu) (key_of I.hok eb) dd λh' dd' hs=>h _ ?_;obtain ⟨q,es,ep,hq,h2,h3,h4,_,h5⟩:=dd';refine Vs I (by rw [e];exact True.intro) hs ⟨q,hq⟩ ⟨hl,hd,_,(rel.put k eb rv).keeps λc ys ec=>?_,q,es,ep,hq,h2,h3,h4,h5⟩;rw [Go (GV ec e (λz=>nomatch z))];exact ec
end
def Zd4 (i:Expr):Prop:=∀ov iv,subscripted i false ov iv=operate [ov,iv] (getItem ov iv)
theorem Zay {prog:Program}{w:World}{A:Around}{E:Value->Shared->Prop}{s:Shared}{env:Env}{value slice:Expr}{pos:Pos}{T id:String}{Q:Value->Shared->Prop}(hl:typeLookup (.type T) "__getitem__" = pure (some (.builtin id)))(hs:Zd4 slice)(h:wpAny (model prog w) A (eval value env) (λo s₁=>wpAny (model prog w) A (eval slice env) (λi s₂=>s₂.TypeIs o T/\wpAny (model prog w) A (getItem o i) Q E s₂) E s₁) E s) :
  wpAny (model prog w) A (eval (.Subscript value slice pos) env) Q E s:=by
 refine Subscript_ (wpAny_mono h (λo s₁ h₁=>wpAny_mono h₁ (λi s₂ h₂=>?_) λ_ _ x=>x) λ_ _ x=>x);obtain ⟨hT,h₂⟩:=h₂;unfold subscriptTail;refine wpAny_bind ?_;rw [getitemInPython_of_ne hT.not_modules];refine wpAny_bind (wpAny_specialOf hT hl ?_);have fin:wpAny (model prog w) A (subscripted slice false o i) (λr s₃=>wpAny (model prog w) A (letTemporaryGo value o r >>= λ_=>pure r) Q E s₃) E s₂:=by
  rw [hs o i];exact wpAny_operating (wpAny_mono h₂ (λr s₃ h₃=>wpAny_bind (wpAny_letTemporaryGo (wpAny_pure h₃))) λ_ _ x=>x)
 first
  | exact wpAny_pure (wpAny_bind fin)
  | exact wpAny_bind (wpAny_pure (wpAny_bind fin))
  | exact wpAny_bind fin
theorem Vt {X:Cx}{qQ:List (Addr×Obj)}{σ:St}{H:Hp}{s:Shared}{a:Addr}{y:V}{o:Option V}(I:Inv X qQ σ H s)(g:DGet H a y o):s.TypeIs (.ref a) "dict" := by
 rcases g with ⟨kvs,k,e,_,_⟩ | ⟨kvs,k,b,e,_,_,_⟩
 ·obtain ⟨_,_,vs,_,dd⟩:=Ua I.hok e;exact dd.typeIs
 ·obtain ⟨_,_,xs,_,dd⟩:=Vr I.hok e;exact dd.typeIs
def Zdd (td ty:TE):TE:=λσ H Q=>td σ H λx H1=>ty σ H1 λy H2=>∃a v,x=.ref a/\DGet H2 a y (some v)/\Q v H2
def ZeF (ty td:TE):TE:=λσ H Q=>ty σ H λy H1=>td σ H1 λx H2=>∃a o,x=.ref a/\DGet H2 a y o/\Q (.bl o.isSome) H2
def Zaz (ty td:TE):TE:=λσ H Q=>ty σ H λy H1=>td σ H1 λx H2=>∃a o,x=.ref a/\DGet H2 a y o/\Q (.bl (!o.isSome)) H2
def Zde (td ty tv:TE):TS:=λD σ H=>tv σ H λv H1=>td σ H1 λx H2=>ty σ H2 λy H3=>∃a H4,x=.ref a/\DPut H3 a y v H4/\D.nx σ H4
section
variable {X:Cx}{o i e value:Expr}{pos pos' tpos:Pos}{td ty tv:TE}
theorem Jy (hu:X.A.units+1<cLine)(ho:PE X o td)(hi:PE X i ty)(hs:Zd4 i):PE X (.Subscript o i pos) (Zdd td ty):=by
 intro qQ s σ H Q I h;refine Zay PySem.F.slot_dict_getitem.lookup hs (thn (ho qQ s σ H _ I h) λu s1 ⟨x,H1,I1,rx,q1⟩=>thn (hi qQ s1 σ H1 _ I1 q1) λiv s2 ⟨y,H2,I2,ry,a,v,ex,g,q2⟩=>?_);subst ex;obtain rfl:u=Value.ref a:=rx;exact ⟨Vt I2 g,Xx hu I2 g ry λw' s3 I3 rw'=>⟨v,H2,I3,rw',q2⟩⟩
theorem ZS (hu:X.A.units+1<cLine)(hi:PE X i ty)(ho:PE X o td):PC X .In i o (ZeF ty td):=by
 intro qQ s σ H Q I h;refine thn (hi qQ s σ H _ I h) λiv s1 ⟨y,H1,I1,ry,q1⟩=>thn (ho qQ s1 σ H1 _ I1 q1) λu s2 ⟨x,H2,I2,rx,a,ov,ex,g,q2⟩=>?_;subst ex;obtain rfl:u=Value.ref a:=rx;exact ZeE hu I2 g ry λs3 I3=>⟨.bl ov.isSome,H2,I3,rfl,q2⟩
theorem Xz (hu:X.A.units+1<cLine)(hi:PE X i ty)(ho:PE X o td):PC X .NotIn i o (Zaz ty td):=by
 intro qQ s σ H Q I h;refine thn (hi qQ s σ H _ I h) λiv s1 ⟨y,H1,I1,ry,q1⟩=>thn (ho qQ s1 σ H1 _ I1 q1) λu s2 ⟨x,H2,I2,rx,a,ov,ex,g,q2⟩=>?_;subst ex;obtain rfl:u=Value.ref a:=rx;exact Zax hu I2 g ry λs3 I3=>⟨.bl (!ov.isSome),H2,I3,rfl,q2⟩
theorem JS (hu:X.A.units+1<cLine)(ho:PE X o td)(hi:PE X i ty)(hv:PE X value tv)(hs:swapsWith value (some (.Subscript o i pos')) pos.line X.env=pure false) :
  PS X (.Assign [.Subscript o i pos'] value pos) (Zde td ty tv):=by
 intro qQ s σ H D I h;refine wpAny_Assign_Subscript (thn (hv qQ s σ H _ I h) λr s1 ⟨v,H1,I1,rv,q1⟩=>thn (ho qQ s1 σ H1 _ I1 q1) λu s2 ⟨x,H2,I2,rx,q2⟩=>thn (hi qQ s2 σ H2 _ I2 q2) λiv s3 ⟨y,H3,I3,ry,a,H4,ex,g,q3⟩=>?_) hs;subst ex;obtain rfl:u=Value.ref a:=rx;exact Xy hu I3 g ry rv λs4 I4=>⟨σ,H4,I4,q3⟩
end
theorem V2 {P:Program}{w:World}{H:Hp}(h:Heap)(hb:sysModules<h.objs.size):ObjOk P w H (h.push { cls:=.type "dict", data:=.dict #[] }) h.objs.size (.dK []):=
 ⟨Nat.zero_le _,beq_eq_false_iff_ne.mpr (Ne.symm (Nat.ne_of_lt hb)),[],.nil,Heap.DictOf.new h⟩
theorem Y1 {P:Program}{w:World}{H:Hp}(h:Heap)(hb:sysModules<h.objs.size):ObjOk P w H (h.push { cls:=.type "dict", data:=.dict #[] }) h.objs.size (.dT []):=
 ⟨Nat.zero_le _,beq_eq_false_iff_ne.mpr (Ne.symm (Nat.ne_of_lt hb)),[],.nil,_,#[],0,Heap.get?_push_size _ rfl,⟨rfl,rfl,rfl⟩,rfl,rfl,List.nodup_nil⟩
def ZbM:TE:=λ_ H Q=>∀p,H p=none->Q (.ref p) (upd H p (.dK []))
def ZbN:TE:=λ_ H Q=>∀p,H p=none->Q (.ref p) (upd H p (.dT []))
section
variable {X:Cx}{pos:Pos}
theorem V3:PE X (.Dict [] [] pos) ZbM:=λqQ s σ H Q I h=>
 wpAny_Dict_empty ⟨.ref s.heap.objs.size,_,I.laid (a:=s.heap.objs.size) (o:=.dK []) (t':=s.toks) (λ_ _ q=>Heap.get?_push_of_some _ q) (Nat.le_refl _) (V2 s.heap I.big),rfl,h _ (I.hok.fresh (Nat.le_refl _))⟩
theorem Ot:PE X (.Dict [] [] pos) ZbN:=λqQ s σ H Q I h=>
 wpAny_Dict_empty ⟨.ref s.heap.objs.size,_,I.laid (a:=s.heap.objs.size) (o:=.dT []) (t':=s.toks) (λ_ _ q=>Heap.get?_push_of_some _ q) (Nat.le_refl _) (Y1 s.heap I.big),rfl,h _ (I.hok.fresh (Nat.le_refl _))⟩
end
structure M2 (X:Cx)(o:Expr)(m:Str)(apos:Pos)(e f:Expr)(qK:Pos):Prop where
 base:attributeBase o m X.env (eval o X.env)=eval o X.env
 few:((backTo qK (starEach [e,f] X.env)).all (λx=>!x.1) && (backToKw qK (keywordEach [] X.env)).all (λx=>x.1.isSome)
  && decide (([e,f]:List Expr).length+([]:List Keyword).length+(if ([]:List Keyword).isEmpty then 0 else 1)<30))=true
 line:(apos.endLine == qK.line)=true
 trees:backTo qK (starEach [e,f] X.env)=[(false,eval e X.env),(false,eval f X.env)]
def IsD (H:Hp)(a:Addr):Prop:=(∃kvs,Rd H a (.dK kvs))\/∃kvs,Rd H a (.dT kvs)
theorem XA {X:Cx}{qQ:List (Addr×Obj)}{σ:St}{H:Hp}{s:Shared}{a:Addr}(I:Inv X qQ σ H s)(d:IsD H a) :
  s.TypeIs (.ref a) "dict" /\ (∀b,Value.ref a=.ref b->∃ob,s.heap.get? b=some ob/\ob.dict=none)/\(a == sysModules)=false:=by
 rcases d with ⟨kvs,e⟩ | ⟨kvs,e⟩
 ·obtain ⟨_,hd,vs,_,dd⟩:=Ua I.hok e;refine ⟨dd.typeIs,λb q=>?_,hd⟩;cases q;obtain ⟨ob,_,_,h1,h2,_⟩:=dd;exact ⟨ob,h1,h2.2.1⟩
 ·obtain ⟨_,hd,xs,_,dd⟩:=Vr I.hok e;refine ⟨dd.typeIs,λb q=>?_,hd⟩;cases q;obtain ⟨ob,_,_,h1,h2,_⟩:=dd;exact ⟨ob,h1,h2.2.1⟩
section
variable {X:Cx}{qQ:List (Addr×Obj)}{σ:St}{H:Hp}{s:Shared}{a:Addr}{y d:V}{u r:Value}{o:Option V}{A:Around}{E:Value->Shared->Prop}
theorem ZbO {Q:Value->Shared->Prop}(hu:A.units+1<cLine)(I:Inv X qQ σ H s)(g:DGet H a y o)(ry:RelV y u)(rd:RelV d r)(h:∀w' s',Inv X qQ σ H s'->RelV (o.getD d) w'->Q w' s') :
  wpAny (model X.prog X.w) A (call (.builtin "dict.get") [.ref a,u,r]) Q E s:=by
 rcases g with ⟨kvs,k,e,ey,l⟩ | ⟨kvs,k,b,e,ey,eb,l⟩
 ·subst ey;obtain ⟨z,hd,vs,rel,dd⟩:=Ua I.hok e;refine call_meetsIn PySem.F.slot_dict_get dd.typeIs PySem.F.entry_dict_get (PySem.F.args_dict_get_3 _ _ _) (meets_dict_get_default (Gz X.prog X.w) a (WD ry) hd r) ⟨_,dd.mapOf,h _ _ (I.tok _) ?_⟩;rw [l];exact (rel.val k).getD rd
 ·subst ey;cases (show u=Value.ref b from ry);obtain ⟨z,hd,xs,rel,dd⟩:=Vr I.hok e;refine call_meetsIn PySem.F.slot_dict_get dd.typeIs PySem.F.entry_dict_get (PySem.F.args_dict_get_3 _ _ _) (meetsH_dict_get_default (tupleKind (Gz X.prog X.w)) a b hd r) ⟨tupleKind_room_in1 hu,k,xs,key_of I.hok eb,dd,h _ _ (I.tok _) ?_⟩;rw [l];exact (rel.val k).getD rd
end
def ZbP (td ty tx:TE):TE:=λσ H Q=>td σ H λx H1=>∃a,x=.ref a/\IsD H1 a/\ty σ H1 λy H2=>tx σ H2 λz H3=>∃o,DGet H3 a y o/\Q (o.getD z) H3
section
variable {X:Cx}{o e f:Expr}{apos qK:Pos}{td ty tx:TE}
theorem Ub (hu:X.A.units+1<cLine)(ho:PE X o td)(he:PE X e ty)(hf:PE X f tx)(m:M2 X o "get" apos e f qK):PE X (.Call (.Attribute o "get" apos) [e,f] [] qK) (ZbP td ty tx):=by
 intro qQ s σ H Q I h;refine wpAny_Call_method m.base m.few m.line PySem.F.plainAttrs_dict PySem.F.slot_dict_get PySem.F.type_dict_get (thn (ho qQ s σ H _ I h) λu s1 ⟨x,H1,I1,rx,a,ex,d,q1⟩=>?_);subst ex;obtain rfl:u=Value.ref a:=rx;obtain ⟨t1,t2,_⟩:=XA I1 d;refine ⟨t1,t2,?_⟩;rw [m.trees];refine Calls.callWith_builtin rfl (Calls.evalArgs_plain (Calls.spliced_cons (thn (he qQ s1 σ H1 _ I1 q1) λiv s2 ⟨y,H2,I2,ry,q2⟩=>
  Calls.spliced_cons (thn (hf qQ s2 σ H2 _ I2 q2) λfv s3 ⟨z,H3,I3,rz,ov,g,q3⟩=>Calls.spliced_nil ?_))))
 exact ZbO hu I3 g ry rz λw' s4 I4 rw'=>⟨_,H3,I4,rw',q3⟩
end
end L2
namespace L2
open PySem PySem.Spec PyProof.Rows
theorem V4 {K:PySem.W.Frag}{a:Addr}{xs:List V}{g:TG}{tb:TS}{D:Wx}{σ:St}{H:Hp}(Pv:Nat->St->Hp->Prop)(h0:Pv 0 σ H)(hl:∀i σ H,i<=xs.length->Pv i σ H->SqL K H a xs)(hs:∀i x σ H T,xs[i]?=some x->Pv i σ H->H T=none->g (.ref T) σ (upd H T (.tup [.int (i:Nat),x])) λσ2 H2=>tb { D with nx:=Pv (i+1),ct:=Pv (i+1),bk:=D.nx } σ2 H2)(hd:∀ σ H,Pv xs.length σ H->D.nx σ H) :
  ∃W:Nat->Nat->St->Hp->Prop,(∃m,W 0 m σ H)/\∀i m σ H,W i m σ H ->
   ((Ite K a).stop i H/\D.nx σ H)\/((Ite K a).go i H/\∃N:St->Hp->Prop,(∀ σ' H',N σ' H'->∃m',m'<m/\W (i+1) m' σ' H')/\∀x H',(Ite K a).yld i H x H'->g x σ H' λσ2 H2=>tb { D with nx:=N,ct:=N,bk:=D.nx } σ2 H2):=by
 refine ⟨λi m σ H=>m=xs.length-i/\i<=xs.length/\Pv i σ H,⟨xs.length,by simp,Nat.zero_le _,h0⟩,?_⟩;rintro i m σ H ⟨rfl,hi,p⟩;have q:=hl i σ H hi p;by_cases hlt:i<xs.length
 ·refine .inr ⟨⟨xs,xs[i],q,by simp [hlt]⟩,Pv (i+1),λσ' H' p'=>⟨xs.length-(i+1),by lia,rfl,hlt,p'⟩,λx H' y=>?_⟩;obtain ⟨T,y',rfl,hT,rfl,hy⟩:=y;exact hs i y' σ H T (hy xs q) p hT
 ·have e:i=xs.length:=by lia
  subst e;exact .inl ⟨⟨xs,q,Nat.le_refl _⟩,hd σ H p⟩
end L2
namespace L2
open PySem PySem.Spec PyProof.Rows
def Jz:Bool->Keyed->Array Keyed->Nat->Nat->Nat->StateT SortSt Sem (Option Nat):=sortPriv% PySem.Builtin.gallop
def Uc:Array Keyed->Array Keyed->StateT SortSt Sem (Array Keyed):=sortPriv% PySem.Builtin.mergeLo
def Ud:Array Keyed->Array Keyed->StateT SortSt Sem (Array Keyed):=sortPriv% PySem.Builtin.mergeHi
def OG:Nat->StateT SortSt Sem Unit:=sortPriv% PySem.Builtin.setMinGallop
def Ob (left:Bool)(key:Keyed)(arr:Array Keyed)(base i:Nat):StateT SortSt Sem (Option Bool):=do
 let x <- elem' arr (base+i)
 if left then lt' x key else return (<- lt' key x).map (!·)
def J2 (left:Bool)(key:Keyed)(arr:Array Keyed)(base n lo hi:Nat):StateT SortSt Sem (Option Nat):=do
 let mut lo:=lo
 let mut hi:=hi
 for _ in [:n] do
  if lo>=hi then break
  let m:=lo+(hi-lo) / 2
  let some more <- Ob left key arr base m | return none
  if more then lo:=m+1
  else hi:=m
 return some hi
def Ue (left:Bool)(key:Keyed)(arr:Array Keyed)(base n hint:Nat):StateT SortSt Sem (Option Nat):=do
 let mut lastofs:=0
 let mut ofs:=1
 let maxofs:=n-hint
 for _ in [:n] do
  if ofs>=maxofs then break
  let some more <- Ob left key arr base (hint+ofs) | return none
  if !more then break
  lastofs:=ofs
  ofs:=2 * ofs+1
 J2 left key arr base n (hint+lastofs+1) (hint+min ofs maxofs)
def Oc (left:Bool)(key:Keyed)(arr:Array Keyed)(base n hint:Nat):StateT SortSt Sem (Option Nat):=do
 let mut lastofs:=0
 let mut ofs:=1
 let maxofs:=hint+1
 for _ in [:n] do
  if ofs>=maxofs then break
  let some found <- Ob left key arr base (hint-ofs) | return none
  if found then break
  lastofs:=ofs
  ofs:=2 * ofs+1
 J2 left key arr base n (hint+1-min ofs maxofs) (hint-lastofs)
theorem WE (left:Bool)(key:Keyed)(arr:Array Keyed)(base n hint:Nat):Jz left key arr base n hint=(do
  let some right <- Ob left key arr base hint | return none
  if right then Ue left key arr base n hint else Oc left key arr base n hint):=rfl
section
variable {M:Model}{A:Around}{E:Value->Shared->Prop}{s:Shared}{kd:SortKind}{b:Keyed->Keyed->Bool}{good:Keyed->Prop}
structure WO (b:Keyed->Keyed->Bool):Prop where
 irr:∀x,b x x=false
 tr:∀x y z,b x y=true->b y z=true->b x z=true
 neg:∀x y z,b x z=true->b x y=true\/b y z=true
def Oj (M:Model)(A:Around)(E:Value->Shared->Prop)(s:Shared)(kd:SortKind)(b:Keyed->Keyed->Bool)(good:Keyed->Prop):Prop:=
 ∀(x y:Keyed)(st:SortSt)(Q:Option Bool->SortSt->Prop),good x->good y->kindOf st=kd->Q (some (b x y)) st->wpS M A E s (lt' x y) Q st
theorem Gv {arr:Array Keyed}{i:Nat}{x:Keyed}{st:SortSt}{Q:Keyed->SortSt->Prop}(h:arr[i]?=some x)(q:Q x st):wpS M A E s (elem' arr i) Q st:=by
 rw [elem'_eq,h];exact wpS_pure q
def byd (b:Keyed->Keyed->Bool)(left:Bool)(key:Keyed)(arr:Array Keyed)(base i:Nat):Bool:=match arr[base+i]? with
 | some x=>if left then b x key else !b key x
 | none=>false
theorem JJ {left:Bool}{key:Keyed}{arr:Array Keyed}{base i:Nat}{x:Keyed}{st:SortSt}{Q:Option Bool->SortSt->Prop}(L:Oj M A E s kd b good)(hk:good key)(hx:arr[base+i]?=some x)(gx:good x)(hs:kindOf st=kd)(q:Q (some (byd b left key arr base i)) st):wpS M A E s (Ob left key arr base i) Q st:=by
 unfold Ob;refine wpS_bind (Gv hx ?_);unfold byd at q;rw [hx] at q;cases left with
 | true=>exact L x key st Q gx hk hs q
 | false=>exact wpS_bind (L key x st _ hk gx hs (wpS_pure q))
section
variable {left:Bool}{key:Keyed}{arr:Array Keyed}{base n hint:Nat}{st:SortSt}{Q:Option Nat->SortSt->Prop}
structure Gal (b:Keyed->Keyed->Bool)(good:Keyed->Prop)(left:Bool)(key:Keyed)(arr:Array Keyed)(base n:Nat):Prop where
 gk:good key
 it:∀i,i<n->∃x,arr[base+i]?=some x/\good x
 mono:∀i j,i<=j->j<n->byd b left key arr base j=true->byd b left key arr base i=true
theorem GI {lo hi:Nat}(L:Oj M A E s kd b good)(G:Gal b good left key arr base n)(hs:kindOf st=kd)(h1:lo<=hi)(h2:hi<=n)(h3:∀i,i<lo->byd b left key arr base i=true)(h4:∀i,hi<=i->i<n->byd b left key arr base i=false)(q:∀k,k<=n->(∀i,i<k->byd b left key arr base i=true)->(∀i,k<=i->i<n->byd b left key arr base i=false)->Q (some k) st):wpS M A E s (J2 left key arr base n lo hi) Q st:=by
 unfold J2;refine wpS_bind (wpS_forRange (λk c st'=>st'=st/\∃lo hi,c=(none,lo,hi)/\lo<=hi/\hi<=n/\hi-lo<=n-k/\(∀i,i<lo->byd b left key arr base i=true)/\(∀i,hi<=i->i<n->byd b left key arr base i=false)) ?_ ?_ ⟨rfl,lo,hi,rfl,h1,h2,by lia,h3,h4⟩)
 ·rintro k c st' _ hk ⟨rfl,lo,hi,rfl,h1,h2,h5,h3,h4⟩;dsimp only;split
  ·rename_i h6;have:lo=hi:=by lia
   subst this;refine wpS_pure ?_;dsimp only;exact wpS_pure (q lo h2 h3 h4)
  ·rename_i h6;obtain ⟨x,hx,gx⟩:=G.it (lo+(hi-lo) / 2) (by lia);refine wpS_bind (JJ L G.gk hx gx hs ?_);dsimp only;cases hb:byd b left key arr base (lo+(hi-lo) / 2) with
   | true=>
    refine wpS_pure ⟨rfl,_,_,rfl,by lia,h2,by lia,λi hi'=>G.mono i (lo+(hi-lo) / 2) (by lia) (by lia) hb,h4⟩
   | false=>
    refine wpS_pure ⟨rfl,_,_,rfl,by lia,by lia,by lia,h3,λi h8 h9=>?_⟩;cases hc:byd b left key arr base i with
    | false=>rfl
    | true=>rw [G.mono _ i h8 h9 hc] at hb;cases hb
 ·rintro c st' ⟨rfl,lo,hi,rfl,h1,h2,h5,h3,h4⟩;have:lo=hi:=by simp at h5;lia
  subst this;exact wpS_pure (q lo h2 h3 h4)
theorem G4 (L:Oj M A E s kd b good)(G:Gal b good left key arr base n)(hs:kindOf st=kd)(hn:hint<n)(q:∀k,k<=n->(∀i,i<k->byd b left key arr base i=true)->(∀i,k<=i->i<n->byd b left key arr base i=false)->Q (some k) st):wpS M A E s (Jz left key arr base n hint) Q st:=by
 rw [WE];obtain ⟨x,hx,gx⟩:=G.it hint hn;have anti:∀i j,byd b left key arr base i=false->i<=j->j<n->byd b left key arr base j=false:=λi j h1 h2 h3=>by
  cases hc:byd b left key arr base j with
  | false=>rfl
  | true=>rw [G.mono _ j h2 h3 hc] at h1;cases h1
 refine wpS_bind (JJ L G.gk hx gx hs ?_);cases hb:byd b left key arr base hint with
 | true=>
  show wpS M A E s (Ue left key arr base n hint) Q st;unfold Ue;refine wpS_bind (wpS_forRange (λk c st'=>st'=st/\∃last ofs,c=(none,last,ofs)/\last<ofs/\k+1<=ofs/\hint+last<n/\byd b left key arr base (hint+last)=true) ?_ ?_ ⟨rfl,0,1,rfl,by lia,by lia,hn,hb⟩)
  ·rintro k c st' _ hk ⟨rfl,last,ofs,rfl,h1,h2,h3,h4⟩;dsimp only;split
   ·rename_i h5;refine wpS_pure ?_;dsimp only;rw [Nat.min_eq_right h5];exact GI L G hs (by lia) (by lia) (λi hi=>G.mono i _ (show i<=hint+last by lia) h3 h4) (λi h6 h7=>by lia) q
   ·rename_i h5;obtain ⟨y,hy,gy⟩:=G.it (hint+ofs) (by lia);refine wpS_bind (JJ L G.gk hy gy hs ?_);dsimp only;cases hb2:byd b left key arr base (hint+ofs) with
    | true=>exact wpS_pure ⟨rfl,_,_,rfl,by lia,by lia,by lia,hb2⟩
    | false=>
     refine wpS_pure ?_;dsimp only;rw [Nat.min_eq_left (by lia)];exact GI L G hs (by lia) (by lia) (λi hi=>G.mono i _ (show i<=hint+last by lia) h3 h4) (λi h6 h7=>anti _ i hb2 h6 h7) q
  ·rintro c st' ⟨rfl,last,ofs,rfl,h1,h2,h3,h4⟩;dsimp only;have h5:n-hint<=ofs:=by simp at h2;lia
   rw [Nat.min_eq_right h5];exact GI L G hs (by lia) (by lia) (λi hi=>G.mono i _ (show i<=hint+last by lia) h3 h4) (λi h6 h7=>by lia) q
 | false=>
  show wpS M A E s (Oc left key arr base n hint) Q st;unfold Oc;refine wpS_bind (wpS_forRange (λk c st'=>st'=st/\∃last ofs,c=(none,last,ofs)/\last<ofs/\k+1<=ofs/\last<=hint/\byd b left key arr base (hint-last)=false) ?_ ?_ ⟨rfl,0,1,rfl,by lia,by lia,by lia,hb⟩)
  ·rintro k c st' _ hk ⟨rfl,last,ofs,rfl,h1,h2,h3,h4⟩;dsimp only;split
   ·rename_i h5;refine wpS_pure ?_;dsimp only;rw [Nat.min_eq_right h5];exact GI L G hs (by lia) (by lia) (λi hi=>by lia) (λi h6 h7=>anti _ i h4 h6 h7) q
   ·rename_i h5;obtain ⟨y,hy,gy⟩:=G.it (hint-ofs) (by lia);refine wpS_bind (JJ L G.gk hy gy hs ?_);dsimp only;cases hb2:byd b left key arr base (hint-ofs) with
    | false=>exact wpS_pure ⟨rfl,_,_,rfl,by lia,by lia,by lia,hb2⟩
    | true=>
     refine wpS_pure ?_;dsimp only;rw [Nat.min_eq_left (by lia)];exact GI L G hs (by lia) (by lia) (λi hi=>G.mono i (hint-ofs) (by lia) (by lia) hb2) (λi h6 h7=>anti _ i h4 h6 h7) q
  ·rintro c st' ⟨rfl,last,ofs,rfl,h1,h2,h3,h4⟩;dsimp only;have h5:hint+1<=ofs:=by simp at h2;lia
   rw [Nat.min_eq_right h5];exact GI L G hs (by lia) (by lia) (λi hi=>by lia) (λi h6 h7=>anti _ i h4 h6 h7) q
end
end
end L2
namespace L2
open PySem PySem.Spec PyProof.Rows
abbrev MLs:=Option (Array Keyed)×Array Keyed×Nat×Nat×Nat×Nat
abbrev MLt:=Option (Array Keyed)×Array Keyed×Nat×Nat×Nat×Nat×Nat
def JO (a b out:Array Keyed)(ia ib:Nat):Array Keyed:=out++a.extract ia++b.extract ib
def O0 (a b out:Array Keyed)(ia ib:Nat):Array Keyed:=out++b.extract ib++a.extract ia
def Y2 (a b:Array Keyed)(mg:Nat):Nat->MLs->StateT SortSt Sem (ForInStep MLs):=λ_ r=>
 let out:=r.2.1;let ia:=r.2.2.1;let ib:=r.2.2.2.1;let qZ:=r.2.2.2.2.1;let qX:=r.2.2.2.2.2
 do
 let x <- elem' b ib
 let y <- elem' a ia
 match <- lt' x y with
 | some bWins=>
  if bWins=true then do
   let z <- elem' b ib
   let out:=out.push z
   let ib:=ib+1
   let qX:=qX+1
   let qZ:=0
   if (ib == b.size)=true then pure (.done (some (JO a b out ia ib),out,ia,ib,qZ,qX))
   else if qX>=mg then pure (.done (none,out,ia,ib,qZ,qX))
   else pure (.yield (none,out,ia,ib,qZ,qX))
  else do
   let z <- elem' a ia
   let out:=out.push z
   let ia:=ia+1
   let qZ:=qZ+1
   let qX:=0
   if (ia+1 == a.size)=true then pure (.done (some (O0 a b out ia ib),out,ia,ib,qZ,qX))
   else if qZ>=mg then pure (.done (none,out,ia,ib,qZ,qX))
   else pure (.yield (none,out,ia,ib,qZ,qX))
 | _=>pure (.done (some (JO a b out ia ib),out,ia,ib,qZ,qX))
def mlD (a b:Array Keyed)(qJ qZ k:Nat)(out:Array Keyed)(ia ib:Nat):StateT SortSt Sem (ForInStep MLt):=do
 let qX:=k
 let z <- elem' a ia
 let out:=out.push z
 let ia:=ia+1
 if (ia+1 == a.size)=true then pure (.done (some (O0 a b out ia ib),out,ia,ib,qJ,qZ,qX))
 else if (decide (qZ<7) && decide (qX<7))=true then pure (.done (none,out,ia,ib,qJ,qZ,qX))
 else pure (.yield (none,out,ia,ib,qJ,qZ,qX))
def mlC (a b:Array Keyed)(qJ qZ qX:Nat)(out:Array Keyed)(ia ib:Nat):StateT SortSt Sem (ForInStep MLt):=do
 let z <- elem' b ib
 let out:=out.push z
 let ib:=ib+1
 if (ib == b.size)=true then pure (.done (some (JO a b out ia ib),out,ia,ib,qJ,qZ,qX))
 else do
  let y <- elem' a ia
  match <- Jz true y b ib (b.size-ib) 0 with
  | some k=>
   let qX:=k
   if k > 0 then
    let out:=out++b.extract ib (ib+k)
    let ib:=ib+k
    if (ib == b.size)=true then pure (.done (some (JO a b out ia ib),out,ia,ib,qJ,qZ,qX))
    else mlD a b qJ qZ k out ia ib
   else mlD a b qJ qZ k out ia ib
  | _=>pure (.done (some (JO a b out ia ib),out,ia,ib,qJ,qZ,qX))
def mlB (a b:Array Keyed)(qJ qZ qX:Nat)(out:Array Keyed)(ia ib:Nat):StateT SortSt Sem (ForInStep MLt):=do
 OG qJ
 let x <- elem' b ib
 match <- Jz false x a ia (a.size-ia) 0 with
 | some k=>
  let qZ:=k
  if k > 0 then
   let out:=out++a.extract ia (ia+k)
   let ia:=ia+k
   if (ia+1 == a.size)=true then pure (.done (some (O0 a b out ia ib),out,ia,ib,qJ,qZ,qX))
   else if (ia == a.size)=true then pure (.done (some (JO a b out ia ib),out,ia,ib,qJ,qZ,qX))
   else mlC a b qJ qZ qX out ia ib
  else mlC a b qJ qZ qX out ia ib
 | _=>pure (.done (some (JO a b out ia ib),out,ia,ib,qJ,qZ,qX))
def Y3 (a b:Array Keyed):Nat->MLt->StateT SortSt Sem (ForInStep MLt):=λ_ r=>
 let out:=r.2.1;let ia:=r.2.2.1;let ib:=r.2.2.2.1;let qJ:=r.2.2.2.2.1;let qZ:=r.2.2.2.2.2.1;let qX:=r.2.2.2.2.2.2
 if qJ > 1 then mlB a b (qJ-1) qZ qX out ia ib else mlB a b qJ qZ qX out ia ib
abbrev MLo:=Option (Array Keyed)×Array Keyed×Nat×Nat×Nat
def Y4 (a b:Array Keyed):Nat->MLo->StateT SortSt Sem (ForInStep MLo):=λ_ r=>
 let out:=r.2.1;let ia:=r.2.2.1;let ib:=r.2.2.2.1;let qJ:=r.2.2.2.2
 do
 let r <- forIn [:a.size+b.size] ((none,out,ia,ib,0,0):MLs) (Y2 a b qJ)
 match r.1 with
 | some x=>pure (.done (some x,r.2.1,r.2.2.1,r.2.2.2.1,qJ))
 | none=>do
  liftM (rule "list.sort.gallop")
  let r <- forIn [:a.size+b.size] ((none,r.2.1,r.2.2.1,r.2.2.2.1,qJ+1,r.2.2.2.2.1,r.2.2.2.2.2):MLt) (Y3 a b)
  match r.1 with
  | some x=>pure (.done (some x,r.2.1,r.2.2.1,r.2.2.2.1,r.2.2.2.2.1))
  | none=>do
   OG (r.2.2.2.2.1+1)
   pure (.yield (none,r.2.1,r.2.2.1,r.2.2.2.1,r.2.2.2.2.1+1))
theorem GT {α β:Type}{m:StateT SortSt Sem α}{f g:α->StateT SortSt Sem β}(h:∀x,f x=g x):m >>= f=m >>= g:=by rw [funext h]
theorem Uf {α:Type}{c:Prop}[Decidable c]{x y u v:α}(h1:x=y)(h2:u=v):(if c then x else u)=if c then y else v:=by rw [h1,h2]
theorem OH {β:Type}{r:Std.Legacy.Range}{c:β}{f g:Nat->β->StateT SortSt Sem (ForInStep β)}(h:∀i x,f i x=g i x):forIn r c f=forIn r c g:=by rw [funext λi=>funext (h i)]
theorem Vu (a b:Array Keyed):Uc a b=(do
  liftM (rule "list.sort.merge-lo")
  let x <- elem' b 0
  let out:=#[x]
  if (1 == b.size)=true then pure (JO a b out 0 1)
  else if (0+1 == a.size)=true then pure (O0 a b out 0 1)
  else do
   let st <- get
   let r <- forIn [:a.size+b.size] ((none,out,0,1,gallopOf st):MLo) (Y4 a b)
   match r.1 with
   | some r=>pure r
   | none=>liftM (unsupported "internal:list.sort.merge-bound")):=by
 refine GT (m:=liftM (rule "list.sort.merge-lo")) λ_=>?_;refine GT (m:=elem' b 0) λx=>?_;refine Uf (c:=(1 == b.size)=true) rfl ?_;refine Uf (c:=(0+1 == a.size)=true) rfl ?_;refine GT (m:=get) λst=>?_;refine (congrArg (λm:StateT SortSt Sem MLo=>m >>= _) (OH (r:=[:a.size+b.size]) (c:=((none,#[x],0,1,gallopOf st):MLo)) (g:=Y4 a b) λi r=>?_)).trans ?_;rotate_left
 ·refine GT λr=>?_;obtain ⟨r1,r2⟩:=r;cases r1 <;> rfl
 unfold Y4;refine (congrArg (λm:StateT SortSt Sem MLs=>m >>= _) (OH (r:=[:a.size+b.size]) (g:=Y2 a b r.2.2.2.2) λi r=>rfl)).trans ?_;refine GT λq=>?_;obtain ⟨q1,q2⟩:=q;cases q1 with
 | some z=>rfl
 | none=>
  refine GT (m:=liftM (rule "list.sort.gallop")) λ_=>?_;refine (congrArg (λm:StateT SortSt Sem MLt=>m >>= _) (OH (r:=[:a.size+b.size]) (g:=Y3 a b) λi r=>rfl)).trans ?_;refine GT λq=>?_;obtain ⟨q1,q2⟩:=q;cases q1 <;> rfl
end L2
namespace L2
open PySem PySem.Spec PyProof.Rows
section
variable {b:Keyed->Keyed->Bool}
abbrev kle (b:Keyed->Keyed->Bool)(x y:Keyed):Prop:=b y x=false
theorem WO.le_trans (W:WO b){x y z:Keyed}(h1:kle b x y)(h2:kle b y z):kle b x z:=by
 cases h:b z x with
 | false=>exact h
 | true=>
  rcases W.neg z y x h with q | q
  ·rw [show b z y=false from h2] at q;cases q
  ·rw [show b y x=false from h1] at q;cases q
theorem WO.le_of_lt (W:WO b){x y:Keyed}(h:b x y=true):kle b x y:=by
 cases q:b y x with
 | false=>exact q
 | true=>
  have:=W.tr _ _ _ h q;rw [W.irr] at this;cases this
theorem WO.le_refl (W:WO b)(x:Keyed):kle b x x:=W.irr x
structure Mrg (b:Keyed->Keyed->Bool)(all out ra rb:List Keyed):Prop where
 perm:(out++ra++rb).Perm all
 so:out.Pairwise (kle b)
 le:∀x∈out,∀y∈ra++rb,kle b x y
 sa:ra.Pairwise (kle b)
 sb:rb.Pairwise (kle b)
theorem Mrg.len {all out ra rb:List Keyed}(h:Mrg b all out ra rb):out.length+ra.length+rb.length=all.length:=by
 have:=h.perm.length_eq;rw [List.length_append,List.length_append] at this;exact this
theorem Mrg.moveA {all out u ra rb:List Keyed}(h:Mrg b all out (u++ra) rb)(hu:∀x∈u,∀y∈rb,kle b x y):Mrg b all (out++u) ra rb:=by
 have sa:=List.pairwise_append.mp h.sa;refine ⟨by rw [List.append_assoc out u ra];exact h.perm,List.pairwise_append.mpr ⟨h.so,sa.1,λx hx y hy=>h.le x hx y (by simp [hy])⟩,λx hx y hy=>?_,sa.2.1,h.sb⟩;rcases List.mem_append.mp hx with hx | hx
 ·refine h.le x hx y ?_;rcases List.mem_append.mp hy with hy | hy
  ·simp [hy]
  ·simp [hy]
 ·rcases List.mem_append.mp hy with hy | hy
  ·exact sa.2.2 x hx y hy
  ·exact hu x hx y hy
theorem Mrg.moveB {all out u ra rb:List Keyed}(h:Mrg b all out ra (u++rb))(hu:∀x∈u,∀y∈ra,kle b x y):Mrg b all (out++u) ra rb:=by
 have sb:=List.pairwise_append.mp h.sb;refine ⟨?_,List.pairwise_append.mpr ⟨h.so,sb.1,λx hx y hy=>h.le x hx y (by simp [hy])⟩,λx hx y hy=>?_,h.sa,sb.2.1⟩
 ·refine List.Perm.trans ?_ h.perm;simp only [List.append_assoc];refine List.Perm.append_left _ ?_;rw [<-List.append_assoc,<-List.append_assoc];exact List.Perm.append_right _ List.perm_append_comm
 ·rcases List.mem_append.mp hx with hx | hx
  ·refine h.le x hx y ?_;rcases List.mem_append.mp hy with hy | hy
   ·simp [hy]
   ·simp [hy]
  ·rcases List.mem_append.mp hy with hy | hy
   ·exact hu x hx y hy
   ·exact sb.2.2 x hx y hy
def G0 (b:Keyed->Keyed->Bool)(all r:List Keyed):Prop:=r.Perm all/\r.Pairwise (kle b)
theorem Mrg.endA {all out ra rb:List Keyed}(h:Mrg b all out ra rb)(hz:∀x∈ra,∀y∈rb,kle b x y):G0 b all (out++ra++rb):=by
 refine ⟨h.perm,?_⟩;rw [List.append_assoc];exact List.pairwise_append.mpr ⟨h.so,List.pairwise_append.mpr ⟨h.sa,h.sb,hz⟩,h.le⟩
theorem Mrg.endB {all out ra rb:List Keyed}(h:Mrg b all out ra rb)(hz:∀x∈rb,∀y∈ra,kle b x y):G0 b all (out++rb++ra):=by
 refine ⟨?_,?_⟩
 ·refine List.Perm.trans ?_ h.perm;rw [List.append_assoc,List.append_assoc];exact List.Perm.append_left _ List.perm_append_comm
 ·rw [List.append_assoc];exact List.pairwise_append.mpr ⟨h.so,List.pairwise_append.mpr ⟨h.sb,h.sa,hz⟩,λx hx y hy=>h.le x hx y (by
   rcases List.mem_append.mp hy with hy | hy <;> simp [hy])⟩
end
theorem Ou (a:Array Keyed)(i:Nat):(a.extract i).toList=a.toList.drop i:=by
 rw [Array.toList_extract,List.extract_eq_take_drop,List.take_of_length_le];rw [List.length_drop];exact Nat.le_refl _
theorem V5 (a:Array Keyed)(i k:Nat):(a.extract i (i+k)).toList=(a.toList.drop i).take k:=by
 rw [Array.toList_extract,List.extract_eq_take_drop,Nat.add_sub_cancel_left]
theorem G8 {a:Array Keyed}{i:Nat}{x:Keyed}(h:a[i]?=some x):a.toList.drop i=x::a.toList.drop (i+1):=by
 rw [<-Array.getElem?_toList] at h;obtain ⟨h1,h2⟩:=List.getElem?_eq_some_iff.mp h;rw [List.drop_eq_getElem_cons h1,h2]
def SameG (st st':SortSt):Prop:=kindOf st'=kindOf st/\arrOf st'=arrOf st/\pendingOf st'=pendingOf st/\failedOf st'=failedOf st
theorem SameG.refl (st:SortSt):SameG st st:=⟨rfl,rfl,rfl,rfl⟩
theorem SameG.trans {st st' st'':SortSt}(h:SameG st st')(k:SameG st' st''):SameG st st'':=⟨k.1.trans h.1,k.2.1.trans h.2.1,k.2.2.1.trans h.2.2.1,k.2.2.2.trans h.2.2.2⟩
section
variable {M:Model}{A:Around}{E:Value->Shared->Prop}{s:Shared}{kd:SortKind}{b:Keyed->Keyed->Bool}{good:Keyed->Prop}
theorem JK {g:Nat}{st:SortSt}{Q:Unit->SortSt->Prop}(q:∀st',SameG st st'->Q () st'):wpS M A E s (OG g) Q st:=by
 refine wpS_modify (f:=λs=>SortSt.mk' (kindOf s) (arrOf s) (pendingOf s) g (failedOf s)) (q _ ⟨rfl,rfl,rfl,rfl⟩)
structure Two (b:Keyed->Keyed->Bool)(good:Keyed->Prop)(a c:Array Keyed):Prop where
 ga:∀x∈a.toList,good x
 gc:∀x∈c.toList,good x
 sa:a.toList.Pairwise (kle b)
 sc:c.toList.Pairwise (kle b)
 na:0<a.size
 nc:0<c.size
 first:∀x,c[0]?=some x->∀y∈a.toList,kle b x y
 last:∀z,a[a.size-1]?=some z->∀y∈c.toList,kle b y z
variable {a c:Array Keyed}
theorem Two.at (T:Two b good a c){i:Nat}(h:i<a.size):∃x,a[i]?=some x/\good x:=⟨a[i],by simp [h],T.ga _ (by simp)⟩
theorem Two.ct (T:Two b good a c){i:Nat}(h:i<c.size):∃x,c[i]?=some x/\good x:=⟨c[i],by simp [h],T.gc _ (by simp)⟩
def ML (b:Keyed->Keyed->Bool)(a c out:Array Keyed)(ia ib:Nat):Prop:=Mrg b (a.toList++c.toList) out.toList (a.toList.drop ia) (c.toList.drop ib)
theorem ML.done {out:Array Keyed}{ia ib:Nat}(h:ML b a c out ia ib)(e:ib=c.size\/ia=a.size):G0 b (a.toList++c.toList) (JO a c out ia ib).toList:=by
 unfold JO;rw [Array.toList_append,Array.toList_append,Ou,Ou];refine Mrg.endA h λx hx y hy=>?_;rcases e with e | e
 ·rw [List.drop_of_length_le (by rw [e,Array.length_toList];exact Nat.le_refl _)] at hy;cases hy
 ·rw [List.drop_of_length_le (by rw [e,Array.length_toList];exact Nat.le_refl _)] at hx;cases hx
theorem ML.last {out:Array Keyed}{ia ib:Nat}(T:Two b good a c)(h:ML b a c out ia ib)(e:ia+1=a.size):G0 b (a.toList++c.toList) (O0 a c out ia ib).toList:=by
 unfold O0;rw [Array.toList_append,Array.toList_append,Ou,Ou];refine Mrg.endB h λx hx y hy=>?_;obtain ⟨z,hz,_⟩:=T.at (i:=ia) (by lia);rw [G8 hz,List.drop_of_length_le (by rw [Array.length_toList];lia)] at hy;have:y=z:=by simpa using hy
 subst this;exact T.last y (by rw [<-e];exact hz) x (List.mem_of_mem_drop hx)
theorem ML.pushB {out:Array Keyed}{ia ib:Nat}{x:Keyed}(h:ML b a c out ia ib)(hx:c[ib]?=some x)(hl:∀y∈a.toList.drop ia,kle b x y):ML b a c (out.push x) ia (ib+1):=by
 unfold ML at h ⊢;rw [Array.toList_push];rw [G8 hx] at h;exact Mrg.moveB (u:=[x]) h λz hz y hy=>by
  have:z=x:=by simpa using hz
  subst this;exact hl y hy
theorem ML.pushA {out:Array Keyed}{ia ib:Nat}{x:Keyed}(h:ML b a c out ia ib)(hx:a[ia]?=some x)(hl:∀y∈c.toList.drop ib,kle b x y):ML b a c (out.push x) (ia+1) ib:=by
 unfold ML at h ⊢;rw [Array.toList_push];rw [G8 hx] at h;exact Mrg.moveA (u:=[x]) h λz hz y hy=>by
  have:z=x:=by simpa using hz
  subst this;exact hl y hy
theorem ML.takeA {out:Array Keyed}{ia ib k:Nat}(h:ML b a c out ia ib)(hl:∀x∈(a.toList.drop ia).take k,∀y∈c.toList.drop ib,kle b x y):ML b a c (out++a.extract ia (ia+k)) (ia+k) ib:=by
 unfold ML at h ⊢;rw [Array.toList_append,V5];rw [<-List.take_append_drop k (a.toList.drop ia),List.drop_drop] at h;exact Mrg.moveA h hl
theorem ML.takeB {out:Array Keyed}{ia ib k:Nat}(h:ML b a c out ia ib)(hl:∀x∈(c.toList.drop ib).take k,∀y∈a.toList.drop ia,kle b x y):ML b a c (out++c.extract ib (ib+k)) ia (ib+k):=by
 unfold ML at h ⊢;rw [Array.toList_append,V5];rw [<-List.take_append_drop k (c.toList.drop ib),List.drop_drop] at h;exact Mrg.moveB h hl
theorem Ug {l:List Keyed}{x:Keyed}(W:WO b)(h:(x::l).Pairwise (kle b)):∀y∈x::l,kle b x y:=λy hy=>by
 rcases List.mem_cons.mp hy with rfl | hy
 ·exact W.le_refl _
 ·exact (List.pairwise_cons.mp h).1 y hy
theorem XB (W:WO b)(L:Oj M A E s kd b good)(T:Two b good a c){out:Array Keyed}{ia ib mg:Nat}{st:SortSt}(hs:kindOf st=kd)(h:ML b a c out ia ib)(h1:ia+1<a.size)(h2:ib<c.size){Q:MLs->SortSt->Prop}(q1:∀r y st',SameG st st'->G0 b (a.toList++c.toList) r.toList->Q (some r,y) st')(q2:∀out' ia' ib' ac bc st',SameG st st'->ML b a c out' ia' ib'->ia'+1<a.size->ib'<c.size->out.size<out'.size->Q (none,out',ia',ib',ac,bc) st') :
  wpS M A E s (forIn [:a.size+c.size] ((none,out,ia,ib,0,0):MLs) (Y2 a c mg)) Q st:=by
 refine wpS_forRange (λk r st'=>SameG st st'/\∃out' ia' ib' ac bc,r=(none,out',ia',ib',ac,bc)/\ML b a c out' ia' ib'/\ia'+1<a.size/\ib'<c.size/\out.size+k<=out'.size) ?_ ?_ ⟨SameG.refl _,_,_,_,_,_,rfl,h,h1,h2,Nat.le_refl _⟩
 ·rintro k r st1 _ hk ⟨sg,out',ia',ib',ac,bc,rfl,h,h1,h2,h3⟩;have hs1:kindOf st1=kd:=sg.1.trans hs;unfold Y2;dsimp only;obtain ⟨x,hx,gx⟩:=T.ct h2;obtain ⟨y,hy,gy⟩:=T.at (i:=ia') (by lia);refine wpS_bind (Gv hx (wpS_bind (Gv hy (wpS_bind (L x y st1 _ gx gy hs1 ?_)))));have sA:(a.toList.drop ia').Pairwise (kle b):=h.sa;have sB:(c.toList.drop ib').Pairwise (kle b):=h.sb;rw [G8 hy] at sA;rw [G8 hx] at sB;dsimp only;cases hb:b x y with
  | true=>
   rw [if_pos rfl];refine wpS_bind (Gv hx ?_);have h':=h.pushB hx λz hz=>by
    rw [G8 hy] at hz;exact W.le_trans (W.le_of_lt hb) (Ug W sA z hz)
   split
   ·rename_i e;exact wpS_pure (q1 _ _ _ sg (h'.done (.inl (eq_of_beq e))))
   ·rename_i e;have e:ib'+1<c.size:=by
     have:ib'+1≠c.size:=λz=>e (beq_iff_eq.mpr z)
     lia
    split
    ·exact wpS_pure (q2 _ _ _ _ _ _ sg h' h1 e (by rw [Array.size_push];lia))
    ·exact wpS_pure ⟨sg,_,_,_,_,_,rfl,h',h1,e,by rw [Array.size_push];lia⟩
  | false=>
   rw [if_neg Bool.false_ne_true];refine wpS_bind (Gv hy ?_);have h':=h.pushA hy λz hz=>by
    rw [G8 hx] at hz;exact W.le_trans hb (Ug W sB z hz)
   split
   ·rename_i e;exact wpS_pure (q1 _ _ _ sg (h'.last T (eq_of_beq e)))
   ·rename_i e;have e:ia'+1+1<a.size:=by
     have:ia'+1+1≠a.size:=λz=>e (beq_iff_eq.mpr z)
     lia
    split
    ·exact wpS_pure (q2 _ _ _ _ _ _ sg h' e h2 (by rw [Array.size_push];lia))
    ·exact wpS_pure ⟨sg,_,_,_,_,_,rfl,h',e,h2,by rw [Array.size_push];lia⟩
 ·rintro r st1 ⟨sg,out',ia',ib',ac,bc,rfl,h,h1,h2,h3⟩;exact q2 _ _ _ _ _ _ sg h h1 h2 (by have:=T.na;simp at h3;lia)
end
end L2
namespace L2
open PySem PySem.Spec PyProof.Rows
def Rng (b:Keyed->Keyed->Bool)(arr:Array Keyed)(lo hi:Nat):Prop:=∀i j x y,lo<=i->i<=j->j<hi->arr[i]?=some x->arr[j]?=some y->kle b x y
section
variable {M:Model}{A:Around}{E:Value->Shared->Prop}{s:Shared}{kd:SortKind}{b:Keyed->Keyed->Bool}{good:Keyed->Prop}
theorem Y5 (W:WO b):∀{l:List Keyed}{i j:Nat}{x y:Keyed},l.Pairwise (kle b)->i<=j->l[i]?=some x->l[j]?=some y->kle b x y
 | [],_,_,_,_,_,_,h,_=>by simp at h
 | z::l,0,0,x,y,_,_,h1,h2=>by
  simp at h1 h2;subst h1 h2;exact W.le_refl _
 | z::l,0,j+1,x,y,h,_,h1,h2=>by
  simp at h1 h2;subst h1;exact (List.pairwise_cons.mp h).1 y (List.mem_of_getElem? h2)
 | z::l,i+1,0,_,_,_,h,_,_=>by lia
 | z::l,i+1,j+1,x,y,h,hij,h1,h2=>by
  simp at h1 h2;exact Y5 W (List.pairwise_cons.mp h).2 (by lia) h1 h2
theorem ZT (W:WO b){arr:Array Keyed}{lo:Nat}(h:(arr.toList.drop lo).Pairwise (kle b)):Rng b arr lo arr.size:=λi j x y h1 h2 h3 e1 e2=>by
 refine Y5 (i:=i-lo) (j:=j-lo) W h (by lia) ?_ ?_
 ·rw [List.getElem?_drop,Nat.add_sub_cancel' h1,Array.getElem?_toList];exact e1
 ·rw [List.getElem?_drop,Nat.add_sub_cancel' (Nat.le_trans h1 h2),Array.getElem?_toList];exact e2
theorem O1 (W:WO b){left:Bool}{key:Keyed}{arr:Array Keyed}{base n:Nat}(hk:good key)(hg:∀i,i<n->∃x,arr[base+i]?=some x/\good x)(h:Rng b arr base (base+n)):Gal b good left key arr base n:=by
 refine ⟨hk,hg,λi j h1 h2 h3=>?_⟩;obtain ⟨x,hx,_⟩:=hg i (by lia);obtain ⟨y,hy,_⟩:=hg j h2;have hxy:=h (base+i) (base+j) x y (by lia) (by lia) (by lia) hx hy;unfold byd at h3 ⊢;rw [hy] at h3;rw [hx];dsimp only at h3 ⊢;cases left with
 | true=>
  rw [if_pos rfl] at h3 ⊢;rcases W.neg y x key h3 with z | z
  ·rw [show b y x=false from hxy] at z;cases z
  ·exact z
 | false=>
  rw [if_neg Bool.false_ne_true] at h3 ⊢;rw [Bool.not_eq_true'] at h3 ⊢;exact W.le_trans (x:=x) (y:=y) (z:=key) hxy h3
variable {a c:Array Keyed}
theorem V6 {arr:Array Keyed}{base k:Nat}{x:Keyed}(h:x∈(arr.toList.drop base).take k):∃i,i<k/\arr[base+i]?=some x:=by
 obtain ⟨i,hi⟩:=List.mem_iff_getElem?.mp h;rw [List.getElem?_take] at hi;split at hi
 ·rw [List.getElem?_drop,Array.getElem?_toList] at hi;exact ⟨i,by assumption,hi⟩
 ·cases hi
theorem V7 {arr:Array Keyed}{base:Nat}{x:Keyed}(h:x∈arr.toList.drop base):∃i,base+i<arr.size/\arr[base+i]?=some x:=by
 obtain ⟨i,hi⟩:=List.mem_iff_getElem?.mp h;rw [List.getElem?_drop,Array.getElem?_toList] at hi;exact ⟨i,(Array.getElem?_eq_some_iff.mp hi).1,hi⟩
section
variable {out:Array Keyed}{ia ib:Nat}{st:SortSt}{Q:ForInStep MLt->SortSt->Prop}
structure Y6 (b:Keyed->Keyed->Bool)(a c:Array Keyed)(n:Nat)(st:SortSt)(Q:ForInStep MLt->SortSt->Prop):Prop where
 fin:∀r y st',SameG st st'->G0 b (a.toList++c.toList) r.toList->Q (.done (some r,y)) st'
 brk:∀out' ia' ib' y st',SameG st st'->ML b a c out' ia' ib'->ia'+1<a.size->ib'<c.size->n<=out'.size->Q (.done (none,out',ia',ib',y)) st'
 go:∀out' ia' ib' y st',SameG st st'->ML b a c out' ia' ib'->ia'+1<a.size->ib'<c.size->n<=out'.size->Q (.yield (none,out',ia',ib',y)) st'
theorem XC (T:Two b good a c){mg ac k n:Nat}(R:Y6 b a c n st Q)(h:ML b a c out ia ib)(h1:ia+1<a.size)(h2:ib<c.size)(hn:n<=out.size)(hl:∀x,a[ia]?=some x->∀y∈c.toList.drop ib,kle b x y) :
  wpS M A E s (mlD a c mg ac k out ia ib) Q st:=by
 unfold mlD;obtain ⟨x,hx,gx⟩:=T.at (i:=ia) (by lia);refine wpS_bind (Gv hx ?_);have h':=h.pushA hx (hl x hx);have hn':n<=(out.push x).size:=by rw [Array.size_push];lia
 dsimp only;split
 ·rename_i e;exact wpS_pure (R.fin _ _ _ (SameG.refl _) (h'.last T (eq_of_beq e)))
 ·rename_i e;have e:ia+1+1<a.size:=by
   have:ia+1+1≠a.size:=λz=>e (beq_iff_eq.mpr z)
   lia
  split
  ·exact wpS_pure (R.brk _ _ _ _ _ (SameG.refl _) h' e h2 hn')
  ·exact wpS_pure (R.go _ _ _ _ _ (SameG.refl _) h' e h2 hn')
theorem XD (W:WO b)(L:Oj M A E s kd b good)(T:Two b good a c){mg ac bc n:Nat}(R:Y6 b a c n st Q)(hs:kindOf st=kd)(h:ML b a c out ia ib)(h1:ia+1<a.size)(h2:ib<c.size)(hn:n<=out.size)(hl:∀x,c[ib]?=some x->∀y∈a.toList.drop ia,kle b x y):wpS M A E s (mlC a c mg ac bc out ia ib) Q st:=by
 unfold mlC;obtain ⟨x,hx,gx⟩:=T.ct h2;obtain ⟨y,hy,gy⟩:=T.at (i:=ia) (by lia);refine wpS_bind (Gv hx ?_);have h':=h.pushB hx (hl x hx);have hn':n<=(out.push x).size:=by rw [Array.size_push];lia
 generalize out.push x=out1 at h' hn';dsimp only;split
 ·rename_i e;exact wpS_pure (R.fin _ _ _ (SameG.refl _) (h'.done (.inl (eq_of_beq e))))
 ·rename_i e;have e:ib+1<c.size:=by
   have:ib+1≠c.size:=λz=>e (beq_iff_eq.mpr z)
   lia
  refine wpS_bind (Gv hy ?_);have sB:Rng b c (ib+1) c.size:=ZT W h'.sb;have sA:(a.toList.drop ia).Pairwise (kle b):=h'.sa;rw [G8 hy] at sA;have G:Gal b good true y c (ib+1) (c.size-(ib+1)):=O1 W gy (λi hi=>T.ct (by lia)) (by rw [Nat.add_sub_cancel' (by lia)];exact sB);refine wpS_bind (G4 L G hs (by lia) λk hk k1 k2=>?_);dsimp only;have tk:∀z∈(c.toList.drop (ib+1)).take k,∀v∈a.toList.drop ia,kle b z v:=λz hz v hv=>by
   obtain ⟨i,hi,ez⟩:=V6 hz;have:=k1 i hi;unfold byd at this;rw [ez] at this;dsimp only at this;rw [if_pos rfl] at this;rw [G8 hy] at hv;exact W.le_trans (W.le_of_lt this) (Ug W sA v hv)
  have tr:∀v∈c.toList.drop (ib+1+k),kle b y v:=λv hv=>by
   obtain ⟨i,hi,ev⟩:=V7 hv;have:=k2 (k+i) (by lia) (by lia);unfold byd at this;rw [show ib+1+(k+i)=ib+1+k+i by lia,ev] at this;dsimp only at this;rw [if_pos rfl] at this;exact this
  split
  ·have h3:=h'.takeB tk;have hn3:n<=(out1++c.extract (ib+1) (ib+1+k)).size:=by rw [Array.size_append];lia
   split
   ·rename_i e2;exact wpS_pure (R.fin _ _ _ (SameG.refl _) (h3.done (.inl (eq_of_beq e2))))
   ·rename_i e2;have e2:ib+1+k<c.size:=by
     have:ib+1+k≠c.size:=λz=>e2 (beq_iff_eq.mpr z)
     lia
    exact XC T R h3 h1 e2 hn3 λx' hx' v hv=>by
     rw [hy] at hx';cases hx';exact tr v hv
  ·rename_i hk0;have:k=0:=by lia
   subst this;exact XC T R h' h1 e hn' λx' hx' v hv=>by
    rw [hy] at hx';cases hx';exact tr v hv
theorem ZaA (W:WO b)(L:Oj M A E s kd b good)(T:Two b good a c){mg ac bc n:Nat}(R:∀st',SameG st st'->Y6 b a c n st' Q)(hs:kindOf st=kd)(h:ML b a c out ia ib)(h1:ia+1<a.size)(h2:ib<c.size)(hn:n<=out.size) :
  wpS M A E s (mlB a c mg ac bc out ia ib) Q st:=by
 unfold mlB;refine wpS_bind (JK λst1 sg=>?_);have R:=R st1 sg;have hs1:kindOf st1=kd:=sg.1.trans hs;obtain ⟨x,hx,gx⟩:=T.ct h2;refine wpS_bind (Gv hx ?_);have sA:Rng b a ia a.size:=ZT W h.sa;have sB:(c.toList.drop ib).Pairwise (kle b):=h.sb;rw [G8 hx] at sB;have G:Gal b good false x a ia (a.size-ia):=O1 W gx (λi hi=>T.at (by lia)) (by rw [Nat.add_sub_cancel' (by lia)];exact sA);refine wpS_bind (G4 L G hs1 (by lia) λk hk k1 k2=>?_);dsimp only;have tk:∀z∈(a.toList.drop ia).take k,∀v∈c.toList.drop ib,kle b z v:=λz hz v hv=>by
  obtain ⟨i,hi,ez⟩:=V6 hz;have:=k1 i hi;unfold byd at this;rw [ez] at this;dsimp only at this;rw [if_neg Bool.false_ne_true,Bool.not_eq_true'] at this;rw [G8 hx] at hv;exact W.le_trans this (Ug W sB v hv)
 have tr:∀v∈a.toList.drop (ia+k),kle b x v:=λv hv=>by
  obtain ⟨i,hi,ev⟩:=V7 hv;have:=k2 (k+i) (by lia) (by lia);unfold byd at this;rw [show ia+(k+i)=ia+k+i by lia,ev] at this;dsimp only at this;rw [if_neg Bool.false_ne_true,Bool.not_eq_false'] at this;exact W.le_of_lt this
 split
 ·have h3:=h.takeA tk;have hn3:n<=(out++a.extract ia (ia+k)).size:=by rw [Array.size_append];lia
  split
  ·rename_i e2;exact wpS_pure (R.fin _ _ _ (SameG.refl _) (h3.last T (eq_of_beq e2)))
  ·rename_i e2;split
   ·rename_i e3;exact wpS_pure (R.fin _ _ _ (SameG.refl _) (h3.done (.inr (eq_of_beq e3))))
   ·rename_i e3;have e4:ia+k+1<a.size:=by
     have:ia+k+1≠a.size:=λz=>e2 (beq_iff_eq.mpr z);have:ia+k≠a.size:=λz=>e3 (beq_iff_eq.mpr z)
     lia
    exact XD W L T R hs1 h3 e4 h2 hn3 λx' hx' v hv=>by
     rw [hx] at hx';cases hx';exact tr v hv
 ·have:k=0:=by lia
  subst this;exact XD W L T R hs1 h h1 h2 hn λx' hx' v hv=>by
   rw [hx] at hx';cases hx';exact tr v hv
end
theorem XE (W:WO b)(L:Oj M A E s kd b good)(T:Two b good a c){out:Array Keyed}{ia ib n:Nat}{y:Nat×Nat×Nat}{st:SortSt}(hs:kindOf st=kd)(h:ML b a c out ia ib)(h1:ia+1<a.size)(h2:ib<c.size){Q:MLt->SortSt->Prop}(q1:∀r y st',SameG st st'->G0 b (a.toList++c.toList) r.toList->Q (some r,y) st')(q2:∀out' ia' ib' y st',SameG st st'->ML b a c out' ia' ib'->ia'+1<a.size->ib'<c.size->out.size<=out'.size->Q (none,out',ia',ib',y) st') :
  wpS M A E s (forIn [:n] ((none,out,ia,ib,y):MLt) (Y3 a c)) Q st:=by
 refine wpS_forRange (λk r st'=>SameG st st'/\∃out' ia' ib' y,r=(none,out',ia',ib',y)/\ML b a c out' ia' ib'/\ia'+1<a.size/\ib'<c.size/\out.size<=out'.size) ?_ ?_ ⟨SameG.refl _,_,_,_,_,rfl,h,h1,h2,Nat.le_refl _⟩
 ·rintro k r st1 _ hk ⟨sg,out',ia',ib',y,rfl,h,h1,h2,h3⟩;have hs1:kindOf st1=kd:=sg.1.trans hs;have R:∀st',SameG st1 st'->Y6 b a c out.size st' (λr st'=>match r with
   | .done c'=>Q c' st'
   | .yield c'=>SameG st st'/\∃out' ia' ib' y,c'=(none,out',ia',ib',y)/\ML b a c out' ia' ib'/\ia'+1<a.size/\ib'<c.size/\out.size<=out'.size):=λst' sg'=>
   ⟨λr y st2 g m=>q1 r y st2 ((sg.trans sg').trans g) m,λo i j y st2 g m p1 p2 p3=>q2 o i j y st2 ((sg.trans sg').trans g) m p1 p2 p3,λo i j y st2 g m p1 p2 p3=>⟨(sg.trans sg').trans g,o,i,j,y,rfl,m,p1,p2,p3⟩⟩
  unfold Y3;dsimp only;have mono:∀mg,wpS M A E s (mlB a c mg y.2.1 y.2.2 out' ia' ib') _ st1:=λmg=>ZaA W L T R hs1 h h1 h2 h3;split
  ·exact wpS_mono (mono _) λr st' hr=>by cases r <;> exact hr
  ·exact wpS_mono (mono _) λr st' hr=>by cases r <;> exact hr
 ·rintro r st1 ⟨sg,out',ia',ib',y,rfl,h,h1,h2,h3⟩;exact q2 _ _ _ _ _ sg h h1 h2 h3
theorem Vv (W:WO b)(L:Oj M A E s kd b good)(T:Two b good a c){st:SortSt}(hs:kindOf st=kd){Q:Array Keyed->SortSt->Prop}(q:∀r st',SameG st st'->G0 b (a.toList++c.toList) r.toList->Q r st'):wpS M A E s (Uc a c) Q st:=by
 rw [Vu];refine wpS_bind (wpS_lift (wpAny_rule ⟨rfl,?_⟩));obtain ⟨x,hx,gx⟩:=T.ct T.nc;refine wpS_bind (Gv hx ?_);have h0:ML b a c #[x] 0 1:=by
  have z:ML b a c #[] 0 0:=⟨by simp,by simp,by simp,by simpa using T.sa,by simpa using T.sc⟩;exact z.pushB hx λy hy=>T.first x hx y (by simpa using hy)
 have hc:=T.nc;have ha:=T.na;dsimp only;split
 ·rename_i e;exact wpS_pure (q _ _ (SameG.refl _) (h0.done (.inl (eq_of_beq e))))
 ·rename_i e;have e:1<c.size:=by
   have:1≠c.size:=λz=>e (beq_iff_eq.mpr z)
   lia
  split
  ·rename_i e2;exact wpS_pure (q _ _ (SameG.refl _) (h0.last T (eq_of_beq e2)))
  ·rename_i e2;have e2:0+1<a.size:=by
    have:0+1≠a.size:=λz=>e2 (beq_iff_eq.mpr z)
    lia
   refine wpS_bind (wpS_get ?_);refine wpS_bind (wpS_forRange (λk r st'=>SameG st st'/\∃out' ia' ib' mg,r=(none,out',ia',ib',mg)/\ML b a c out' ia' ib'/\ia'+1<a.size/\ib'<c.size/\k<out'.size) ?_ ?_ ⟨SameG.refl _,_,_,_,_,rfl,h0,e2,e,by simp⟩)
   ·rintro k r st1 _ hk ⟨sg,out',ia',ib',mg,rfl,h,h1,h2,h3⟩;have hs1:kindOf st1=kd:=sg.1.trans hs;unfold Y4;dsimp only;refine wpS_bind (XB W L T hs1 h h1 h2 (λr y st2 g m=>?_) (λo i j ac bc st2 g m p1 p2 p3=>?_))
    ·refine wpS_pure ?_;dsimp only;exact wpS_pure (q r st2 (sg.trans g) m)
    ·dsimp only;refine wpS_bind (wpS_lift (wpAny_rule ⟨rfl,?_⟩));refine wpS_bind (XE W L T (g.1.trans hs1) m p1 p2 (λr y st3 g3 m3=>?_) (λo3 i3 j3 y3 st3 g3 m3 r1 r2 r3=>?_))
     ·refine wpS_pure ?_;dsimp only;exact wpS_pure (q r st3 ((sg.trans g).trans g3) m3)
     ·dsimp only;refine wpS_bind (JK λst4 g4=>?_);exact wpS_pure ⟨((sg.trans g).trans g3).trans g4,_,_,_,_,rfl,m3,r1,r2,by lia⟩
   ·rintro r st1 ⟨sg,out',ia',ib',mg,rfl,h,h1,h2,h3⟩;exfalso;have:=Mrg.len h;rw [List.length_append,List.length_drop,List.length_drop,Array.length_toList,Array.length_toList,Array.length_toList] at this;simp at h3
    lia
end
end L2
namespace L2
open PySem PySem.Spec PyProof.Rows
abbrev MHs:=Option (Array Keyed)×Nat×Nat×Array Keyed×Nat×Nat
abbrev MHt:=Option (Array Keyed)×Nat×Nat×Array Keyed×Nat×Nat×Nat
abbrev MHo:=Option (Array Keyed)×Nat×Nat×Array Keyed×Nat
def JP (a b out:Array Keyed)(na nb:Nat):Array Keyed:=a.extract 0 na++b.extract 0 nb++out.reverse
def Od (a b out:Array Keyed)(na nb:Nat):Array Keyed:=b.extract 0 nb++a.extract 0 na++out.reverse
def Y7 (a b:Array Keyed)(mg:Nat):Nat->MHs->StateT SortSt Sem (ForInStep MHs):=λ_ r=>
 let na:=r.2.1;let nb:=r.2.2.1;let out:=r.2.2.2.1;let qZ:=r.2.2.2.2.1;let qX:=r.2.2.2.2.2
 do
 let x <- elem' b (nb-1)
 let y <- elem' a (na-1)
 match <- lt' x y with
 | some aWins=>
  if aWins=true then do
   let na:=na-1
   let z <- elem' a na
   let out:=out.push z
   let qZ:=qZ+1
   let qX:=0
   if (na == 0)=true then pure (.done (some (JP a b out na nb),na,nb,out,qZ,qX))
   else if qZ>=mg then pure (.done (none,na,nb,out,qZ,qX))
   else pure (.yield (none,na,nb,out,qZ,qX))
  else do
   let nb:=nb-1
   let z <- elem' b nb
   let out:=out.push z
   let qX:=qX+1
   let qZ:=0
   if (nb == 1)=true then pure (.done (some (Od a b out na nb),na,nb,out,qZ,qX))
   else if qX>=mg then pure (.done (none,na,nb,out,qZ,qX))
   else pure (.yield (none,na,nb,out,qZ,qX))
 | _=>pure (.done (some (JP a b out na nb),na,nb,out,qZ,qX))
def mhD (a b:Array Keyed)(qJ qZ qX:Nat)(na nb:Nat)(out:Array Keyed):StateT SortSt Sem (ForInStep MHt):=do
 let na:=na-1
 let z <- elem' a na
 let out:=out.push z
 if (na == 0)=true then pure (.done (some (JP a b out na nb),na,nb,out,qJ,qZ,qX))
 else if (decide (qZ<7) && decide (qX<7))=true then pure (.done (none,na,nb,out,qJ,qZ,qX))
 else pure (.yield (none,na,nb,out,qJ,qZ,qX))
def mhC (a b:Array Keyed)(qJ qZ qX:Nat)(na nb:Nat)(out:Array Keyed):StateT SortSt Sem (ForInStep MHt):=do
 let nb:=nb-1
 let z <- elem' b nb
 let out:=out.push z
 if (nb == 1)=true then pure (.done (some (Od a b out na nb),na,nb,out,qJ,qZ,qX))
 else do
  let y <- elem' a (na-1)
  match <- Jz true y b 0 nb (nb-1) with
  | some at_=>
   let k:=nb-at_
   let qX:=k
   if k > 0 then
    let out:=out++(b.extract at_ nb).reverse
    let nb:=at_
    if (nb == 1)=true then pure (.done (some (Od a b out na nb),na,nb,out,qJ,qZ,qX))
    else if (nb == 0)=true then pure (.done (some (JP a b out na nb),na,nb,out,qJ,qZ,qX))
    else mhD a b qJ qZ qX na nb out
   else mhD a b qJ qZ qX na nb out
  | _=>pure (.done (some (JP a b out na nb),na,nb,out,qJ,qZ,qX))
def mhB (a b:Array Keyed)(qJ qZ qX:Nat)(na nb:Nat)(out:Array Keyed):StateT SortSt Sem (ForInStep MHt):=do
 OG qJ
 let x <- elem' b (nb-1)
 match <- Jz false x a 0 na (na-1) with
 | some at_=>
  let k:=na-at_
  let qZ:=k
  if k > 0 then
   let out:=out++(a.extract at_ na).reverse
   let na:=at_
   if (na == 0)=true then pure (.done (some (JP a b out na nb),na,nb,out,qJ,qZ,qX))
   else mhC a b qJ qZ qX na nb out
  else mhC a b qJ qZ qX na nb out
 | _=>pure (.done (some (JP a b out na nb),na,nb,out,qJ,qZ,qX))
def Y8 (a b:Array Keyed):Nat->MHt->StateT SortSt Sem (ForInStep MHt):=λ_ r=>
 let na:=r.2.1;let nb:=r.2.2.1;let out:=r.2.2.2.1;let qJ:=r.2.2.2.2.1;let qZ:=r.2.2.2.2.2.1;let qX:=r.2.2.2.2.2.2
 if qJ > 1 then mhB a b (qJ-1) qZ qX na nb out else mhB a b qJ qZ qX na nb out
def Y9 (a b:Array Keyed):Nat->MHo->StateT SortSt Sem (ForInStep MHo):=λ_ r=>
 let na:=r.2.1;let nb:=r.2.2.1;let out:=r.2.2.2.1;let qJ:=r.2.2.2.2
 do
 let r <- forIn [:a.size+b.size] ((none,na,nb,out,0,0):MHs) (Y7 a b qJ)
 match r.1 with
 | some x=>pure (.done (some x,r.2.1,r.2.2.1,r.2.2.2.1,qJ))
 | none=>do
  liftM (rule "list.sort.gallop")
  let r <- forIn [:a.size+b.size] ((none,r.2.1,r.2.2.1,r.2.2.2.1,qJ+1,r.2.2.2.2.1,r.2.2.2.2.2):MHt) (Y8 a b)
  match r.1 with
  | some x=>pure (.done (some x,r.2.1,r.2.2.1,r.2.2.2.1,r.2.2.2.2.1))
  | none=>do
   OG (r.2.2.2.2.1+1)
   pure (.yield (none,r.2.1,r.2.2.1,r.2.2.2.1,r.2.2.2.2.1+1))
theorem Vw (a b:Array Keyed):Ud a b=(do
  liftM (rule "list.sort.merge-hi")
  let x <- elem' a (a.size-1)
  let out:=#[x]
  if (a.size-1 == 0)=true then pure (JP a b out (a.size-1) b.size)
  else if (b.size == 1)=true then pure (Od a b out (a.size-1) b.size)
  else do
   let st <- get
   let r <- forIn [:a.size+b.size] ((none,a.size-1,b.size,out,gallopOf st):MHo) (Y9 a b)
   match r.1 with
   | some r=>pure r
   | none=>liftM (unsupported "internal:list.sort.merge-bound")):=by
 refine GT (m:=liftM (rule "list.sort.merge-hi")) λ_=>?_;refine GT (m:=elem' a (a.size-1)) λx=>?_;refine Uf (c:=(a.size-1 == 0)=true) rfl ?_;refine Uf (c:=(b.size == 1)=true) rfl ?_;refine GT (m:=get) λst=>?_;refine (congrArg (λm:StateT SortSt Sem MHo=>m >>= _) (OH (r:=[:a.size+b.size]) (c:=((none,a.size-1,b.size,#[x],gallopOf st):MHo)) (g:=Y9 a b) λi r=>?_)).trans ?_;rotate_left
 ·refine GT λr=>?_;obtain ⟨r1,r2⟩:=r;cases r1 <;> rfl
 unfold Y9;refine (congrArg (λm:StateT SortSt Sem MHs=>m >>= _) (OH (r:=[:a.size+b.size]) (g:=Y7 a b r.2.2.2.2) λi r=>rfl)).trans ?_;refine GT λq=>?_;obtain ⟨q1,q2⟩:=q;cases q1 with
 | some z=>rfl
 | none=>
  refine GT (m:=liftM (rule "list.sort.gallop")) λ_=>?_;refine (congrArg (λm:StateT SortSt Sem MHt=>m >>= _) (OH (r:=[:a.size+b.size]) (g:=Y8 a b) λi r=>rfl)).trans ?_;refine GT λq=>?_;obtain ⟨q1,q2⟩:=q;cases q1 <;> rfl
end L2
namespace L2
open PySem PySem.Spec PyProof.Rows
section
variable {b:Keyed->Keyed->Bool}
structure MrgH (b:Keyed->Keyed->Bool)(all out ra rb:List Keyed):Prop where
 perm:(ra++rb++out).Perm all
 so:out.Pairwise (kle b)
 le:∀x∈ra++rb,∀y∈out,kle b x y
 sa:ra.Pairwise (kle b)
 sb:rb.Pairwise (kle b)
theorem MrgH.len {all out ra rb:List Keyed}(h:MrgH b all out ra rb):ra.length+rb.length+out.length=all.length:=by
 have:=h.perm.length_eq;rw [List.length_append,List.length_append] at this;exact this
theorem MrgH.moveB {all out u ra rb:List Keyed}(h:MrgH b all out ra (rb++u))(hu:∀x∈u,∀y∈ra,kle b y x):MrgH b all (u++out) ra rb:=by
 have sb:=List.pairwise_append.mp h.sb;refine ⟨?_,List.pairwise_append.mpr ⟨sb.2.1,h.so,λx hx y hy=>h.le x (by simp [hx]) y hy⟩,λx hx y hy=>?_,h.sa,sb.1⟩
 ·have:=h.perm;simp only [List.append_assoc] at this ⊢;exact this
 ·rcases List.mem_append.mp hy with hy | hy
  ·rcases List.mem_append.mp hx with hx | hx
   ·exact hu y hy x hx
   ·exact sb.2.2 x hx y hy
  ·refine h.le x ?_ y hy;rcases List.mem_append.mp hx with hx | hx <;> simp [hx]
theorem MrgH.moveA {all out u ra rb:List Keyed}(h:MrgH b all out (ra++u) rb)(hu:∀x∈u,∀y∈rb,kle b y x):MrgH b all (u++out) ra rb:=by
 have sa:=List.pairwise_append.mp h.sa;refine ⟨?_,List.pairwise_append.mpr ⟨sa.2.1,h.so,λx hx y hy=>h.le x (by simp [hx]) y hy⟩,λx hx y hy=>?_,sa.1,h.sb⟩
 ·refine List.Perm.trans ?_ h.perm;simp only [List.append_assoc];refine List.Perm.append_left _ ?_;rw [<-List.append_assoc,<-List.append_assoc];exact List.Perm.append_right _ List.perm_append_comm
 ·rcases List.mem_append.mp hy with hy | hy
  ·rcases List.mem_append.mp hx with hx | hx
   ·exact sa.2.2 x hx y hy
   ·exact hu y hy x hx
  ·refine h.le x ?_ y hy;rcases List.mem_append.mp hx with hx | hx <;> simp [hx]
theorem MrgH.endA {all out ra rb:List Keyed}(h:MrgH b all out ra rb)(hz:∀x∈ra,∀y∈rb,kle b x y):G0 b all (ra++rb++out):=
 ⟨h.perm,List.pairwise_append.mpr ⟨List.pairwise_append.mpr ⟨h.sa,h.sb,hz⟩,h.so,h.le⟩⟩
theorem MrgH.endB {all out ra rb:List Keyed}(h:MrgH b all out ra rb)(hz:∀x∈rb,∀y∈ra,kle b x y):G0 b all (rb++ra++out):=by
 refine ⟨List.Perm.trans (List.Perm.append_right _ List.perm_append_comm) h.perm,List.pairwise_append.mpr ⟨List.pairwise_append.mpr ⟨h.sb,h.sa,hz⟩,h.so,λx hx y hy=>h.le x ?_ y hy⟩⟩;rcases List.mem_append.mp hx with hx | hx <;> simp [hx]
end
theorem V8 (a:Array Keyed)(k:Nat):(a.extract 0 k).toList=a.toList.take k:=by
 rw [Array.toList_extract,List.extract_eq_take_drop,List.drop_zero,Nat.sub_zero]
theorem XF (a:Array Keyed){i j:Nat}(h:i<=j):a.toList.take j=a.toList.take i++(a.extract i j).toList:=by
 rw [Array.toList_extract,List.extract_eq_take_drop];have:=List.take_append_drop i (a.toList.take j);rw [List.take_take,Nat.min_eq_left h,List.drop_take] at this;exact this.symm
theorem XG {a:Array Keyed}{i:Nat}{x:Keyed}(h:a[i]?=some x):a.toList.take (i+1)=a.toList.take i++[x]:=by
 rw [<-Array.getElem?_toList] at h;rw [List.take_add_one,h]
 rfl
theorem taken {arr:Array Keyed}{k:Nat}{x:Keyed}(h:x∈arr.toList.take k):∃i,i<k/\arr[i]?=some x:=by
 obtain ⟨i,hi⟩:=List.mem_iff_getElem?.mp h;rw [List.getElem?_take] at hi;split at hi
 ·rw [Array.getElem?_toList] at hi;exact ⟨i,by assumption,hi⟩
 ·cases hi
theorem Vx {arr:Array Keyed}{i j:Nat}{x:Keyed}(h:x∈(arr.extract i j).toList):∃k,i<=k/\k<j/\arr[k]?=some x:=by
 rw [Array.toList_extract,List.extract_eq_take_drop] at h;obtain ⟨k,hk⟩:=List.mem_iff_getElem?.mp h;rw [List.getElem?_take] at hk;split at hk
 ·rw [List.getElem?_drop,Array.getElem?_toList] at hk;exact ⟨i+k,by lia,by lia,hk⟩
 ·cases hk
section
variable {M:Model}{A:Around}{E:Value->Shared->Prop}{s:Shared}{kd:SortKind}{b:Keyed->Keyed->Bool}{good:Keyed->Prop}{a c:Array Keyed}
def MH (b:Keyed->Keyed->Bool)(a c:Array Keyed)(na nb:Nat)(out:Array Keyed):Prop:=MrgH b (a.toList++c.toList) out.toList.reverse (a.toList.take na) (c.toList.take nb)
theorem XH (W:WO b){arr:Array Keyed}{hi:Nat}(h:(arr.toList.take hi).Pairwise (kle b)):Rng b arr 0 (0+hi):=λi j x y h1 h2 h3 e1 e2=>by
 refine Y5 (i:=i) (j:=j) W h h2 ?_ ?_
 ·rw [List.getElem?_take,if_pos (by lia),Array.getElem?_toList];exact e1
 ·rw [List.getElem?_take,if_pos (by lia),Array.getElem?_toList];exact e2
theorem MH.done {out:Array Keyed}{na nb:Nat}(h:MH b a c na nb out)(e:na=0\/nb=0):G0 b (a.toList++c.toList) (JP a c out na nb).toList:=by
 unfold JP;rw [Array.toList_append,Array.toList_append,V8,V8,Array.toList_reverse];refine MrgH.endA h λx hx y hy=>?_;rcases e with e | e
 ·rw [e] at hx;simp at hx
 ·rw [e] at hy;simp at hy
theorem MH.first {out:Array Keyed}{na nb:Nat}(T:Two b good a c)(h:MH b a c na nb out)(e:nb=1):G0 b (a.toList++c.toList) (Od a c out na nb).toList:=by
 unfold Od;rw [Array.toList_append,Array.toList_append,V8,V8,Array.toList_reverse];refine MrgH.endB h λx hx y hy=>?_;obtain ⟨i,hi,ex⟩:=taken hx;have:i=0:=by lia
 subst this;exact T.first x ex y (List.mem_of_mem_take hy)
theorem MH.pushB {out:Array Keyed}{na nb:Nat}{x:Keyed}(h:MH b a c na (nb+1) out)(hx:c[nb]?=some x)(hl:∀y∈a.toList.take na,kle b y x):MH b a c na nb (out.push x):=by
 unfold MH at h ⊢;rw [Array.toList_push,List.reverse_append];rw [XG hx] at h;exact MrgH.moveB (u:=[x]) h λz hz y hy=>by
  have:z=x:=by simpa using hz
  subst this;exact hl y hy
theorem MH.pushA {out:Array Keyed}{na nb:Nat}{x:Keyed}(h:MH b a c (na+1) nb out)(hx:a[na]?=some x)(hl:∀y∈c.toList.take nb,kle b y x):MH b a c na nb (out.push x):=by
 unfold MH at h ⊢;rw [Array.toList_push,List.reverse_append];rw [XG hx] at h;exact MrgH.moveA (u:=[x]) h λz hz y hy=>by
  have:z=x:=by simpa using hz
  subst this;exact hl y hy
theorem MH.takeA {out:Array Keyed}{na nb k:Nat}(h:MH b a c na nb out)(hk:k<=na)(hl:∀x∈(a.extract k na).toList,∀y∈c.toList.take nb,kle b y x):MH b a c k nb (out++(a.extract k na).reverse):=by
 unfold MH at h ⊢;rw [Array.toList_append,Array.toList_reverse,List.reverse_append,List.reverse_reverse];rw [XF a hk] at h;exact MrgH.moveA h hl
theorem MH.takeB {out:Array Keyed}{na nb k:Nat}(h:MH b a c na nb out)(hk:k<=nb)(hl:∀x∈(c.extract k nb).toList,∀y∈a.toList.take na,kle b y x):MH b a c na k (out++(c.extract k nb).reverse):=by
 unfold MH at h ⊢;rw [Array.toList_append,Array.toList_reverse,List.reverse_append,List.reverse_reverse];rw [XF c hk] at h;exact MrgH.moveB h hl
theorem Uh (W:WO b){arr:Array Keyed}{k:Nat}{x:Keyed}(h:(arr.toList.take (k+1)).Pairwise (kle b))(hx:arr[k]?=some x):∀y∈arr.toList.take (k+1),kle b y x:=λy hy=>by
 obtain ⟨i,hi,ey⟩:=taken hy;exact XH W h i k y x (Nat.zero_le _) (by lia) (by lia) ey hx
theorem XI (W:WO b)(L:Oj M A E s kd b good)(T:Two b good a c){out:Array Keyed}{na nb mg:Nat}{st:SortSt}(hs:kindOf st=kd)(h:MH b a c na nb out)(h1:0<na/\na<=a.size)(h2:1<nb/\nb<=c.size){Q:MHs->SortSt->Prop}(q1:∀r y st',SameG st st'->G0 b (a.toList++c.toList) r.toList->Q (some r,y) st')(q2:∀na' nb' out' ac bc st',SameG st st'->MH b a c na' nb' out'->(0<na'/\na'<=a.size)->(1<nb'/\nb'<=c.size)->out.size<out'.size->Q (none,na',nb',out',ac,bc) st') :
  wpS M A E s (forIn [:a.size+c.size] ((none,na,nb,out,0,0):MHs) (Y7 a c mg)) Q st:=by
 refine wpS_forRange (λk r st'=>SameG st st'/\∃na' nb' out' ac bc,r=(none,na',nb',out',ac,bc)/\MH b a c na' nb' out'/\(0<na'/\na'<=a.size)/\(1<nb'/\nb'<=c.size)/\out.size+k<=out'.size) ?_ ?_ ⟨SameG.refl _,_,_,_,_,_,rfl,h,h1,h2,Nat.le_refl _⟩
 ·rintro k r st1 _ hk ⟨sg,na',nb',out',ac,bc,rfl,h,h1,h2,h3⟩;have hs1:kindOf st1=kd:=sg.1.trans hs;obtain ⟨na',rfl⟩:∃n,na'=n+1:=⟨na' - 1,by lia⟩;obtain ⟨nb',rfl⟩:∃n,nb'=n+1:=⟨nb' - 1,by lia⟩;unfold Y7;dsimp only [Nat.add_sub_cancel];obtain ⟨x,hx,gx⟩:=T.ct (i:=nb') (by lia);obtain ⟨y,hy,gy⟩:=T.at (i:=na') (by lia);refine wpS_bind (Gv hx (wpS_bind (Gv hy (wpS_bind (L x y st1 _ gx gy hs1 ?_)))));dsimp only;cases hb:b x y with
  | true=>
   rw [if_pos rfl];refine wpS_bind (Gv hy ?_);have h':=h.pushA hy λz hz=>W.le_trans (Uh W h.sb hx z hz) (W.le_of_lt hb);split
   ·rename_i e;exact wpS_pure (q1 _ _ _ sg (h'.done (.inl (eq_of_beq e))))
   ·rename_i e;have e:0<na':=by
     have:na'≠0:=λz=>e (beq_iff_eq.mpr z)
     lia
    split
    ·exact wpS_pure (q2 _ _ _ _ _ _ sg h' ⟨e,by lia⟩ h2 (by rw [Array.size_push];lia))
    ·exact wpS_pure ⟨sg,_,_,_,_,_,rfl,h',⟨e,by lia⟩,h2,by rw [Array.size_push];lia⟩
  | false=>
   rw [if_neg Bool.false_ne_true];refine wpS_bind (Gv hx ?_);have h':=h.pushB hx λz hz=>W.le_trans (Uh W h.sa hy z hz) hb;split
   ·rename_i e;exact wpS_pure (q1 _ _ _ sg (h'.first T (eq_of_beq e)))
   ·rename_i e;have e:1<nb':=by
     have:nb'≠1:=λz=>e (beq_iff_eq.mpr z)
     lia
    split
    ·exact wpS_pure (q2 _ _ _ _ _ _ sg h' h1 ⟨e,by lia⟩ (by rw [Array.size_push];lia))
    ·exact wpS_pure ⟨sg,_,_,_,_,_,rfl,h',h1,⟨e,by lia⟩,by rw [Array.size_push];lia⟩
 ·rintro r st1 ⟨sg,na',nb',out',ac,bc,rfl,h,h1,h2,h3⟩;exact q2 _ _ _ _ _ _ sg h h1 h2 (by have:=T.na;simp at h3;lia)
section
variable {out:Array Keyed}{na nb:Nat}{st:SortSt}{Q:ForInStep MHt->SortSt->Prop}
structure Za (b:Keyed->Keyed->Bool)(a c:Array Keyed)(n:Nat)(st:SortSt)(Q:ForInStep MHt->SortSt->Prop):Prop where
 fin:∀r y st',SameG st st'->G0 b (a.toList++c.toList) r.toList->Q (.done (some r,y)) st'
 brk:∀na' nb' out' y st',SameG st st'->MH b a c na' nb' out'->(0<na'/\na'<=a.size)->(1<nb'/\nb'<=c.size)->n<=out'.size->Q (.done (none,na',nb',out',y)) st'
 go:∀na' nb' out' y st',SameG st st'->MH b a c na' nb' out'->(0<na'/\na'<=a.size)->(1<nb'/\nb'<=c.size)->n<=out'.size->Q (.yield (none,na',nb',out',y)) st'
theorem XJ (T:Two b good a c){mg ac bc n:Nat}(R:Za b a c n st Q)(h:MH b a c (na+1) nb out)(h1:na+1<=a.size)(h2:1<nb/\nb<=c.size)(hn:n<=out.size)(hl:∀x,a[na]?=some x->∀y∈c.toList.take nb,kle b y x) :
  wpS M A E s (mhD a c mg ac bc (na+1) nb out) Q st:=by
 unfold mhD;dsimp only [Nat.add_sub_cancel];obtain ⟨x,hx,gx⟩:=T.at (i:=na) (by lia);refine wpS_bind (Gv hx ?_);have h':=h.pushA hx (hl x hx);have hn':n<=(out.push x).size:=by rw [Array.size_push];lia
 split
 ·rename_i e;exact wpS_pure (R.fin _ _ _ (SameG.refl _) (h'.done (.inl (eq_of_beq e))))
 ·rename_i e;have e:0<na:=by
   have:na≠0:=λz=>e (beq_iff_eq.mpr z)
   lia
  split
  ·exact wpS_pure (R.brk _ _ _ _ _ (SameG.refl _) h' ⟨e,by lia⟩ h2 hn')
  ·exact wpS_pure (R.go _ _ _ _ _ (SameG.refl _) h' ⟨e,by lia⟩ h2 hn')
theorem XM (W:WO b)(L:Oj M A E s kd b good)(T:Two b good a c){mg ac bc n:Nat}(R:Za b a c n st Q)(hs:kindOf st=kd)(h:MH b a c (na+1) (nb+1) out)(h1:na+1<=a.size)(h2:0<nb/\nb+1<=c.size)(hn:n<=out.size)(hl:∀x,c[nb]?=some x->∀y∈a.toList.take (na+1),kle b y x):wpS M A E s (mhC a c mg ac bc (na+1) (nb+1) out) Q st:=by
 unfold mhC;dsimp only [Nat.add_sub_cancel];obtain ⟨x,hx,gx⟩:=T.ct (i:=nb) (by lia);obtain ⟨y,hy,gy⟩:=T.at (i:=na) (by lia);refine wpS_bind (Gv hx ?_);have h':=h.pushB hx (hl x hx);have hn':n<=(out.push x).size:=by rw [Array.size_push];lia
 generalize out.push x=out1 at h' hn';split
 ·rename_i e;exact wpS_pure (R.fin _ _ _ (SameG.refl _) (h'.first T (eq_of_beq e)))
 ·rename_i e;have e:1<nb:=by
   have:nb≠1:=λz=>e (beq_iff_eq.mpr z)
   lia
  refine wpS_bind (Gv hy ?_);have G:Gal b good true y c 0 nb:=O1 W gy (λi hi=>by rw [Nat.zero_add];exact T.ct (by lia)) (XH W h'.sb);refine wpS_bind (G4 L G hs (by lia) λk hk k1 k2=>?_);dsimp only;have tk:∀z∈(c.extract k nb).toList,∀v∈a.toList.take (na+1),kle b v z:=λz hz v hv=>by
   obtain ⟨i,hi,hj,ez⟩:=Vx hz;have:=k2 i hi hj;unfold byd at this;rw [Nat.zero_add,ez] at this;dsimp only at this;rw [if_pos rfl] at this;exact W.le_trans (Uh W h'.sa hy v hv) this
  have tr:∀v∈c.toList.take k,kle b v y:=λv hv=>by
   obtain ⟨i,hi,ev⟩:=taken hv;have:=k1 i hi;unfold byd at this;rw [Nat.zero_add,ev] at this;dsimp only at this;rw [if_pos rfl] at this;exact W.le_of_lt this
  split
  ·have h3:=h'.takeB hk tk;have hn3:n<=(out1++(c.extract k nb).reverse).size:=by rw [Array.size_append];lia
   split
   ·rename_i e2;exact wpS_pure (R.fin _ _ _ (SameG.refl _) (h3.first T (eq_of_beq e2)))
   ·rename_i e2;split
    ·rename_i e3;exact wpS_pure (R.fin _ _ _ (SameG.refl _) (h3.done (.inr (eq_of_beq e3))))
    ·rename_i e3;have e4:1<k:=by
      have:k≠1:=λz=>e2 (beq_iff_eq.mpr z);have:k≠0:=λz=>e3 (beq_iff_eq.mpr z)
      lia
     exact XJ T R h3 h1 ⟨e4,by lia⟩ hn3 λx' hx' v hv=>by
      rw [hy] at hx';cases hx';exact tr v hv
  ·have:k=nb:=by lia
   subst this;exact XJ T R h' h1 ⟨e,by lia⟩ hn' λx' hx' v hv=>by
    rw [hy] at hx';cases hx';exact tr v hv
theorem ZaB (W:WO b)(L:Oj M A E s kd b good)(T:Two b good a c){mg ac bc n:Nat}(R:∀st',SameG st st'->Za b a c n st' Q)(hs:kindOf st=kd)(h:MH b a c na (nb+1) out)(h1:0<na/\na<=a.size)(h2:0<nb/\nb+1<=c.size)(hn:n<=out.size) :
  wpS M A E s (mhB a c mg ac bc na (nb+1) out) Q st:=by
 unfold mhB;refine wpS_bind (JK λst1 sg=>?_);have R:=R st1 sg;have hs1:kindOf st1=kd:=sg.1.trans hs;dsimp only [Nat.add_sub_cancel];obtain ⟨x,hx,gx⟩:=T.ct (i:=nb) (by lia);refine wpS_bind (Gv hx ?_);have G:Gal b good false x a 0 na:=O1 W gx (λi hi=>by rw [Nat.zero_add];exact T.at (by lia)) (XH W h.sa);refine wpS_bind (G4 L G hs1 (by lia) λk hk k1 k2=>?_);dsimp only;have tk:∀z∈(a.extract k na).toList,∀v∈c.toList.take (nb+1),kle b v z:=λz hz v hv=>by
  obtain ⟨i,hi,hj,ez⟩:=Vx hz;have:=k2 i hi hj;unfold byd at this;rw [Nat.zero_add,ez] at this;dsimp only at this;rw [if_neg Bool.false_ne_true,Bool.not_eq_false'] at this;exact W.le_trans (Uh W h.sb hx v hv) (W.le_of_lt this)
 have tr:∀v∈a.toList.take k,kle b v x:=λv hv=>by
  obtain ⟨i,hi,ev⟩:=taken hv;have:=k1 i hi;unfold byd at this;rw [Nat.zero_add,ev] at this;dsimp only at this;rw [if_neg Bool.false_ne_true,Bool.not_eq_true'] at this;exact this
 split
 ·have h3:=h.takeA hk tk;have hn3:n<=(out++(a.extract k na).reverse).size:=by rw [Array.size_append];lia
  split
  ·rename_i e2;exact wpS_pure (R.fin _ _ _ (SameG.refl _) (h3.done (.inl (eq_of_beq e2))))
  ·rename_i e2;have:k≠0:=λz=>e2 (beq_iff_eq.mpr z);obtain ⟨k,rfl⟩:∃n,k=n+1:=⟨k-1,by lia⟩;exact XM W L T R hs1 h3 (by lia) h2 hn3 λx' hx' v hv=>by
    rw [hx] at hx';cases hx';exact tr v hv
 ·have:k=na:=by lia
  subst this;obtain ⟨k,rfl⟩:∃n,k=n+1:=⟨k-1,by lia⟩;exact XM W L T R hs1 h (by lia) h2 hn λx' hx' v hv=>by
   rw [hx] at hx';cases hx';exact tr v hv
end
theorem XN (W:WO b)(L:Oj M A E s kd b good)(T:Two b good a c){out:Array Keyed}{na nb n:Nat}{y:Nat×Nat×Nat}{st:SortSt}(hs:kindOf st=kd)(h:MH b a c na nb out)(h1:0<na/\na<=a.size)(h2:1<nb/\nb<=c.size){Q:MHt->SortSt->Prop}(q1:∀r y st',SameG st st'->G0 b (a.toList++c.toList) r.toList->Q (some r,y) st')(q2:∀na' nb' out' y st',SameG st st'->MH b a c na' nb' out'->(0<na'/\na'<=a.size)->(1<nb'/\nb'<=c.size)->out.size<=out'.size->Q (none,na',nb',out',y) st') :
  wpS M A E s (forIn [:n] ((none,na,nb,out,y):MHt) (Y8 a c)) Q st:=by
 refine wpS_forRange (λk r st'=>SameG st st'/\∃na' nb' out' y,r=(none,na',nb',out',y)/\MH b a c na' nb' out'/\(0<na'/\na'<=a.size)/\(1<nb'/\nb'<=c.size)/\out.size<=out'.size) ?_ ?_ ⟨SameG.refl _,_,_,_,_,rfl,h,h1,h2,Nat.le_refl _⟩
 ·rintro k r st1 _ hk ⟨sg,na',nb',out',y,rfl,h,h1,h2,h3⟩;have hs1:kindOf st1=kd:=sg.1.trans hs;have R:∀st',SameG st1 st'->Za b a c out.size st' (λr st'=>match r with
   | .done c'=>Q c' st'
   | .yield c'=>SameG st st'/\∃na' nb' out' y,c'=(none,na',nb',out',y)/\MH b a c na' nb' out'/\(0<na'/\na'<=a.size)/\(1<nb'/\nb'<=c.size)/\out.size<=out'.size):=λst' sg'=>
   ⟨λr y st2 g m=>q1 r y st2 ((sg.trans sg').trans g) m,λo i j y st2 g m p1 p2 p3=>q2 o i j y st2 ((sg.trans sg').trans g) m p1 p2 p3,λo i j y st2 g m p1 p2 p3=>⟨(sg.trans sg').trans g,o,i,j,y,rfl,m,p1,p2,p3⟩⟩
  unfold Y8;dsimp only;obtain ⟨nb',rfl⟩:∃n,nb'=n+1:=⟨nb' - 1,by lia⟩;have mono:∀mg,wpS M A E s (mhB a c mg y.2.1 y.2.2 na' (nb'+1) out') _ st1:=λmg=>ZaB W L T R hs1 h h1 ⟨by lia,h2.2⟩ h3;split
  ·exact wpS_mono (mono _) λr st' hr=>by cases r <;> exact hr
  ·exact wpS_mono (mono _) λr st' hr=>by cases r <;> exact hr
 ·rintro r st1 ⟨sg,na',nb',out',y,rfl,h,h1,h2,h3⟩;exact q2 _ _ _ _ _ sg h h1 h2 h3
theorem Vy (W:WO b)(L:Oj M A E s kd b good)(T:Two b good a c){st:SortSt}(hs:kindOf st=kd){Q:Array Keyed->SortSt->Prop}(q:∀r st',SameG st st'->G0 b (a.toList++c.toList) r.toList->Q r st'):wpS M A E s (Ud a c) Q st:=by
 rw [Vw];refine wpS_bind (wpS_lift (wpAny_rule ⟨rfl,?_⟩));have hc:=T.nc;have ha:=T.na;obtain ⟨x,hx,gx⟩:=T.at (i:=a.size-1) (by lia);refine wpS_bind (Gv hx ?_);have h0:MH b a c (a.size-1) c.size #[x]:=by
  have z:MH b a c (a.size-1+1) c.size #[]:=by
   unfold MH;rw [Nat.sub_add_cancel (by lia),List.take_of_length_le (by simp),List.take_of_length_le (by simp)];exact ⟨by simp,by simp,by simp,T.sa,T.sc⟩
  exact z.pushA hx λy hy=>T.last x hx y (List.mem_of_mem_take hy)
 dsimp only;split
 ·rename_i e;exact wpS_pure (q _ _ (SameG.refl _) (h0.done (.inl (eq_of_beq e))))
 ·rename_i e;have e:0<a.size-1:=by
   have:a.size-1≠0:=λz=>e (beq_iff_eq.mpr z)
   lia
  split
  ·rename_i e2;exact wpS_pure (q _ _ (SameG.refl _) (h0.first T (eq_of_beq e2)))
  ·rename_i e2;have e2:1<c.size:=by
    have:c.size≠1:=λz=>e2 (beq_iff_eq.mpr z)
    lia
   refine wpS_bind (wpS_get ?_);refine wpS_bind (wpS_forRange (λk r st'=>SameG st st'/\∃na' nb' out' mg,r=(none,na',nb',out',mg)/\MH b a c na' nb' out'/\(0<na'/\na'<=a.size)/\(1<nb'/\nb'<=c.size)/\k<out'.size) ?_ ?_ ⟨SameG.refl _,_,_,_,_,rfl,h0,⟨e,by lia⟩,⟨e2,Nat.le_refl _⟩,by simp⟩)
   ·rintro k r st1 _ hk ⟨sg,na',nb',out',mg,rfl,h,h1,h2,h3⟩;have hs1:kindOf st1=kd:=sg.1.trans hs;unfold Y9;dsimp only;refine wpS_bind (XI W L T hs1 h h1 h2 (λr y st2 g m=>?_) (λo i j ac bc st2 g m p1 p2 p3=>?_))
    ·refine wpS_pure ?_;dsimp only;exact wpS_pure (q r st2 (sg.trans g) m)
    ·dsimp only;refine wpS_bind (wpS_lift (wpAny_rule ⟨rfl,?_⟩));refine wpS_bind (XN W L T (g.1.trans hs1) m p1 p2 (λr y st3 g3 m3=>?_) (λo3 i3 j3 y3 st3 g3 m3 r1 r2 r3=>?_))
     ·refine wpS_pure ?_;dsimp only;exact wpS_pure (q r st3 ((sg.trans g).trans g3) m3)
     ·dsimp only;refine wpS_bind (JK λst4 g4=>?_);exact wpS_pure ⟨((sg.trans g).trans g3).trans g4,_,_,_,_,rfl,m3,r1,r2,by lia⟩
   ·rintro r st1 ⟨sg,na',nb',out',mg,rfl,h,h1,h2,h3⟩;exfalso;have:=MrgH.len h;rw [List.length_append,List.length_take,List.length_take,List.length_reverse,Array.length_toList,Array.length_toList,Array.length_toList] at this;simp at h3
    lia
end
end L2
namespace L2
open PySem PySem.Spec PyProof.Rows
abbrev Asc:=Option (Option Nat)×Nat
abbrev Dsc:=Option (Option Nat)×Nat×Nat
def ZaC (lo:Nat):Nat->Asc->StateT SortSt Sem (ForInStep Asc):=λ_ r=>do
 match <- ltAt' (lo+r.2) (lo+r.2-1) with
 | some smaller=>if smaller=true then pure (.done (none,r.2)) else pure (.yield (none,r.2+1))
 | _=>pure (.done (some none,r.2))
def ZcL (lo:Nat):Nat->Dsc->StateT SortSt Sem (ForInStep Dsc):=λ_ r=>do
 match <- ltAt' (lo+r.2.1) (lo+r.2.1-1) with
 | some smaller=>
  if smaller=true then
   if r.2.2 > 0 then do
    reverseSlice' (lo+r.2.1-(r.2.2+1)) (lo+r.2.1)
    pure (.yield (none,r.2.1+1,0))
   else pure (.yield (none,r.2.1+1,0))
  else do
   match <- ltAt' (lo+r.2.1-1) (lo+r.2.1) with
   | some larger=>if larger=true then pure (.done (none,r.2.1,r.2.2)) else pure (.yield (none,r.2.1+1,r.2.2+1))
   | _=>pure (.done (some none,r.2.1,r.2.2))
 | _=>pure (.done (some none,r.2.1,r.2.2))
def UT (lo n qW:Nat):StateT SortSt Sem (Option Nat):=do
 reverseSlice' lo (lo+n)
 let r <- forIn [n:qW] ((none,n):Asc) (ZaC lo)
 match r.1 with
 | some x=>pure x
 | none=>pure (some r.2)
def WF (lo n qW:Nat):StateT SortSt Sem (Option Nat):=do
 liftM (rule "list.sort.descending-run")
 let r <- forIn [n+1:qW] ((none,n+1,0):Dsc) (ZcL lo)
 match r.1 with
 | some x=>pure x
 | none=>(if r.2.2 > 0 then (do
   reverseSlice' (lo+r.2.1-(r.2.2+1)) (lo+r.2.1)
   UT lo r.2.1 qW) else UT lo r.2.1 qW)
theorem Vz (lo qW:Nat):countRun' lo qW=(do
  let r <- forIn [1:qW] ((none,1):Asc) (ZaC lo)
  match r.1 with
  | some x=>pure x
  | none=>(if (r.2 == qW)=true then pure (some r.2) else (if r.2 > 1 then (do
    match <- ltAt' lo (lo+r.2-1) with
    | some rose=>(if rose=true then pure (some r.2) else (do
      reverseSlice' lo (lo+r.2)
      WF lo r.2 qW))
    | _=>pure none)
   else WF lo r.2 qW))):=by
 rw [countRun'_eq];refine (congrArg (λm:StateT SortSt Sem Asc=>m >>= _) (OH (r:=[1:qW]) (c:=((none,1):Asc)) (g:=ZaC lo) λi r=>rfl)).trans ?_;refine GT λr=>?_;obtain ⟨r1,r2⟩:=r;cases r1 with
 | some z=>rfl
 | none=>
  refine Uf (c:=(r2 == qW)=true) rfl ?_;refine Uf (c:=r2 > 1) ?_ ?_
  ·refine GT λz=>?_;cases z with
   | none=>rfl
   | some z=>
    refine Uf (c:=z=true) rfl ?_;refine GT λ_=>?_;unfold WF;refine GT λ_=>?_;refine (congrArg (λm:StateT SortSt Sem Dsc=>m >>= _) (OH (r:=[r2+1:qW]) (c:=((none,r2+1,0):Dsc)) (g:=ZcL lo) λi r=>rfl)).trans ?_;refine GT λr=>?_;obtain ⟨r1,r2,r3⟩:=r;cases r1 with
    | some z=>rfl
    | none=>
     refine Uf (c:=r3 > 0) (GT λ_=>?_) ?_
     all_goals
      unfold UT;refine GT λ_=>?_;refine (congrArg (λm:StateT SortSt Sem Asc=>m >>= _) (OH (r:=[r2:qW]) (c:=((none,r2):Asc)) (g:=ZaC lo) λi r=>rfl)).trans ?_;refine GT λr=>?_;obtain ⟨r1,r2⟩:=r;cases r1 <;> rfl
  ·unfold WF;refine GT λ_=>?_;refine (congrArg (λm:StateT SortSt Sem Dsc=>m >>= _) (OH (r:=[r2+1:qW]) (c:=((none,r2+1,0):Dsc)) (g:=ZcL lo) λi r=>rfl)).trans ?_;refine GT λr=>?_;obtain ⟨r1,r2,r3⟩:=r;cases r1 with
   | some z=>rfl
   | none=>
    refine Uf (c:=r3 > 0) (GT λ_=>?_) ?_
    all_goals
     unfold UT;refine GT λ_=>?_;refine (congrArg (λm:StateT SortSt Sem Asc=>m >>= _) (OH (r:=[r2:qW]) (c:=((none,r2):Asc)) (g:=ZaC lo) λi r=>rfl)).trans ?_;refine GT λr=>?_;obtain ⟨r1,r2⟩:=r;cases r1 <;> rfl
end L2
namespace L2
open PySem PySem.Spec PyProof.Rows
structure Ah (lo:Nat)(st st':SortSt):Prop where
 kd:kindOf st'=kindOf st
 pe:pendingOf st'=pendingOf st
 fa:failedOf st'=failedOf st
 pm:(arrOf st').Perm (arrOf st)
 lw:∀i,i<lo->(arrOf st')[i]?=(arrOf st)[i]?
theorem Ah.refl (lo:Nat)(st:SortSt):Ah lo st st:=⟨rfl,rfl,rfl,.refl _,λ_ _=>rfl⟩
theorem Ah.trans {lo:Nat}{st st' st'':SortSt}(h:Ah lo st st')(k:Ah lo st' st''):Ah lo st st'':=
 ⟨k.kd.trans h.kd,k.pe.trans h.pe,k.fa.trans h.fa,k.pm.trans h.pm,λi hi=>(k.lw i hi).trans (h.lw i hi)⟩
theorem Ah.size {lo:Nat}{st st':SortSt}(h:Ah lo st st'):(arrOf st').size=(arrOf st).size:=h.pm.size_eq
def AllG (good:Keyed->Prop)(arr:Array Keyed):Prop:=∀x∈arr.toList,good x
theorem AllG.perm {good:Keyed->Prop}{a c:Array Keyed}(h:AllG good a)(p:c.Perm a):AllG good c:=λx hx=>h x (p.toList.mem_iff.mp hx)
theorem AllG.at {good:Keyed->Prop}{a:Array Keyed}(h:AllG good a){i:Nat}(hi:i<a.size):∃x,a[i]?=some x/\good x:=⟨a[i],by simp [hi],h _ (by simp)⟩
def YA (b:Keyed->Keyed->Bool)(arr:Array Keyed)(lo hi:Nat):Prop:=∀i j x y,lo<=i->i<=j->j<hi->arr[i]?=some x->arr[j]?=some y->kle b y x
section
variable {M:Model}{A:Around}{E:Value->Shared->Prop}{s:Shared}{kd:SortKind}{b:Keyed->Keyed->Bool}{good:Keyed->Prop}
theorem J3 {st:SortSt}{i j:Nat}{Q:Option Bool->SortSt->Prop}(L:Oj M A E s kd b good)(hs:kindOf st=kd)(G:AllG good (arrOf st))(hi:i<(arrOf st).size)(hj:j<(arrOf st).size)(q:∀x y,(arrOf st)[i]?=some x->(arrOf st)[j]?=some y->Q (some (b x y)) st):wpS M A E s (ltAt' i j) Q st:=by
 obtain ⟨x,hx,gx⟩:=G.at hi;obtain ⟨y,hy,gy⟩:=G.at hj;rw [ltAt'_eq];refine wpS_bind (wpS_get ?_);exact wpS_bind (Gv hx (wpS_bind (Gv hy (L x y st Q gx gy hs (q x y hx hy)))))
theorem ZaD (arr:Array Keyed)(W:WO b)(lo:Nat):Rng b arr lo (lo+1):=λi j x y h1 h2 h3 e1 e2=>by
 have:i=j:=by lia
 subst this;rw [e1] at e2;cases e2;exact W.le_refl _
theorem Zb {arr:Array Keyed}(W:WO b){lo n:Nat}{x y:Keyed}(h:Rng b arr lo (lo+n))(hn:0<n)(hx:arr[lo+n-1]?=some x)(hy:arr[lo+n]?=some y)(hxy:kle b x y):Rng b arr lo (lo+n+1):=λi j u v h1 h2 h3 e1 e2=>by
 by_cases hj:j<lo+n
 ·exact h i j u v h1 h2 hj e1 e2
 ·have:j=lo+n:=by lia
  subst this;rw [hy] at e2;cases e2;by_cases hi:i=lo+n
  ·subst hi;rw [hy] at e1;cases e1;exact W.le_refl _
  ·exact W.le_trans (h i (lo+n-1) u x h1 (by lia) (by lia) e1 hx) hxy
theorem JA {arr:Array Keyed}(W:WO b){lo n:Nat}{x y:Keyed}(h:YA b arr lo (lo+n))(hn:0<n)(hx:arr[lo+n-1]?=some x)(hy:arr[lo+n]?=some y)(hxy:kle b y x):YA b arr lo (lo+n+1):=λi j u v h1 h2 h3 e1 e2=>by
 by_cases hj:j<lo+n
 ·exact h i j u v h1 h2 hj e1 e2
 ·have:j=lo+n:=by lia
  subst this;rw [hy] at e2;cases e2;by_cases hi:i=lo+n
  ·subst hi;rw [hy] at e1;cases e1;exact W.le_refl _
  ·exact W.le_trans hxy (h i (lo+n-1) u x h1 (by lia) (by lia) e1 hx)
theorem XO (W:WO b)(L:Oj M A E s kd b good){st:SortSt}{lo a qW:Nat}{Q:Asc->SortSt->Prop}(hs:kindOf st=kd)(G:AllG good (arrOf st))(hn:lo+qW<=(arrOf st).size)(h1:1<=a)(h2:a<=qW)(h3:Rng b (arrOf st) lo (lo+a))(q:∀n,a<=n->n<=qW->Rng b (arrOf st) lo (lo+n)->(n=qW\/∃x y,(arrOf st)[lo+n-1]?=some x/\(arrOf st)[lo+n]?=some y/\b y x=true)->Q (none,n) st):wpS M A E s (forIn [a:qW] ((none,a):Asc) (ZaC lo)) Q st:=by
 refine wpS_forRange (λk r st'=>st'=st/\r=(none,k)/\a<=k/\k<=qW/\Rng b (arrOf st) lo (lo+k)) ?_ ?_ ⟨rfl,rfl,Nat.le_refl _,h2,h3⟩
 ·rintro k r st' _ hk ⟨rfl,rfl,h4,h5,h6⟩;unfold ZaC;refine wpS_bind (J3 L hs G (by show lo+k<_;lia) (by show lo+k-1<_;lia) λy x hy hx=>?_);dsimp only;split
  ·rename_i hb;exact wpS_pure (q k h4 h5 h6 (.inr ⟨x,y,hx,hy,hb⟩))
  ·rename_i hb;exact wpS_pure ⟨rfl,rfl,by lia,by lia,Zb W h6 (by lia) hx hy (Bool.eq_false_iff.mpr hb)⟩
 ·rintro r st' ⟨rfl,rfl,h4,h5,h6⟩;rw [Nat.max_eq_right h2] at h6 ⊢;exact q qW h2 (Nat.le_refl _) h6 (.inl rfl)
def XQ (b:Keyed->Keyed->Bool)(arr:Array Keyed)(lo hi:Nat):Prop:=∀i j x y,lo<=i->i<hi->lo<=j->j<hi->arr[i]?=some x->arr[j]?=some y->kle b x y
theorem J4 {st:SortSt}{lo i j:Nat}(h:lo<=i)(hj:j<=(arrOf st).size):Ah lo st (setArr st (mirror (arrOf st) i j ((j-i) / 2))):=by
 refine ⟨rfl,rfl,rfl,mirror_perm _ _ _ _,λk hk=>?_⟩;show (mirror (arrOf st) i j ((j-i) / 2))[k]?=_;rw [getElem?_mirror_all hj,if_neg (by lia)]
theorem WG {arr:Array Keyed}{lo hi:Nat}(hj:hi<=arr.size)(h:YA b arr lo hi):Rng b (mirror arr lo hi ((hi-lo) / 2)) lo hi:=λi j x y h1 h2 h3 e1 e2=>by
 rw [getElem?_mirror_all hj,if_pos (by lia)] at e1 e2;exact h (lo+hi-1-j) (lo+hi-1-i) y x (by lia) (by lia) (by lia) e2 e1
theorem JT {arr:Array Keyed}{lo hi i j:Nat}(hj:j<=arr.size)(h1:lo<=i)(h2:i<=j)(h3:j<=hi)(hA:XQ b arr i j)(h:YA b arr lo hi):YA b (mirror arr i j ((j-i) / 2)) lo hi:=λp q x y k1 k2 k3 e1 e2=>by
 rw [getElem?_mirror_all hj] at e1 e2;by_cases hp:i<=p/\p<j
 ·rw [if_pos hp] at e1;by_cases hq:i<=q/\q<j
  ·rw [if_pos hq] at e2;exact hA (i+j-1-q) (i+j-1-p) y x (by lia) (by lia) (by lia) (by lia) e2 e1
  ·rw [if_neg hq] at e2;exact h _ q x y (by lia) (by lia) k3 e1 e2
 ·rw [if_neg hp] at e1;by_cases hq:i<=q/\q<j
  ·rw [if_pos hq] at e2;exact h p _ x y k1 (by lia) (by lia) e1 e2
  ·rw [if_neg hq] at e2;exact h p q x y k1 k2 k3 e1 e2
def Zdf (b:Keyed->Keyed->Bool)(lo qW:Nat)(st:SortSt)(Q:Option Nat->SortSt->Prop):Prop:=∀m st',Ah lo st st'->1<=m->m<=qW->Rng b (arrOf st') lo (lo+m)->Q (some m) st'
theorem UU (W:WO b)(L:Oj M A E s kd b good){st:SortSt}{lo n qW:Nat}{Q:Option Nat->SortSt->Prop}(hs:kindOf st=kd)(G:AllG good (arrOf st))(hn:lo+qW<=(arrOf st).size)(h1:1<=n)(h2:n<=qW)(h3:YA b (arrOf st) lo (lo+n))(q:Zdf b lo qW st Q):wpS M A E s (UT lo n qW) Q st:=by
 unfold UT;rw [reverseSlice'_eq];refine wpS_bind (wpS_modify ?_);have ah:=J4 (st:=st) (lo:=lo) (i:=lo) (j:=lo+n) (Nat.le_refl _) (by lia);have r:=WG (arr:=arrOf st) (lo:=lo) (hi:=lo+n) (by lia) h3;generalize hst:setArr st (mirror (arrOf st) lo (lo+n) ((lo+n-lo) / 2))=st1 at ah;have e1:arrOf st1=mirror (arrOf st) lo (lo+n) ((lo+n-lo) / 2):=by rw [<-hst]
 rw [<-e1] at r;refine wpS_bind (XO W L (ah.kd.trans hs) (G.perm ah.pm) (by rw [ah.size];exact hn) h1 h2 r λm k1 k2 k3 _=>?_);dsimp only;exact wpS_pure (q m st1 ah (by lia) k2 k3)
theorem UV (W:WO b)(L:Oj M A E s kd b good){st:SortSt}{lo n qW:Nat}{Q:Option Nat->SortSt->Prop}(hs:kindOf st=kd)(G:AllG good (arrOf st))(hn:lo+qW<=(arrOf st).size)(h2:n+1<=qW)(h3:YA b (arrOf st) lo (lo+(n+1)))(q:Zdf b lo qW st Q):wpS M A E s (WF lo n qW) Q st:=by
 unfold WF;refine wpS_bind (wpS_lift (wpAny_rule ⟨rfl,?_⟩));have fin:∀m neq st1,Ah lo st st1->n+1<=m->m<=qW->YA b (arrOf st1) lo (lo+m)->neq+1<=m->XQ b (arrOf st1) (lo+m-(neq+1)) (lo+m) ->
   wpS M A E s (if neq > 0 then (do reverseSlice' (lo+m-(neq+1)) (lo+m);UT lo m qW) else UT lo m qW) Q st1:=by
  intro m neq st1 ah k1 k2 k3 k4 k5;have G1:=G.perm ah.pm;have hn1:lo+qW<=(arrOf st1).size:=by rw [ah.size];exact hn
  split
  ·rw [reverseSlice'_eq];refine wpS_bind (wpS_modify ?_);have ah2:=J4 (st:=st1) (lo:=lo) (i:=lo+m-(neq+1)) (j:=lo+m) (by lia) (by lia);have r:=JT (arr:=arrOf st1) (lo:=lo) (hi:=lo+m) (i:=lo+m-(neq+1)) (j:=lo+m) (by lia) (by lia) (by lia) (Nat.le_refl _) k5 k3;generalize hst:setArr st1 (mirror (arrOf st1) (lo+m-(neq+1)) (lo+m) ((lo+m-(lo+m-(neq+1))) / 2))=st2 at ah2;have e1:arrOf st2=mirror (arrOf st1) (lo+m-(neq+1)) (lo+m) ((lo+m-(lo+m-(neq+1))) / 2):=by rw [<-hst]
   rw [<-e1] at r;have ah3:=ah.trans ah2;exact UU W L (ah3.kd.trans hs) (G.perm ah3.pm) (by rw [ah3.size];exact hn) (by lia) k2 r λm' st' a'=>q m' st' (ah3.trans a')
  ·exact UU W L (ah.kd.trans hs) G1 hn1 (by lia) k2 k3 λm' st' a'=>q m' st' (ah.trans a')
 have al0:∀(arr:Array Keyed) m,XQ b arr (lo+m-(0+1)) (lo+m):=λarr m i j x y i1 i2 i3 i4 e1 e2=>by
  have:i=j:=by lia
  subst this;rw [e1] at e2;cases e2;exact W.le_refl _
 refine wpS_bind (wpS_forRange (λk r st1=>Ah lo st st1/\∃neq,r=(none,k,neq)/\n+1<=k/\k<=qW/\YA b (arrOf st1) lo (lo+k)/\neq+1<=k/\XQ b (arrOf st1) (lo+k-(neq+1)) (lo+k)) ?_ ?_ ⟨Ah.refl _ _,0,rfl,Nat.le_refl _,h2,h3,by lia,al0 _ _⟩)
 ·rintro k r st1 _ hk ⟨ah,neq,rfl,k1,k2,k3,k4,k5⟩;have G1:=G.perm ah.pm;have hn1:lo+qW<=(arrOf st1).size:=by rw [ah.size];exact hn
  have hs1:=ah.kd.trans hs;unfold ZcL;refine wpS_bind (J3 L hs1 G1 (by show lo+k<_;lia) (by show lo+k-1<_;lia) λy x hy hx=>?_);dsimp only;split
  ·rename_i hb;have hyx:=W.le_of_lt hb;split
   ·rw [reverseSlice'_eq];refine wpS_bind (wpS_modify ?_);have ah2:=J4 (st:=st1) (lo:=lo) (i:=lo+k-(neq+1)) (j:=lo+k) (by lia) (by lia);have r:=JT (arr:=arrOf st1) (lo:=lo) (hi:=lo+k) (i:=lo+k-(neq+1)) (j:=lo+k) (by lia) (by lia) (by lia) (Nat.le_refl _) k5 k3;have e3:(mirror (arrOf st1) (lo+k-(neq+1)) (lo+k) ((lo+k-(lo+k-(neq+1))) / 2))[lo+k]?=some y:=by rw [getElem?_mirror_all (by lia),if_neg (by lia)];exact hy
    have e4:∃z,(mirror (arrOf st1) (lo+k-(neq+1)) (lo+k) ((lo+k-(lo+k-(neq+1))) / 2))[lo+k-1]?=some z/\kle b y z:=by
     obtain ⟨z,hz,_⟩:=G1.at (i:=lo+k-(neq+1)) (by lia);refine ⟨z,?_,W.le_trans hyx (k3 (lo+k-(neq+1)) (lo+k-1) z x (by lia) (by lia) (by lia) hz hx)⟩;rw [getElem?_mirror_all (by lia),if_pos (by lia),<-hz]
     congr 1
     lia
    generalize hst:setArr st1 (mirror (arrOf st1) (lo+k-(neq+1)) (lo+k) ((lo+k-(lo+k-(neq+1))) / 2))=st2 at ah2;have e1:arrOf st2=mirror (arrOf st1) (lo+k-(neq+1)) (lo+k) ((lo+k-(lo+k-(neq+1))) / 2):=by rw [<-hst]
    rw [<-e1] at r e3 e4;obtain ⟨z,hz,hyz⟩:=e4;exact wpS_pure ⟨ah.trans ah2,0,rfl,by lia,by lia,JA W r (by lia) hz e3 hyz,by lia,al0 _ _⟩
   ·exact wpS_pure ⟨ah,0,rfl,by lia,by lia,JA W k3 (by lia) hx hy hyx,by lia,al0 _ _⟩
  ·rename_i hb;have hxy:kle b x y:=Bool.eq_false_iff.mpr hb;refine wpS_bind (J3 L hs1 G1 (by show lo+k-1<_;lia) (by show lo+k<_;lia) λx' y' hx' hy'=>?_);rw [hx] at hx';cases hx';rw [hy] at hy';cases hy';dsimp only;split
   ·refine wpS_pure ?_;dsimp only;exact fin k neq st1 ah k1 k2 k3 k4 k5
   ·rename_i hb2;have hyx:kle b y x:=Bool.eq_false_iff.mpr hb2;refine wpS_pure ⟨ah,neq+1,rfl,by lia,by lia,JA W k3 (by lia) hx hy hyx,by lia,λi j u v i1 i2 i3 i4 e1 e2=>?_⟩;have toX:∀i u,lo+k-(neq+1)<=i->i<lo+(k+1)->(arrOf st1)[i]?=some u->kle b u x/\kle b x u:=λi u p1 p2 e=>by
     by_cases hi:i<lo+k
     ·exact ⟨k5 i (lo+k-1) u x p1 hi (by lia) (by lia) e hx,k5 (lo+k-1) i x u (by lia) (by lia) p1 hi hx e⟩
     ·have:i=lo+k:=by lia
      subst this;rw [hy] at e;cases e;exact ⟨hyx,hxy⟩
    exact W.le_trans (toX i u (by lia) i2 e1).1 (toX j v (by lia) i4 e2).2
 ·rintro r st1 ⟨ah,neq,rfl,k1,k2,k3,k4,k5⟩;dsimp only;rw [Nat.max_eq_right h2] at *;exact fin qW neq st1 ah k1 k2 k3 k4 k5
theorem Ui (W:WO b)(L:Oj M A E s kd b good){st:SortSt}{lo qW:Nat}{Q:Option Nat->SortSt->Prop}(hs:kindOf st=kd)(G:AllG good (arrOf st))(hn:lo+qW<=(arrOf st).size)(h1:1<=qW)(q:Zdf b lo qW st Q):wpS M A E s (countRun' lo qW) Q st:=by
 rw [Vz];refine wpS_bind (XO W L hs G hn (Nat.le_refl _) h1 (ZaD _ W _) λn k1 k2 k3 k4=>?_);dsimp only;split
 ·exact wpS_pure (q n st (Ah.refl _ _) k1 k2 k3)
 ·rename_i e;have e:n≠qW:=λz=>e (beq_iff_eq.mpr z);obtain ⟨x,y,hx,hy,hb⟩:=k4.resolve_left e;have hyx:=W.le_of_lt hb;split
  ·rename_i e1;refine wpS_bind (J3 L hs G (by lia) (by lia) λu v hu hv=>?_);rw [hx] at hv;cases hv;dsimp only;split
   ·exact wpS_pure (q n st (Ah.refl _ _) k1 k2 k3)
   ·rename_i hb2;have hxu:kle b x u:=Bool.eq_false_iff.mpr hb2;have al:XQ b (arrOf st) lo (lo+n):=λi j p r i1 i2 i3 i4 e1 e2=>
     W.le_trans (k3 i (lo+n-1) p x i1 (by lia) (by lia) e1 hx) (W.le_trans hxu (k3 lo j u r (Nat.le_refl _) i3 i4 hu e2))
    have ni:YA b (arrOf st) lo (lo+n):=λi j p r i1 i2 i3 e1 e2=>al j i r p (by lia) i3 i1 (by lia) e2 e1;rw [reverseSlice'_eq];refine wpS_bind (wpS_modify ?_);have ah:=J4 (st:=st) (lo:=lo) (i:=lo) (j:=lo+n) (Nat.le_refl _) (by lia);have r:=JT (arr:=arrOf st) (lo:=lo) (hi:=lo+n) (i:=lo) (j:=lo+n) (by lia) (Nat.le_refl _) (by lia) (Nat.le_refl _) al ni;have e3:(mirror (arrOf st) lo (lo+n) ((lo+n-lo) / 2))[lo+n]?=some y:=by rw [getElem?_mirror_all (by lia),if_neg (by lia)];exact hy
    have e4:(mirror (arrOf st) lo (lo+n) ((lo+n-lo) / 2))[lo+n-1]?=some u:=by
     rw [getElem?_mirror_all (by lia),if_pos (by lia),<-hu]
     congr 1
     lia
    generalize hst:setArr st (mirror (arrOf st) lo (lo+n) ((lo+n-lo) / 2))=st2 at ah;have e1:arrOf st2=mirror (arrOf st) lo (lo+n) ((lo+n-lo) / 2):=by rw [<-hst]
    rw [<-e1] at r e3 e4;exact UV W L (ah.kd.trans hs) (G.perm ah.pm) (by rw [ah.size];exact hn) (by lia) (JA W r (by lia) e4 e3 (W.le_trans hyx hxu)) λm' st' a'=>q m' st' (ah.trans a')
  ·have:n=1:=by lia
   subst this;refine UV W L hs G hn (by lia) (JA W (λi j p r i1 i2 i3 e1 e2=>?_) (by lia) hx hy hyx) q;have:i=j:=by lia
   subst this;rw [e1] at e2;cases e2;exact W.le_refl _
end
end L2
namespace L2
open PySem PySem.Spec PyProof.Rows
section
variable {M:Model}{A:Around}{E:Value->Shared->Prop}{s:Shared}{kd:SortKind}{b:Keyed->Keyed->Bool}{good:Keyed->Prop}
theorem WH (W:WO b){arr:Array Keyed}{lo k l:Nat}{p:Keyed}(hk:lo+k<arr.size)(hl:l<=k)(h:Rng b arr lo (lo+k))(hp:arr[lo+k]?=some p)(h1:∀i x,i<l->arr[lo+i]?=some x->kle b x p)(h2:∀i x,l<=i->i<k->arr[lo+i]?=some x->kle b p x) :
  Rng b (bubble arr (lo+k) (lo+k-(lo+l))) lo (lo+(k+1)):=by
 have e0:lo+k-(lo+k-(lo+l))=lo+l:=by lia
 have at_:∀q,(bubble arr (lo+k) (lo+k-(lo+l)))[q]?=if q=lo+l then some p else if lo+l<q/\q<=lo+k then arr[q-1]? else arr[q]?:=λq=>by
  rw [getElem?_bubble hk _ (by lia),e0,hp]
 intro i j x y i1 i2 i3 e1 e2;rw [at_] at e1 e2;have low:∀q z,lo<=q->q<lo+l->arr[q]?=some z->kle b z p:=λq z q1 q2 e=>h1 (q-lo) z (by lia) (by rw [Nat.add_sub_cancel' q1];exact e);have high:∀q z,lo+l<=q->q<lo+k->arr[q]?=some z->kle b p z:=λq z q1 q2 e=>h2 (q-lo) z (by lia) (by lia) (by rw [Nat.add_sub_cancel' (by lia)];exact e);by_cases ci:i=lo+l
 ·rw [if_pos ci] at e1;cases e1;by_cases cj:j=lo+l
  ·rw [if_pos cj] at e2;cases e2;exact W.le_refl _
  ·rw [if_neg cj,if_pos (by lia)] at e2;exact high (j-1) y (by lia) (by lia) e2
 ·rw [if_neg ci] at e1;by_cases di:lo+l<i/\i<=lo+k
  ·rw [if_pos di] at e1;rw [if_neg (by lia),if_pos (by lia)] at e2;exact h (i-1) (j-1) x y (by lia) (by lia) (by lia) e1 e2
  ·rw [if_neg di] at e1;by_cases cj:j=lo+l
   ·rw [if_pos cj] at e2;cases e2;exact low i x i1 (by lia) e1
   ·rw [if_neg cj] at e2;by_cases dj:lo+l<j/\j<=lo+k
    ·rw [if_pos dj] at e2;exact h i (j-1) x y i1 (by lia) (by lia) e1 e2
    ·rw [if_neg dj] at e2;exact h i j x y i1 i2 (by lia) e1 e2
theorem XR {st:SortSt}{lo src d:Nat}(h1:src<(arrOf st).size)(h2:d<=src)(h3:lo<=src-d):Ah lo st (setArr st (bubble (arrOf st) src d)):=by
 refine ⟨rfl,rfl,rfl,bubble_perm _ _ _,λk hk=>?_⟩;show (bubble (arrOf st) src d)[k]?=_;rw [getElem?_bubble h1 _ h2,if_neg (by lia),if_neg (by lia)]
theorem WI (W:WO b)(L:Oj M A E s kd b good){st:SortSt}{lo n ok:Nat}{Q:Bool->SortSt->Prop}(hs:kindOf st=kd)(G:AllG good (arrOf st))(hn:lo+n<=(arrOf st).size)(h1:1<=ok)(h2:ok<=n)(h3:Rng b (arrOf st) lo (lo+ok))(q:∀st',Ah lo st st'->Rng b (arrOf st') lo (lo+n)->Q true st'):wpS M A E s (binarySort' lo n ok) Q st:=by
 rw [binarySort'_eq,Nat.max_eq_left h1];refine wpS_bind (wpS_forRange (λk r st1=>Ah lo st st1/\r=(none,())/\ok<=k/\k<=n/\Rng b (arrOf st1) lo (lo+k)) ?_ ?_ ⟨Ah.refl _ _,rfl,Nat.le_refl _,h2,h3⟩)
 ·rintro k r st1 _ hk ⟨ah,rfl,k1,k2,k3⟩;have G1:=G.perm ah.pm;have hn1:lo+n<=(arrOf st1).size:=by rw [ah.size];exact hn
  have hs1:=ah.kd.trans hs;obtain ⟨p,hp,gp⟩:=G1.at (i:=lo+k) (by lia);have fin:∀l,l<=k->(∀i x,i<l->(arrOf st1)[lo+i]?=some x->kle b x p)->(∀i x,l<=i->i<k->(arrOf st1)[lo+i]?=some x->kle b p x) ->
    wpS M A E s (do moveDown' (lo+k) (lo+l);pure (ForInStep.yield ((none,()):Option Bool×Unit))) (λr st'=>match r with
     | .done c'=>False
     | .yield c'=>Ah lo st st'/\c'=(none,())/\ok<=k+1/\k+1<=n/\Rng b (arrOf st') lo (lo+(k+1))) st1:=by
   intro l hl g1 g2;rw [moveDown'_eq];refine wpS_bind (wpS_modify ?_);have ah2:=XR (st:=st1) (lo:=lo) (src:=lo+k) (d:=lo+k-(lo+l)) (by lia) (by lia) (by lia);exact wpS_pure ⟨ah.trans ah2,rfl,by lia,by lia,WH W (by lia) hl k3 hp g1 g2⟩
  dsimp only;refine wpS_bind (wpS_forRange (λi c st'=>st'=st1/\∃l r,c=(none,l,r)/\l<=r/\r<=k/\r-l<=k-i/\(∀i x,i<l->(arrOf st1)[lo+i]?=some x->kle b x p)/\(∀i x,r<=i->i<k->(arrOf st1)[lo+i]?=some x->kle b p x)) ?_ ?_ ⟨rfl,0,k,rfl,by lia,by lia,by lia,λi x hi=>by lia,λi x h1 h2=>by lia⟩)
  ·rintro i c st' _ hi ⟨rfl,l,r,rfl,g1,g2,g3,g4,g5⟩;dsimp only;split
   ·have:l=r:=by lia
    subst this;refine wpS_pure ?_;dsimp only;exact wpS_mono (fin l g2 g4 g5) λr st' hr=>by
     cases r with
     | done z=>exact False.elim hr
     | yield z=>exact hr
   ·refine wpS_bind (J3 L hs1 G1 (by lia) (by lia) λp' m hp' hm=>?_);rw [hp] at hp';cases hp';dsimp only;split
    ·rename_i hb;refine wpS_pure ⟨rfl,_,_,rfl,by lia,by lia,by lia,g4,λj x j1 j2 e=>?_⟩;exact W.le_trans (W.le_of_lt hb) (k3 _ (lo+j) m x (by lia) (by lia) (by lia) hm e)
    ·rename_i hb;refine wpS_pure ⟨rfl,_,_,rfl,by lia,by lia,by lia,λj x j1 e=>?_,g5⟩;exact W.le_trans (k3 (lo+j) _ x m (by lia) (by lia) (by lia) e hm) (Bool.eq_false_iff.mpr hb)
  ·rintro c st' ⟨rfl,l,r,rfl,g1,g2,g3,g4,g5⟩;have:l=r:=by simp at g3;lia
   subst this;dsimp only;exact wpS_mono (fin l g2 g4 g5) λr st' hr=>by
     cases r with
     | done z=>exact False.elim hr
     | yield z=>exact hr
 ·rintro r st1 ⟨ah,rfl,k1,k2,k3⟩;dsimp only;rw [Nat.max_eq_right h2] at k3;exact wpS_pure (q st1 ah k3)
end
end L2
namespace L2
open PySem PySem.Spec PyProof.Rows
def J5 (arr:Array Keyed)(base:Nat)(l:List Keyed):Array Keyed:=List.foldl (λa (x:Keyed×Nat)=>a.setIfInBounds (base+x.2) x.1) arr l.zipIdx
def Zc (sa:Nat)(merged:Array Keyed):StateT SortSt Sem Bool:=do
 modify λs=>setArr s (J5 (arrOf s) sa merged.toList)
 let s <- get
 pure (failedOf s).isNone
def ZbQ (st:SortSt)(sa na sb nb:Nat):StateT SortSt Sem Bool:=(if (nb == 0)=true then pure true else (if na<=nb then (do
  let m <- Uc ((arrOf st).extract sa sb) ((arrOf st).extract sb (sb+nb))
  Zc sa m) else (do
  let m <- Ud ((arrOf st).extract sa sb) ((arrOf st).extract sb (sb+nb))
  Zc sa m)))
def ZbR (st:SortSt)(sa na sb nb:Nat):StateT SortSt Sem Bool:=(if (na == 0)=true then pure true else (do
  let y <- elem' (arrOf st) (sa+na-1)
  match <- Jz true y (arrOf st) sb nb (nb-1) with
  | some nb=>ZbQ st sa na sb nb
  | _=>pure false))
theorem VA (i:Nat):mergeAt' i=(do
  let st <- get
  match (pendingOf st)[i]?,(pendingOf st)[i+1]? with
  | some (sa,na,power),some (sb,nb,_)=>do
   set (setPending st (((pendingOf st).setIfInBounds i (sa,na+nb,power)).eraseIdxIfInBounds (i+1)))
   let x <- elem' (arrOf st) sb
   match <- Jz false x (arrOf st) sa na 0 with
   | some k=>ZbR st (sa+k) (na-k) sb nb
   | _=>pure false
  | _,_=>liftM (unsupported "internal:list.sort.pending")):=by
 refine GT (m:=get) λst=>?_;cases (pendingOf st)[i]? with
 | none=>rfl
 | some p=>
  cases (pendingOf st)[i+1]? with
  | none=>rfl
  | some q=>
   obtain ⟨sa,na,pw⟩:=p;obtain ⟨sb,nb,pw'⟩:=q
   rfl
end L2
namespace L2
open PySem PySem.Spec PyProof.Rows
theorem ZU:∀(l:List Keyed)(arr:Array Keyed)(base n i:Nat),base+n+l.length<=arr.size ->
  (List.foldl (λa (x:Keyed×Nat)=>a.setIfInBounds (base+x.2) x.1) arr (l.zipIdx n))[i]?=if base+n<=i/\i<base+n+l.length then l[i-(base+n)]? else arr[i]?
 | [],arr,base,n,i,_=>by
  rw [if_neg (by simp)]
  rfl
 | x::l,arr,base,n,i,h=>by
  rw [List.zipIdx_cons,List.foldl_cons];rw [List.length_cons] at h;have ih:=ZU l (arr.setIfInBounds (base+n) x) base (n+1) i (by rw [Array.size_setIfInBounds];lia);refine ih.trans ?_;rw [List.length_cons];by_cases h1:base+(n+1)<=i/\i<base+(n+1)+l.length
  ·rw [if_pos h1,if_pos (by lia)];rw [show i-(base+n)=(i-(base+(n+1)))+1 by lia,List.getElem?_cons_succ]
  ·rw [if_neg h1,Array.getElem?_setIfInBounds];by_cases h2:base+n=i
   ·subst h2;rw [if_pos rfl,if_pos (by lia),if_pos (by lia),Nat.sub_self]
    rfl
   ·rw [if_neg h2,if_neg (by lia)]
theorem ZV {arr:Array Keyed}{base:Nat}{l:List Keyed}(h:base+l.length<=arr.size)(i:Nat):(J5 arr base l)[i]?=if base<=i/\i<base+l.length then l[i-base]? else arr[i]?:=ZU l arr base 0 i h
theorem Zd {arr:Array Keyed}{base:Nat}{l:List Keyed}(h:base+l.length<=arr.size)(p:l.Perm ((arr.toList.drop base).take l.length)):(J5 arr base l).Perm arr:=by
 have e:(J5 arr base l).toList=arr.toList.take base++l++arr.toList.drop (base+l.length):=by
  refine List.ext_getElem? λi=>?_;have hl:arr.toList.length=arr.size:=Array.length_toList;rw [Array.getElem?_toList,ZV h];rw [List.append_assoc,List.getElem?_append,List.length_take,hl,Nat.min_eq_left (by lia)];by_cases h1:i<base
  ·rw [if_neg (by lia),if_pos h1,List.getElem?_take,if_pos h1,Array.getElem?_toList]
  ·rw [if_neg h1,List.getElem?_append];by_cases h2:i<base+l.length
   ·rw [if_pos (by lia),if_pos (by lia)]
   ·rw [if_neg (by lia),if_neg (by lia),List.getElem?_drop,Array.getElem?_toList]
    congr 1
    lia
 have e2:arr.toList=arr.toList.take base++(arr.toList.drop base).take l.length++arr.toList.drop (base+l.length):=by
  rw [List.append_assoc,<-List.drop_drop,List.take_append_drop,List.take_append_drop]
 rw [Array.perm_iff_toList_perm,e];exact ((List.Perm.append_left _ p).append_right _).trans (.of_eq e2.symm)
section
variable {M:Model}{A:Around}{E:Value->Shared->Prop}{s:Shared}{kd:SortKind}{b:Keyed->Keyed->Bool}{good:Keyed->Prop}
theorem Ov {arr:Array Keyed}{lo mid hi:Nat}(h1:Rng b arr lo mid)(h2:Rng b arr mid hi)(h3:∀i j x y,lo<=i->i<mid->mid<=j->j<hi->arr[i]?=some x->arr[j]?=some y->kle b x y):Rng b arr lo hi:=λi j x y i1 i2 i3 e1 e2=>by
 by_cases c1:j<mid
 ·exact h1 i j x y i1 i2 c1 e1 e2
 ·by_cases c2:i<mid
  ·exact h3 i j x y i1 c2 (by lia) i3 e1 e2
  ·exact h2 i j x y (by lia) i2 i3 e1 e2
theorem ZW {arr:Array Keyed}{lo hi:Nat}(hh:hi<=arr.size)(h:Rng b arr lo hi):(arr.extract lo hi).toList.Pairwise (kle b):=by
 rw [List.pairwise_iff_getElem];intro i j hi' hj' hij;have sz:(arr.extract lo hi).toList.length=hi-lo:=by rw [Array.length_toList,Array.size_extract,Nat.min_eq_left hh]
 refine h (lo+i) (lo+j) _ _ (by lia) (by lia) (by lia) ?_ ?_
 ·simp [Array.getElem_extract]
 ·simp [Array.getElem_extract]
end
end L2
namespace L2
open PySem PySem.Spec PyProof.Rows
section
variable {M:Model}{A:Around}{E:Value->Shared->Prop}{s:Shared}{kd:SortKind}{b:Keyed->Keyed->Bool}{good:Keyed->Prop}
def MgQ (b:Keyed->Keyed->Bool)(st:SortSt)(lo hi:Nat)(Q:Bool->SortSt->Prop):Prop:=∀st',kindOf st'=kindOf st->pendingOf st'=pendingOf st->failedOf st'=failedOf st->(arrOf st').Perm (arrOf st) ->
 (∀i,i<lo\/hi<=i->(arrOf st')[i]?=(arrOf st)[i]?)->Rng b (arrOf st') lo hi->Q true st'
structure GalF (b:Keyed->Keyed->Bool)(arr:Array Keyed)(sa k sb nb hi:Nat):Prop where
 k0:sa<=k
 k1:k<sb
 n0:0<nb
 n1:sb+nb<=hi
 ra:Rng b arr sa sb
 rb:Rng b arr sb hi
 lowA:∀i x y,sa<=i->i<k->arr[i]?=some x->arr[sb]?=some y->kle b x y
 highA:∀i x y,k<=i->i<sb->arr[i]?=some x->arr[sb]?=some y->kle b y x
 lowB:∀i x y,sb<=i->i<sb+nb->arr[i]?=some x->arr[sb-1]?=some y->kle b x y
 highB:∀i x y,sb+nb<=i->i<hi->arr[i]?=some x->arr[sb-1]?=some y->kle b y x
theorem GalF.two {arr:Array Keyed}{sa k sb nb hi:Nat}(F:GalF b arr sa k sb nb hi)(hh:hi<=arr.size)(G:AllG good arr):Two b good (arr.extract k sb) (arr.extract sb (sb+nb)):=by
 have h0:=F.k0;have h1:=F.k1;have h2:=F.n0;have h3:=F.n1;have memG:∀{i j x},x∈(arr.extract i j).toList->good x:=λ{i j x} hx=>by
  obtain ⟨q,_,_,e⟩:=Vx hx;rw [<-Array.getElem?_toList] at e;exact G x (List.mem_of_getElem? e)
 refine ⟨λx=>memG,λx=>memG,ZW (by lia) λi j x y i1 i2 i3=>F.ra i j x y (by lia) i2 i3,ZW (by lia) λi j x y i1 i2 i3=>F.rb i j x y i1 i2 (by lia),by rw [Array.size_extract];lia,by rw [Array.size_extract];lia,λx hx y hy=>?_,λz hz y hy=>?_⟩
 ·have hx:arr[sb]?=some x:=by
   rw [Array.getElem?_extract,if_pos (by lia)] at hx;exact hx
  obtain ⟨q,q1,q2,e⟩:=Vx hy;exact F.highA q y x q1 q2 e hx
 ·have hz:arr[sb-1]?=some z:=by
   rw [Array.size_extract,Array.getElem?_extract,if_pos (by lia)] at hz;rw [<-hz]
   congr 1
   lia
  obtain ⟨q,q1,q2,e⟩:=Vx hy;exact F.lowB q y z q1 (by lia) e hz
theorem GalF.fin (W:WO b){st:SortSt}{sa k sb nb hi:Nat}{Q:Bool->SortSt->Prop}(F:GalF b (arrOf st) sa k sb nb hi)(hh:hi<=(arrOf st).size)(q:MgQ b st sa hi Q)(hf:failedOf st=none){m:Array Keyed}{st1:SortSt}(sg:SameG st st1)(hm:G0 b (((arrOf st).extract k sb).toList++((arrOf st).extract sb (sb+nb)).toList) m.toList):wpS M A E s (Zc k m) Q st1:=by
 have h0:=F.k0;have h1:=F.k1;have h2:=F.n0;have h3:=F.n1;unfold Zc;refine wpS_bind (wpS_modify (wpS_bind (wpS_get (wpS_pure ?_))));show Q (failedOf st1).isNone _;rw [sg.2.2.2,hf];have hl:m.toList.length=sb+nb-k:=by
  have:=hm.1.length_eq;rw [List.length_append,Array.length_toList,Array.length_toList,Array.length_toList,Array.size_extract,Array.size_extract] at this;rw [Array.length_toList]
  lia
 have hb:k+m.toList.length<=(arrOf st).size:=by lia
 have e1:((arrOf st).toList.drop k).take m.toList.length=((arrOf st).extract k sb).toList++((arrOf st).extract sb (sb+nb)).toList:=by
  have x1:((arrOf st).extract k (sb+nb)).toList=((arrOf st).toList.drop k).take m.toList.length:=by
   rw [hl,Array.toList_extract,List.extract_eq_take_drop]
  rw [<-x1,<-Array.toList_append,Array.extract_append_extract]
  congr 2 <;> lia
 have at_:=ZV (arr:=arrOf st) (base:=k) (l:=m.toList) hb;have mem:∀i x,k<=i->i<sb+nb->(J5 (arrOf st) k m.toList)[i]?=some x->(∃j,k<=j/\j<sb/\(arrOf st)[j]?=some x)\/(∃j,sb<=j/\j<sb+nb/\(arrOf st)[j]?=some x):=λi x i1 i2 e=>by
  rw [at_,if_pos (by lia)] at e;have hx:=hm.1.mem_iff.mp (List.mem_of_getElem? e);rcases List.mem_append.mp hx with hx | hx
  ·exact .inl (Vx hx)
  ·exact .inr (Vx hx)
 obtain ⟨b0,hb0⟩:∃x,(arrOf st)[sb]?=some x:=⟨_,Array.getElem?_eq_getElem (by lia)⟩;obtain ⟨aL,haL⟩:∃x,(arrOf st)[sb-1]?=some x:=⟨_,Array.getElem?_eq_getElem (by lia)⟩;refine q _ sg.1 sg.2.2.1 ?_ ?_ (λi hi'=>?_) ?_
 ·show failedOf st1=failedOf st;exact sg.2.2.2
 ·show (J5 (arrOf st1) k m.toList).Perm (arrOf st);rw [sg.2.1];exact Zd hb (hm.1.trans (.of_eq e1.symm))
 ·show (J5 (arrOf st1) k m.toList)[i]?=_;rw [sg.2.1,at_,if_neg (by lia)]
 ·show Rng b (J5 (arrOf st1) k m.toList) sa hi;rw [sg.2.1];have old:∀i,i<k\/sb+nb<=i->(J5 (arrOf st) k m.toList)[i]?=(arrOf st)[i]?:=λi hi'=>by rw [at_,if_neg (by lia)]
  refine Ov (mid:=k) (λi j x y i1 i2 i3 e1 e2=>?_) (Ov (mid:=sb+nb) (λi j x y i1 i2 i3 e1 e2=>?_) (λi j x y i1 i2 i3 e1 e2=>?_) (λi j x y i1 i2 i3 i4 e1 e2=>?_)) (λi j x y i1 i2 i3 i4 e1 e2=>?_)
  ·rw [old i (by lia)] at e1;rw [old j (by lia)] at e2;exact F.ra i j x y i1 i2 (by lia) e1 e2
  ·rw [at_,if_pos (by lia)] at e1 e2;exact Y5 W hm.2 (by lia) e1 e2
  ·rw [old i (by lia)] at e1;rw [old j (by lia)] at e2;exact F.rb i j x y (by lia) i2 i3 e1 e2
  ·rw [old j (by lia)] at e2;rcases mem i x i1 i2 e1 with ⟨p,p1,p2,e⟩ | ⟨p,p1,p2,e⟩
   ·exact W.le_trans (F.ra p (sb-1) x aL (by lia) (by lia) (by lia) e haL) (F.highB j y aL i3 i4 e2 haL)
   ·exact F.rb p j x y p1 (by lia) i4 e e2
  ·rw [old i (by lia)] at e1;have xb:=F.lowA i x b0 i1 i2 e1 hb0;by_cases cj:j<sb+nb
   ·rcases mem j y i3 cj e2 with ⟨p,p1,p2,e⟩ | ⟨p,p1,p2,e⟩
    ·exact F.ra i p x y i1 (by lia) p2 e1 e
    ·exact W.le_trans xb (F.rb sb p b0 y (Nat.le_refl _) p1 (by lia) hb0 e)
   ·rw [old j (by lia)] at e2;exact W.le_trans xb (F.rb sb j b0 y (Nat.le_refl _) (by lia) i4 hb0 e2)
theorem VB (W:WO b)(L:Oj M A E s kd b good){st:SortSt}{i sa na sb nb pw pw':Nat}{Q:Bool->SortSt->Prop}(hs:kindOf st=kd)(hf:failedOf st=none)(G:AllG good (arrOf st))(p1:(pendingOf st)[i]?=some (sa,na,pw))(p2:(pendingOf st)[i+1]?=some (sb,nb,pw'))(e:sb=sa+na)(hna:0<na)(hnb:0<nb)(hh:sb+nb<=(arrOf st).size)(ra:Rng b (arrOf st) sa sb)(rb:Rng b (arrOf st) sb (sb+nb))(q:MgQ b (setPending st (((pendingOf st).setIfInBounds i (sa,na+nb,pw)).eraseIdxIfInBounds (i+1))) sa (sb+nb) Q):wpS M A E s (mergeAt' i) Q st:=by
 subst e;rw [VA];refine wpS_bind (wpS_get ?_);rw [p1,p2];dsimp only;refine wpS_bind ?_;show wpS M A E s (set _) _ st;refine (show wpS M A E s (modify λ_=>setPending st (((pendingOf st).setIfInBounds i (sa,na+nb,pw)).eraseIdxIfInBounds (i+1))) _ st from wpS_modify ?_);generalize hst:setPending st (((pendingOf st).setIfInBounds i (sa,na+nb,pw)).eraseIdxIfInBounds (i+1))=st1 at q;have ea:arrOf st1=arrOf st:=by rw [<-hst]
 have ek:kindOf st1=kd:=by rw [<-hst];exact hs
 have ef:failedOf st1=none:=by rw [<-hst];exact hf
 rw [<-ea] at G hh ra rb ⊢;obtain ⟨b0,hb0,gb0⟩:=G.at (i:=sa+na) (by lia);obtain ⟨aL,haL,gaL⟩:=G.at (i:=sa+na-1) (by lia);refine wpS_bind (Gv hb0 ?_);have G1:Gal b good false b0 (arrOf st1) sa na:=O1 W gb0 (λi hi=>G.at (by lia)) ra;refine wpS_bind (G4 L G1 ek hna λk hk k1 k2=>?_);have lowA:∀i x y,sa<=i->i<sa+k->(arrOf st1)[i]?=some x->(arrOf st1)[sa+na]?=some y->kle b x y:=λi x y i1 i2 e1 e2=>by
  rw [hb0] at e2;cases e2;have:=k1 (i-sa) (by lia);unfold byd at this;rw [Nat.add_sub_cancel' i1,e1] at this;dsimp only at this;rw [if_neg Bool.false_ne_true,Bool.not_eq_true'] at this;exact this
 have highA:∀i x y,sa+k<=i->i<sa+na->(arrOf st1)[i]?=some x->(arrOf st1)[sa+na]?=some y->kle b y x:=λi x y i1 i2 e1 e2=>by
  rw [hb0] at e2;cases e2;have:=k2 (i-sa) (by lia) (by lia);unfold byd at this;rw [Nat.add_sub_cancel' (by lia),e1] at this;dsimp only at this;rw [if_neg Bool.false_ne_true,Bool.not_eq_false'] at this;exact W.le_of_lt this
 dsimp only;unfold ZbR;rw [show arrOf st=arrOf st1 from ea.symm];split
 ·rename_i e0;have e0:na-k=0:=eq_of_beq e0;refine wpS_pure (q st1 rfl rfl rfl (.refl _) (λ_ _=>rfl) (Ov ra rb λi j x y i1 i2 i3 i4 e1 e2=>?_));exact W.le_trans (lowA i x b0 i1 (by lia) e1 hb0) (rb (sa+na) j b0 y (Nat.le_refl _) i3 i4 hb0 e2)
 ·rename_i e0;have e0:na-k≠0:=λz=>e0 (beq_iff_eq.mpr z);refine wpS_bind (Gv (show (arrOf st1)[sa+k+(na-k)-1]?=some aL by rw [<-haL];congr 1;lia) ?_);have G2:Gal b good true aL (arrOf st1) (sa+na) nb:=O1 W gaL (λi hi=>G.at (by lia)) rb;refine wpS_bind (G4 L G2 ek (by lia) λnb' hk' k1' k2'=>?_);have lowB:∀i x y,sa+na<=i->i<sa+na+nb'->(arrOf st1)[i]?=some x->(arrOf st1)[sa+na-1]?=some y->kle b x y:=λi x y i1 i2 e1 e2=>by
   rw [haL] at e2;cases e2;have:=k1' (i-(sa+na)) (by lia);unfold byd at this;rw [Nat.add_sub_cancel' i1,e1] at this;dsimp only at this;rw [if_pos rfl] at this;exact W.le_of_lt this
  have highB:∀i x y,sa+na+nb'<=i->i<sa+na+nb->(arrOf st1)[i]?=some x->(arrOf st1)[sa+na-1]?=some y->kle b y x:=λi x y i1 i2 e1 e2=>by
   rw [haL] at e2;cases e2;have:=k2' (i-(sa+na)) (by lia) (by lia);unfold byd at this;rw [Nat.add_sub_cancel' (by lia),e1] at this;dsimp only at this;rw [if_pos rfl] at this;exact this
  dsimp only;unfold ZbQ;split
  ·rename_i e1;have e1:nb'=0:=eq_of_beq e1;refine wpS_pure (q st1 rfl rfl rfl (.refl _) (λ_ _=>rfl) (Ov ra rb λi j x y i1 i2 i3 i4 f1 f2=>?_));exact W.le_trans (ra i (sa+na-1) x aL i1 (by lia) (by lia) f1 haL) (highB j y aL (by lia) i4 f2 haL)
  ·rename_i e1;have e1:nb'≠0:=λz=>e1 (beq_iff_eq.mpr z);have F:GalF b (arrOf st1) sa (sa+k) (sa+na) nb' (sa+na+nb):=⟨by lia,by lia,by lia,by lia,ra,rb,lowA,highA,lowB,highB⟩;have T:=F.two hh G;split
   ·refine wpS_bind ?_;rw [show arrOf st=arrOf st1 from ea.symm];exact Vv W L T ek λr st' sg m=>F.fin W hh q ef sg m
   ·refine wpS_bind ?_;rw [show arrOf st=arrOf st1 from ea.symm];exact Vy W L T ek λr st' sg m=>F.fin W hh q ef sg m
end
end L2
namespace L2
open PySem PySem.Spec PyProof.Rows
def Runs (b:Keyed->Keyed->Bool)(arr:Array Keyed):Nat->List (Nat×Nat×Nat)->Nat->Prop
 | s,[],e=>s=e
 | s,x::rest,e=>x.1=s/\0<x.2.1/\Rng b arr s (s+x.2.1)/\Runs b arr (s+x.2.1) rest e
section
variable {b:Keyed->Keyed->Bool}{arr arr':Array Keyed}
theorem Runs.le:∀{p:List (Nat×Nat×Nat)}{s e:Nat},Runs b arr s p e->s+p.length<=e
 | [],s,e,h=>by have h:s=e:=h;simp [h]
 | x::p,s,e,h=>by
  have:=Runs.le h.2.2.2;have:=h.2.1;rw [List.length_cons]
  lia
theorem Runs.app:∀{u v:List (Nat×Nat×Nat)}{s e:Nat},Runs b arr s (u++v) e↔∃m,Runs b arr s u m/\Runs b arr m v e
 | [],v,s,e=>⟨λh=>⟨s,rfl,h⟩,λ⟨m,h1,h2⟩=>by have h1:s=m:=h1;rw [h1];exact h2⟩
 | x::u,v,s,e=>by
  constructor
  ·rintro ⟨h1,h2,h3,h4⟩;obtain ⟨m,k1,k2⟩:=Runs.app.mp h4;exact ⟨m,⟨h1,h2,h3,k1⟩,k2⟩
  ·rintro ⟨m,⟨h1,h2,h3,k1⟩,k2⟩;exact ⟨h1,h2,h3,Runs.app.mpr ⟨m,k1,k2⟩⟩
theorem Runs.keep:∀{p:List (Nat×Nat×Nat)}{s e:Nat},Runs b arr s p e->(∀i,s<=i->i<e->arr'[i]?=arr[i]?)->Runs b arr' s p e
 | [],_,_,h,_=>h
 | x::p,s,e,h,k=>by
  have:=Runs.le h.2.2.2;refine ⟨h.1,h.2.1,λi j u v i1 i2 i3 e1 e2=>?_,Runs.keep h.2.2.2 λi i1 i2=>k i (by lia) i2⟩;rw [k i i1 (by lia)] at e1;rw [k j (by lia) (by lia)] at e2;exact h.2.2.1 i j u v i1 i2 i3 e1 e2
theorem Runs.push {p:List (Nat×Nat×Nat)}{s lo n pw:Nat}(h:Runs b arr s p lo)(hn:0<n)(hr:Rng b arr lo (lo+n)):Runs b arr s (p++[(lo,n,pw)]) (lo+n):=
 Runs.app.mpr ⟨lo,h,rfl,hn,hr,rfl⟩
theorem Runs.two {p:List (Nat×Nat×Nat)}{i e sa na pw sb nb pw':Nat}(h:Runs b arr 0 p e)(h1:p[i]?=some (sa,na,pw))(h2:p[i+1]?=some (sb,nb,pw')) :
  sb=sa+na/\0<na/\0<nb/\sb+nb<=e/\Rng b arr sa sb/\Rng b arr sb (sb+nb) /\
   ((∀i,i<sa\/sb+nb<=i->arr'[i]?=arr[i]?)->Rng b arr' sa (sb+nb)->Runs b arr' 0 ((p.set i (sa,na+nb,pw)).eraseIdx (i+1)) e):=by
 obtain ⟨l1,e1⟩:=List.getElem?_eq_some_iff.mp h1;obtain ⟨l2,e2⟩:=List.getElem?_eq_some_iff.mp h2;have d:p=p.take i++(sa,na,pw)::(sb,nb,pw')::p.drop (i+2):=by
  conv=>lhs;rw [<-List.take_append_drop i p,List.drop_eq_getElem_cons l1,e1,List.drop_eq_getElem_cons l2,e2]
 have hl:(p.take i).length=i:=by rw [List.length_take];lia
 generalize p.take i=u at d hl;generalize p.drop (i+2)=v at d;subst d;obtain ⟨m,k1,k2,k3,k4,k5,k6,k7,k8⟩:=Runs.app.mp h;have k2:sa=m:=k2;have k3:0<na:=k3;have k5:sb=m+na:=k5;have k6:0<nb:=k6;have k4:Rng b arr m (m+na):=k4;have k7:Rng b arr (m+na) (m+na+nb):=k7;have k8:Runs b arr (m+na+nb) v e:=k8;subst k2 k5;have k9:sa+na+nb+v.length<=e:=k8.le;refine ⟨rfl,k3,k6,by lia,k4,k7,λho hr=>?_⟩;have es:((u++(sa,na,pw)::(sa+na,nb,pw')::v).set i (sa,na+nb,pw)).eraseIdx (i+1)=u++(sa,na+nb,pw)::v:=by
  rw [List.set_append,if_neg (by lia),hl,Nat.sub_self,List.set_cons_zero,List.eraseIdx_append_of_length_le (by lia),hl,Nat.add_sub_cancel_left]
  rfl
 rw [es];refine Runs.app.mpr ⟨sa,k1.keep λj j1 j2=>ho j (.inl j2),rfl,by show 0<na+nb;lia,by show Rng b arr' sa (sa+(na+nb));rw [<-Nat.add_assoc];exact hr,?_⟩;show Runs b arr' (sa+(na+nb)) v e;rw [<-Nat.add_assoc];exact k8.keep λj j1 j2=>ho j (.inr j1)
theorem Runs.pow:∀{p:List (Nat×Nat×Nat)}{s e:Nat}(i:Nat)(f:Nat×Nat×Nat->Nat×Nat×Nat),(∀x,(f x).1=x.1/\(f x).2.1=x.2.1)->Runs b arr s p e->Runs b arr s (p.modify i f) e
 | [],_,_,i,f,_,h=>by cases i <;> exact h
 | x::p,s,e,0,f,hf,h=>by
  rw [List.modify_zero_cons];obtain ⟨q1,q2⟩:=hf x;refine ⟨q1.trans h.1,by rw [q2];exact h.2.1,by rw [q2];exact h.2.2.1,by rw [q2];exact h.2.2.2⟩
 | x::p,s,e,i+1,f,hf,h=>by
  rw [List.modify_succ_cons];exact ⟨h.1,h.2.1,h.2.2.1,Runs.pow i f hf h.2.2.2⟩
theorem Runs.one (W:WO b){p:List (Nat×Nat×Nat)}{e:Nat}(h:Runs b arr 0 p e)(hl:p.length<=1):Rng b arr 0 e:=by
 match p,h,hl with
 | [],h,_=>
  have h:0=e:=h;subst h;intro i j x y i1 i2 i3
  lia
 | [x],h,_=>
  have h4:0+x.2.1=e:=h.2.2.2;rw [<-h4];exact h.2.2.1
end
end L2
namespace L2
open PySem PySem.Spec PyProof.Rows
section
variable {M:Model}{A:Around}{E:Value->Shared->Prop}{s:Shared}{kd:SortKind}{b:Keyed->Keyed->Bool}{good:Keyed->Prop}
structure SI (b:Keyed->Keyed->Bool)(kd:SortKind)(st0 st:SortSt)(lo:Nat):Prop where
 ki:kindOf st=kd
 fa:failedOf st=none
 pm:(arrOf st).Perm (arrOf st0)
 ru:Runs b (arrOf st) 0 (pendingOf st).toList lo
theorem SI.size {st0 st:SortSt}{lo:Nat}(h:SI b kd st0 st lo):(arrOf st).size=(arrOf st0).size:=h.pm.size_eq
theorem SI.merge (W:WO b)(L:Oj M A E s kd b good){st0 st:SortSt}{lo i:Nat}{Q:Bool->SortSt->Prop}(G:AllG good (arrOf st0))(h:SI b kd st0 st lo)(hlo:lo<=(arrOf st0).size)(hi:i+1<(pendingOf st).size)(q:∀st',SI b kd st0 st' lo->(pendingOf st').size+1=(pendingOf st).size->(∀i,lo<=i->(arrOf st')[i]?=(arrOf st)[i]?)->Q true st'):wpS M A E s (mergeAt' i) Q st:=by
 obtain ⟨⟨sa,na,pw⟩,p1⟩:∃x,(pendingOf st)[i]?=some x:=⟨_,Array.getElem?_eq_getElem (by lia)⟩;obtain ⟨⟨sb,nb,pw'⟩,p2⟩:∃x,(pendingOf st)[i+1]?=some x:=⟨_,Array.getElem?_eq_getElem hi⟩;have two:=λarr'=>Runs.two (arr':=arr') h.ru (by rw [Array.getElem?_toList];exact p1) (by rw [Array.getElem?_toList];exact p2);obtain ⟨t1,t2,t3,t4,t5,t6,_⟩:=two (arrOf st);have hsz:=h.size;refine VB W L h.ki h.fa (G.perm h.pm) p1 p2 t1 t2 t3 (by lia) t5 t6 λst' k1 k2 k3 k4 k5 k6=>?_;have e0:arrOf (setPending st (((pendingOf st).setIfInBounds i (sa,na+nb,pw)).eraseIdxIfInBounds (i+1)))=arrOf st:=rfl;rw [e0] at k4 k5;have e1:pendingOf st'=((pendingOf st).setIfInBounds i (sa,na+nb,pw)).eraseIdxIfInBounds (i+1):=k2;have e2:(pendingOf st').toList=((pendingOf st).toList.set i (sa,na+nb,pw)).eraseIdx (i+1):=by
  rw [e1,Array.toList_eraseIdxIfInBounds,Array.toList_setIfInBounds]
 refine q st' ⟨k1.trans h.ki,k3.trans h.fa,k4.trans h.pm,?_⟩ ?_ λj hj=>k5 j (.inr (by lia))
 ·rw [e2];exact (two (arrOf st')).2.2.2.2.2.2 k5 k6
 ·have:=congrArg List.length e2;rw [Array.length_toList,List.length_eraseIdx,List.length_set,Array.length_toList,if_pos hi] at this
  lia
theorem Om (W:WO b)(L:Oj M A E s kd b good){st:SortSt}{Q:Unit->SortSt->Prop}(hs:kindOf st=kd)(hf:failedOf st=none)(hp:pendingOf st=#[])(G:AllG good (arrOf st))(q:∀st',(arrOf st').Perm (arrOf st)->failedOf st'=none->Rng b (arrOf st') 0 (arrOf st).size->Q () st'):wpS M A E s sortRuns' Q st:=by
 rw [sortRuns'_eq];refine wpS_bind (wpS_get ?_);dsimp only;generalize hsz:(arrOf st).size=size at q;generalize minRun' size size 0=minrun;refine wpS_bind (wpS_mono (Q:=λr st1=>r=(none,size)/\SI b kd st st1 size) (wpS_forRange (λk r st1=>∃lo,r=(none,lo)/\k<=lo/\lo<=size/\SI b kd st st1 lo) ?_ ?_ ⟨0,rfl,Nat.le_refl _,Nat.zero_le _,hs,hf,.refl _,by rw [hp];rfl⟩) ?_)
 ·rintro k r st1 _ hk ⟨lo,rfl,k1,k2,I⟩;dsimp only;split
  ·have:lo=size:=by lia
   subst this;exact wpS_pure ⟨rfl,I⟩
  ·rename_i hlo;have s1:(arrOf st1).size=size:=I.size.trans hsz;refine wpS_bind (Ui W L I.ki (G.perm I.pm) (by lia) (by lia) λn st2 ah n1 n2 n3=>?_);have I2:SI b kd st st2 lo:=⟨ah.kd.trans I.ki,ah.fa.trans I.fa,ah.pm.trans I.pm,by rw [ah.pe];exact I.ru.keep λi _ hi=>ah.lw i hi⟩;dsimp only;have pushed:∀st3 n,SI b kd st st3 lo->0<n->Rng b (arrOf st3) lo (lo+n)->SI b kd st (setPending st3 ((pendingOf st3).push (lo,n,0))) (lo+n):=by
    intro st3 n I3 n1 n3;refine ⟨I3.ki,I3.fa,I3.pm,?_⟩;show Runs b (arrOf st3) 0 ((pendingOf st3).push (lo,n,0)).toList (lo+n);rw [Array.toList_push];exact I3.ru.push n1 n3
   have pow:∀st3 pw,SI b kd st st3 lo->SI b kd st (setPending st3 ((pendingOf st3).modify ((pendingOf st3).size-1) λx=>(x.1,x.2.1,pw))) lo:=by
    intro st3 pw I3;refine ⟨I3.ki,I3.fa,I3.pm,?_⟩;show Runs b (arrOf st3) 0 ((pendingOf st3).modify ((pendingOf st3).size-1) λx=>(x.1,x.2.1,pw)).toList lo;rw [Array.toList_modify];exact I3.ru.pow _ _ λx=>⟨rfl,rfl⟩
   split
   ·rename_i hmr;refine wpS_bind (wpS_lift (wpAny_rule ⟨rfl,?_⟩));have s2:(arrOf st2).size=size:=I2.size.trans hsz;refine wpS_bind (WI W L I2.ki (G.perm I2.pm) (by lia) n1 (by lia) n3 λst3 ah3 r3=>?_);have I3:SI b kd st st3 lo:=⟨ah3.kd.trans I2.ki,ah3.fa.trans I2.fa,ah3.pm.trans I2.pm,by rw [ah3.pe];exact I2.ru.keep λi _ hi=>ah3.lw i hi⟩;rw [show (!true)=false from rfl,if_neg Bool.false_ne_true];have hN:1<=min (size-lo) minrun/\lo+min (size-lo) minrun<=size:=by lia
    clear hmr;generalize min (size-lo) minrun=N at r3 hN;refine wpS_bind (wpS_get ?_);cases hbk:(pendingOf st3).back? with
    | none=>exact wpS_bind (wpS_modify (wpS_pure ⟨_,rfl,by lia,by lia,pushed st3 _ I3 (by lia) r3⟩))
    | some x=>
     obtain ⟨s1,n1,pw1⟩:=x;dsimp only;refine wpS_bind (wpS_mono (Q:=λr st4=>r=(none,())/\SI b kd st st4 lo/\∀i,lo<=i->(arrOf st4)[i]?=(arrOf st3)[i]?) (wpS_forRange (λ_ r st4=>r=(none,())/\SI b kd st st4 lo/\∀i,lo<=i->(arrOf st4)[i]?=(arrOf st3)[i]?) ?_ (λ_ _ z=>z) ⟨rfl,I3,λ_ _=>rfl⟩) ?_)
     ·rintro k' r st4 _ hk' ⟨rfl,I4,same⟩;refine wpS_bind (wpS_get ?_);by_cases hz:(pendingOf st4).size > 1
      ·obtain ⟨⟨z1,z2,z3⟩,pz⟩:∃x,(pendingOf st4)[(pendingOf st4).size-2]?=some x:=⟨_,Array.getElem?_eq_getElem (by lia)⟩;rw [if_pos hz,pz];dsimp only;split
       ·exact wpS_pure ⟨rfl,I4,same⟩
       ·refine wpS_bind (I4.merge W L G (by lia) (by lia) λst5 I5 _ same5=>?_);rw [show (!true)=false from rfl,if_neg Bool.false_ne_true];exact wpS_pure ⟨rfl,I5,λi hi=>(same5 i hi).trans (same i hi)⟩
      ·rw [if_neg hz];exact wpS_pure ⟨rfl,I4,same⟩
     ·rintro r st4 ⟨rfl,I4,same⟩;dsimp only;refine wpS_bind (wpS_modify (wpS_bind (wpS_modify (wpS_pure ⟨_,rfl,by lia,by lia,?_⟩))));refine pushed _ _ (pow st4 _ I4) (by lia) λi j x y i1 i2 i3 e1 e2=>?_;have e1:(arrOf st4)[i]?=some x:=e1;have e2:(arrOf st4)[j]?=some y:=e2;rw [same i i1] at e1;rw [same j (by lia)] at e2;exact r3 i j x y i1 i2 i3 e1 e2
   ·have hN:1<=n/\lo+n<=size:=by lia
    refine wpS_bind (wpS_get ?_);cases hbk:(pendingOf st2).back? with
    | none=>exact wpS_bind (wpS_modify (wpS_pure ⟨_,rfl,by lia,by lia,pushed st2 _ I2 (by lia) n3⟩))
    | some x=>
     obtain ⟨s1,n1,pw1⟩:=x;dsimp only;refine wpS_bind (wpS_mono (Q:=λr st4=>r=(none,())/\SI b kd st st4 lo/\∀i,lo<=i->(arrOf st4)[i]?=(arrOf st2)[i]?) (wpS_forRange (λ_ r st4=>r=(none,())/\SI b kd st st4 lo/\∀i,lo<=i->(arrOf st4)[i]?=(arrOf st2)[i]?) ?_ (λ_ _ z=>z) ⟨rfl,I2,λ_ _=>rfl⟩) ?_)
     ·rintro k' r st4 _ hk' ⟨rfl,I4,same⟩;refine wpS_bind (wpS_get ?_);by_cases hz:(pendingOf st4).size > 1
      ·obtain ⟨⟨z1,z2,z3⟩,pz⟩:∃x,(pendingOf st4)[(pendingOf st4).size-2]?=some x:=⟨_,Array.getElem?_eq_getElem (by lia)⟩;rw [if_pos hz,pz];dsimp only;split
       ·exact wpS_pure ⟨rfl,I4,same⟩
       ·refine wpS_bind (I4.merge W L G (by lia) (by lia) λst5 I5 _ same5=>?_);rw [show (!true)=false from rfl,if_neg Bool.false_ne_true];exact wpS_pure ⟨rfl,I5,λi hi=>(same5 i hi).trans (same i hi)⟩
      ·rw [if_neg hz];exact wpS_pure ⟨rfl,I4,same⟩
     ·rintro r st4 ⟨rfl,I4,same⟩;dsimp only;refine wpS_bind (wpS_modify (wpS_bind (wpS_modify (wpS_pure ⟨_,rfl,by lia,by lia,?_⟩))));refine pushed _ _ (pow st4 _ I4) (by lia) λi j x y i1 i2 i3 e1 e2=>?_;have e1:(arrOf st4)[i]?=some x:=e1;have e2:(arrOf st4)[j]?=some y:=e2;rw [same i i1] at e1;rw [same j (by lia)] at e2;exact n3 i j x y i1 i2 i3 e1 e2
 ·rintro r st1 ⟨lo,rfl,k1,k2,I⟩;have:lo=size:=by simp at k1;lia
  subst this;exact ⟨rfl,I⟩
 ·rintro r st1 ⟨rfl,I⟩;dsimp only;refine wpS_bind (wpS_mono (Q:=λr st2=>r=(none,())/\SI b kd st st2 size/\(pendingOf st2).size<=1) (wpS_forRange (λk r st2=>r=(none,())/\SI b kd st st2 size/\(pendingOf st2).size+k<=size+1) ?_ ?_ ⟨rfl,I,?_⟩) ?_)
  ·rintro k r st2 _ hk ⟨rfl,I2,hz⟩;refine wpS_bind (wpS_get ?_);split
   ·rename_i h1;exact wpS_pure ⟨rfl,I2,h1⟩
   ·rename_i h1;generalize hi:(if Option.any _ _=true then (pendingOf st2).size-2-1 else (pendingOf st2).size-2)=i;have hi2:i+1<(pendingOf st2).size:=by
     rw [<-hi];have key:∀(c:Prop)[Decidable c](m:Nat),(if c then m-1 else m)<=m:=λc _ m=>by split <;> lia
     refine Nat.lt_of_le_of_lt (Nat.succ_le_succ (key _ ((pendingOf st2).size-2))) ?_
     lia
    refine wpS_bind (I2.merge W L G (by lia) hi2 λst3 I3 h3 _=>?_);rw [show (!true)=false from rfl,if_neg Bool.false_ne_true];exact wpS_pure ⟨rfl,I3,by lia⟩
  ·rintro r st2 ⟨rfl,I2,hz⟩;exact ⟨rfl,I2,by simp at hz;lia⟩
  ·have:=I.ru.le;rw [Array.length_toList] at this
   lia
  ·rintro r st2 ⟨rfl,I2,h1⟩;refine wpS_pure (q st2 I2.pm I2.fa ?_);exact I2.ru.one W (by rw [Array.length_toList];exact h1)
end
end L2
namespace L2
open PySem PySem.Spec PyProof.Rows
section
variable {prog:Program}{w:World}{A:Around}{E:Value->Shared->Prop}{s:Shared}{kd:SortKind}{b:Keyed->Keyed->Bool}{good:Keyed->Prop}
def Jh (s:Shared)(a:Addr)(vs:List Value):Shared:={ s with heap:=((s.heap.update a (Obj.mapSeq λ_=>#[])).push (seqObj "tuple" vs.toArray 0)).push (seqObj "list" #[] 0) }
theorem XS (W:WO b){arr:Array Keyed}(h:arr.size<2):Rng b arr 0 arr.size:=λi j x y i1 i2 i3 e1 e2=>by
 have:i=j:=by lia
 subst this;rw [e1] at e2;cases e2;exact W.le_refl _
theorem Jo {a:Addr}{vs:List Value}{n:Nat}{P:PySem.Fin->Shared->Prop}(W:WO b)(ha:s.heap.get? a=some (seqObj "list" vs.toArray n))(hz:vs.length<=sizeLine)(hg:∀v∈vs,good (v,v))(hk:2<=vs.length->∀{E':Value->Shared->Prop}{R:SortKind->Shared->Prop},R kd (Jh s a vs)->wpAny (model prog w) A (keyKind' vs.toArray) R E' (Jh s a vs))(L:Oj (model prog w) A E (Jh s a vs) kd b good)(q:∀out:Array Keyed,out.Perm (pairsOf vs)->Rng b out 0 vs.length->P (.done (.ret .none)) { s with heap:=sortedHeap s.heap a vs (out.map (·.2)) }) :
  wpAny (model prog w) A (Builtin.«list.sort» { pos:=[.ref a] }) P E s:=by
 rw [list_sort_plain];refine wpAny_bind (listItems_at ha rfl ?_);refine wpAny_bind (listUpdate_at ha rfl ?_ (by rw [List.size_toArray];exact hz) (Nat.zero_le _));have ha1:=get?_update_seq ha (λ_=>#[]);generalize (if ((#[]:Array Value).size == vs.toArray.size)=true then n else n+1)=n1 at ha1;refine wpAny_bind (seqEpoch_at ha1 rfl ?_);refine wpAny_bind (wpAny_newTuple ?_ hz);refine wpAny_bind (wpAny_newList ?_ (Nat.zero_le _));refine wpAny_holding ?_;have ha2:(Jh s a vs).heap.get? a=some (seqObj "list" #[] n1):=Heap.get?_push_of_some _ (Heap.get?_push_of_some _ ha1);show wpAny (model prog w) A _ P E (Jh s a vs);have hps:(pairsOf vs).size=vs.length:=pairsOf_size vs;dsimp only [List.size_toArray];split
 ·rename_i h2;have h2:vs.length<2:=by simpa using h2
  refine wpAny_bind (wpAny_pure ?_);refine wpAny_bind (wpAny_mono (Q:=λr s'=>s'=Jh s a vs/\failedOf r.2=none/\(arrOf r.2).Perm (pairsOf vs)/\Rng b (arrOf r.2) 0 vs.length) (wpAny_pure ⟨rfl,rfl,.refl _,?_⟩) ?_ (λ_ _ z=>z))
  ·have:=XS W (arr:=pairsOf vs) (by lia);rw [hps] at this;exact this
  ·rintro ⟨_,st⟩ s' ⟨rfl,e2,hp,hr⟩;dsimp only;refine wpAny_bind (seqEpoch_at ha2 rfl ?_);have e2:failedOf st=none:=e2;have hl:((arrOf st).map (·.2)).size<=sizeLine+1:=by
    have this:(arrOf st).size=(pairsOf vs).size:=hp.size_eq;rw [pairsOf_size] at this;rw [Array.size_map]
    lia
   refine wpAny_bind (listUpdate_at ha2 rfl ?_ (Nat.zero_le _) hl);have:(n1 != n1)=false:=by simp
   rw [this,e2];exact wpAny_pure (q (arrOf st) hp hr)
 ·rename_i h2;have h2:¬ vs.length<2:=by simpa using h2
  refine wpAny_bind (hk (by lia) ?_);refine wpAny_bind (wpAny_mono (Q:=λr s'=>s'=Jh s a vs/\failedOf r.2=none/\(arrOf r.2).Perm (pairsOf vs)/\Rng b (arrOf r.2) 0 vs.length) ?_ ?_ (λ_ _ z=>z))
  ·refine Om (st:=SortSt.mk' kd (vs.toArray.zip vs.toArray) #[] 7 none) (Q:=λ_ st=>failedOf st=none/\(arrOf st).Perm (pairsOf vs)/\Rng b (arrOf st) 0 vs.length) W L rfl rfl rfl (λx hx=>?_) λst' k1 k2 k3=>⟨k2,k1,?_⟩
   ·have hx:x∈(pairsOf vs).toList:=hx;rw [pairsOf_toList] at hx;obtain ⟨e,hm⟩:=mem_zip_self hx;obtain ⟨x1,x2⟩:=x;have e:x1=x2:=e;subst e;exact hg _ hm
   ·have e:(arrOf (SortSt.mk' kd (vs.toArray.zip vs.toArray) #[] 7 none)).size=vs.length:=hps;rw [e] at k3;exact k3
  ·rintro ⟨_,st⟩ s' ⟨rfl,e2,hp,hr⟩;dsimp only;refine wpAny_bind (seqEpoch_at ha2 rfl ?_);have e2:failedOf st=none:=e2;have hl:((arrOf st).map (·.2)).size<=sizeLine+1:=by
    have this:(arrOf st).size=(pairsOf vs).size:=hp.size_eq;rw [pairsOf_size] at this;rw [Array.size_map]
    lia
   refine wpAny_bind (listUpdate_at ha2 rfl ?_ (Nat.zero_le _) hl);have:(n1 != n1)=false:=by simp
   rw [this,e2];exact wpAny_pure (q (arrOf st) hp hr)
theorem Jp {h:Heap}{a c:Addr}{o:Obj}{f:Obj->Obj}(hc:c≠a)(e:h.get? c=some o):(h.update a f).get? c=some o:=(Heap.get?_update_ne h c a f hc).trans e
theorem WJ {l:Addr}{vs:List Value}{Q:Value->Shared->Prop}(W:WO b)(hl:s.heap.IsList l vs.toArray)(hz:vs.length<=sizeLine)(hg:∀v∈vs,good (v,v))(hk:∀h':Heap,(∀c o,s.heap.get? c=some o->h'.get? c=some o)->2<=vs.length->∀{E':Value->Shared->Prop}{R:SortKind->Shared->Prop},R kd { s with heap:=h' }->wpAny (model prog w) A.in1.in1 (keyKind' vs.toArray) R E' { s with heap:=h' })(L:∀h':Heap,(∀c o,s.heap.get? c=some o->h'.get? c=some o)->Oj (model prog w) A.in1.in1 E { s with heap:=h' } kd b good)(q:∀out:Array Keyed,out.Perm (pairsOf vs)->Rng b out 0 vs.length->Q (.ref (s.heap.objs.size+1)) { s with heap:=sortedAll s.heap vs (out.map (·.2)) }) :
  wpAny (model prog w) A (call (.builtin "sorted") [.ref l]) Q E s:=by
 refine Calls.call_function_entry kind_sorted plain_sorted entry_sorted (args_sorted1 _) ?_;unfold Builtin.sorted;refine wpAny_bind (wpAny_pure ?_);refine wpAny_bind (collect_list hl ?_ hz);refine wpAny_bind (wpAny_newList ?_ hz);refine wpAny_bind (wpAny_holding ?_);generalize hh1:(s.heap.push (seqObj "list" #[] 0)).update s.heap.objs.size (Obj.mapSeq λx=>x++vs.toArray)=h1;have sz1:h1.objs.size=s.heap.objs.size+1:=by rw [<-hh1,Heap.size_update,Heap.size_push]
 have k1:∀c o,s.heap.get? c=some o->h1.get? c=some o:=λc o e=>by
  rw [<-hh1];exact Jp (Nat.ne_of_lt (Heap.lt_size e)) (Heap.get?_push_of_some _ e)
 generalize hh2:h1.push { cls:=Value.type "list", data:=Data.seq vs.toArray }=h2;have ha:h2.get? h1.objs.size=some (seqObj "list" vs.toArray 0):=by rw [<-hh2];exact Heap.get?_push_size _ rfl
 have k2:∀c o,s.heap.get? c=some o->h2.get? c=some o:=λc o e=>by
  rw [<-hh2];exact Heap.get?_push_of_some _ (k1 c o e)
 have k3:∀c o,s.heap.get? c=some o->(Jh { s with heap:=h2 } h1.objs.size vs).heap.get? c=some o:=λc o e=>by
  unfold Jh;refine Heap.get?_push_of_some _ (Heap.get?_push_of_some _ (Jp ?_ (k2 c o e)));have:=Heap.lt_size e;rw [sz1];exact Nat.ne_of_lt (Nat.lt_succ_of_lt this)
 refine wpAny_call_entry (s:={ s with heap:=h2 }) slot_list_sort ⟨_,ha,rfl⟩ entry_list_sort ?_ (args_list_sort _);refine Jo (s:={ s with heap:=h2 }) W ha hz hg (λh=>hk _ k3 h) (L _ k3) λout p r=>⟨.none,rfl,wpAny_pure ⟨_,rfl,?_⟩⟩;have e:({ s with heap:=sortedHeap h2 h1.objs.size vs (out.map (·.2)) }:Shared)={ s with heap:=sortedAll s.heap vs (out.map (·.2)) }:=by
  unfold sortedAll;rw [sz1,<-hh2,<-hh1]
 show Q (.ref h1.objs.size) { s with heap:=sortedHeap h2 h1.objs.size vs (out.map (·.2)) };rw [e,sz1];exact q out p r
end
end L2
namespace L2
open PySem PySem.Spec PyProof.Rows
section
variable {X:Cx}(K:W.Frag)
theorem ZbS {tg:Expr}{l:Expr}{tl:TE}(hl:PE X l tl)(h:X.K=K:=by rfl):PI X tg l (ZdR K tl):=h▸Zbo hl
end
end L2
namespace L2
open PySem PySem.Spec PyProof.Rows
theorem Ze {K:PySem.W.Frag}{a D:Addr}{xs:List V}{g:TG}{tc:TT}{te:TE}{σ0:St}{R:Hp->Prop}{H1:Hp}(Pv:Nat->List V->Hp->Prop)(h0:Pv 0 [] (upd H1 D (.lst [])))(hl:∀i ys H,i<=xs.length->Pv i ys H->SqT K H a xs)(hs:∀i x ys H,xs[i]?=some x->Pv i ys H->g x σ0 H λσ4 H4=>J0 σ0 σ4/\tc σ4 H4 λb H5=>if b=true then te σ4 H5 λy H6=>H6 D=some (.lst ys)/\ys.length<sizeLine/\Pv (i+1) (ys++[y]) (upd H6 D (.lst (ys++[y]))) else Pv (i+1) ys H5)(hd:∀ys H,Pv xs.length ys H->R H):∃W:Nat->Nat->List V->Hp->Prop,(∃m,W 0 m [] (upd H1 D (.lst [])))/\G6 (Itt K a) D g tc te σ0 W R:=by
 refine ⟨λi m ys H=>m=xs.length-i/\i<=xs.length/\Pv i ys H,⟨_,rfl,Nat.zero_le _,h0⟩,?_⟩;rintro i m ys H ⟨rfl,hi,p⟩;have q:=hl i ys H hi p;by_cases hlt:i<xs.length
 ·refine .inr ⟨⟨xs,xs[i],q,by simp [hlt]⟩,Pv (i+1),λys' H' p'=>⟨xs.length-(i+1),by lia,rfl,hlt,p'⟩,λx H' y=>?_⟩;obtain ⟨e,y⟩:=y;subst e;exact hs i x ys _ (y xs q) p
 ·have e:i=xs.length:=by lia
  subst e;exact .inl ⟨⟨xs,q,Nat.le_refl _⟩,hd ys H p⟩
end L2
namespace L2
open PySem PySem.Spec PyProof.Rows
section
variable {prog:Program}{w:World}{A:Around}{E:Value->Shared->Prop}{s:Shared}
theorem lt_int {x y:Int}{t u:Tok}{Q:Value->Shared->Prop}(h:Q (.bool (decide (x<y))) s):wpAny (model prog w) A (richCompare .Lt (.int x t) (.int y u)) Q E s:=
 CmpOf.ints_lt (P:=λi v=>∃t,v=.int (if i=0 then x else y) t) (λi=>if i=0 then x else y) (λ_ _ p=>p) 0 1 _ _ s Q E ⟨t,rfl⟩ ⟨u,rfl⟩ h
end
end L2
namespace L2
open PySem PySem.Spec PyProof.Rows
def Jc:List Int->List Int->Bool
 | [],[]=>false
 | [],_::_=>true
 | _::_,[]=>false
 | x::xs,y::ys=>if x=y then Jc xs ys else decide (x<y)
section
variable {prog:Program}{w:World}{A:Around}{E:Value->Shared->Prop}{s:Shared}
theorem XT:∀{its:List Value}{ns:List Int},IntsAre its ns->∀k:Nat,(its[k]?=none/\ns.drop k=[])\/∃i t,its[k]?=some (.int i t)/\ns.drop k=i::ns.drop (k+1)
 | _,_,.nil,k=>.inl ⟨by simp,by simp⟩
 | _,_,.cons n t h,0=>.inr ⟨n,t,rfl,rfl⟩
 | _,_,.cons n t h,k+1=>by
  rcases XT h k with ⟨h1,h2⟩ | ⟨i,t,h1,h2⟩
  ·exact .inl ⟨by simpa using h1,by simpa using h2⟩
  ·exact .inr ⟨i,t,by simpa using h1,by simpa using h2⟩
theorem J6 {its:List Value}{ns:List Int}(h:IntsAre its ns):its.length=ns.length:=by
 induction h with
 | nil=>rfl
 | cons n t h ih=>simp [ih]
end
end L2
namespace L2
open PySem PySem.Spec PyProof.Rows Classical
theorem V9:∀xs:List Int,Jc xs xs=false
 | []=>rfl
 | x::xs=>by
  unfold Jc;rw [if_pos rfl];exact V9 xs
theorem XU:∀{xs ys zs:List Int},Jc xs ys=true->Jc ys zs=true->Jc xs zs=true
 | [],[],_,h,_=>by simp [Jc] at h
 | [],_::_,[],_,h=>by simp [Jc] at h
 | [],_::_,_::_,_,_=>rfl
 | _::_,[],_,h,_=>by simp [Jc] at h
 | _::_,_::_,[],_,h=>by simp [Jc] at h
 | x::xs,y::ys,z::zs,h1,h2=>by
  unfold Jc at h1 h2 ⊢;by_cases e1:x=y
  ·rw [if_pos e1] at h1;by_cases e2:y=z
   ·rw [if_pos e2] at h2;rw [if_pos (e1.trans e2)];exact XU h1 h2
   ·rw [if_neg e2] at h2;rw [if_neg (by rw [e1];exact e2),e1];exact h2
  ·rw [if_neg e1] at h1;have h1:=of_decide_eq_true h1;by_cases e2:y=z
   ·rw [if_neg (by rw [<-e2];exact e1),<-e2];exact decide_eq_true h1
   ·rw [if_neg e2] at h2;have h2:=of_decide_eq_true h2;rw [if_neg (by lia)];exact decide_eq_true (by lia)
theorem Uj:∀{xs ys:List Int},Jc xs ys=false->Jc ys xs=false->xs=ys
 | [],[],_,_=>rfl
 | [],_::_,h,_=>by simp [Jc] at h
 | _::_,[],_,h=>by simp [Jc] at h
 | x::xs,y::ys,h1,h2=>by
  unfold Jc at h1 h2;by_cases e:x=y
  ·rw [if_pos e] at h1;rw [if_pos e.symm] at h2;rw [e,Uj h1 h2]
  ·rw [if_neg e] at h1;rw [if_neg (Ne.symm e)] at h2;have h1:=of_decide_eq_false h1;have h2:=of_decide_eq_false h2
   lia
theorem XV {α:Type}{κ:Keyed->α}{lt:α->α->Bool}(irr:∀a,lt a a=false)(tr:∀{a b c},lt a b=true->lt b c=true->lt a c=true)(tot:∀{a b},lt a b=false->lt b a=false->a=b):WO (λx y=>lt (κ x) (κ y)):=by
 refine ⟨λx=>irr _,λx y z=>tr,λx y z h=>?_⟩;cases h1:lt (κ x) (κ y) with
 | true=>exact .inl rfl
 | false=>
  cases h2:lt (κ y) (κ x) with
  | true=>exact .inr (tr h2 h)
  | false=>
   rw [<-tot h1 h2];exact .inr h
theorem UW {α β:Type}{f:α->β}:∀{l:List β}{zs:List α},l.Perm (zs.map f)->∃zs':List α,zs'.Perm zs/\zs'.map f=l:=by
 intro l zs h;generalize hm:zs.map f=m at h
 induction h generalizing zs with
 | nil=>exact ⟨zs,.refl _,by rw [hm]⟩
 | @cons x l1 l2 _ ih=>
  cases zs with
  | nil=>simp at hm
  | cons z zs=>
   simp at hm;obtain ⟨zs',h1,h2⟩:=ih hm.2;exact ⟨z::zs',h1.cons z,by rw [List.map_cons,h2,hm.1]⟩
 | swap x y l=>
  cases zs with
  | nil=>simp at hm
  | cons z zs=>
   cases zs with
   | nil=>simp at hm
   | cons z2 zs=>
    simp at hm;exact ⟨z2::z::zs,.swap _ _ _,by simp [hm.1,hm.2.1,hm.2.2]⟩
 | trans _ _ ih1 ih2=>
  obtain ⟨zs1,h1,h2⟩:=ih2 hm;obtain ⟨zs2,h3,h4⟩:=ih1 h2;exact ⟨zs2,h3.trans h1,h4⟩
section
variable {prog:Program}{w:World}{A:Around}{E:Value->Shared->Prop}{s:Shared}{b:Keyed->Keyed->Bool}{good:Keyed->Prop}
theorem Oe {β:Type}{f:Value->Sem β}{g:Value->β}:∀{vs:List Value}{Q:List β->Shared->Prop},(∀v∈vs,∀{Q:β->Shared->Prop},Q (g v) s->wpAny (model prog w) A (f v) Q E s)->Q (vs.map g) s->wpAny (model prog w) A (List.mapM f vs) Q E s
 | [],Q,_,q=>by
  rw [List.mapM_nil];exact wpAny_pure q
 | v::vs,Q,h,q=>by
  rw [List.mapM_cons];refine wpAny_bind (h v (List.mem_cons_self ..) ?_);exact wpAny_bind (Oe (λu hu=>h u (List.mem_cons_of_mem _ hu)) (wpAny_pure q))
theorem UX {α β:Type}{m:Sem α}{f:α->β}{Q:β->Shared->Prop}(h:wpAny (model prog w) A m (λa s'=>Q (f a) s') E s):wpAny (model prog w) A (f <$> m) Q E s:=by
 rw [map_eq_pure_bind];exact wpAny_bind (wpAny_mono h (λa s' z=>wpAny_pure z) λ_ _ z=>z)
end
end L2
namespace L2
open PySem PySem.Spec PyProof.Rows Classical
theorem JB {b:Keyed->Keyed->Bool}{out:Array Keyed}{n:Nat}(h:Rng b out 0 n)(hn:out.size=n):out.toList.Pairwise (kle b):=by
 rw [List.pairwise_iff_getElem];intro i j hi hj hij;rw [Array.length_toList] at hi hj;exact h i j _ _ (Nat.zero_le _) (by lia) (by lia) (by simp [hi]) (by simp [hj])
theorem Uk {vs:List Value}{out:Array Keyed}(h:out.Perm (pairsOf vs)):(out.map (·.2)).toList.Perm vs/\(∀x∈out.toList,x.1=x.2/\x.1∈vs)/\out.size=vs.length:=by
 have p:out.toList.Perm (vs.zip vs):=by
  have:=h.toList;rw [pairsOf_toList] at this;exact this
 refine ⟨?_,λx hx=>mem_zip_self (p.mem_iff.mp hx),by rw [h.size_eq,pairsOf_size]⟩;rw [Array.toList_map];have:=p.map (λx:Keyed=>x.2);rw [show (vs.zip vs).map (λx:Keyed=>x.2)=vs from List.map_snd_zip (Nat.le_refl _)] at this;exact this
theorem Wa:∀{its:List Value}{ns ms:List Int},IntsAre its ns->IntsAre its ms->ns=ms
 | _,_,_,.nil,.nil=>rfl
 | _,_,_,.cons n t h,.cons _ _ k=>by rw [Wa h k]
section
variable {X:Cx}(K:W.Frag)
theorem UY:∀(zs:List (Addr×List Int)),Vals (zs.map λz=>V.ref z.1) (zs.map λz=>Value.ref z.1)
 | []=>.nil
 | z::zs=>.cons rfl (UY zs)
end
end L2
namespace L2
open PySem PySem.Spec PyProof.Rows
section
variable {X:Cx}
theorem Inv.freeze {qQ:List (Addr×Obj)}{σ:St}{H:Hp}{s:Shared}{a:Addr}{kvs:List (Key×V)}(I:Inv X qQ σ H s)(e:H a=some (.dK kvs)):∃o,Inv X qQ σ (upd H a (.frz o (.dK kvs))) s:=by
 have ob:ObjOk X.prog X.w H s.heap a (.dK kvs):=I.hok a _ e;obtain ⟨z,hd,vs,r,o,es,ep,h1,h2⟩:=id ob;refine ⟨o,?_⟩;have:=I.write (x:=a) (e:=a) (o:=.frz o (.dK kvs)) (h':=s.heap) (t':=s.toks) (by rw [e];exact True.intro) (.inl rfl) (λb u _ q=>q) ⟨_,h1⟩ ⟨h1,ob⟩;exact this
def ItD (a:Addr)(o:Obj)(kvs:List (Key×V)):It:=
 ⟨λi H=>H a=some (.frz o (.dK kvs))/\i<kvs.length,λi H x H'=>H'=H/\∃k v,kvs[i]?=some (k,v)/\x=kV k,λi H=>H a=some (.frz o (.dK kvs))/\kvs.length<=i⟩
theorem ZX:∀{kvs:List (Key×V)}{vs:List (Key×Value)}{i:Nat}{k:Key}{v:V},KV kvs vs->kvs[i]?=some (k,v)->∃u,vs[i]?=some (k,u)
 | _,_,i,k,v,.nil,e=>by simp at e
 | p::ps,q::qs,0,k,v,.cons r t,e=>by
  simp at e;subst e;obtain ⟨q1,q2⟩:=q;have:k=q1:=r.1;subst this;exact ⟨q2,rfl⟩
 | p::ps,q::qs,i+1,k,v,.cons _ t,e=>by
  obtain ⟨u,h⟩:=ZX (i:=i) t (by simpa using e);exact ⟨u,by simpa using h⟩
theorem ZbT {P:Program}{w:World}{k:Key}{u:Value}(h:(Gz P w).is k u=true):RelV (kV k) u:=by
 rcases GC (show Uz k u=true from h) with ⟨i,t,rfl,rfl⟩ | ⟨x,t,rfl,rfl⟩
 ·exact ⟨t,rfl⟩
 ·exact ⟨t,rfl⟩
theorem VC {qQ:List (Addr×Obj)}{σ:St}{H:Hp}{s:Shared}{a:Addr}{o:Obj}{kvs:List (Key×V)}{es:Array DictEntry}{ep:Nat}(I:Inv X qQ σ H s)(e:H a=some (.frz o (.dK kvs)))(ho:o.data=.dict es ep) :
  ∃vs,KV kvs vs/\s.heap.DictAt (Gz X.prog X.w) a vs ep:=by
 obtain ⟨h1,z,hd,vs,r,o',es',ep',h2,h3,h4,h5,h6,h7⟩:=(show ObjOk X.prog X.w H s.heap a (.frz o (.dK kvs)) from I.hok a _ e);rw [h1] at h2;cases h2;rw [ho] at h4;cases h4;exact ⟨vs,r,o,es,h1,h3,ho,h5,h6,h7⟩
theorem XW {P:Program}{w:World}{K:W.Frag}{tg:Expr}(a it:Addr)(o:Obj)(kvs:List (Key×V))(es:Array DictEntry)(ep:Nat)(ho:o.data=.dict es ep) :
  YI P w K tg (ItD a o kvs) [it] it (λi h=>h.IsKeyIter it a i kvs.length ep) where
 mem:=by simp
 obj:=λi h st b hb=>by
  have e:b=it:=by simpa using hb
  subst e;obtain ⟨o,e,c,d⟩:=st;exact ⟨o,e,λv z=>by rw [d] at z;cases z⟩
 keep:=λi h h' st k=>by
  obtain ⟨o,e,c,d⟩:=st;exact ⟨o,k it (by simp) o e,c,d⟩
 item:=by
  intro X hP hw hK hc i qQ s σ H E I hf st hg;subst hP hw hK;obtain ⟨hq,hi⟩:=hg;obtain ⟨vs,r,da⟩:=VC I hq ho;have qV:kvs.length=vs.length:=Paired.length r;obtain ⟨⟨k,v⟩,hx⟩:∃x,kvs[i]?=some x:=⟨_,List.getElem?_eq_getElem hi⟩;obtain ⟨u,hu⟩:=ZX r hx;obtain ⟨f0,f1,f2,f3,f4,f5⟩:=hf it (by simp);refine wpAny_pyNext_dict_item (knd:=Gz X.prog X.w) (kvs:=vs) (by rw [<-qV];exact st) da hu λkey h' hk st' sb=>?_;have I1:Inv X qQ σ H { s with heap:=h' }:=I.turned (t':=s.toks) (λb o hb e=>(sb.2 b hb).trans e) f0 f1 f3 f4 f5;obtain ⟨o',e,c,d⟩:=id st';exact ⟨key,rfl,W4 (s:={ s with heap:=h' }) e c d (by decide) ⟨kV k,H,I1,ZbT hk,⟨rfl,k,v,hx,rfl⟩,by rw [qV];exact st',λb hb=>(hf b hb).1⟩⟩
 done:=by
  intro X hP hw hK hc i qQ s σ H E I hf st hg;subst hP hw hK;obtain ⟨hq,hi⟩:=hg;obtain ⟨vs,r,da⟩:=VC I hq ho;have qV:kvs.length=vs.length:=Paired.length r;obtain ⟨f0,f1,f2,f3,f4,f5⟩:=hf it (by simp);exact wpAny_pyNext_dict_end (knd:=Gz X.prog X.w) (I.ok.hd hc) (by rw [<-qV];exact st) da (List.getElem?_eq_none_iff.mpr (by lia)) λh' eb=>⟨rfl,I.turned (t':=s.toks) (λb o hb e=>eb b o hb e) f0 f1 f3 f4 f5⟩
 self:=λ_ _ _ _ _ st h=>wpAny_pyIter_keyiter st h
def ZbU (tl:TE):TI:=λσ H R=>tl σ H λx H1=>∃a o kvs,x=.ref a/\H1 a=some (.frz o (.dK kvs))/\R (ItD a o kvs) H1
theorem Zf {tg l:Expr}{tl:TE}(hl:PE X l tl):PI X tg l (ZbU tl):=by
 intro qQ s σ H R I h;refine thn (hl qQ s σ H _ I h) λv s1 ⟨x,H1,I1,r1,q1⟩=>?_;obtain ⟨a,o,kvs,e,hq,q⟩:=q1;subst e;cases r1;obtain ⟨h1,z,hd,vs0,r0,o',es,ep,h2,h3,h4,h5⟩:=(show ObjOk X.prog X.w H1 s1.heap a (.frz o (.dK kvs)) from I1.hok a _ hq);rw [h1] at h2;cases h2;obtain ⟨vs,r,da⟩:=VC I1 hq h4;have qV:kvs.length=vs.length:=Paired.length r;refine wpAny_pyIter_dict (knd:=Gz X.prog X.w) hd da ?_;refine ⟨s1.heap.objs.size,[s1.heap.objs.size],_,_,H1,rfl,I1.kept (t':=s1.toks) λb o e=>Heap.get?_push_of_some _ e,XW a _ o kvs es ep h4,⟨_,Heap.get?_push_size _ rfl,rfl,by rw [qV];rfl⟩,λb hb=>?_,q⟩;have e:b=s1.heap.objs.size:=by simpa using hb
 subst e;exact I1.fpOk (Nat.le_refl _) (I1.hok.fresh (Nat.le_refl _))
theorem WK {a D:Addr}{o:Obj}{kvs:List (Key×V)}{g:TG}{tc:TT}{te:TE}{σ0:St}{R:Hp->Prop}{H1:Hp}(Pv:Nat->List V->Hp->Prop)(h0:Pv 0 [] (upd H1 D (.lst [])))(hl:∀i ys H,i<=kvs.length->Pv i ys H->H a=some (.frz o (.dK kvs)))(hs:∀i k v ys H,kvs[i]?=some (k,v)->Pv i ys H->g (kV k) σ0 H λσ4 H4=>J0 σ0 σ4/\tc σ4 H4 λb H5=>if b=true then te σ4 H5 λy H6=>H6 D=some (.lst ys)/\ys.length<sizeLine/\Pv (i+1) (ys++[y]) (upd H6 D (.lst (ys++[y]))) else Pv (i+1) ys H5)(hd:∀ys H,Pv kvs.length ys H->R H):∃W:Nat->Nat->List V->Hp->Prop,(∃m,W 0 m [] (upd H1 D (.lst [])))/\G6 (ItD a o kvs) D g tc te σ0 W R:=by
 refine ⟨λi m ys H=>m=kvs.length-i/\i<=kvs.length/\Pv i ys H,⟨_,rfl,Nat.zero_le _,h0⟩,?_⟩;rintro i m ys H ⟨rfl,hi,p⟩;have q:=hl i ys H hi p;by_cases hlt:i<kvs.length
 ·refine .inr ⟨⟨q,hlt⟩,Pv (i+1),λys' H' p'=>⟨kvs.length-(i+1),by lia,rfl,hlt,p'⟩,λx H' y=>?_⟩;obtain ⟨e,k,v,ek,rfl⟩:=y;subst e;exact hs i k v ys _ ek p
 ·have e:i=kvs.length:=by lia
  subst e;exact .inl ⟨⟨q,Nat.le_refl _⟩,hd ys H p⟩
theorem ZeG {qQ:List (Addr×Obj)}{σ:St}{H:Hp}{s:Shared}{a:Addr}{kvs:List (Key×V)}{A:Around}{E:Value->Shared->Prop}{Q:Bool->Shared->Prop}(I:Inv X qQ σ H s)(e:Rd H a (.dK kvs))(q:∀s',Inv X qQ σ H s'->Q (!kvs.isEmpty) s'):wpAny (model X.prog X.w) A (truthy (.ref a)) Q E s:=by
 obtain ⟨hz,hS,vs,r,m⟩:=Ua I.hok e;have hl:=OA;have qV:kvs.length=vs.length:=Paired.length r;exact wpAny_truthy_dict hS m (by lia) (by rw [OU r];exact q _ (I.tok _))
theorem XX {a:Expr}{ta:TE}(ha:PE X a ta)(he:∀whole,isTrue a X.env whole=(do let v <- whole;standAt a.pos;holding [v] (truthy v))) :
  PT X a (λσ H Q=>ta σ H λx H'=>∃p kvs,x=.ref p/\Rd H' p (.dK kvs)/\Q (!kvs.isEmpty) H'):=by
 intro qQ s σ H Q I h;refine isTrue_plain (thn (ha qQ s σ H _ I h) λv s1 ⟨x,H1,I1,r1,p,kvs,e,rd,q1⟩=>?_) (he _);subst e;cases r1;exact ZeG I1 rd λs' I'=>⟨H1,I',q1⟩
theorem XY {prog:Program}{w:World}{A:Around}{I:Addr}{fp wr:List Addr}{n:Nat}{P:Nat->Value->Prop}{St:Nat->Heap->Prop}{J:Heap->Prop}{R:Result->Shared->Prop}(W:Walks prog w A.in1 I fp wr n P St)(tr:Nat->Bool)(ht:∀(s:Shared)(i:Nat)(v:Value)(Q:Bool->Shared->Prop)(E:Value->Shared->Prop),J s.heap->P i v->(∀tk,Q (tr i) { s with toks:=tk })->wpAny (model prog w) A.in1 (truthy v) Q E s)(keepJ:∀h h':Heap,J h->(∀b o,b ∉ wr->h.get? b=some o->h'.get? b=some o)->J h') :
  ∀(k i:Nat)(s:Shared),n-i=k->i<=n->St i s.heap->J s.heap->(∀h' tk,(∀b o,b ∉ wr->s.heap.get? b=some o->h'.get? b=some o)->R (.ok (.ret (.bool (((List.range n).drop i).all tr)))) { s with heap:=h',toks:=tk }) ->
  codeAny (model prog w) A (.builtin "all.loop" ⟨[.ref I],[]⟩) R s:=by
 intro k
 induction k with
 | zero=>
  intro i s hk hi st j hR;have en:i=n:=by lia
  subst en;refine codeAny_builtin F.entry_all_loop ?_;rw [Around.under_plainId F.plain_all_loop _];unfold Builtin.«all.loop»;refine wpAny_bind (W.done s _ _ st λh' tk kept=>?_);refine wpAny_bind (wpAny_rule ?_);have:=hR h' tk kept;rw [List.drop_of_length_le (by rw [List.length_range];exact Nat.le_refl _)] at this;exact wpAny_pure this
 | succ k ih=>
  intro i s hk hi st j hR;refine codeAny_builtin F.entry_all_loop ?_;rw [Around.under_plainId F.plain_all_loop _];unfold Builtin.«all.loop»;refine wpAny_bind (W.item i s _ _ (by lia) st λv h' tk pv st' kept=>?_);have j':=keepJ _ _ j kept;refine wpAny_bind (wpAny_holding (ht _ i v _ _ j' pv λtk2=>wpAny_bind (wpAny_letGo ?_)));have ed:(List.range n).drop i=i::(List.range n).drop (i+1):=by
   rw [List.drop_eq_getElem_cons (by rw [List.length_range];lia),List.getElem_range]
  cases hb:tr i with
  | true=>
   rw [if_pos rfl];refine wpAny_pure ⟨plainId_quiet F.plain_all_loop _,ih (i+1) _ (by lia) (by lia) st' j' λh2 tk3 k2=>?_⟩;have:=hR h2 tk3 λb o nb e=>k2 b o nb (kept b o nb e);rw [ed,List.all_cons,hb,Bool.true_and] at this;exact this
  | false=>
   rw [if_neg Bool.false_ne_true];refine wpAny_bind (wpAny_rule ?_);have:=hR h' tk2 kept;rw [ed,List.all_cons,hb,Bool.false_and] at this;exact wpAny_pure this
theorem Zdg (K:PySem.W.Frag)(hc:X.calm=true)(h:X.K=K:=by rfl):Js X (.builtin "all") (λxs H Q=>∃(p:Addr)(zs:List (Addr×List V)),xs=[.ref p]/\SqL K H p (zs.map λz=>V.ref z.1)/\(∀z∈zs,SqL K H z.1 z.2)/\Q (.bl (zs.all λz=>!z.2.isEmpty)) H):=by
 subst h;intro qQ s σ H xs us Q I rv h;obtain ⟨p,zs,rfl,hq,hz,q⟩:=h;obtain ⟨u,rfl,ru⟩:=rv.one;cases ru;obtain ⟨its,r,pl,hzl⟩:=I.list hq;have hh:X.A.in1.handled=none:=I.ok.hd hc;obtain ⟨o,eo,_⟩:=id pl.isList;have hlt:p<s.heap.objs.size:=Heap.lt_size eo;have qV:=r.length;rw [List.length_map] at qV;have ge:∀(i:Nat)(v:Value),its.toArray[i]?=some v->∃z,zs[i]?=some z/\v=.ref z.1:=λi v hv=>by
  have hv':its[i]?=some v:=by simpa using hv
  have hi:i<its.length:=(List.getElem?_eq_some_iff.mp hv').1;obtain ⟨z,e⟩:∃z,zs[i]?=some z:=⟨_,List.getElem?_eq_getElem (by lia)⟩;obtain ⟨u,hu,ru⟩:=r.get (show (zs.map λz=>V.ref z.1)[i]?=some (V.ref z.1) by rw [List.getElem?_map,e];rfl);rw [hv'] at hu;cases hu;exact ⟨z,e,ru⟩
 refine call_function_tree PySem.F.kind_all PySem.F.plain_all PySem.F.entry_all (PySem.F.args_all1 _) ?_;show wpAny _ _ (oneArg "all" ⟨[.ref p],[]⟩ >>= _) _ _ s;refine wpAny_bind (wpAny_bind (wpAny_pure (wpAny_pure ?_)));refine wpAny_bind (wpAny_pyIter_list pl.isList ?_);refine wpAny_pure ⟨plainId_quiet F.plain_all_loop _,?_⟩;have kz:∀z∈zs,∃iz:List Value,Vals z.2 iz/\s.heap.IsList z.1 iz.toArray/\z.2.length<=sizeLine:=λz hzm=>by
  obtain ⟨iz,rz,pz,lz⟩:=I.list (hz z hzm);exact ⟨iz,rz,pz.isList,lz⟩
 have zlt:∀z∈zs,z.1<s.heap.objs.size:=λz hzm=>by
  obtain ⟨iz,_,pz,_⟩:=kz z hzm;obtain ⟨o,e,_⟩:=pz;exact Heap.lt_size e
 have W:=Walks.list (prog:=X.prog) (w:=X.w) hh s.heap.objs.size p (Nat.ne_of_lt hlt) its.toArray;refine XY (J:=λh=>∀z∈zs,∃iz:List Value,Vals z.2 iz/\h.IsList z.1 iz.toArray/\z.2.length<=sizeLine/\z.1<s.heap.objs.size) W (λi=>match zs[i]? with | some z=>!z.2.isEmpty | none=>true) (λs' i v Q' E' j pv q'=>?_) (λh h' j k z hzm=>?_) its.toArray.size 0 _ rfl (Nat.zero_le _)
  ⟨⟨_,Heap.get?_push_size _ rfl,rfl,rfl⟩,pl.isList.at λo e=>Heap.get?_push_of_some _ e⟩ (λz hzm=>?_) (λh' tk hk=>?_)
 ·obtain ⟨z,ez,rfl⟩:=ge i v pv;obtain ⟨iz,rz,pz,lz,_⟩:=j z (List.mem_of_getElem? ez);rw [ez] at q';have hl:=OA;have:=rz.length;exact wpAny_truthy_list pz (by simp only [List.size_toArray];lia) (by rw [J9 rz];exact q' _)
 ·obtain ⟨iz,rz,pz,lz,zl⟩:=j z hzm;refine ⟨iz,rz,pz.at λo e=>k _ o ?_ e,lz,zl⟩;intro y;have:z.1=s.heap.objs.size:=by simpa using y
  exact absurd zl (by rw [this];exact Nat.lt_irrefl _)
 ·obtain ⟨iz,rz,pz,lz⟩:=kz z hzm;exact ⟨iz,rz,pz.at λo e=>Heap.get?_push_of_some _ e,lz,zlt z hzm⟩
 ·refine ⟨.bl _,H,I.kept λb o e'=>hk b o ?_ (Heap.get?_push_of_some _ e'),?_,q⟩
  ·intro z;have:b=s.heap.objs.size:=by simpa using z
   exact absurd (Heap.lt_size e') (by rw [this];exact Nat.lt_irrefl _)
  ·show Value.bool _=Value.bool _
   congr 1
   rw [List.size_toArray,<-qV,List.drop_zero];clear hk W kz zlt ge qV hzl pl r hq hz q
   induction zs with
   | nil=>rfl
   | cons z zs ih=>
    rw [List.length_cons,List.range_succ_eq_map,List.all_cons,List.all_map,List.all_cons]
    congr 1
theorem Zd5 (K:W.Frag)(hc:X.calm=true)(h:X.K=K:=by rfl):Js X (.builtin "any") (λxs H Q=>∃(p:Addr)(bs:List Bool),xs=[.ref p]/\SqL K H p (bs.map V.bl)/\Q (.bl (bs.any id)) H):=by
 subst h;intro qQ s σ H xs us Q I rv h;obtain ⟨p,bs,rfl,hq,q⟩:=h;obtain ⟨u,rfl,ru⟩:=rv.one;cases ru;obtain ⟨its,r,pl,hz⟩:=I.list hq;have e:=OF r;have hh:X.A.in1.handled=none:=I.ok.hd hc;obtain ⟨o,eo,_⟩:=id pl.isList;have hlt:p<s.heap.objs.size:=Heap.lt_size eo;refine call_any_walk (wpAny_pyIter_list pl.isList ?_);refine ⟨s.heap.objs.size,_,_,_,_,_,λi=>bs.getD i false,rfl,Walks.list hh s.heap.objs.size p (Nat.ne_of_lt hlt) its.toArray,⟨⟨_,Heap.get?_push_size _ rfl,rfl,rfl⟩,pl.isList.at λo e=>Heap.get?_push_of_some _ e⟩,?_,λh' tk hk=>?_⟩
 ·intro i v s' Q' E' hv hq';have hv':its[i]?=some v:=by simpa using hv
  rw [e,List.getElem?_map] at hv';cases z:bs[i]? with
  | none=>rw [z] at hv';cases hv'
  | some b=>
   rw [z] at hv';cases hv';have eb:bs.getD i false=b:=by rw [List.getD_eq_getElem?_getD,z];rfl
   exact wpAny_truthy_bool (by rw [<-eb];exact hq')
 ·have hl:its.toArray.size=bs.length:=by rw [List.size_toArray,e,List.length_map]
  refine ⟨.bl _,H,I.kept λb o e'=>hk b o ?_ (Heap.get?_push_of_some _ e'),?_,q⟩
  ·intro z;have:b=s.heap.objs.size:=by simpa using z
   exact absurd (Heap.lt_size e') (by rw [this];exact Nat.lt_irrefl _)
  ·show Value.bool _=Value.bool _
   congr 1
   rw [hl];clear hk hl hz pl r hq e q
   induction bs with
   | nil=>rfl
   | cons b bs ih=>
    rw [List.length_cons,List.range_succ_eq_map,List.any_cons,List.any_map,List.any_cons];show (b || _)=(b || _)
    congr 1
theorem Wb:bootBuiltins "any" = some (.builtin "any"):=by first | rfl | decide +kernel
end
end L2
namespace L2
open PySem PySem.Spec PyProof.Rows
mutual
inductive Th (H:Hp):V->PyData->Prop
 | non:Th H .non .none
 | bl (b:Bool):Th H (.bl b) (.bool b)
 | int (i:Int):Th H (.int i) (.int i)
 | str (x:Str):Th H (.str x) (.str x)
 | lst {a:Addr} {xs:List V} {ds:List PyData}:H a=some (.lst xs)->xs.length<=1000->Ths H xs ds->Th H (.ref a) (.list ds)
 | tup {a:Addr} {xs:List V} {ds:List PyData}:H a=some (.tup xs)->xs.length<=1000->Ths H xs ds->Th H (.ref a) (.tuple ds)
inductive Ths (H:Hp):List V->List PyData->Prop
 | nil:Ths H [] []
 | cons {x:V} {d:PyData} {xs:List V} {ds:List PyData}:Th H x d->Ths H xs ds->Ths H (x::xs) (d::ds)
end
mutual
theorem Th.same {H H':Hp}(s:Same H H'):∀{v:V}{d:PyData},Th H v d->Th H' v d
 | _,_,.non=>.non
 | _,_,.bl b=>.bl b
 | _,_,.int i=>.int i
 | _,_,.str x=>.str x
 | _,_,.lst e z h=>.lst (s _ _ e) z (Ths.same s h)
 | _,_,.tup e z h=>.tup (s _ _ e) z (Ths.same s h)
theorem Ths.same {H H':Hp}(s:Same H H'):∀{vs:List V}{ds:List PyData},Ths H vs ds->Ths H' vs ds
 | _,_,.nil=>.nil
 | _,_,.cons h t=>.cons (Th.same s h) (Ths.same s t)
end
section
variable {X:Cx}{a:Expr}{ta:TE}{pos:Pos}
theorem XZ (K:W.Frag)(h:X.K=K:=by rfl):Js X (.type "tuple") (λxs H Q=>∃p ys,xs=[.ref p]/\((SqL K H p ys/\∀l,H l=none->Q (.ref l) (upd H l (.tup ys)))\/(SqT K H p ys/\Q (.ref p) H))):=h▸O8
end
end L2
namespace L2
open PySem PySem.Spec PyProof.Rows
section
variable {prog:Program}{w:World}{A:Around}{E:Value->Shared->Prop}{s:Shared}
theorem X0 {it d:Addr}{i ep:Nat}{es:Array DictEntry}{o:Obj}{e:DictEntry}{Q:Value->Shared->Prop}(hit:s.heap.IsKeyIter it d i es.size ep)(ho:s.heap.get? d=some o)(hd:o.data=.dict es ep)(hi:es[i]?=some e)(q:∀h',h'.IsKeyIter it d (i+1) es.size ep->Heap.SameBut it s.heap h'->Q e.key { s with heap:=h' }):wpAny (model prog w) A (Builtin.«dict_keyiterator.__next__» ⟨[.ref it],[]⟩) (λfin s'=>∃v,fin=.done (.ret v)/\Q v s') E s:=by
 obtain ⟨⟨c0,d0,t0,sl0⟩,hoi,hci,hdi⟩:=id hit;subst hci hdi;have T:=hit.typeIs
 wp_walk using wpAny_fieldsOf hoi rfl,wpAny_dictEntries ho hd,wpAny_dictEpoch ho hd,wpAny_typeNameOfWhole_keyiter T,wpAny_isOneOf_keyiter T
 rw [if_neg (by lia),Int.toNat_natCast,hi]
 wp_walk using wpAny_typeNameOfWhole_keyiter T,wpAny_isOneOf_keyiter T,wpAny_setField hoi rfl
 case hi=>exact (by decide:(0:Nat)+1<4)
 case h=>
  have K1:(s.heap.update it (Obj.mapFields (·.setIfInBounds 1 (rawInt ((i:Int)+1))))).IsKeyIter it d (i+1) es.size ep:=by
   exact ⟨_,Heap.get?_update_self _ hoi rfl,rfl,rfl⟩
  have B1:Heap.SameBut it s.heap (s.heap.update it (Obj.mapFields (·.setIfInBounds 1 (rawInt ((i:Int)+1))))):=Heap.SameBut.update ..;have T1:=K1.typeIs (s:={ s with heap:=s.heap.update it (Obj.mapFields (·.setIfInBounds 1 (rawInt ((i:Int)+1)))) });show wpAny _ _ _ _ _ { s with heap:=s.heap.update it (Obj.mapFields (·.setIfInBounds 1 (rawInt ((i:Int)+1)))) };generalize s.heap.update it (Obj.mapFields (·.setIfInBounds 1 (rawInt ((i:Int)+1))))=h1 at K1 B1 T1 ⊢
  wp_walk using wpAny_isOneOf_keyiter T1
  exact ⟨_,rfl,q _ K1 B1⟩
theorem X1 {it d:Addr}{i ep:Nat}{es:Array DictEntry}{o:Obj}{Q:Value->Shared->Prop}(hh:A.handled=none)(hit:s.heap.IsKeyIter it d i es.size ep)(ho:s.heap.get? d=some o)(hd:o.data=.dict es ep)(hi:es[i]?=none)(q:∀h' e,(∀c o,c≠it->s.heap.get? c=some o->h'.get? c=some o)->(∃o,h'.get? e=some o/\o.cls=.type "StopIteration")->E (.ref e) { s with heap:=h' }):wpAny (model prog w) A (Builtin.«dict_keyiterator.__next__» ⟨[.ref it],[]⟩) (λfin s'=>∃v,fin=.done (.ret v)/\Q v s') E s:=by
 obtain ⟨⟨c0,d0,t0,sl0⟩,hoi,hci,hdi⟩:=id hit;subst hci hdi;have T:=hit.typeIs
 wp_walk using wpAny_fieldsOf hoi rfl,wpAny_dictEntries ho hd,wpAny_dictEpoch ho hd,wpAny_typeNameOfWhole_keyiter T,wpAny_isOneOf_keyiter T
 rw [if_neg (by lia),Int.toNat_natCast,hi]
 wp_walk using wpAny_typeNameOfWhole_keyiter T,wpAny_setField hoi rfl
 case hi=>exact (by decide:(0:Nat)<4)
 case h=>
  have B1:Heap.SameBut it s.heap (s.heap.update it (Obj.mapFields (·.setIfInBounds 0 Value.none))):=Heap.SameBut.update ..;show wpAny _ _ _ _ _ { s with heap:=s.heap.update it (Obj.mapFields (·.setIfInBounds 0 Value.none)) };generalize s.heap.update it (Obj.mapFields (·.setIfInBounds 0 Value.none))=h1 at B1 ⊢
  wp_walk using wpAny_raiseNew_none hh
  exact q _ _ (λc o n e=>Heap.get?_push_of_some _ (Heap.get?_push_of_some _ (by rw [B1.2 c n];exact e))) ⟨_,Heap.get?_push_size _ rfl,rfl⟩
theorem UZ {it d:Addr}{i ep:Nat}{es:Array DictEntry}{o:Obj}{e:DictEntry}{Q:Option Value->Shared->Prop}(hit:s.heap.IsKeyIter it d i es.size ep)(ho:s.heap.get? d=some o)(hd:o.data=.dict es ep)(hi:es[i]?=some e)(q:∀h',h'.IsKeyIter it d (i+1) es.size ep->Heap.SameBut it s.heap h'->Q (some e.key) { s with heap:=h' }):wpAny (model prog w) A (pyNext (.ref it)) Q E s:=by
 refine wpAny_bind (wpAny_attempt (wpAny_callSpecial?_slot hit.typeIs F.slot_dict_keyiterator_next (wpAny_call_entry F.slot_dict_keyiterator_next hit.typeIs F.entry_dict_keyiterator_next (X0 hit ho hd hi λh' k b=>?_) (F.args_dict_keyiterator_next_1 _))))
 wp_walk
 exact q h' k b
theorem U0 {it d:Addr}{i ep:Nat}{es:Array DictEntry}{o:Obj}{Q:Option Value->Shared->Prop}(hh:A.in1.handled=none)(hit:s.heap.IsKeyIter it d i es.size ep)(ho:s.heap.get? d=some o)(hd:o.data=.dict es ep)(hi:es[i]?=none)(q:∀h',(∀c o,c≠it->s.heap.get? c=some o->h'.get? c=some o)->Q none { s with heap:=h' }):wpAny (model prog w) A (pyNext (.ref it)) Q E s:=by
 refine wpAny_bind (wpAny_attempt (wpAny_callSpecial?_slot hit.typeIs F.slot_dict_keyiterator_next (wpAny_call_entry F.slot_dict_keyiterator_next hit.typeIs F.entry_dict_keyiterator_next (X1 hh hit ho hd hi ?_) (F.args_dict_keyiterator_next_1 _))));rintro h' e k ⟨o',e1,e2⟩;exact wpAny_bind (wpAny_isInstance ⟨o',e1,e2⟩ isSubtype_stop (wpAny_pure (q h' k)))
theorem X2 {d:Addr}{ep:Nat}{es:Array DictEntry}{o:Obj}{Q:Value->Shared->Prop}(hs:(d == sysModules)=false)(ho:s.heap.get? d=some o)(hc:o.ExactDict)(hd:o.data=.dict es ep)(q:∀h',h'.IsKeyIter s.heap.objs.size d 0 es.size ep->(∀c o,s.heap.get? c=some o->h'.get? c=some o)->Q (.ref s.heap.objs.size) { s with heap:=h' }):wpAny (model prog w) A (pyIter (.ref d)) Q E s:=by
 have T:s.TypeIs (.ref d) "dict" := ⟨o,ho,hc.1⟩;refine wpAny_pyIter_slot T F.slot_dict_iter (wpAny_call_entry F.slot_dict_iter T F.entry_dict_iter ?_ (F.args_dict_iter_1 _))
 wp_walk using wpAny_notOrdered_dict T,wpAny_dictEntries ho hd,wpAny_dictEpoch ho hd
 exact ⟨_,rfl, "dict_keyiterator", _,⟨_,Heap.get?_push_size _ rfl,rfl⟩,F.slot_dict_keyiterator_next.lookup,q _ ⟨_,Heap.get?_push_size _ rfl,rfl,rfl⟩ λc o e=>Heap.get?_push_of_some _ e⟩
end
end L2
namespace L2
open PySem PySem.Spec PyProof.Rows
section
variable {X:Cx}
theorem Inv.freezeT {qQ:List (Addr×Obj)}{σ:St}{H:Hp}{s:Shared}{a:Addr}{kvs:List (List Key×V)}(I:Inv X qQ σ H s)(e:H a=some (.dT kvs)):∃o,Inv X qQ σ (upd H a (.frz o (.dT kvs))) s:=by
 have ob:ObjOk X.prog X.w H s.heap a (.dT kvs):=I.hok a _ e;obtain ⟨z,hd,xs,r,o,es,ep,h1,h2⟩:=id ob;have nt:∀b ys,H b=some (.tup ys)->upd H a (.frz o (.dT kvs)) b=some (.tup ys):=λb ys q=>by rw [Go (GV q e (λz=>by cases z))];exact q
 refine ⟨o,I.write (x:=a) (e:=a) (o:=.frz o (.dT kvs)) (h':=s.heap) (t':=s.toks) (by rw [e];exact True.intro) (.inl rfl) (λb u _ q=>q) ⟨_,h1⟩ ⟨h1,z,hd,xs,Paired.mapP r λp q y=>⟨y.1,nt _ _ y.2.1,y.2.2⟩,o,es,ep,h1,h2⟩⟩
def ItT (a:Addr)(o:Obj)(kvs:List (List Key×V)):It:=
 ⟨λi H=>H a=some (.frz o (.dT kvs))/\i<kvs.length,λi H x H'=>H'=H/\∃k v b,kvs[i]?=some (k,v)/\x=.ref b/\H b=some (.tup (k.map kV)),λi H=>H a=some (.frz o (.dT kvs))/\kvs.length<=i⟩
theorem Wc {α β:Type}{F:α->β->Prop}{l:List α}{m:List β}(h:Paired F l m):∀{i:Nat}{x:α},l[i]?=some x->∃y,m[i]?=some y/\F x y:=by
 induction h with
 | nil=>intro i x e;simp at e
 | @cons p q _ _ r _ ih=>
  intro i x e;cases i with
  | zero=>simp at e;subst e;exact ⟨q,by simp,r⟩
  | succ i=>simp at e;obtain ⟨y,h1,h2⟩:=ih e;exact ⟨y,by simpa using h1,h2⟩
theorem Ow {qQ:List (Addr×Obj)}{σ:St}{H:Hp}{s:Shared}{a:Addr}{o:Obj}{kvs:List (List Key×V)}(I:Inv X qQ σ H s)(e:H a=some (.frz o (.dT kvs))) :
  (a == sysModules)=false/\s.heap.get? a=some o/\o.ExactDict/\∃es ep,o.data=.dict es ep/\es.size=kvs.length/\∀(i:Nat) k v,kvs[i]?=some (k,v)->∃(de:DictEntry)(b:Addr),es[i]?=some de/\de.key=.ref b/\H b=some (.tup (k.map kV)):=by
 obtain ⟨h1,z,hd,xs,r,o',es,ep,h2,h3,h4,h5,h6⟩:=(show ObjOk X.prog X.w H s.heap a (.frz o (.dT kvs)) from I.hok a _ e);rw [h1] at h2;cases h2;refine ⟨hd,h1,h3,es,ep,h4,?_,λi k v hi=>?_⟩
 ·rw [<-Array.length_toList,h5,List.length_map,Paired.length r]
 ·obtain ⟨⟨k',b,u⟩,hq,e1,e2,_⟩:=Wc r hi;refine ⟨entryOfKey (tupleKind (Gz X.prog X.w)) (k',b,u),b,?_,rfl,e2⟩;rw [<-Array.getElem?_toList,h5,List.getElem?_map,hq]
  rfl
theorem WL {P:Program}{w:World}{K:W.Frag}{tg:Expr}(a it:Addr)(o:Obj)(kvs:List (List Key×V))(es:Array DictEntry)(ep:Nat)(ho:o.data=.dict es ep)(hsz:es.size=kvs.length) :
  YI P w K tg (ItT a o kvs) [it] it (λi h=>h.IsKeyIter it a i es.size ep) where
 mem:=by simp
 obj:=λi h st b hb=>by
  have e:b=it:=by simpa using hb
  subst e;obtain ⟨o,e,c,d⟩:=st;exact ⟨o,e,λv z=>by rw [d] at z;cases z⟩
 keep:=λi h h' st k=>by
  obtain ⟨o,e,c,d⟩:=st;exact ⟨o,k it (by simp) o e,c,d⟩
 item:=by
  intro X hP hw hK hc i qQ s σ H E I hf st hg;subst hP hw hK;obtain ⟨hq,hi⟩:=hg;obtain ⟨hd,h1,h2,es',ep',h3,h4,h5⟩:=Ow I hq;rw [ho] at h3;cases h3;obtain ⟨⟨k,v⟩,hx⟩:∃x,kvs[i]?=some x:=⟨_,List.getElem?_eq_getElem hi⟩;obtain ⟨de,b,hde,hkey,hb⟩:=h5 i k v hx;obtain ⟨f0,f1,f2,f3,f4,f5⟩:=hf it (by simp);refine UZ st h1 ho hde λh' st' sb=>?_;have I1:Inv X qQ σ H { s with heap:=h' }:=I.turned (t':=s.toks) (λb o hb e=>(sb.2 b hb).trans e) f0 f1 f3 f4 f5;obtain ⟨o',e,c,d⟩:=id st';exact ⟨de.key,rfl,W4 (s:={ s with heap:=h' }) e c d (by decide) ⟨.ref b,H,I1,hkey,⟨rfl,k,v,b,hx,rfl,hb⟩,st',λb hb=>(hf b hb).1⟩⟩
 done:=by
  intro X hP hw hK hc i qQ s σ H E I hf st hg;subst hP hw hK;obtain ⟨hq,hi⟩:=hg;obtain ⟨hd,h1,h2,es',ep',h3,h4,h5⟩:=Ow I hq;rw [ho] at h3;cases h3;obtain ⟨f0,f1,f2,f3,f4,f5⟩:=hf it (by simp);exact U0 (I.ok.hd hc) st h1 ho (Array.getElem?_eq_none (by lia)) λh' eb=>⟨rfl,I.turned (t':=s.toks) (λb o hb e=>eb b o hb e) f0 f1 f3 f4 f5⟩
 self:=λ_ _ _ _ _ st h=>wpAny_pyIter_keyiter st h
def ZbV (tl:TE):TI:=λσ H R=>tl σ H λx H1=>∃a kvs,x=.ref a/\((H1 a=some (.dT kvs)/\∀o,R (ItT a o kvs) (upd H1 a (.frz o (.dT kvs))))\/∃o,H1 a=some (.frz o (.dT kvs))/\R (ItT a o kvs) H1)
theorem Ul {tg l:Expr}{tl:TE}(hl:PE X l tl):PI X tg l (ZbV tl):=by
 intro qQ s σ H R I h;refine thn (hl qQ s σ H _ I h) λv s1 ⟨x,H1,I1,r1,q1⟩=>?_;obtain ⟨a,kvs,e,q⟩:=q1;subst e;cases r1;obtain ⟨o,H2,I2,hq,q2⟩:∃o H2,Inv X qQ σ H2 s1/\H2 a=some (.frz o (.dT kvs))/\R (ItT a o kvs) H2:=by
  rcases q with ⟨e,q⟩ | ⟨o,e,q⟩
  ·obtain ⟨o,I2⟩:=I1.freezeT e;exact ⟨o,_,I2,Gb,q o⟩
  ·exact ⟨o,H1,I1,e,q⟩
 obtain ⟨hd,h1,h2,es,ep,h3,h4,h5⟩:=Ow I2 hq;refine X2 hd h1 h2 h3 λh' st kp=>?_;refine ⟨s1.heap.objs.size,[s1.heap.objs.size],_,_,H2,rfl,I2.kept (t':=s1.toks) kp,WL a _ o kvs es ep h3 h4,st,λb hb=>?_,q2⟩;have e:b=s1.heap.objs.size:=by simpa using hb
 subst e;exact I2.fpOk (Nat.le_refl _) (I2.hok.fresh (Nat.le_refl _))
theorem U1 {a:Addr}{o:Obj}{kvs:List (List Key×V)}{g:TG}{tb:TS}{D:Wx}{σ:St}{H:Hp}(Pv:Nat->St->Hp->Prop)(h0:Pv 0 σ H)(hl:∀i σ H,i<=kvs.length->Pv i σ H->H a=some (.frz o (.dT kvs)))(hs:∀i k v b σ H,kvs[i]?=some (k,v)->H b=some (.tup (k.map kV))->Pv i σ H->g (.ref b) σ H λσ2 H2=>tb { D with nx:=Pv (i+1),ct:=Pv (i+1),bk:=D.nx } σ2 H2)(hd:∀ σ H,Pv kvs.length σ H->D.nx σ H) :
  ∃W:Nat->Nat->St->Hp->Prop,(∃m,W 0 m σ H)/\∀i m σ H,W i m σ H ->
   ((ItT a o kvs).stop i H/\D.nx σ H)\/((ItT a o kvs).go i H/\∃N:St->Hp->Prop,(∀ σ' H',N σ' H'->∃m',m'<m/\W (i+1) m' σ' H')/\∀x H',(ItT a o kvs).yld i H x H'->g x σ H' λσ2 H2=>tb { D with nx:=N,ct:=N,bk:=D.nx } σ2 H2):=by
 refine ⟨λi m σ H=>m=kvs.length-i/\i<=kvs.length/\Pv i σ H,⟨_,rfl,Nat.zero_le _,h0⟩,?_⟩;rintro i m σ H ⟨rfl,hi,p⟩;have q:=hl i σ H hi p;by_cases hlt:i<kvs.length
 ·refine .inr ⟨⟨q,hlt⟩,Pv (i+1),λσ' H' p'=>⟨kvs.length-(i+1),by lia,rfl,hlt,p'⟩,λx H' y=>?_⟩;obtain ⟨e,k,v,b,ek,rfl,eb⟩:=y;subst e;exact hs i k v b σ _ ek eb p
 ·have e:i=kvs.length:=by lia
  subst e;exact .inl ⟨⟨q,Nat.le_refl _⟩,hd σ H p⟩
theorem WM {a D:Addr}{o:Obj}{kvs:List (List Key×V)}{g:TG}{tc:TT}{te:TE}{σ0:St}{R:Hp->Prop}{H1:Hp}(Pv:Nat->List V->Hp->Prop)(h0:Pv 0 [] (upd H1 D (.lst [])))(hl:∀i ys H,i<=kvs.length->Pv i ys H->H a=some (.frz o (.dT kvs)))(hs:∀i k v b ys H,kvs[i]?=some (k,v)->H b=some (.tup (k.map kV))->Pv i ys H->g (.ref b) σ0 H λσ4 H4=>J0 σ0 σ4/\tc σ4 H4 λc H5=>if c=true then te σ4 H5 λy H6=>H6 D=some (.lst ys)/\ys.length<sizeLine/\Pv (i+1) (ys++[y]) (upd H6 D (.lst (ys++[y]))) else Pv (i+1) ys H5)(hd:∀ys H,Pv kvs.length ys H->R H):∃W:Nat->Nat->List V->Hp->Prop,(∃m,W 0 m [] (upd H1 D (.lst [])))/\G6 (ItT a o kvs) D g tc te σ0 W R:=by
 refine ⟨λi m ys H=>m=kvs.length-i/\i<=kvs.length/\Pv i ys H,⟨_,rfl,Nat.zero_le _,h0⟩,?_⟩;rintro i m ys H ⟨rfl,hi,p⟩;have q:=hl i ys H hi p;by_cases hlt:i<kvs.length
 ·refine .inr ⟨⟨q,hlt⟩,Pv (i+1),λys' H' p'=>⟨kvs.length-(i+1),by lia,rfl,hlt,p'⟩,λx H' y=>?_⟩;obtain ⟨e,k,v,b,ek,rfl,eb⟩:=y;subst e;exact hs i k v b ys _ ek eb p
 ·have e:i=kvs.length:=by lia
  subst e;exact .inl ⟨⟨q,Nat.le_refl _⟩,hd ys H p⟩
end
end L2
namespace L2
open PySem PySem.Spec PyProof.Rows
def ZbW (S:Addr)(h:Heap)(it d:Addr)(i n ep:Nat):Prop:=∃(f0:Value)(f1:Bool)(ok ov:Value),h.get? it=some { cls:=.type "dict_itemiterator", data:=.fields #[f0,.bool f1,.ref d,.int i 0,.int n 0,.int ep 0,ok,ov] }/\(f0=.none\/∃(a:Addr)(oa:Obj),f0=rawInt a/\h.get? a=some oa/\a≠it/\a≠S)
section
variable {prog:Program}{w:World}{A:Around}{E:Value->Shared->Prop}{s:Shared}
theorem WN {S it d:Addr}{i ep:Nat}{es:Array DictEntry}{o:Obj}{Q:Value->Shared->Prop}(hh:A.handled=none)(st:ZbW S s.heap it d i es.size ep)(ho:s.heap.get? d=some o)(hd:o.data=.dict es ep)(hi:es[i]?=none)(q:∀h' e,(∀c o,c≠it->s.heap.get? c=some o->h'.get? c=some o)->(∃o,h'.get? e=some o/\o.cls=.type "StopIteration")->E (.ref e) { s with heap:=h' }):wpAny (model prog w) A (Builtin.«dict_itemiterator.__next__» ⟨[.ref it],[]⟩) (λfin s'=>∃v,fin=.done (.ret v)/\Q v s') E s:=by
 obtain ⟨f0,f1,ok,ov,hoi,hf⟩:=st;have T:s.TypeIs (.ref it) "dict_itemiterator" := ⟨_,hoi,rfl⟩
 wp_walk using wpAny_fieldsOf hoi rfl,wpAny_dictEntries ho hd,wpAny_dictEpoch ho hd,wpAny_typeNameOfWhole_itemiter T,wpAny_isOneOf_itemiter T
 rw [if_neg (by lia),Int.toNat_natCast,hi]
 wp_walk using wpAny_typeNameOfWhole_itemiter T,wpAny_raiseNew_none hh
 exact q _ _ (λc o n e=>Heap.get?_push_of_some _ (Heap.get?_push_of_some _ ((Heap.get?_update_ne _ _ _ _ n).trans e))) ⟨_,Heap.get?_push_size _ rfl,rfl⟩
theorem WP {S it d:Addr}{i ep:Nat}{es:Array DictEntry}{o:Obj}{Q:Option Value->Shared->Prop}(hh:A.in1.handled=none)(st:ZbW S s.heap it d i es.size ep)(ho:s.heap.get? d=some o)(hd:o.data=.dict es ep)(hi:es[i]?=none)(q:∀h',(∀c o,c≠it->s.heap.get? c=some o->h'.get? c=some o)->Q none { s with heap:=h' }):wpAny (model prog w) A (pyNext (.ref it)) Q E s:=by
 have T:s.TypeIs (.ref it) "dict_itemiterator" := let ⟨_,_,_,_,e,_⟩:=st;⟨_,e,rfl⟩;refine wpAny_bind (wpAny_attempt (wpAny_callSpecial?_slot T F.slot_dict_itemiterator_next (wpAny_call_entry F.slot_dict_itemiterator_next T F.entry_dict_itemiterator_next (WN hh st ho hd hi ?_) (F.args_dict_itemiterator_next_1 _))));rintro h' e k ⟨o',e1,e2⟩;exact wpAny_bind (wpAny_isInstance ⟨o',e1,e2⟩ isSubtype_stop (wpAny_pure (q h' k)))
theorem WQ {d:Addr}{ep:Nat}{es:Array DictEntry}{o:Obj}{Q:Value->Shared->Prop}(hs:(d == sysModules)=false)(ho:s.heap.get? d=some o)(hc:o.ExactDict)(hd:o.data=.dict es ep)(q:Q (.ref s.heap.objs.size) { s with heap:=s.heap.push { cls:=.type "dict_items", data:=.fields #[.ref d] } }):wpAny (model prog w) A (call (.builtin "dict.items") [.ref d]) Q E s:=by
 have T:s.TypeIs (.ref d) "dict" := ⟨o,ho,hc.1⟩;refine wpAny_call_entry F.slot_dict_items T F.entry_dict_items ?_ (F.args_dict_items_1 _)
 wp_walk using wpAny_notOrdered_dict T
 exact ⟨_,rfl,q⟩
end
end L2
namespace L2
open PySem PySem.Spec PyProof.Rows Classical
section
variable {prog:Program}{w:World}{A:Around}{E:Value->Shared->Prop}{s:Shared}{b:Keyed->Keyed->Bool}{good:Keyed->Prop}
theorem X3 (h:∀x y,good x->good y->∀{E':Value->Shared->Prop}{Q:Bool->Shared->Prop},Q (b x y) s->wpAny (model prog w) A (keyLt' (tuples' true) x.1 y.1) Q E' s):Oj (model prog w) A E s (tuples' true) b good:=by
 intro x y st Q gx gy hs q;rw [lt'_eq];refine wpS_bind (wpS_get ?_);refine wpS_bind (wpS_lift ?_);rw [hs];exact wpAny_attempt (h x y gx gy ⟨rfl,wpS_pure q⟩)
theorem Wd {Q:Bool->Shared->Prop}{fin:Bool}:∀{xs ys:List Value}{ns ms:List Int}(i:Nat),IntsAre xs ns->IntsAre ys ms->fin=decide (ns.length<ms.length)->Q (Jc ns ms) s->W.KatLex prog w A true fin Q (xs.zip ys) i s
 | _,_,_,_,i,.nil,hy,hf,q=>by
  refine W.kat_nil ?_;cases hy with
  | nil=>rw [hf];exact q
  | cons m u hy=>rw [hf];simpa [Jc] using q
 | _,_,_,_,i,.cons n t hx,.nil,hf,q=>by
  refine W.kat_nil ?_;rw [hf];simpa [Jc] using q
 | _,_,_,_,i,.cons (vs:=xs) (ns:=ns) n t hx,.cons (vs:=ys) (ns:=ms) m u hy,hf,q=>by
  rw [List.zip_cons_cons];refine W.kat_cons (wpAny_eqBool_int ?_);unfold Jc at q;refine W.kat_go (λhe=>W.kat_yes (Wd (i+1) hx hy ?_ ?_)) λhe=>W.kat_no ?_
  ·rw [hf];simp
  ·have he:n=m:=by simpa using he
   rw [if_pos he] at q;exact q
  ·have he:n≠m:=by simpa using he
   rw [if_neg he] at q;cases hc:(true && i == 0) with
   | true=>exact oneLt_int q
   | false=>exact W.kat_one _ _ (PyProof.Rows.lt_int q)
noncomputable def ZaE (h:Heap)(v:Value):List Int:=if q:∃ns a its,v=.ref a/\h.IsTuple a its/\IntsAre its.toList ns then choose q else []
theorem OI {h:Heap}{a:Addr}{xs ys:Array Value}(h1:h.IsTuple a xs)(h2:h.IsTuple a ys):xs=ys:=by
 obtain ⟨o,e,_,n,d⟩:=h1;obtain ⟨o',e',_,n',d'⟩:=h2;rw [e] at e';cases e';rw [d] at d';cases d'
 rfl
theorem Um {h:Heap}{a:Addr}{its:Array Value}{ns:List Int}(hl:h.IsTuple a its)(hi:IntsAre its.toList ns):ZaE h (.ref a)=ns:=by
 have q:∃ns a' its,Value.ref a=.ref a'/\h.IsTuple a' its/\IntsAre its.toList ns:=⟨ns,a,its,rfl,hl,hi⟩;unfold ZaE;rw [dif_pos q];obtain ⟨a',its',e,h1,h2⟩:=choose_spec q;cases e;have:=OI hl h1;subst this;exact Wa h2 hi
theorem ZbX (h:Heap):WO (λx y=>Jc (ZaE h x.1) (ZaE h y.1)):=XV (κ:=λx:Keyed=>ZaE h x.1) (lt:=Jc) V9 XU Uj
end
end L2
namespace L2
open PySem PySem.Spec PyProof.Rows Classical
section
variable {prog:Program}{w:World}{A:Around}{E:Value->Shared->Prop}{s:Shared}
theorem X4 {β:Type}{f:Value×Value->β->Sem (ForInStep β)}{c0:β}{cR:Bool->β}{Q:β->Shared->Prop}(feq:∀(x:Int)(t u:Tok){Q:ForInStep β->Shared->Prop},Q (.yield c0) s->wpAny (model prog w) A (f (.int x t,.int x u) c0) Q E s)(fne:∀(x y:Int)(t u:Tok){Q:ForInStep β->Shared->Prop},x≠y->Q (.done (cR (decide (x<y)))) s->wpAny (model prog w) A (f (.int x t,.int y u) c0) Q E s) :
  ∀{xs ys:List Value}{ns ms:List Int},IntsAre xs ns->IntsAre ys ms->Q (cR (Jc ns ms)) s->(decide (ns.length<ms.length)=Jc ns ms->Q c0 s)->wpAny (model prog w) A (forIn (xs.zip ys) c0 f) Q E s
 | _,_,_,_,.nil,hy,_,q=>by
  rw [List.zip_nil_left,List.forIn_nil];refine wpAny_pure (q ?_);cases hy <;> simp [Jc]
 | _,_,_,_,.cons n t hx,.nil,_,q=>by
  rw [List.zip_nil_right,List.forIn_nil];exact wpAny_pure (q (by simp [Jc]))
 | _,_,_,_,.cons n t hx,.cons m u hy,q1,q2=>by
  rw [List.zip_cons_cons,List.forIn_cons];by_cases e:n=m
  ·subst e;refine wpAny_bind (feq n t u ?_);dsimp only;unfold Jc at q1 q2;rw [if_pos rfl] at q1 q2;exact X4 feq fne hx hy q1 λz=>q2 (by rw [<-z];simp)
  ·refine wpAny_bind (fne n m t u e ?_);dsimp only;unfold Jc at q1;rw [if_neg e] at q1;exact wpAny_pure q1
theorem We {a b:Addr}{xs ys:Array Value}{ns ms:List Int}{P:PySem.Fin->Shared->Prop}(ha:s.heap.IsTuple a xs)(hb:s.heap.IsTuple b ys)(hx:IntsAre xs.toList ns)(hy:IntsAre ys.toList ms)(h:P (.done (.ret (.bool (Jc ns ms)))) s) :
  wpAny (model prog w) A (Builtin.«tuple.__lt__» ⟨[.ref a,.ref b],[]⟩) P E s:=by
 obtain ⟨oa,ga,ca,na,da⟩:=ha;obtain ⟨ob,gb,cb,nb,db⟩:=hb;show wpAny _ _ (isInstance (.ref b) (.type "tuple") >>= _) _ _ s;refine wpAny_bind (wpAny_isInstance (T := "tuple") ⟨ob,gb,cb⟩ isSubtype_tuple_tuple ?_);simp only [Bool.not_true,Bool.false_eq_true,if_false];refine wpAny_bind (wpAny_tupleItemsOf ga da (wpAny_bind (wpAny_tupleItemsOf gb db (wpAny_bind ?_))));refine X4 (cR:=λc=>(some (PySem.Fin.done (.ret (.bool c))),())) ?_ ?_ hx hy ?_ ?_
 ·intro x t u Q q;refine wpAny_bind (wpAny_eqBool_int ?_);rw [show (x == x)=true from beq_self_eq_true _];simp only [Bool.not_true,Bool.false_eq_true,if_false];exact wpAny_pure q
 ·intro x y t u Q hne q;refine wpAny_bind (wpAny_eqBool_int ?_);rw [show (x == y)=false by rw [beq_eq_false_iff_ne];exact hne];simp only [Bool.not_false,if_true];exact wpAny_bind (wpAny_rule (wpAny_bind (lt_int (wpAny_bind (wpAny_pure (wpAny_pure q))))))
 ·exact wpAny_pure h
 ·intro z;refine wpAny_pure ?_;have e:Builtin.Tuple.tupleCompareSizes .Lt xs.size ys.size=.bool (Jc ns ms):=by
   rw [<-z,<-J6 hx,<-J6 hy,Array.length_toList,Array.length_toList]
   rfl
  show P (.done (.ret (Builtin.Tuple.tupleCompareSizes .Lt xs.size ys.size))) s;rw [e];exact h
theorem ZbY {a b:Addr}{xs ys:Array Value}{ns ms:List Int}{Q:Value->Shared->Prop}(ha:s.heap.IsTuple a xs)(hb:s.heap.IsTuple b ys)(hx:IntsAre xs.toList ns)(hy:IntsAre ys.toList ms)(hu:A.units<cLine)(h:Q (.bool (Jc ns ms)) s):wpAny (model prog w) A (richCompare .Lt (.ref a) (.ref b)) Q E s:=by
 have Ta:s.TypeIs (.ref a) "tuple" := ha.elim λo z=>⟨o,z.1,z.2.1⟩;have Tb:s.TypeIs (.ref b) "tuple" := hb.elim λo z=>⟨o,z.1,z.2.1⟩;exact wpAny_richCompare_same_room (op:=.Lt) Ta Tb F.slot_tuple_lt (wpAny_call_entry F.slot_tuple_lt Ta F.entry_tuple_lt (We ha hb hx hy ⟨_,rfl,(λe=>nomatch e),h⟩) (F.args_tuple_lt_2 _ _)) hu
theorem U2 {o:Bool}{a c:Addr}{xs ys:Array Value}{ns ms:List Int}{Q:Bool->Shared->Prop}(ha:s.heap.IsTuple a xs)(hc:s.heap.IsTuple c ys)(hx:IntsAre xs.toList ns)(hy:IntsAre ys.toList ms)(hu:A.units<cLine)(h:Q (Jc ns ms) s) :
  wpAny (model prog w) A (oneLt' o (.ref a) (.ref c)) Q E s:=by
 cases o with
 | true=>
  rw [oneLt'_eq];dsimp only;rw [if_pos rfl];refine wpAny_bind (wpAny_cRoom hu ?_);have Ta:s.TypeIs (.ref a) "tuple" := ha.elim λo z=>⟨o,z.1,z.2.1⟩;refine wpAny_bind (wpAny_callSpecialIfBound?_slot Ta F.slot_tuple_lt (wpAny_call_entry F.slot_tuple_lt Ta F.entry_tuple_lt (We ha hc hx hy ⟨_,rfl,?_⟩) (F.args_tuple_lt_2 _ _)));show wpAny _ A (truthOfDropped (.bool (Jc ns ms))) Q E s;exact wpAny_truthy_bool h
 | false=>exact W.kat_one _ _ (ZbY ha hc hx hy hu h)
def ZY (h:Heap):Value->Option Value
 | .ref a=>(h.get? a).bind λo=>match o.data with
  | .seq its _=>its[0]?
  | _=>none
 | _=>none
theorem Uo {h:Heap}{a:Addr}{its:Array Value}(t:h.IsTuple a its):ZY h (.ref a)=its[0]?:=by
 obtain ⟨o,e,_,n,d⟩:=t;show (h.get? a).bind _=_;rw [e];simp only [Option.bind_some,d]
def kdT (h:Heap)(vs:List Value):SortKind:=if ((vs[0]?).bind (ZY h)).isSome then general' else oneType'
theorem Up {vs:List Value}{R:SortKind->Shared->Prop}(h:∀v∈vs,∃a,∃its:Array Value,v=.ref a/\s.heap.IsTuple a its)(h2:2<=vs.length)(he:∃v∈vs,ZY s.heap v=none)(q:R (kdT s.heap vs) s):wpAny (model prog w) A (keyKind' vs.toArray) R E s:=by
 rw [keyKind'_eq,List.mapM_toArray];have ty:∀v∈vs,s.TypeIs v "tuple" := λv hv=>by
  obtain ⟨a,its,rfl,o,e,c,_⟩:=h v hv;exact ⟨o,e,c⟩
 refine wpAny_bind (UX (Oe (g:=ZY s.heap) (λv hv Q q=>?_) ?_))
 ·obtain ⟨a,its,rfl,t⟩:=h v hv;rw [Uo t] at q;obtain ⟨o,e,c,n,d⟩:=t;show wpAny _ _ (typeOf _ >>= _) _ _ s;refine wpAny_bind (wpAny_typeOf (ty _ hv) ?_);rw [if_neg (by decide)];exact wpAny_bind (listItems_at e d (wpAny_pure q))
 ·obtain ⟨v1,v2,rest,rfl⟩:∃v1 v2 rest,vs=v1::v2::rest:=by
   match vs,h2 with
   | v1::v2::rest,_=>exact ⟨v1,v2,rest,rfl⟩
  rw [if_neg (by
   intro z;obtain ⟨v,hv,e⟩:=he;have:=List.all_eq_true.mp (by simpa using z:(((v1::v2::rest).map (ZY s.heap)).all λx=>x.isSome)=true) _ (List.mem_map.mpr ⟨v,hv,rfl⟩);rw [e] at this;cases this)]
  unfold kdT at q;simp only [List.getElem?_cons_zero,Option.bind_some] at q;by_cases hf:(ZY s.heap v1).isSome=true
  ·rw [if_pos hf] at q;rw [if_pos (by simpa using hf)];exact wpAny_pure q
  ·rw [if_neg hf] at q;rw [if_neg (by simpa using hf)];rw [oneTypeOnly'_eq,List.mapM_toArray];refine wpAny_bind (wpAny_bind (UX (Oe (g:=λ_=>Value.type "tuple") (λv hv Q q=>wpAny_typeOf (ty v hv) q) ?_)));simp only [List.map_cons,List.getElem?_toArray,List.getElem?_cons_zero];refine wpAny_pure ?_;rw [if_pos (by simp)];exact wpAny_pure q
theorem X5 {kd:SortKind}{b:Keyed->Keyed->Bool}{good:Keyed->Prop}(h:∀x y,good x->good y->∀{E':Value->Shared->Prop}{Q:Bool->Shared->Prop},Q (b x y) s->wpAny (model prog w) A (keyLt' kd x.1 y.1) Q E' s):Oj (model prog w) A E s kd b good:=by
 intro x y st Q gx gy hs q;rw [lt'_eq];refine wpS_bind (wpS_get ?_);refine wpS_bind (wpS_lift ?_);rw [hs];exact wpAny_attempt (h x y gx gy ⟨rfl,wpS_pure q⟩)
end
theorem WR {h h':Heap}(k:∀c o,h.get? c=some o->h'.get? c=some o):∀vs:List Value,(∀v∈vs,∃a,∃it:Array Value,∃ns,v=.ref a/\h.IsTuple a it/\IntsAre it.toList ns/\ns≠[])->∃fs:List Value,W.KatTups h' vs fs/\fs.length=vs.length/\∀f∈fs,∃i t,f=.int i t:=by
 intro vs
 induction vs with
 | nil=>intro _;exact ⟨[],.nil,rfl,λf hf=>by cases hf⟩
 | cons v vs ih=>
  intro h;obtain ⟨fs,h1,h2,h3⟩:=ih λx hx=>h x (List.mem_cons_of_mem _ hx);obtain ⟨a,it,ns,rfl,t1,t2,t3⟩:=h v (List.mem_cons_self ..);obtain ⟨o,e,c,n,d⟩:=t1;have e:=k _ _ e;have ff:∃i t,it[0]?=some (.int i t):=by
   rcases XT t2 0 with ⟨h1,h2⟩ | ⟨i,t,h1,h2⟩
   ·exact absurd (by simpa using h2) t3
   ·exact ⟨i,t,by simpa using h1⟩
  obtain ⟨i,t,ef⟩:=ff;refine ⟨.int i t::fs,.cons e c d ef h1,by simp [h2],λf hf=>?_⟩;rcases List.mem_cons.mp hf with rfl | hf
  ·exact ⟨i,t,rfl⟩
  ·exact h3 f hf
end L2
namespace L2
open PySem PySem.Spec PyProof.Rows Classical
def IVw (v d:Addr):HO:=.ext λh=>h.IsItemsView v d
abbrev kvI (x:List Int×Int):List Key×V:=(x.1.map Sum.inl,.int x.2)
theorem Jb (ns:List Int):(ns.map (Sum.inl:Int->Key)).map kV=ns.map V.int:=by rw [List.map_map];rfl
end L2
namespace L2
open PySem PySem.Spec PyProof.Rows
variable {X:Cx}
theorem U3:∀{ys:List Str}{its:List Value},Vals (ys.map V.str) its->∃l:List (Str×Tok),strValues l=its/\l.map (·.1)=ys
 | [],_,h=>by cases h;exact ⟨[],rfl,rfl⟩
 | y::ys,_,h=>by
  cases h with
  | cons r h=>
   obtain ⟨t,rfl⟩:=r;obtain ⟨l,rfl,e⟩:=U3 h;exact ⟨(y,t)::l,rfl,by rw [List.map_cons,e]⟩
theorem ZaF (K:W.Frag)(hK:X.K=K:=by rfl):MtR X "str.join" (λx xs H Q=>∃a l ys,x=.str a/\xs=[.ref l]/\SqL K H l (ys.map V.str)/\JoinOk a ys=true/\Q (.str (Txt.join a ys)) H):=by
 subst hK;intro qQ s σ H x xs v us Q I rx rv h;obtain ⟨a,l,ys,rfl,rfl,hl,hj,q⟩:=h;obtain ⟨u,rfl,ru⟩:=rv.one;cases ru;obtain ⟨t',rfl⟩:=rx;obtain ⟨its,hv,pl,_⟩:=I.list hl;obtain ⟨ls,rfl,e⟩:=U3 hv;exact SC.join pl.isList e hj λt' k=>⟨.str _,H,I.tok _,⟨_,rfl⟩,q⟩
end L2
namespace L2
open PySem PySem.Spec PyProof.Rows Classical
theorem VD {a b:Str}(h:a.cps.toList=b.cps.toList):a=b:=by
 cases a;cases b
 congr 1
 exact Array.toList_inj.mp h
def OJ (a b:Str×Int):Bool:=decide (a.1.cps.toList<b.1.cps.toList) || (decide (a.1=b.1) && decide (a.2<b.2))
theorem slt_iff {a b:Str×Int}:OJ a b=true↔a.1.cps.toList<b.1.cps.toList\/(a.1=b.1/\a.2<b.2):=by simp [OJ]
theorem X6 (a:Str×Int):OJ a a=false:=by simp [OJ,List.lt_irrefl]
theorem ZbZ {a b c:Str×Int}(h1:OJ a b=true)(h2:OJ b c=true):OJ a c=true:=by
 rcases slt_iff.mp h1 with h1 | ⟨h1,k1⟩ <;> rcases slt_iff.mp h2 with h2 | ⟨h2,k2⟩
 ·exact slt_iff.mpr (.inl (List.lt_trans h1 h2))
 ·exact slt_iff.mpr (.inl (h2▸h1))
 ·exact slt_iff.mpr (.inl (h1▸h2))
 ·exact slt_iff.mpr (.inr ⟨h1.trans h2,by lia⟩)
theorem X7 {a b:Str×Int}(h1:OJ a b=false)(h2:OJ b a=false):a=b:=by
 have h1:(a.1.cps.toList<b.1.cps.toList\/(a.1=b.1/\a.2<b.2))->False:=λz=>by rw [slt_iff.mpr z] at h1;cases h1
 have h2:(b.1.cps.toList<a.1.cps.toList\/(b.1=a.1/\b.2<a.2))->False:=λz=>by rw [slt_iff.mpr z] at h2;cases h2
 have e:a.1=b.1:=VD (List.le_antisymm (List.not_lt.mp λz=>h2 (.inl z)) (List.not_lt.mp λz=>h1 (.inl z)));refine Prod.ext e ?_;rcases Int.lt_trichotomy a.2 b.2 with h | h | h
 ·exact (h1 (.inr ⟨e,h⟩)).elim
 ·exact h
 ·exact (h2 (.inr ⟨e.symm,h⟩)).elim
def IsSI (h:Heap)(a:Addr)(x:Str×Int):Prop:=∃t u:Tok,h.IsTuple a #[.str x.1 t,.int x.2 u]
theorem IsSI.one {h:Heap}{a:Addr}{x y:Str×Int}(h1:IsSI h a x)(h2:IsSI h a y):x=y:=by
 obtain ⟨t,u,p1⟩:=h1;obtain ⟨t',u',q1⟩:=h2;have e:=OI p1 q1;simp only [Array.mk.injEq,List.cons.injEq,Value.int.injEq,Value.str.injEq,and_true] at e;exact Prod.ext e.1.1 e.2.1
noncomputable def ZaG (h:Heap)(v:Value):Str×Int:=if q:∃x a,v=.ref a/\IsSI h a x then choose q else (Str.empty,0)
theorem Uq {h:Heap}{a:Addr}{x:Str×Int}(hx:IsSI h a x):ZaG h (.ref a)=x:=by
 have q:∃x a',Value.ref a=.ref a'/\IsSI h a' x:=⟨x,a,rfl,hx⟩;unfold ZaG;rw [dif_pos q];obtain ⟨a',e,h1⟩:=choose_spec q;cases e;exact h1.one hx
theorem Zdh (h:Heap):WO (λx y=>OJ (ZaG h x.1) (ZaG h y.1)):=XV (κ:=λx:Keyed=>ZaG h x.1) (lt:=OJ) X6 ZbZ X7
theorem IsSI.keep {h h':Heap}{a:Addr}{x:Str×Int}(k:∀c o,h.get? c=some o->h'.get? c=some o)(p:IsSI h a x):IsSI h' a x:=by
 obtain ⟨t,u,⟨o,e,r⟩⟩:=p;exact ⟨t,u,⟨o,k _ _ e,r⟩⟩
section
variable {prog:Program}{w:World}{A:Around}{E:Value->Shared->Prop}{s:Shared}
theorem Zdi {a c:Addr}{x y:Str×Int}{Q:Bool->Shared->Prop}(px:IsSI s.heap a x)(py:IsSI s.heap c y)(q:Q (OJ x y) s):wpAny (model prog w) A.in1 (keyLt' (tuples' true) (.ref a) (.ref c)) Q E s:=by
 obtain ⟨t1,u1,⟨o1,g1,_,n1,d1⟩⟩:=px;obtain ⟨t2,u2,⟨o2,g2,_,n2,d2⟩⟩:=py;refine W.kat_lt g1 d1 g2 d2 ?_;refine W.kat_cons (PyProof.Rows.eqBool_str (W.kat_go (λhe=>W.kat_yes (W.kat_cons (wpAny_eqBool_int (W.kat_go (λhe2=>W.kat_yes (W.kat_nil ?_)) λhe2=>W.kat_no ?_)))) λhe=>W.kat_no ?_))
 ·have e1:x.1=y.1:=by simpa using he
  have e2:x.2=y.2:=by simpa using he2
  have:OJ x y=false:=by rw [Prod.ext e1 e2];exact X6 y
  rw [this] at q;simpa using q
 ·have e1:x.1=y.1:=by simpa using he
  have:OJ x y=decide (x.2<y.2):=by simp [OJ,e1,List.lt_irrefl]
  rw [this] at q;exact W.kat_one _ _ (PyProof.Rows.lt_int q)
 ·have e1:x.1≠y.1:=by simpa using he
  have:OJ x y=decide (x.1.cps.toList<y.1.cps.toList):=by simp [OJ,e1]
  rw [this] at q;exact oneLt_str q
end
section
variable {X:Cx}(K:W.Frag)
abbrev SIz:=Addr×(Str×Int)
def ZaH:List V->Hp->VK->Prop:=λxs H Q=>∃(p:Addr)(zs:List SIz),xs=[.ref p]/\SqL K H p (zs.map λz=>V.ref z.1)/\(∀z∈zs,SqT K H z.1 [.str z.2.1,.int z.2.2]) /\
 ∀(l:Addr)(zs':List SIz),H l=none->zs'.Perm zs->(zs'.map (·.2)).Pairwise (λa b=>OJ b a=false)->Q (.ref l) (upd H l (.lst (zs'.map λz=>V.ref z.1)))
theorem X8:∀{zs:List SIz}{its:List Value},Vals (zs.map λz=>V.ref z.1) its->its=zs.map λz=>Value.ref z.1
 | [],_,h=>by cases h;rfl
 | z::zs,_,h=>by
  cases h with
  | cons r h=>
   cases r;rw [X8 h]
   rfl
theorem X9:∀(zs:List SIz),Vals (zs.map λz=>V.ref z.1) (zs.map λz=>Value.ref z.1)
 | []=>.nil
 | z::zs=>.cons rfl (X9 zs)
theorem ZaI (h:X.K=K:=by rfl):Js X (.builtin "sorted") (ZaH K):=by
 subst h;intro qQ s σ H xs us Q I rv h;obtain ⟨p,zs,rfl,hq,hz,q⟩:=h;obtain ⟨u,rfl,ru⟩:=rv.one;cases ru;obtain ⟨its,r,pl,hzl⟩:=I.list hq;have hl:=r.length;rw [List.length_map] at hl hzl;have ei:=X8 r;have key:∀z∈zs,IsSI s.heap z.1 z.2:=λz hzm=>by
  obtain ⟨iz,rz,pz,_⟩:=I.tuple (hz z hzm);obtain ⟨u,v,rfl,⟨t,rfl⟩,⟨t',rfl⟩⟩:=rz.two;exact ⟨t,t',pz⟩
 have isL:∀v∈its,∃a x,v=.ref a/\IsSI s.heap a x:=λv hv=>by
  rw [ei] at hv;obtain ⟨z,hzm,rfl⟩:=List.mem_map.mp hv;exact ⟨z.1,_,rfl,key z hzm⟩
 have tups:∀(h':Heap),(∀c o,s.heap.get? c=some o->h'.get? c=some o)->∀vs:List Value,(∀v∈vs,∃a x,v=.ref a/\IsSI s.heap a x)->∃fs:List Value,W.KatTups h' vs fs/\fs.length=vs.length/\∀f∈fs,∃(b:Str)(t:Tok),f=.str b t:=by
  intro h' k vs
  induction vs with
  | nil=>intro _;exact ⟨[],.nil,rfl,λf hf=>by cases hf⟩
  | cons v vs ih=>
   intro h;obtain ⟨fs,h1,h2,h3⟩:=ih λx hx=>h x (List.mem_cons_of_mem _ hx);obtain ⟨a,x,rfl,px⟩:=h v (List.mem_cons_self ..);obtain ⟨t,u,⟨o,e,c,n,d⟩⟩:=px.keep k;refine ⟨.str x.1 t::fs,.cons e c d rfl h1,by simp [h2],λf hf=>?_⟩;rcases List.mem_cons.mp hf with rfl | hf
   ·exact ⟨_,_,rfl⟩
   ·exact h3 f hf
 refine WJ (kd:=tuples' true) (good:=λx=>∃a y,x.1=.ref a/\IsSI s.heap a y) (Zdh s.heap) pl.isList (by lia) isL (λh' k h2 E' R q=>?_) (λh' k=>X3 λx y gx gy E' Q q=>?_) λout hp hr=>?_
 ·obtain ⟨fs,t1,t2,t3⟩:=tups h' k its isL;exact W.kat_kind (T:=.type "str") t1 (by lia) (λv hv=>by obtain ⟨b,t,rfl⟩:=t3 v hv;exact .now) rfl q
 ·obtain ⟨a,y1,e1,h1⟩:=gx;obtain ⟨c,y2,e2,h2⟩:=gy;simp only [e1,e2,Uq h1,Uq h2] at q ⊢;exact Zdi (A:=X.A.in1) (h1.keep k) (h2.keep k) q
 ·obtain ⟨o1,o2,o3⟩:=Uk hp;obtain ⟨e,he⟩:=sortedAll_at s.heap its (out.map (·.2));rw [ei] at o1;obtain ⟨zs',p1,p2⟩:=UW o1;have ps:(zs'.map (·.2)).Pairwise (λa b=>OJ b a=false):=by
   have a1:=JB hr o3;have a2:(out.toList.map (·.2)).Pairwise (λu v=>OJ (ZaG s.heap v) (ZaG s.heap u)=false):=by
    rw [List.pairwise_map];refine a1.imp_of_mem λ{x y} hx hy hxy=>?_;rw [<-(o2 x hx).1,<-(o2 y hy).1];exact hxy
   rw [Array.toList_map] at p2;rw [<-p2,List.pairwise_map] at a2;rw [List.pairwise_map];refine a2.imp_of_mem λ{x y} hx hy hxy=>?_;rw [Uq (key x (p1.mem_iff.mp hx)),Uq (key y (p1.mem_iff.mp hy))] at hxy;exact hxy
  refine ⟨.ref _,_,I.laid (a:=s.heap.objs.size+1) (t':=s.toks) (o:=.lst (zs'.map λz=>V.ref z.1)) (λb o e=>sortedAll_old e) (Nat.le_succ _) ⟨by rw [List.length_map,p1.length_eq];exact hzl,(out.map (·.2)).toList,e,by rw [<-p2];exact X9 zs',he⟩,rfl,q _ _ (I.hok.fresh (Nat.le_succ _)) p1 ps⟩
end
end L2
namespace L2
open PySem PySem.Spec PyProof.Rows
def mkS (l:List Nat):Str:=⟨l.toArray⟩
end L2
namespace L2
open PySem PySem.Spec PyProof.Rows
def Zb0:TE:=λ_ H Q=>∀p,H p=none->∀o,Q (.ref p) (upd H p (.frz o (.dK [])))
theorem Zg (c:Nat)(n:Nat):(List.replicate n (#[c]:Array Nat)).foldl (·++·) #[]=(List.replicate n c).toArray:=by
 have key:∀(n:Nat)(a:Array Nat),((List.replicate n (#[c]:Array Nat)).foldl (·++·) a).toList=a.toList++List.replicate n c:=by
  intro n
  induction n with
  | zero=>intro a;simp
  | succ n ih=>intro a;rw [List.replicate_succ,List.foldl_cons,ih];simp [List.replicate_succ]
 apply Array.toList_inj.mp;rw [key];simp
section
variable {X:Cx}
theorem Wf {pos:Pos}:PE X (.Dict [] [] pos) Zb0:=λqQ s σ H Q I h=>
 wpAny_Dict_empty (by
  have I1:=I.laid (a:=s.heap.objs.size) (o:=.dK []) (t':=s.toks) (λ_ _ q=>Heap.get?_push_of_some _ q) (Nat.le_refl _) (V2 s.heap I.big);obtain ⟨o,I2⟩:=I1.freeze Gb;rw [Ox] at I2;exact ⟨.ref s.heap.objs.size,_,I2,rfl,h _ (I.hok.fresh (Nat.le_refl _)) o⟩)
def Zdj:V->V->Hp->VK->Prop:=λx y H Q=>∃(c n:Nat),x=.str (mkS [c])/\y=.int (n:Int)/\1<=n/\n<=1000/\Q (.str (mkS (List.replicate n c))) H
theorem ZaJ:OpR X (binaryOp .Mult) Zdj:=by
 intro qQ s σ H x y v u Q I rx ry h;obtain ⟨c,n,rfl,rfl,h1,h2,q⟩:=h;obtain ⟨t,rfl⟩:=rx;obtain ⟨t',rfl⟩:=ry;have hn:¬ ((n:Int)<1):=by lia
 have hl:(mkS [c]).length=1:=rfl;refine P.mul_str ?_ (λ_ _=>?_) (λ_ _=>?_) ?_
 ·rw [decide_eq_false (show ¬ ((n:Int) < -(2 ^ 63:Int)) by lia),decide_eq_false (show ¬ ((n:Int)>=2 ^ 63) by lia)]
  rfl
 ·rw [hl];intro z;have:(1:Int)<=(2 ^ 63-1) / (n:Int):=Int.le_ediv_of_mul_le (by lia) (by lia)
  lia
 ·rw [hl,Int.toNat_natCast];unfold Builtin.Str.tooLong;exact decide_eq_false (by have:=sizeLine_eq;lia)
 ·rw [if_neg hn];split
  ·rename_i z;rw [hl] at z;have:n=1:=(by have z:(n:Int)=1:=(by simpa using z);lia);subst this;exact ⟨.str _,H,I,⟨_,rfl⟩,q⟩
  ·rw [Int.toNat_natCast,show (mkS [c]).cps=#[c] from rfl,Zg];refine ⟨?_,.str _,H,I.tok _,⟨_,rfl⟩,q⟩;have:=sizeLine_eq;show (List.replicate n c).toArray.size<=_;rw [List.size_toArray,List.length_replicate]
   lia
end
theorem O2:∀(l:List Nat)(acc:Array Nat),((l.map λc=>mkS [c]).foldl (λacc p=>acc++(mkS []).cps++p.cps) acc).toList=acc.toList++l
 | [],acc=>by simp
 | c::l,acc=>by
  rw [List.map_cons,List.foldl_cons,O2 l];simp only [Array.toList_append];show acc.toList++[]++[c]++_=_;simp
theorem WS (l:List Nat):Txt.join (mkS []) (l.map λc=>mkS [c])=mkS l:=by
 have e:(Txt.join (mkS []) (l.map λc=>mkS [c])).cps=(mkS l).cps:=by
  apply Array.toList_inj.mp;cases l with
  | nil=>rfl
  | cons c l=>exact O2 l #[c]
 generalize Txt.join (mkS []) (l.map λc=>mkS [c])=x at e;cases x;cases e
 rfl
theorem Zh (l:List Nat)(h:l.length<=1000):JoinOk (mkS []) (l.map λc=>mkS [c])=true:=by
 unfold PySem.JoinOk;have key:∀(l:List Nat)(a:Nat),(l.map λc=>mkS [c]).foldl (λa s=>a+s.length+(mkS []).length) a<=a+l.length:=by
  intro l
  induction l with
  | nil=>intro a;exact Nat.le_refl _
  | cons p l ih=>
   intro a;rw [List.map_cons,List.foldl_cons];refine Nat.le_trans (ih _) ?_;have h1:(mkS [p]).length=1:=rfl;have h2:(mkS []).length=0:=rfl;rw [List.length_cons]
   lia
 have h3:=key l 0;rw [List.foldl_toArray'] <;> try rfl
 simp only [Bool.not_eq_true'];unfold Builtin.Str.tooLong;apply decide_eq_false;rw [sizeLine_eq]
 lia
end L2
namespace L2
open PySem PySem.Spec PyProof.Rows
section
variable {prog:Program}{w:World}{A:Around}{E:Value->Shared->Prop}{s:Shared}{d:Addr}{o:Obj}{es:Array DictEntry}{ep:Nat}
theorem U4 (hd:(d == sysModules)=false):MeetsIn prog w (Builtin.«dict.__len__» ⟨[.ref d],[]⟩) (λ_ R s=>∃o es ep,s.heap.get? d=some o/\o.data=.dict es ep/\R (.ok (.ret (.int es.size s.toks))) { s with toks:=s.toks+1 }):=
 .of_wp λA R s ⟨o,es,ep,ho,hdat,h⟩=>by
  show wpAny _ _ (dictSize d >>= _) _ _ s;unfold dictSize;refine wpAny_bind (wpAny_bind (wpAny_dictEntries ho hdat (wpAny_pure ?_)));show wpAny _ _ (Builtin.Dict.pendingCount d >>= _) _ _ s;refine wpAny_bind (wpAny_pendingCount_other hd ?_);refine wpAny_ret_mkInt ?_;rw [Nat.add_zero];exact h
theorem U5 {Q:Value->Shared->Prop}(hd:(d == sysModules)=false)(ho:s.heap.get? d=some o)(hx:o.ExactDict)(hdat:o.data=.dict es ep)(hfit:(es.size:Int)<2 ^ 63)(h:Q (.int es.size (s.toks+1)) { s with toks:=s.toks+1+1 }):wpAny (model prog w) A (call (.builtin "len") [.ref d]) Q E s:=by
 have hT:s.TypeIs (.ref d) "dict" := ⟨o,ho,hx.1⟩;refine Calls.call_function_entry kind_len plain_len entry_len (args_len1 _) ?_;unfold Builtin.«len»;refine wpAny_bind (m:=oneArg "len" _) (wpAny_pure ?_);refine wpAny_bind (m:=callSpecial? (.ref d) (Str.ofString "__len__")) (wpAny_callSpecial?_slot (name:=Str.ofString "__len__") hT F.slot_dict_len
  (call_meetsIn F.slot_dict_len hT F.entry_dict_len (F.args_dict_len_1 _) (U4 hd) ⟨o,es,ep,ho,hdat,?_⟩))
 show wpAny _ _ _ _ _ { s with toks:=s.toks+1 };refine wpAny_bind (wpAny_holding (wpAny_pure ?_));refine wpAny_bind (wpAny_letGo ?_);show wpAny _ _ (if ((es.size:Nat):Int)<0 then _ else _) _ _ _;rw [if_neg (by lia)];show wpAny _ _ (if ((es.size:Nat):Int)>=2 ^ 63 then _ else _) _ _ _;rw [if_neg (by lia)];exact wpAny_bind (wpAny_mkInt (wpAny_pure ⟨_,rfl,h⟩))
end
end L2
namespace L2
open PySem PySem.Spec PyProof.Rows
section
variable {prog:Program}{w:World}{A:Around}{E:Value->Shared->Prop}{s:Shared}
theorem Zi {it d:Addr}{i ep:Nat}{es:Array DictEntry}{o:Obj}{e:DictEntry}{ok ov:Value}{Q:Value->Shared->Prop}(hoi:IsItemIter s.heap it d i es.size ep ok ov)(ho:s.heap.get? d=some o)(hd:o.data=.dict es ep)(hi:es[i]?=some e)(q:∀h' ok' ov',IsItemIterOut h' it d (i+1) es.size ep ok' ov' s.heap.objs.size->h'.get? s.heap.objs.size=some { cls:=.type "tuple", data:=.seq #[e.key,e.val] }->h'.objs.size=s.heap.objs.size+1->(∀b o,b≠it->s.heap.get? b=some o->h'.get? b=some o)->Q (.ref s.heap.objs.size) { s with heap:=h' }) :
  wpAny (model prog w) A (Builtin.«dict_itemiterator.__next__» ⟨[.ref it],[]⟩) (λfin s'=>∃v,fin=.done (.ret v)/\Q v s') E s:=by
 have T:s.TypeIs (.ref it) "dict_itemiterator" := ⟨_,hoi,rfl⟩
 wp_walk using wpAny_fieldsOf hoi rfl,wpAny_dictEntries ho hd,wpAny_dictEpoch ho hd,wpAny_typeNameOfWhole_itemiter T,wpAny_isOneOf_itemiter T
 rw [if_neg (by lia),Int.toNat_natCast,hi]
 wp_walk using wpAny_typeNameOfWhole_itemiter T,wpAny_isOneOf_itemiter T,wpAny_setField hoi rfl
 case hi=>exact (by decide:(2:Nat)+1<8)
 case h=>
  have B1:Heap.SameBut it s.heap (s.heap.update it (Obj.mapFields (·.setIfInBounds 3 (rawInt ((i:Int)+1))))):=Heap.SameBut.update ..;have hoi1:(s.heap.update it (Obj.mapFields (·.setIfInBounds 3 (rawInt ((i:Int)+1))))).get? it=some { cls:=.type "dict_itemiterator", data:=.fields #[.none,.bool false,.ref d,.int ((i+1:Nat):Int) 0,.int es.size 0,.int ep 0,ok,ov] }:=Heap.get?_update_self _ hoi rfl;show wpAny _ _ _ _ _ { s with heap:=s.heap.update it (Obj.mapFields (·.setIfInBounds 3 (rawInt ((i:Int)+1)))) };generalize s.heap.update it (Obj.mapFields (·.setIfInBounds 3 (rawInt ((i:Int)+1))))=h1 at B1 hoi1 ⊢;have T1:Shared.TypeIs { s with heap:=h1 } (.ref it) "dict_itemiterator" := ⟨_,hoi1,rfl⟩
  wp_walk using wpAny_isOneOf_itemiter T1
  have hz:h1.objs.size=s.heap.objs.size:=B1.1;have hoi2:(h1.push { cls:=.type "tuple", data:=.seq #[e.key,e.val] }).get? it=some { cls:=.type "dict_itemiterator", data:=.fields #[.none,.bool false,.ref d,.int ((i+1:Nat):Int) 0,.int es.size 0,.int ep 0,ok,ov] }:=Heap.get?_push_of_some _ hoi1;have tp:(h1.push { cls:=.type "tuple", data:=.seq #[e.key,e.val] }).get? s.heap.objs.size=some { cls:=.type "tuple", data:=.seq #[e.key,e.val] }:=by rw [<-hz];exact Heap.get?_push_size _ rfl
  have sz:(h1.push { cls:=.type "tuple", data:=.seq #[e.key,e.val] }).objs.size=s.heap.objs.size+1:=by rw [Heap.size_push,hz]
  have kp:∀b o,b≠it->s.heap.get? b=some o->(h1.push { cls:=.type "tuple", data:=.seq #[e.key,e.val] }).get? b=some o:=λb o n z=>Heap.get?_push_of_some _ ((B1.2 b n).trans z);have ni:s.heap.objs.size≠it:=Nat.ne_of_gt (Heap.lt_size hoi);rw [hz];generalize h1.push { cls:=.type "tuple", data:=.seq #[e.key,e.val] }=h2 at hoi2 tp sz kp ⊢;have e3:=Heap.get?_update_self (Obj.mapFields λx=>x.setIfInBounds 6 e.key) hoi2 rfl;have b3:Heap.SameBut it h2 (h2.update it (Obj.mapFields λx=>x.setIfInBounds 6 e.key)):=Heap.SameBut.update ..;generalize h2.update it (Obj.mapFields λx=>x.setIfInBounds 6 e.key)=h3 at e3 b3 ⊢;have e4:=Heap.get?_update_self (Obj.mapFields λx=>x.setIfInBounds (6+1) e.val) e3 rfl;have b4:Heap.SameBut it h3 (h3.update it (Obj.mapFields λx=>x.setIfInBounds (6+1) e.val)):=Heap.SameBut.update ..;generalize h3.update it (Obj.mapFields λx=>x.setIfInBounds (6+1) e.val)=h4 at e4 b4 ⊢;have e5:=Heap.get?_update_self (Obj.mapFields λx=>x.setIfInBounds 0 (rawInt (s.heap.objs.size:Nat))) e4 rfl;have b5:Heap.SameBut it h4 (h4.update it (Obj.mapFields λx=>x.setIfInBounds 0 (rawInt (s.heap.objs.size:Nat)))):=Heap.SameBut.update ..;generalize h4.update it (Obj.mapFields λx=>x.setIfInBounds 0 (rawInt (s.heap.objs.size:Nat)))=h5 at e5 b5 ⊢;have e6:=Heap.get?_update_self (Obj.mapFields λx=>x.setIfInBounds 1 (Value.bool false)) e5 rfl;have b6:Heap.SameBut it h5 (h5.update it (Obj.mapFields λx=>x.setIfInBounds 1 (Value.bool false))):=Heap.SameBut.update ..;generalize h5.update it (Obj.mapFields λx=>x.setIfInBounds 1 (Value.bool false))=h6 at e6 b6 ⊢;have B:Heap.SameBut it h2 h6:=((b3.trans b4).trans b5).trans b6;exact ⟨_,rfl,q h6 _ _ e6 ((B.2 _ ni).trans tp) (B.1.trans sz) λb o n z=>(B.2 b n).trans (kp b o n z)⟩
theorem Zj {it d:Addr}{i ep:Nat}{es:Array DictEntry}{o:Obj}{e:DictEntry}{ok ov:Value}{Q:Option Value->Shared->Prop}(hoi:IsItemIter s.heap it d i es.size ep ok ov)(ho:s.heap.get? d=some o)(hd:o.data=.dict es ep)(hi:es[i]?=some e)(q:∀h' ok' ov',IsItemIterOut h' it d (i+1) es.size ep ok' ov' s.heap.objs.size->h'.get? s.heap.objs.size=some { cls:=.type "tuple", data:=.seq #[e.key,e.val] }->h'.objs.size=s.heap.objs.size+1->(∀b o,b≠it->s.heap.get? b=some o->h'.get? b=some o)->Q (some (.ref s.heap.objs.size)) { s with heap:=h' }) :
  wpAny (model prog w) A (pyNext (.ref it)) Q E s:=by
 have T:s.TypeIs (.ref it) "dict_itemiterator" := ⟨_,hoi,rfl⟩;refine wpAny_bind (wpAny_attempt (wpAny_callSpecial?_slot T F.slot_dict_itemiterator_next (wpAny_call_entry F.slot_dict_itemiterator_next T F.entry_dict_itemiterator_next (Zi hoi ho hd hi λh' a b c d' e' f=>?_) (F.args_dict_itemiterator_next_1 _))))
 wp_walk
 exact q h' a b c d' e' f
theorem Zk {v d:Addr}{ep:Nat}{es:Array DictEntry}{o:Obj}{Q:Value->Shared->Prop}(hv:s.heap.IsItemsView v d)(ho:s.heap.get? d=some o)(hd:o.data=.dict es ep)(q:∀h',IsItemIter h' s.heap.objs.size d 0 es.size ep .none .none->h'.objs.size=s.heap.objs.size+1->(∀c o,s.heap.get? c=some o->h'.get? c=some o)->Q (.ref s.heap.objs.size) { s with heap:=h' }):wpAny (model prog w) A (pyIter (.ref v)) Q E s:=by
 have T:=hv.typeIs;obtain ⟨oV,hoV,hcV,hdV⟩:=id hv;refine wpAny_pyIter_slot T F.slot_dict_items_iter (wpAny_call_entry F.slot_dict_items_iter T F.entry_dict_items_iter ?_ (F.args_dict_items_iter_1 _))
 wp_walk using wpAny_dictEntries ho hd,wpAny_dictEpoch ho hd,wpAny_field hoV hdV (x:=.ref d) rfl
 exact ⟨_,rfl, "dict_itemiterator", _,⟨_,Heap.get?_push_size _ rfl,rfl⟩,F.slot_dict_itemiterator_next.lookup,q _ (Heap.get?_push_size _ rfl) (Heap.size_push ..) λc o e=>Heap.get?_push_of_some _ e⟩
end
theorem On:entryFor table "dict_itemiterator.__iter__" = some Builtin.«dict_keyiterator.__iter__»:=entryFor_alias (id' := "dict_keyiterator.__iter__") (by kernel_rfl) rfl (by decide +kernel) (by kernel_rfl)
theorem Zl {prog:Program}{w:World}{A:Around}{E:Value->Shared->Prop}{s:Shared}{it d:Addr}{i n ep:Nat}{ok ov:Value}{Q:Value->Shared->Prop}(he:IsItemIter s.heap it d i n ep ok ov)(h:Q (.ref it) s):wpAny (model prog w) A (pyIter (.ref it)) Q E s:=by
 have hT:s.TypeIs (.ref it) "dict_itemiterator" := ⟨_,he,rfl⟩;refine wpAny_pyIter_slot hT F.slot_dict_itemiterator_iter (wpAny_call_entry F.slot_dict_itemiterator_iter hT On ?_ (F.args_dict_itemiterator_iter_1 _));show wpAny _ _ (ret (.ref it)) _ _ s;exact wpAny_pure ⟨_,rfl, "dict_itemiterator", _,hT,F.slot_dict_itemiterator_next.lookup,h⟩
section
variable {X:Cx}
theorem U6 {qQ:List (Addr×Obj)}{σ:St}{H:Hp}{s:Shared}{a:Addr}{o:Obj}{kvs:List (List Key×V)}(I:Inv X qQ σ H s)(e:H a=some (.frz o (.dT kvs))) :
  (a == sysModules)=false/\s.heap.get? a=some o/\o.ExactDict/\∃es ep,o.data=.dict es ep/\es.size=kvs.length/\∀(i:Nat) k v,kvs[i]?=some (k,v)->∃(de:DictEntry)(b:Addr),es[i]?=some de/\de.key=.ref b/\H b=some (.tup (k.map kV))/\RelV v de.val:=by
 obtain ⟨h1,z,hd,xs,r,o',es,ep,h2,h3,h4,h5,h6⟩:=(show ObjOk X.prog X.w H s.heap a (.frz o (.dT kvs)) from I.hok a _ e);rw [h1] at h2;cases h2;refine ⟨hd,h1,h3,es,ep,h4,?_,λi k v hi=>?_⟩
 ·rw [<-Array.length_toList,h5,List.length_map,Paired.length r]
 ·obtain ⟨⟨k',b,u⟩,hq,e1,e2,e3⟩:=Wc r hi;refine ⟨entryOfKey (tupleKind (Gz X.prog X.w)) (k',b,u),b,?_,rfl,e2,e3⟩;rw [<-Array.getElem?_toList,h5,List.getElem?_map,hq]
  rfl
def ItI (d:Addr)(o:Obj)(kvs:List (List Key×V)):It:=
 ⟨λi H=>H d=some (.frz o (.dT kvs))/\i<kvs.length,λi H x H'=>∃T k y b,x=.ref T/\H T=none/\kvs[i]?=some (k,y)/\H b=some (.tup (k.map kV))/\H'=upd H T (.tup [.ref b,y]),λi H=>H d=some (.frz o (.dT kvs))/\kvs.length<=i⟩
theorem Zm {P:Program}{w:World}{K:W.Frag}{elts:List Expr}{n:Nat}{pos:Pos}(d it:Addr)(o:Obj)(kvs:List (List Key×V))(es:Array DictEntry)(ep:Nat)(ho:o.data=.dict es ep)(hsz:es.size=kvs.length) :
  YI P w K (.Tuple elts n pos) (ItI d o kvs) [it] it (λi h=>∃ok ov,IsItemIter h it d i es.size ep ok ov) where
 mem:=by simp
 obj:=λi h ⟨ok,ov,he⟩ b hb=>by
  have e:b=it:=by simpa using hb
  subst e;exact ⟨_,he,λv z=>by
   have z':Data.fields _=Data.cell v:=z;cases z'⟩
 keep:=λi h h' ⟨ok,ov,he⟩ q=>⟨ok,ov,q it (by simp) _ he⟩
 item:=by
  intro X hP hw hK hc i qQ s σ H E I hf st hg;subst hP hw hK;obtain ⟨ok,ov,he⟩:=st;obtain ⟨hq,hi⟩:=hg;obtain ⟨hd,h1,h2,es',ep',h3,h4,h5⟩:=U6 I hq;rw [ho] at h3;cases h3;obtain ⟨⟨k,y⟩,hx⟩:∃x,kvs[i]?=some x:=⟨_,List.getElem?_eq_getElem hi⟩;obtain ⟨de,b,hde,hkey,hb,rv⟩:=h5 i k y hx;refine Zj he h1 ho hde λhA ok1 ov1 heo htp hz hk1=>?_;refine ⟨_,rfl,wpAny_letOwnedTupleGo_items (s:={ s with heap:=hA }) heo λhB he2 hs2=>?_⟩;have hs2':Heap.SameBut it hA hB:=hs2;have hfr:H s.heap.objs.size=none:=I.fresh;have hel:it<s.heap.objs.size:=Heap.lt_size he;have kk:∀b o,b ∉ [it]->s.heap.get? b=some o->hB.get? b=some o:=λb o hb q=>by
   have n1:b≠it:=λz=>hb (by simp [z]);exact (hs2'.2 b n1).trans (hk1 b o n1 q)
  have nT:∀b o,s.heap.get? b=some o->b≠s.heap.objs.size:=λb o q=>Nat.ne_of_lt (Heap.lt_size q);have trk:∀c u,H c=some u->c ∉ [it]:=λc u q z=>by
   rw [(hf c z).1] at q;cases q
  refine ⟨.ref s.heap.objs.size,upd H s.heap.objs.size (.tup [.ref b,y]),I.call' (ch:=[it]) (s':={ s with heap:=hB }) rfl ⟨λb o q _ _ hb=>kk b o hb q,λb o q _ _ hb=>⟨o.slots,kk b o hb q⟩,λb o q n _=>by rw [Go (nT b o q)];exact n,
   λb o q hb=>⟨o,kk b o hb q⟩,λb ys q=>by rw [Go (Gh q hfr)];exact q,λb o u q=>by rw [Go (Gh q hfr)];exact q,λb ps q=>⟨#[],by rw [Go (Gh q hfr),q];simp⟩⟩ (λc v q=>?_) I.bare (λc hc'=>?_),
   rfl,⟨_,k,y,b,rfl,hfr,hx,hb,rfl⟩,⟨_,_,he2⟩,λc hc'=>?_⟩
  ·by_cases hcz:c=s.heap.objs.size
   ·subst hcz;rw [Gb] at q;cases q;refine ⟨by have h16:(16777216:Nat)=sizeLine:=sizeLine_eq.symm;rw [<-h16];show 2<=16777216;lia,[.ref b,de.val],.cons rfl (.cons rv .nil),⟨_,(hs2'.2 _ (Nat.ne_of_gt hel)).trans htp,rfl,_,by rw [hkey]⟩⟩
   ·rw [Go hcz] at q;refine (I.hok c v q).stay (λc' v' hc'' z=>kk c' v' ?_ z) (λc' z=>by rw [Go (Gh z hfr)];exact z) λc' ys z=>by rw [Go (Gh z hfr)];exact z
    rcases hc'' with rfl | hc''
    ·exact trk _ _ q
    ·exact trk _ _ hc''
  ·obtain ⟨f0,f1,f2,f3,f4,f5⟩:=hf c hc';exact ⟨f3,f1,f4,f5⟩
  ·have e:c=it:=by simpa using hc'
   subst e;rw [Go (nT c _ he)];exact (hf c hc').1
 done:=by
  intro X hP hw hK hc i qQ s σ H E I hf st hg;subst hP hw hK;obtain ⟨ok,ov,he⟩:=st;obtain ⟨hq,hi⟩:=hg;obtain ⟨hd,h1,h2,es',ep',h3,h4,h5⟩:=U6 I hq;rw [ho] at h3;cases h3;obtain ⟨f0,f1,f2,f3,f4,f5⟩:=hf it (by simp);exact WP (S:=it) (I.ok.hd hc) ⟨.none,false,ok,ov,he,.inl rfl⟩ h1 ho (Array.getElem?_eq_none (by lia)) λh' eb=>⟨rfl,I.turned (t':=s.toks) (λb o hb e=>eb b o hb e) f0 f1 f3 f4 f5⟩
 self:=λ_ _ _ _ _ ⟨ok,ov,he⟩ h=>Zl he h
def ZeH (tl:TE):TI:=λσ H R=>tl σ H λx H1=>∃v d o kvs,x=.ref v/\H1 v=some (IVw v d)/\H1 d=some (.frz o (.dT kvs))/\R (ItI d o kvs) H1
theorem Zb1 {elts:List Expr}{n:Nat}{p0:Pos}{l:Expr}{tl:TE}(hl:PE X l tl):PI X (.Tuple elts n p0) l (ZeH tl):=by
 intro qQ s σ H R I h;refine thn (hl qQ s σ H _ I h) λv s1 ⟨x,H1,I1,r1,q1⟩=>?_;obtain ⟨v',d,o,kvs,e,ev,ed,q⟩:=q1;subst e;cases r1;obtain ⟨hd,h1,h2,es,ep,h3,h4,h5⟩:=Ow I1 ed;obtain ⟨hv,_⟩:=(show ObjOk X.prog X.w H1 s1.heap v' (IVw v' d) from I1.hok v' _ ev);refine Zk hv h1 h3 λh' st sz kp=>?_;refine ⟨s1.heap.objs.size,[s1.heap.objs.size],_,_,H1,rfl,I1.kept (t':=s1.toks) kp,Zm d _ o kvs es ep h3 h4,⟨_,_,st⟩,λb hb=>?_,q⟩;have e:b=s1.heap.objs.size:=by simpa using hb
 subst e;exact I1.fpOk (Nat.le_refl _) (I1.hok.fresh (Nat.le_refl _))
end
theorem ZaK {d:Addr}{o:Obj}{kvs:List (List Key×V)}{g:TG}{tb:TS}{D:Wx}{σ:St}{H:Hp}(Pv:Nat->St->Hp->Prop)(h0:Pv 0 σ H)(hl:∀i σ H,i<=kvs.length->Pv i σ H->H d=some (.frz o (.dT kvs)))(hs:∀i k v b T σ H,kvs[i]?=some (k,v)->H b=some (.tup (k.map kV))->Pv i σ H->H T=none->g (.ref T) σ (upd H T (.tup [.ref b,v])) λσ2 H2=>tb { D with nx:=Pv (i+1),ct:=Pv (i+1),bk:=D.nx } σ2 H2)(hd:∀ σ H,Pv kvs.length σ H->D.nx σ H) :
  ∃W:Nat->Nat->St->Hp->Prop,(∃m,W 0 m σ H)/\∀i m σ H,W i m σ H ->
   ((ItI d o kvs).stop i H/\D.nx σ H)\/((ItI d o kvs).go i H/\∃N:St->Hp->Prop,(∀ σ' H',N σ' H'->∃m',m'<m/\W (i+1) m' σ' H')/\∀x H',(ItI d o kvs).yld i H x H'->g x σ H' λσ2 H2=>tb { D with nx:=N,ct:=N,bk:=D.nx } σ2 H2):=by
 refine ⟨λi m σ H=>m=kvs.length-i/\i<=kvs.length/\Pv i σ H,⟨_,rfl,Nat.zero_le _,h0⟩,?_⟩;rintro i m σ H ⟨rfl,hi,p⟩;have q:=hl i σ H hi p;by_cases hlt:i<kvs.length
 ·refine .inr ⟨⟨q,hlt⟩,Pv (i+1),λσ' H' p'=>⟨kvs.length-(i+1),by lia,rfl,hlt,p'⟩,λx H' y=>?_⟩;obtain ⟨T,k,v,b,rfl,hT,ek,eb,rfl⟩:=y;exact hs i k v b T σ _ ek eb p hT
 ·have e:i=kvs.length:=by lia
  subst e;exact .inl ⟨⟨q,Nat.le_refl _⟩,hd σ H p⟩
theorem ZaL {X:Cx}:Js X (.builtin "len") (λxs H Q=>∃p kvs,xs=[.ref p]/\(H p=some (.dT kvs)\/∃o,H p=some (.frz o (.dT kvs)))/\kvs.length<=1000/\Q (.int (kvs.length:Nat)) H):=by
 intro qQ s σ H xs us Q I rv h;obtain ⟨p,kvs,rfl,hp,hn,q⟩:=h;obtain ⟨u,rfl,ru⟩:=rv.one;cases ru;obtain ⟨_,hd,xs,r,o,es,ep,h1,h2,h3,h4,_⟩:ObjOk X.prog X.w H s.heap p (.dT kvs):=by
  rcases hp with hp | ⟨o,hp⟩
  ·exact I.hok p _ hp
  ·exact (show ObjOk X.prog X.w H s.heap p (.frz o (.dT kvs)) from I.hok p _ hp).2
 have e:es.size=kvs.length:=by rw [<-Array.length_toList,h4,List.length_map,Paired.length r]
 have h16:(16777216:Nat)=sizeLine:=sizeLine_eq.symm;refine U5 hd h1 h2 h3 (by lia) ?_;exact ⟨.int (kvs.length:Nat),H,I.tok _,⟨s.toks+1,by rw [e]⟩,q⟩
end L2
namespace L2
open PySem PySem.Spec PyProof.Rows
section
variable {prog:Program}{w:World}{κ:Type}[DecidableEq κ]{knd:HeapKind prog w κ}{A:Around}{E:Value->Shared->Prop}{s:Shared}
theorem ZaM {d a:Addr}{xs:List (κ×Addr×Value)}{k:κ}{v:Value}{Q:Value->Shared->Prop}(hu:knd.room A)(hkey:knd.is s.heap k a)(hm:s.heap.DictOfH knd d xs)(hsz:xs.length<=sizeLine)(old:∀u,(atKey xs k).map (·.2)=some u->Q u { s with toks:=s.toks+knd.draws k })(new:(atKey xs k).map (·.2)=none->∀h',h'.DictOfH knd d (storedH xs k a v)->Heap.SameBut d s.heap h'->Q v { s with heap:=h',toks:=s.toks+knd.draws k }) :
  wpAny (model prog w) A (dictSetDefault d (.ref a) v) Q E s:=by
 obtain ⟨o,es,ep,ho,hc,hd,he,his,nd⟩:=hm;have sz:=size_of_entries he;unfold dictSetDefault
 try with_reducible refine wpAny_holding ?_
 refine wpAny_bind (knd.pyHash hu hkey (wpAny_bind (wpAny_dictFind_heap (s:={ s with toks:=s.toks+knd.draws k }) hu hkey ho hd he his nd (λnone_=>?absent) λj p hj=>?there)))
 case there=>
  refine wpAny_bind (wpAny_dictEntries (s:={ s with toks:=s.toks+knd.draws k }) ho hd ?_);rw [entry_at he j,hj];exact wpAny_bind (wpAny_rule (wpAny_pure (old p.2 (by rw [atKey_of_get nd hj];rfl))))
 case absent=>
  have na:=atKey_none_of_get none_;have keep:∀x∈xs++[(k,a,v)],knd.is (s.heap.update d (Obj.mapDictKeys (λes=>es.push ⟨knd.hash k,.ref a,v⟩))) x.1 x.2.1:=λx hx=>by
   refine knd.keeps ?_ ho hd (Heap.SameBut.update ..);rcases List.mem_append.mp hx with hx | hx
   ·exact his x hx
   ·rw [List.mem_singleton.mp hx];exact hkey
  refine wpAny_bind (wpAny_rule (wpAny_bind (wpAny_updateDictKeys (hz:=by lia) (s:={ s with toks:=s.toks+knd.draws k }) ho hd (wpAny_pure (new (by rw [na];rfl) _ ⟨_,_,ep+1,Heap.get?_update_self _ ho (Obj.isFreed_of_dict (Obj.data_mapDictKeys hd _)),hc.mapDictKeys _,Obj.data_mapDictKeys hd _,?_,?_,?_⟩ (Heap.SameBut.update ..))))))
  ·rw [storedH_new na,Array.toList_push,he,List.map_append]
   rfl
  ·rw [storedH_new na];exact keep
  ·rw [storedH_new na,List.map_append,List.nodup_append];refine ⟨nd,by simp,λx hx y hy e=>?_⟩;have hy:y=k:=by simpa using hy
   exact not_mem_keys_of_get none_ (by rw [<-hy,<-e];exact hx)
end
section
variable {X:Cx}
def Zb2 (td ty tx:TE):TE:=λσ H Q=>td σ H λx H1=>∃a,x=.ref a/\(∃kvs,H1 a=some (.dT kvs))/\ty σ H1 λy H2=>tx σ H2 λz H3=>∃kvs k b,y=.ref b/\H3 a=some (.dT kvs)/\H3 b=some (.tup (k.map kV))/\kvs.length<sizeLine /\
 (∀v,GZ kvs k=some v->Q v H3)/\(GZ kvs k=none->Q z (upd H3 a (.dT (Ol kvs k z))))
theorem U7 {qQ:List (Addr×Obj)}{σ:St}{H:Hp}{s:Shared}{a b:Addr}{z:V}{r:Value}{A:Around}{E:Value->Shared->Prop}{kvs:List (List Key×V)}{k:List Key}{Q:Value->Shared->Prop}(hu:A.units+1<cLine)(I:Inv X qQ σ H s)(e:H a=some (.dT kvs))(eb:H b=some (.tup (k.map kV)))(hl:kvs.length<sizeLine)(rz:RelV z r)(old:∀v w' s',GZ kvs k=some v->Inv X qQ σ H s'->RelV v w'->Q w' s')(new:∀s',GZ kvs k=none->Inv X qQ σ (upd H a (.dT (Ol kvs k z))) s'->Q r s') :
  wpAny (model X.prog X.w) A (call (.builtin "dict.setdefault") [.ref a,.ref b,r]) Q E s:=by
 obtain ⟨_,hd,xs,rel,dd⟩:=ZbK I.hok e;have hz:xs.length<=sizeLine:=by rw [<-Paired.length rel];lia
 refine wpAny_call_entry PySem.F.slot_dict_setdefault dd.typeIs PySem.F.entry_dict_setdefault ?_ (PySem.F.args_dict_setdefault_3 _ _ _);unfold Builtin.«dict.setdefault»;refine wpAny_bind ?_;unfold Builtin.Dict.keyAndDefault;refine wpAny_bind (wpAny_notOrdered_dict dd.typeIs ?_);show wpAny _ _ (pure (a,Value.ref b,some r)) _ _ s;refine wpAny_pure ?_;show wpAny _ _ (if (a == sysModules)=true then _ else (dictSetDefault a (.ref b) r >>= _)) _ _ s;rw [if_neg (by rw [hd];exact Bool.false_ne_true)];refine wpAny_bind (ZaM (tupleKind_room_in1 hu) (key_of I.hok eb) dd hz (λu hu'=>wpAny_pure ⟨u,rfl,?_⟩) λhn h' dd' hs=>wpAny_pure ⟨r,rfl,new _ ?_ ?_⟩)
 ·have rv:=rel.val k;rw [hu'] at rv;cases hv:GZ kvs k with
  | none=>rw [hv] at rv;cases rv
  | some v=>rw [hv] at rv;exact old v u _ hv (I.tok _) rv
 ·have rv:=rel.val k;rw [hn] at rv;cases hv:GZ kvs k with
  | none=>rfl
  | some v=>rw [hv] at rv;cases rv
 ·obtain ⟨q,es,ep,hq,h2,h3,h4,_,h5⟩:=dd';have hl':(Ol kvs k z).length<=sizeLine:=by have:=G7 kvs k z;lia
  refine Vs I (by rw [e];exact True.intro) hs ⟨q,hq⟩ ⟨hl',hd,_,(rel.put k eb rz).keeps λc ys ec=>?_,q,es,ep,hq,h2,h3,h4,h5⟩;rw [Go (GV ec e (λz=>nomatch z))];exact ec
theorem Yb {o e f:Expr}{apos qK:Pos}{td ty tx:TE}(hu:X.A.units+1<cLine)(ho:PE X o td)(he:PE X e ty)(hf:PE X f tx)(m:M2 X o "setdefault" apos e f qK):PE X (.Call (.Attribute o "setdefault" apos) [e,f] [] qK) (Zb2 td ty tx):=by
 intro qQ s σ H Q I h;refine wpAny_Call_method m.base m.few m.line PySem.F.plainAttrs_dict PySem.F.slot_dict_setdefault PySem.F.type_dict_setdefault (thn (ho qQ s σ H _ I h) λu s1 ⟨x,H1,I1,rx,a,ex,⟨kvs0,ed⟩,q1⟩=>?_);subst ex;obtain rfl:u=Value.ref a:=rx;obtain ⟨t1,t2,_⟩:=XA I1 (.inr ⟨kvs0,.inl ed⟩);refine ⟨t1,t2,?_⟩;rw [m.trees];refine Calls.callWith_builtin rfl (Calls.evalArgs_plain (Calls.spliced_cons (thn (he qQ s1 σ H1 _ I1 q1) λiv s2 ⟨y,H2,I2,ry,q2⟩=>
  Calls.spliced_cons (thn (hf qQ s2 σ H2 _ I2 q2) λfv s3 ⟨z,H3,I3,rz,kvs,k,b,ey,ea,eb,hl,old,new⟩=>Calls.spliced_nil ?_))))
 subst ey;obtain rfl:iv=Value.ref b:=ry;exact U7 hu I3 ea eb hl rz (λv w' s' hv I4 rw'=>⟨v,H3,I4,rw',old v hv⟩) λs' hn I4=>⟨z,_,I4,rz,new hn⟩
end
end L2
namespace L2
open PySem PySem.Spec PyProof.Rows Classical
section
variable {prog:Program}{w:World}{A:Around}{E:Value->Shared->Prop}{s:Shared}
theorem WT {d:Addr}{ep:Nat}{es:Array DictEntry}{o:Obj}{Q:Value->Shared->Prop}(hs:(d == sysModules)=false)(ho:s.heap.get? d=some o)(hc:o.ExactDict)(hd:o.data=.dict es ep)(q:Q (.ref s.heap.objs.size) { s with heap:=s.heap.push { cls:=.type "dict_keyiterator", data:=.fields #[.ref d,.int 0 0,.int es.size 0,.int ep 0] } }):wpAny (model prog w) A (pyIter (.ref d)) Q E s:=by
 have T:s.TypeIs (.ref d) "dict" := ⟨o,ho,hc.1⟩;refine wpAny_pyIter_slot T F.slot_dict_iter (wpAny_call_entry F.slot_dict_iter T F.entry_dict_iter ?_ (F.args_dict_iter_1 _))
 wp_walk using wpAny_notOrdered_dict T,wpAny_dictEntries ho hd,wpAny_dictEpoch ho hd
 exact ⟨_,rfl, "dict_keyiterator", _,⟨_,Heap.get?_push_size _ rfl,rfl⟩,F.slot_dict_keyiterator_next.lookup,q⟩
end
theorem Zn {P:Program}{w:World}{d:Addr}{es:Array DictEntry}{ep:Nat}(hs:(d == sysModules)=false):W.KdlSrc P w "dict" d d es.size (λi v=>∃e,es[i]?=some e/\v=e.key) (λh=>∃o,h.get? d=some o/\o.ExactDict/\o.data=.dict es ep) where
 type:=λ_ ⟨o,h1,h2,_⟩=>⟨o,h1,h2.1⟩
 there:=λ_ ⟨o,h1,_,_⟩=>⟨Heap.lt_size h1,Heap.lt_size h1⟩
 keep:=λ_ _ ⟨o,h1,h2,h3⟩ k=>⟨o,k d (.inl rfl) o h1,h2,h3⟩
 notList:=by decide
 notTuple:=by decide
 hint:=λ_ _ _ _ ⟨o,h1,h2,_⟩ q=>W.kdl_hint_dict ⟨o,h1,h2.1⟩ q
 iter:=λA s hh h=>by
  obtain ⟨o,h1,h2,h3⟩:=h;have hlt:d<s.heap.objs.size:=Heap.lt_size h1;refine ⟨{ cls:=.type "dict_keyiterator", data:=.fields #[.ref d,.int 0 0,.int es.size 0,.int ep 0] },λi h'=>h'.IsKeyIter s.heap.objs.size d i es.size ep/\h'.get? d=some o,λ_ _ q=>WT hs h1 h2 h3 q,?_,⟨⟨_,Heap.get?_push_size _ rfl,rfl,rfl⟩,Heap.get?_push_of_some _ h1⟩⟩;refine ⟨λb hb=>?_,λi g1 g2 st k=>?_,λi s1 Q E hi st hq=>?_,λs1 Q E st hq=>?_,λi s1 Q E st hq=>?_⟩
  ·rw [List.mem_singleton.mp hb];exact List.mem_cons_self
  ·obtain ⟨⟨oi,a1,a2,a3⟩,a4⟩:=st;exact ⟨⟨oi,k _ (by simp) _ a1,a2,a3⟩,k d (by simp) _ a4⟩
  ·have he:es[i]?=some es[i]:=Array.getElem?_eq_getElem hi;refine UZ st.1 st.2 h3 he λh' hi' sb=>hq _ h' s1.toks ⟨_,he,rfl⟩ ⟨hi',(sb.2 d (Nat.ne_of_lt hlt)).trans st.2⟩ λb o hb e=>(sb.2 b (λz=>hb (by rw [z];exact List.mem_cons_self))).trans e
  ·exact U0 hh st.1 st.2 h3 (Array.getElem?_eq_none (Nat.le_refl _)) λh' he=>hq h' s1.toks λb o hb e=>he b o (λz=>hb (by rw [z];exact List.mem_cons_self)) e
  ·exact wpAny_pyIter_keyiter st.1 hq
theorem U8 {H:Hp}:∀{kvs:List (List Key×V)}{ys:List (List Key×Addr×Value)}{ns:List (List Int)},Paired (λ(p:List Key×V) (q:List Key×Addr×Value)=>p.1=q.1/\H q.2.1=some (.tup (p.1.map kV))/\RelV p.2 q.2.2) kvs ys->kvs.map (·.1)=ns.map (λn=>n.map Sum.inl) ->
  ∃zs:List (Addr×List Int),zs.map (·.1)=ys.map (·.2.1)/\zs.map (·.2)=ns/\∀z∈zs,H z.1=some (.tup (z.2.map V.int))
 | [],[],[],.nil,_=>⟨[],rfl,rfl,λz hz=>by cases hz⟩
 | [],[],_::_,.nil,e=>by cases e
 | p::kvs,q::ys,[],_,e=>by cases e
 | p::kvs,q::ys,n::ns,.cons ⟨_,r2,_⟩ r,e=>by
  injection e with ea eb
  obtain ⟨zs,z1,z2,z3⟩:=U8 r eb;refine ⟨(q.2.1,n)::zs,by rw [List.map_cons,List.map_cons,z1],by rw [List.map_cons,z2],λz hz=>?_⟩;rcases List.mem_cons.mp hz with rfl | hz
  ·have ea:p.1=n.map Sum.inl:=ea;rw [r2,ea,Jb]
  ·exact z3 z hz
section
variable {X:Cx}{K:W.Frag}{w:World}
theorem ZaN (hc:X.calm=true)(hu:X.A.units+64<cLine)(h:X.K=K:=by rfl)(hw:X.w=w:=by rfl):Js X (.builtin "sorted") (λxs H Q=>∃(p:Addr)(kvs:List (List Key×V))(ns:List (List Int)),xs=[.ref p]/\(H p=some (.dT kvs)\/∃o,H p=some (.frz o (.dT kvs)))/\kvs.map (·.1)=ns.map (λn=>n.map Sum.inl)/\ns.length<=1000 /\
  ∀(l:Addr)(zs:List (Addr×List Int)),H l=none->(zs.map (·.2)).Perm ns->(∀z∈zs,H z.1=some (.tup (z.2.map V.int)))->(zs.map (·.2)).Pairwise (λa b=>Jc b a=false)->Q (.ref l) (upd H l (.lst (zs.map λz=>V.ref z.1)))):=by
 subst h hw;intro qQ s σ H xs us Q I rv h;obtain ⟨p,kvs,ns,rfl,hp,hk,hl,q⟩:=h;obtain ⟨u,rfl,ru⟩:=rv.one;cases ru;obtain ⟨_,hd,ys,pr,o,es,ep,h1,h2,h3,h4,_⟩:ObjOk X.prog X.w H s.heap p (.dT kvs):=by
  rcases hp with hp | ⟨o,hp⟩
  ·exact I.hok p _ hp
  ·exact (show ObjOk X.prog X.w H s.heap p (.frz o (.dT kvs)) from I.hok p _ hp).2
 have h16:(16777216:Nat)=sizeLine:=sizeLine_eq.symm;have kl:kvs.length=ns.length:=by have:=congrArg List.length hk;rwa [List.length_map,List.length_map] at this
 obtain ⟨zs1,ez,ez2,hz⟩:=U8 (ys:=ys) pr hk;have e1:zs1.map (λz=>Value.ref z.1)=es.toList.map (·.key):=by
  rw [h4,List.map_map];rw [show zs1.map (λz=>Value.ref z.1)=(zs1.map (·.1)).map Value.ref from by rw [List.map_map];rfl,ez,List.map_map]
  rfl
 have qV:es.size=ns.length:=by
  have:=congrArg List.length e1;rw [List.length_map,List.length_map] at this;have e4:es.toList.length=es.size:=Array.length_toList;have e3:=congrArg List.length ez2;rw [List.length_map] at e3
  lia
 have hh:X.A.in1.handled=none:=I.ok.hd hc;have key:∀z∈zs1,∃its:Array Value,s.heap.IsTuple z.1 its/\IntsAre its.toList z.2:=λz hzm=>by
  obtain ⟨iz,rz,pz,_⟩:=I.tuple (SqT.of (K:=X.K) (hz z hzm));exact ⟨iz.toArray,pz,WB rz⟩
 have keepL:∀{h':Heap}{a:Addr}{it:Array Value},(∀c o,s.heap.get? c=some o->h'.get? c=some o)->s.heap.IsTuple a it->h'.IsTuple a it:=λk hl=>by
  obtain ⟨o,e,r⟩:=hl;exact ⟨o,k _ _ e,r⟩
 refine Calls.call_function_entry kind_sorted plain_sorted entry_sorted (args_sorted1 _) ?_;unfold Builtin.«sorted»;apply wpAny_bind (m:=checkCount "sorted" 1 1 _);apply wpAny_pure;apply wpAny_bind;refine W.kdu_collect (Zn (P:=X.prog) (w:=X.w) (d:=p) (es:=es) (ep:=ep) hd) hh ⟨o,h1,h2,h3⟩ (by lia) λh' tk acc hk' hacc=>?_;have hal:acc.toList.length=es.size:=by rw [Array.length_toList];exact hacc.1
 have hvs:acc.toList=zs1.map λz=>Value.ref z.1:=by
  rw [e1];refine List.ext_getElem? λi=>?_;by_cases hi:i<acc.size
  ·obtain ⟨e,e3,e4⟩:=hacc.2 i acc[i] (Array.getElem?_eq_getElem hi);rw [Array.getElem?_toList,List.getElem?_map,Array.getElem?_toList,e3,Array.getElem?_eq_getElem hi,e4]
   rfl
  ·rw [Array.length_toList] at hal;rw [Array.getElem?_toList,Array.getElem?_eq_none (by lia),List.getElem?_eq_none (by rw [List.length_map,Array.length_toList];lia)]
 have isL:∀v∈acc.toList,∃a,∃it:Array Value,∃ns,v=.ref a/\s.heap.IsTuple a it/\IntsAre it.toList ns:=λv hv=>by
  rw [hvs] at hv;obtain ⟨z,hzm,rfl⟩:=List.mem_map.mp hv;obtain ⟨it,h1,h2⟩:=key z hzm;exact ⟨z.1,it,z.2,rfl,h1,h2⟩
 apply wpAny_bind;refine wpAny_newList ?_ (by rw [hal];lia);have hoL:(h'.push (seqObj "list" acc.toList.toArray 0)).get? h'.objs.size=some (seqObj "list" acc.toList.toArray 0):=Heap.get?_push_size _ rfl;apply wpAny_bind;apply wpAny_holding;have k3:∀(T:Nat) c o,s.heap.get? c=some o->(Jh { s with heap:=h'.push (seqObj "list" acc.toList.toArray 0),toks:=T } h'.objs.size acc.toList).heap.get? c=some o:=λT c o e=>by
  unfold Jh;refine Heap.get?_push_of_some _ (Heap.get?_push_of_some _ (Jp ?_ (Heap.get?_push_of_some _ (hk' c o e))));exact Nat.ne_of_lt (Heap.lt_size (hk' c o e))
 have hu2:X.A.in1.in1.units<cLine:=by rw [Around.in1_units,Around.in1_units];lia
 let kd:SortKind:=if ∀z∈zs1,z.2≠[] then tuples' true else kdT s.heap acc.toList
 have fst_keep:∀T,∀v∈acc.toList,ZY (Jh { s with heap:=h'.push (seqObj "list" acc.toList.toArray 0),toks:=T } h'.objs.size acc.toList).heap v=ZY s.heap v:=λT v hv=>by
  obtain ⟨a,it,ns,rfl,t1,_⟩:=isL v hv;rw [Uo t1,Uo (keepL (k3 T) t1)]
 refine wpAny_call_entry slot_list_sort ⟨_,hoL,rfl⟩ entry_list_sort (Jo (kd:=kd) (good:=λx=>∃a,∃it:Array Value,∃ns,x.1=.ref a/\s.heap.IsTuple a it/\IntsAre it.toList ns/\((∀z∈zs1,z.2≠[])->ns≠[])) (ZbX s.heap) hoL (by lia) (λv hv=>?_) (λh2 E' R q=>?_) (X5 λx y gx gy E' Q q=>?_) λout hpm hr=>⟨_,rfl,?_⟩) (args_list_sort _)
 ·rw [hvs] at hv;obtain ⟨z,hzm,rfl⟩:=List.mem_map.mp hv;obtain ⟨it,h1,h2⟩:=key z hzm;exact ⟨z.1,it,z.2,rfl,h1,h2,λh=>h z hzm⟩
 ·by_cases qY:∀z∈zs1,z.2≠[]
  ·have ek:kd=tuples' true:=if_pos qY;rw [ek] at q;obtain ⟨fs,t1,t2,t3⟩:=WR (k3 _) acc.toList λv hv=>by
    rw [hvs] at hv;obtain ⟨z,hzm,rfl⟩:=List.mem_map.mp hv;obtain ⟨it,h1,h2⟩:=key z hzm;exact ⟨z.1,it,z.2,rfl,h1,h2,qY z hzm⟩
   exact W.kat_kind (T:=.type "int") t1 (by lia) (λv hv=>by obtain ⟨i,t,rfl⟩:=t3 v hv;exact .now) rfl q
  ·have ek:kd=kdT s.heap acc.toList:=if_neg qY;rw [ek] at q;have eq:∀T,kdT (Jh { s with heap:=h'.push (seqObj "list" acc.toList.toArray 0),toks:=T } h'.objs.size acc.toList).heap acc.toList=kdT s.heap acc.toList:=λT=>by
    unfold kdT;cases e0:acc.toList[0]? with
    | none=>rfl
    | some v=>rw [Option.bind_some,Option.bind_some];simp only [fst_keep T v (List.mem_of_getElem? e0)]
   refine Up (λv hv=>?_) h2 ?_ (by rw [eq];exact q)
   ·obtain ⟨a,it,ns,e,t1,_⟩:=isL v hv;exact ⟨a,it,e,keepL (k3 _) t1⟩
   ·have:∃z∈zs1,z.2=[]:=by
     refine Classical.byContradiction λhn=>qY λz hz e=>hn ⟨z,hz,e⟩
    obtain ⟨z,hzm,ez⟩:=this;have hv:Value.ref z.1∈acc.toList:=by rw [hvs];exact List.mem_map.mpr ⟨z,hzm,rfl⟩
    refine ⟨_,hv,?_⟩;rw [fst_keep _ _ hv];obtain ⟨it,h1,h2⟩:=key z hzm;rw [Uo h1];rw [ez] at h2;have:=J6 h2;rw [Array.length_toList] at this;exact Array.getElem?_eq_none (by simpa using this)
 ·obtain ⟨a,it,ns,e1,h1,h2,_⟩:=gx;obtain ⟨c,jt,ms,e2,h3,h4,_⟩:=gy;simp only [e1,e2,Um h1 h2,Um h3 h4] at q ⊢;have g1:=keepL (k3 tk) h1;have g3:=keepL (k3 tk) h3;by_cases qY:∀z∈zs1,z.2≠[]
  ·have ek:kd=tuples' true:=if_pos qY;rw [ek];obtain ⟨o1,g1,_,n1,d1⟩:=g1;obtain ⟨o2,g2,_,n2,d2⟩:=g3;refine W.kat_lt (xs:=it) (ys:=jt) g1 d1 g2 d2 (Wd 0 h2 h4 ?_ q);rw [<-J6 h2,<-J6 h4];simp
  ·have ek:kd=kdT s.heap acc.toList:=if_neg qY;rw [ek];unfold kdT;split
   ·exact U2 (o:=false) g1 g3 h2 h4 hu2 q
   ·rw [keyLt'_oneType];exact U2 (o:=true) g1 g3 h2 h4 hu2 q
 ·obtain ⟨o1,o2,o3⟩:=Uk hpm;refine wpAny_pure ⟨_,rfl,?_⟩;obtain ⟨e,he⟩:=sortedHeap_at (out:=out.map (·.2)) hoL;have hkeep:∀b o,s.heap.get? b=some o->(sortedHeap (h'.push (seqObj "list" acc.toList.toArray 0)) h'.objs.size acc.toList (out.map (·.2))).get? b=some o:=λb o e=>by
   have e':=hk' b o e;have hb:=Heap.lt_size e';rw [sortedHeap_old (Nat.ne_of_lt hb) (by rw [Heap.size_push];exact Nat.lt_succ_of_lt hb)];exact Heap.get?_push_of_some _ e'
  rw [hvs] at o1;obtain ⟨zs',p2,e2⟩:=UW o1;have ps:(zs'.map (·.2)).Pairwise (λa b=>Jc b a=false):=by
   have a1:=JB hr o3;have a2:(out.toList.map (·.2)).Pairwise (λu v=>Jc (ZaE s.heap v) (ZaE s.heap u)=false):=by
    rw [List.pairwise_map];refine a1.imp_of_mem λ{x y} hx hy hxy=>?_;rw [<-(o2 x hx).1,<-(o2 y hy).1];exact hxy
   rw [Array.toList_map] at e2;rw [<-e2,List.pairwise_map] at a2;rw [List.pairwise_map];refine a2.imp_of_mem λ{x y} hx hy hxy=>?_;obtain ⟨it,h1,h2⟩:=key x (p2.mem_iff.mp hx);obtain ⟨jt,h3,h4⟩:=key y (p2.mem_iff.mp hy);rw [Um h1 h2,Um h3 h4] at hxy;exact hxy
  have hpm':zs'.Perm zs1:=p2;have h1000:zs1.length<=1000:=by
   have e3:=congrArg List.length ez2;rw [List.length_map] at e3
   lia
  have hl':(zs'.map λz=>V.ref z.1).length<=sizeLine:=by rw [List.length_map,hpm'.length_eq];lia
  have hn:H h'.objs.size=none:=by
   cases zz:H h'.objs.size with
   | none=>rfl
   | some o=>
    obtain ⟨x,ex⟩:∃x,s.heap.get? h'.objs.size=some x:=(I.hok _ _ zz).there;exact absurd (Heap.lt_size (hk' _ _ ex)) (Nat.lt_irrefl _)
  have sm:Same H (upd H h'.objs.size (.lst (zs'.map λz=>V.ref z.1))):=Same.new hn;refine ⟨.ref h'.objs.size,upd H h'.objs.size (.lst (zs'.map λz=>V.ref z.1)),I.un (t':=tk) ⟨λb o e _ _ _=>hkeep b o e,λb o e _ _ _=>⟨o.slots,hkeep b o e⟩,λb o e n _=>?_,λb o e _=>⟨o,hkeep b o e⟩,λb ys e=>sm _ _ e,λb o u e=>sm _ _ e,λb ps e=>⟨#[],by rw [sm _ _ e];simp⟩⟩ (λb o e'=>?_),rfl,q _ zs' hn (by rw [<-ez2];exact hpm'.map _) (λz hz'=>hz z (hpm'.mem_iff.mp hz')) ps⟩
  ·rw [Go (Nat.ne_of_lt (Heap.lt_size (hk' b o e)))];exact n
  ·by_cases hb:b=h'.objs.size
   ·subst hb;rw [Gb] at e';cases e';exact ⟨hl',(out.map (·.2)).toList,e,by rw [<-e2];exact UY zs',he⟩
   ·rw [Go hb] at e';exact (I.hok b o e').stay (λc v _ x=>hkeep c v x) (λd x=>sm _ _ x) λd ys x=>sm _ _ x
end
end L2
namespace L2
open PySem PySem.Spec PyProof.Rows Classical
def ZZ:Value->Str
 | .str x _=>x
 | _=>Str.empty
def ltS (a b:Str):Bool:=decide (a.cps.toList<b.cps.toList)
theorem ZaO (a:Str):ltS a a=false:=decide_eq_false (List.lt_irrefl _)
theorem Zb3 {a b c:Str}(h1:ltS a b=true)(h2:ltS b c=true):ltS a c=true:=decide_eq_true (List.lt_trans (of_decide_eq_true h1) (of_decide_eq_true h2))
theorem ZaP {a b:Str}(h1:ltS a b=false)(h2:ltS b a=false):a=b:=VD (List.le_antisymm (List.not_lt.mp (of_decide_eq_false h2)) (List.not_lt.mp (of_decide_eq_false h1)))
theorem Zb4:WO (λx y:Keyed=>ltS (ZZ x.1) (ZZ y.1)):=XV (κ:=λx:Keyed=>ZZ x.1) (lt:=ltS) ZaO Zb3 ZaP
theorem Wg:∀{vs:List Value},(∀v∈vs,∃x t,v=Value.str x t)->Vals ((vs.map ZZ).map V.str) vs
 | [],_=>.nil
 | v::vs,h=>by
  obtain ⟨x,t,rfl⟩:=h v (List.mem_cons_self ..);exact .cons ⟨t,rfl⟩ (Wg λu hu=>h u (List.mem_cons_of_mem _ hu))
theorem Yc {P:Program}{w:World}{kvs:List (Key×V)}{vs:List (Key×Value)}{ns:List Str}(r:KV kvs vs)(hk:kvs.map (·.1)=ns.map Sum.inr):vs.map (·.1)=ns.map Sum.inr:=by
 rw [<-hk]
 induction r generalizing ns with
 | nil=>rfl
 | cons h _ ih=>
  cases ns with
  | nil=>simp at hk
  | cons n ns=>
   rw [List.map_cons,List.map_cons,h.1]
   congr 1
   rw [List.map_cons,List.map_cons] at hk;exact ih (List.cons.inj hk).2
section
variable {X:Cx}
theorem ZaQ (hc:X.calm=true):Js X (.builtin "sorted") (λxs H Q=>∃(p:Addr)(kvs:List (Key×V))(ns:List Str),xs=[.ref p]/\(H p=some (.dK kvs)\/∃o,H p=some (.frz o (.dK kvs)))/\kvs.map (·.1)=ns.map Sum.inr/\ns.length<=1000 /\
  ∀(l:Addr)(ns':List Str),H l=none->ns'.Perm ns->ns'.Pairwise (λa b=>ltS b a=false)->Q (.ref l) (upd H l (.lst (ns'.map V.str)))):=by
 intro qQ s σ H xs us Q I rv h;obtain ⟨p,kvs,ns,rfl,hp,hk,hn,q⟩:=h;obtain ⟨u,rfl,ru⟩:=rv.one;cases ru;obtain ⟨z,hd,vs,rel,dd⟩:=Ua I.hok hp;obtain ⟨ep,hat⟩:=dd.dictAt;have h16:(16777216:Nat)=sizeLine:=sizeLine_eq.symm;have hkv:=Yc (P:=X.prog) (w:=X.w) rel hk;have qV:vs.length=ns.length:=by have:=congrArg List.length hkv;rw [List.length_map,List.length_map] at this;exact this
 have hh:X.A.in1.handled=none:=I.ok.hd hc;refine Calls.call_function_entry kind_sorted plain_sorted entry_sorted (args_sorted1 _) ?_;unfold Builtin.«sorted»;apply wpAny_bind (m:=checkCount "sorted" 1 1 _);apply wpAny_pure;apply wpAny_bind;refine W.kdu_collect (W.kdl_dict (knd:=Gz X.prog X.w) (kvs:=vs) (ep:=ep) hd) hh hat (by lia) λh' tk acc hk' hacc=>?_;have hal:acc.toList.length=vs.length:=by rw [Array.length_toList];exact hacc.1
 have isT:∀(i:Nat)(u:Value),acc.toList[i]?=some u->∃x t,u=Value.str x t/\ns[i]?=some x:=λi u e2=>by
  rw [Array.getElem?_toList] at e2;obtain ⟨k,v,e3,e4⟩:=hacc.2 i u e2;have e5:(vs.map (·.1))[i]?=some k:=by rw [List.getElem?_map,e3];rfl
  rw [hkv,List.getElem?_map] at e5;obtain ⟨x,ex,ek⟩:=Option.map_eq_some_iff.mp e5;subst ek;have e6:Uz (Sum.inr x) u=true:=e4;rcases GC e6 with ⟨i',t,h1,h2⟩ | ⟨x',t,h1,h2⟩
  ·cases h1
  ·cases h1;exact ⟨x,t,h2,ex⟩
 have allT:∀v∈acc.toList,∃x t,v=Value.str x t:=λv hv=>by
  obtain ⟨i,hi⟩:=List.mem_iff_getElem?.mp hv;obtain ⟨x,t,e,_⟩:=isT i v hi;exact ⟨x,t,e⟩
 have hmap:acc.toList.map ZZ=ns:=by
  refine List.ext_getElem? λi=>?_;rw [List.getElem?_map];cases e:acc.toList[i]? with
  | none=>
   have:ns.length<=i:=by have:=List.getElem?_eq_none_iff.mp e;lia
   rw [List.getElem?_eq_none this]
   rfl
  | some u=>
   obtain ⟨x,t,rfl,ex⟩:=isT i u e;rw [ex]
   rfl
 apply wpAny_bind;refine wpAny_newList ?_ (by rw [hal];lia);generalize hvs:acc.toList=us at *;have hoL:(h'.push (seqObj "list" us.toArray 0)).get? h'.objs.size=some (seqObj "list" us.toArray 0):=Heap.get?_push_size _ rfl;apply wpAny_bind;apply wpAny_holding;refine wpAny_call_entry slot_list_sort ⟨_,hoL,rfl⟩ entry_list_sort (Jo (kd:=oneType') (good:=λx=>∃y t,x.1=Value.str y t) Zb4 hoL (by lia) (λv hv=>allT v hv) (λh2 E' R q=>?_) (X5 λx y gx gy E' Q q=>?_) λout hpm hr=>⟨_,rfl,?_⟩) (args_list_sort _)
 ·exact W.kas_kind (T:=.type "str") h2 (λv hv=>by obtain ⟨x,t,rfl⟩:=allT v hv;exact .now) (by decide) rfl q
 ·obtain ⟨a,t,e1⟩:=gx;obtain ⟨b,t',e2⟩:=gy;simp only [e1,e2] at q ⊢;exact W.kas_lt_str q
 ·obtain ⟨o1,o2,o3⟩:=Uk hpm;refine wpAny_pure ⟨_,rfl,?_⟩;obtain ⟨e,he⟩:=sortedHeap_at (out:=out.map (·.2)) hoL;have hkeep:∀b o,s.heap.get? b=some o->(sortedHeap (h'.push (seqObj "list" us.toArray 0)) h'.objs.size us (out.map (·.2))).get? b=some o:=λb o e=>by
   have e':=hk' b o e;have hb:=Heap.lt_size e';rw [sortedHeap_old (Nat.ne_of_lt hb) (by rw [Heap.size_push];exact Nat.lt_succ_of_lt hb)];exact Heap.get?_push_of_some _ e'
  have oT:∀v∈(out.map (·.2)).toList,∃x t,v=Value.str x t:=λv hv=>allT v (o1.mem_iff.mp hv);have pm:((out.map (·.2)).toList.map ZZ).Perm ns:=by rw [<-hmap];exact o1.map _
  have ps:((out.map (·.2)).toList.map ZZ).Pairwise (λa b=>ltS b a=false):=by
   have a1:=JB hr o3;rw [List.pairwise_map,Array.toList_map,List.pairwise_map];refine a1.imp_of_mem λ{x y} hx hy hxy=>?_;rw [<-(o2 x hx).1,<-(o2 y hy).1];exact hxy
  have ov:=Wg oT;generalize (out.map (·.2)).toList.map ZZ=ns' at pm ps ov;have hl':(ns'.map V.str).length<=sizeLine:=by rw [List.length_map,pm.length_eq];lia
  have hn':H h'.objs.size=none:=by
   cases zz:H h'.objs.size with
   | none=>rfl
   | some o=>
    obtain ⟨x,ex⟩:∃x,s.heap.get? h'.objs.size=some x:=(I.hok _ _ zz).there;exact absurd (Heap.lt_size (hk' _ _ ex)) (Nat.lt_irrefl _)
  have sm:Same H (upd H h'.objs.size (.lst (ns'.map V.str))):=Same.new hn';refine ⟨.ref h'.objs.size,upd H h'.objs.size (.lst (ns'.map V.str)),I.un (t':=tk) ⟨λb o e _ _ _=>hkeep b o e,λb o e _ _ _=>⟨o.slots,hkeep b o e⟩,λb o e n _=>?_,λb o e _=>⟨o,hkeep b o e⟩,λb ys e=>sm _ _ e,λb o u e=>sm _ _ e,λb ps e=>⟨#[],by rw [sm _ _ e];simp⟩⟩ (λb o e'=>?_),rfl,q _ ns' hn' pm ps⟩
  ·rw [Go (Nat.ne_of_lt (Heap.lt_size (hk' b o e)))];exact n
  ·by_cases hb:b=h'.objs.size
   ·subst hb;rw [Gb] at e';cases e';exact ⟨hl',(out.map (·.2)).toList,e,ov,he⟩
   ·rw [Go hb] at e';exact (I.hok b o e').stay (λc v _ x=>hkeep c v x) (λd x=>sm _ _ x) λd ys x=>sm _ _ x
end
end L2
namespace L2
open PySem PySem.Spec PyProof.Rows
section
variable {X:Cx}
def Zdk (t:TE):TE:=λσ H Q=>t σ H λv H1=>∃d kvs,v=.ref d/\H1 d=some (.dT kvs)/\∀o,Q v (upd H1 d (.frz o (.dT kvs)))
theorem Yd {e:Expr}{t:TE}(h:PE X e t):PE X e (Zdk t):=by
 intro qQ s σ H Q I hh;refine thn (h qQ s σ H _ I hh) λu s1 ⟨x,H1,I1,rx,d,kvs,ex,ed,q⟩=>?_;obtain ⟨o,I2⟩:=I1.freezeT ed;exact ⟨x,_,I2,rx,q o⟩
theorem Ye:MtR X "dict.items" (λx xs H Q=>∃d kvs o,x=.ref d/\xs=[]/\H d=some (.frz o (.dT kvs))/\∀v,H v=none->Q (.ref v) (upd H v (IVw v d))):=by
 intro qQ s σ H x xs v us Q I rx rv h;obtain ⟨d,kvs,o0,rfl,rfl,hd,q⟩:=h;cases rx;have hus:=rv.zero;subst hus;obtain ⟨_,_,hs,ys,_,o,es,ep,h1,h2,h3,_⟩:=(show ObjOk X.prog X.w H s.heap d (.frz o0 (.dT kvs)) from I.hok d _ hd);have hf:H s.heap.objs.size=none:=I.hok.fresh (Nat.le_refl _);refine WQ hs h1 h2 h3 ⟨.ref s.heap.objs.size,upd H s.heap.objs.size (IVw s.heap.objs.size d),I.laid (t':=s.toks) (λb u e=>Heap.get?_push_of_some _ e) (Nat.le_refl _) ?_,rfl,q _ hf⟩;have hv:(s.heap.push { cls:=.type "dict_items", data:=.fields #[.ref d] }).get? s.heap.objs.size=some { cls:=.type "dict_items", data:=.fields #[.ref d] }:=Heap.get?_push_size _ rfl;exact ⟨⟨_,hv,rfl,rfl⟩,⟨_,hv⟩,λg1 g2 ⟨o,e,r⟩ k=>⟨o,k _ e,r⟩⟩
def Zdl (to:TE):TE:=λσ H Q=>to σ H λx H1=>∃d kvs ob,x=.ref d/\H1 d=some (.frz ob (.dT kvs))/\∀v,H1 v=none->Q (.ref v) (upd H1 v (IVw v d))
theorem ZaR {o:Expr}{apos qK:Pos}{to:TE}(ho:PE X o to)(hbase:attributeBase o "items" X.env (eval o X.env)=eval o X.env:=by rfl)(hline:(apos.endLine == qK.line)=true:=by rfl):PE X (.Call (.Attribute o "items" apos) [] [] qK) (Zdl to):=by
 intro qQ s σ H Q I h;refine wpAny_Call_method0_late hbase hline (thn (ho qQ s σ H _ I h) λv s1 ⟨x,H1,I1,r1,d,kvs,ob,e,ed,q1⟩=>?_);subst e;obtain rfl:v=Value.ref d:=r1;obtain ⟨h1,h2,_⟩:=XA I1 (.inr ⟨kvs,.inr ⟨ob,ed⟩⟩);exact ⟨"dict", "dict.items", PySem.F.plainAttrs_dict,PySem.F.slot_dict_items,PySem.F.type_dict_items,h1,h2,Calls.callWith_builtin rfl (PySem.evalArgs_none (Ye qQ s1 σ H1 (.ref d) [] (.ref d) [] Q I1 rfl .nil ⟨d,kvs,ob,rfl,rfl,ed,q1⟩))⟩
end
end L2
namespace M
open PySem L2
def top (i:Nat):Stmt:=PySem.Challenge.pw_onceways_k69_words_below_a_row.main.body.getD i (.Pass ⟨0,0,0,0⟩)
abbrev sGr:Stmt:=top 5
abbrev Zb5:Stmt:=top 8
abbrev sLr:Stmt:=top 16
abbrev sSo:Stmt:=top 17
abbrev sFm:Stmt:=top 18
abbrev sId:Stmt:=top 19
abbrev sIl:Stmt:=top 20
abbrev sIf:Stmt:=top 21
abbrev sIm:Stmt:=top 22
abbrev sFe:Stmt:=top 23
abbrev sWr:Stmt:=top 24
abbrev sLb:Stmt:=top 25
abbrev sDe:Stmt:=top 26
abbrev sBs:Stmt:=top 28
abbrev sNb:Stmt:=top 29
abbrev sRr:Stmt:=top 31
abbrev sSg:Stmt:=top 32
abbrev sWn:Stmt:=top 33
abbrev sWb:Stmt:=top 34
abbrev ZaS:Stmt:=top 36
abbrev sMi:Stmt:=top 37
abbrev Z0:Stmt:=top 38
abbrev Z1:Stmt:=top 39
abbrev ZaT:Stmt:=top 40
abbrev Zo:Stmt:=top 41
abbrev Zp:Stmt:=top 42
abbrev Zq:Stmt:=top 43
abbrev Zr:Stmt:=top 44
abbrev YB:Stmt:=top 45
structure WebAt (H:Hp)(wb l:Addr)(k:Int)(xs:List V)(rs:List (Int×Int)):Prop where
 w:H wb=some (.tup [.int k,.ref l])
 l:H l=some (.lst xs)
 p:Prs H xs rs
theorem WebAt.same {H H':Hp}{wb l:Addr}{k:Int}{xs:List V}{rs:List (Int×Int)}(h:WebAt H wb l k xs rs)(s:Same H H'):WebAt H' wb l k xs rs:=⟨s _ _ h.w,s _ _ h.l,h.p.same s⟩
section
variable {P:Program}{w:World}{K:W.Frag}{mg:Str->Option Value}{base:Heap}
theorem GU:2<=sizeLine:=by decide
theorem ZaU {p:Nat}{a:Int}(h:a.natAbs<2 ^ p:=by decide +kernel):Lt2 p a:=h
theorem ZaV {ns:List Int}{i:Nat}(h:i<ns.length):ns.getD i 0=ns[i]:=by
 rw [List.getD_eq_getElem?_getD,List.getElem?_eq_getElem h]
 rfl
theorem Wh {ns:List Int}{i:Nat}(h:i<ns.length):ns.getD i 0∈ns:=by
 rw [ZaV h];exact List.getElem_mem h
theorem Ji {ns:List Int}{i:Int}(h0:0<=i)(h1:i<ns.length):atI (ns.map V.int) i=some (.int (ns.getD i.toNat 0)):=by
 obtain ⟨k,rfl⟩:=Int.eq_ofNat_of_zero_le h0;have hk:k<ns.length:=by lia
 refine Jx ?_;show (ns.map V.int)[k]?=some (.int (ns.getD k 0));rw [List.getElem?_map,List.getD_eq_getElem?_getD,List.getElem?_eq_getElem hk]
 rfl
def Zb6 (K:W.Frag):Sp:=λvs H Q _=>∃(a:Addr)(ns:List Int)(k:Nat),vs=[.ref a,.int (k:Int)]/\SqL K H a (ns.map V.int)/\∀z:Int,Q (.int z) H
theorem Zdm:Gs ["script", "k"] ["script", "k"] (Gc ZaS):=⟨rfl,rfl,rfl,by decide +kernel,rfl,by decide +kernel,by decide +kernel⟩
theorem Zb7 {f:Addr}{fd:FuncData}(F:Fun K "_law_cell_at" "_law_cell_at" ZaS f fd)(mLen:mg "len" = none):GL P w K mg base CX0 1 f fd ["script", "k"] (Zb6 K):=by
 refine F.ok Zdm (λvs H Q E h=>?_) (λcdv A outer s H vs Q E hr h=>?_)
 ·obtain ⟨_,_,_,rfl,_⟩:=h
  rfl
 ·obtain ⟨a,ns,k,rfl,hS,q⟩:=h;refine ⟨_,Gd (GW (Gr JY (pv 1) (GA (ZcK K) rfl mLen PySem.boot_len (Ga (pv 0) Ge)) (Gw _)) (Gf (Gu (G3 (ZcJ K) (pv 0) (pv 1) (λ_ _=>rfl)))) Gy)
    (Gf (Gu Gg)),?_⟩
  refine ⟨_,rfl,_,rfl,a,_,rfl,.inl hS,_,_,rfl,rfl,_,rfl,?_⟩;rw [List.length_map];refine OO (λz=>?_) (λ_=>q 0);have z':=of_decide_eq_true z;exact ⟨_,rfl,_,rfl,a,_,_,_,rfl,rfl,hS,Ji (by lia) z',q _⟩
end
end M
namespace M
open PySem L2
def Ur (rs:List (Int×Int))(x:Int):Nat->Int
 | 0=>-1
 | j+1=>if (rs.getD j (0,0)).1=x\/(rs.getD j (0,0)).2=x then (j:Int) else Ur rs x j
theorem Wi (rs:List (Int×Int))(x:Int){i:Nat}(h:(rs.getD i (0,0)).1=x\/(rs.getD i (0,0)).2=x):∀j:Nat,i<j->(i:Int)<=Ur rs x j
 | 0,hi=>by lia
 | j+1,hi=>by
  unfold Ur;split
  ·lia
  ·rename_i hn;rcases Nat.lt_or_ge i j with q | q
   ·exact Wi rs x h j q
   ·have:i=j:=by lia
    subst this;exact absurd h hn
def Us (rs:List (Int×Int))(x:Int):Int:=Ur rs x rs.length
theorem Zs {rs:List (Int×Int)}{j:Nat}(hj:j<rs.length){p:Int}(h:(rs.getD j (0,0)).1=p\/(rs.getD j (0,0)).2=p):(j:Int)<=Us rs p:=Wi rs p h rs.length hj
def gA (m:List Int)(p:Int):Int:=m.getD p.toNat 0
def GS (q:Int):Bool:=decide (0<=q\/q=-3\/q=-4)
def Jt (q:Int):Bool:=decide (q=-1\/q=-5)
def OQ (q:Int):Bool:=decide (¬ (q=-2\/q=-5))
def WU (s t q:Int):Int:=if q=s then -3 else if q=t then -4 else q
def Vi (s t:Int)(m:List Int)(a:Int):Int:=if gA m a=-2 then WU s t a else gA m a
def pW1 (m:List Int)(r:Int×Int)(fa fb:Int):List Int:=
 let c1:=(m.set r.1.toNat (-1)).set r.2.toNat (-1)
 let c2:=if 0<=fa then c1.set fa.toNat fb else c1
 if 0<=fb then c2.set fb.toNat fa else c2
abbrev nE:Int:=-9
def pC (s t:Int)(m:List Int)(r:Int×Int):List Int:=if gA m r.1=r.2 then (m.set r.1.toNat (-1)).set r.2.toNat (-1) else pW1 m r (Vi s t m r.1) (Vi s t m r.2)
def Of (s t:Int)(m:List Int)(r:Int×Int):Option (List Int):=
 if m.getD (m.length-1) 0=0\/Jt (gA m r.1)=true\/Jt (gA m r.2)=true then none
 else if gA m r.1=r.2\/(Vi s t m r.1<0/\Vi s t m r.2<0) then (if (pC s t m r).any GS=true then none else some ((pC s t m r).set (m.length-1) 0))
 else some (pC s t m r)
def WV (m lv nd:List Int):Option (List Int):=
 if lv=[] then some m else if (lv.any λp=>GS (gA m p))=true\/(nd.all λp=>OQ (gA m p))=false then none else some (lv.foldl (λm p=>m.set p.toNat (-2)) m)
def Uy (rs:List (Int×Int))(j:Nat):List Int:=[(rs.getD j (0,0)).1,(rs.getD j (0,0)).2].filter λp=>decide (Us rs p=(j:Int))
def ZcM (s t:Int)(lv:List Int):List Int:=lv.filter λp=>decide (p=s\/p=t)
def Yg (rs:List (Int×Int))(s t:Int)(m:List Int)(j:Nat)(ch:Bool):Option (List Int):=
 (if ch=true then Of s t m (rs.getD j (0,0)) else some m).bind λm'=>WV m' (Uy rs j) (ZcM s t (Uy rs j))
theorem OK (s t q:Int):(q=s/\WU s t q=-3)\/(q≠s/\q=t/\WU s t q=-4)\/(q≠s/\q≠t/\WU s t q=q):=by
 unfold WU;by_cases h1:q=s
 ·exact .inl ⟨h1,if_pos h1⟩
 ·by_cases h2:q=t
  ·exact .inr (.inl ⟨h1,h2,by rw [if_neg h1,if_pos h2]⟩)
  ·exact .inr (.inr ⟨h1,h2,by rw [if_neg h1,if_neg h2]⟩)
end M
namespace M
open PySem L2
section
variable {P:Program}{w:World}{K:W.Frag}{mg:Str->Option Value}{base:Heap}
def EndD (H:Hp)(e:Addr)(s t:Int):Prop:=s=nE/\t=nE/\∃o,H e=some (.frz o (.dK []))
theorem EndD.same {H H':Hp}{e:Addr}{s t:Int}(h:EndD H e s t)(q:Same H H'):EndD H' e s t:=⟨h.1,h.2.1,h.2.2.imp λ_ z=>q _ _ z⟩
theorem EndD.get {H:Hp}{e:Addr}{s t:Int}(h:EndD H e s t)(p:Int)(p0:0<=p):DGet H e (.int p) (if p=s then some (.int (-3)) else if p=t then some (.int (-4)) else none):=by
 obtain ⟨rfl,rfl,o,e⟩:=h;have n:¬ p=nE:=λz=>by have:p=-9:=z;lia
 rw [if_neg n,if_neg n];exact .inl ⟨_,.inl p,.inr ⟨o,e⟩,rfl,rfl⟩
def Zd6 (K:W.Frag):Sp:=λvs H Q _=>∃(m:Addr)(ms:List Int),vs=[.ref m]/\SqT K H m (ms.map V.int)/\ms≠[]/\Q (.bl (decide (ms.getD (ms.length-1) 0=0))) H
theorem ZeI:Gs ["marks"] ["marks"] (Gc sId):=⟨rfl,rfl,rfl,by decide +kernel,rfl,by decide +kernel,by decide +kernel⟩
theorem Zb8 {ns:List Int}(h:ns≠[]):atI (ns.map V.int) (-1)=some (.int (ns.getD (ns.length-1) 0)):=by
 have hp:0<ns.length:=List.length_pos_iff.mpr h;have e:ixN (ns.map V.int).length (-1)=some (ns.length-1):=by
  unfold ixN;rw [if_neg (by decide),List.length_map,if_pos (by lia)]
  congr 1
  lia
 unfold atI;rw [e];show (ns.map V.int)[ns.length-1]?=_;rw [List.getElem?_map,List.getD_eq_getElem?_getD,List.getElem?_eq_getElem (show ns.length-1<ns.length by lia)]
 rfl
theorem JL {i j:Int}:decide (V.int i=V.int j)=decide (i=j):=by
 by_cases h:i=j
 ·rw [decide_eq_true h,decide_eq_true (by rw [h])]
 ·rw [decide_eq_false h,decide_eq_false λz=>h (V.int.inj z)]
theorem Zdn {f:Addr}{fd:FuncData}(F:Fun K "is_done" "is_done" sId f fd){u0:Tok}(mDONE:mg "DONE" = some (.int 0 u0)):GL P w K mg base CX0 1 f fd ["marks"] (Zd6 K):=by
 refine F.ok ZeI (λvs H Q E h=>?_) (λcdv A outer s0 H vs Q E hr h=>?_)
 ·obtain ⟨_,_,rfl,_⟩:=h
  rfl
 ·obtain ⟨m,ms,rfl,hm,hne,q⟩:=h;refine ⟨_,Gf (Gu (Jl Xc (G3 (OP K) (pv 0) (Zbp Xu Gg) (λ_ _=>rfl)) (GP (v:=.int (0)) rfl mDONE ⟨_,rfl⟩) (Gw _))),?_⟩;refine ⟨_,rfl,_,rfl,m,_,_,_,rfl,rfl,hm,Zb8 hne,rfl,?_⟩;rw [JL];exact q
def VE (g:Int->Bool):Sp:=λvs H Q _=>∃q:Int,vs=[.int q]/\∀H',Same H H'->Q (.bl (g q)) H'
theorem Zdo (q a b:Int):inV (.int q) [.int a,.int b]=decide (q=a\/q=b):=by
 rw [show decide (q=a\/q=b)=decide (a=q\/b=q) from decide_eq_decide.mpr ⟨λh=>h.imp Eq.symm Eq.symm,λh=>h.imp Eq.symm Eq.symm⟩];unfold inV;by_cases h1:a=q <;> by_cases h2:b=q <;> simp [eqV,h1,h2]
theorem ZeJ:Gs ["mark"] ["mark"] (Gc sIl):=⟨rfl,rfl,rfl,by decide +kernel,rfl,by decide +kernel,by decide +kernel⟩
theorem Zdp {f:Addr}{fd:FuncData}(F:Fun K "is_loose" "is_loose" sIl f fd){u3 u4:Tok}(mFIRST:mg "FIRST" = some (.int (-3) u3))(mSECOND:mg "SECOND" = some (.int (-4) u4)):GL P w K mg base CX0 1 f fd ["mark"] (VE GS):=by
 refine F.ok ZeJ (λvs H Q E h=>?_) (λcdv A outer s0 H vs Q E hr h=>?_)
 ·obtain ⟨_,rfl,_⟩:=h
  rfl
 ·obtain ⟨x,rfl,q⟩:=h;refine ⟨_,Gf (Gu (ZcT (Jl YK (pv 0) Gg (Gw _)) (ZK (Jl (kIn K) (pv 0) (GO (Ga (GP (v:=.int (-3)) rfl mFIRST ⟨_,rfl⟩) (Ga (GP (v:=.int (-4)) rfl mSECOND ⟨_,rfl⟩) Ge))) (by with_unfolding_all rfl))))),?_⟩;refine ⟨_,rfl,_,_,rfl,rfl,_,rfl,?_⟩;unfold GS at q;by_cases h0:0<=x
  ·rw [decide_eq_true h0];refine G9 ?_;have:=q H (Same.refl _);rw [decide_eq_true (.inl h0)] at this;exact this
  ·rw [decide_eq_false h0];refine Je ?_;refine ⟨_,rfl,GU,λp hp=>⟨p,_,rfl,.inr (SqT.of Gb),rfl,rfl,?_⟩⟩;show Q (.bl (inV (.int x) [.int (-3),.int (-4)])) _;rw [Zdo];have:=q _ (Same.new (o:=.tup [.int (-3),.int (-4)]) hp);rw [show decide (0<=x\/x=-3\/x=-4)=decide (x=-3\/x=-4) from decide_eq_decide.mpr ⟨λz=>z.resolve_left h0,.inr⟩] at this;exact this
theorem ZeK:Gs ["mark"] ["mark"] (Gc sIf):=⟨rfl,rfl,rfl,by decide +kernel,rfl,by decide +kernel,by decide +kernel⟩
theorem Zdq {f:Addr}{fd:FuncData}(F:Fun K "is_full" "is_full" sIf f fd){u1 u5:Tok}(mUSED:mg "USED" = some (.int (-1) u1))(mBARRED:mg "BARRED" = some (.int (-5) u5)):GL P w K mg base CX0 1 f fd ["mark"] (VE Jt):=by
 refine F.ok ZeK (λvs H Q E h=>?_) (λcdv A outer s0 H vs Q E hr h=>?_)
 ·obtain ⟨_,rfl,_⟩:=h
  rfl
 ·obtain ⟨x,rfl,q⟩:=h;refine ⟨_,Gf (Gu (Jl (kIn K) (pv 0) (GO (Ga (GP (v:=.int (-1)) rfl mUSED ⟨_,rfl⟩) (Ga (GP (v:=.int (-5)) rfl mBARRED ⟨_,rfl⟩) Ge))) (by with_unfolding_all rfl))),?_⟩;refine ⟨_,rfl,GU,λp hp=>⟨p,_,rfl,.inr (SqT.of Gb),rfl,rfl,?_⟩⟩;show Q (.bl (inV (.int x) [.int (-1),.int (-5)])) _;rw [Zdo];exact q _ (Same.new hp)
theorem ZeL:Gs ["mark"] ["mark"] (Gc sIm):=⟨rfl,rfl,rfl,by decide +kernel,rfl,by decide +kernel,by decide +kernel⟩
theorem Zdr {f:Addr}{fd:FuncData}(F:Fun K "is_met" "is_met" sIm f fd){u2 u5:Tok}(mFREE:mg "FREE" = some (.int (-2) u2))(mBARRED:mg "BARRED" = some (.int (-5) u5)):GL P w K mg base CX0 1 f fd ["mark"] (VE OQ):=by
 refine F.ok ZeL (λvs H Q E h=>?_) (λcdv A outer s0 H vs Q E hr h=>?_)
 ·obtain ⟨_,rfl,_⟩:=h
  rfl
 ·obtain ⟨x,rfl,q⟩:=h;refine ⟨_,Gf (Gu (Jl (ZbE K) (pv 0) (GO (Ga (GP (v:=.int (-2)) rfl mFREE ⟨_,rfl⟩) (Ga (GP (v:=.int (-5)) rfl mBARRED ⟨_,rfl⟩) Ge))) (by with_unfolding_all rfl))),?_⟩;refine ⟨_,rfl,GU,λp hp=>⟨p,_,rfl,.inr (SqT.of Gb),rfl,rfl,?_⟩⟩;show Q (.bl (!inV (.int x) [.int (-2),.int (-5)])) _;rw [Zdo];have:=q _ (Same.new (o:=.tup [.int (-2),.int (-5)]) hp);unfold OQ at this;rw [decide_not] at this;exact this
def Zd7 (K:W.Frag):Sp:=λvs H Q _=>∃(m e:Addr)(ms:List Int)(p s t:Int),vs=[.ref m,.int p,.ref e]/\SqT K H m (ms.map V.int)/\0<=p/\p<ms.length/\EndD H e s t/\Q (.int (Vi s t ms p)) H
theorem ZeM:Gs ["marks", "place", "ends"] ["marks", "place", "ends"] (Gc sFe):=⟨rfl,rfl,rfl,by decide +kernel,rfl,by decide +kernel,by decide +kernel⟩
theorem Zds {f:Addr}{fd:FuncData}(F:Fun K "far_end" "far_end" sFe f fd){u2:Tok}(mFREE:mg "FREE" = some (.int (-2) u2)):GL P w K mg base CX0 1 f fd ["marks", "place", "ends"] (Zd7 K):=by
 refine F.ok ZeM (λvs H Q E h=>?_) (λcdv A outer s0 H vs Q E hr h=>?_)
 ·obtain ⟨_,_,_,_,_,_,rfl,_⟩:=h
  rfl
 ·obtain ⟨m,e,ms,p,s,t,rfl,hm,p0,p1,he,q⟩:=h;have hu1:(A.deeper (PyProof.Rows.envOfC "far_end" (Gc sFe) s0.heap.objs.size f cdv)).units+1<cLine:=by have:=hr.un;lia
  refine ⟨_,Gf (Gu (Oo (Gr Xc (G3 (OP K) (pv 0) (pv 1) (λ_ _=>rfl)) (GP (v:=.int (-2)) rfl mFREE ⟨_,rfl⟩) (Gw _)) (Ub hu1 (pv 2) (pv 1) (pv 1) ⟨rfl,rfl,rfl,rfl⟩) (G3 (OP K) (pv 0) (pv 1) (λ_ _=>rfl)))),?_⟩;refine ⟨_,rfl,_,rfl,m,_,_,_,rfl,rfl,hm,Ji p0 p1,rfl,_,rfl,?_⟩;rw [JL];unfold Vi at q;refine OO (λz=>?_) (λz=>?_)
  ·rw [if_pos (show gA ms p=-2 from of_decide_eq_true z)] at q;obtain ⟨_,_,o,e1⟩:=id he;refine ⟨_,rfl,e,rfl,.inl ⟨_,.inr ⟨o,e1⟩⟩,_,rfl,_,rfl,_,he.get p p0,?_⟩;unfold WU at q;by_cases h1:p=s
   ·rw [if_pos h1] at q ⊢;exact q
   ·rw [if_neg h1] at q ⊢;by_cases h2:p=t
    ·rw [if_pos h2] at q ⊢;exact q
    ·rw [if_neg h2] at q ⊢;exact q
  ·rw [if_neg (show ¬ gA ms p=-2 from λy=>z (decide_eq_true y))] at q;exact ⟨_,rfl,_,rfl,m,_,_,_,rfl,rfl,hm,Ji p0 p1,q⟩
theorem OL {n:Nat}{i:Int}(h0:0<=i)(h1:i<n):ixN n i=some i.toNat:=by
 unfold ixN;rw [if_pos h0,if_pos h1]
theorem map_set {ms:List Int}{n:Nat}{v:Int}:(ms.map V.int).set n (.int v)=(ms.set n v).map V.int:=by
 rw [List.map_set]
def Zd8:Sp:=λvs H Q _=>∃(m r e:Addr)(ms:List Int)(a b s t:Int),vs=[.ref m,.ref r,.ref e]/\H m=some (.tup (ms.map V.int))/\H r=some (.tup [.int a,.int b])/\EndD H e s t/\0<=a/\a<b/\b+1<ms.length/\(∀q∈ms,q+1<(ms.length:Int))/\ms.length<=1000 /\
 (∀H':Hp,Same H H'->Of s t ms (a,b)=none->Q .non H')/\(∀(T:Addr)(m':List Int)(H':Hp),Same H H'->H T=none->H' T=some (.tup (m'.map V.int))->Of s t ms (a,b)=some m'->Q (.ref T) H')
theorem scWr:Gs ["marks", "road", "ends", "a", "b", "rounds", "far_a", "far_b", "changed"] ["marks", "road", "ends"] (Gc sWr):=⟨rfl,rfl,rfl,by decide +kernel,rfl,by decide +kernel,by decide +kernel⟩
theorem Z3 {ms:List Int}{s t p:Int}(p0:0<=p)(p1:p+1<ms.length)(h:∀q∈ms,q+1<(ms.length:Int)):Vi s t ms p+1<ms.length:=by
 unfold Vi;split
 ·rcases OK s t p with ⟨_,e⟩ | ⟨_,_,e⟩ | ⟨_,_,e⟩ <;> lia
 ·exact h _ (Wh (by lia))
theorem Zdt {f fId fIf fFe fIl:Addr}{fd fdId fdIf fdFe fdIl:FuncData}(F:Fun K "with_road" "with_road" sWr f fd)(FId:Fun K "is_done" "is_done" sId fId fdId)(bId:Binds K fdId ["marks"] [])(mId:mg "is_done" = some (.ref fId))(GId:GL P w K mg base CX0 1 fId fdId ["marks"] (Zd6 K))(FIf:Fun K "is_full" "is_full" sIf fIf fdIf)(bIf:Binds K fdIf ["mark"] [])(mIf:mg "is_full" = some (.ref fIf))(GIf:GL P w K mg base CX0 1 fIf fdIf ["mark"] (VE Jt))(FFe:Fun K "far_end" "far_end" sFe fFe fdFe)(bFe:Binds K fdFe ["marks", "place", "ends"] [])(mFe:mg "far_end" = some (.ref fFe))(GFe:GL P w K mg base CX0 1 fFe fdFe ["marks", "place", "ends"] (Zd7 K))(FIl:Fun K "is_loose" "is_loose" sIl fIl fdIl)(bIl:Binds K fdIl ["mark"] [])(mIl:mg "is_loose" = some (.ref fIl))(GIl:GL P w K mg base CX0 1 fIl fdIl ["mark"] (VE GS)){u0 u1:Tok}(mDONE:mg "DONE" = some (.int 0 u0))(mUSED:mg "USED" = some (.int (-1) u1))(mLst:mg "list" = none)(mAny:mg "any" = none)(mTup:mg "tuple" = none):GL P w K mg base CX0 2 f fd ["marks", "road", "ends"] Zd8:=by
 refine F.ok scWr (λvs H Q E h=>?_) (λcdv A outer s0 H vs Q E hr h=>?_)
 ·obtain ⟨_,_,_,_,_,_,_,_,rfl,_⟩:=h
  rfl
 ·obtain ⟨m,r,e,ms,a,b,s,t,rfl,hm,hr',he,a0,ab,bk,qY,qV,qn,qs⟩:=h;have h16:(16777216:Nat)=sizeLine:=sizeLine_eq.symm;have hne:ms≠[]:=λz=>by rw [z] at bk;simp at bk;lia
  refine ⟨_,Gd (Oh (pv 1) (Zbb K (n:=2) rfl (GE (Gi (i:=3) scWr.nd rfl (Or.inl rfl)) (GE (Gi (i:=4) scWr.nd rfl (Or.inl rfl)) J8))))
    (Gd (Gq (i:=5) scWr.nd rfl (Or.inl rfl) (Jl Xc (G3 (OP K) (pv 0) (pv 3) (λ_ _=>rfl)) (pv 4) (Gw _)))
    (Gd (GW (PW.pt (Oz (Jv (Gk GId (hr.mono (by decide)) rfl mId FId.kp bId .nil GM (Ga (pv 0) Ge))) (Oz (Jv (Gk GIf (hr.mono (by decide)) rfl mIf FIf.kp bIf .nil GM (Ga (G3 (OP K) (pv 0) (pv 3) (λ_ _=>rfl)) Ge))) (Oz (Jv (Gk GIf (hr.mono (by decide)) rfl mIf FIf.kp bIf .nil GM (Ga (G3 (OP K) (pv 0) (pv 4) (λ_ _=>rfl)) Ge))) (Og (PW.pt (UB (JE (pv 5) (λ_=>rfl)) (Oy (XX (pv 2) (λ_=>rfl)))))))))) (Gf (Gu Ju)) Gy)
    (Gd (Gq (i:=6) scWr.nd rfl (Or.inl rfl) (Gk GFe (hr.mono (by decide)) rfl mFe FFe.kp bFe .nil GM (Ga (pv 0) (Ga (pv 3) (Ga (pv 2) Ge)))))
    (Gd (Gq (i:=7) scWr.nd rfl (Or.inl rfl) (Gk GFe (hr.mono (by decide)) rfl mFe FFe.kp bFe .nil GM (Ga (pv 0) (Ga (pv 4) (Ga (pv 2) Ge)))))
    (Gd (Gq (i:=8) scWr.nd rfl (Or.inl rfl) (G5 (Vo K) rfl mLst J1 (Ga (pv 0) Ge)))
    (Gd (Oh (GP (v:=.int (-1)) rfl mUSED ⟨_,rfl⟩) (OS (pv 8) (pv 3) JF))
    (Gd (Oh (GP (v:=.int (-1)) rfl mUSED ⟨_,rfl⟩) (OS (pv 8) (pv 4) JF))
    (Gd (GW (PW.pt (UB (JW (JE (pv 5) (λ_=>rfl))) (Oy (Gr YK (pv 6) Gg (Gw _))))) (Gf (Oh (pv 7) (OS (pv 8) (pv 6) JF))) Gy)
    (Gd (GW (PW.pt (UB (JW (JE (pv 5) (λ_=>rfl))) (Oy (Gr YK (pv 7) Gg (Gw _))))) (Gf (Oh (pv 6) (OS (pv 8) (pv 7) JF))) Gy)
    (Gd (GW (PW.pt (Oz (JE (pv 5) (λ_=>rfl)) (Og (PW.pt (UB (Gr JY (pv 6) Gg (Gw _)) (Oy (Gr JY (pv 7) Gg (Gw _)))))))) (Gd (GW (Jv (GA (Zd5 K rfl) rfl mAny Wb (Ga (Jm (own:=["mark"]) rfl (OE (by decide +kernel) (by decide +kernel) rfl (by decide +kernel)) (JM K (pv 8)) (λ_ _ _ _=>Gi (i:=0) (show List.Nodup (["mark"]:List Str) by decide +kernel) rfl (Or.inl rfl)) (λ_ _ _ _=>Ja) (λ_ _ _ _=>Gk GIl (hr.mono (by decide)) rfl mIl FIl.kp bIl .nil GM (Ga (pv 0) Ge))) Ge))) (Gf (Gu Ju)) Gy)
    (Gf (Oh (GP (v:=.int (0)) rfl mDONE ⟨_,rfl⟩) (OS (pv 8) (Zbp Xu Gg) JF)))) Gy)
    (Gf (Gu (G5 (XZ K) rfl mTup JI (Ga (pv 8) Ge)))))))))))))),?_⟩
  refine ⟨_,rfl,r,_,rfl,SqT.of hr',rfl,_,_,rfl,_,_,rfl,rfl,?_⟩
  try dsimp only [GG]
  refine Jn (λσ' H'=>σ'=[some (.ref m),some (.ref r),some (.ref e),some (.int a),some (.int b),some (.bl (decide (gA ms a=b))),none,none,none]/\H'=H) ?r2 ?r1
  case r1=>
   intro hk;refine ⟨_,rfl,_,rfl,m,_,_,_,rfl,rfl,SqT.of hm,Ji a0 (by lia),_,rfl,rfl,?_⟩;rw [JL];exact hk _ _ ⟨rfl,rfl⟩
  rintro σ' H' ⟨rfl,rfl⟩;have ret:(ms.getD (ms.length-1) 0=0\/Jt (gA ms a)=true\/Jt (gA ms b)=true)->∀H2,Same H' H2->Q .non H2:=λz H2 s2=>qn H2 s2 (by unfold Of;rw [if_pos z]);refine Jn (λσ'' H2=>σ''=[some (.ref m),some (.ref r),some (.ref e),some (.int a),some (.int b),some (.bl (decide (gA ms a=b))),none,none,none]/\Same H' H2/\¬ (ms.getD (ms.length-1) 0=0\/Jt (gA ms a)=true\/Jt (gA ms b)=true)) ?f2 ?f1
  case f1=>
   intro hk;refine ⟨_,rfl,m,ms,rfl,SqT.of hm,hne,_,rfl,?_⟩;by_cases c1:ms.getD (ms.length-1) 0=0
   ·rw [decide_eq_true c1];exact G9 (G9 (ret (.inl c1) _ (Same.refl _)))
   rw [decide_eq_false c1];refine Je ?_;refine ⟨_,rfl,_,rfl,m,_,_,_,rfl,rfl,SqT.of hm,Ji a0 (by lia),_,rfl,λH2 s2=>⟨_,rfl,?_⟩⟩;by_cases c2:Jt (gA ms a)=true
   ·rw [show Jt (ms.getD a.toNat 0)=true from c2];exact G9 (G9 (ret (.inr (.inl c2)) _ s2))
   rw [show Jt (ms.getD a.toNat 0)=false from by cases z:Jt (gA ms a);exact z;exact absurd z c2];refine Je ?_;refine ⟨_,rfl,_,rfl,m,_,_,_,rfl,rfl,SqT.of (s2 _ _ hm),Ji (by lia) (by lia),_,rfl,λH3 s3=>⟨_,rfl,?_⟩⟩;have s23:=s2.trans s3;by_cases c3:Jt (gA ms b)=true
   ·rw [show Jt (ms.getD b.toNat 0)=true from c3];exact G9 (G9 (ret (.inr (.inr c3)) _ s23))
   rw [show Jt (ms.getD b.toNat 0)=false from by cases z:Jt (gA ms b);exact z;exact absurd z c3];refine Je ?_;refine ⟨_,rfl,_,rfl,?_⟩;have hno:¬ (ms.getD (ms.length-1) 0=0\/Jt (gA ms a)=true\/Jt (gA ms b)=true):=λz=>z.elim c1 λz=>z.elim c2 c3;by_cases c4:gA ms a=b
   ·rw [decide_eq_true c4];obtain ⟨_,_,o,e1⟩:=id he;refine G9 ⟨_,rfl,e,_,rfl,.inr ⟨o,s23 _ _ e1⟩,?_⟩;exact Je (hk _ _ ⟨by rw [decide_eq_true c4],s23,hno⟩)
   ·rw [decide_eq_false c4];refine Je (Je ?_);exact hk _ _ ⟨by rw [decide_eq_false c4],s23,hno⟩
  rintro σ'' H2 ⟨rfl,s2,hno⟩;have hm2:=s2 _ _ hm;have he2:=he.same s2;refine ⟨_,rfl,_,rfl,_,rfl,m,e,ms,a,s,t,rfl,SqT.of hm2,a0,by lia,he2,?_⟩;refine ⟨_,rfl,_,rfl,_,rfl,m,e,ms,b,s,t,rfl,SqT.of hm2,by lia,by lia,he2,?_⟩;refine ⟨_,rfl,m,_,rfl,.inr (SqT.of hm2),λc hc=>?_⟩;have fal:=Z3 (s:=s) (t:=t) a0 (show a+1<ms.length by lia) qY;have fbl:=Z3 (s:=s) (t:=t) (show 0<=b by lia) bk qY;have ev:Of s t ms (a,b)=(if gA ms a=b\/(Vi s t ms a<0/\Vi s t ms b<0) then (if (pC s t ms (a,b)).any GS=true then none else some ((pC s t ms (a,b)).set (ms.length-1) 0)) else some (pC s t ms (a,b))):=by
   unfold Of;rw [if_neg hno]
  rw [ev] at qn qs;clear ev ret;have hpc:pC s t ms (a,b)=if gA ms a=b then (ms.set a.toNat (-1)).set b.toNat (-1) else pW1 ms (a,b) (Vi s t ms a) (Vi s t ms b):=rfl
  rw [hpc] at qn qs;clear hpc;generalize hfa:Vi s t ms a=fa at *;generalize hfb:Vi s t ms b=fb at *;have hmc:Same H' (upd H2 c (.lst (ms.map V.int))):=s2.put (s2.free hc);have hc0:H' c=none:=s2.free hc
  try dsimp only [GG]
  refine ⟨_,rfl,_,rfl,c,_,a,_,rfl,rfl,Gb,OL a0 (by rw [List.length_map];lia),?_⟩;rw [Ox,map_set];refine ⟨_,rfl,_,rfl,c,_,b,_,rfl,rfl,Gb,OL (by lia) (by rw [List.length_map,List.length_set];lia),?_⟩;rw [Ox,map_set];dsimp only;obtain ⟨c3,hc3,l3⟩:∃c3,(if gA ms a=b then (ms.set a.toNat (-1)).set b.toNat (-1) else pW1 ms (a,b) fa fb)=c3/\c3.length=ms.length:=⟨_,rfl,by
   split
   ·simp only [List.length_set]
   ·unfold pW1;dsimp only;split <;> split <;> simp only [List.length_set]⟩
  rw [hc3] at qn qs;refine Jn (λσ' H3=>σ'=[some (.ref m),some (.ref r),some (.ref e),some (.int a),some (.int b),some (.bl (decide (gA ms a=b))),some (.int fa),some (.int fb),some (.ref c)]/\H3=upd H2 c (.lst ((if gA ms a=b then (ms.set a.toNat (-1)).set b.toNat (-1) else if 0<=fa then ((ms.set a.toNat (-1)).set b.toNat (-1)).set fa.toNat fb else (ms.set a.toNat (-1)).set b.toNat (-1)).map V.int))) ?g2 ?g1
  case g1=>
   intro hk;by_cases c4:gA ms a=b
   ·rw [decide_eq_true c4] at hk ⊢;rw [if_pos c4] at hk;exact ⟨_,rfl,_,rfl,Je (Je (hk _ _ ⟨rfl,rfl⟩))⟩
   rw [decide_eq_false c4] at hk ⊢;rw [if_neg c4] at hk;refine ⟨_,rfl,_,rfl,G9 ⟨_,rfl,_,_,rfl,rfl,_,rfl,?_⟩⟩;by_cases z:0<=fa
   ·rw [decide_eq_true z];refine G9 ⟨_,rfl,_,rfl,_,rfl,c,_,fa,_,rfl,rfl,Gb,OL z (by rw [List.length_map,List.length_set,List.length_set];lia),?_⟩;rw [Ox,map_set];exact hk _ _ ⟨rfl,by rw [if_pos z]⟩
   ·rw [decide_eq_false z];exact Je (hk _ _ ⟨rfl,by rw [if_neg z]⟩)
  rintro σ' H3 ⟨rfl,rfl⟩;have l2:(if gA ms a=b then (ms.set a.toNat (-1)).set b.toNat (-1) else if 0<=fa then ((ms.set a.toNat (-1)).set b.toNat (-1)).set fa.toNat fb else (ms.set a.toNat (-1)).set b.toNat (-1)).length=ms.length:=by split <;> (try split) <;> simp only [List.length_set]
  refine Jn (λσ' H3=>σ'=[some (.ref m),some (.ref r),some (.ref e),some (.int a),some (.int b),some (.bl (decide (gA ms a=b))),some (.int fa),some (.int fb),some (.ref c)]/\H3=upd H2 c (.lst (c3.map V.int))) ?h2 ?h1
  case h1=>
   intro hk;rw [<-hc3] at hk;by_cases c4:gA ms a=b
   ·rw [decide_eq_true c4] at hk ⊢;rw [if_pos c4] at hk ⊢;exact ⟨_,rfl,_,rfl,Je (Je (hk _ _ ⟨rfl,rfl⟩))⟩
   rw [decide_eq_false c4] at hk ⊢;rw [if_neg c4] at hk l2 ⊢;refine ⟨_,rfl,_,rfl,G9 ⟨_,rfl,_,_,rfl,rfl,_,rfl,?_⟩⟩;by_cases z:0<=fb
   ·rw [decide_eq_true z];refine G9 ⟨_,rfl,_,rfl,_,rfl,c,_,fb,_,rfl,rfl,Gb,OL z (by rw [List.length_map,l2];lia),?_⟩;rw [Ox,map_set];exact hk _ _ ⟨rfl,by unfold pW1;dsimp only;rw [if_pos z]⟩
   ·rw [decide_eq_false z];exact Je (hk _ _ ⟨rfl,by unfold pW1;dsimp only;rw [if_neg z]⟩)
  rintro σ' H3 ⟨rfl,rfl⟩;clear hc3;have sc:∀ys,Same H' (upd H2 c ys):=λys=>s2.put hc0;have fin:∀(H4:Hp)(m':List Int),Same H' H4->H4 c=some (.lst (m'.map V.int))->m'.length=ms.length->(if gA ms a=b\/(fa<0/\fb<0) then (if c3.any GS=true then none else some (c3.set (ms.length-1) 0)) else some c3)=some m'->∀T,H4 T=none->Q (.ref T) (upd H4 T (.tup (m'.map V.int))):=λH4 m' s4 e4 _ em T hT=>qs T m' _ (s4.put (s4.free hT)) (s4.free hT) Gb em;refine Jn (λσ' H4=>∃m':List Int,σ'=[some (.ref m),some (.ref r),some (.ref e),some (.int a),some (.int b),some (.bl (decide (gA ms a=b))),some (.int fa),some (.int fb),some (.ref c)]/\Same H' H4/\H4 c=some (.lst (m'.map V.int))/\m'.length=ms.length/\(if gA ms a=b\/(fa<0/\fb<0) then (if c3.any GS=true then none else some (c3.set (ms.length-1) 0)) else some c3)=some m') ?k2 ?k1
  case k2=>
   rintro σ' H4 ⟨m',rfl,s4,e4,l4,em⟩;exact ⟨_,rfl,c,_,rfl,.inl ⟨SqL.of e4,λT hT=>fin H4 m' s4 e4 l4 em T hT⟩⟩
  case k1=>
   intro hk;have notb:¬ (gA ms a=b\/(fa<0/\fb<0))->∃m':List Int,[some (V.ref m),some (.ref r),some (.ref e),some (.int a),some (.int b),some (.bl (decide (gA ms a=b))),some (.int fa),some (.int fb),some (.ref c)]=[some (.ref m),some (.ref r),some (.ref e),some (.int a),some (.int b),some (.bl (decide (gA ms a=b))),some (.int fa),some (.int fb),some (.ref c)]/\Same H' (upd H2 c (.lst (c3.map V.int)))/\upd H2 c (.lst (c3.map V.int)) c=some (.lst (m'.map V.int))/\m'.length=ms.length/\(if gA ms a=b\/(fa<0/\fb<0) then (if c3.any GS=true then none else some (c3.set (ms.length-1) 0)) else some c3)=some m':=
    λz=>⟨c3,rfl,sc _,Gb,l3,by rw [if_neg z]⟩
   by_cases c4:gA ms a=b
   ·rw [decide_eq_true c4];rw [decide_eq_true c4] at hk;rw [decide_eq_true c4] at notb;refine ⟨_,rfl,_,rfl,G9 (G9 ?_)⟩;have zc:gA ms a=b\/(fa<0/\fb<0):=.inl c4;rw [if_pos zc] at qn;refine ⟨_,rfl,c,rfl,⟨_,SqL.of Gb⟩,λD hD=>?_⟩;have ecD:c≠D:=λz=>by rw [<-z,Gb] at hD;cases hD
    refine GH (K:=K) (a:=c) (xs:=c3.map V.int) (λi ys H4=>Same (upd H2 c (.lst (c3.map V.int))) H4/\H4 D=some (.lst ys)/\ys=((c3.take i).map GS).map V.bl) ⟨Same.new hD,Gb,rfl⟩ (λi ys H4 _ ⟨s4,_⟩=>SqL.of (s4 _ _ Gb)) ?_ ?_
    ·rintro i x ys H4 hxi ⟨s4,hD4,rfl⟩;have hi:i<(c3.map V.int).length:=(List.getElem?_eq_some_iff.mp hxi).1;rw [List.length_map] at hi;rw [List.getElem?_map] at hxi;cases y:c3[i]? with
     | none=>rw [y] at hxi;cases hxi
     | some x1=>
      rw [y] at hxi;cases hxi;refine ⟨trivial,?_⟩;unfold YT;refine G9 ?_;refine ⟨_,rfl,x1,rfl,λH5 s5=>⟨s5 _ _ hD4,by rw [List.length_map,List.length_map,List.length_take];lia,(s4.trans s5).put hD,Gb,?_⟩⟩;rw [List.take_add_one,y,List.map_append,List.map_append]
      rfl
    ·rintro ys H4 ⟨s4,hD4,rfl⟩;rw [List.length_map,List.take_length] at hD4;refine ⟨D,_,rfl,SqL.of hD4,_,rfl,?_⟩;rw [List.any_map,show (id∘GS)=GS from rfl];have s04:=(sc (.lst (c3.map V.int))).trans s4;by_cases z3:c3.any GS=true
     ·rw [z3];exact G9 (qn _ s04 (by rw [if_pos z3]))
     ·rw [show c3.any GS=false from by cases y:c3.any GS;rfl;exact absurd y z3];refine Je ?_;refine ⟨_,rfl,_,rfl,c,_,-1,ms.length-1,rfl,rfl,s4 _ _ Gb,?_,?_⟩
      ·unfold ixN;rw [if_neg (by decide),List.length_map,l3,if_pos (by lia)]
       congr 1
       lia
      ·rw [map_set];exact hk _ _ ⟨_,rfl,s04.put hc0,Gb,by rw [List.length_set,l3],by rw [if_pos zc,if_neg z3]⟩
   rw [decide_eq_false c4];rw [decide_eq_false c4] at hk;rw [decide_eq_false c4] at notb;refine ⟨_,rfl,_,rfl,Je ⟨_,rfl,_,_,rfl,rfl,_,rfl,?_⟩⟩;by_cases z1:fa<0
   ·rw [decide_eq_true z1];refine G9 ⟨_,rfl,_,_,rfl,rfl,_,rfl,?_⟩;by_cases z2:fb<0
    ·rw [decide_eq_true z2];refine G9 ?_;have zc:gA ms a=b\/(fa<0/\fb<0):=.inr ⟨z1,z2⟩;rw [if_pos zc] at qn;refine ⟨_,rfl,c,rfl,⟨_,SqL.of Gb⟩,λD hD=>?_⟩;have ecD:c≠D:=λz=>by rw [<-z,Gb] at hD;cases hD
     refine GH (K:=K) (a:=c) (xs:=c3.map V.int) (λi ys H4=>Same (upd H2 c (.lst (c3.map V.int))) H4/\H4 D=some (.lst ys)/\ys=((c3.take i).map GS).map V.bl) ⟨Same.new hD,Gb,rfl⟩ (λi ys H4 _ ⟨s4,_⟩=>SqL.of (s4 _ _ Gb)) ?_ ?_
     ·rintro i x ys H4 hxi ⟨s4,hD4,rfl⟩;have hi:i<(c3.map V.int).length:=(List.getElem?_eq_some_iff.mp hxi).1;rw [List.length_map] at hi;rw [List.getElem?_map] at hxi;cases y:c3[i]? with
      | none=>rw [y] at hxi;cases hxi
      | some x1=>
       rw [y] at hxi;cases hxi;refine ⟨trivial,?_⟩;unfold YT;refine G9 ?_;refine ⟨_,rfl,x1,rfl,λH5 s5=>⟨s5 _ _ hD4,by rw [List.length_map,List.length_map,List.length_take];lia,(s4.trans s5).put hD,Gb,?_⟩⟩;rw [List.take_add_one,y,List.map_append,List.map_append]
       rfl
     ·rintro ys H4 ⟨s4,hD4,rfl⟩;rw [List.length_map,List.take_length] at hD4;refine ⟨D,_,rfl,SqL.of hD4,_,rfl,?_⟩;rw [List.any_map,show (id∘GS)=GS from rfl];have s04:=(sc (.lst (c3.map V.int))).trans s4;by_cases z3:c3.any GS=true
      ·rw [z3];exact G9 (qn _ s04 (by rw [if_pos z3]))
      ·rw [show c3.any GS=false from by cases y:c3.any GS;rfl;exact absurd y z3];refine Je ?_;refine ⟨_,rfl,_,rfl,c,_,-1,ms.length-1,rfl,rfl,s4 _ _ Gb,?_,?_⟩
       ·unfold ixN;rw [if_neg (by decide),List.length_map,l3,if_pos (by lia)]
        congr 1
        lia
       ·rw [map_set];exact hk _ _ ⟨_,rfl,s04.put hc0,Gb,by rw [List.length_set,l3],by rw [if_pos zc,if_neg z3]⟩
    ·rw [decide_eq_false z2];exact Je (hk _ _ (notb λy=>y.elim c4 λy=>z2 y.2))
   ·rw [decide_eq_false z1];exact Je (Je (hk _ _ (notb λy=>y.elim c4 λy=>z1 y.1)))
end
end M
namespace M
open PySem L2
section
variable {P:Program}{w:World}{K:W.Frag}{mg:Str->Option Value}{base:Heap}
def Zdu:Sp:=λvs H Q _=>∃(m a b:Addr)(ms L N:List Int),vs=[.ref m,.ref a,.ref b]/\H m=some (.tup (ms.map V.int))/\H a=some (.lst (L.map V.int))/\H b=some (.lst (N.map V.int))/\(∀p∈L,0<=p/\p<(ms.length:Int))/\(∀p∈N,0<=p/\p<(ms.length:Int))/\L.length<=100/\N.length<=100/\ms.length<=1000 /\
 (∀H':Hp,Same H H'->WV ms L N=none->Q .non H')/\(∀(T:Addr)(m':List Int)(H':Hp),Same H H'->H' T=some (.tup (m'.map V.int))->WV ms L N=some m'->Q (.ref T) H')
theorem scLb:Gs ["marks", "leaving", "needed", "place", "changed"] ["marks", "leaving", "needed"] (Gc sLb):=⟨rfl,rfl,rfl,by decide +kernel,rfl,by decide +kernel,by decide +kernel⟩
theorem Yh (L:List Int):(L.map V.int).isEmpty=decide (L=[]):=by cases L <;> rfl
theorem Zdv {f fIl fIm:Addr}{fd fdIl fdIm:FuncData}(F:Fun K "left_behind" "left_behind" sLb f fd)(FIl:Fun K "is_loose" "is_loose" sIl fIl fdIl)(bIl:Binds K fdIl ["mark"] [])(mIl:mg "is_loose" = some (.ref fIl))(GIl:GL P w K mg base CX0 1 fIl fdIl ["mark"] (VE GS))(FIm:Fun K "is_met" "is_met" sIm fIm fdIm)(bIm:Binds K fdIm ["mark"] [])(mIm:mg "is_met" = some (.ref fIm))(GIm:GL P w K mg base CX0 1 fIm fdIm ["mark"] (VE OQ)){u2:Tok}(mFREE:mg "FREE" = some (.int (-2) u2))(mLst:mg "list" = none)(mAny:mg "any" = none)(mAll:mg "all" = none)(mTup:mg "tuple" = none):GL P w K mg base CX0 2 f fd ["marks", "leaving", "needed"] Zdu:=by
 refine F.ok scLb (λvs H Q E h=>?_) (λcdv A outer s0 H vs Q E hr h=>?_)
 ·obtain ⟨_,_,_,_,_,_,rfl,_⟩:=h
  rfl
 ·obtain ⟨m,a,b,ms,L,N,rfl,hm,ha,hb,lr,nr,l100,n100,m1000,qn,qs⟩:=h;have h16:(16777216:Nat)=sizeLine:=sizeLine_eq.symm;refine ⟨_,Gd (GW (JW (JE (pv 1) (λ_=>rfl))) (Gf (Gu (pv 0))) Gy)
    (Gd (GW (PW.pt (Oz (Jv (GA (Zd5 K rfl) rfl mAny Wb (Ga (Jm (own:=["place"]) rfl (Gj (fr:=[("marks", 0)]) [(".0", .local),("place", .local),("is_loose", .globalImplicit),("marks", .cell)] rfl rfl (by decide +kernel) rfl (by decide +kernel) ⟨rfl,trivial⟩ ⟨λh=>GN h,λh=>GN h,λh=>GN h,λ_=>⟨_,rfl⟩,trivial⟩ ⟨⟨rfl,.inl rfl,.inl rfl⟩,trivial⟩) (JM K (pv 1)) (λ_ _ _ _=>Gi (i:=0) (show List.Nodup (["place", "marks"]:List Str) by decide +kernel) rfl (Or.inl rfl)) (λ_ _ _ _=>Ja) (λ_ _ _ _=>Gk GIl (hr.mono (by decide)) rfl mIl FIl.kp bIl .nil GM (Ga (G3 (OP K) (pv 1) (pv 0) (λ_ _=>rfl)) Ge))) Ge))) (Og (JW (Jv (GA (ZeD K rfl) rfl mAll VZ (Ga (Jm (own:=["place"]) rfl (Gj (fr:=[("marks", 0)]) [(".0", .local),("place", .local),("is_met", .globalImplicit),("marks", .cell)] rfl rfl (by decide +kernel) rfl (by decide +kernel) ⟨rfl,trivial⟩ ⟨λh=>GN h,λh=>GN h,λh=>GN h,λ_=>⟨_,rfl⟩,trivial⟩ ⟨⟨rfl,.inl rfl,.inl rfl⟩,trivial⟩) (JM K (pv 2)) (λ_ _ _ _=>Gi (i:=0) (show List.Nodup (["place", "marks"]:List Str) by decide +kernel) rfl (Or.inl rfl)) (λ_ _ _ _=>Ja) (λ_ _ _ _=>Gk GIm (hr.mono (by decide)) rfl mIm FIm.kp bIm .nil GM (Ga (G3 (OP K) (pv 1) (pv 0) (λ_ _=>rfl)) Ge))) Ge))))))) (Gf (Gu Ju)) Gy)
    (Gd (Gq (i:=4) scLb.nd rfl (Or.inl rfl) (G5 (Vo K) rfl mLst J1 (Ga (pv 0) Ge)))
    (Gd (GX PassesOwn.never rfl (JM K (pv 1)) (Gi (i:=3) scLb.nd rfl (Or.inl rfl))
    (Gf (Oh (GP (v:=.int (-2)) rfl mFREE ⟨_,rfl⟩) (OS (pv 4) (pv 3) JF))))
    (Gf (Gu (G5 (XZ K) rfl mTup JI (Ga (pv 4) Ge))))))),?_⟩
  refine ⟨_,rfl,!(L.map V.int).isEmpty,.inl ⟨_,SqL.of ha,rfl⟩,?_⟩;show if (!!(L.map V.int).isEmpty)=true then _ else _
  rw [Bool.not_not,Yh];unfold WV at qn qs;by_cases h0:L=[]
  ·rw [decide_eq_true h0];refine G9 ⟨_,rfl,?_⟩;rw [if_pos h0] at qs;exact qs m ms H (Same.refl _) hm rfl
  rw [decide_eq_false h0];refine Je ?_;rw [if_neg h0] at qn qs;dsimp only [Zad];refine Jn (λσ' H'=>σ'=[some (.ref m),some (.ref a),some (.ref b),none,none]/\Same H H'/\¬ ((L.any λp=>GS (gA ms p))=true\/(N.all λp=>OQ (gA ms p))=false)) ?g2 ?g1
  case g1=>
   intro hk;refine ⟨_,rfl,a,rfl,⟨_,SqL.of ha⟩,λD hD=>?_⟩;refine GH (K:=K) (a:=a) (xs:=L.map V.int) (λi ys H2=>Same H H2/\H2 D=some (.lst ys)/\ys=((L.take i).map λp=>GS (gA ms p)).map V.bl) ⟨Same.new hD,Gb,rfl⟩ (λi ys H2 _ ⟨s2,_⟩=>SqL.of (s2 _ _ ha)) ?_ ?_
   ·rintro i x ys H2 hxi ⟨s2,hD2,rfl⟩;have hi:i<(L.map V.int).length:=(List.getElem?_eq_some_iff.mp hxi).1;rw [List.length_map] at hi;rw [List.getElem?_map] at hxi;cases y:L[i]? with
    | none=>rw [y] at hxi;cases hxi
    | some p=>
     rw [y] at hxi;cases hxi;obtain ⟨p0,p1⟩:=lr p (List.mem_of_getElem? y);refine ⟨⟨rfl,trivial⟩,?_⟩;unfold YT;refine G9 ?_;refine ⟨_,rfl,_,rfl,m,_,_,_,rfl,rfl,SqT.of (s2 _ _ hm),Ji p0 p1,_,rfl,λH5 s5=>⟨s5 _ _ hD2,by rw [List.length_map,List.length_map,List.length_take];lia,(s2.trans s5).put hD,Gb,?_⟩⟩;rw [List.take_add_one,y,List.map_append,List.map_append]
     rfl
   rintro ys H2 ⟨s2,hD2,rfl⟩;rw [List.length_map,List.take_length] at hD2;refine ⟨D,_,rfl,SqL.of hD2,_,rfl,?_⟩;rw [List.any_map];by_cases z1:(L.any λp=>GS (gA ms p))=true
   ·rw [show L.any (id∘λp=>GS (gA ms p))=true from z1];exact G9 (G9 (qn _ s2 (by rw [if_pos (.inl z1)])))
   rw [show L.any (id∘λp=>GS (gA ms p))=false from by cases y:(L.any λp=>GS (gA ms p));exact y;exact absurd y z1];refine Je ?_;refine ⟨_,rfl,b,rfl,⟨_,SqL.of (s2 _ _ hb)⟩,λD2 hD'=>?_⟩;refine GH (K:=K) (a:=b) (xs:=N.map V.int) (λi ys H3=>Same H2 H3/\H3 D2=some (.lst ys)/\ys=((N.take i).map λp=>OQ (gA ms p)).map V.bl) ⟨Same.new hD',Gb,rfl⟩ (λi ys H3 _ ⟨s3,_⟩=>SqL.of (s3 _ _ (s2 _ _ hb))) ?_ ?_
   ·rintro i x ys H3 hxi ⟨s3,hD3,rfl⟩;have hi:i<(N.map V.int).length:=(List.getElem?_eq_some_iff.mp hxi).1;rw [List.length_map] at hi;rw [List.getElem?_map] at hxi;cases y:N[i]? with
    | none=>rw [y] at hxi;cases hxi
    | some p=>
     rw [y] at hxi;cases hxi;obtain ⟨p0,p1⟩:=nr p (List.mem_of_getElem? y);refine ⟨⟨rfl,trivial⟩,?_⟩;unfold YT;refine G9 ?_;refine ⟨_,rfl,_,rfl,m,_,_,_,rfl,rfl,SqT.of (s3 _ _ (s2 _ _ hm)),Ji p0 p1,_,rfl,λH5 s5=>⟨s5 _ _ hD3,by rw [List.length_map,List.length_map,List.length_take];lia,(s3.trans s5).put hD',Gb,?_⟩⟩;rw [List.take_add_one,y,List.map_append,List.map_append]
     rfl
   rintro ys H3 ⟨s3,hD3,rfl⟩;rw [List.length_map,List.take_length] at hD3;refine ⟨D2,_,rfl,SqL.of hD3,_,rfl,?_⟩;rw [List.all_map];cases z2:(N.all λp=>OQ (gA ms p)) with
   | false=>
    rw [show N.all (id∘λp=>OQ (gA ms p))=false from z2];exact G9 (qn _ (s2.trans s3) (by rw [if_pos (.inr z2)]))
   | true=>
    rw [show N.all (id∘λp=>OQ (gA ms p))=true from z2];exact Je (hk _ _ ⟨rfl,s2.trans s3,λy=>y.elim z1 (λy=>by rw [z2] at y;cases y)⟩)
  rintro σ' H1 ⟨rfl,s1,hno⟩;have hno':¬ ((L.any λp=>GS (gA ms p))=true\/(N.all λp=>OQ (gA ms p))=false):=hno;rw [if_neg hno'] at qs;refine ⟨_,rfl,m,_,rfl,.inr (SqT.of (s1 _ _ hm)),λc hc=>?_⟩;have hc0:H c=none:=s1.free hc;have s2:=s1.put (o:=.lst (ms.map V.int)) hc0;have ha2:=s2 _ _ ha;have hac:a≠c:=Gh (s1 _ _ ha) hc;refine ⟨_,rfl,a,rfl,⟨_,SqL.of ha2⟩,?_⟩;refine Jk (K:=K) (a:=a) (xs:=L.map V.int) (λi σ H3=>∃v3:Option V,σ=[some (.ref m),some (.ref a),some (.ref b),v3,some (.ref c)]/\Same H H3/\H3 c=some (.lst (((L.take i).foldl (λm p=>m.set p.toNat (-2)) ms).map V.int))/\((L.take i).foldl (λm p=>m.set p.toNat (-2)) ms).length=ms.length) ⟨none,rfl,s2,Gb,rfl⟩ (λi σ H3 _ ⟨_,_,s3,_⟩=>SqL.of (s3 _ _ ha)) ?_ ?_
  ·rintro i x σ H3 hxi ⟨v3,rfl,s3,e3,l3⟩;rw [List.getElem?_map] at hxi;cases y:L[i]? with
   | none=>rw [y] at hxi;cases hxi
   | some p=>
    rw [y] at hxi;cases hxi;obtain ⟨p0,p1⟩:=lr p (List.mem_of_getElem? y);refine ⟨_,rfl,_,rfl,c,_,p,_,rfl,rfl,e3,OL p0 (by rw [List.length_map,l3];lia),?_⟩;rw [map_set];refine ⟨_,rfl,s3.put hc0,?_,?_⟩
    ·rw [Gb,List.take_add_one,y,List.foldl_append]
     rfl
    ·rw [List.take_add_one,y,List.foldl_append];show (List.set _ _ _).length=_;rw [List.length_set,l3]
  ·rintro σ H3 ⟨v3,rfl,s3,e3,l3⟩;rw [List.length_map,List.take_length] at e3;refine ⟨_,rfl,c,_,rfl,.inl ⟨SqL.of e3,λT hT=>?_⟩⟩;exact qs T _ _ (s3.put (s3.free hT)) Gb rfl
structure StepAt (H:Hp)(x:V)(rs:List (Int×Int))(s t:Int)(j:Nat):Prop where
 ex:∃T r lv nd:Addr,x=.ref T/\H T=some (.tup [.ref r,.ref lv,.ref nd])/\H r=some (.tup [.int (rs.getD j (0,0)).1,.int (rs.getD j (0,0)).2])/\H lv=some (.lst ((Uy rs j).map V.int))/\H nd=some (.lst ((ZcM s t (Uy rs j)).map V.int))
theorem StepAt.same {H H':Hp}{x:V}{rs:List (Int×Int)}{s t:Int}{j:Nat}(h:StepAt H x rs s t j)(q:Same H H'):StepAt H' x rs s t j:=by
 obtain ⟨T,r,lv,nd,e,h1,h2,h3,h4⟩:=h.ex;exact ⟨T,r,lv,nd,e,q _ _ h1,q _ _ h2,q _ _ h3,q _ _ h4⟩
structure Zd9 (rs:List (Int×Int))(j:Nat)(ms:List Int):Prop where
 lt:j<rs.length
 rd:0<=(rs.getD j (0,0)).1/\(rs.getD j (0,0)).1<(rs.getD j (0,0)).2/\(rs.getD j (0,0)).2+1<(ms.length:Int)
 al:∀q∈ms,q+1<(ms.length:Int)
 le:ms.length<=1000
def Zea:Sp:=λvs H Q _=>∃(m e:Addr)(x:V)(ms:List Int)(rs:List (Int×Int))(s t:Int)(j:Nat)(ch:Bool),vs=[.ref m,x,.ref e,.bl ch]/\H m=some (.tup (ms.map V.int))/\StepAt H x rs s t j/\EndD H e s t/\Zd9 rs j ms /\
 (∀H':Hp,Same H H'->Yg rs s t ms j ch=none->Q .non H')/\(∀(T:Addr)(m':List Int)(H':Hp),Same H H'->H' T=some (.tup (m'.map V.int))->Yg rs s t ms j ch=some m'->Q (.ref T) H')
theorem scDe:Gs ["marks", "step", "ends", "chosen", "road", "leaving", "needed", "taken"] ["marks", "step", "ends", "chosen"] (Gc sDe):=⟨rfl,rfl,rfl,by decide +kernel,rfl,by decide +kernel,by decide +kernel⟩
theorem Zt {rs:List (Int×Int)}{j:Nat}{n:Int}(h:0<=(rs.getD j (0,0)).1/\(rs.getD j (0,0)).1<(rs.getD j (0,0)).2/\(rs.getD j (0,0)).2+1<n):(∀p∈Uy rs j,0<=p/\p<n)/\(Uy rs j).length<=2:=by
 unfold Uy;refine ⟨λp hp=>?_,List.length_filter_le _ _⟩;rcases List.mem_cons.mp (List.mem_filter.mp hp).1 with z | z
 ·lia
 ·rcases List.mem_cons.mp z with z | z
  ·lia
  ·cases z
theorem pC_len {s t:Int}{ms:List Int}{r:Int×Int}:(pC s t ms r).length=ms.length:=by
 unfold pC;split
 ·simp only [List.length_set]
 ·unfold pW1;dsimp only;split <;> split <;> simp only [List.length_set]
theorem Zu {s t:Int}{ms m':List Int}{r:Int×Int}(h:Of s t ms r=some m'):m'.length=ms.length:=by
 unfold Of at h;split at h
 ·cases h
 ·split at h
  ·split at h
   ·cases h
   ·cases h;rw [List.length_set,pC_len]
  ·cases h;exact pC_len
theorem Zdw {f fWr fLb:Addr}{fd fdWr fdLb:FuncData}(F:Fun K "decided" "decided" sDe f fd)(FWr:Fun K "with_road" "with_road" sWr fWr fdWr)(bWr:Binds K fdWr ["marks", "road", "ends"] [])(mWr:mg "with_road" = some (.ref fWr))(GWr:GL P w K mg base CX0 2 fWr fdWr ["marks", "road", "ends"] Zd8)(FLb:Fun K "left_behind" "left_behind" sLb fLb fdLb)(bLb:Binds K fdLb ["marks", "leaving", "needed"] [])(mLb:mg "left_behind" = some (.ref fLb))(GLb:GL P w K mg base CX0 2 fLb fdLb ["marks", "leaving", "needed"] Zdu):GL P w K mg base CX0 3 f fd ["marks", "step", "ends", "chosen"] Zea:=by
 refine F.ok scDe (λvs H Q E h=>?_) (λcdv A outer s0 H vs Q E hr h=>?_)
 ·obtain ⟨_,_,_,_,_,_,_,_,_,rfl,_⟩:=h
  rfl
 ·obtain ⟨m,e,x,ms,rs,s,t,j,ch,rfl,hm,hs,he,ok,qn,qs⟩:=h;obtain ⟨T,r,lv,nd,rfl,h1,h2,h3,h4⟩:=hs.ex;obtain ⟨lr,ll⟩:=Zt ok.rd;have nr:(ZcM s t (Uy rs j)).length<=2:=Nat.le_trans (List.length_filter_le _ _) ll;refine ⟨_,Gd (Oh (pv 1) (Zbb K (n:=3) rfl (GE (Gi (i:=4) scDe.nd rfl (Or.inl rfl)) (GE (Gi (i:=5) scDe.nd rfl (Or.inl rfl)) (GE (Gi (i:=6) scDe.nd rfl (Or.inl rfl)) J8)))))
    (Gd (Gq (i:=7) scDe.nd rfl (Or.inl rfl) (Oo (JE (pv 3) (λ_=>rfl)) (Gk GWr (hr.mono (by decide)) rfl mWr FWr.kp bWr .nil GM (Ga (pv 0) (Ga (pv 4) (Ga (pv 2) Ge)))) (pv 0)))
    (Gf (Gu (Oo (Gr ZM (pv 7) Ju (Gw _)) Ju (Gk GLb (hr.mono (by decide)) rfl mLb FLb.kp bLb .nil GM (Ga (pv 7) (Ga (pv 5) (Ga (pv 6) Ge)))))))),?_⟩
  refine ⟨_,rfl,T,_,rfl,SqT.of h1,rfl,_,_,rfl,_,_,rfl,_,_,rfl,rfl,?_⟩
  try dsimp only [GG]
  unfold Yg at qn qs;have last:∀(T2:Addr)(m2:List Int)(H2:Hp),Same H H2->H2 T2=some (.tup (m2.map V.int))->m2.length=ms.length->(if ch=true then Of s t ms (rs.getD j (0,0)) else some ms)=some m2 ->
    Zdu [.ref T2,.ref lv,.ref nd] H2 Q E0:=λT2 m2 H2 s2 e2 l2 em=>by
   rw [em] at qn qs;exact ⟨T2,lv,nd,m2,_,_,rfl,e2,s2 _ _ h3,s2 _ _ h4,by rw [l2];exact lr,λp hp=>by rw [l2];exact lr p (List.mem_filter.mp hp).1,by lia,by lia,by rw [l2];exact ok.le,λH' s' z=>qn H' (s2.trans s') z,λT' m' H' s' e' z=>qs T' m' H' (s2.trans s') e' z⟩
  refine Jn (λσ' H'=>∃v:V,σ'=[some (.ref m),some (.ref T),some (.ref e),some (.bl ch),some (.ref r),some (.ref lv),some (.ref nd),some v]/\Same H H'/\((v=.non/\(if ch=true then Of s t ms (rs.getD j (0,0)) else some ms)=none)\/∃(T2:Addr)(m2:List Int),v=.ref T2/\H' T2=some (.tup (m2.map V.int))/\m2.length=ms.length/\(if ch=true then Of s t ms (rs.getD j (0,0)) else some ms)=some m2)) ?g2 ?g1
  case g1=>
   intro hk;refine ⟨_,rfl,_,rfl,?_⟩;cases ch with
   | true=>
    refine G9 ?_;refine ⟨_,rfl,_,rfl,_,rfl,m,r,e,ms,_,_,s,t,rfl,hm,h2,he,ok.rd.1,ok.rd.2.1,ok.rd.2.2,ok.al,ok.le,λH' s' z=>?_,λT2 m2 H' s' _ e2 z=>?_⟩
    ·exact hk _ _ ⟨_,rfl,s',.inl ⟨rfl,by rw [if_pos rfl];exact z⟩⟩
    ·exact hk _ _ ⟨_,rfl,s',.inr ⟨T2,m2,rfl,e2,Zu z,by rw [if_pos rfl];exact z⟩⟩
   | false=>
    refine Je ?_;exact ⟨_,rfl,hk _ _ ⟨_,rfl,Same.refl _,.inr ⟨m,ms,rfl,hm,rfl,by rw [if_neg Bool.false_ne_true]⟩⟩⟩
  rintro σ' H' ⟨v,rfl,s',⟨rfl,z⟩ | ⟨T2,m2,rfl,e2,l2,z⟩⟩
  ·refine ⟨_,rfl,rfl,_,rfl,G9 ?_⟩;exact qn H' s' (by rw [z];rfl)
  ·refine ⟨_,rfl,rfl,_,rfl,?_⟩;rw [decide_eq_false (by intro z;cases z)];refine Je ?_;exact ⟨_,rfl,_,rfl,_,rfl,last T2 m2 H' s' e2 l2 z⟩
end
end M
namespace M
open PySem L2
section
variable {P:Program}{w:World}{K:W.Frag}{mg:Str->Option Value}{base:Heap}
def LastD (H:Hp)(d:Addr)(rs:List (Int×Int)):Prop:=∃kvs,H d=some (.dK kvs)/\∀x:Int,GZ kvs (.inl x)=if 0<=Us rs x then some (.int (Us rs x)) else none
theorem LastD.same {H H':Hp}{d:Addr}{rs:List (Int×Int)}(h:LastD H d rs)(q:Same H H'):LastD H' d rs:=h.imp λ_ z=>⟨q _ _ z.1,z.2⟩
def Zeb:Sp:=λvs H Q _=>∃(wb l:Addr)(k:Int)(xs:List V)(rs:List (Int×Int)),vs=[.ref wb]/\WebAt H wb l k xs rs/\rs.length<=100/\∀(d:Addr)(H':Hp),Same H H'->H d=none->LastD H' d rs->Q (.ref d) H'
theorem scLr:Gs ["web", "last", "number", "road"] ["web"] (Gc sLr):=⟨rfl,rfl,rfl,by decide +kernel,rfl,by decide +kernel,by decide +kernel⟩
theorem Zdx {f:Addr}{fd:FuncData}(F:Fun K "last_roads" "last_roads" sLr f fd)(mEnum:mg "enumerate" = none):GL P w K mg base CX0 1 f fd ["web"] Zeb:=by
 refine F.ok scLr (λvs H Q E h=>?_) (λcdv A outer s0 H vs Q E hr h=>?_)
 ·obtain ⟨_,_,_,_,_,rfl,_⟩:=h
  rfl
 ·obtain ⟨wb,l,k,xs,rs,rfl,W,hx,q⟩:=h;have hu1:(A.deeper (PyProof.Rows.envOfC "last_roads" (Gc sLr) s0.heap.objs.size f cdv)).units+1<cLine:=by have:=hr.un;lia
  have h16:(16777216:Nat)=sizeLine:=sizeLine_eq.symm;have hxl:=W.p.len;refine ⟨_,Gd (Gq (i:=1) scLr.nd rfl (Or.inl rfl) V3)
    (Gd (GX PassesOwn.never rfl (ZbI K rfl mEnum (Ga (G3 (OP K) (pv 0) Gg (λ_ _=>rfl)) Ge)) (Zbb K (n:=2) rfl (GE (Gi (i:=2) scLr.nd rfl (Or.inl rfl)) (GE (Gi (i:=3) scLr.nd rfl (Or.inl rfl)) J8)))
    (Gd (JS hu1 (pv 1) (G3 (OP K) (pv 3) Gg (λ_ _=>rfl)) (pv 2) rfl)
    (Gf (JS hu1 (pv 1) (G3 (OP K) (pv 3) Gg (λ_ _=>rfl)) (pv 2) rfl))))
    (Gf (Gu (pv 1)))),?_⟩
  refine λd hd=>?_;have s1:Same H (upd H d (.dK [])):=Same.new hd;refine ⟨_,rfl,wb,_,_,_,rfl,rfl,SqT.of (s1 _ _ W.w),Jx (j:=1) rfl,l,xs,rfl,SqL.of (s1 _ _ W.l),?_⟩;refine V4 (K:=K) (a:=l) (xs:=xs) (λi σ H2=>∃(v2 v3:Option V)(kvs:List (Key×V)),σ=[some (.ref wb),some (.ref d),v2,v3]/\Same H H2/\H2 d=some (.dK kvs)/\kvs.length<=2 * i/\∀x:Int,GZ kvs (.inl x)=if 0<=Ur rs x i then some (.int (Ur rs x i)) else none)
   ⟨none,none,[],rfl,s1,Gb,Nat.zero_le _,λx=>by unfold Ur;rw [if_neg (by decide)];rfl⟩ (λi σ H2 _ ⟨_,_,_,_,s2,_⟩=>SqL.of (s2 _ _ W.l)) ?_ ?_
  ·rintro i x σ H2 T hxi ⟨v2,v3,kvs,rfl,s2,e2,len,val⟩ hT;obtain ⟨t,r,rfl,et,er⟩:=(W.same s2).p.get hxi;have hi:i<xs.length:=(List.getElem?_eq_some_iff.mp hxi).1;have s3:Same H (upd H2 T (.tup [.int (i:Nat),.ref t])):=s2.put (s2.free hT);have s23:Same H2 (upd H2 T (.tup [.int (i:Nat),.ref t])):=Same.new hT;have hdT:d≠T:=Gh e2 hT;have htd:t≠d:=GV et e2 (λz=>by cases z);refine ⟨T,_,rfl,SqT.of Gb,rfl,_,_,rfl,_,_,rfl,rfl,?_⟩;refine ⟨_,rfl,_,rfl,_,rfl,t,_,_,_,rfl,rfl,SqT.of (s23 _ _ et),Jx (j:=0) rfl,d,_,rfl,DPut.k (k:=Sum.inl r.1) (Gm e2 hdT) (by lia),?_⟩;have hl1:=G7 kvs (Sum.inl r.1) (.int (i:Nat));refine ⟨_,rfl,_,rfl,_,rfl,t,_,_,_,rfl,rfl,SqT.of (Gm (s23 _ _ et) htd),Jx (j:=1) rfl,d,_,rfl,DPut.k (k:=Sum.inl r.2) Gb (by lia),?_⟩;have hl2:=G7 (Ol kvs (Sum.inl r.1) (.int (i:Nat))) (Sum.inl r.2) (.int (i:Nat));refine ⟨_,_,_,rfl,((s3.put hd).put hd),Gb,by lia,λy=>?_⟩;rw [V1,V1,val y];have e:rs.getD i (0,0)=r:=by rw [List.getD_eq_getElem?_getD,er];rfl
   show _=if 0<=(if (rs.getD i (0,0)).1=y\/(rs.getD i (0,0)).2=y then (i:Int) else Ur rs y i) then some (V.int (if (rs.getD i (0,0)).1=y\/(rs.getD i (0,0)).2=y then (i:Int) else Ur rs y i)) else none
   rw [e];by_cases h2:y=r.2
   ·rw [if_pos (by rw [h2]),if_pos (show r.1=y\/r.2=y from .inr h2.symm),if_pos (by lia)]
   ·rw [if_neg (λz=>h2 (Sum.inl.inj z))];by_cases h1:y=r.1
    ·rw [if_pos (by rw [h1]),if_pos (show r.1=y\/r.2=y from .inl h1.symm),if_pos (by lia)]
    ·rw [if_neg (λz=>h1 (Sum.inl.inj z)),if_neg (show ¬ (r.1=y\/r.2=y) from λz=>z.elim (λz=>h1 z.symm) (λz=>h2 z.symm))]
  ·rintro σ H2 ⟨v2,v3,kvs,rfl,s2,e2,len,val⟩;rw [hxl] at val;exact ⟨_,rfl,q d H2 s2 hd ⟨kvs,e2,val⟩⟩
def Zec:Sp:=λvs H Q _=>∃(wb l e:Addr)(k:Int)(xs:List V)(rs:List (Int×Int))(s t:Int),vs=[.ref wb,.ref e]/\WebAt H wb l k xs rs/\rs.length<=100/\(∀r∈rs,0<=r.1/\r.1<r.2)/\EndD H e s t/\∀(S:Addr)(zs:List V)(H':Hp),Same H H'->H S=none->H' S=some (.lst zs)->zs.length=rs.length->(∀j x,zs[j]?=some x->StepAt H' x rs s t j)->Q (.ref S) H'
theorem scSo:Gs ["web", "needed", "last", "steps", "number", "road", "leaving"] ["web", "needed"] (Gc sSo):=⟨rfl,rfl,rfl,by decide +kernel,rfl,by decide +kernel,by decide +kernel⟩
structure StepsAt (H:Hp)(S:Addr)(zs:List V)(rs:List (Int×Int))(s t:Int):Prop where
 st:∀j x,zs[j]?=some x->∃T r lv nd:Addr,x=.ref T/\lv≠S/\nd≠S/\H T=some (.tup [.ref r,.ref lv,.ref nd])/\H r=some (.tup [.int (rs.getD j (0,0)).1,.int (rs.getD j (0,0)).2])/\H lv=some (.lst ((Uy rs j).map V.int))/\H nd=some (.lst ((ZcM s t (Uy rs j)).map V.int))
theorem StepsAt.keep {H H':Hp}{S:Addr}{zs ys:List V}{rs:List (Int×Int)}{s t:Int}(h:StepsAt H S zs rs s t)(eS:H S=some (.lst ys))(q:∀b o,b≠S->H b=some o->H' b=some o):StepsAt H' S zs rs s t:=⟨λj x hx=>by
 obtain ⟨T,r,lv,nd,e,n1,n2,h1,h2,h3,h4⟩:=h.st j x hx;exact ⟨T,r,lv,nd,e,n1,n2,q _ _ (GV h1 eS (λz=>by cases z)) h1,q _ _ (GV h2 eS (λz=>by cases z)) h2,q _ _ n1 h3,q _ _ n2 h4⟩⟩
theorem Yi {s t p:Int}:(if p=s then some (V.int (-3)) else if p=t then some (V.int (-4)) else none).isSome=decide (p=s\/p=t):=by
 by_cases h1:p=s
 ·rw [if_pos h1,decide_eq_true (.inl h1)];rfl
 ·rw [if_neg h1];by_cases h2:p=t
  ·rw [if_pos h2,decide_eq_true (.inr h2)];rfl
  ·rw [if_neg h2,decide_eq_false (λz=>z.elim h1 h2)];rfl
theorem U9 {L:List Int}{i:Nat}{p:Int}(f:Int->Bool)(h:L[i]?=some p):(L.take (i+1)).filter f=(L.take i).filter f++(if f p=true then [p] else []):=by
 rw [List.take_add_one,h,List.filter_append]
 congr 1
 show List.filter f [p]=_;rw [List.filter_cons];split <;> simp_all
theorem Zdy {f fLr:Addr}{fd fdLr:FuncData}(F:Fun K "steps_of" "steps_of" sSo f fd)(FLr:Fun K "last_roads" "last_roads" sLr fLr fdLr)(bLr:Binds K fdLr ["web"] [])(mLr:mg "last_roads" = some (.ref fLr))(GLr:GL P w K mg base CX0 1 fLr fdLr ["web"] Zeb)(mEnum:mg "enumerate" = none):GL P w K mg base CX0 2 f fd ["web", "needed"] Zec:=by
 refine F.ok scSo (λvs H Q E h=>?_) (λcdv A outer s0 H vs Q E hr h=>?_)
 ·obtain ⟨_,_,_,_,_,_,_,_,rfl,_⟩:=h
  rfl
 ·obtain ⟨wb,l,e,k,xs,rs,s,t,rfl,W,hx,gp,he,q⟩:=h;have hu1:(A.deeper (PyProof.Rows.envOfC "steps_of" (Gc sSo) s0.heap.objs.size f cdv)).units+1<cLine:=by have:=hr.un;lia
  have h16:(16777216:Nat)=sizeLine:=sizeLine_eq.symm;have hxl:=W.p.len;refine ⟨_,Gd (Gq (i:=2) scSo.nd rfl (Or.inr rfl) (Gk GLr (hr.mono (by decide)) rfl mLr FLr.kp bLr .nil GM (Ga (pv 0) Ge)))
    (Gd (Gq (i:=3) scSo.nd rfl (Or.inl rfl) (Jr Ge))
    (Gd (GX PassesOwn.never rfl (ZbI K rfl mEnum (Ga (G3 (OP K) (pv 0) Gg (λ_ _=>rfl)) Ge)) (Zbb K (n:=2) rfl (GE (Gi (i:=4) scSo.nd rfl (Or.inr rfl)) (GE (Gi (i:=5) scSo.nd rfl (Or.inl rfl)) J8)))
    (Gd (OD (i:=6) scSo.nd rfl (Or.inl rfl) (own:=["place"]) rfl (Gj (fr:=[("last", 2),("number", 4)]) [(".0", .local),("place", .local),("last", .cell),("number", .cell)] rfl rfl (by decide +kernel) rfl (by decide +kernel) ⟨rfl,rfl,trivial⟩ ⟨λh=>GN h,λh=>GN h,λ_=>⟨_,rfl⟩,λ_=>⟨_,rfl⟩,trivial⟩ ⟨⟨rfl,.inl rfl,.inl rfl⟩,⟨rfl,.inl rfl,.inl rfl⟩,trivial⟩) (ZbS K (pv 5)) (λ_ _ _ _=>Gi (i:=0) (show List.Nodup (["place", "last", "number"]:List Str) by decide +kernel) rfl (Or.inl rfl)) (λ_ _ _ _=>JG (Gr Xc (Jy hu1 (pv 1) (pv 0) (λ_ _=>rfl)) (pv 2) (Gw _))) (λ_ _ _ _=>pv 0))
    (Gf (JQ (UM PySem.F.plainAttrs_list PySem.F.slot_list_append PySem.F.type_list_append GY (pv 3) (Ga (GO (Ga (pv 5) (Ga (pv 6) (Ga (Jm (own:=["place"]) rfl (Gj (fr:=[("needed", 1)]) [(".0", .local),("place", .local),("needed", .cell)] rfl rfl (by decide +kernel) rfl (by decide +kernel) ⟨rfl,trivial⟩ ⟨λh=>GN h,λh=>GN h,λ_=>⟨_,rfl⟩,trivial⟩ ⟨⟨rfl,.inl rfl,.inl rfl⟩,trivial⟩) (JM K (pv 6)) (λ_ _ _ _=>Gi (i:=0) (show List.Nodup (["place", "needed"]:List Str) by decide +kernel) rfl (Or.inl rfl)) (λ_ _ _ _=>JG (W2 (ZS hu1 (pv 0) (pv 1)) rfl)) (λ_ _ _ _=>pv 0)) Ge)))) Ge))))))
    (Gf (Gu (pv 3))))),?_⟩
  refine ⟨_,rfl,wb,l,k,xs,rs,rfl,W,hx,λd H1 s1 hd D1=>?_⟩;refine ⟨Nat.zero_le _,λS hS=>?_⟩;have hS0:=s1.free hS;have s2:=s1.put (o:=.lst []) hS0;refine ⟨_,rfl,wb,_,_,_,rfl,rfl,SqT.of (s2 _ _ W.w),Jx (j:=1) rfl,l,xs,rfl,SqL.of (s2 _ _ W.l),?_⟩;refine V4 (K:=K) (a:=l) (xs:=xs) (λi σ H2=>∃(v4 v5 v6:Option V)(zs:List V),σ=[some (.ref wb),some (.ref e),some (.ref d),some (.ref S),v4,v5,v6]/\Same H H2/\LastD H2 d rs/\H2 S=some (.lst zs)/\zs.length=i/\StepsAt H2 S zs rs s t)
   ⟨none,none,none,[],rfl,s2,D1.same (Same.new hS),Gb,rfl,⟨λj x hx=>by simp at hx⟩⟩ (λi σ H2 _ ⟨_,_,_,_,_,s2,_⟩=>SqL.of (s2 _ _ W.l)) ?_ ?_
  ·rintro i x σ H2 T hxi ⟨v4,v5,v6,zs,rfl,s2,D2,e2,len,st⟩ hT;obtain ⟨t0,r,rfl,et,er⟩:=(W.same s2).p.get hxi;have er':rs.getD i (0,0)=r:=by rw [List.getD_eq_getElem?_getD,er];rfl
   have hi:i<xs.length:=(List.getElem?_eq_some_iff.mp hxi).1;have s23:Same H2 (upd H2 T (.tup [.int (i:Nat),.ref t0])):=Same.new hT;refine ⟨T,_,rfl,SqT.of Gb,rfl,_,_,rfl,_,_,rfl,rfl,?_⟩;generalize upd H2 T (.tup [.int (i:Nat),.ref t0])=H3 at s23 ⊢;have et3:=s23 _ _ et;have D3:=D2.same s23;refine ⟨_,rfl,t0,rfl,⟨_,SqT.of et3⟩,λD hD=>?_⟩;refine Ze (K:=K) (a:=t0) (xs:=[r.1,r.2].map V.int) (λn ys H4=>Same H3 H4/\H4 D=some (.lst ys)/\ys=(([r.1,r.2].take n).filter λp=>decide (Us rs p=(i:Int))).map V.int) ⟨Same.new hD,Gb,rfl⟩ (λn ys H4 _ ⟨s4,_⟩=>SqT.of (s4 _ _ et3)) ?_ ?_
   ·rintro n x ys H4 hxn ⟨s4,hD4,rfl⟩;rw [List.getElem?_map] at hxn;cases y:[r.1,r.2][n]? with
    | none=>rw [y] at hxn;cases hxn
    | some p=>
     rw [y] at hxn;cases hxn;have hpr:r.1=p\/r.2=p:=by
      rcases List.mem_cons.mp (List.mem_of_getElem? y) with z | z
      ·exact .inl z.symm
      ·rcases List.mem_cons.mp z with z | z
       ·exact .inr z.symm
       ·cases z
     have hge:0<=Us rs p:=by
      have:=Zs (rs:=rs) (j:=i) (by lia) (p:=p) (by rw [er'];exact hpr)
      lia
     obtain ⟨kvs,ek,val⟩:=D3.same s4;have g:DGet H4 d (.int p) (some (.int (Us rs p))):=by
      have:=DGet.k (k:=Sum.inl p) ek;rw [val p,if_pos hge] at this;exact this
     refine ⟨⟨rfl,rfl,trivial⟩,?_⟩;refine ⟨_,rfl,_,rfl,d,_,rfl,g,_,rfl,rfl,_,rfl,?_⟩;rw [JL,U9 _ y];refine OO (λz=>?_) (λz=>?_)
     ·rw [if_pos z];refine ⟨_,rfl,hD4,?_,s4.put hD,Gb,by rw [List.map_append];rfl⟩;rw [List.length_map];have:=List.length_filter_le (λp=>decide (Us rs p=(i:Int))) ([r.1,r.2].take n);rw [List.length_take] at this;simp at this
      lia
     ·rw [if_neg z,List.append_nil];exact ⟨s4,hD4,rfl⟩
   rintro ys H4 ⟨s4,hD4,rfl⟩;have lve:(([r.1,r.2].take ([r.1,r.2].map V.int).length).filter λp=>decide (Us rs p=(i:Int)))=Uy rs i:=by
    unfold Uy;rw [er']
    rfl
   rw [lve] at hD4;have ll:(Uy rs i).length<=2:=by unfold Uy;exact List.length_filter_le _ _
   have S4:=(s2.trans s23).trans s4;have e4:=(s23.trans s4) _ _ e2;have hDS:D≠S:=λz=>by rw [z] at hD;rw [s23 _ _ e2] at hD;cases hD
   have hD0:H D=none:=(s2.trans s23).free hD;refine ⟨_,rfl,.inl ⟨rfl,_,SqL.of e4⟩,_,rfl,_,rfl,_,rfl,D,rfl,⟨_,SqL.of hD4⟩,λN hN=>?_⟩;have hNS:N≠S:=λz=>by rw [z,e4] at hN;cases hN
   have hN0:H N=none:=S4.free hN;refine GH (K:=K) (a:=D) (xs:=(Uy rs i).map V.int) (λn ys H5=>Same H4 H5/\H5 N=some (.lst ys)/\ys=(((Uy rs i).take n).filter λp=>decide (p=s\/p=t)).map V.int) ⟨Same.new hN,Gb,rfl⟩ (λn ys H5 _ ⟨s5,_⟩=>SqL.of (s5 _ _ hD4)) ?_ ?_
   ·rintro n x ys H5 hxn ⟨s5,hN5,rfl⟩;rw [List.getElem?_map] at hxn;cases y:(Uy rs i)[n]? with
    | none=>rw [y] at hxn;cases hxn
    | some p=>
     rw [y] at hxn;cases hxn;refine ⟨⟨rfl,trivial⟩,?_⟩;refine ⟨_,rfl,_,rfl,e,_,rfl,(he.same (S4.trans s5)).get p (by
      have hr1:=List.mem_of_getElem? er;have:=gp r hr1;have hp:=(List.mem_filter.mp (List.mem_of_getElem? y)).1;rw [er'] at hp;rcases List.mem_cons.mp hp with z | z
      ·lia
      ·rcases List.mem_cons.mp z with z | z
       ·lia
       ·cases z),_,rfl,?_⟩
     rw [Yi,U9 _ y];refine OO (λz=>?_) (λz=>?_)
     ·rw [if_pos z];refine ⟨_,rfl,hN5,?_,s5.put hN,Gb,by rw [List.map_append];rfl⟩;rw [List.length_map];have:=List.length_filter_le (λp=>decide (p=s\/p=t)) ((Uy rs i).take n);rw [List.length_take] at this
      lia
     ·rw [if_neg z,List.append_nil];exact ⟨s5,hN5,rfl⟩
   rintro ys H5 ⟨s5,hN5,rfl⟩;rw [List.length_map,List.take_length] at hN5;refine ⟨(by show 3<=sizeLine;decide),λB hB=>?_⟩;have e5:=s5 _ _ e4;have S5:=S4.trans s5;have hSB:S≠B:=Gh e5 hB;refine ⟨S,_,_,rfl,rfl,Gm e5 hSB,by lia,?_⟩;have dS:d≠S:=by
    obtain ⟨kvs,ek,_⟩:=D2;exact GV ek e2 (λz=>by cases z)
   have up:∀(o:HO)(ys:HO) b u,b≠S->H5 b=some u->upd (upd H5 B o) S ys b=some u:=λo ys b u n z=>Gm (Gm z (Gh z hB)) n;refine ⟨_,_,_,zs++[.ref B],rfl,(S5.put (S5.free hB)).put hS0,?_,Gb,by rw [List.length_append,List.length_singleton,len],⟨λj x hx=>?_⟩⟩
   ·obtain ⟨kvs,ek,val⟩:=D3.same (s4.trans s5);exact ⟨kvs,up _ _ _ _ dS ek,val⟩
   ·rcases Nat.lt_or_ge j zs.length with hj | hj
    ·rw [List.getElem?_append_left hj] at hx;exact (((st.keep e2 λb o _ z=>(s23.trans (s4.trans s5)) b o z)).keep e5 (up _ _)).st j x hx
    ·rw [List.getElem?_append_right hj] at hx;have:j=zs.length:=by
      rcases Nat.lt_or_ge (j-zs.length) 1 with z | z
      ·lia
      ·rw [List.getElem?_eq_none (by simpa using z)] at hx;cases hx
     subst this;rw [Nat.sub_self] at hx;cases hx;rw [len,er'];refine ⟨B,t0,D,N,rfl,hDS,hNS,Gm Gb (Ne.symm hSB),?_,up _ _ _ _ hDS (s5 _ _ hD4),?_⟩
     ·exact up _ _ _ _ (GV et3 (s23 _ _ e2) (λz=>by cases z)) ((s4.trans s5) _ _ et3)
     ·exact up _ _ _ _ hNS hN5
  ·rintro σ H2 ⟨v4,v5,v6,zs,rfl,s2,D2,e2,len,st⟩;refine ⟨_,rfl,q S zs H2 s2 hS0 e2 (by lia) λj x hx=>?_⟩;obtain ⟨T,r,lv,nd,e,n1,n2,h1,h2,h3,h4⟩:=st.st j x hx;exact ⟨T,r,lv,nd,e,h1,h2,h3,h4⟩
end
end M
namespace M
open PySem L2
section
variable {P:Program}{w:World}{K:W.Frag}{mg:Str->Option Value}{base:Heap}
def Zed:Sp:=λ_ _ _ _=>False
theorem ZaW {n q:Str}{st:Stmt}{f:Addr}{fd:FuncData}(ps:List Str)(F:Fun K n q st f fd):GL P w K mg base CX0 1 f fd ps Zed:=⟨λ_ _ _ _ h=>h.elim,λ_ _ _ _ _ _ _ _ _ _ _ _ _ h=>h.elim⟩
abbrev m0 (k:Nat):List Int:=List.replicate (k+1) (-2)
def Zee:Sp:=λvs H Q _=>∃(wb l e:Addr)(k:Nat)(xs:List V)(rs:List (Int×Int)),vs=[.ref wb,.ref e]/\WebAt H wb l (k:Int) xs rs/\k<=100/\EndD H e nE nE/\∀(F T:Addr)(H':Hp),Same H H'->H F=none->H' F=some (.lst [.ref T])->H' T=some (.tup ((m0 k).map V.int))->Q (.ref F) H'
theorem ZeN:Gs ["web", "needed"] ["web", "needed"] (Gc sFm):=⟨rfl,rfl,rfl,by decide +kernel,rfl,by decide +kernel,by decide +kernel⟩
theorem Zdz {f fBe:Addr}{fd fdBe:FuncData}(F:Fun K "first_marks" "first_marks" sFm f fd)(FBe:Fun K "beside" "beside" Zb5 fBe fdBe)(bBe:Binds K fdBe ["web", "place"] [])(mBe:mg "beside" = some (.ref fBe))(GBe:GL P w K mg base CX0 1 fBe fdBe ["web", "place"] Zed){u2:Tok}(mFREE:mg "FREE" = some (.int (-2) u2))(mAll:mg "all" = none)(mTup:mg "tuple" = none):GL P w K mg base CX0 4 f fd ["web", "needed"] Zee:=by
 refine F.ok ZeN (λvs H Q E h=>?_) (λcdv A outer s0 H vs Q E hr h=>?_)
 ·obtain ⟨_,_,_,_,_,_,rfl,_⟩:=h
  rfl
 ·obtain ⟨wb,l,e,k,xs,rs,rfl,W,gk,he,q⟩:=h;have h16:(16777216:Nat)=sizeLine:=sizeLine_eq.symm;obtain ⟨_,_,o,e1⟩:=id he;refine ⟨_,Gd (GW (JW (Jv (GA (Zdg K rfl) rfl mAll VZ (Ga (Jm (own:=["place"]) rfl (Gj (fr:=[("web", 0)]) [(".0", .local),("place", .local),("beside", .globalImplicit),("web", .cell)] rfl rfl (by decide +kernel) rfl (by decide +kernel) ⟨rfl,trivial⟩ ⟨λh=>GN h,λh=>GN h,λh=>GN h,λ_=>⟨_,rfl⟩,trivial⟩ ⟨⟨rfl,.inl rfl,.inl rfl⟩,trivial⟩) (Zf (pv 1)) (λ_ _ _ _=>Gi (i:=0) (show List.Nodup (["place", "web"]:List Str) by decide +kernel) rfl (Or.inl rfl)) (λ_ _ _ _=>Ja) (λ_ _ _ _=>Gk GBe (hr.mono (by decide)) rfl mBe FBe.kp bBe .nil GM (Ga (pv 1) (Ga (pv 0) Ge)))) Ge)))) (Gf (Gu (Jr Ge))) Gy)
    (Gf (Gu (Jr (Ga (G5 (XZ K) rfl mTup JI (Ga (Gx Zby (Jr (Ga (GP (v:=.int (-2)) rfl mFREE ⟨_,rfl⟩) Ge)) (Gx GF (G3 (OP K) (pv 0) Gg (λ_ _=>rfl)) Gg)) Ge)) Ge)))),?_⟩
  refine ⟨_,rfl,e,o,[],rfl,e1,λD hD=>?_⟩;refine WK (a:=e) (o:=o) (kvs:=[]) (λi ys H2=>Same H H2/\H2 D=some (.lst ys)/\ys=[]) ⟨Same.new hD,Gb,rfl⟩ (λi ys H2 _ ⟨s2,_⟩=>s2 _ _ e1) (λi key v ys H2 hkv=>by simp at hkv) ?_;rintro ys H2 ⟨s2,hD2,rfl⟩;refine ⟨D,[],rfl,SqL.of hD2,λz hz=>(by cases hz),_,rfl,?_⟩;refine Je ?_;refine ⟨Nat.le_of_lt (by show 1<sizeLine;lia),λo1 ho1=>?_⟩;have s3:=s2.put (o:=.lst [V.int (-2)]) (s2.free ho1);have W3:=W.same s3;refine ⟨_,rfl,wb,_,_,_,rfl,rfl,SqT.of W3.w,Jx (j:=0) rfl,_,_,rfl,rfl,o1,_,_,rfl,rfl,Gb,by lia,by lia,(by show 1 * _<=_;lia),λl2 hl2=>?_⟩;refine ⟨l2,_,rfl,.inl ⟨SqL.of Gb,λT hT=>?_⟩⟩;refine ⟨Nat.le_of_lt (by show 1<sizeLine;lia),λG hG=>?_⟩;have s4:=s3.put (o:=.lst (List.replicate ((k:Int)+1).toNat [V.int (-2)]).flatten) (s3.free hl2);have s5:=s4.put (o:=.tup (List.replicate ((k:Int)+1).toNat [V.int (-2)]).flatten) (s4.free hT);have hTG:T≠G:=λz=>by rw [<-z,Gb] at hG;cases hG
  refine q G T _ (s5.put (s5.free hG)) (s5.free hG) Gb (Gm ?_ hTG);rw [Gb]
  congr 2
  have:∀n:Nat,(List.replicate n [V.int (-2)]).flatten=(List.replicate n (-2:Int)).map V.int:=λn=>by
   induction n with
   | zero=>rfl
   | succ n ih=>rw [List.replicate_succ,List.flatten_cons,ih,List.replicate_succ];rfl
  rw [this,show ((k:Int)+1).toNat=k+1 by lia]
end
end M
namespace M
open PySem L2
abbrev KI:=List (List Int×Int)
def Wj (ks:KI)(m:List Int):Option Int:=(ks.find? λp=>decide (p.1=m)).map (·.2)
def OM (ks:KI)(m:List Int)(n:Int):KI:=if (ks.any λp=>decide (p.1=m))=true then ks.map (λp=>if p.1=m then (p.1,n) else p) else ks++[(m,n)]
theorem inl_inj {a b:List Int}:a.map (Sum.inl:Int->Key)=b.map Sum.inl↔a=b:=by
 refine ⟨λh=>?_,λh=>by rw [h]⟩;have:=congrArg (List.map λx:Key=>match x with | .inl i=>i | .inr _=>0) h
 rwa [List.map_map,List.map_map,show ((λx:Key=>match x with | .inl i=>i | .inr _=>0)∘(Sum.inl:Int->Key))=id from rfl,List.map_id,List.map_id] at this
theorem Ut (ks:KI)(m:List Int):GZ (ks.map kvI) (m.map Sum.inl)=(Wj ks m).map V.int:=by
 induction ks with
 | nil=>rfl
 | cons p ks ih=>
  unfold GZ Wj at *;rw [List.map_cons,List.find?_cons,List.find?_cons];by_cases h:p.1=m
  ·rw [show decide ((kvI p).1=m.map Sum.inl)=true from decide_eq_true (by show p.1.map Sum.inl=_;rw [h]),decide_eq_true h]
   rfl
  ·rw [show decide ((kvI p).1=m.map Sum.inl)=false from decide_eq_false (λz=>h (inl_inj.mp z)),decide_eq_false h];exact ih
theorem Uu (ks:KI)(m:List Int)(n:Int):Ol (ks.map kvI) (m.map Sum.inl) (.int n)=(OM ks m n).map kvI:=by
 unfold Ol OM;have e:((ks.map kvI).any λkv=>decide (kv.1=m.map Sum.inl))=ks.any λp=>decide (p.1=m):=by
  rw [List.any_map]
  congr 1
  funext p
  exact decide_eq_decide.mpr inl_inj
 rw [e];by_cases h:(ks.any λp=>decide (p.1=m))=true
 ·rw [if_pos h,if_pos h,List.map_map,List.map_map];refine List.map_congr_left λp _=>?_;show (if p.1.map Sum.inl=m.map Sum.inl then (p.1.map Sum.inl,V.int n) else kvI p)=kvI (if p.1=m then (p.1,n) else p);by_cases z:p.1=m
  ·rw [if_pos z,if_pos (inl_inj.mpr z)]
  ·rw [if_neg z,if_neg (λy=>z (inl_inj.mp y))]
 ·rw [if_neg h,if_neg h,List.map_append]
  rfl
def Yj (ks:KI):List (List Int):=ks.flatMap λp=>List.replicate p.2.toNat p.1
structure Rep (ks:KI)(R:List (List Int)):Prop where
 nd:(ks.map (·.1)).Nodup
 pos:∀p∈ks,0<p.2
 pm:(Yj ks).Perm R
theorem Rep.perm {ks:KI}{R R':List (List Int)}(h:Rep ks R)(p:R.Perm R'):Rep ks R':=⟨h.nd,h.pos,h.pm.trans p⟩
theorem Rep.nil:Rep [] []:=⟨List.nodup_nil,by simp,.refl _⟩
theorem Wk (a b:KI):Yj (a++b)=Yj a++Yj b:=List.flatMap_append
theorem J7 (p:List Int×Int)(a:KI):Yj (p::a)=List.replicate p.2.toNat p.1++Yj a:=List.flatMap_cons
theorem Rep.put {ks:KI}{R:List (List Int)}(h:Rep ks R){m:List Int}{n:Int}(hn:0<n):Rep (OM ks m ((Wj ks m).getD 0+n)) (R++List.replicate n.toNat m):=by
 by_cases c:(ks.any λp=>decide (p.1=m))=true
 ·obtain ⟨p,hp,e⟩:=List.any_eq_true.mp c;have e:p.1=m:=of_decide_eq_true e;obtain ⟨a,b,rfl⟩:=List.append_of_mem hp;have nd:=h.nd;rw [List.map_append,List.map_cons,List.nodup_append,List.nodup_cons] at nd;obtain ⟨na,⟨nb,nb2⟩,nab⟩:=nd;have ha:∀q∈a,q.1≠m:=λq hq z=>nab q.1 (List.mem_map.mpr ⟨q,hq,rfl⟩) p.1 (List.mem_cons_self ..) (z.trans e.symm);have hb:∀q∈b,q.1≠m:=λq hq z=>nb (by rw [e,<-z];exact List.mem_map.mpr ⟨q,hq,rfl⟩);have g:Wj (a++p::b) m=some p.2:=by
   unfold Wj;rw [List.find?_append,List.find?_eq_none.mpr (λq hq=>by simpa using ha q hq),Option.none_or,List.find?_cons,decide_eq_true e]
   rfl
  have ea:a.map (λq=>if q.1=m then (q.1,p.2+n) else q)=a:=by
   conv=>rhs;rw [<-List.map_id a]
   exact List.map_congr_left λq hq=>if_neg (ha q hq)
  have eb:b.map (λq=>if q.1=m then (q.1,p.2+n) else q)=b:=by
   conv=>rhs;rw [<-List.map_id b]
   exact List.map_congr_left λq hq=>if_neg (hb q hq)
  have pp:=h.pos p hp;rw [g];show Rep (OM _ m (p.2+n)) _;unfold OM;rw [if_pos c,List.map_append,List.map_cons,ea,eb,if_pos e];refine ⟨?_,λq hq=>?_,?_⟩
  ·rw [List.map_append,List.map_cons,List.nodup_append,List.nodup_cons];exact ⟨na,⟨nb,nb2⟩,nab⟩
  ·rcases List.mem_append.mp hq with hq | hq
   ·exact h.pos q (List.mem_append_left _ hq)
   ·rcases List.mem_cons.mp hq with rfl | hq
    ·show 0<p.2+n
     lia
    ·exact h.pos q (List.mem_append_right _ (List.mem_cons_of_mem _ hq))
  ·have:=h.pm;rw [Wk,J7] at this ⊢;refine List.Perm.trans ?_ (this.append_right _);show (Yj a++(List.replicate (p.2+n).toNat p.1++Yj b)).Perm _;rw [show (p.2+n).toNat=p.2.toNat+n.toNat by lia,<-List.replicate_append_replicate,List.append_assoc,List.append_assoc,List.append_assoc,e];exact List.Perm.append_left _ (List.Perm.append_left _ List.perm_append_comm)
 ·have hm:∀q∈ks,q.1≠m:=λq hq z=>c (List.any_eq_true.mpr ⟨q,hq,decide_eq_true z⟩);have g:Wj ks m=none:=by
   unfold Wj;rw [List.find?_eq_none.mpr (λq hq=>by simpa using hm q hq)]
   rfl
  rw [g];show Rep (OM ks m (0+n)) _;rw [Int.zero_add];unfold OM;rw [if_neg c];refine ⟨?_,λq hq=>?_,?_⟩
  ·rw [List.map_append,List.nodup_append];refine ⟨h.nd,by simp,λx hx y hy z=>?_⟩;obtain ⟨q,hq,rfl⟩:=List.mem_map.mp hx;have hy:y=m:=by simpa using hy
   exact hm q hq (z.trans hy)
  ·rcases List.mem_append.mp hq with hq | hq
   ·exact h.pos q hq
   ·rw [List.mem_singleton.mp hq];exact hn
  ·rw [Wk,J7];exact h.pm.append (by show (List.replicate n.toNat m++[]).Perm _;rw [List.append_nil])
theorem Rep.mem {ks:KI}{R:List (List Int)}(h:Rep ks R){p:List Int×Int}(hp:p∈ks):p.1∈R:=by
 refine h.pm.mem_iff.mp ?_;unfold Yj;have:=h.pos p hp;exact List.mem_flatMap.mpr ⟨p,hp,List.mem_replicate.mpr ⟨by lia,rfl⟩⟩
theorem Va {ks:KI}(nd:(ks.map (·.1)).Nodup){p:List Int×Int}(hp:p∈ks):(Yj ks).count p.1=p.2.toNat:=by
 induction ks with
 | nil=>cases hp
 | cons q ks ih=>
  rw [List.map_cons,List.nodup_cons] at nd;rw [J7,List.count_append];rcases List.mem_cons.mp hp with rfl | hp
  ·rw [List.count_replicate_self,List.count_eq_zero.mpr,Nat.add_zero];intro hm;obtain ⟨r,hr,hm⟩:=List.mem_flatMap.mp hm;have:=(List.mem_replicate.mp hm).2;exact nd.1 (by rw [this];exact List.mem_map.mpr ⟨r,hr,rfl⟩)
  ·have hne:q.1≠p.1:=λz=>nd.1 (by rw [z];exact List.mem_map.mpr ⟨p,hp,rfl⟩);rw [List.count_replicate,if_neg (by simpa using hne),Nat.zero_add,ih nd.2 hp]
theorem Zv {α β:Type}(l:List α)(f g:α->List β):(l.flatMap f++l.flatMap g).Perm (l.flatMap λx=>f x++g x):=by
 induction l with
 | nil=>exact .refl _
 | cons x l ih=>
  rw [List.flatMap_cons,List.flatMap_cons,List.flatMap_cons,List.append_assoc,List.append_assoc];refine List.Perm.append_left _ ?_;refine List.Perm.trans ?_ (List.Perm.append_left _ ih);rw [<-List.append_assoc,<-List.append_assoc];exact List.perm_append_comm.append_right _
theorem Zw {α β:Type}(n:Nat)(x:α)(f:α->List β):((List.replicate n x).flatMap f).Perm ((f x).flatMap λy=>List.replicate n y):=by
 induction n with
 | zero=>simp
 | succ n ih=>
  rw [List.replicate_succ,List.flatMap_cons];refine (List.Perm.append_left _ ih).trans ?_;have h:=Zv (f x) (λy=>[y]) (λy=>List.replicate n y);rw [List.flatMap_singleton'] at h;exact h
def fS (rs:List (Int×Int))(s t:Int)(j:Nat)(m:List Int):List (List Int):=(Yg rs s t m j false).toList++(Yg rs s t m j true).toList
def RJ (rs:List (Int×Int))(k:Nat):Nat->List (List Int)
 | 0=>[m0 k]
 | j+1=>(RJ rs k j).flatMap (fS rs nE nE j)
theorem Zx (rs:List (Int×Int))(s t:Int)(j:Nat)(ks:KI):(ks.flatMap λp=>(fS rs s t j p.1).flatMap λm=>List.replicate p.2.toNat m).Perm ((Yj ks).flatMap (fS rs s t j)):=by
 induction ks with
 | nil=>exact .refl _
 | cons p ks ih=>
  rw [J7,List.flatMap_cons,List.flatMap_append];exact (Zw _ _ _).symm.append ih
section
variable {P:Program}{w:World}{K:W.Frag}{mg:Str->Option Value}{base:Heap}
def SameX (d:Addr)(H H':Hp):Prop:=∀a u,a≠d->H a=some u->H' a=some u
theorem SameX.of {d:Addr}{H H':Hp}(s:Same H H'):SameX d H H':=λa u _ e=>s a u e
theorem SameX.trans {d:Addr}{H H' H'':Hp}(a:SameX d H H')(b:SameX d H' H''):SameX d H H'':=λc u n e=>b c u n (a c u n e)
theorem VF {ks:KI}(nd:(ks.map (·.1)).Nodup){p:List Int×Int}(hp:p∈ks):Wj ks p.1=some p.2:=by
 obtain ⟨a,b,rfl⟩:=List.append_of_mem hp;rw [List.map_append,List.map_cons,List.nodup_append] at nd;unfold Wj;rw [List.find?_append,List.find?_eq_none.mpr,Option.none_or,List.find?_cons,decide_eq_true rfl]
 ·rfl
 ·intro q hq;have:=nd.2.2 q.1 (List.mem_map.mpr ⟨q,hq,rfl⟩) p.1 (List.mem_cons_self ..);simpa using this
def Zef:Sp:=λvs H Q _=>∃(d e:Addr)(x:V)(ks:KI)(rs:List (Int×Int))(s t:Int)(j:Nat)(R:List (List Int)),vs=[.ref d,x,.ref e]/\H d=some (.dT (ks.map kvI))/\StepAt H x rs s t j/\EndD H e s t/\(∀p∈ks,Zd9 rs j p.1)/\Rep ks R/\(∃U:List (List Int),U.length<=4194304/\∀m∈R.flatMap (fS rs s t j),m∈U) /\
 ∀(d':Addr)(ks':KI)(H':Hp),SameX d H H'->H d'=none->H' d'=some (.dT (ks'.map kvI))->Rep ks' (R.flatMap (fS rs s t j))->Q (.ref d') H'
theorem scBs:Gs ["numbers", "step", "ends", "ahead", "known", "chosen", "marks"] ["numbers", "step", "ends"] (Gc sBs):=⟨rfl,rfl,rfl,by decide +kernel,rfl,by decide +kernel,by decide +kernel⟩
theorem Zb9 (rs:List (Int×Int))(s t:Int)(j:Nat)(x:List Int):(fS rs s t j x).length<=2:=by
 unfold fS;rw [List.length_append];cases Yg rs s t x j false <;> cases Yg rs s t x j true <;> simp
def YC (rs:List (Int×Int))(s t:Int)(j c:Nat)(p:List Int×Int):List (List Int):=([false,true].take c).flatMap λch=>(Yg rs s t p.1 j ch).toList.flatMap λm=>List.replicate p.2.toNat m
theorem Wl (rs:List (Int×Int))(s t:Int)(j:Nat)(p:List Int×Int):YC rs s t j 2 p=(fS rs s t j p.1).flatMap λm=>List.replicate p.2.toNat m:=by
 unfold YC fS;rw [List.flatMap_append];simp
def Yk (rs:List (Int×Int))(s t:Int)(j:Nat)(ks:KI):List (List Int):=ks.flatMap λp=>(fS rs s t j p.1).flatMap λm=>List.replicate p.2.toNat m
theorem Vb {rs:List (Int×Int)}{s t:Int}{j:Nat}{ks:KI}{R:List (List Int)}(h:Rep ks R):(Yk rs s t j ks).Perm (R.flatMap (fS rs s t j)):=(Zx rs s t j ks).trans (h.pm.flatMap_right _)
theorem Yl (rs:List (Int×Int))(s t:Int)(j:Nat)(ks:KI)(p:List Int×Int):Yk rs s t j (ks++[p])=Yk rs s t j ks++YC rs s t j 2 p:=by
 unfold Yk;rw [List.flatMap_append,Wl];simp
theorem VG (rs:List (Int×Int))(s t:Int)(j:Nat)(l:List (List Int)):(l.flatMap (fS rs s t j)).length<=2 * l.length:=by
 induction l with
 | nil=>exact Nat.le_refl _
 | cons x l ih=>
  rw [List.flatMap_cons,List.length_append,List.length_cons];have:=Zb9 rs s t j x
  lia
theorem Ym {rs:List (Int×Int)}{s t:Int}{j:Nat}{ks:KI}{R:List (List Int)}(h:Rep ks R)(i:Nat)(c:Nat)(p:List Int×Int)(hp:ks[i]?=some p)(hc:c<=2):∀m∈Yk rs s t j (ks.take i)++YC rs s t j c p,m∈Yk rs s t j ks:=by
 intro m hm;rcases List.mem_append.mp hm with hm | hm
 ·unfold Yk at hm ⊢;obtain ⟨q,hq,hm⟩:=List.mem_flatMap.mp hm;exact List.mem_flatMap.mpr ⟨q,List.mem_of_mem_take hq,hm⟩
 ·unfold Yk;refine List.mem_flatMap.mpr ⟨p,List.mem_of_getElem? hp,?_⟩;rw [<-Wl];unfold YC at hm ⊢;obtain ⟨q,hq,hm⟩:=List.mem_flatMap.mp hm;refine List.mem_flatMap.mpr ⟨q,?_,hm⟩;exact List.mem_of_mem_take hq
theorem Z4 {α:Type}[DecidableEq α]:∀{a b:List α},a.Nodup->(∀x∈a,x∈b)->a.length<=b.length
 | [],_,_,_=>Nat.zero_le _
 | x::a,b,nd,h=>by
  rw [List.nodup_cons] at nd;have hb:=h x (List.mem_cons_self ..);have:=Z4 (b:=b.erase x) nd.2 λy hy=>(List.mem_erase_of_ne (λz=>nd.1 (by rw [<-z];exact hy))).mpr (h y (List.mem_cons_of_mem _ hy));rw [List.length_erase_of_mem hb] at this;have:=List.length_pos_of_mem hb;rw [List.length_cons]
  lia
theorem Vc {ks:KI}{R U:List (List Int)}(h:Rep ks R)(hU:∀m∈R,m∈U):ks.length<=U.length:=by
 have:=Z4 (b:=U) h.nd λx hx=>by
  obtain ⟨p,hp,rfl⟩:=List.mem_map.mp hx;exact hU _ (h.mem hp)
 rwa [List.length_map] at this
theorem ZdA {f fDe:Addr}{fd fdDe:FuncData}(F:Fun K "behind_step" "behind_step" sBs f fd)(FDe:Fun K "decided" "decided" sDe fDe fdDe)(bDe:Binds K fdDe ["marks", "step", "ends", "chosen"] [])(mDe:mg "decided" = some (.ref fDe))(GDe:GL P w K mg base CX0 3 fDe fdDe ["marks", "step", "ends", "chosen"] Zea) :
  GL P w K mg base CX0 4 f fd ["numbers", "step", "ends"] Zef:=by
 refine F.ok scBs (λvs H Q E h=>?_) (λcdv A outer s0 H vs Q E hr h=>?_)
 ·obtain ⟨_,_,_,_,_,_,_,_,_,rfl,_⟩:=h
  rfl
 ·obtain ⟨d,e,x,ks,rs,s,t,j,R,rfl,hd,hx,he,hms,rep,hR,q⟩:=h;have hu1:(A.deeper (PyProof.Rows.envOfC "behind_step" (Gc sBs) s0.heap.objs.size f cdv)).units+1<cLine:=by have:=hr.un;lia
  have h16:(16777216:Nat)=sizeLine:=sizeLine_eq.symm;obtain ⟨U,hU,inU⟩:=hR;refine ⟨_,(@Gd _ _ _ _ _ (@Gq _ _ 3 _ _ _ _ scBs.nd rfl (Or.inl rfl) Ot rfl (by first | exact .inl rfl | exact .inr rfl))
    (@Gd _ _ _ _ _ (@GX _ _ _ _ _ _ _ _ PassesOwn.never rfl (Ul (pv 0)) (Gi (i:=4) scBs.nd rfl (Or.inl rfl))
    (@Gf _ _ _ (@GX _ _ _ _ _ _ _ _ PassesOwn.never rfl (ZbS K (@GO _ _ _ _ _ (@Ga _ _ _ _ _ YH (@Ga _ _ _ _ _ YH Ge rfl) rfl))) (Gi (i:=5) scBs.nd rfl (Or.inl rfl))
    (@Gd _ _ _ _ _ (@Gq _ _ 6 _ _ _ _ scBs.nd rfl (Or.inl rfl) (@Gk _ _ _ _ _ _ _ _ _ _ _ _ _ _ _ _ GDe (hr.mono (by decide)) rfl mDe FDe.kp bDe .nil GM (@Ga _ _ _ _ _ (pv 4) (@Ga _ _ _ _ _ (pv 1) (@Ga _ _ _ _ _ (pv 2) (@Ga _ _ _ _ _ (pv 5) Ge rfl) rfl) rfl) rfl) (by decide) rfl rfl) rfl (by first | exact .inl rfl | exact .inr rfl))
    (@Gf _ _ _ (@GW _ _ _ _ _ _ _ _ (Gr Xd (pv 6) Ju (Gw _)) (@Gf _ _ _ (JS hu1 (pv 3) (pv 6) (@Gx _ _ _ _ _ _ _ _ GF (Ub hu1 (pv 3) (pv 6) Gg ⟨rfl,rfl,rfl,rfl⟩) (Jy hu1 (pv 0) (pv 4) (λ_ _=>rfl))) rfl)) Gy))) (by intro _;rfl))) (by intro _;rfl))
    (@Gf _ _ _ (@Gu _ _ _ _ (pv 3))))),?_⟩
  refine λa ha=>?_;have nad:a≠d:=λz=>by rw [z,hd] at ha;cases ha
  have s1:Same H (upd H a (.dT [])):=Same.new ha;have e1:upd H a (.dT []) a=some (.dT (([]:KI).map kvI)):=Gb;have hd1:=s1 _ _ hd;generalize upd H a (.dT [])=H1 at s1 e1 hd1 ⊢;dsimp only [GG];refine ⟨_,rfl,d,_,rfl,.inl ⟨hd1,λo=>?_⟩⟩;have s2:SameX d H1 (upd H1 d (.frz o (.dT (ks.map kvI)))):=λb u n y=>Gm y n;have hd2:upd H1 d (.frz o (.dT (ks.map kvI))) d=some (.frz o (.dT (ks.map kvI))):=Gb;have e2:upd H1 d (.frz o (.dT (ks.map kvI))) a=some (.dT (([]:KI).map kvI)):=Gm e1 nad;generalize upd H1 d (.frz o (.dT (ks.map kvI)))=H2 at s2 hd2 e2 ⊢;have S2:SameX d H H2:=(SameX.of s1).trans s2;have ked:∀{H':Hp},SameX d H H'->H' d=some (.frz o (.dT (ks.map kvI)))->EndD H' e s t:=λ{H'} sx _=>by
   obtain ⟨ne,ne2,o',eo⟩:=he;exact ⟨ne,ne2,o',sx e _ (λz=>by rw [z,hd] at eo;cases eo) eo⟩
  have kst:∀{H':Hp},SameX d H H'->StepAt H' x rs s t j:=λ{H'} sx=>by
   obtain ⟨T,r,lv,nd,ex,g1,g2,g3,g4⟩:=hx.ex;have n:∀{b u},H b=some u->(∀kvs,u≠.dT kvs)->b≠d:=λ{b u} y z y2=>by rw [y2,hd] at y;cases y;exact z _ rfl
   exact ⟨T,r,lv,nd,ex,sx _ _ (n g1 (λ_ z=>by cases z)) g1,sx _ _ (n g2 (λ_ z=>by cases z)) g2,sx _ _ (n g3 (λ_ z=>by cases z)) g3,sx _ _ (n g4 (λ_ z=>by cases z)) g4⟩
  refine U1 (a:=d) (o:=o) (kvs:=ks.map kvI) (λi σ H3=>∃(v4 v5 v6:Option V)(acc:KI),σ=[some (.ref d),some x,some (.ref e),some (.ref a),v4,v5,v6]/\SameX d H H3/\H3 d=some (.frz o (.dT (ks.map kvI)))/\H3 a=some (.dT (acc.map kvI))/\Rep acc (Yk rs s t j (ks.take i)))
   ⟨none,none,none,[],rfl,S2,hd2,e2,Rep.nil⟩ (λi σ H3 _ ⟨_,_,_,_,_,_,y,_⟩=>y) ?_ ?_
  ·rintro i kk v b σ H3 hkv hb ⟨v4,v5,v6,acc,rfl,s3,hd3,e3,rp⟩;rw [List.getElem?_map] at hkv;obtain ⟨p,hp,ep⟩:=Option.map_eq_some_iff.mp hkv;cases ep;have hpm:=List.mem_of_getElem? hp;rw [Jb] at hb;refine ⟨GU,λT hT=>?_⟩;have s4:Same H3 (upd H3 T (.tup [.bl false,.bl true])):=Same.new hT;have e4:upd H3 T (.tup [.bl false,.bl true]) T=some (.tup [.bl false,.bl true]):=Gb;generalize upd H3 T (.tup [.bl false,.bl true])=H4 at s4 e4 ⊢;refine ⟨T,rfl,⟨_,SqT.of e4⟩,?_⟩;refine Zag (K:=K) (a:=T) (xs:=[.bl false,.bl true]) (λc σ H5=>c<=2/\∃(v5 v6:Option V)(acc:KI),σ=[some (.ref d),some x,some (.ref e),some (.ref a),some (.ref b),v5,v6]/\SameX a H4 H5/\SameX d H H5/\H5 d=some (.frz o (.dT (ks.map kvI)))/\H5 a=some (.dT (acc.map kvI))/\Rep acc (Yk rs s t j (ks.take i)++YC rs s t j c p))
    ⟨by decide,_,_,acc,rfl,λ_ _ _ y=>y,s3.trans (SameX.of s4),s4 _ _ hd3,s4 _ _ e3,by simpa [YC] using rp⟩ (λc σ H5 _ ⟨_,_,_,_,_,sx,_⟩=>SqT.of (sx _ _ (GV e4 (s4 _ _ e3) (λz=>by cases z)) e4)) ?_ ?_
   ·rintro c y σ H5 hy ⟨hc2,v5,v6,acc,rfl,sx,s5,hd5,e5,rp⟩;have hcl:c<2:=(List.getElem?_eq_some_iff.mp hy).1;obtain ⟨ch,rfl,hch⟩:∃ch:Bool,y=.bl ch/\[false,true][c]?=some ch:=by
     rcases (by lia:c=0\/c=1) with rfl | rfl
     ·cases hy;exact ⟨_,rfl,rfl⟩
     ·cases hy;exact ⟨_,rfl,rfl⟩
    have hb5:H5 b=some (.tup (p.1.map V.int)):=sx _ _ (GV (s4 _ _ hb) (s4 _ _ e3) (λz=>by cases z)) (s4 _ _ hb);have one1:YC rs s t j (c+1) p=YC rs s t j c p++(Yg rs s t p.1 j ch).toList.flatMap λm=>List.replicate p.2.toNat m:=by
     unfold YC;rw [List.take_add_one,hch,List.flatMap_append];simp
    refine ⟨_,rfl,_,rfl,_,rfl,_,rfl,b,e,x,p.1,rs,s,t,j,ch,rfl,hb5,kst s5,ked s5 hd5,hms p hpm,λH6 s6 z=>?_,λT2 m' H6 s6 eT z=>?_⟩
    ·refine ⟨_,rfl,rfl,_,rfl,Je ?_⟩;exact ⟨by lia,_,_,acc,rfl,sx.trans (SameX.of s6),s5.trans (SameX.of s6),s6 _ _ hd5,s6 _ _ e5,by rw [one1,z];simpa using rp⟩
    ·refine ⟨_,rfl,rfl,_,rfl,?_⟩;rw [decide_eq_false (by intro z;cases z)];refine G9 ?_;have pp:=rep.pos p hpm;have hd6:=s6 _ _ hd5;have e6:=s6 _ _ e5;have eTk:H6 T2=some (.tup ((m'.map (Sum.inl:Int->Key)).map kV)):=by rw [Jb];exact eT
     have ebk:H6 b=some (.tup ((p.1.map (Sum.inl:Int->Key)).map kV)):=by rw [Jb];exact s6 _ _ hb5
     have vb:GZ (ks.map kvI) (p.1.map Sum.inl)=some (.int p.2):=by rw [Ut,VF rep.nd hpm];rfl
     have hal:acc.length<=4194304:=Nat.le_trans (Vc rp λm hm=>inU m ((Vb rep).mem_iff.mp (Ym rep i c p hp (by lia) m hm))) hU;have ev:(GZ (acc.map kvI) (m'.map Sum.inl)).getD (.int 0)=.int ((Wj acc m').getD 0):=by rw [Ut];cases Wj acc m' <;> rfl
     refine ⟨_,rfl,a,rfl,.inr ⟨_,.inl e6⟩,_,rfl,_,DGet.t e6 eTk,?_⟩;rw [ev];have dg:DGet H6 d (.ref b) (some (.int p.2)):=by rw [<-vb];exact Or.inr ⟨_,_,b,.inr ⟨o,hd6⟩,rfl,ebk,rfl⟩
     refine ⟨_,rfl,_,rfl,d,_,rfl,dg,_,_,rfl,rfl,?_⟩;refine ⟨_,rfl,_,rfl,a,_,rfl,DPut.t e6 eTk (by rw [List.length_map];lia),?_⟩;rw [Uu];have nda:d≠a:=Ne.symm nad;refine ⟨by lia,_,_,OM acc m' ((Wj acc m').getD 0+p.2),rfl,(sx.trans (SameX.of s6)).trans (λc' u n y=>Gm y n),?_,Gm hd6 nda,Gb,?_⟩
     ·intro c' u n y;have y6:=s6 _ _ (s5 c' u n y);exact Gm y6 (λz=>by rw [z] at y;rw [ha] at y;cases y)
     ·have:=rp.put (m:=m') (n:=p.2) pp;rw [one1,z,<-List.append_assoc];simpa using this
   ·rintro σ H5 ⟨_,v5,v6,acc,rfl,sx,s5,hd5,e5,rp⟩;refine ⟨_,_,_,acc,rfl,s5,hd5,e5,?_⟩;rw [List.take_add_one,hp];show Rep acc (Yk rs s t j (ks.take i++[p]));rw [Yl];exact rp
  ·rintro σ H3 ⟨v4,v5,v6,acc,rfl,s3,hd3,e3,rp⟩;rw [List.length_map,List.take_length] at rp;exact ⟨_,rfl,q a acc H3 s3 ha e3 (rp.perm (Vb rep))⟩
end
theorem JU {l:List Int}{i:Nat}{v q:Int}(h:q∈l.set i v):q=v\/q∈l:=(List.mem_or_eq_of_mem_set h).symm
def OkM (k:Nat)(m:List Int):Prop:=m.length=k+1/\∀q∈m,q<(k:Int)
theorem ZdB {k:Nat}{m:List Int}(h:OkM k m){p:Int}(p0:0<=p)(pk:p<(k:Int)):gA m p<(k:Int):=h.2 _ (Wh (by have:=h.1;lia))
theorem Zca {k:Nat}{m:List Int}{s t:Int}(h:OkM k m){p:Int}(p0:0<=p)(pk:p<(k:Int))(k1:1<=k):Vi s t m p<(k:Int):=by
 unfold Vi;split
 ·rcases OK s t p with ⟨_,e⟩ | ⟨_,_,e⟩ | ⟨_,_,e⟩ <;> lia
 ·exact ZdB h p0 pk
theorem ZdC {k:Nat}{m:List Int}{s t:Int}{r:Int×Int}(h:OkM k m)(h1:0<=r.1/\r.1<r.2/\r.2<(k:Int))(k1:1<=k):OkM k (pC s t m r):=by
 refine ⟨pC_len.trans h.1,λq hq=>?_⟩;have fa:=Zca (s:=s) (t:=t) h h1.1 (by lia) k1;have fb:=Zca (s:=s) (t:=t) h (show 0<=r.2 by lia) h1.2.2 k1;have base:∀q∈(m.set r.1.toNat (-1)).set r.2.toNat (-1),q<(k:Int):=λq hq=>by
  rcases JU hq with z | hq
  ·lia
  ·rcases JU hq with z | hq
   ·lia
   ·exact h.2 q hq
 unfold pC at hq;split at hq
 ·exact base q hq
 ·unfold pW1 at hq;dsimp only at hq;split at hq
  ·rcases JU hq with z | hq
   ·lia
   ·split at hq
    ·rcases JU hq with z | hq
     ·lia
     ·exact base q hq
    ·exact base q hq
  ·split at hq
   ·rcases JU hq with z | hq
    ·lia
    ·exact base q hq
   ·exact base q hq
theorem ZaX {k:Nat}{m m':List Int}{s t:Int}{r:Int×Int}(h:OkM k m)(h1:0<=r.1/\r.1<r.2/\r.2<(k:Int))(k1:1<=k)(e:Of s t m r=some m'):OkM k m':=by
 have c:=ZdC (s:=s) (t:=t) h h1 k1;unfold Of at e;split at e
 ·cases e
 ·split at e
  ·split at e
   ·cases e
   ·cases e;refine ⟨by rw [List.length_set];exact c.1,λq hq=>?_⟩;rcases JU hq with z | hq
    ·lia
    ·exact c.2 q hq
  ·cases e;exact c
theorem ZaY {k:Nat}{m m' L N:List Int}(h:OkM k m)(k1:1<=k)(e:WV m L N=some m'):OkM k m':=by
 have key:∀(L:List Int)(m:List Int),OkM k m->OkM k (L.foldl (λm p=>m.set p.toNat (-2)) m):=by
  intro L
  induction L with
  | nil=>intro m h;exact h
  | cons p L ih=>
   intro m h;refine ih _ ⟨by rw [List.length_set];exact h.1,λq hq=>?_⟩;rcases JU hq with z | hq
   ·lia
   ·exact h.2 q hq
 unfold WV at e;split at e
 ·cases e;exact h
 ·split at e
  ·cases e
  ·cases e;exact key L m h
theorem Z5 {k:Nat}{m m':List Int}{rs:List (Int×Int)}{s t:Int}{j:Nat}{ch:Bool}(h:OkM k m)(h1:0<=(rs.getD j (0,0)).1/\(rs.getD j (0,0)).1<(rs.getD j (0,0)).2/\(rs.getD j (0,0)).2<(k:Int))(k1:1<=k)(e:Yg rs s t m j ch=some m'):OkM k m':=by
 unfold Yg at e;obtain ⟨m2,e2,e3⟩:=Option.bind_eq_some_iff.mp e;refine ZaY ?_ k1 e3;split at e2
 ·exact ZaX h h1 k1 e2
 ·cases e2;exact h
theorem Vd {rs:List (Int×Int)}{j:Nat}(h:j<rs.length):rs.getD j (0,0)∈rs:=by
 rw [List.getD_eq_getElem?_getD,List.getElem?_eq_getElem h];exact List.getElem_mem h
theorem ZaZ {rs:List (Int×Int)}{k:Nat}(k1:1<=k)(gr:∀r∈rs,0<=r.1/\r.1<r.2/\r.2<(k:Int)):∀{j:Nat},j<=rs.length->∀m∈RJ rs k j,OkM k m
 | 0,_,m,h=>by
  rw [List.mem_singleton.mp (show m∈[m0 k] from h)];exact ⟨List.length_replicate,λq hq=>by have:=(List.mem_replicate.mp hq).2;lia⟩
 | j+1,hj,m,h=>by
  obtain ⟨m1,h0,h1⟩:=List.mem_flatMap.mp h;have ih:=ZaZ k1 gr (show j<=rs.length by lia) m1 h0;have rd:=gr _ (Vd (rs:=rs) (show j<rs.length by lia));rcases List.mem_append.mp h1 with h1 | h1
  ·exact Z5 ih rd k1 (Option.mem_toList.mp h1)
  ·exact Z5 ih rd k1 (Option.mem_toList.mp h1)
section
variable {P:Program}{w:World}{K:W.Frag}{mg:Str->Option Value}{base:Heap}
def Zeg:Sp:=λvs H Q _=>∃(wb l e e2:Addr)(k n:Nat)(xs:List V)(rs:List (Int×Int)),vs=[.ref wb,.ref e,.ref e2,.int (n:Int)]/\WebAt H wb l (k:Int) xs rs/\(1<=k/\k<=100/\rs.length<=100/\∀r∈rs,0<=r.1/\r.1<r.2/\r.2<(k:Int))/\EndD H e nE nE/\EndD H e2 nE nE/\n<=rs.length/\(∀j,j<=n->∃U:List (List Int),U.length<=4194304/\∀m∈RJ rs k j,m∈U) /\
 ∀(d:Addr)(ks:KI)(H':Hp),Same H H'->H d=none->H' d=some (.dT (ks.map kvI))->Rep ks (RJ rs k n)->Q (.ref d) H'
theorem scNb:Gs ["web", "ends", "needed", "i", "numbers", "marks", "step"] ["web", "ends", "needed", "i"] (Gc sNb):=⟨rfl,rfl,rfl,by decide +kernel,rfl,by decide +kernel,by decide +kernel⟩
theorem ZdD {f fFm fSo fBs:Addr}{fd fdFm fdSo fdBs:FuncData}(F:Fun K "numbers_behind" "numbers_behind" sNb f fd)(FFm:Fun K "first_marks" "first_marks" sFm fFm fdFm)(bFm:Binds K fdFm ["web", "needed"] [])(mFm:mg "first_marks" = some (.ref fFm))(GFm:GL P w K mg base CX0 4 fFm fdFm ["web", "needed"] Zee)(FSo:Fun K "steps_of" "steps_of" sSo fSo fdSo)(bSo:Binds K fdSo ["web", "needed"] [])(mSo:mg "steps_of" = some (.ref fSo))(GSo:GL P w K mg base CX0 2 fSo fdSo ["web", "needed"] Zec)(FBs:Fun K "behind_step" "behind_step" sBs fBs fdBs)(bBs:Binds K fdBs ["numbers", "step", "ends"] [])(mBs:mg "behind_step" = some (.ref fBs))(GBs:GL P w K mg base CX0 4 fBs fdBs ["numbers", "step", "ends"] Zef) :
  GL P w K mg base CX0 5 f fd ["web", "ends", "needed", "i"] Zeg:=by
 refine F.ok scNb (λvs H Q E h=>?_) (λcdv A outer s0 H vs Q E hr h=>?_)
 ·obtain ⟨_,_,_,_,_,_,_,_,rfl,_⟩:=h
  rfl
 ·obtain ⟨wb,l,e,e2',k,n,xs,rs,rfl,W,⟨g1,gk,g3,gr⟩,he,he2,hn,hU,q⟩:=h;have hu1:(A.deeper (PyProof.Rows.envOfC "numbers_behind" (Gc sNb) s0.heap.objs.size f cdv)).units+1<cLine:=by have:=hr.un;lia
  have h16:(16777216:Nat)=sizeLine:=sizeLine_eq.symm;have gp:∀r∈rs,0<=r.1/\r.1<r.2:=λr hr=>⟨(gr r hr).1,(gr r hr).2.1⟩;refine ⟨_,(@Gd _ _ _ _ _ (@Gq _ _ 4 _ _ _ _ scNb.nd rfl (Or.inl rfl) Ot rfl (by first | exact .inl rfl | exact .inr rfl))
    (@Gd _ _ _ _ _ (@GX _ _ _ _ _ _ _ _ PassesOwn.never rfl (JM K (@Gk _ _ _ _ _ _ _ _ _ _ _ _ _ _ _ _ GFm (hr.mono (by decide)) rfl mFm FFm.kp bFm .nil GM (@Ga _ _ _ _ _ (pv 0) (@Ga _ _ _ _ _ (pv 2) Ge rfl) rfl) (by decide) rfl rfl)) (Gi (i:=5) scNb.nd rfl (Or.inl rfl))
    (@Gf _ _ _ (JS hu1 (pv 4) (pv 5) Gg rfl)) (by intro _;rfl))
    (@Gd _ _ _ _ _ (@GX _ _ _ _ _ _ _ _ PassesOwn.never rfl (JM K (YN (kSl K) (@Gk _ _ _ _ _ _ _ _ _ _ _ _ _ _ _ _ GSo (hr.mono (by decide)) rfl mSo FSo.kp bSo .nil GM (@Ga _ _ _ _ _ (pv 0) (@Ga _ _ _ _ _ (pv 2) Ge rfl) rfl) (by decide) rfl rfl) Zal (Zam (pv 3)))) (Gi (i:=6) scNb.nd rfl (Or.inl rfl))
    (@Gf _ _ _ (@Gq _ _ 4 _ _ _ _ scNb.nd rfl (Or.inl rfl) (@Gk _ _ _ _ _ _ _ _ _ _ _ _ _ _ _ _ GBs (hr.mono (by decide)) rfl mBs FBs.kp bBs .nil GM (@Ga _ _ _ _ _ (pv 4) (@Ga _ _ _ _ _ (pv 6) (@Ga _ _ _ _ _ (pv 1) Ge rfl) rfl) rfl) (by decide) rfl rfl) rfl (by first | exact .inl rfl | exact .inr rfl))) (by intro _;rfl))
    (@Gf _ _ _ (@Gu _ _ _ _ (pv 4)))))),?_⟩
  refine λd0 hd0=>?_;have s1:Same H (upd H d0 (.dT [])):=Same.new hd0;have e1:upd H d0 (.dT []) d0=some (.dT (([]:KI).map kvI)):=Gb;generalize upd H d0 (.dT [])=H1 at s1 e1 ⊢;dsimp only [GG];refine Jn (λσ2 H2=>∃(v5:Option V)(ks:KI),σ2=[some (.ref wb),some (.ref e),some (.ref e2'),some (.int (n:Int)),some (.ref d0),v5,none]/\Same H H2/\H2 d0=some (.dT (ks.map kvI))/\Rep ks (RJ rs k 0)) ?_ (λJ=>?_)
  case _=>
   rintro σ2 H2 ⟨v5,ks,rfl,s2,e2,rp⟩;refine ⟨_,rfl,_,rfl,wb,l,e2',(k:Int),xs,rs,nE,nE,rfl,W.same s2,by lia,gp,he2.same s2,λS zs H3 s3 hS eS zl st=>?_⟩;have S3:=s2.trans s3;refine ⟨_,rfl,(n:Int),rfl,S,_,rfl,SqL.of eS,λc2 hc2=>?_⟩;have s4:Same H3 (upd H3 c2 (.lst (YO zs none (some (n:Int))))):=Same.new hc2;have e4:upd H3 c2 (.lst (YO zs none (some (n:Int)))) c2=some (.lst (zs.take n)):=by rw [Gb,ZbF]
   generalize upd H3 c2 (.lst (YO zs none (some (n:Int))))=H4 at s4 e4 ⊢;have S4:=S3.trans s4;have tl:(zs.take n).length=n:=by rw [List.length_take];lia
   refine ⟨c2,rfl,⟨_,SqL.of e4⟩,?_⟩;have kc2:H2 c2=none:=by
    cases y:H2 c2 with
    | none=>rfl
    | some u=>rw [s3 _ _ y] at hc2;cases hc2
   refine Jk (K:=K) (a:=c2) (xs:=zs.take n) (λi σ H5=>∃(v5 v6:Option V)(d:Addr)(ks:KI),σ=[some (.ref wb),some (.ref e),some (.ref e2'),some (.int (n:Int)),some (.ref d),v5,v6]/\Same H H5/\H d=none/\H5 c2=some (.lst (zs.take n))/\(∀j x,j<n->zs[j]?=some x->StepAt H5 x rs nE nE j)/\H5 d=some (.dT (ks.map kvI))/\Rep ks (RJ rs k i))
    ⟨_,_,d0,ks,rfl,S4,hd0,e4,λj x _ y=>(st j x y).same s4,(s3.trans s4) _ _ e2,rp⟩ (λi σ H5 _ ⟨_,_,_,_,_,_,_,y,_⟩=>SqL.of y) ?_ ?_
   ·rintro i x σ H5 hxi ⟨v5,v6,d,ks,rfl,s5,hdn,ec,hst5,ed,rp⟩;have hi:i<n:=by
     have:=(List.getElem?_eq_some_iff.mp hxi).1
     lia
    have hxz:zs[i]?=some x:=by
     rw [List.getElem?_take,if_pos hi] at hxi;exact hxi
    obtain ⟨U,hU1,hU2⟩:=hU (i+1) (by lia);refine ⟨_,rfl,_,rfl,_,rfl,d,e,x,ks,rs,nE,nE,i,RJ rs k i,rfl,ed,hst5 i x hi hxz,he.same s5,λp hp=>?_,rp,⟨U,hU1,hU2⟩,λd' ks' H6 sx hd' ed' rp'=>?_⟩
    ·have om:=ZaZ (rs:=rs) (k:=k) (by lia) gr (by lia) _ (rp.mem hp);have hrd:=gr _ (Vd (rs:=rs) (show i<rs.length by lia));exact ⟨by lia,⟨hrd.1,hrd.2.1,by rw [om.1];lia⟩,λq hq=>by have:=om.2 q hq;rw [om.1];lia,by rw [om.1];lia⟩
    ·have S6:Same H H6:=λa u y=>sx a u (λz=>by rw [z,hdn] at y;cases y) (s5 a u y);have ncd:c2≠d:=GV ec ed (λz=>by cases z);refine ⟨_,_,d',ks',rfl,S6,?_,sx _ _ ncd ec,λj y hj hy=>?_,ed',rp'⟩
     ·cases y:H d' with
      | none=>rfl
      | some u=>rw [s5 _ _ y] at hd';cases hd'
     ·obtain ⟨T,r,lv,nd,ex,g1,g2,g3,g4⟩:=(hst5 j y hj hy).ex;have nn:∀{b u},H5 b=some u->(∀kvs,u≠.dT kvs)->b≠d:=λ{b u} y z y2=>by rw [y2,ed] at y;cases y;exact z _ rfl
      exact ⟨T,r,lv,nd,ex,sx _ _ (nn g1 (λ_ z=>by cases z)) g1,sx _ _ (nn g2 (λ_ z=>by cases z)) g2,sx _ _ (nn g3 (λ_ z=>by cases z)) g3,sx _ _ (nn g4 (λ_ z=>by cases z)) g4⟩
   ·rintro σ H5 ⟨v5,v6,d,ks,rfl,s5,hdn,ec,hst5,ed,rp⟩;rw [tl] at rp;exact ⟨_,rfl,q d ks H5 s5 hdn ed rp⟩
  ·refine ⟨_,rfl,_,rfl,wb,l,e2',k,xs,rs,rfl,W.same s1,gk,he2.same s1,λF0 T1 H2 s2 hF0 eys eT=>?_⟩;refine ⟨F0,rfl,⟨_,SqL.of eys⟩,?_⟩;have e2:=s2 _ _ e1;have nF:F0≠d0:=GV eys e2 (λz=>by cases z);have eTk:H2 T1=some (.tup (((m0 k).map (Sum.inl:Int->Key)).map kV)):=by rw [Jb];exact eT
   refine Jk (K:=K) (a:=F0) (xs:=[.ref T1]) (λi σ H3=>∃v5:Option V,σ=[some (.ref wb),some (.ref e),some (.ref e2'),some (.int (n:Int)),some (.ref d0),v5,none]/\H3 F0=some (.lst [.ref T1])/\Same H H3/\(i=0->H3=H2)/\(i=1->H3 d0=some (.dT ([(m0 k,1)].map kvI)))) ⟨_,rfl,eys,s1.trans s2,λ_=>rfl,λz=>by cases z⟩ (λi σ H3 _ ⟨_,_,y,_⟩=>SqL.of y) ?_ ?_
   ·rintro i x σ H3 hx ⟨v5,rfl,y1,y2,y3,_⟩;have i0:i=0:=by
     have:=(List.getElem?_eq_some_iff.mp hx).1;simp at this;exact this
    subst i0;cases hx;obtain rfl:=y3 rfl;refine ⟨_,rfl,_,rfl,d0,_,rfl,DPut.t e2 eTk (by show 0<sizeLine;lia),?_⟩;have pk:=Uu [] (m0 k) 1;refine ⟨_,rfl,Gm y1 nF,y2.put hd0,(λz=>by cases z),λ_=>?_⟩;rw [Gb];exact congrArg (λz=>some (HO.dT z)) pk
   ·rintro σ H3 ⟨v5,rfl,y1,y2,_,y4⟩;refine J _ _ ⟨_,[(m0 k,1)],rfl,y2,y4 rfl,?_⟩;show Rep [(m0 k,1)] [m0 k];exact ⟨by simp,by simp,by show (List.replicate 1 (m0 k)++[]).Perm [m0 k];simp⟩
end
end M
namespace M
open PySem L2
section
variable {P:Program}{w:World}{K:W.Frag}{mg:Str->Option Value}{base:Heap}
def Z6 (C:Addr):Sp:=λvs H Q E=>∃(r c:Int),vs=[.int r,.int c] /\
 ((∃r' c':Nat,r=(r':Int)/\c=(c':Int)/\1<=r'/\1<=c'/\r'<=16/\c'<=16/\∀(p l:Addr)(xs:List V)(H':Hp),Same H H'->H p=none->H l=none->p≠l->H' p=some (.tup [.int (r * c),.ref l])->H' l=some (.lst xs)->Prs H' xs (GJ r' c' (r' * c'))->Q (.ref p) H') \/
  ((r<1\/c<1)/\E (.ref C) none H))
theorem scGrid:Gs ["rows", "columns", "places", "roads", "place"] ["rows", "columns"] (Gc sGr):=⟨rfl,rfl,rfl,by decide +kernel,rfl,by decide +kernel,by decide +kernel⟩
theorem Zy (r c p:Nat):(Vp r c p).length<=2:=by
 unfold Vp;rw [List.length_append];split <;> split <;> simp
theorem ON (r c:Nat):∀i,(GJ r c i).length<=2 * i
 | 0=>by simp [GJ]
 | i+1=>by
  have h1:=ON r c i;have h2:=Zy r c i;rw [JR,List.length_append]
  lia
theorem Za0 {f C:Addr}{fd:FuncData}(F:Fun K "grid" "grid" sGr f fd)(mC:mg "NoWeb" = some (.ref C))(xC:ExcC K C)(mRange:mg "range" = none):GL P w K mg base (CXr P w) 1 f fd ["rows", "columns"] (Z6 C):=by
 refine F.okR scGrid (λvs H Q E h=>?_) (λcdv A outer s H vs Q E hr h=>?_)
 ·obtain ⟨r,c,rfl,_⟩:=h
  rfl
 ·obtain ⟨r,c,rfl,h⟩:=h;have mR:=mRange;refine ⟨_,Gd (GW (PW.pt (Oz (Gr JY (pv 0) Gg (Gw _)) (Og (Gr JY (pv 1) Gg (Gw _))))) (Gf (VT (E:=E) rfl Oi rfl mC xC (Ga Jq Ge))) Gy)
   (PSs.nox (Gd (Gq (i:=2) scGrid.nd rfl (Or.inl rfl) (Gx Jd (pv 0) (pv 1)))
   (Gd (Gq (i:=3) scGrid.nd rfl (Or.inl rfl) (Jr Ge))
   (Gd (GX PassesOwn.never rfl (Jw rfl mR (Ga (pv 2) Ge)) (Gi (i:=4) scGrid.nd rfl (Or.inl rfl))
    (Gd (GW (Gr YJ (Gx OT (Gx GF (pv 4) Gg) (pv 1)) Gg (Gw _))
     (Gf (JQ (UM PySem.F.plainAttrs_list PySem.F.slot_list_append PySem.F.type_list_append GY (pv 3) (Ga (GO (Ga (pv 4) (Ga (Gx GF (pv 4) Gg) Ge))) Ge)))) Gy)
    (Gf (GW (Gr JY (Gx GF (pv 4) (pv 1)) (pv 2) (Gw _))
     (Gf (JQ (UM PySem.F.plainAttrs_list PySem.F.slot_list_append PySem.F.type_list_append GY (pv 3) (Ga (GO (Ga (pv 4) (Ga (Gx GF (pv 4) (pv 1)) Ge))) Ge)))) Gy))))
   (Gf (Gu (GO (Ga (pv 2) (Ga (pv 3) Ge))))))))),?_⟩
  refine ⟨_,rfl,_,_,rfl,rfl,_,rfl,?_⟩;rcases h with ⟨r',c',rfl,rfl,hr1,hc1,hr2,hc2,q⟩ | ⟨hbad,q⟩
  ·rw [decide_eq_false (show ¬ ((r':Int)<1) by lia)];refine Je ?_;refine ⟨_,rfl,_,_,rfl,rfl,_,rfl,?_⟩;rw [decide_eq_false (show ¬ ((c':Int)<1) by lia)];refine Je ?_;refine ⟨_,rfl,_,rfl,_,_,rfl,rfl,.inl ⟨by lia,by lia⟩,?_⟩;refine ⟨Nat.zero_le _,λl hl=>?_⟩;have hrc:(r':Int) * (c':Int)=((r' * c':Nat):Int):=by push_cast;rfl
   have hb:r' * c'<=16 * 16:=Nat.mul_le_mul hr2 hc2;refine ⟨_,rfl,_,rfl,(by rw [hrc];lia),(by rw [hrc];lia),?_⟩;have s0:Same H (upd H l (.lst [])):=Same.new hl;refine JX (lo:=0) (λi σ H2=>∃(xs:List V)(v:Option V),σ=[some (.int r'),some (.int c'),some (.int ((r':Int) * (c':Int))),some (.ref l),v]/\Same H H2/\H2 l=some (.lst xs)/\Prs H2 xs (GJ r' c' i))
    ⟨[],none,rfl,s0,Gb,.nil⟩ ?_ ?_
   ·rintro i σ H2 hi ⟨xs,v,rfl,s2,h2,p2⟩;have hi':i<r' * c':=by rw [hrc,Int.toNat_natCast] at hi;exact hi
    rw [show (0:Int)+(i:Int)=(i:Int) by lia];have qV:∀{zs:List V}{rs:List (Int×Int)}{H3:Hp},Prs H3 zs rs->rs.length<=2 * i+1->zs.length<sizeLine:=λp hq=>by
     have:=p.len;have h16:(16777216:Nat)=sizeLine:=sizeLine_eq.symm
     lia
    have hgl:=ON r' c' i;have step2:∀(xs:List V)(H3:Hp),Same H H3->H3 l=some (.lst xs)->Prs H3 xs (GJ r' c' i++(if ((i:Int)+1) % (c':Int)=0 then [] else [((i:Int),(i:Int)+1)])) ->
      ZdO (Zah (tOp (rI0 λi j=>.bl (decide (i<j))) (tOp (rI0 λi j=>.int (i+j)) (YG 4) (YG 1)) (YG 2)))
       (Zae (tBM K "list" O9 (YG 3) (YM (ZdV (YM (YG 4) (YM (tOp (rI0 λi j=>.int (i+j)) (YG 4) (YG 1)) Zaj))) Zaj))) Zad
       { nx:=λσ H2=>∃(xs:List V)(v:Option V),σ=[some (.int r'),some (.int c'),some (.int ((r':Int) * (c':Int))),some (.ref l),v]/\Same H H2/\H2 l=some (.lst xs)/\Prs H2 xs (GJ r' c' (i+1)),rt:=Q }
       [some (.int r'),some (.int c'),some (.int ((r':Int) * (c':Int))),some (.ref l),some (.int (i:Int))] H3:=by
     intro xs H3 s3 h3 p3;refine ⟨_,rfl,_,rfl,_,_,rfl,rfl,_,rfl,_,_,rfl,rfl,_,rfl,?_⟩;refine OO (λz=>?_) (λz=>?_)
     ·have z':=of_decide_eq_true z;refine ⟨_,rfl,.inl ⟨rfl,_,SqL.of h3⟩,_,rfl,_,rfl,_,rfl,_,_,rfl,rfl,GU,λt ht=>?_⟩;have hne:l≠t:=λq=>by rw [q,ht] at h3;cases h3
      obtain ⟨a1,a2,a3⟩:=VY (a:=(i:Int)) (b:=(i:Int)+(c':Int)) s3 hl h3 p3 ht;refine ⟨l,xs,_,rfl,rfl,Gm h3 hne,qV p3 (by rw [List.length_append];split <;> simp <;> lia),xs++[.ref t],_,rfl,a1,a2,?_⟩;rw [JR];unfold Vp;rw [if_pos z',<-List.append_assoc];exact a3
     ·have z':¬ ((i:Int)+(c':Int)<(r':Int) * (c':Int)):=λq=>z (decide_eq_true q);refine ⟨xs,_,rfl,s3,h3,?_⟩;rw [JR];unfold Vp;rw [if_neg z',List.append_nil];exact p3
    refine ⟨_,rfl,_,_,rfl,rfl,_,rfl,_,_,rfl,rfl,(by show (0:Int)<(c':Int);lia),rfl,_,rfl,?_⟩;by_cases z:((i:Int)+1) % (c':Int)=0
    ·have zz:(!decide (V.int (((i:Int)+1) % (c':Int))=V.int 0))=false:=by rw [z];simp
     refine (if_neg (show ¬ ((!decide (V.int (((i:Int)+1) % (c':Int))=V.int 0))=true) by rw [zz];exact Bool.false_ne_true)).mpr ?_;exact step2 xs H2 s2 h2 (by rw [if_pos z,List.append_nil];exact p2)
    ·have zz:(!decide (V.int (((i:Int)+1) % (c':Int))=V.int 0))=true:=by simp [z]
     refine (if_pos zz).mpr ?_;refine ⟨_,rfl,.inl ⟨rfl,_,SqL.of h2⟩,_,rfl,_,rfl,_,_,rfl,rfl,GU,λt ht=>?_⟩;have hne:l≠t:=λq=>by rw [q,ht] at h2;cases h2
     obtain ⟨a1,a2,a3⟩:=VY (a:=(i:Int)) (b:=(i:Int)+1) s2 hl h2 p2 ht;exact ⟨l,xs,_,rfl,rfl,Gm h2 hne,qV p2 (by lia),step2 _ _ a1 a2 (by rw [if_neg z];exact a3)⟩
   ·rintro σ H2 ⟨xs,v,rfl,s2,h2,p2⟩;refine ⟨_,rfl,_,rfl,GU,λp hp=>?_⟩;have hne:l≠p:=λq=>by rw [q,hp] at h2;cases h2
    refine q p l xs _ (s2.put (s2.free hp)) (s2.free hp) hl (Ne.symm hne) Gb (Gm h2 hne) ?_;have p3:=p2.keep (VW (o:=.tup [.int ((r':Int) * (c':Int)),.ref l]) hp);rw [hrc,Int.toNat_natCast] at p3;rw [hrc];exact p3
  ·by_cases z:r<1
   ·rw [decide_eq_true z];refine G9 ?_;exact ⟨by decide,q⟩
   ·rw [decide_eq_false z];refine Je ⟨_,rfl,_,_,rfl,rfl,_,rfl,?_⟩;rw [decide_eq_true (show c<1 from hbad.elim (λy=>absurd y z) id)];refine G9 ?_;exact ⟨by decide,q⟩
def Zeh:Sp:=λvs H Q _=>∃c:Int,vs=[.int c]/\Q (.int (2 * c-1)) H
theorem ZeO:Gs ["columns"] ["columns"] (Gc sRr):=⟨rfl,rfl,rfl,by decide +kernel,rfl,by decide +kernel,by decide +kernel⟩
theorem ZdE {f:Addr}{fd:FuncData}(F:Fun K "roads_of_row" "roads_of_row" sRr f fd):GL P w K mg base CX0 1 f fd ["columns"] Zeh:=by
 refine F.ok ZeO (λvs H Q E h=>?_) (λcdv A outer s0 H vs Q E hr h=>?_)
 ·obtain ⟨_,rfl,_⟩:=h
  rfl
 ·obtain ⟨c,rfl,q⟩:=h;refine ⟨_,Gf (Gu (Gx W8 (Gx Jd Gg (pv 0)) Gg)),?_⟩;exact ⟨_,rfl,_,_,rfl,rfl,.inl ⟨by decide,by decide⟩,_,_,rfl,rfl,q⟩
def sgn (m p:Int):Nat:=if m=-2 then 46 else if p<m then 40 else 41
def Zei:Sp:=λvs H Q _=>∃m p:Int,vs=[.int m,.int p]/\Q (.str (mkS [sgn m p])) H
theorem ZeP:Gs ["mark", "place"] ["mark", "place"] (Gc sSg):=⟨rfl,rfl,rfl,by decide +kernel,rfl,by decide +kernel,by decide +kernel⟩
theorem ZdF {f:Addr}{fd:FuncData}(F:Fun K "sign_of" "sign_of" sSg f fd){u2:Tok}(mFREE:mg "FREE" = some (.int (-2) u2)):GL P w K mg base CX0 1 f fd ["mark", "place"] Zei:=by
 refine F.ok ZeP (λvs H Q E h=>?_) (λcdv A outer s0 H vs Q E hr h=>?_)
 ·obtain ⟨_,_,rfl,_⟩:=h
  rfl
 ·obtain ⟨m,p,rfl,q⟩:=h;refine ⟨_,Gd (GW (Gr Xc (pv 0) (GP (v:=.int (-2)) rfl mFREE ⟨_,rfl⟩) (Gw _)) (Gf (Gu Jq)) Gy)
    (Gf (Gu (Oo (Gr Zc1 (pv 0) (pv 1) (Gw _)) Jq Jq))),?_⟩
  unfold sgn at q;refine ⟨_,rfl,rfl,_,rfl,?_⟩;rw [JL];refine OO (λz=>?_) (λz=>?_)
  ·rw [if_pos (of_decide_eq_true z)] at q;exact q
  ·rw [if_neg (λy=>z (decide_eq_true y))] at q;refine ⟨_,rfl,_,rfl,_,_,rfl,rfl,_,rfl,?_⟩;refine OO (λz=>?_) (λz=>?_)
   ·rw [if_pos (show p<m from of_decide_eq_true z)] at q;exact q
   ·rw [if_neg (show ¬ p<m from λy=>z (decide_eq_true y))] at q;exact q
def Zz (m:List Int)(f:Int)(c:Nat):List Nat:=(List.range c).map λ(j:Nat)=>sgn (gA m (f+(j:Int))) (f+(j:Int))
def Zej:Sp:=λvs H Q _=>∃(b:Addr)(m:List Int)(i c:Nat),vs=[.ref b,.int (i:Int),.int (c:Int)]/\H b=some (.tup (m.map V.int))/\(i+1) * c<=m.length/\1<=c/\i<=100/\c<=100/\∀H',Same H H'->Q (.str (mkS (Zz m ((i:Int) * (c:Int)) c))) H'
theorem scWn:Gs ["marks", "row", "columns", "first"] ["marks", "row", "columns"] (Gc sWn):=⟨rfl,rfl,rfl,by decide +kernel,rfl,by decide +kernel,by decide +kernel⟩
theorem ZdG {f fSg:Addr}{fd fdSg:FuncData}(F:Fun K "word_in" "word_in" sWn f fd)(FSg:Fun K "sign_of" "sign_of" sSg fSg fdSg)(bSg:Binds K fdSg ["mark", "place"] [])(mSg:mg "sign_of" = some (.ref fSg))(GSg:GL P w K mg base CX0 1 fSg fdSg ["mark", "place"] Zei)(mRange:mg "range" = none):GL P w K mg base CX0 2 f fd ["marks", "row", "columns"] Zej:=by
 refine F.ok scWn (λvs H Q E h=>?_) (λcdv A outer s0 H vs Q E hr h=>?_)
 ·obtain ⟨_,_,_,_,rfl,_⟩:=h
  rfl
 ·obtain ⟨b,m,i,c,rfl,hb,hl,c1,i1,c2,q⟩:=h;have h16:(16777216:Nat)=sizeLine:=sizeLine_eq.symm;refine ⟨_,Gd (Gq (i:=3) scWn.nd rfl (Or.inl rfl) (Gx Jd (pv 1) (pv 2)))
    (Gf (Gu (UM PySem.F.plainAttrs_str PySem.F.slot_str_join PySem.F.type_str_join (ZaF K) Jq (Ga (Jm (own:=["place"]) rfl (Gj (fr:=[("marks", 0)]) [(".0", .local),("place", .local),("sign_of", .globalImplicit),("marks", .cell)] rfl rfl (by decide +kernel) rfl (by decide +kernel) ⟨rfl,trivial⟩ ⟨λh=>GN h,λh=>GN h,λh=>GN h,λ_=>⟨_,rfl⟩,trivial⟩ ⟨⟨rfl,.inl rfl,.inl rfl⟩,trivial⟩) (W6 rfl mRange (Ga (pv 3) (Ga (Gx GF (pv 3) (pv 2)) Ge))) (λ_ _ _ _=>Gi (i:=0) (show List.Nodup (["place", "marks"]:List Str) by decide +kernel) rfl (Or.inl rfl)) (λ_ _ _ _=>Ja) (λ_ _ _ _=>Gk GSg (hr.mono (by decide)) rfl mSg FSg.kp bSg .nil GM (Ga (G3 (OP K) (pv 1) (pv 0) (λ_ _=>rfl)) (Ga (pv 0) Ge)))) Ge)))),?_⟩
  refine ⟨_,rfl,_,rfl,_,_,rfl,rfl,.inl ⟨by lia,by lia⟩,?_⟩;dsimp only [GG];have hfc:(i:Int) * (c:Int)=((i * c:Nat):Int):=by push_cast;rfl
  have hic:i * c<=100 * 100:=Nat.mul_le_mul i1 c2;have hic2:(i+1) * c=i * c+c:=Nat.succ_mul i c;rw [hfc] at q ⊢;generalize i * c=f at *;refine ⟨rfl,_,rfl,_,rfl,_,rfl,_,_,rfl,rfl,_,_,rfl,⟨by lia,by lia,by lia,by lia⟩,λD hD=>?_⟩;rw [show ((f:Int)+(c:Int)-(f:Int)).toNat=c by lia];refine OZ (lo:=(f:Int)) (n:=c) (λj ys H2=>Same H H2/\H2 D=some (.lst ys)/\ys=(((List.range j).map λ(j:Nat)=>sgn (gA m ((f:Int)+(j:Int))) ((f:Int)+(j:Int))).map λc=>mkS [c]).map V.str) ⟨Same.new hD,Gb,rfl⟩ ?_ ?_
  ·rintro j ys H2 hj ⟨s2,hD2,rfl⟩;refine ⟨⟨rfl,trivial⟩,?_⟩;unfold YT;refine G9 ?_;refine ⟨_,rfl,_,rfl,b,_,_,_,rfl,rfl,SqT.of (s2 _ _ hb),Ji (by lia) (by lia),_,rfl,_,_,rfl,hD2,?_,s2.put hD,Gb,?_⟩
   ·rw [List.length_map,List.length_map,List.length_map,List.length_range]
    lia
   ·rw [List.range_succ,List.map_append,List.map_append,List.map_append]
    rfl
  ·rintro ys H2 ⟨s2,hD2,rfl⟩;refine ⟨_,D,_,rfl,rfl,SqL.of hD2,?_,?_⟩
   ·exact Zh _ (by rw [List.length_map,List.length_range];lia)
   ·show Q (.str (Txt.join (mkS []) _)) _;rw [WS];exact q H2 s2
theorem str_mk {l l':List Nat}:mkS l=mkS l'↔l=l':=⟨λh=>by
 have h:(mkS l).cps.toList=(mkS l').cps.toList:=by rw [h]
 exact h,λh=>by rw [h]⟩
def Wm (c:Nat):List Nat:=List.replicate c 46
def ZcN (ks:KI)(i c:Nat):List (Str×Int):=(ks.map λp=>(mkS (Zz p.1 ((i:Int) * (c:Int)) c),p.2)).filter λq=>!decide (q.1=mkS (Wm c))
def ZdH (C:Addr):Sp:=λvs H Q E=>∃(r c i:Int),vs=[.int r,.int c,.int i] /\
 (((r<1\/c<1)/\E (.ref C) none H) \/
  (∃r' c':Nat,r=(r':Int)/\c=(c':Int)/\1<=r'/\1<=c'/\r'<=16/\c'<=16/\r' * c'<=40 /\
  ((¬ (1<=i/\i<r)/\∀H',Same H H'->E (.ref C) none H') \/
   (∃i':Nat,i=(i':Int)/\1<=i'/\i'<r'/\i' * (2 * c' - 1)<=(GJ r' c' (r' * c')).length/\(∀j,j<=i' * (2 * c' - 1)->∃U:List (List Int),U.length<=4194304/\∀m∈RJ (GJ r' c' (r' * c')) (r' * c') j,m∈U) /\
   ∀(l:Addr)(zs:List SIz)(ks:KI)(H':Hp),Same H H'->H l=none->H' l=some (.lst (zs.map λz=>V.ref z.1))->(∀z∈zs,H' z.1=some (.tup [.str z.2.1,.int z.2.2]))->Rep ks (RJ (GJ r' c' (r' * c')) (r' * c') (i' * (2 * c' - 1)))->(zs.map (·.2)).Perm (ZcN ks i' c')->(zs.map (·.2)).Pairwise (λa b=>OJ b a=false)->Q (.ref l) H'))))
theorem scWb:Gs ["rows", "columns", "i", "web", "numbers", "told"] ["rows", "columns", "i"] (Gc sWb):=⟨rfl,rfl,rfl,by decide +kernel,rfl,by decide +kernel,by decide +kernel⟩
theorem Wn {r c:Nat}(hc:1<=c):∀q∈GJ r c (r * c),0<=q.1/\q.1<q.2/\q.2<((r * c:Nat):Int):=by
 intro q hq;unfold GJ at hq;obtain ⟨p,hp,hq⟩:=List.mem_flatMap.mp hq;have hp:=List.mem_range.mp hp;unfold Vp at hq;have hm:((r * c:Nat):Int)=(r:Int) * (c:Int):=by push_cast;rfl
 rcases List.mem_append.mp hq with hq | hq
 ·split at hq
  ·cases hq
  ·rename_i hz;rw [List.mem_singleton.mp hq];have:p+1≠r * c:=λz=>hz (by
    have:(p:Int)+1=(r:Int) * (c:Int):=by rw [<-hm,<-z];push_cast;rfl
    rw [this];exact Int.mul_emod_left _ _)
   exact ⟨by show 0<=(p:Int);lia,by show (p:Int)<(p:Int)+1;lia,by show (p:Int)+1<_;lia⟩
 ·split at hq
  ·rename_i hz;rw [List.mem_singleton.mp hq];exact ⟨by show 0<=(p:Int);lia,by show (p:Int)<(p:Int)+(c:Int);lia,by show (p:Int)+(c:Int)<_;lia⟩
  ·cases hq
theorem ZdI {f fGr fNb fRr fWn C:Addr}{fd fdGr fdNb fdRr fdWn:FuncData}(F:Fun K "words_below" "words_below" sWb f fd)(FGr:Fun K "grid" "grid" sGr fGr fdGr)(bGr:Binds K fdGr ["rows", "columns"] [])(mGr:mg "grid" = some (.ref fGr))(GGr:GL P w K mg base (CXr P w) 1 fGr fdGr ["rows", "columns"] (Z6 C))(FNb:Fun K "numbers_behind" "numbers_behind" sNb fNb fdNb)(bNb:Binds K fdNb ["web", "ends", "needed", "i"] [])(mNb:mg "numbers_behind" = some (.ref fNb))(GNb:GL P w K mg base CX0 5 fNb fdNb ["web", "ends", "needed", "i"] Zeg)(FRr:Fun K "roads_of_row" "roads_of_row" sRr fRr fdRr)(bRr:Binds K fdRr ["columns"] [])(mRr:mg "roads_of_row" = some (.ref fRr))(GRr:GL P w K mg base CX0 1 fRr fdRr ["columns"] Zeh)(FWn:Fun K "word_in" "word_in" sWn fWn fdWn)(bWn:Binds K fdWn ["marks", "row", "columns"] [])(mWn:mg "word_in" = some (.ref fWn))(GWn:GL P w K mg base CX0 2 fWn fdWn ["marks", "row", "columns"] Zej)(mC:mg "NoWeb" = some (.ref C))(xC:ExcC K C)(mSor:mg "sorted" = none):GL P w K mg base (CXr P w) 6 f fd ["rows", "columns", "i"] (ZdH C):=by
 refine F.okR scWb (λvs H Q E h=>?_) (λcdv A outer s0 H vs Q E hr h=>?_)
 ·obtain ⟨_,_,_,rfl,_⟩:=h
  rfl
 ·obtain ⟨r,c,i,rfl,h⟩:=h;have hu1:(A.deeper (PyProof.Rows.envOfC "words_below" (Gc sWb) s0.heap.objs.size f cdv)).units+1<cLine:=by have:=hr.un;lia
  have h16:(16777216:Nat)=sizeLine:=sizeLine_eq.symm;refine ⟨_,(@Gd _ _ _ _ _ (@Gq _ _ 3 _ _ _ _ scWb.nd rfl (Or.inl rfl) (@Gk _ _ _ _ _ _ _ _ _ _ _ _ _ _ _ _ GGr (hr.mono (by decide)) rfl mGr FGr.kp bGr .nil Zdb (@Ga _ _ _ _ _ (pv 0) (@Ga _ _ _ _ _ (pv 1) Ge rfl) rfl) (by decide) rfl rfl) rfl (by first | exact .inl rfl | exact .inr rfl))
    (@Gd _ _ _ _ _ (@GW _ _ _ _ _ _ _ _ (JW (YL Zc0 JY Gg (pv 2) (pv 0))) (@Gf _ _ _ (VT (E:=E) rfl Oi rfl mC xC (@Ga _ _ _ _ _ Jq Ge rfl))) Gy)
    (@Gd _ _ _ _ _ (@Gq _ _ 4 _ _ _ _ scWb.nd rfl (Or.inr rfl) (@Gk _ _ _ _ _ _ _ _ _ _ _ _ _ _ _ _ GNb (hr.mono (by decide)) rfl mNb FNb.kp bNb .nil GM (@Ga _ _ _ _ _ (pv 3) (@Ga _ _ _ _ _ Wf (@Ga _ _ _ _ _ Wf (@Ga _ _ _ _ _ (@Gx _ _ _ _ _ _ _ _ Jd (pv 2) (@Gk _ _ _ _ _ _ _ _ _ _ _ _ _ _ _ _ GRr (hr.mono (by decide)) rfl mRr FRr.kp bRr .nil GM (@Ga _ _ _ _ _ (pv 1) Ge rfl) (by decide) rfl rfl)) Ge rfl) rfl) rfl) rfl) (by decide) rfl rfl) rfl (by first | exact .inl rfl | exact .inr rfl))
    (@Gd _ _ _ _ _ (OD (i:=5) scWb.nd rfl (Or.inl rfl) (own:=["marks"]) rfl (Gj (fr:=[("columns", 1),("i", 2),("numbers", 4)]) [(".0", .local),("marks", .local),("word_in", .globalImplicit),("columns", .cell),("i", .cell),("numbers", .cell)] rfl rfl (by decide +kernel) rfl (by decide +kernel) ⟨rfl,rfl,rfl,trivial⟩ ⟨λh=>GN h,λh=>GN h,λh=>GN h,λ_=>⟨_,rfl⟩,λ_=>⟨_,rfl⟩,λ_=>⟨_,rfl⟩,trivial⟩ ⟨⟨rfl,.inl rfl,.inl rfl⟩,⟨rfl,.inl rfl,.inl rfl⟩,⟨rfl,.inl rfl,.inl rfl⟩,trivial⟩) (Ul (pv 4)) (λ_ _ _ _=>Gi (i:=0) (show List.Nodup (["marks", "columns", "i", "numbers"]:List Str) by decide +kernel) rfl (Or.inl rfl)) (λ_ _ _ _=>Ja) (λ_ _ _ _=>@GO _ _ _ _ _ (@Ga _ _ _ _ _ (@Gk _ _ _ _ _ _ _ _ _ _ _ _ _ _ _ _ GWn (hr.mono (by decide)) rfl mWn FWn.kp bWn .nil GM (@Ga _ _ _ _ _ (pv 0) (@Ga _ _ _ _ _ (pv 2) (@Ga _ _ _ _ _ (pv 1) Ge rfl) rfl) rfl) (by decide) rfl rfl) (@Ga _ _ _ _ _ (Jy hu1 (pv 3) (pv 0) (λ_ _=>rfl)) Ge rfl) rfl)))
    (@Gf _ _ _ (@Gu _ _ _ _ (GA (ZaI K) rfl mSor PyProof.Rows.boot_sorted (@Ga _ _ _ _ _ (Jm (own:=["pair"]) rfl (Gj (fr:=[("columns", 1)]) [(".0", .local),("pair", .local),("columns", .cell)] rfl rfl (by decide +kernel) rfl (by decide +kernel) ⟨rfl,trivial⟩ ⟨λh=>GN h,λh=>GN h,λ_=>⟨_,rfl⟩,trivial⟩ ⟨⟨rfl,.inl rfl,.inl rfl⟩,trivial⟩) (JM K (pv 5)) (λ_ _ _ _=>Gi (i:=0) (show List.Nodup (["pair", "columns"]:List Str) by decide +kernel) rfl (Or.inl rfl)) (λ_ _ _ _=>JG (Gr YJ (@G3 _ _ _ _ _ _ _ (OP K) (pv 0) Gg (λ_ _=>rfl)) (@Gx _ _ _ _ _ _ _ _ ZaJ Jq (pv 1)) (Gw _))) (λ_ _ _ _=>pv 0)) Ge rfl)))))))),?_⟩
  rcases h with ⟨bad,e⟩ | ⟨r',c',rfl,rfl,r1,c1,r2,c2,rc,h⟩
  ·exact ⟨_,rfl,_,rfl,_,_,rfl,.inr ⟨bad,e⟩⟩
  refine ⟨_,rfl,_,rfl,_,_,rfl,.inl ⟨r',c',rfl,rfl,r1,c1,r2,c2,λwb l xs H1 s1 hwb hl nwl ewb el P1=>?_⟩⟩;have W1:WebAt H1 wb l ((r' * c':Nat):Int) xs (GJ r' c' (r' * c')):=⟨by rw [ewb];push_cast;rfl,el,P1⟩;dsimp only [GG];have hgl:=ON r' c' (r' * c');rcases h with ⟨bad,e⟩ | ⟨i',rfl,i1,i2,il,hU,q⟩
  ·refine ⟨_,rfl,_,_,rfl,rfl,_,rfl,OO (λh0=>?_) (λh0=>?_)⟩
   ·have h0':1<=i:=of_decide_eq_true h0;refine ⟨_,rfl,_,_,rfl,rfl,_,rfl,?_⟩;rw [decide_eq_false λz=>bad ⟨h0',z⟩];exact G9 ⟨by decide,e H1 s1⟩
   ·exact ⟨_,rfl,G9 ⟨by decide,e H1 s1⟩⟩
  refine ⟨_,rfl,_,_,rfl,rfl,_,rfl,?_⟩;rw [decide_eq_true (show (1:Int)<=(i':Int) by lia)];refine G9 ⟨_,rfl,_,_,rfl,rfl,_,rfl,?_⟩;rw [decide_eq_true (show (i':Int)<(r':Int) by lia)];refine Je ?_;have hi16:i' * (2 * c' - 1)<=16 * 31:=Nat.mul_le_mul (by lia) (by lia);refine ⟨_,rfl,λe1 he1 o1=>?_⟩;have s2:Same H1 (upd H1 e1 (.frz o1 (.dK []))):=Same.new he1;have E1:EndD (upd H1 e1 (.frz o1 (.dK []))) e1 nE nE:=⟨rfl,rfl,o1,Gb⟩;generalize upd H1 e1 (.frz o1 (.dK []))=H2 at s2 E1 ⊢;refine λe2 he2 o2=>?_;have s3:Same H2 (upd H2 e2 (.frz o2 (.dK []))):=Same.new he2;have E2:EndD (upd H2 e2 (.frz o2 (.dK []))) e2 nE nE:=⟨rfl,rfl,o2,Gb⟩;have E1':=E1.same s3;generalize upd H2 e2 (.frz o2 (.dK []))=H3 at s3 E2 E1' ⊢;have W3:=W1.same (s2.trans s3);have S3:=s1.trans (s2.trans s3);have hmul:(i':Int) * (2 * (c':Int)-1)=((i' * (2 * c' - 1):Nat):Int):=by
   rw [Int.natCast_mul,Int.natCast_sub (by lia)]
   push_cast
   rfl
  refine ⟨_,rfl,_,rfl,_,rfl,_,_,rfl,rfl,.inl ⟨by lia,by lia⟩,wb,l,e1,e2,r' * c',i' * (2 * c' - 1),xs,GJ r' c' (r' * c'),by rw [<-hmul];rfl,W3,⟨Nat.mul_le_mul r1 c1,by lia,by lia,Wn c1⟩,E1',E2,il,hU,λd ks H4 s4 hd ed rp=>?_⟩;have S4:=S3.trans s4;dsimp only [GG];have hdH:H d=none:=S3.free hd;refine ⟨_,rfl,d,_,rfl,.inl ⟨ed,λo=>?_⟩⟩;have s5:SameX d H4 (upd H4 d (.frz o (.dT (ks.map kvI)))):=λb u n y=>Gm y n;have hd5:upd H4 d (.frz o (.dT (ks.map kvI))) d=some (.frz o (.dT (ks.map kvI))):=Gb;generalize upd H4 d (.frz o (.dT (ks.map kvI)))=H5 at s5 hd5 ⊢;have S5:Same H H5:=λa u y=>s5 _ _ (λz=>by rw [z,hdH] at y;cases y) (S4 _ _ y);refine λD hD=>?_;have rl:ks.length<=4194304:=by
   obtain ⟨U,h1,h2⟩:=hU _ (Nat.le_refl _);exact Nat.le_trans (Vc rp h2) h1
  have hu1':=hu1
  let wd:List Int×Int->Str×Int:=λp=>(mkS (Zz p.1 ((i':Int) * (c':Int)) c'),p.2)
  refine WM (a:=d) (o:=o) (kvs:=ks.map kvI) (λi ys H6=>∃zs:List SIz,ys=zs.map (λz=>V.ref z.1)/\Same H5 H6/\H6 D=some (.lst ys)/\zs.map (·.2)=(ks.take i).map wd/\∀z∈zs,H6 z.1=some (.tup [.str z.2.1,.int z.2.2]))
   ⟨[],rfl,Same.new hD,Gb,rfl,by simp⟩ (λi ys H6 _ ⟨_,_,y,_⟩=>y _ _ hd5) ?_ ?_
  ·rintro i kk v b ys H6 hkv hb ⟨zs,rfl,s6,hD6,hz,hzs⟩;rw [List.getElem?_map] at hkv;obtain ⟨p,hp,ep⟩:=Option.map_eq_some_iff.mp hkv;cases ep;have hpm:=List.mem_of_getElem? hp;have hil:i<ks.length:=(List.getElem?_eq_some_iff.mp hp).1;have ebk:=hb;rw [Jb] at hb;have om:=ZaZ (rs:=GJ r' c' (r' * c')) (k:=r' * c') (Nat.mul_le_mul r1 c1) (Wn c1) il _ (rp.mem hpm);have vb:GZ (ks.map kvI) (p.1.map Sum.inl)=some (.int p.2):=by rw [Ut,VF rp.nd hpm];rfl
   refine ⟨⟨rfl,rfl,rfl,trivial⟩,?_⟩;unfold YT;refine G9 ?_;have qV:(i'+1) * c'<=r' * c':=Nat.mul_le_mul_right c' (by lia);refine ⟨_,rfl,_,rfl,_,rfl,b,p.1,i',c',rfl,hb,by rw [om.1];lia,c1,by lia,by lia,λH7 s7=>?_⟩;have dg:DGet H7 d (.ref b) (some (.int p.2)):=by rw [<-vb];exact Or.inr ⟨_,_,b,.inr ⟨o,s7 _ _ (s6 _ _ hd5)⟩,rfl,s7 _ _ ebk,rfl⟩
   refine ⟨_,rfl,_,rfl,d,_,rfl,dg,GU,λT2 hT2=>?_⟩;have s8:Same H7 (upd H7 T2 (.tup [.str (wd p).1,.int p.2])):=Same.new hT2;have e8:upd H7 T2 (.tup [.str (wd p).1,.int p.2]) T2=some (.tup [.str (wd p).1,.int p.2]):=Gb;change upd H7 T2 (.tup [.str (wd p).1,.int p.2]) D=_/\_;generalize upd H7 T2 (.tup [.str (wd p).1,.int p.2])=H8 at s8 e8 ⊢;have hD8:=s8 _ _ (s7 _ _ hD6);have zl:(zs.map λz=>V.ref z.1).length=i:=by
    rw [List.length_map];have:=congrArg List.length hz;rw [List.length_map,List.length_map,List.length_take] at this
    lia
   have nD:∀{b u},H8 b=some u->(∀ys,u≠.lst ys)->b≠D:=λ{b u} y z y2=>by rw [y2,hD8] at y;cases y;exact z _ rfl
   refine ⟨hD8,by rw [zl];lia,zs++[(T2,wd p)],by rw [List.map_append];rfl,(s6.trans (s7.trans s8)).put hD,Gb,?_,λz hz'=>?_⟩
   ·rw [List.map_append,hz,List.take_add_one,hp,List.map_append]
    rfl
   ·rcases List.mem_append.mp hz' with hz' | hz'
    ·have y1:=s8 _ _ (s7 _ _ (hzs z hz'));exact Gm y1 (nD y1 (λ_ z=>by cases z))
    ·rw [List.mem_singleton.mp hz'];exact Gm e8 (nD e8 (λ_ z=>by cases z))
  ·rintro ys H6 ⟨zs,rfl,s6,hD6,hz,hzs⟩;rw [List.length_map,List.take_length] at hz;dsimp only [GG];have zl:zs.length=ks.length:=by
    have:=congrArg List.length hz
    rwa [List.length_map,List.length_map] at this
   refine ⟨_,rfl,D,rfl,⟨_,SqL.of hD6⟩,λD2 hD2=>?_⟩;refine GH (K:=K) (a:=D) (xs:=zs.map λz=>V.ref z.1) (λi ys H7=>∃us:List SIz,ys=us.map (λz=>V.ref z.1)/\Same H6 H7/\H7 D2=some (.lst ys)/\us=(zs.take i).filter λz=>!decide (z.2.1=mkS (Wm c'))) ⟨[],rfl,Same.new hD2,Gb,rfl⟩ (λi ys H7 _ ⟨_,_,y,_⟩=>SqL.of (y _ _ hD6)) ?_ ?_
   ·rintro i x ys H7 hx ⟨us,rfl,s7,hD7,hus⟩;rw [List.getElem?_map] at hx;obtain ⟨z,hz1,rfl⟩:=Option.map_eq_some_iff.mp hx;have hzm:=List.mem_of_getElem? hz1;have hil:i<zs.length:=(List.getElem?_eq_some_iff.mp hz1).1;have ul:us.length<=i:=by
     rw [hus];refine Nat.le_trans (List.length_filter_le _ _) ?_;rw [List.length_take];lia
    refine ⟨⟨rfl,trivial⟩,?_⟩;refine ⟨_,rfl,z.1,_,_,_,rfl,rfl,SqT.of (s7 _ _ (hzs z hzm)),Jx (j:=0) rfl,_,rfl,46,c',rfl,rfl,c1,by lia,?_⟩;refine ⟨rfl,_,rfl,?_⟩;show if (!decide (V.str z.2.1=V.str (mkS (Wm c'))))=true then _ else _
    have tk:(zs.take (i+1)).filter (λz=>!decide (z.2.1=mkS (Wm c')))=us++(if z.2.1=mkS (Wm c') then [] else [z]):=by
     rw [List.take_add_one,hz1,List.filter_append,<-hus]
     congr 1
     show List.filter _ [z]=_;rw [List.filter_cons];by_cases y:z.2.1=mkS (Wm c')
     ·rw [if_neg (by rw [decide_eq_true y];exact Bool.false_ne_true),if_pos y];rfl
     ·rw [if_pos (by rw [decide_eq_false y];rfl),if_neg y];rfl
    by_cases y:z.2.1=mkS (Wm c')
    ·rw [if_pos y,List.append_nil] at tk;rw [decide_eq_true (by rw [y])];refine Je ⟨us,rfl,s7,hD7,tk.symm⟩
    ·rw [if_neg y] at tk;rw [decide_eq_false (λq=>y (V.str.inj q))];refine G9 ⟨_,rfl,hD7,by rw [List.length_map];lia,us++[z],by rw [List.map_append];rfl,s7.put hD2,Gb,tk.symm⟩
   ·rintro ys H7 ⟨us,rfl,s7,hD7,hus⟩;rw [List.length_map,List.take_length] at hus;have um:∀z∈us,z∈zs:=λz hz'=>by rw [hus] at hz';exact (List.mem_filter.mp hz').1
    refine ⟨D2,us,rfl,SqL.of hD7,λz hz'=>SqT.of (s7 _ _ (hzs z (um z hz'))),λL zs' hL pm so=>?_⟩;have S7:Same H H7:=S5.trans (s6.trans s7);have s8:Same H7 (upd H7 L (.lst (zs'.map λz=>V.ref z.1))):=Same.new hL;refine q L zs' ks _ (S7.trans s8) (S7.free hL) Gb (λz hz'=>s8 _ _ (s7 _ _ (hzs z (um z (pm.mem_iff.mp hz'))))) rp ?_ so;refine (pm.map _).trans ?_;unfold ZcN;have e1:us.map (·.2)=(zs.map (·.2)).filter λq=>!decide (q.1=mkS (Wm c')):=by
     rw [hus,List.filter_map]
     rfl
    rw [e1,hz]
end
end M
namespace M
open PySem L2
section
variable {P:Program}{w:World}{K:W.Frag}{mg:Str->Option Value}{base:Heap}
def Zek:Sp:=λvs H Q _=>∃(c:Int)(k:Nat),vs=[.int c,.int (k:Int)]/\k<=100/\∀z:Int,Q (.int z) H
theorem scMi:Gs ["cell", "k", "number"] ["cell", "k"] (Gc sMi):=⟨rfl,rfl,rfl,by decide +kernel,rfl,by decide +kernel,by decide +kernel⟩
theorem ZdJ {f:Addr}{fd:FuncData}(F:Fun K "_law_mixed" "_law_mixed" sMi f fd):GL P w K mg base CX0 1 f fd ["cell", "k"] Zek:=by
 refine F.ok scMi (λvs H Q E h=>?_) (λcdv A outer s H vs Q E hr h=>?_)
 ·obtain ⟨_,_,rfl,_⟩:=h
  rfl
 ·obtain ⟨c,k,rfl,hk,q⟩:=h;refine ⟨_,Gd (GW (Gr YK (pv 0) (Gx Zbq Gg Gg) (Gw _)) (Gf (Gu (pv 0))) Gy)
    (Gd (Gq (i:=2) scMi.nd rfl (Or.inl rfl) (Gx OT (Gx GF (Gx GF (Gx GF (Gx Jd (pv 0) Gg) (Gx Jd (Gx Jd Gg (pv 1)) (pv 1))) (Gx Jd Gg (pv 1))) Gg) Gg))
    (Gd (Gq (i:=2) scMi.nd rfl (Or.inl rfl) (Gx OT (Gx Jd (pv 2) (pv 2)) Gg))
    (Gf (Gu (Gx GF (Gx GF (Gx Jd (Gx Jd (pv 2) (pv 2)) (pv 2)) (Gx Jd Gg (pv 2))) (pv 1)))))),?_⟩
  refine ⟨_,rfl,_,_,rfl,rfl,⟨by decide,by decide,by decide⟩,_,_,rfl,rfl,_,rfl,OO (λ_=>?_) (λ_=>?_)⟩
  ·exact ⟨_,rfl,q _⟩
  have m1:∀a:Int,0<=a % 2147483647/\a % 2147483647<2147483647:=λa=>⟨Int.emod_nonneg _ (by decide),Int.emod_lt_of_pos _ (by decide)⟩;have m2:∀a:Int,0<=a % 2147483629/\a % 2147483629<2147483629:=λa=>⟨Int.emod_nonneg _ (by decide),Int.emod_lt_of_pos _ (by decide)⟩;have c1:∀a b:Int,0<=a->a<4294967296->CMul a b:=λa b h1 h2=>.inl ⟨by lia,by lia⟩;have c2:∀a b:Int,0<=b->b<4294967296->CMul a b:=λa b h1 h2=>.inr ⟨by lia,by lia⟩;refine ⟨_,rfl,_,_,rfl,rfl,c2 _ _ (by decide) (by decide),_,rfl,_,_,rfl,rfl,c1 _ _ (by decide) (by decide),_,rfl,_,_,rfl,rfl,c2 _ _ (by lia) (by lia),_,_,rfl,rfl,_,rfl,_,_,rfl,rfl,c1 _ _ (by decide) (by decide),_,_,rfl,rfl,_,_,rfl,rfl,_,_,rfl,rfl,(by show (0:Int)<2147483647;decide),?_⟩;generalize hx:(c * 48271+7919 * (k:Int) * (k:Int)+104729 * (k:Int)+19) % 2147483647=x;have hx:=hx▸m1 (c * 48271+7919 * (k:Int) * (k:Int)+104729 * (k:Int)+19);refine ⟨_,rfl,_,rfl,_,_,rfl,rfl,c1 _ _ (by lia) (by lia),_,_,rfl,rfl,(by show (0:Int)<2147483629;decide),?_⟩;generalize hy:x * x % 2147483629=y;have hy:=hy▸m2 (x * x);exact ⟨_,rfl,_,rfl,_,_,rfl,rfl,c1 _ _ (by lia) (by lia),_,rfl,_,_,rfl,rfl,c2 _ _ (by lia) (by lia),_,rfl,_,_,rfl,rfl,c1 _ _ (by decide) (by decide),_,_,rfl,rfl,_,rfl,_,_,rfl,rfl,q _⟩
end
end M
namespace M
open PySem L2
abbrev NM:=List (List Int×List (List Int))
def rcS (rows cols:Nat)(r c:Nat)(ks:KI):KI:=
 let a:=if c+1<cols then OM ks [(r:Int),(c:Int),0] (ks.length:Int) else ks
 if r+1<rows then OM a [(r:Int),(c:Int),1] (a.length:Int) else a
def rcR (rows cols:Nat)(r:Nat)(n:Nat)(ks:KI):KI:=(List.range n).foldl (λks c=>rcS rows cols r c ks) ks
def numF (rows cols:Nat)(n:Nat):KI:=(List.range n).foldl (λks r=>rcR rows cols r cols ks) []
def Ve (nm:NM)(k:List Int):Option (List (List Int)):=(nm.find? λp=>decide (p.1=k)).map (·.2)
def Vf (nm:NM)(k x:List Int):NM:=if (nm.any λp=>decide (p.1=k))=true then nm.map (λp=>if p.1=k then (p.1,p.2++[x]) else p) else nm++[(k,[x])]
def Zbc (k:List Int):List Int:=[gA k 0+gA k 2,gA k 1+1-gA k 2]
def Zbd (k:List Int):List Int:=[gA k 0,gA k 1]
def VH (roads:List Int)(nm:NM)(p:List Int×Int):NM:=if p.2∈roads then Vf (Vf nm (Zbd p.1) (Zbc p.1)) (Zbc p.1) (Zbd p.1) else nm
def YD (ks:KI)(roads:List Int):NM:=ks.foldl (VH roads) []
def Wo (roads:List Int):List (List Int):=roads.foldl (λf r=>f++f.map (·++[r])) [[]]
def Zbe (nm:NM)(before:Option (List Int))(here:List Int):List (List Int):=((Ve nm here).getD []).filter λo=>!decide (some o=before)
def ZA (nm:NM)(i:Int):Nat->Option (List Int)->List Int->Option (List Int)
 | 0,_,_=>none
 | f+1,before,here=>if before=none\/gA here 0<i then (if (Ve nm here).isSome then ((Zbe nm before here).head?).bind λx=>ZA nm i f (some here) x else none) else some here
def Za1 (seen:List (List Int))(o:List Int):List (List Int):=if o∈seen then seen else seen++[o]
def Za2 (nm:NM):Nat->List (List Int)->Nat->Option (List (List Int))
 | 0,_,_=>none
 | f+1,seen,at_=>match seen[at_]? with
  | none=>some seen
  | some p=>(Ve nm p).bind λl=>Za2 nm f (l.foldl Za1 seen) (at_+1)
def Za3 (nm:NM)(i:Int)(cols:Nat):List (List Int):=((List.range cols).map λ(c:Nat)=>[i,(c:Int)]).filter λk=>(Ve nm k).isSome
def ZcO (nm:NM)(i:Int)(c:Nat):Option Nat:=if (Ve nm [i,(c:Int)]).isSome then (ZA nm i 40 none [i,(c:Int)]).bind λe=>some (if gA e 1<(c:Int) then 41 else 40) else some 46
def Uv (nm:NM)(i:Int):Nat->Option (List Nat)
 | 0=>some []
 | c+1=>(Uv nm i c).bind λl=>(ZcO nm i c).map λs=>l++[s]
def Yn (nm:NM)(i:Int)(cols:Nat):Option (Option (List Nat)):=
 if (nm.any λp=>decide (gA p.1 0<i) && !decide (p.2.length=2))=true then some none
 else if Za3 nm i cols=[] then some none
 else (Za2 nm 40 (Za3 nm i cols) 0).bind λs=>if s.length=nm.length then (Uv nm i cols).map some else some none
abbrev TI:=List (List Nat×Int)
def Wp (ks:TI)(m:List Nat):Option Int:=(ks.find? λp=>decide (p.1=m)).map (·.2)
def VI (ks:TI)(m:List Nat)(n:Int):TI:=if (ks.any λp=>decide (p.1=m))=true then ks.map (λp=>if p.1=m then (p.1,n) else p) else ks++[(m,n)]
def Z7 (ks:KI)(i:Int)(cols:Nat)(f:Option TI)(some_:List Int):Option TI:=f.bind λt=>(Yn (YD ks some_) i cols).map λw=>match w with
 | none=>t
 | some m=>VI t m ((Wp t m).getD 0+1)
def rdsF (ks:KI)(i:Int):List Int:=(ks.filter λp=>decide (gA p.1 0<i)).map (·.2)
def ZcP (rows cols:Nat)(i:Nat):Option TI:=let ks:=numF rows cols rows;(Wo (rdsF ks (i:Int))).foldl (Z7 ks (i:Int) cols) (some [])
end M
namespace M
open PySem L2
theorem Uw (ks:KI)(m:List Int)(n:Int):(OM ks m n).length<=ks.length+1:=by
 unfold OM;split
 ·rw [List.length_map];lia
 ·rw [List.length_append];exact Nat.le_refl _
theorem Za4 (rows cols r c:Nat)(ks:KI):(rcS rows cols r c ks).length<=ks.length+2:=by
 unfold rcS;dsimp only;have h1:=Uw ks [(r:Int),(c:Int),0] (ks.length:Int);have h2:=Uw (OM ks [(r:Int),(c:Int),0] (ks.length:Int)) [(r:Int),(c:Int),1] ((OM ks [(r:Int),(c:Int),0] (ks.length:Int)).length:Int);have h3:=Uw ks [(r:Int),(c:Int),1] (ks.length:Int);split <;> split <;> lia
theorem Wq (rows cols r n:Nat)(ks:KI):rcR rows cols r (n+1) ks=rcS rows cols r n (rcR rows cols r n ks):=by
 unfold rcR;rw [List.range_succ,List.foldl_append]
 rfl
theorem Vg (rows cols n:Nat):numF rows cols (n+1)=rcR rows cols n cols (numF rows cols n):=by
 unfold numF;rw [List.range_succ,List.foldl_append]
 rfl
theorem VJ (rows cols r:Nat)(ks:KI):∀n,(rcR rows cols r n ks).length<=ks.length+2 * n
 | 0=>Nat.le_refl _
 | n+1=>by
  rw [Wq];have:=Za4 rows cols r n (rcR rows cols r n ks);have:=VJ rows cols r ks n
  lia
theorem Wr (rows cols:Nat):∀n,(numF rows cols n).length<=2 * cols * n
 | 0=>Nat.le_refl _
 | n+1=>by
  rw [Vg];have h1:=VJ rows cols n (numF rows cols n) cols;have h2:=Wr rows cols n;rw [Nat.mul_succ]
  lia
section
variable {P:Program}{w:World}{K:W.Frag}{mg:Str->Option Value}{base:Heap}
theorem Yo:3<=sizeLine:=by have h16:(16777216:Nat)=sizeLine:=sizeLine_eq.symm;lia
def Zcb:Sp:=λvs H Q _=>∃(rows cols:Nat),vs=[.int (rows:Int),.int (cols:Int)]/\rows<=8/\cols<=8 /\
 ∀(d:Addr)(o:Obj)(H':Hp),Same H H'->H d=none->H' d=some (.frz o (.dT ((numF rows cols rows).map kvI)))->Q (.ref d) H'
theorem scNum:Gs ["rows", "columns", "found", "row", "column"] ["rows", "columns"] (Gc Z0):=⟨rfl,rfl,rfl,by decide +kernel,rfl,by decide +kernel,by decide +kernel⟩
theorem Zcc {f:Addr}{fd:FuncData}(F:Fun K "_law_numbers" "_law_numbers" Z0 f fd)(mRange:mg "range" = none)(mLen:mg "len" = none):GL P w K mg base CX0 1 f fd ["rows", "columns"] Zcb:=by
 refine F.ok scNum (λvs H Q E h=>?_) (λcdv A outer s0 H vs Q E hr h=>?_)
 ·obtain ⟨_,_,rfl,_⟩:=h
  rfl
 ·obtain ⟨rows,cols,rfl,hr8,hc8,q⟩:=h;have hu1:(A.deeper (PyProof.Rows.envOfC "_law_numbers" (Gc Z0) s0.heap.objs.size f cdv)).units+1<cLine:=by have:=hr.un;lia
  have h16:(16777216:Nat)=sizeLine:=sizeLine_eq.symm;refine ⟨_,(@Gd _ _ _ _ _ (@Gq _ _ 2 _ _ _ _ scNum.nd rfl (Or.inl rfl) Ot rfl (by first | exact .inl rfl | exact .inr rfl))
    (@Gd _ _ _ _ _ (@GX _ _ _ _ _ _ _ _ PassesOwn.never rfl (Jw rfl mRange (@Ga _ _ _ _ _ (pv 0) Ge rfl)) (Gi (i:=3) scNum.nd rfl (Or.inl rfl))
    (@Gf _ _ _ (@GX _ _ _ _ _ _ _ _ PassesOwn.never rfl (Jw rfl mRange (@Ga _ _ _ _ _ (pv 1) Ge rfl)) (Gi (i:=4) scNum.nd rfl (Or.inl rfl))
    (@Gd _ _ _ _ _ (@GW _ _ _ _ _ _ _ _ (Gr JY (@Gx _ _ _ _ _ _ _ _ GF (pv 4) Gg) (pv 1) (Gw _)) (@Gf _ _ _ (JS hu1 (pv 2) (@GO _ _ _ _ _ (@Ga _ _ _ _ _ (pv 3) (@Ga _ _ _ _ _ (pv 4) (@Ga _ _ _ _ _ Gg Ge rfl) rfl) rfl)) (GA ZaL rfl mLen PySem.boot_len (@Ga _ _ _ _ _ (pv 2) Ge rfl)) rfl)) Gy)
    (@Gf _ _ _ (@GW _ _ _ _ _ _ _ _ (Gr JY (@Gx _ _ _ _ _ _ _ _ GF (pv 3) Gg) (pv 0) (Gw _)) (@Gf _ _ _ (JS hu1 (pv 2) (@GO _ _ _ _ _ (@Ga _ _ _ _ _ (pv 3) (@Ga _ _ _ _ _ (pv 4) (@Ga _ _ _ _ _ Gg Ge rfl) rfl) rfl)) (GA ZaL rfl mLen PySem.boot_len (@Ga _ _ _ _ _ (pv 2) Ge rfl)) rfl)) Gy))) (by intro _;rfl))) (by intro _;rfl))
    (@Gf _ _ _ (@Gu _ _ _ _ (Yd (pv 2)))))),?_⟩
  refine λd hd=>?_;have s1:Same H (upd H d (.dT [])):=Same.new hd;have e1:upd H d (.dT []) d=some (.dT (([]:KI).map kvI)):=Gb;generalize upd H d (.dT [])=H1 at s1 e1 ⊢;dsimp only [GG];refine ⟨_,rfl,_,rfl,by lia,by lia,?_⟩;refine JX (lo:=0) (λi σ H2=>∃v3 v4:Option V,σ=[some (.int (rows:Int)),some (.int (cols:Int)),some (.ref d),v3,v4]/\Same H H2/\H2 d=some (.dT ((numF rows cols i).map kvI))) ⟨_,_,rfl,s1,e1⟩ ?_ ?_
  ·rintro r σ H2 hrr ⟨v3,v4,rfl,s2,e2⟩;rw [Int.zero_add];have hr':r<rows:=by rw [Int.toNat_natCast] at hrr;exact hrr
   dsimp only [GG];refine ⟨_,rfl,_,rfl,by lia,by lia,?_⟩;refine JX (lo:=0) (λi σ H2=>∃v4:Option V,σ=[some (.int (rows:Int)),some (.int (cols:Int)),some (.ref d),some (.int (r:Int)),v4]/\Same H H2/\H2 d=some (.dT ((rcR rows cols r i (numF rows cols r)).map kvI))) ⟨_,rfl,s2,e2⟩ ?_ ?_
   ·rintro c σ H3 hcc ⟨v4,rfl,s3,e3⟩;rw [Int.zero_add];have hc':c<cols:=by rw [Int.toNat_natCast] at hcc;exact hcc
    have hn:=Wr rows cols r;have hm:2 * cols * r<=2 * 8 * 8:=Nat.mul_le_mul (Nat.mul_le_mul_left 2 hc8) (by lia);have hl:=VJ rows cols r (numF rows cols r) c;generalize hks:rcR rows cols r c (numF rows cols r)=ks at e3 hl;have tk:∀(H4:Hp)(T:Addr)(x:Int),H4 T=none->upd H4 T (.tup [.int (r:Int),.int (c:Int),.int x]) T=some (.tup ((([(r:Int),(c:Int),x]:List Int).map (Sum.inl:Int->Key)).map kV)):=λH4 T x _=>Gb;have le:∀(ks:KI),(ks.map kvI).length=ks.length:=λks=>List.length_map _;have h1:=Uw ks [(r:Int),(c:Int),0] (ks.length:Int);refine Jn (λσ2 H4=>σ2=[some (.int (rows:Int)),some (.int (cols:Int)),some (.ref d),some (.int (r:Int)),some (.int (c:Int))]/\Same H H4/\H4 d=some (.dT ((if c+1<cols then OM ks [(r:Int),(c:Int),0] (ks.length:Int) else ks).map kvI))) ?_ (λJ=>?_)
    ·rintro σ2 H4 ⟨rfl,s4,e4⟩;have hl4:(if c+1<cols then OM ks [(r:Int),(c:Int),0] (ks.length:Int) else ks).length<=ks.length+1:=by split <;> lia
     refine ⟨_,rfl,_,_,rfl,rfl,_,rfl,_,_,rfl,rfl,_,rfl,?_⟩;have un:rcR rows cols r (c+1) (numF rows cols r)=if r+1<rows then OM (if c+1<cols then OM ks [(r:Int),(c:Int),0] (ks.length:Int) else ks) [(r:Int),(c:Int),1] ((if c+1<cols then OM ks [(r:Int),(c:Int),0] (ks.length:Int) else ks).length:Int) else (if c+1<cols then OM ks [(r:Int),(c:Int),0] (ks.length:Int) else ks):=by rw [Wq,hks];rfl
     generalize (if c+1<cols then OM ks [(r:Int),(c:Int),0] (ks.length:Int) else ks)=k4 at e4 hl4 un;refine OO (λz=>?_) (λz=>?_)
     ·have z':r+1<rows:=by have:=of_decide_eq_true z;lia
      refine ⟨_,rfl,d,_,rfl,.inl e4,by rw [le];lia,?_⟩;refine ⟨_,rfl,_,rfl,_,rfl,Yo,λT hT=>?_⟩;have nd:d≠T:=Gh e4 hT;refine ⟨d,_,rfl,DPut.t (Gm e4 nd) (tk _ _ 1 hT) (by rw [le];lia),?_⟩;refine ⟨_,rfl,(s4.put (s4.free hT)).put hd,?_⟩;rw [Gb,un,if_pos z',le,Uu]
     ·have z':¬ (r+1<rows):=λy=>z (decide_eq_true (by lia));exact ⟨_,rfl,s4,by rw [un,if_neg z'];exact e4⟩
    ·refine ⟨_,rfl,_,_,rfl,rfl,_,rfl,_,_,rfl,rfl,_,rfl,?_⟩;refine OO (λz=>?_) (λz=>?_)
     ·have z':c+1<cols:=by have:=of_decide_eq_true z;lia
      refine ⟨_,rfl,d,_,rfl,.inl e3,by rw [le];lia,?_⟩;refine ⟨_,rfl,_,rfl,_,rfl,Yo,λT hT=>?_⟩;have nd:d≠T:=Gh e3 hT;refine ⟨d,_,rfl,DPut.t (Gm e3 nd) (tk _ _ 0 hT) (by rw [le];lia),?_⟩;refine J _ _ ⟨rfl,(s3.put (s3.free hT)).put hd,?_⟩;rw [Gb,if_pos z',le,Uu]
     ·have z':¬ (c+1<cols):=λy=>z (decide_eq_true (by lia));exact J _ _ ⟨rfl,s3,by rw [if_neg z'];exact e3⟩
   ·rintro σ H3 ⟨v4,rfl,s3,e3⟩;exact ⟨_,_,rfl,s3,by rw [Vg];rw [Int.toNat_natCast] at e3;exact e3⟩
  ·rintro σ H2 ⟨v3,v4,rfl,s2,e2⟩;rw [Int.toNat_natCast] at e2;refine ⟨_,rfl,d,_,rfl,e2,λo=>q d o _ (s2.put hd) hd Gb⟩
end
end M
namespace M
open PySem L2
abbrev ZN:=List (List Int×Addr×List (Addr×List Int))
def nmZ (zs:ZN):NM:=zs.map λz=>(z.1,z.2.2.map (·.2))
def kvZ (z:List Int×Addr×List (Addr×List Int)):List Key×V:=(z.1.map Sum.inl,.ref z.2.1)
structure NrOk (H:Hp)(zs:ZN):Prop where
 at_:∀z∈zs,H z.2.1=some (.lst (z.2.2.map λe=>V.ref e.1))
 el:∀z∈zs,∀e∈z.2.2,H e.1=some (.tup (e.2.map V.int))
 nd:(zs.map (·.2.1)).Nodup
 kn:(zs.map (·.1)).Nodup
theorem NrOk.keep {H H':Hp}{zs:ZN}(h:NrOk H zs)(k1:∀a ys,H a=some (.lst ys)->a∈zs.map (·.2.1)->H' a=some (.lst ys))(k2:∀a ts,H a=some (.tup ts)->H' a=some (.tup ts)):NrOk H' zs:=
 ⟨λz hz=>k1 _ _ (h.at_ z hz) (List.mem_map.mpr ⟨z,hz,rfl⟩),λz hz e he=>k2 _ _ (h.el z hz e he),h.nd,h.kn⟩
theorem NrOk.same {H H':Hp}{zs:ZN}(h:NrOk H zs)(s:Same H H'):NrOk H' zs:=h.keep (λa ys e _=>s _ _ e) λa ts e=>s _ _ e
theorem Z8 (zs:ZN)(k:List Int):((nmZ zs).any λp=>decide (p.1=k))=zs.any λz=>decide (z.1=k):=by
 unfold nmZ;rw [List.any_map]
 rfl
theorem JC (zs:ZN)(k:List Int):GZ (zs.map kvZ) (k.map Sum.inl)=(zs.find? λz=>decide (z.1=k)).map λz=>V.ref z.2.1:=by
 induction zs with
 | nil=>rfl
 | cons p zs ih=>
  unfold GZ at *;rw [List.map_cons,List.find?_cons,List.find?_cons];by_cases h:p.1=k
  ·rw [show decide ((kvZ p).1=k.map Sum.inl)=true from decide_eq_true (by show p.1.map Sum.inl=_;rw [h]),decide_eq_true h]
   rfl
  ·rw [show decide ((kvZ p).1=k.map Sum.inl)=false from decide_eq_false (λz=>h (inl_inj.mp z)),decide_eq_false h];exact ih
theorem O3 (zs:ZN)(k:List Int):Ve (nmZ zs) k=(zs.find? λz=>decide (z.1=k)).map λz=>z.2.2.map (·.2):=by
 induction zs with
 | nil=>rfl
 | cons p zs ih=>
  unfold Ve nmZ at *;rw [List.map_cons,List.find?_cons,List.find?_cons];by_cases h:p.1=k
  ·rw [show decide (((p.1,p.2.2.map (·.2)):List Int×List (List Int)).1=k)=true from decide_eq_true h]
   rfl
  ·rw [show decide (((p.1,p.2.2.map (·.2)):List Int×List (List Int)).1=k)=false from decide_eq_false h];exact ih
theorem Za5 {zs:ZN}{k:List Int}(h:GZ (zs.map kvZ) (k.map Sum.inl)=none)(L:Addr)(es:List (Addr×List Int)):Ol (zs.map kvZ) (k.map Sum.inl) (.ref L)=(zs++[(k,L,es)]).map kvZ:=by
 unfold Ol;rw [if_neg,List.map_append]
 ·rfl
 ·intro c;obtain ⟨p,hp,e⟩:=List.any_eq_true.mp c;unfold GZ at h;rw [Option.map_eq_none_iff,List.find?_eq_none] at h;exact absurd e (by simpa using h p hp)
theorem ZB {zs:ZN}{k:List Int}(h:GZ (zs.map kvZ) (k.map Sum.inl)=none):∀z∈zs,z.1≠k:=by
 rw [JC,Option.map_eq_none_iff,List.find?_eq_none] at h;intro z hz e;exact absurd (decide_eq_true e) (by simpa using h z hz)
theorem Zcd {H:Hp}{zs:ZN}{k x:List Int}{T:Addr}{v:V}(ok:NrOk H zs)(hT:H T=some (.tup (x.map V.int)))(hv:GZ (zs.map kvZ) (k.map Sum.inl)=some v) :
  ∃z∈zs,z.1=k/\v=.ref z.2.1/\∃zs':ZN,zs'.map kvZ=zs.map kvZ/\zs'.map (·.2.1)=zs.map (·.2.1)/\nmZ zs'=Vf (nmZ zs) k x/\NrOk (upd H z.2.1 (.lst (z.2.2.map (λe=>V.ref e.1)++[.ref T]))) zs':=by
 rw [JC] at hv;obtain ⟨z,hz,rfl⟩:=Option.map_eq_some_iff.mp hv;have zk:z.1=k:=of_decide_eq_true (by simpa using List.find?_some hz);have hzm:=List.mem_of_find?_eq_some hz
 let g:List Int×Addr×List (Addr×List Int)->List Int×Addr×List (Addr×List Int):=λy=>if y.1=k then (y.1,y.2.1,y.2.2++[(T,x)]) else y
 have g1:∀y,(g y).1=y.1:=λy=>by show (if y.1=k then _ else _:List Int×Addr×List (Addr×List Int)).1=_;split <;> rfl
 have g2:∀y,(g y).2.1=y.2.1:=λy=>by show (if y.1=k then _ else _:List Int×Addr×List (Addr×List Int)).2.1=_;split <;> rfl
 have uq:∀y∈zs,y.1=k->y=z:=λy hy e=>by
  obtain ⟨i,hi,ei⟩:=List.getElem_of_mem hy;obtain ⟨j,hj,ej⟩:=List.getElem_of_mem hzm;have:=(List.getElem_inj (i:=i) (j:=j) (h₀:=by rw [List.length_map];exact hi) (h₁:=by rw [List.length_map];exact hj) ok.kn).mp (by rw [List.getElem_map,List.getElem_map,ei,ej,e,zk]);subst this;rw [<-ei,<-ej]
 have ua:∀y∈zs,y.2.1=z.2.1->y=z:=λy hy e=>by
  obtain ⟨i,hi,ei⟩:=List.getElem_of_mem hy;obtain ⟨j,hj,ej⟩:=List.getElem_of_mem hzm;have:=(List.getElem_inj (i:=i) (j:=j) (h₀:=by rw [List.length_map];exact hi) (h₁:=by rw [List.length_map];exact hj) ok.nd).mp (by rw [List.getElem_map,List.getElem_map,ei,ej,e]);subst this;rw [<-ei,<-ej]
 have m2:(zs.map g).map (·.2.1)=zs.map (·.2.1):=by rw [List.map_map];exact List.map_congr_left λy _=>g2 y
 have zat:=ok.at_ z hzm;have tk:∀(a:Addr)(ts:List V),H a=some (.tup ts)->upd H z.2.1 (.lst (z.2.2.map (λe=>V.ref e.1)++[.ref T])) a=some (.tup ts):=λa ts e=>Gm e (GV e zat (λq=>by cases q));refine ⟨z,hzm,zk,rfl,zs.map g,?_,m2,?_,⟨λy hy=>?_,λy hy e he=>?_,by rw [m2];exact ok.nd,?_⟩⟩
 ·rw [List.map_map];refine List.map_congr_left λy _=>?_;show ((g y).1.map Sum.inl,V.ref (g y).2.1)=kvZ y;rw [g1,g2]
  rfl
 ·unfold Vf;rw [Z8,if_pos (List.any_eq_true.mpr ⟨z,hzm,decide_eq_true zk⟩)];unfold nmZ;rw [List.map_map,List.map_map];refine List.map_congr_left λy _=>?_;show ((g y).1,(g y).2.2.map (·.2))=if y.1=k then (y.1,y.2.2.map (·.2)++[x]) else (y.1,y.2.2.map (·.2))
  by_cases c:y.1=k
  ·rw [show g y=(y.1,y.2.1,y.2.2++[(T,x)]) from if_pos c,if_pos c,List.map_append]
   rfl
  ·rw [show g y=y from if_neg c,if_neg c]
 ·obtain ⟨y0,hy0,rfl⟩:=List.mem_map.mp hy;by_cases c:y0.1=k
  ·obtain rfl:=uq y0 hy0 c;rw [show g y0=(y0.1,y0.2.1,y0.2.2++[(T,x)]) from if_pos c,Gb,List.map_append]
   rfl
  ·rw [show g y0=y0 from if_neg c];exact Gm (ok.at_ y0 hy0) λe=>c (by rw [ua y0 hy0 e];exact zk)
 ·obtain ⟨y0,hy0,rfl⟩:=List.mem_map.mp hy;by_cases c:y0.1=k
  ·rw [show g y0=(y0.1,y0.2.1,y0.2.2++[(T,x)]) from if_pos c] at he;rcases List.mem_append.mp he with he | he
   ·exact tk _ _ (ok.el y0 hy0 e he)
   ·rw [List.mem_singleton.mp he];exact tk _ _ hT
  ·rw [show g y0=y0 from if_neg c] at he;exact tk _ _ (ok.el y0 hy0 e he)
 ·rw [List.map_map,show zs.map ((λz=>z.1)∘g)=zs.map (·.1) from List.map_congr_left λy _=>g1 y];exact ok.kn
theorem Zce {H H':Hp}{zs:ZN}{k x:List Int}{T L:Addr}(ok:NrOk H zs)(s:∀a u,a ∉ [L]->(∀kvs,u≠.dT kvs)->H a=some u->H' a=some u)(hT:H' T=some (.tup (x.map V.int)))(hv:GZ (zs.map kvZ) (k.map Sum.inl)=none)(nl:∀z∈zs,z.2.1≠L)(hL:∀ts,H L≠some (.tup ts))(hL':H' L=some (.lst [.ref T])) :
  nmZ (zs++[(k,L,[(T,x)])])=Vf (nmZ zs) k x/\NrOk H' (zs++[(k,L,[(T,x)])]):=by
 have fn:=ZB hv;have tk:∀(a:Addr)(ts:List V),H a=some (.tup ts)->H' a=some (.tup ts):=λa ts e=>s _ _ (λz=>hL ts (by rw [<-List.mem_singleton.mp z];exact e)) (λ_ z=>by cases z) e;refine ⟨?_,⟨λy hy=>?_,λy hy e he=>?_,?_,?_⟩⟩
 ·unfold Vf;rw [Z8,if_neg,nmZ,List.map_append]
  ·rfl
  ·intro c;obtain ⟨z,hz,e⟩:=List.any_eq_true.mp c;exact fn z hz (of_decide_eq_true e)
 ·rcases List.mem_append.mp hy with hy | hy
  ·exact s _ _ (λz=>nl y hy (List.mem_singleton.mp z)) (λ_ z=>by cases z) (ok.at_ y hy)
  ·rw [List.mem_singleton.mp hy];exact hL'
 ·rcases List.mem_append.mp hy with hy | hy
  ·exact tk _ _ (ok.el y hy e he)
  ·rw [List.mem_singleton.mp hy] at he;rw [List.mem_singleton.mp he];exact hT
 ·rw [List.map_append,List.nodup_append];refine ⟨ok.nd,by simp,λa ha b hb=>?_⟩;obtain ⟨z,hz,rfl⟩:=List.mem_map.mp ha;have hb:b=L:=by simpa using hb
  rw [hb];exact nl z hz
 ·rw [List.map_append,List.nodup_append];refine ⟨ok.kn,by simp,λa ha b hb=>?_⟩;obtain ⟨z,hz,rfl⟩:=List.mem_map.mp ha;have hb:b=k:=by simpa using hb
  rw [hb];exact fn z hz
theorem Ws (nm:NM)(k x:List Int):(Vf nm k x).length<=nm.length+1:=by
 unfold Vf;split
 ·rw [List.length_map];lia
 ·rw [List.length_append];exact Nat.le_refl _
theorem Ux {nm:NM}{k x:List Int}{n:Nat}(h:∀p∈nm,p.2.length<=n):∀p∈Vf nm k x,p.2.length<=n+1:=by
 unfold Vf;split
 ·intro p hp;obtain ⟨q,hq,rfl⟩:=List.mem_map.mp hp;have:=h q hq;split
  ·show (q.2++[x]).length<=_;rw [List.length_append];show q.2.length+1<=_
   lia
  ·lia
 ·intro p hp;rcases List.mem_append.mp hp with hp | hp
  ·have:=h p hp;lia
  ·rw [List.mem_singleton.mp hp];show 1<=n+1
   lia
theorem Zcf {H H5:Hp}{a L:Addr}{zs:ZN}{k:List Int}{n:Nat}{G:V->Hp->Prop}(s5:Same H H5)(ha:H a=none)(ea:H5 a=some (.dT (zs.map kvZ)))(ok:NrOk H5 zs)(fr:∀z∈zs,H z.2.1=none)(hL:H L=none)(eL:H5 L=some (.lst []))(nl:∀z∈zs,z.2.1≠L)(ln:zs.length<=n)(le:∀p∈nmZ zs,p.2.length<=n)(g:∀(l:Addr)(ys:List V)(H6:Hp),H6 l=some (.lst ys)->ys.length<=n->Same H H6->(∀b ts,H5 b=some (.tup ts)->H6 b=some (.tup ts))->(∀(x:List Int)(T:Addr)(H7:Hp),Same H6 H7->H7 T=some (.tup (x.map V.int))->∃zs':ZN,Same H (upd H7 l (.lst (ys++[.ref T])))/\upd H7 l (.lst (ys++[.ref T])) a=some (.dT (zs'.map kvZ))/\NrOk (upd H7 l (.lst (ys++[.ref T]))) zs'/\nmZ zs'=Vf (nmZ zs) k x/\(∀z∈zs',H z.2.1=none)/\zs'.length<=n+1/\∀p∈nmZ zs',p.2.length<=n+1)->G (.ref l) H6) :
  (∀v,GZ (zs.map kvZ) (k.map Sum.inl)=some v->G v H5)/\(GZ (zs.map kvZ) (k.map Sum.inl)=none->G (.ref L) (upd H5 a (.dT (Ol (zs.map kvZ) (k.map Sum.inl) (.ref L))))):=by
 refine ⟨λv hv=>?_,λhv=>?_⟩
 ·have hv':=hv;rw [JC] at hv';obtain ⟨z,hz,rfl⟩:=Option.map_eq_some_iff.mp hv';have hzm:=List.mem_of_find?_eq_some hz;have hl:=le (z.1,z.2.2.map (·.2)) (List.mem_map.mpr ⟨z,hzm,rfl⟩);refine g z.2.1 _ H5 (ok.at_ z hzm) (by rw [List.length_map];rw [List.length_map] at hl;exact hl) s5 (λ_ _ e=>e) λx T H7 s7 hT=>?_;obtain ⟨z2,hz2,_,e2,zs',m1,m2,m3,ok'⟩:=Zcd (ok.same s7) hT hv;have e2:z.2.1=z2.2.1:=by injection e2
  have:z2=z:=by
   obtain ⟨i,hi,ei⟩:=List.getElem_of_mem hz2;obtain ⟨j,hj,ej⟩:=List.getElem_of_mem hzm;have:=(List.getElem_inj (i:=i) (j:=j) (h₀:=by rw [List.length_map];exact hi) (h₁:=by rw [List.length_map];exact hj) ok.nd).mp (by rw [List.getElem_map,List.getElem_map,ei,ej,e2]);subst this;rw [<-ei,<-ej]
  subst this;refine ⟨zs',(s5.trans s7).put (fr z2 hzm),?_,ok',m3,λy hy=>?_,?_,?_⟩
  ·rw [m1];exact Gm (s7 _ _ ea) (λq=>by rw [q,ok.at_ z2 hzm] at ea;cases ea)
  ·have:y.2.1∈zs'.map (·.2.1):=List.mem_map.mpr ⟨y,hy,rfl⟩;rw [m2] at this;obtain ⟨y0,hy0,e0⟩:=List.mem_map.mp this;rw [<-e0];exact fr y0 hy0
  ·have:=congrArg List.length m2;rw [List.length_map,List.length_map] at this
   lia
  ·rw [m3];exact Ux le
 ·have na:L≠a:=λq=>by rw [q,ea] at eL;cases eL
  refine g L [] _ (Gm eL na) (Nat.zero_le _) (s5.put ha) (λb ts e=>Gm e (GV e ea (λq=>by cases q))) λx T H7 s7 hT=>?_;obtain ⟨m,ok'⟩:=Zce (H:=H5) (H':=upd H7 L (.lst ([]++[.ref T]))) (T:=T) (L:=L) (k:=k) (x:=x) ok (λb u n1 n2 e=>by
   have n1:b≠L:=λz=>n1 (by rw [z];exact List.mem_singleton.mpr rfl);exact Gm (s7 _ _ (Gm e (λq=>n2 _ (by rw [q,ea] at e;exact (Option.some.inj e).symm)))) n1)
   (Gm hT (λq=>by have e8:=s7 _ _ (Gm eL na);rw [q,e8] at hT;cases hT)) hv nl (λts e=>by rw [eL] at e;cases e) Gb
  refine ⟨zs++[(k,L,[(T,x)])],((s5.put ha).trans s7).put hL,?_,ok',m,λy hy=>?_,by rw [List.length_append];exact Nat.add_le_add_right ln 1,by rw [m];exact Ux le⟩
  ·rw [<-Za5 hv];exact Gm (s7 _ _ Gb) (Ne.symm na)
  ·rcases List.mem_append.mp hy with hy | hy
   ·exact fr y hy
   ·rw [List.mem_singleton.mp hy];exact hL
theorem WW (ms:List Int):(ms.map V.int).all O7=true:=by
 rw [List.all_eq_true];intro x hx;obtain ⟨m,_,rfl⟩:=List.mem_map.mp hx
 rfl
theorem Yp (n:Int)(ms:List Int):inV (.int n) (ms.map V.int)=decide (n∈ms):=by
 unfold inV
 induction ms with
 | nil=>rfl
 | cons m ms ih=>
  rw [List.map_cons,List.any_cons,ih];by_cases h1:n=m <;> by_cases h2:n∈ms <;> simp [eqV,h1,h2] <;> (try lia) <;> (try (intro z;exact h1 z.symm))
section
variable {P:Program}{w:World}{K:W.Frag}{mg:Str->Option Value}{base:Heap}
theorem Wt {td ty:TE}{ta:TA}{D:Wx}{σ:St}{H H5:Hp}{a:Addr}{zs:ZN}{k x:List Int}{n:Nat}(S5:Same H H5)(ha:H a=none)(ea:H5 a=some (.dT (zs.map kvZ)))(ok:NrOk H5 zs)(fr:∀z∈zs,H z.2.1=none)(ln:zs.length<=n)(le:∀p∈nmZ zs,p.2.length<=n)(hn:n<1000)(htd:∀Q:VK,Q (.ref a) H5->td σ H5 Q)(hty:∀Q:VK,(∀T8 H6,Same H5 H6->H6 T8=some (.tup (k.map V.int))->Q (.ref T8) H6)->ty σ H5 Q)(hta:∀H6 (QA:List V->Hp->Prop),(∀b ts,H5 b=some (.tup ts)->H6 b=some (.tup ts))->(∀T H7,Same H6 H7->H7 T=some (.tup (x.map V.int))->QA [.ref T] H7)->ta σ H6 QA)(next:∀(zs':ZN)(H':Hp),Same H H'->H' a=some (.dT (zs'.map kvZ))->NrOk H' zs'->nmZ zs'=Vf (nmZ zs) k x->(∀z∈zs',H z.2.1=none)->zs'.length<=n+1->(∀p∈nmZ zs',p.2.length<=n+1)->(∀b ts,H5 b=some (.tup ts)->H' b=some (.tup ts))->D.nx σ H') :
  Zae (tBM K "list" O9 (Zb2 td ty (ZdW Zaj)) ta) D σ H5:=by
 have h16:(16777216:Nat)=sizeLine:=sizeLine_eq.symm;refine htd _ ⟨a,rfl,⟨_,ea⟩,hty _ λT8 H6 s6 e8=>⟨Nat.zero_le _,λL hL=>?_⟩⟩;have s7:Same H6 (upd H6 L (.lst [])):=Same.new hL;have eL:upd H6 L (.lst []) L=some (.lst []):=Gb;have nl:∀z∈zs,z.2.1≠L:=λz hz q=>by have:=s6 _ _ (ok.at_ z hz);rw [q,hL] at this;cases this
 have hL0:H L=none:=(S5.trans s6).free hL;generalize upd H6 L (.lst [])=H7 at s7 eL ⊢;have s57:=s6.trans s7;have ea7:=s57 _ _ ea;refine ⟨_,k.map Sum.inl,T8,rfl,ea7,(s7 _ _ e8).trans (by rw [Jb]),by rw [List.length_map];lia,?_⟩;refine Zcf (G:=λx H1=>tyV K "list" x H1/\ta σ H1 λxs H2=>O9 x xs H2 λx H1=>D.nx σ H1) (k:=k) (S5.trans s57) ha ea7 (ok.same s57) fr hL0 eL nl ln le λl1 ys1 H8 hl1 hy1 S8 tk8 ad=>?_;refine ⟨.inl ⟨rfl,_,SqL.of hl1⟩,hta _ _ (λb ts e=>tk8 _ _ (s57 _ _ e)) λT H9 s9 eT=>?_⟩;obtain ⟨zs1,S9,ea9,ok9,nm9,fr9,l9,el9⟩:=ad x T H9 s9 eT;exact ⟨l1,ys1,_,rfl,rfl,s9 _ _ hl1,by lia,next zs1 _ S9 ea9 ok9 nm9 fr9 l9 el9 λb ts e=>Gm (s9 _ _ (tk8 _ _ (s57 _ _ e))) (GV (tk8 _ _ (s57 _ _ e)) hl1 (λq=>by cases q))⟩
def Zcg:Sp:=λvs H Q _=>∃(d l:Addr)(o:Obj)(ks:KI)(rs:List Int),vs=[.ref d,.ref l]/\H d=some (.frz o (.dT (ks.map kvI)))/\ks.length<=200/\(∀p∈ks,∃a b c:Int,p.1=[a,b,c])/\H l=some (.lst (rs.map V.int)) /\
 ∀(d':Addr)(o':Obj)(zs:ZN)(H':Hp),Same H H'->H d'=none->H' d'=some (.frz o' (.dT (zs.map kvZ)))->NrOk H' zs->nmZ zs=YD ks rs->Q (.ref d') H'
theorem scBsd:Gs ["numbers", "roads", "found", "row", "column", "down", "number", "other"] ["numbers", "roads"] (Gc Z1):=⟨rfl,rfl,rfl,by decide +kernel,rfl,by decide +kernel,by decide +kernel⟩
theorem Zch {f:Addr}{fd:FuncData}(F:Fun K "_law_beside" "_law_beside" Z1 f fd):GL P w K mg base CX0 1 f fd ["numbers", "roads"] Zcg:=by
 refine F.ok scBsd (λvs H Q E h=>?_) (λcdv A outer s0 H vs Q E hr h=>?_)
 ·obtain ⟨_,_,_,_,_,rfl,_⟩:=h
  rfl
 ·obtain ⟨d,l,o,ks,rs,rfl,hd,hkl,hk3,hl,q⟩:=h;have hu1:(A.deeper (PyProof.Rows.envOfC "_law_beside" (Gc Z1) s0.heap.objs.size f cdv)).units+1<cLine:=by have:=hr.un;lia
  have h16:(16777216:Nat)=sizeLine:=sizeLine_eq.symm;refine ⟨_,(@Gd _ _ _ _ _ (@Gq _ _ 2 _ _ _ _ scBsd.nd rfl (Or.inl rfl) Ot rfl (by first | exact .inl rfl | exact .inr rfl))
    (@Gd _ _ _ _ _ (@GX _ _ _ _ _ _ _ _ PassesOwn.never rfl (Zb1 (ZaR (pv 0))) (Zbb K (n:=2) rfl (GE (Zbb K (n:=3) rfl (GE (Gi (i:=3) scBsd.nd rfl (Or.inl rfl)) (GE (Gi (i:=4) scBsd.nd rfl (Or.inl rfl)) (GE (Gi (i:=5) scBsd.nd rfl (Or.inl rfl)) J8)))) (GE (Gi (i:=6) scBsd.nd rfl (Or.inl rfl)) J8)))
    (@Gf _ _ _ (@GW _ _ _ _ _ _ _ _ (Gr (kIn K) (pv 6) (pv 1) (by with_unfolding_all rfl)) (@Gd _ _ _ _ _ (@Gq _ _ 7 _ _ _ _ scBsd.nd rfl (Or.inl rfl) (@GO _ _ _ _ _ (@Ga _ _ _ _ _ (@Gx _ _ _ _ _ _ _ _ GF (pv 3) (pv 5)) (@Ga _ _ _ _ _ (@Gx _ _ _ _ _ _ _ _ W8 (@Gx _ _ _ _ _ _ _ _ GF (pv 4) Gg) (pv 5)) Ge rfl) rfl)) rfl (by first | exact .inl rfl | exact .inr rfl))
    (@Gd _ _ _ _ _ (JQ (UM PySem.F.plainAttrs_list PySem.F.slot_list_append PySem.F.type_list_append GY (Yb hu1 (pv 2) (@GO _ _ _ _ _ (@Ga _ _ _ _ _ (pv 3) (@Ga _ _ _ _ _ (pv 4) Ge rfl) rfl)) (@Jr _ _ _ _ Ge) ⟨rfl,rfl,rfl,rfl⟩) (@Ga _ _ _ _ _ (pv 7) Ge rfl)))
    (@Gf _ _ _ (JQ (UM PySem.F.plainAttrs_list PySem.F.slot_list_append PySem.F.type_list_append GY (Yb hu1 (pv 2) (pv 7) (@Jr _ _ _ _ Ge) ⟨rfl,rfl,rfl,rfl⟩) (@Ga _ _ _ _ _ (@GO _ _ _ _ _ (@Ga _ _ _ _ _ (pv 3) (@Ga _ _ _ _ _ (pv 4) Ge rfl) rfl)) Ge rfl)))))) Gy)) (by intro _;rfl))
    (@Gf _ _ _ (@Gu _ _ _ _ (Yd (pv 2)))))),?_⟩
  refine λa ha=>?_;have s1:Same H (upd H a (.dT [])):=Same.new ha;have e1:upd H a (.dT []) a=some (.dT (([]:ZN).map kvZ)):=Gb;generalize upd H a (.dT [])=H1 at s1 e1 ⊢;dsimp only [GG];refine ⟨_,rfl,d,_,o,rfl,s1 _ _ hd,λvw hvw=>?_⟩;have s2:Same H1 (upd H1 vw (IVw vw d)):=Same.new hvw;have e2:upd H1 vw (IVw vw d) vw=some (IVw vw d):=Gb;generalize upd H1 vw (IVw vw d)=H2 at s2 e2 ⊢;have S2:=s1.trans s2;refine ⟨vw,d,o,_,rfl,e2,S2 _ _ hd,?_⟩;refine ZaK (d:=d) (o:=o) (kvs:=ks.map kvI) (λi σ H3=>∃(v3 v4 v5 v6 v7:Option V)(zs:ZN),σ=[some (.ref d),some (.ref l),some (.ref a),v3,v4,v5,v6,v7]/\Same H H3/\H3 a=some (.dT (zs.map kvZ))/\NrOk H3 zs/\nmZ zs=(ks.take i).foldl (VH rs) []/\(∀z∈zs,H z.2.1=none)/\zs.length<=2 * i/\∀p∈nmZ zs,p.2.length<=2 * i)
   ⟨_,_,_,_,_,[],rfl,S2,s2 _ _ e1,⟨by simp,by simp,List.nodup_nil,List.nodup_nil⟩,rfl,by simp,Nat.zero_le _,by simp [nmZ]⟩ (λi σ H3 _ ⟨_,_,_,_,_,_,_,y,_⟩=>y _ _ hd) ?_ ?_
  ·rintro i k v b T σ H3 hk hb ⟨v3,v4,v5,v6,v7,zs,rfl,s3,e3,ok3,nm3,fr3,l3,el3⟩ hT;rw [List.getElem?_map] at hk;obtain ⟨p,hp,ep⟩:=Option.map_eq_some_iff.mp hk;have hpm:=List.mem_of_getElem? hp;have hil:i<ks.length:=(List.getElem?_eq_some_iff.mp hp).1;obtain ⟨r,c,w,ek⟩:=hk3 p hpm;obtain ⟨rfl,rfl⟩:k=p.1.map Sum.inl/\v=.int p.2:=by
    have:=Prod.mk.inj ep.symm;exact this
   rw [Jb,ek] at hb;have s4:Same H3 (upd H3 T (.tup [.ref b,.int p.2])):=Same.new hT;have e4:upd H3 T (.tup [.ref b,.int p.2]) T=some (.tup [.ref b,.int p.2]):=Gb;generalize upd H3 T (.tup [.ref b,.int p.2])=H4 at s4 e4 ⊢;refine ⟨T,_,rfl,SqT.of e4,rfl,?_⟩;refine ⟨_,_,rfl,b,_,rfl,SqT.of (s4 _ _ hb),rfl,?_⟩;refine ⟨_,_,rfl,_,_,rfl,_,_,rfl,rfl,_,_,rfl,rfl,?_⟩;have S4:=s3.trans s4;have nd':(ks.take (i+1)).foldl (VH rs) []=VH rs (nmZ zs) p:=by
    rw [List.take_add_one,hp,List.foldl_append,<-nm3]
    rfl
   have el0:(ks.map kvI).length=ks.length:=List.length_map _;refine ⟨_,rfl,_,rfl,l,_,rfl,.inl (SqL.of (S4 _ _ hl)),rfl,WW _,_,rfl,?_⟩;dsimp only [GG,Bool.false_eq_true,if_false];rw [Yp];refine OO (λhin=>?_) (λhin=>?_)
   ·have hin:p.2∈rs:=of_decide_eq_true hin;have eb:VH rs (nmZ zs) p=Vf (Vf (nmZ zs) [r,c] [r+w,c+1-w]) [r+w,c+1-w] [r,c]:=by
     unfold VH;rw [if_pos hin,show Zbd p.1=[r,c] by rw [ek];rfl,show Zbc p.1=[r+w,c+1-w] by rw [ek];rfl]
    refine ⟨_,rfl,_,rfl,_,_,rfl,rfl,_,rfl,_,_,rfl,rfl,_,rfl,_,_,rfl,rfl,GU,λT7 hT7=>?_⟩;have s5:Same H4 (upd H4 T7 (.tup [.int (r+w),.int (c+1-w)])):=Same.new hT7;have e7:upd H4 T7 (.tup [.int (r+w),.int (c+1-w)]) T7=some (.tup ((([r+w,c+1-w]:List Int)).map V.int)):=Gb;have S5:=S4.trans s5;have ea5:=s5 _ _ (s4 _ _ e3);have ok5:=(ok3.same s4).same s5;dsimp only [GG];generalize upd H4 T7 (.tup [.int (r+w),.int (c+1-w)])=H5 at s5 e7 S5 ea5 ok5 ⊢;refine Wt (k:=[r,c]) (x:=[r+w,c+1-w]) S5 ha ea5 ok5 fr3 l3 el3 (by lia) (λQ q=>⟨_,rfl,q⟩) (λQ q=>⟨_,rfl,_,rfl,GU,λT hT=>q T _ (Same.new hT) Gb⟩) (λH6 QA tk q=>⟨_,rfl,q T7 H6 (Same.refl _) (tk _ _ e7)⟩) λzs1 H9 S9 ea9 ok9 nm9 fr9 l9 el9 tk9=>?_;dsimp only;refine Wt (k:=[r+w,c+1-w]) (x:=[r,c]) S9 ha ea9 ok9 fr9 l9 el9 (by lia) (λQ q=>⟨_,rfl,q⟩) (λQ q=>⟨_,rfl,q T7 _ (Same.refl _) (tk9 _ _ e7)⟩) (λH6 QA tk q=>⟨_,rfl,_,rfl,GU,λT hT=>q T _ (Same.new hT) Gb⟩) λzs2 H13 S13 ea13 ok13 nm13 fr13 l13 el13 _=>?_;refine ⟨_,_,_,_,_,zs2,rfl,S13,ea13,ok13,?_,fr13,by lia,λp hp=>by have:=el13 p hp;lia⟩;rw [nd',eb,nm13,nm9]
   ·have hin:¬ p.2∈rs:=λy=>hin (decide_eq_true y);refine ⟨_,_,_,_,_,zs,rfl,S4,s4 _ _ e3,ok3.same s4,?_,fr3,by lia,λp hp=>by have:=el3 p hp;lia⟩;rw [nd'];unfold VH;rw [if_neg hin]
  ·rintro σ H3 ⟨v3,v4,v5,v6,v7,zs,rfl,s3,e3,ok3,nm3,fr3,l3,el3⟩;rw [List.length_map,List.take_length] at nm3;refine ⟨_,rfl,a,_,rfl,e3,λo'=>?_⟩;refine q a o' zs _ (s3.put ha) ha Gb (ok3.keep (λb ys e _=>Gm e (GV e e3 (λq=>by cases q))) λb ts e=>Gm e (GV e e3 (λq=>by cases q))) nm3
end
end M
namespace M
open PySem L2
abbrev LZ:=List (Addr×List Int)
def LzOk (H:Hp)(zs:LZ):Prop:=∀z∈zs,H z.1=some (.lst (z.2.map V.int))
theorem LzOk.same {H H':Hp}{zs:LZ}(h:LzOk H zs)(s:Same H H'):LzOk H' zs:=λz hz=>s _ _ (h z hz)
theorem ZC (rs:List Int)(i:Nat)(r:Int)(h:rs[i]?=some r):Wo (rs.take (i+1))=Wo (rs.take i)++(Wo (rs.take i)).map (·++[r]):=by
 unfold Wo;rw [List.take_add_one,h,List.foldl_append]
 rfl
theorem Yq (rs:List Int):(Wo rs).length=2 ^ rs.length:=by
 have:∀(rs:List Int)(f:List (List Int)),(rs.foldl (λf r=>f++f.map (·++[r])) f).length=f.length * 2 ^ rs.length:=by
  intro rs
  induction rs with
  | nil=>intro f;simp
  | cons r rs ih=>
   intro f;rw [List.foldl_cons,ih,List.length_append,List.length_map,List.length_cons,Nat.pow_succ];rw [<-Nat.two_mul,Nat.mul_comm 2 f.length,Nat.mul_assoc,Nat.mul_comm 2]
 unfold Wo;rw [this];simp
theorem Zci (rs:List Int):∀x∈Wo rs,x.length<=rs.length:=by
 have:∀(rs:List Int)(f:List (List Int))(n:Nat),(∀x∈f,x.length<=n)->∀x∈rs.foldl (λf r=>f++f.map (·++[r])) f,x.length<=n+rs.length:=by
  intro rs
  induction rs with
  | nil=>intro f n h x hx;exact h x hx
  | cons r rs ih=>
   intro f n h x hx;have:=ih _ (n+1) (λy hy=>by
    rcases List.mem_append.mp hy with hy | hy
    ·have:=h y hy;lia
    ·obtain ⟨z,hz,rfl⟩:=List.mem_map.mp hy;have:=h z hz;rw [List.length_append];show z.length+1<=_
     lia) x hx
   rw [List.length_cons]
   lia
 intro x hx;have:=this rs [[]] 0 (by simp) x hx
 lia
section
variable {P:Program}{w:World}{K:W.Frag}{mg:Str->Option Value}{base:Heap}
def Zcj:Sp:=λvs H Q _=>∃(l:Addr)(rs:List Int),vs=[.ref l]/\H l=some (.lst (rs.map V.int))/\rs.length<=12 /\
 ∀(d:Addr)(zs:LZ)(H':Hp),Same H H'->H' d=some (.lst (zs.map λz=>V.ref z.1))->LzOk H' zs->zs.map (·.2)=Wo rs->Q (.ref d) H'
theorem scChc:Gs ["roads", "found", "road"] ["roads"] (Gc ZaT):=⟨rfl,rfl,rfl,by decide +kernel,rfl,by decide +kernel,by decide +kernel⟩
theorem Zck {f:Addr}{fd:FuncData}(F:Fun K "_law_choices" "_law_choices" ZaT f fd):GL P w K mg base CX0 1 f fd ["roads"] Zcj:=by
 refine F.ok scChc (λvs H Q E h=>?_) (λcdv A outer s0 H vs Q E hr h=>?_)
 ·obtain ⟨_,_,rfl,_⟩:=h
  rfl
 ·obtain ⟨l,rs,rfl,hl,hn,q⟩:=h;have h16:(16777216:Nat)=sizeLine:=sizeLine_eq.symm;refine ⟨_,(@Gd _ _ _ _ _ (@Gq _ _ 1 _ _ _ _ scChc.nd rfl (Or.inl rfl) (@Jr _ _ _ _ (@Ga _ _ _ _ _ (@Jr _ _ _ _ Ge) Ge rfl)) rfl (by first | exact .inl rfl | exact .inr rfl))
    (@Gd _ _ _ _ _ (@GX _ _ _ _ _ _ _ _ PassesOwn.never rfl (JM K (pv 0)) (Gi (i:=2) scChc.nd rfl (Or.inr rfl))
    (@Gf _ _ _ (@Gq _ _ 1 _ _ _ _ scChc.nd rfl (Or.inl rfl) (@Gx _ _ _ _ _ _ _ _ ZP (pv 1) (Jm (own:=["some"]) rfl (Gj (fr:=[("road", 2)]) [(".0", .local),("some", .local),("road", .cell)] rfl rfl (by decide +kernel) rfl (by decide +kernel) ⟨rfl,trivial⟩ ⟨λh=>GN h,λh=>GN h,λ_=>⟨_,rfl⟩,trivial⟩ ⟨⟨rfl,.inl rfl,.inl rfl⟩,trivial⟩) (JM K (pv 1)) (λ_ _ _ _=>Gi (i:=0) (show List.Nodup (["some", "road"]:List Str) by decide +kernel) rfl (Or.inl rfl)) (λ_ _ _ _=>Ja) (λ_ _ _ _=>@Gx _ _ _ _ _ _ _ _ ZP (pv 0) (@Jr _ _ _ _ (@Ga _ _ _ _ _ (pv 1) Ge rfl))))) rfl (by first | exact .inl rfl | exact .inr rfl))) (by intro _;rfl))
    (@Gf _ _ _ (@Gu _ _ _ _ (pv 1))))),?_⟩
  refine ⟨Nat.zero_le _,λa ha=>⟨(by show 1<=sizeLine;lia),λd hd=>?_⟩⟩;have s1:Same H (upd H a (.lst [])):=Same.new ha;have e1:upd H a (.lst []) a=some (.lst (([]:List Int).map V.int)):=Gb;generalize upd H a (.lst [])=H1 at s1 e1 hd ⊢;have s2:Same H1 (upd H1 d (.lst [.ref a])):=Same.new hd;have e2:upd H1 d (.lst [.ref a]) d=some (.lst [.ref a]):=Gb;dsimp only [GG];generalize upd H1 d (.lst [.ref a])=H2 at s2 e2 ⊢;refine ⟨_,rfl,l,rfl,⟨_,SqL.of (s2 _ _ (s1 _ _ hl))⟩,?_⟩;refine Jk (K:=K) (a:=l) (xs:=rs.map V.int) (λi σ H3=>∃(d:Addr)(zs:LZ)(v2:Option V),σ=[some (.ref l),some (.ref d),v2]/\Same H H3/\H3 d=some (.lst (zs.map λz=>V.ref z.1))/\LzOk H3 zs/\zs.map (·.2)=Wo (rs.take i))
   ⟨d,[(a,[])],_,rfl,s1.trans s2,e2,(λz hz=>by rw [List.mem_singleton.mp hz];exact s2 _ _ e1),rfl⟩ (λi σ H3 _ ⟨_,_,_,_,y,_⟩=>SqL.of (y _ _ hl)) ?_ ?_
  ·rintro i x σ H3 hx ⟨d,zs,v2,rfl,s3,e3,ok3,m3⟩;rw [List.getElem?_map] at hx;obtain ⟨r,hr',rfl⟩:=Option.map_eq_some_iff.mp hx;have hil:i<rs.length:=(List.getElem?_eq_some_iff.mp hr').1;dsimp only [GG];refine ⟨_,rfl,?_⟩;have zl:zs.length=2 ^ (rs.take i).length:=by rw [<-Yq,<-m3,List.length_map]
   have z12:zs.length<=2 ^ 12:=by rw [zl];exact Nat.pow_le_pow_right (by lia) (by rw [List.length_take];lia)
   have el:∀z∈zs,z.2.length<=12:=λz hz=>by
    have:=Zci (rs.take i) z.2 (by rw [<-m3];exact List.mem_map.mpr ⟨z,hz,rfl⟩);rw [List.length_take] at this
    lia
   refine ⟨_,rfl,d,rfl,⟨_,SqL.of e3⟩,λD hD=>?_⟩;refine GH (K:=K) (a:=d) (xs:=zs.map λz=>V.ref z.1) (λj ys H4=>∃us:LZ,ys=us.map (λz=>V.ref z.1)/\Same H3 H4/\H4 D=some (.lst ys)/\LzOk H4 us/\(∀z∈us,z.1≠D)/\us.map (·.2)=(zs.take j).map λz=>z.2++[r]) ⟨[],rfl,Same.new hD,Gb,(λz hz=>by cases hz),(λz hz=>by cases hz),rfl⟩ (λj ys H4 _ ⟨_,_,y,_⟩=>SqL.of (y _ _ e3)) ?_ ?_
   ·rintro j x ys H4 hx ⟨us,rfl,s4,e4,ok4,nD4,m4⟩;rw [List.getElem?_map] at hx;obtain ⟨z,hz,rfl⟩:=Option.map_eq_some_iff.mp hx;have hzm:=List.mem_of_getElem? hz;have hjl:j<zs.length:=(List.getElem?_eq_some_iff.mp hz).1;have ul:us.length<=j:=by
     have:=congrArg List.length m4;rw [List.length_map,List.length_map,List.length_take] at this
     lia
    refine ⟨⟨rfl,trivial⟩,?_⟩;unfold YT;refine G9 ?_;refine ⟨_,rfl,_,rfl,(by show 1<=sizeLine;lia),λb hb=>?_⟩;have s5:Same H4 (upd H4 b (.lst [.int r])):=Same.new hb;have e5:upd H4 b (.lst [.int r]) b=some (.lst [.int r]):=Gb;generalize upd H4 b (.lst [.int r])=H5 at s5 e5 ⊢;have s35:=s4.trans s5;refine ⟨z.1,b,_,_,rfl,rfl,s35 _ _ (ok3 z hzm),e5,by rw [List.length_map];have:=el z hzm;show z.2.length+1<=_;lia,λp hp=>?_⟩;have s6:Same H5 (upd H5 p (.lst (z.2.map V.int++[.int r]))):=Same.new hp;have e6:upd H5 p (.lst (z.2.map V.int++[.int r])) p=some (.lst ((z.2++[r]).map V.int)):=by rw [Gb,List.map_append];rfl
    generalize upd H5 p (.lst (z.2.map V.int++[.int r]))=H6 at s6 e6 ⊢;have eD:=s6 _ _ (s5 _ _ e4);have pD:p≠D:=λq=>by rw [q,s5 _ _ e4] at hp;cases hp
    refine ⟨eD,by rw [List.length_map];lia,us++[(p,z.2++[r])],by rw [List.map_append];rfl,(s35.trans s6).put hD,Gb,λy hy=>?_,λy hy=>?_,?_⟩
    ·rcases List.mem_append.mp hy with hy | hy
     ·exact Gm (s6 _ _ (s5 _ _ (ok4 y hy))) (nD4 y hy)
     ·rw [List.mem_singleton.mp hy];exact Gm e6 pD
    ·rcases List.mem_append.mp hy with hy | hy
     ·exact nD4 y hy
     ·rw [List.mem_singleton.mp hy];exact pD
    ·rw [List.map_append,m4,List.take_add_one,hz,List.map_append]
     rfl
   ·rintro ys H4 ⟨us,rfl,s4,e4,ok4,nD4,m4⟩;rw [List.length_map,List.take_length] at m4;have ul:us.length=zs.length:=by
     have:=congrArg List.length m4
     rwa [List.length_map,List.length_map] at this
    refine ⟨d,D,_,_,rfl,rfl,s4 _ _ e3,e4,by rw [List.length_map,List.length_map];lia,λp hp=>?_⟩;have s5:Same H4 (upd H4 p (.lst (zs.map (λz=>V.ref z.1)++us.map λz=>V.ref z.1))):=Same.new hp;refine ⟨p,zs++us,_,rfl,s3.trans (s4.trans s5),by rw [List.map_append];exact Gb,λz hz=>?_,?_⟩
    ·rcases List.mem_append.mp hz with hz | hz
     ·exact s5 _ _ (s4 _ _ (ok3 z hz))
     ·exact s5 _ _ (ok4 z hz)
    ·rw [List.map_append,m4,ZC rs i r hr',<-m3,List.map_map]
     rfl
  ·rintro σ H3 ⟨d,zs,v2,rfl,s3,e3,ok3,m3⟩;rw [List.length_map,List.take_length] at m3;exact ⟨_,rfl,q d zs H3 s3 e3 ok3 m3⟩
end
end M
namespace M
open PySem L2
theorem Yr {k:List Int}(h:k.length=2):k=[gA k 0,gA k 1]:=by
 match k,h with
 | [a,b],_=>rfl
def plD (k:List Int):PyData:=prD (gA k 0,gA k 1)
theorem Vh {K:W.Frag}{H:Hp}{b:Addr}{k:List Int}(h:H b=some (.tup (k.map V.int)))(hk:k.length=2):DatV K H (.ref b) (plD k):=by
 rw [Yr hk] at h;exact .tup (SqT.of h) (.cons (.int _) (.cons (.int _) .nil))
theorem Ys {k j:List Int}(hk:k.length=2)(hj:j.length=2):PyData.eqv (plD k) (plD j)=decide (k=j):=by
 unfold plD;rw [Zat];refine decide_eq_decide.mpr ⟨λh=>?_,λh=>by rw [h]⟩;injection h with h1 h2
 rw [Yr hk,Yr hj,h1,h2]
def bfD:Option (List Int)->PyData
 | none=>.none
 | some k=>plD k
def BfAt (H:Hp):Option (List Int)->V->Prop
 | none,v=>v=.non
 | some k,v=>∃b,v=.ref b/\H b=some (.tup (k.map V.int))/\k.length=2
theorem BfAt.same {H H':Hp}{o:Option (List Int)}{v:V}(h:BfAt H o v)(s:Same H H'):BfAt H' o v:=by
 cases o with
 | none=>exact h
 | some k=>obtain ⟨b,e,h1,h2⟩:=h;exact ⟨b,e,s _ _ h1,h2⟩
theorem BfAt.dat {K:W.Frag}{H:Hp}{o:Option (List Int)}{v:V}(h:BfAt H o v):DatV K H v (bfD o):=by
 cases o with
 | none=>rw [show v=.non from h];exact .non
 | some k=>obtain ⟨b,rfl,h1,h2⟩:=h;exact Vh h1 h2
theorem O4 (o:Option (List Int)):SeqAt.shaped (bfD o)=true:=by
 cases o with
 | none=>rfl
 | some k=>exact Jg _
theorem Zcl {H:Hp}{o:Option (List Int)}{v:V}(h:BfAt H o v){k:List Int}(hk:k.length=2):(true != PyData.eqv (plD k) (bfD o))=!decide (some k=o):=by
 cases o with
 | none=>
  show (true != PyData.eqv (plD k) .none)=_;unfold plD prD;simp [PyData.eqv]
 | some j=>
  obtain ⟨_,_,_,hj⟩:=h;show (true != PyData.eqv (plD k) (plD j))=_;rw [Ys hk hj];by_cases e:k=j
  ·subst e;simp
  ·simp [e]
def Z2 (zs:ZN):Prop:=(∀z∈zs,∀e∈z.2.2,e.2.length=2)/\(∀z∈zs,z.2.2.length<=400)/\zs.length<=400
section
variable {P:Program}{w:World}{K:W.Frag}{mg:Str->Option Value}{base:Heap}
def Zcm:Sp:=λvs H Q _=>∃(d b:Addr)(o:Obj)(zs:ZN)(pl e:List Int)(i:Int),vs=[.ref d,.ref b,.int i]/\H d=some (.frz o (.dT (zs.map kvZ)))/\NrOk H zs/\Z2 zs/\H b=some (.tup (pl.map V.int))/\pl.length=2/\ZA (nmZ zs) i 40 none pl=some e /\
 ∀(b':Addr)(H':Hp),Same H H'->H' b'=some (.tup (e.map V.int))->e.length=2->Q (.ref b') H'
theorem scEnd:Gs ["near", "place", "i", "before", "here", "nexts"] ["near", "place", "i"] (Gc Zo):=⟨rfl,rfl,rfl,by decide +kernel,rfl,by decide +kernel,by decide +kernel⟩
theorem Zcn {f:Addr}{fd:FuncData}(F:Fun K "_law_end_of" "_law_end_of" Zo f fd):GL P w K mg base CX0 1 f fd ["near", "place", "i"] Zcm:=by
 refine F.ok scEnd (λvs H Q E h=>?_) (λcdv A outer s0 H vs Q E hr h=>?_)
 ·obtain ⟨_,_,_,_,_,_,_,rfl,_⟩:=h
  rfl
 ·obtain ⟨d,b,o,zs,pl,e,i,rfl,hd,ok,z2,hb,hpl,he,q⟩:=h;have hu1:(A.deeper (PyProof.Rows.envOfC "_law_end_of" (Gc Zo) s0.heap.objs.size f cdv)).units+1<cLine:=by have:=hr.un;lia
  have hu64:(A.deeper (PyProof.Rows.envOfC "_law_end_of" (Gc Zo) s0.heap.objs.size f cdv)).units+64<cLine:=by have:=hr.un;lia
  have h16:(16777216:Nat)=sizeLine:=sizeLine_eq.symm;refine ⟨_,(@Gd _ _ _ _ _ (@Gq _ _ 3 _ _ _ _ scEnd.nd rfl (Or.inr rfl) Ju rfl (by first | exact .inl rfl | exact .inr rfl))
    (@Gd _ _ _ _ _ (@Gq _ _ 4 _ _ _ _ scEnd.nd rfl (Or.inl rfl) (pv 1) rfl (by first | exact .inl rfl | exact .inr rfl))
    (@Gd _ _ _ _ _ (VO PassesOwn.never (PW.pt (Oz (Gr ZM (pv 3) Ju (Gw _)) (Og (Gr JY (@G3 _ _ _ _ _ _ _ (OP K) (pv 4) Gg (λ_ _=>rfl)) (pv 2) (Gw _)))))
    (@Gd _ _ _ _ _ (OD (i:=5) scEnd.nd rfl (Or.inl rfl) (own:=["other"]) rfl (Gj (fr:=[("before", 3)]) [(".0", .local),("other", .local),("before", .cell)] rfl rfl (by decide +kernel) rfl (by decide +kernel) ⟨rfl,trivial⟩ ⟨λh=>GN h,λh=>GN h,λ_=>⟨_,rfl⟩,trivial⟩ ⟨⟨rfl,.inl rfl,.inl rfl⟩,trivial⟩) (JM K (Jy hu1 (pv 0) (pv 4) (λ_ _=>rfl))) (λ_ _ _ _=>Gi (i:=0) (show List.Nodup (["other", "before"]:List Str) by decide +kernel) rfl (Or.inl rfl)) (λ_ _ _ _=>JG (Gr (Zd2 K hu64) (pv 0) (pv 1) (Gw _))) (λ_ _ _ _=>pv 0))
    (@Gd _ _ _ _ _ (@Gq _ _ 3 _ _ _ _ scEnd.nd rfl (Or.inr rfl) (pv 4) rfl (by first | exact .inl rfl | exact .inr rfl))
    (@Gf _ _ _ (@Gq _ _ 4 _ _ _ _ scEnd.nd rfl (Or.inl rfl) (@G3 _ _ _ _ _ _ _ (ZcJ K) (pv 5) Gg (λ_ _=>rfl)) rfl (by first | exact .inl rfl | exact .inr rfl))))))
    (@Gf _ _ _ (@Gu _ _ _ _ (pv 4)))))),?_⟩
  refine ⟨_,rfl,?_⟩;refine ⟨λm σ H1=>∃(bf:Option (List Int))(bv:V)(hb:Addr)(here:List Int)(v5:Option V),σ=[some (.ref d),some (.ref b),some (.int i),some bv,some (.ref hb),v5]/\Same H H1/\BfAt H1 bf bv/\H1 hb=some (.tup (here.map V.int))/\here.length=2/\ZA (nmZ zs) i m bf here=some e,
   ⟨40,none,.non,b,pl,_,rfl,Same.refl _,rfl,hb,hpl,he⟩,?_⟩
  rintro m σ H1 ⟨bf,bv,hb,here,v5,rfl,s1,hbf,ehb,hh,em⟩;obtain ⟨m,rfl⟩:∃m',m=m'+1:=by
   cases m with
   | zero=>cases em
   | succ m=>exact ⟨m,rfl⟩
  have hd1:=s1 _ _ hd;have ok1:=ok.same s1;have body:(bf=none\/gA here 0<i)->∀H2,H2=H1->∃x,(Ve (nmZ zs) here).isSome/\(Zbe (nmZ zs) bf here).head?=some x/\ZA (nmZ zs) i m (some here) x=some e:=by
   intro c _ _;unfold ZA at em;rw [if_pos c] at em;split at em
   ·rename_i g;obtain ⟨x,h1,h2⟩:=Option.bind_eq_some_iff.mp em;exact ⟨x,g,h1,h2⟩
   ·cases em
  have stop:¬ (bf=none\/gA here 0<i)->here=e:=λc=>by
   unfold ZA at em;rw [if_neg c] at em;exact Option.some.inj em
  refine ⟨_,rfl,rfl,_,rfl,OO (λc=>?_) (λc=>?_)⟩
  ·have c':bf=none\/gA here 0<i:=by
    have y:bv=.non:=of_decide_eq_true c;cases bf with
    | none=>exact .inl rfl
    | some k=>obtain ⟨_,z,_⟩:=hbf;rw [z] at y;cases y
   obtain ⟨x,gs,hx,ex⟩:=body c' H1 rfl;rw [O3,Option.isSome_map] at gs;obtain ⟨z,hz⟩:=Option.isSome_iff_exists.mp gs;have hzm:=List.mem_of_find?_eq_some hz;have dg:DGet H1 d (.ref hb) (some (.ref z.2.1)):=by
    have:GZ (zs.map kvZ) (here.map Sum.inl)=some (.ref z.2.1):=by rw [JC,hz];rfl
    rw [<-this];exact Or.inr ⟨_,_,hb,.inr ⟨o,hd1⟩,rfl,ehb.trans (by rw [Jb]),rfl⟩
   refine ⟨λσ H2=>∃(bf:Option (List Int))(bv:V)(hb:Addr)(here:List Int)(v5:Option V),σ=[some (.ref d),some (.ref b),some (.int i),some bv,some (.ref hb),v5]/\Same H H2/\BfAt H2 bf bv/\H2 hb=some (.tup (here.map V.int))/\here.length=2/\ZA (nmZ zs) i m bf here=some e,λσ' H' hN=>⟨m,by lia,hN⟩,?_⟩;refine ⟨_,rfl,_,rfl,d,_,rfl,dg,z.2.1,rfl,⟨_,SqL.of (ok1.at_ z hzm)⟩,λD hD=>?_⟩;have e2:∀e∈z.2.2,e.2.length=2:=z2.1 z hzm;refine GH (K:=K) (a:=z.2.1) (xs:=z.2.2.map λe=>V.ref e.1) (λj ys H2=>∃us:List (Addr×List Int),ys=us.map (λz=>V.ref z.1)/\Same H1 H2/\H2 D=some (.lst ys)/\us=(z.2.2.take j).filter λe=>!decide (some e.2=bf)) ⟨[],rfl,Same.new hD,Gb,rfl⟩ (λj ys H2 _ ⟨_,_,y,_⟩=>SqL.of (y _ _ (ok1.at_ z hzm))) ?_ ?_
   ·rintro j x ys H2 hx ⟨us,rfl,s2,eD,hus⟩;rw [List.getElem?_map] at hx;obtain ⟨u,hu,rfl⟩:=Option.map_eq_some_iff.mp hx;have hum:=List.mem_of_getElem? hu;have hjl:j<z.2.2.length:=(List.getElem?_eq_some_iff.mp hu).1;have ul:us.length<=j:=by
     rw [hus];have:=List.length_filter_le (λe:Addr×List Int=>!decide (some e.2=bf)) (z.2.2.take j);rw [List.length_take] at this
     lia
    have zl:=z2.2.1 z hzm;refine ⟨⟨rfl,trivial⟩,?_⟩;refine ⟨_,rfl,_,rfl,plD u.2,bfD bf,Vh (s2 _ _ (ok1.el z hzm u hum)) (e2 u hum),(hbf.same s2).dat,Jg _,O4 _,_,rfl,?_⟩;rw [Zcl hbf (e2 u hum)];have tk:(z.2.2.take (j+1)).filter (λe=>!decide (some e.2=bf))=us++[u].filter λe=>!decide (some e.2=bf):=by rw [List.take_add_one,hu,List.filter_append,<-hus];rfl
    refine OO (λy=>?_) (λy=>?_)
    ·refine ⟨_,rfl,eD,by rw [List.length_map];lia,us++[u],by rw [List.map_append];rfl,s2.put hD,Gb,?_⟩;rw [tk,List.filter_cons,if_pos y]
     rfl
    ·refine ⟨us,rfl,s2,eD,?_⟩;rw [tk,List.filter_cons,if_neg y];simp
   ·rintro ys H2 ⟨us,rfl,s2,eD,hus⟩;rw [List.length_map,List.take_length] at hus;have um:us.map (·.2)=Zbe (nmZ zs) bf here:=by
     unfold Zbe;rw [O3,hz,hus];show _=List.filter _ (z.2.2.map (·.2));rw [List.filter_map]
     rfl
    rw [<-um,List.head?_map] at hx;obtain ⟨u,hu,rfl⟩:=Option.map_eq_some_iff.mp hx;have hum:u∈z.2.2:=(List.mem_filter.mp (by rw [<-hus];exact List.mem_of_mem_head? (by rw [hu];rfl))).1;have at0:atI (us.map λz=>V.ref z.1) 0=some (.ref u.1):=by
     cases us with
     | nil=>cases hu
     | cons u' us'=>rw [show u'=u from Option.some.inj hu];exact Vq (n:=0) (by decide) (by simp)
    dsimp only [GG];refine ⟨_,rfl,_,rfl,D,_,0,.ref u.1,rfl,rfl,SqL.of eD,at0,?_⟩;exact ⟨some here,_,u.1,u.2,_,rfl,s1.trans s2,⟨hb,rfl,s2 _ _ ehb,hh⟩,s2 _ _ (ok1.el z hzm u hum),e2 u hum,ex⟩
  ·have nb:bf≠none:=λy=>by subst y;exact c (decide_eq_true hbf)
   refine ⟨_,rfl,hb,_,_,_,rfl,rfl,SqT.of ehb,Ji (i:=0) (by lia) (by rw [hh];lia),_,rfl,_,_,rfl,rfl,_,rfl,OO (λc=>?_) (λc=>?_)⟩
   ·have c':bf=none\/gA here 0<i:=.inr (of_decide_eq_true c);obtain ⟨x,gs,hx,ex⟩:=body c' H1 rfl;rw [O3,Option.isSome_map] at gs;obtain ⟨z,hz⟩:=Option.isSome_iff_exists.mp gs;have hzm:=List.mem_of_find?_eq_some hz;have dg:DGet H1 d (.ref hb) (some (.ref z.2.1)):=by
     have:GZ (zs.map kvZ) (here.map Sum.inl)=some (.ref z.2.1):=by rw [JC,hz];rfl
     rw [<-this];exact Or.inr ⟨_,_,hb,.inr ⟨o,hd1⟩,rfl,ehb.trans (by rw [Jb]),rfl⟩
    refine ⟨λσ H2=>∃(bf:Option (List Int))(bv:V)(hb:Addr)(here:List Int)(v5:Option V),σ=[some (.ref d),some (.ref b),some (.int i),some bv,some (.ref hb),v5]/\Same H H2/\BfAt H2 bf bv/\H2 hb=some (.tup (here.map V.int))/\here.length=2/\ZA (nmZ zs) i m bf here=some e,λσ' H' hN=>⟨m,by lia,hN⟩,?_⟩;refine ⟨_,rfl,_,rfl,d,_,rfl,dg,z.2.1,rfl,⟨_,SqL.of (ok1.at_ z hzm)⟩,λD hD=>?_⟩;have e2:∀e∈z.2.2,e.2.length=2:=z2.1 z hzm;refine GH (K:=K) (a:=z.2.1) (xs:=z.2.2.map λe=>V.ref e.1) (λj ys H2=>∃us:List (Addr×List Int),ys=us.map (λz=>V.ref z.1)/\Same H1 H2/\H2 D=some (.lst ys)/\us=(z.2.2.take j).filter λe=>!decide (some e.2=bf)) ⟨[],rfl,Same.new hD,Gb,rfl⟩ (λj ys H2 _ ⟨_,_,y,_⟩=>SqL.of (y _ _ (ok1.at_ z hzm))) ?_ ?_
    ·rintro j x ys H2 hx ⟨us,rfl,s2,eD,hus⟩;rw [List.getElem?_map] at hx;obtain ⟨u,hu,rfl⟩:=Option.map_eq_some_iff.mp hx;have hum:=List.mem_of_getElem? hu;have hjl:j<z.2.2.length:=(List.getElem?_eq_some_iff.mp hu).1;have ul:us.length<=j:=by
      rw [hus];have:=List.length_filter_le (λe:Addr×List Int=>!decide (some e.2=bf)) (z.2.2.take j);rw [List.length_take] at this
      lia
     have zl:=z2.2.1 z hzm;refine ⟨⟨rfl,trivial⟩,?_⟩;refine ⟨_,rfl,_,rfl,plD u.2,bfD bf,Vh (s2 _ _ (ok1.el z hzm u hum)) (e2 u hum),(hbf.same s2).dat,Jg _,O4 _,_,rfl,?_⟩;rw [Zcl hbf (e2 u hum)];have tk:(z.2.2.take (j+1)).filter (λe=>!decide (some e.2=bf))=us++[u].filter λe=>!decide (some e.2=bf):=by rw [List.take_add_one,hu,List.filter_append,<-hus];rfl
     refine OO (λy=>?_) (λy=>?_)
     ·refine ⟨_,rfl,eD,by rw [List.length_map];lia,us++[u],by rw [List.map_append];rfl,s2.put hD,Gb,?_⟩;rw [tk,List.filter_cons,if_pos y]
      rfl
     ·refine ⟨us,rfl,s2,eD,?_⟩;rw [tk,List.filter_cons,if_neg y];simp
    ·rintro ys H2 ⟨us,rfl,s2,eD,hus⟩;rw [List.length_map,List.take_length] at hus;have um:us.map (·.2)=Zbe (nmZ zs) bf here:=by
      unfold Zbe;rw [O3,hz,hus];show _=List.filter _ (z.2.2.map (·.2));rw [List.filter_map]
      rfl
     rw [<-um,List.head?_map] at hx;obtain ⟨u,hu,rfl⟩:=Option.map_eq_some_iff.mp hx;have hum:u∈z.2.2:=(List.mem_filter.mp (by rw [<-hus];exact List.mem_of_mem_head? (by rw [hu];rfl))).1;have at0:atI (us.map λz=>V.ref z.1) 0=some (.ref u.1):=by
      cases us with
      | nil=>cases hu
      | cons u' us'=>rw [show u'=u from Option.some.inj hu];exact Vq (n:=0) (by decide) (by simp)
     dsimp only [GG];refine ⟨_,rfl,_,rfl,D,_,0,.ref u.1,rfl,rfl,SqL.of eD,at0,?_⟩;exact ⟨some here,_,u.1,u.2,_,rfl,s1.trans s2,⟨hb,rfl,s2 _ _ ehb,hh⟩,s2 _ _ (ok1.el z hzm u hum),e2 u hum,ex⟩
   ·refine ⟨_,rfl,?_⟩;have eh:=stop λy=>y.elim nb λy=>c (decide_eq_true y);subst eh;exact q hb H1 s1 ehb hh
end
end M
namespace M
open PySem L2
abbrev PZ:=List (Addr×List Int)
def PzOk (H:Hp)(us:PZ):Prop:=∀u∈us,H u.1=some (.tup (u.2.map V.int))/\u.2.length=2
theorem PzOk.same {H H':Hp}{us:PZ}(h:PzOk H us)(s:Same H H'):PzOk H' us:=λu hu=>⟨s _ _ (h u hu).1,(h u hu).2⟩
theorem PzOk.dats {K:W.Frag}{H:Hp}:∀{us:PZ},PzOk H us->DatVs K H (us.map λu=>V.ref u.1) (us.map λu=>plD u.2)
 | [],_=>.nil
 | u::us,h=>.cons (Vh (h u (List.mem_cons_self ..)).1 (h u (List.mem_cons_self ..)).2) (PzOk.dats λv hv=>h v (List.mem_cons_of_mem _ hv))
theorem Zco {us:PZ}{x:List Int}(h:∀u∈us,u.2.length=2)(hx:x.length=2):((us.map λu=>plD u.2).any λe=>PyData.eqv e (plD x))=decide (x∈us.map (·.2)):=by
 induction us with
 | nil=>rfl
 | cons u us ih=>
  rw [List.map_cons,List.any_cons,ih λv hv=>h v (List.mem_cons_of_mem _ hv),Ys (h u (List.mem_cons_self ..)) hx,List.map_cons];by_cases h1:u.2=x
  ·subst h1;simp
  ·have h2:¬ x=u.2:=λz=>h1 z.symm;simp [h1,h2]
section
variable {P:Program}{w:World}{K:W.Frag}{mg:Str->Option Value}{base:Heap}
def Zcp:Sp:=λvs H Q _=>∃(d l:Addr)(o:Obj)(zs:ZN)(ps:PZ)(sn:List (List Int)),vs=[.ref d,.ref l]/\H d=some (.frz o (.dT (zs.map kvZ)))/\NrOk H zs/\Z2 zs/\H l=some (.lst (ps.map λu=>V.ref u.1))/\PzOk H ps/\ps.length<=400/\Za2 (nmZ zs) 40 (ps.map (·.2)) 0=some sn /\
 ∀(d':Addr)(us:PZ)(H':Hp),Same H H'->H' d'=some (.lst (us.map λu=>V.ref u.1))->us.map (·.2)=sn->us.length<=20000->Q (.ref d') H'
theorem scRea:Gs ["near", "starts", "seen", "at", "other"] ["near", "starts"] (Gc Zp):=⟨rfl,rfl,rfl,by decide +kernel,rfl,by decide +kernel,by decide +kernel⟩
theorem Zcq {f:Addr}{fd:FuncData}(F:Fun K "_law_reached" "_law_reached" Zp f fd)(mLst:mg "list" = none)(mLen:mg "len" = none):GL P w K mg base CX0 1 f fd ["near", "starts"] Zcp:=by
 refine F.ok scRea (λvs H Q E h=>?_) (λcdv A outer s0 H vs Q E hr h=>?_)
 ·obtain ⟨_,_,_,_,_,_,rfl,_⟩:=h
  rfl
 ·obtain ⟨d,l,o,zs,ps,sn,rfl,hd,ok,z2,hl,okp,pl,he,q⟩:=h;have hu1:(A.deeper (PyProof.Rows.envOfC "_law_reached" (Gc Zp) s0.heap.objs.size f cdv)).units+1<cLine:=by have:=hr.un;lia
  have hu65:(A.deeper (PyProof.Rows.envOfC "_law_reached" (Gc Zp) s0.heap.objs.size f cdv)).units+65<cLine:=by have:=hr.un;lia
  have h16:(16777216:Nat)=sizeLine:=sizeLine_eq.symm;refine ⟨_,(@Gd _ _ _ _ _ (@Gq _ _ 2 _ _ _ _ scRea.nd rfl (Or.inl rfl) (G5 (Vo K) rfl mLst J1 (@Ga _ _ _ _ _ (pv 1) Ge rfl)) rfl (by first | exact .inl rfl | exact .inr rfl))
    (@Gd _ _ _ _ _ (@Gq _ _ 3 _ _ _ _ scRea.nd rfl (Or.inl rfl) Gg rfl (by first | exact .inl rfl | exact .inr rfl))
    (@Gd _ _ _ _ _ (VO PassesOwn.never (Gr JY (pv 3) (GA (ZcK K) rfl mLen PySem.boot_len (@Ga _ _ _ _ _ (pv 2) Ge rfl)) (Gw _))
    (@Gd _ _ _ _ _ (@GX _ _ _ _ _ _ _ _ PassesOwn.never rfl (JM K (Jy hu1 (pv 0) (@G3 _ _ _ _ _ _ _ (ZcJ K) (pv 2) (pv 3) (λ_ _=>rfl)) (λ_ _=>rfl))) (Gi (i:=4) scRea.nd rfl (Or.inl rfl))
    (@Gf _ _ _ (@GW _ _ _ _ _ _ _ _ (Gr (Zav K hu65) (pv 4) (pv 2) (by with_unfolding_all rfl)) (@Gf _ _ _ (JQ (UM PySem.F.plainAttrs_list PySem.F.slot_list_append PySem.F.type_list_append GY (pv 2) (@Ga _ _ _ _ _ (pv 4) Ge rfl)))) Gy)) (by intro _;rfl))
    (@Gf _ _ _ (@Gq _ _ 3 _ _ _ _ scRea.nd rfl (Or.inl rfl) (@Gx _ _ _ _ _ _ _ _ GF (pv 3) Gg) rfl (by first | exact .inl rfl | exact .inr rfl)))))
    (@Gf _ _ _ (@Gu _ _ _ _ (pv 2)))))),?_⟩
  refine ⟨_,rfl,l,_,rfl,.inl (SqL.of hl),λS hS=>?_⟩;have s1:Same H (upd H S (.lst (ps.map λu=>V.ref u.1))):=Same.new hS;have e1:upd H S (.lst (ps.map λu=>V.ref u.1)) S=some (.lst (ps.map λu=>V.ref u.1)):=Gb;dsimp only [GG];generalize upd H S (.lst (ps.map λu=>V.ref u.1))=H1 at s1 e1 ⊢;refine ⟨λm σ H2=>∃(us:PZ)(at_:Nat)(v4:Option V),σ=[some (.ref d),some (.ref l),some (.ref S),some (.int (at_:Int)),v4]/\Same H H2/\H2 S=some (.lst (us.map λu=>V.ref u.1))/\PzOk H2 us/\Za2 (nmZ zs) m (us.map (·.2)) at_=some sn/\m<=40/\us.length+400 * m<=16400,
   ⟨40,ps,0,_,rfl,s1,e1,okp.same s1,he,Nat.le_refl _,by lia⟩,?_⟩
  rintro m σ H2 ⟨us,at_,v4,rfl,s2,e2,ok2,em,hm,hl2⟩;obtain ⟨m,rfl⟩:∃m',m=m'+1:=by
   cases m with
   | zero=>cases em
   | succ m=>exact ⟨m,rfl⟩
  have dS:d≠S:=λq=>by rw [q,hS] at hd;cases hd
  have hd2:=s2 _ _ hd;have okn:=ok.same s2;unfold Za2 at em;rw [List.getElem?_map] at em;refine ⟨_,rfl,_,rfl,S,_,rfl,.inl (SqL.of e2),_,_,rfl,rfl,_,rfl,?_⟩;rw [List.length_map];refine OO (λc=>?_) (λc=>?_)
  ·have c':at_<us.length:=by have:=of_decide_eq_true c;lia
   have hu:us[at_]?=some us[at_]:=List.getElem?_eq_getElem c';have hum:us[at_]∈us:=List.getElem_mem c';rw [hu] at em;generalize us[at_]=u at hu hum em;obtain ⟨ns,gn,em⟩:=Option.bind_eq_some_iff.mp (show ((Ve (nmZ zs) u.2).bind λl=>Za2 (nmZ zs) m (l.foldl Za1 (us.map (·.2))) (at_+1))=some sn from em);rw [O3] at gn;obtain ⟨z,hz,rfl⟩:=Option.map_eq_some_iff.mp gn;have hzm:=List.mem_of_find?_eq_some hz;have eu:=ok2 u hum;have dg:DGet H2 d (.ref u.1) (some (.ref z.2.1)):=by
    have:GZ (zs.map kvZ) (u.2.map Sum.inl)=some (.ref z.2.1):=by rw [JC,hz];rfl
    rw [<-this];exact Or.inr ⟨_,_,u.1,.inr ⟨o,hd2⟩,rfl,eu.1.trans (by rw [Jb]),rfl⟩
   have atu:atI (us.map λu=>V.ref u.1) (at_:Int)=some (.ref u.1):=by
    rw [Vq (by lia) (by rw [List.length_map];lia),Int.toNat_natCast,List.getD_eq_getElem?_getD,List.getElem?_map,hu]
    rfl
   have zl:=z2.2.1 z hzm;have zS:z.2.1≠S:=λq=>by have:=ok.at_ z hzm;rw [q,hS] at this;cases this
   refine ⟨λσ H2=>∃(us:PZ)(at_:Nat)(v4:Option V),σ=[some (.ref d),some (.ref l),some (.ref S),some (.int (at_:Int)),v4]/\Same H H2/\H2 S=some (.lst (us.map λu=>V.ref u.1))/\PzOk H2 us/\Za2 (nmZ zs) m (us.map (·.2)) at_=some sn/\m<=40/\us.length+400 * m<=16400,λσ' H' hN=>⟨m,by lia,hN⟩,?_⟩;refine ⟨_,rfl,_,rfl,_,rfl,S,_,(at_:Int),.ref u.1,rfl,rfl,SqL.of e2,atu,d,_,rfl,dg,z.2.1,rfl,⟨_,SqL.of (okn.at_ z hzm)⟩,?_⟩;refine Jk (K:=K) (a:=z.2.1) (xs:=z.2.2.map λe=>V.ref e.1) (λj σ H3=>∃(vs:PZ)(v4:Option V),σ=[some (.ref d),some (.ref l),some (.ref S),some (.int (at_:Int)),v4]/\Same H H3/\(∀b ts,H2 b=some (.tup ts)->H3 b=some (.tup ts))/\H3 S=some (.lst (vs.map λu=>V.ref u.1))/\PzOk H3 vs/\vs.map (·.2)=((z.2.2.take j).map (·.2)).foldl Za1 (us.map (·.2))/\vs.length<=us.length+j)
    ⟨us,_,rfl,s2,λ_ _ e=>e,e2,ok2,rfl,Nat.le_refl _⟩ (λj σ H3 _ ⟨_,_,_,y,_⟩=>SqL.of (y _ _ (ok.at_ z hzm))) ?_ ?_
   ·rintro j x σ H3 hx ⟨vs,v4,rfl,s3,tk3,e3,ok3,m3,l3⟩;rw [List.getElem?_map] at hx;obtain ⟨e,he',rfl⟩:=Option.map_eq_some_iff.mp hx;have hem:=List.mem_of_getElem? he';have hjl:j<z.2.2.length:=(List.getElem?_eq_some_iff.mp he').1;have ee:=tk3 _ _ (okn.el z hzm e hem);have e2':=z2.1 z hzm e hem;have st:((z.2.2.take (j+1)).map (·.2)).foldl Za1 (us.map (·.2))=Za1 (vs.map (·.2)) e.2:=by rw [List.take_add_one,he',List.map_append,List.foldl_append,<-m3];rfl
    refine ⟨_,rfl,_,rfl,S,_,plD e.2,_,rfl,.inl (SqL.of e3),Vh ee e2',ok3.dats,Jg _,(λy hy=>by obtain ⟨_,_,rfl⟩:=List.mem_map.mp hy;exact Jg _),_,rfl,?_⟩;rw [Zco (λv hv=>(ok3 v hv).2) e2'];by_cases hin:e.2∈vs.map (·.2)
    ·rw [decide_eq_true hin];refine Je ?_;refine ⟨vs,_,rfl,s3,tk3,e3,ok3,?_,by lia⟩;rw [st];unfold Za1;rw [if_pos hin]
    ·rw [decide_eq_false hin];refine G9 ?_;refine ⟨_,rfl,.inl ⟨rfl,_,SqL.of e3⟩,_,rfl,S,_,_,rfl,rfl,e3,by rw [List.length_map];lia,?_⟩;have tkS:∀b ts,H3 b=some (.tup ts)->upd H3 S (.lst (vs.map (λu=>V.ref u.1)++[.ref e.1])) b=some (.tup ts):=λb ts y=>Gm y (GV y e3 (λq=>by cases q));refine ⟨vs++[e],_,rfl,s3.put hS,λb ts y=>tkS _ _ (tk3 _ _ y),by rw [Gb,List.map_append];rfl,λu hu=>?_,?_,by rw [List.length_append];show vs.length+1<=_;lia⟩
     ·rcases List.mem_append.mp hu with hu | hu
      ·exact ⟨tkS _ _ (ok3 u hu).1,(ok3 u hu).2⟩
      ·rw [List.mem_singleton.mp hu];exact ⟨tkS _ _ ee,e2'⟩
     ·rw [st,List.map_append];unfold Za1;rw [if_neg hin]
      rfl
   ·rintro σ H3 ⟨vs,v4,rfl,s3,tk3,e3,ok3,m3,l3⟩;rw [List.length_map,List.take_length] at m3;rw [List.length_map] at l3;refine ⟨_,rfl,_,_,rfl,rfl,?_⟩;exact ⟨vs,at_+1,_,rfl,s3,e3,ok3,by rw [m3];exact em,by lia,by lia⟩
  ·have c':us[at_]?=none:=List.getElem?_eq_none (Nat.le_of_not_lt λy=>c (decide_eq_true (by lia)));rw [c'] at em;have em:us.map (·.2)=sn:=Option.some.inj em;exact ⟨_,rfl,q S us H2 s2 e2 em (by lia)⟩
end
end M
namespace M
open PySem L2
theorem Wu {nm:NM}{k x:List Int}(h:∀p∈nm,p.1.length=2/\∀y∈p.2,y.length=2)(hk:k.length=2)(hx:x.length=2):∀p∈Vf nm k x,p.1.length=2/\∀y∈p.2,y.length=2:=by
 unfold Vf;split
 ·intro p hp;obtain ⟨q,hq,rfl⟩:=List.mem_map.mp hp;have:=h q hq;split
  ·refine ⟨this.1,λy hy=>?_⟩;rcases List.mem_append.mp hy with hy | hy
   ·exact this.2 y hy
   ·rw [List.mem_singleton.mp hy];exact hx
  ·exact this
 ·intro p hp;rcases List.mem_append.mp hp with hp | hp
  ·exact h p hp
  ·rw [List.mem_singleton.mp hp];exact ⟨hk,λy hy=>by rw [List.mem_singleton.mp hy];exact hx⟩
theorem Yt (ks:KI)(rs:List Int):(∀p∈YD ks rs,p.1.length=2/\∀y∈p.2,y.length=2)/\(YD ks rs).length<=2 * ks.length/\∀p∈YD ks rs,p.2.length<=2 * ks.length:=by
 have:∀(ks:KI)(nm:NM)(n:Nat),(∀p∈nm,p.1.length=2/\∀y∈p.2,y.length=2)->nm.length<=n->(∀p∈nm,p.2.length<=n) ->
   (∀p∈ks.foldl (VH rs) nm,p.1.length=2/\∀y∈p.2,y.length=2)/\(ks.foldl (VH rs) nm).length<=n+2 * ks.length/\∀p∈ks.foldl (VH rs) nm,p.2.length<=n+2 * ks.length:=by
  intro ks
  induction ks with
  | nil=>intro nm n a b c;exact ⟨a,b,c⟩
  | cons k ks ih=>
   intro nm n a b c;have st:(∀p∈VH rs nm k,p.1.length=2/\∀y∈p.2,y.length=2)/\(VH rs nm k).length<=n+2/\∀p∈VH rs nm k,p.2.length<=n+2:=by
    unfold VH;split
    ·have l1:=Ws nm (Zbd k.1) (Zbc k.1);have l2:=Ws (Vf nm (Zbd k.1) (Zbc k.1)) (Zbc k.1) (Zbd k.1);exact ⟨Wu (Wu a rfl rfl) rfl rfl,by lia,Ux (Ux c)⟩
    ·exact ⟨a,by lia,λp hp=>by have:=c p hp;lia⟩
   obtain ⟨a',b',c'⟩:=ih (VH rs nm k) (n+2) st.1 st.2.1 st.2.2;rw [List.foldl_cons,List.length_cons];exact ⟨a',by lia,λp hp=>by have:=c' p hp;lia⟩
 have h:=this ks [] 0 (by simp) (Nat.le_refl _) (by simp);unfold YD;exact ⟨h.1,by lia,λp hp=>by have:=h.2.2 p hp;lia⟩
theorem ZdK {zs:ZN}{ks:KI}{rs:List Int}(h:nmZ zs=YD ks rs)(hk:ks.length<=200):Z2 zs:=by
 obtain ⟨a,b,c⟩:=Yt ks rs;rw [<-h] at a b c;have m:∀z∈zs,(z.1,z.2.2.map (·.2))∈nmZ zs:=λz hz=>List.mem_map.mpr ⟨z,hz,rfl⟩;refine ⟨λz hz e he=>(a _ (m z hz)).2 e.2 (List.mem_map.mpr ⟨e,he,rfl⟩),λz hz=>?_,?_⟩
 ·have:=c _ (m z hz);rw [List.length_map] at this
  lia
 ·unfold nmZ at b;rw [List.length_map] at b
  lia
theorem ZdL {zs:ZN}{ks:KI}{rs:List Int}(h:nmZ zs=YD ks rs):∀z∈zs,z.1.length=2:=λz hz=>((Yt ks rs).1 (z.1,z.2.2.map (·.2)) (by rw [<-h];exact List.mem_map.mpr ⟨z,hz,rfl⟩)).1
theorem ZD {nm:NM}{i:Int}{n:Nat}{m:List Nat}(h:Uv nm i n=some m):∀c,c<=n->∃l,Uv nm i c=some l:=by
 induction n generalizing m with
 | zero=>intro c hc;rw [Nat.le_zero.mp hc];exact ⟨_,rfl⟩
 | succ n ih=>
  intro c hc;rcases Nat.lt_or_ge c (n+1) with hl | hl
  ·obtain ⟨l,h1,_⟩:=Option.bind_eq_some_iff.mp (show (Uv nm i n).bind _=some m from h);exact ih h1 c (by lia)
  ·rw [Nat.le_antisymm hc hl];exact ⟨m,h⟩
theorem ZE {nm:NM}{i:Int}{n:Nat}{m:List Nat}(h:Uv nm i n=some m):m.length=n:=by
 induction n generalizing m with
 | zero=>cases h;rfl
 | succ n ih=>
  obtain ⟨l,h1,h2⟩:=Option.bind_eq_some_iff.mp (show (Uv nm i n).bind _=some m from h);obtain ⟨s,_,rfl⟩:=Option.map_eq_some_iff.mp h2;rw [List.length_append,ih h1]
  rfl
theorem WX (us:PZ):SeqAt.shaped (.list (us.map λu=>plD u.2))=true:=by
 have c:∀us:PZ,PyData.canLayAll0 (us.map λu=>plD u.2)=true:=by
  intro us
  induction us with
  | nil=>simp [PyData.canLayAll0]
  | cons u us ih=>
   rw [List.map_cons];simp only [PyData.canLayAll0,ih,Bool.and_true];simp [plD,prD,PyData.canLay0,PyData.canLayAll0]
 have d:∀us:PZ,PyData.depthAll (us.map λu=>plD u.2)<=2:=by
  intro us
  induction us with
  | nil=>simp [PyData.depthAll]
  | cons u us ih=>
   rw [List.map_cons];have:PyData.depth (plD u.2)<=2:=by simp [plD,prD,PyData.depth,PyData.depthAll]
   simp only [PyData.depthAll]
   lia
 unfold SeqAt.shaped;rw [Bool.and_eq_true];refine ⟨by simp only [PyData.canLay0];exact c us,decide_eq_true ?_⟩;have:=d us;simp only [PyData.depth]
 lia
theorem Za6 (us:PZ):PyData.eqv (.list (us.map λu=>plD u.2)) (.list [])=decide (us=[]):=by
 cases us with
 | nil=>simp [PyData.eqv,PyData.eqvAll]
 | cons u us=>simp [PyData.eqv,PyData.eqvAll]
theorem Wv (a b:List Nat):mkS a++mkS b=mkS (a++b):=by
 refine VD ?_;rw [PySem.Str.cps_append,Array.toList_append]
 rfl
def wrV:Option (List Nat)->V
 | none=>.non
 | some m=>.str (mkS m)
section
variable {P:Program}{w:World}{K:W.Frag}{mg:Str->Option Value}{base:Heap}
def Zcr:Sp:=λvs H Q _=>∃(d l:Addr)(o:Obj)(ks:KI)(rs:List Int)(cols:Nat)(i:Int)(r:Option (List Nat)),vs=[.ref d,.int (cols:Int),.int i,.ref l]/\H d=some (.frz o (.dT (ks.map kvI)))/\ks.length<=200/\(∀p∈ks,∃a b c:Int,p.1=[a,b,c])/\H l=some (.lst (rs.map V.int))/\cols<=8/\Yn (YD ks rs) i cols=some r/\∀H',Same H H'->Q (wrV r) H'
theorem scWrd:Gs ["numbers", "columns", "i", "some", "near", "place", "column", "ends", "word"] ["numbers", "columns", "i", "some"] (Gc Zq):=⟨rfl,rfl,rfl,by decide +kernel,rfl,by decide +kernel,by decide +kernel⟩
theorem Zcs {f fBd fRe fEo:Addr}{fd fdBd fdRe fdEo:FuncData}(F:Fun K "_law_word" "_law_word" Zq f fd)(FBd:Fun K "_law_beside" "_law_beside" Z1 fBd fdBd)(bBd:Binds K fdBd ["numbers", "roads"] [])(mBd:mg "_law_beside" = some (.ref fBd))(GBd:GL P w K mg base CX0 1 fBd fdBd ["numbers", "roads"] Zcg)(FRe:Fun K "_law_reached" "_law_reached" Zp fRe fdRe)(bRe:Binds K fdRe ["near", "starts"] [])(mRe:mg "_law_reached" = some (.ref fRe))(GRe:GL P w K mg base CX0 1 fRe fdRe ["near", "starts"] Zcp)(FEo:Fun K "_law_end_of" "_law_end_of" Zo fEo fdEo)(bEo:Binds K fdEo ["near", "place", "i"] [])(mEo:mg "_law_end_of" = some (.ref fEo))(GEo:GL P w K mg base CX0 1 fEo fdEo ["near", "place", "i"] Zcm)(mRange:mg "range" = none)(mLen:mg "len" = none)(mInt:mg "int" = none):GL P w K mg base CX0 2 f fd ["numbers", "columns", "i", "some"] Zcr:=by
 refine F.ok scWrd (λvs H Q E h=>?_) (λcdv A outer s0 H vs Q E hr h=>?_)
 ·obtain ⟨_,_,_,_,_,_,_,_,rfl,_⟩:=h
  rfl
 ·obtain ⟨d,l,o,ks,rs,cols,i,r,rfl,hd,hkl,hk3,hl,hc8,hw,q⟩:=h;have hu1:(A.deeper (PyProof.Rows.envOfC "_law_word" (Gc Zq) s0.heap.objs.size f cdv)).units+1<cLine:=by have:=hr.un;lia
  have hu64:(A.deeper (PyProof.Rows.envOfC "_law_word" (Gc Zq) s0.heap.objs.size f cdv)).units+64<cLine:=by have:=hr.un;lia
  have h16:(16777216:Nat)=sizeLine:=sizeLine_eq.symm;refine ⟨_,(@Gd _ _ _ _ _ (@Gq _ _ 4 _ _ _ _ scWrd.nd rfl (Or.inr rfl) (@Gk _ _ _ _ _ _ _ _ _ _ _ _ _ _ _ _ GBd (hr.mono (by decide)) rfl mBd FBd.kp bBd .nil GM (@Ga _ _ _ _ _ (pv 0) (@Ga _ _ _ _ _ (pv 3) Ge rfl) rfl) (by decide) rfl rfl) rfl (by first | exact .inl rfl | exact .inr rfl))
    (@Gd _ _ _ _ _ (@GX _ _ _ _ _ _ _ _ PassesOwn.never rfl (Ul (pv 4)) (Gi (i:=5) scWrd.nd rfl (Or.inl rfl))
    (@Gf _ _ _ (@GW _ _ _ _ _ _ _ _ (PW.pt (UB (Gr JY (@G3 _ _ _ _ _ _ _ (OP K) (pv 5) Gg (λ_ _=>rfl)) (pv 2) (Gw _)) (Oy (Gr YJ (GA (ZcK K) rfl mLen PySem.boot_len (@Ga _ _ _ _ _ (Jy hu1 (pv 4) (pv 5) (λ_ _=>rfl)) Ge rfl)) Gg (Gw _))))) (@Gf _ _ _ (@Gu _ _ _ _ Ju)) Gy)) (by intro _;rfl))
    (@Gd _ _ _ _ _ (OD (i:=7) scWrd.nd rfl (Or.inl rfl) (own:=["column"]) rfl (Gj (fr:=[("i", 2),("near", 4)]) [(".0", .local),("column", .local),("i", .cell),("near", .cell)] rfl rfl (by decide +kernel) rfl (by decide +kernel) ⟨rfl,rfl,trivial⟩ ⟨λh=>GN h,λh=>GN h,λ_=>⟨_,rfl⟩,λ_=>⟨_,rfl⟩,trivial⟩ ⟨⟨rfl,.inl rfl,.inl rfl⟩,⟨rfl,.inl rfl,.inl rfl⟩,trivial⟩) (Jw rfl mRange (@Ga _ _ _ _ _ (pv 1) Ge rfl)) (λ_ _ _ _=>Gi (i:=0) (show List.Nodup (["column", "i", "near"]:List Str) by decide +kernel) rfl (Or.inl rfl)) (λ_ _ _ _=>JG (W2 (ZS hu1 (@GO _ _ _ _ _ (@Ga _ _ _ _ _ (pv 1) (@Ga _ _ _ _ _ (pv 0) Ge rfl) rfl)) (pv 2)) rfl)) (λ_ _ _ _=>@GO _ _ _ _ _ (@Ga _ _ _ _ _ (pv 1) (@Ga _ _ _ _ _ (pv 0) Ge rfl) rfl)))
    (@Gd _ _ _ _ _ (@GW _ _ _ _ _ _ _ _ (PW.pt (Oz (Gr (Zda K hu64) (pv 7) (@Jr _ _ _ _ Ge) (Gw _)) (Og (Gr YJ (GA (ZcK K) rfl mLen PySem.boot_len (@Ga _ _ _ _ _ (@Gk _ _ _ _ _ _ _ _ _ _ _ _ _ _ _ _ GRe (hr.mono (by decide)) rfl mRe FRe.kp bRe .nil GM (@Ga _ _ _ _ _ (pv 4) (@Ga _ _ _ _ _ (pv 7) Ge rfl) rfl) (by decide) rfl rfl) Ge rfl)) (GA ZaL rfl mLen PySem.boot_len (@Ga _ _ _ _ _ (pv 4) Ge rfl)) (Gw _))))) (@Gf _ _ _ (@Gu _ _ _ _ Ju)) Gy)
    (@Gd _ _ _ _ _ (@Gq _ _ 8 _ _ _ _ scWrd.nd rfl (Or.inl rfl) Jq rfl (by first | exact .inl rfl | exact .inr rfl))
    (@Gd _ _ _ _ _ (@GX _ _ _ _ _ _ _ _ PassesOwn.never rfl (Jw rfl mRange (@Ga _ _ _ _ _ (pv 1) Ge rfl)) (Gi (i:=6) scWrd.nd rfl (Or.inl rfl))
    (@Gf _ _ _ (@GW _ _ _ _ _ _ _ _ (W2 (Xz hu1 (@GO _ _ _ _ _ (@Ga _ _ _ _ _ (pv 2) (@Ga _ _ _ _ _ (pv 6) Ge rfl) rfl)) (pv 4)) rfl) (@Gf _ _ _ (@Gq _ _ 8 _ _ _ _ scWrd.nd rfl (Or.inl rfl) (@Gx _ _ _ _ _ _ _ _ OV (pv 8) Jq) rfl (by first | exact .inl rfl | exact .inr rfl))) (@Gf _ _ _ (@Gq _ _ 8 _ _ _ _ scWrd.nd rfl (Or.inl rfl) (@Gx _ _ _ _ _ _ _ _ OV (pv 8) (@G3 _ _ _ _ _ _ _ (ZcJ K) (@Jr _ _ _ _ (@Ga _ _ _ _ _ Jq (@Ga _ _ _ _ _ Jq Ge rfl) rfl)) (G5 Xg rfl mInt YY (@Ga _ _ _ _ _ (Jl JY (@G3 _ _ _ _ _ _ _ (OP K) (@Gk _ _ _ _ _ _ _ _ _ _ _ _ _ _ _ _ GEo (hr.mono (by decide)) rfl mEo FEo.kp bEo .nil GM (@Ga _ _ _ _ _ (pv 4) (@Ga _ _ _ _ _ (@GO _ _ _ _ _ (@Ga _ _ _ _ _ (pv 2) (@Ga _ _ _ _ _ (pv 6) Ge rfl) rfl)) (@Ga _ _ _ _ _ (pv 2) Ge rfl) rfl) rfl) (by decide) rfl rfl) Gg (λ_ _=>rfl)) (pv 6) (Gw _)) Ge rfl)) (λ_ _=>rfl))) rfl (by first | exact .inl rfl | exact .inr rfl))))) (by intro _;rfl))
    (@Gf _ _ _ (@Gu _ _ _ _ (pv 8))))))))),?_⟩
  refine ⟨_,rfl,_,rfl,d,l,o,ks,rs,rfl,hd,hkl,hk3,hl,λnd o' zs H1 s1 hnd end_ ok1 nm=>?_⟩;dsimp only [GG];have z2:=ZdK nm hkl;have k2:=ZdL nm;rw [<-nm] at hw;have zl:=z2.2.2;refine ⟨_,rfl,nd,_,rfl,.inr ⟨o',end_,?_⟩⟩;refine U1 (a:=nd) (o:=o') (kvs:=zs.map kvZ) (λj σ H2=>∃v5:Option V,σ=[some (.ref d),some (.int (cols:Int)),some (.int i),some (.ref l),some (.ref nd),v5,none,none,none]/\H1=H2/\∀z∈zs.take j,¬ (gA z.1 0<i/\z.2.2.length≠2)) ⟨_,rfl,rfl,by simp⟩ (λj σ H2 _ ⟨_,_,y,_⟩=>by rw [<-y];exact end_) ?_ ?_
  ·rintro j kk v b σ H2 hkv hb ⟨v5,rfl,rfl,qY⟩;rw [List.getElem?_map] at hkv;obtain ⟨z,hz,ep⟩:=Option.map_eq_some_iff.mp hkv;have hzm:=List.mem_of_getElem? hz;obtain ⟨rfl,rfl⟩:kk=z.1.map Sum.inl/\v=.ref z.2.1:=Prod.mk.inj ep.symm;have hjl:j<zs.length:=(List.getElem?_eq_some_iff.mp hz).1;have hb0:=hb;rw [Jb] at hb;have dg:DGet H1 nd (.ref b) (some (.ref z.2.1)):=by
    have vv:GZ (zs.map kvZ) (z.1.map Sum.inl)=some (.ref z.2.1):=by
     have:(zs.map kvZ)[j]?=some (z.1.map Sum.inl,.ref z.2.1):=by rw [List.getElem?_map,hz];rfl
     rw [JC];have fz:zs.find? (λy=>decide (y.1=z.1))=some z:=by
      obtain ⟨as,bs,rfl⟩:=List.append_of_mem hzm;have kn:=ok1.kn;rw [List.map_append,List.map_cons,List.nodup_append] at kn;rw [List.find?_append,List.find?_eq_none.mpr,Option.none_or,List.find?_cons,decide_eq_true rfl];intro y hy;have:=kn.2.2 y.1 (List.mem_map.mpr ⟨y,hy,rfl⟩) z.1 (List.mem_cons_self ..);simpa using this
     rw [fz]
     rfl
    rw [<-vv];exact Or.inr ⟨_,_,b,.inr ⟨o',end_⟩,rfl,hb0,rfl⟩
   have nxt:¬ (gA z.1 0<i/\z.2.2.length≠2)->∀y∈zs.take (j+1),¬ (gA y.1 0<i/\y.2.2.length≠2):=λc y hy=>by
    rw [List.take_add_one,hz] at hy;rcases List.mem_append.mp hy with hy | hy
    ·exact qY y hy
    ·rw [show y=z by simpa using hy];exact c
   refine ⟨_,rfl,b,_,_,_,rfl,rfl,SqT.of hb,Ji (i:=0) (by lia) (by rw [k2 z hzm];lia),_,rfl,_,_,rfl,rfl,_,rfl,OO (λc=>?_) (λc=>?_)⟩
   ·have c':gA z.1 0<i:=of_decide_eq_true c;refine ⟨_,rfl,_,rfl,nd,_,rfl,dg,z.2.1,_,rfl,.inl (SqL.of (ok1.at_ z hzm)),rfl,_,rfl,OO (λy=>?_) (λy=>?_)⟩
    ·have y':z.2.2.length≠2:=λe=>by rw [List.length_map,e] at y;simp at y
     have rn:r=none:=by
      unfold Yn at hw;have ha:((nmZ zs).any λp=>decide (gA p.1 0<i) && !decide (p.2.length=2))=true:=List.any_eq_true.mpr ⟨(z.1,z.2.2.map (·.2)),List.mem_map.mpr ⟨z,hzm,rfl⟩,by rw [Bool.and_eq_true];exact ⟨decide_eq_true c',by rw [List.length_map];simp [y']⟩⟩;rw [if_pos ha] at hw;exact (Option.some.inj hw).symm
     subst rn;exact q H1 s1
    ·exact ⟨_,rfl,rfl,nxt λe=>y (by rw [List.length_map];simp;lia)⟩
   ·exact ⟨_,rfl,rfl,nxt λe=>c (decide_eq_true e.1)⟩
  ·rintro σ H2 ⟨v5,rfl,rfl,qY⟩;rw [List.length_map,List.take_length] at qY;have na:((nmZ zs).any λp=>decide (gA p.1 0<i) && !decide (p.2.length=2))=false:=by
    rw [List.any_eq_false];intro p hp y;obtain ⟨z,hz,rfl⟩:=List.mem_map.mp hp;rw [Bool.and_eq_true] at y;refine qY z hz ⟨of_decide_eq_true y.1,λe=>?_⟩;have:=y.2;rw [List.length_map,e] at this;simp at this
   unfold Yn at hw;rw [na] at hw
   replace hw:=hw
   rw [if_neg (show ¬ (false=true) by decide)] at hw;have dgk:∀(H3:Hp)(T:Addr)(k:List Int),Same H1 H3->H3 T=some (.tup (k.map V.int))->DGet H3 nd (.ref T) (GZ (zs.map kvZ) (k.map Sum.inl)):=λH3 T k s e=>Or.inr ⟨_,_,T,.inr ⟨o',s _ _ end_⟩,rfl,e.trans (by rw [Jb]),rfl⟩;have isS:∀k:List Int,(GZ (zs.map kvZ) (k.map Sum.inl)).isSome=(Ve (nmZ zs) k).isSome:=λk=>by rw [JC,O3,Option.isSome_map,Option.isSome_map]
   refine ⟨_,rfl,_,rfl,by lia,by lia,λD hD=>?_⟩;refine OZ (lo:=0) (λj ys H2=>∃ps:PZ,ys=ps.map (λu=>V.ref u.1)/\Same H1 H2/\H2 D=some (.lst ys)/\PzOk H2 ps/\ps.map (·.2)=((List.range j).map λ(c:Nat)=>[i,(c:Int)]).filter λk=>(Ve (nmZ zs) k).isSome) ⟨[],rfl,Same.new hD,Gb,(λu hu=>by cases hu),rfl⟩ ?_ ?_
   ·rintro j ys H2 hj ⟨ps,rfl,s2,eD,okp,mp⟩;rw [Int.toNat_natCast] at hj;have pl:ps.length<=j:=by
     have:=congrArg List.length mp;rw [List.length_map] at this;have h2:=List.length_filter_le (λk=>(Ve (nmZ zs) k).isSome) ((List.range j).map λ(c:Nat)=>[i,(c:Int)]);rw [List.length_map,List.length_range] at h2
     lia
    rw [Int.zero_add];refine ⟨⟨rfl,rfl,trivial⟩,?_⟩;refine ⟨_,rfl,_,rfl,GU,λT hT=>?_⟩;have s3:Same H2 (upd H2 T (.tup [.int i,.int (j:Int)])):=Same.new hT;have eT:upd H2 T (.tup [.int i,.int (j:Int)]) T=some (.tup (([i,(j:Int)]:List Int).map V.int)):=Gb;generalize upd H2 T (.tup [.int i,.int (j:Int)])=H3 at s3 eT ⊢;refine ⟨_,rfl,nd,_,rfl,dgk H3 T [i,(j:Int)] (s2.trans s3) eT,_,rfl,?_⟩;rw [isS];have tk:((List.range (j+1)).map λ(c:Nat)=>[i,(c:Int)]).filter (λk=>(Ve (nmZ zs) k).isSome)=ps.map (·.2)++[[i,(j:Int)]].filter λk=>(Ve (nmZ zs) k).isSome:=by rw [List.range_succ,List.map_append,List.filter_append,<-mp];rfl
    refine OO (λy=>?_) (λy=>?_)
    ·refine ⟨_,rfl,_,rfl,GU,λT2 hT2=>?_⟩;have s4:Same H3 (upd H3 T2 (.tup [.int i,.int (j:Int)])):=Same.new hT2;have eT2:upd H3 T2 (.tup [.int i,.int (j:Int)]) T2=some (.tup (([i,(j:Int)]:List Int).map V.int)):=Gb;generalize upd H3 T2 (.tup [.int i,.int (j:Int)])=H4 at s4 eT2 ⊢;have eD4:=s4 _ _ (s3 _ _ eD);refine ⟨eD4,by rw [List.length_map];lia,ps++[(T2,[i,(j:Int)])],by rw [List.map_append];rfl,((s2.trans s3).trans s4).put hD,Gb,λu hu=>?_,?_⟩
     ·rcases List.mem_append.mp hu with hu | hu
      ·have y:=okp u hu;have e:=s4 _ _ (s3 _ _ y.1);exact ⟨Gm e (GV e eD4 (λq=>by cases q)),y.2⟩
      ·rw [List.mem_singleton.mp hu];exact ⟨Gm eT2 (GV eT2 eD4 (λq=>by cases q)),rfl⟩
     ·rw [tk,List.map_append,List.filter_cons,if_pos y]
      rfl
    ·refine ⟨ps,rfl,s2.trans s3,s3 _ _ eD,okp.same s3,?_⟩;rw [tk,List.filter_cons,if_neg y];simp
   ·rintro ys H2 ⟨ps,rfl,s2,eD,okp,mp⟩;rw [Int.toNat_natCast] at mp;have ef:Za3 (nmZ zs) i cols=ps.map (·.2):=by rw [mp];rfl
    have pl:ps.length<=cols:=by
     have:=congrArg List.length mp;rw [List.length_map] at this;have h2:=List.length_filter_le (λk=>(Ve (nmZ zs) k).isSome) ((List.range cols).map λ(c:Nat)=>[i,(c:Int)]);rw [List.length_map,List.length_range] at h2
     lia
    rw [ef] at hw;dsimp only [GG];have S2:=s1.trans s2;have en2:=s2 _ _ end_;have ok2:=ok1.same s2;refine ⟨_,rfl,Nat.zero_le _,λL hL=>⟨_,_,.lst (SqL.of (Gm eD (λe=>by rw [e,hL] at eD;cases eD))) (okp.same (Same.new hL)).dats,.lst (SqL.of Gb) .nil,WX _,rfl,_,rfl,?_⟩⟩;have s3:Same H2 (upd H2 L (.lst [])):=Same.new hL;generalize upd H2 L (.lst [])=H3 at s3 ⊢;have S3:=S2.trans s3;have s13:=s2.trans s3;have en3:=s3 _ _ en2;have ok3:=ok2.same s3;have okp3:=okp.same s3;have eD3:=s3 _ _ eD;rw [Za6];by_cases pe:ps=[]
    ·subst pe;refine G9 ?_;rw [if_pos (show ([]:PZ).map (·.2)=[] from rfl)] at hw;rw [<-Option.some.inj hw] at q;exact q H3 S3
    rw [decide_eq_false pe];refine Je ?_;rw [if_neg (λe=>pe (List.map_eq_nil_iff.mp e))] at hw;obtain ⟨sn,hsn,hw⟩:=Option.bind_eq_some_iff.mp hw;refine ⟨_,rfl,_,rfl,nd,D,o',zs,ps,sn,rfl,en3,ok3,z2,eD3,okp3,by lia,hsn,λd' us H4 s4 ed' mu lu=>?_⟩;have S4:=S3.trans s4;have s14:=s13.trans s4;have ul:us.length=sn.length:=by rw [<-mu,List.length_map]
    have nl:(nmZ zs).length=zs.length:=List.length_map _;refine ⟨d',_,rfl,.inl (SqL.of ed'),_,rfl,nd,_,rfl,.inr ⟨o',s4 _ _ en3⟩,by rw [List.length_map];lia,rfl,_,rfl,?_⟩;rw [List.length_map,List.length_map,JL];by_cases le:sn.length=(nmZ zs).length
    ·rw [decide_eq_true (show (us.length:Int)=(zs.length:Int) by lia)];refine Je ?_;rw [if_pos le] at hw;obtain ⟨m,hm,rfl⟩:=Option.map_eq_some_iff.mp hw;have s14':=s14;refine ⟨_,rfl,_,rfl,by lia,by lia,?_⟩;refine JX (lo:=0) (λc σ H5=>∃(v5 v6 v7:Option V)(lc:List Nat),σ=[some (.ref d),some (.int (cols:Int)),some (.int i),some (.ref l),some (.ref nd),v5,v6,v7,some (.str (mkS lc))]/\Same H1 H5/\Uv (nmZ zs) i c=some lc) ⟨_,_,_,[],rfl,s14,rfl⟩ ?_ ?_
     ·rintro c σ H5 hc ⟨v5,v6,v7,lc,rfl,s5,hlc⟩;rw [Int.toNat_natCast] at hc;rw [Int.zero_add];dsimp only [GG];have ll:=ZE hlc;obtain ⟨ln,hln⟩:=ZD hm (c+1) hc;have hst:(Uv (nmZ zs) i c).bind (λl=>(ZcO (nmZ zs) i c).map λs=>l++[s])=some ln:=hln;rw [hlc] at hst;obtain ⟨sg,hsg,hl2⟩:=Option.map_eq_some_iff.mp (show (ZcO (nmZ zs) i c).map (λs=>lc++[s])=some ln from hst);subst hl2;refine ⟨_,rfl,_,rfl,GU,λT hT=>?_⟩;have s6:Same H5 (upd H5 T (.tup [.int i,.int (c:Int)])):=Same.new hT;have eT:upd H5 T (.tup [.int i,.int (c:Int)]) T=some (.tup (([i,(c:Int)]:List Int).map V.int)):=Gb;generalize upd H5 T (.tup [.int i,.int (c:Int)])=H6 at s6 eT ⊢;have s16:=s5.trans s6;refine ⟨_,rfl,nd,_,rfl,dgk H6 T [i,(c:Int)] s16 eT,_,rfl,?_⟩;rw [isS];have lstr:∀x:List Nat,(mkS x).length=x.length:=λx=>rfl;unfold ZcO at hsg;by_cases g:(Ve (nmZ zs) [i,(c:Int)]).isSome=true
      ·rw [g];refine Je ?_;rw [if_pos g] at hsg;obtain ⟨e,he,hsg⟩:=Option.bind_eq_some_iff.mp hsg;refine ⟨_,rfl,GU,λL2 hL2=>?_⟩;have s7:Same H6 (upd H6 L2 (.lst [.str ("(" : Str),.str (")" : Str)])):=Same.new hL2;have eL2:upd H6 L2 (.lst [.str ("(" : Str),.str (")" : Str)]) L2=some (.lst [.str ("(" : Str),.str (")" : Str)]):=Gb;generalize upd H6 L2 (.lst [.str ("(" : Str),.str (")" : Str)])=H7 at s7 eL2 ⊢;have s17:=s16.trans s7;refine ⟨_,rfl,_,rfl,_,rfl,GU,λT3 hT3=>?_⟩;have s8:Same H7 (upd H7 T3 (.tup [.int i,.int (c:Int)])):=Same.new hT3;have eT3:upd H7 T3 (.tup [.int i,.int (c:Int)]) T3=some (.tup (([i,(c:Int)]:List Int).map V.int)):=Gb;generalize upd H7 T3 (.tup [.int i,.int (c:Int)])=H8 at s8 eT3 ⊢;have s18:=s17.trans s8;refine ⟨_,rfl,nd,T3,o',zs,[i,(c:Int)],e,i,rfl,s18 _ _ end_,ok1.same s18,z2,eT3,rfl,he,λb' H9 s9 eb le2=>?_⟩;refine ⟨b',_,1,_,rfl,rfl,SqT.of eb,Ji (i:=1) (by lia) (by rw [le2];lia),_,rfl,_,_,rfl,rfl,.inr ⟨_,rfl,L2,_,_,.str (mkS [if gA e 1<(c:Int) then 41 else 40]),rfl,rfl,SqL.of (s9 _ _ (s8 _ _ eL2)),?_,_,_,rfl,rfl,?_,?_⟩⟩
       ·by_cases y:gA e 1<(c:Int)
        ·rw [if_pos y,show decide (e.getD (1:Int).toNat 0<(c:Int))=true from decide_eq_true y]
         rfl
        ·rw [if_neg y,show decide (e.getD (1:Int).toNat 0<(c:Int))=false from decide_eq_false y]
         rfl
       ·rw [lstr,lstr];show lc.length+1<=_
        lia
       ·rw [Wv];have hsg':=Option.some.inj hsg;rw [hsg'];exact ⟨_,_,_,lc++[sg],rfl,s18.trans s9,hln⟩
      ·rw [show (Ve (nmZ zs) [i,(c:Int)]).isSome=false by simpa using g];refine G9 ?_;rw [if_neg g] at hsg;refine ⟨_,rfl,_,_,rfl,rfl,?_,?_⟩
       ·rw [lstr];show lc.length+1<=_
        lia
       ·rw [show ("." : Str)=mkS [46] from rfl,Wv];rw [show (46:Nat)=sg from Option.some.inj hsg];exact ⟨_,_,_,lc++[sg],rfl,s16,hln⟩
     ·rintro σ H5 ⟨v5,v6,v7,lc,rfl,s5,hlc⟩;rw [Int.toNat_natCast] at hlc;rw [hm] at hlc;cases hlc;exact ⟨_,rfl,q H5 (s1.trans s5)⟩
    ·rw [decide_eq_false (show ¬ ((us.length:Int)=(zs.length:Int)) by lia)];refine G9 ?_;rw [if_neg le] at hw;rw [<-Option.some.inj hw] at q;exact q H4 S4
end
end M
namespace M
open PySem L2
theorem VL {α:Type}{lt:α->α->Bool}(tot:∀a b,lt a b=false->lt b a=false->a=b):∀{l l':List α},l.Perm l'->l.Pairwise (λa b=>lt b a=false)->l'.Pairwise (λa b=>lt b a=false)->l=l'
 | [],l',p,_,_=>(List.nil_perm.mp p).symm
 | a::l,[],p,_,_=>absurd (List.perm_nil.mp p) (by simp)
 | a::l,b::l',p,h1,h2=>by
  rw [List.pairwise_cons] at h1 h2;have e:a=b:=by
   have ha:a∈b::l':=p.mem_iff.mp (List.mem_cons_self ..);have hb:b∈a::l:=p.mem_iff.mpr (List.mem_cons_self ..);rcases List.mem_cons.mp ha with h | h
   ·exact h
   rcases List.mem_cons.mp hb with h' | h'
   ·exact h'.symm
   ·exact tot _ _ (h2.1 a h) (h1.1 b h')
  subst e;rw [VL tot (List.Perm.cons_inv p) h1.2 h2.2]
def kvT (p:List Nat×Int):Key×V:=(Sum.inr (mkS p.1),V.int p.2)
theorem inr_inj {a b:List Nat}:(Sum.inr (mkS a):Key)=Sum.inr (mkS b)↔a=b:=⟨λh=>str_mk.mp (Sum.inr.inj h),λh=>by rw [h]⟩
theorem Yu (t:TI)(m:List Nat):GZ (t.map kvT) (Sum.inr (mkS m))=(Wp t m).map V.int:=by
 induction t with
 | nil=>rfl
 | cons p t ih=>
  unfold GZ Wp at *;rw [List.map_cons,List.find?_cons,List.find?_cons];by_cases h:p.1=m
  ·rw [show decide ((kvT p).1=Sum.inr (mkS m))=true from decide_eq_true (inr_inj.mpr h),decide_eq_true h]
   rfl
  ·rw [show decide ((kvT p).1=Sum.inr (mkS m))=false from decide_eq_false (λz=>h (inr_inj.mp z)),decide_eq_false h];exact ih
theorem Za7 (t:TI)(m:List Nat)(n:Int):Ol (t.map kvT) (Sum.inr (mkS m)) (.int n)=(VI t m n).map kvT:=by
 unfold Ol VI;have e:((t.map kvT).any λkv=>decide (kv.1=Sum.inr (mkS m)))=t.any λp=>decide (p.1=m):=by
  rw [List.any_map]
  congr 1
  funext p
  exact decide_eq_decide.mpr inr_inj
 rw [e];by_cases h:(t.any λp=>decide (p.1=m))=true
 ·rw [if_pos h,if_pos h,List.map_map,List.map_map];refine List.map_congr_left λp _=>?_;show (if (Sum.inr (mkS p.1):Key)=Sum.inr (mkS m) then ((Sum.inr (mkS p.1):Key),V.int n) else kvT p)=kvT (if p.1=m then (p.1,n) else p);by_cases z:p.1=m
  ·rw [if_pos z,if_pos (inr_inj.mpr z)]
   rfl
  ·rw [if_neg z,if_neg (λy=>z (inr_inj.mp y))]
 ·rw [if_neg h,if_neg h,List.map_append]
  rfl
theorem Yv (t:TI)(m:List Nat)(n:Int):(VI t m n).length<=t.length+1:=by
 unfold VI;split
 ·rw [List.length_map];lia
 ·rw [List.length_append];exact Nat.le_refl _
theorem ZG {t:TI}(h:(t.map (·.1)).Nodup)(m:List Nat)(n:Int):((VI t m n).map (·.1)).Nodup:=by
 unfold VI;split
 ·rw [List.map_map,show t.map ((λp=>p.1)∘λp=>if p.1=m then (p.1,n) else p)=t.map (·.1) from List.map_congr_left λp _=>by show (if p.1=m then (p.1,n) else p).1=p.1;split <;> rfl];exact h
 ·rename_i c;rw [List.map_append,List.nodup_append];refine ⟨h,by simp,λx hx y hy e=>c ?_⟩;obtain ⟨q,hq,rfl⟩:=List.mem_map.mp hx;have hy:y=m:=by simpa using hy
  exact List.any_eq_true.mpr ⟨q,hq,decide_eq_true (e.trans hy)⟩
theorem Yw {t:TI}(nd:(t.map (·.1)).Nodup){p:List Nat×Int}(hp:p∈t):Wp t p.1=some p.2:=by
 obtain ⟨a,b,rfl⟩:=List.append_of_mem hp;rw [List.map_append,List.map_cons,List.nodup_append] at nd;unfold Wp;rw [List.find?_append,List.find?_eq_none.mpr,Option.none_or,List.find?_cons,decide_eq_true rfl]
 ·rfl
 ·intro q hq;have:=nd.2.2 q.1 (List.mem_map.mpr ⟨q,hq,rfl⟩) p.1 (List.mem_cons_self ..);simpa using this
theorem Za8 {ks:KI}{i:Int}{cols:Nat}:∀{xs:List (List Int)}{f:Option TI}{t:TI},xs.foldl (Z7 ks i cols) f=some t->∃t0,f=some t0:=by
 intro xs
 induction xs with
 | nil=>intro f t h;exact ⟨t,h⟩
 | cons x xs ih=>
  intro f t h;obtain ⟨t1,h1⟩:=ih h;unfold Z7 at h1;obtain ⟨t0,h2,_⟩:=Option.bind_eq_some_iff.mp h1;exact ⟨t0,h2⟩
theorem Zct {ks:KI}{i:Int}{cols:Nat}{xs:List (List Int)}{t:TI}(h:xs.foldl (Z7 ks i cols) (some [])=some t)(j:Nat):∃tj,(xs.take j).foldl (Z7 ks i cols) (some [])=some tj:=by
 rw [<-List.take_append_drop j xs,List.foldl_append] at h;exact Za8 h
def tSI (t:TI):List (Str×Int):=t.map λp=>(mkS p.1,p.2)
section
variable {P:Program}{w:World}{K:W.Frag}{mg:Str->Option Value}{base:Heap}
def Zcu:Sp:=λvs H Q _=>∃(rows cols i:Nat)(t:TI),vs=[.int (rows:Int),.int (cols:Int),.int (i:Int)]/\rows<=8/\cols<=8/\(numF rows cols rows).length<=200/\(∀p∈numF rows cols rows,∃a b c:Int,p.1=[a,b,c])/\((numF rows cols rows).map (·.1)).Nodup/\((numF rows cols rows).map (·.1)).Pairwise (λa b=>Jc b a=false)/\(rdsF (numF rows cols rows) (i:Int)).length<=12/\ZcP rows cols i=some t/\t.length<=1000 /\
 ∀(d:Addr)(zs:List SIz)(H':Hp),Same H H'->H d=none->H' d=some (.lst (zs.map λz=>V.ref z.1))->(∀z∈zs,H' z.1=some (.tup [.str z.2.1,.int z.2.2]))->(zs.map (·.2)).Perm (tSI t)->(zs.map (·.2)).Pairwise (λa b=>OJ b a=false)->Q (.ref d) H'
theorem scDue:Gs ["rows", "columns", "i", "numbers", "roads", "found", "some", "word"] ["rows", "columns", "i"] (Gc Zr):=⟨rfl,rfl,rfl,by decide +kernel,rfl,by decide +kernel,by decide +kernel⟩
theorem Zcv {f fNu fCh fWd:Addr}{fd fdNu fdCh fdWd:FuncData}(F:Fun K "_law_due" "_law_due" Zr f fd)(FNu:Fun K "_law_numbers" "_law_numbers" Z0 fNu fdNu)(bNu:Binds K fdNu ["rows", "columns"] [])(mNu:mg "_law_numbers" = some (.ref fNu))(GNu:GL P w K mg base CX0 1 fNu fdNu ["rows", "columns"] Zcb)(FCh:Fun K "_law_choices" "_law_choices" ZaT fCh fdCh)(bCh:Binds K fdCh ["roads"] [])(mCh:mg "_law_choices" = some (.ref fCh))(GCh:GL P w K mg base CX0 1 fCh fdCh ["roads"] Zcj)(FWd:Fun K "_law_word" "_law_word" Zq fWd fdWd)(bWd:Binds K fdWd ["numbers", "columns", "i", "some"] [])(mWd:mg "_law_word" = some (.ref fWd))(GWd:GL P w K mg base CX0 2 fWd fdWd ["numbers", "columns", "i", "some"] Zcr)(mSor:mg "sorted" = none):GL P w K mg base CX0 3 f fd ["rows", "columns", "i"] Zcu:=by
 refine F.ok scDue (λvs H Q E h=>?_) (λcdv A outer s0 H vs Q E hr h=>?_)
 ·obtain ⟨_,_,_,_,rfl,_⟩:=h
  rfl
 ·obtain ⟨rows,cols,i,t,rfl,hr8,hc8,hkl,hk3,hnd,hso,hrd,ht,htl,q⟩:=h;have hu1:(A.deeper (PyProof.Rows.envOfC "_law_due" (Gc Zr) s0.heap.objs.size f cdv)).units+1<cLine:=by have:=hr.un;lia
  have hu64:(A.deeper (PyProof.Rows.envOfC "_law_due" (Gc Zr) s0.heap.objs.size f cdv)).units+64<cLine:=by have:=hr.un;lia
  have h16:(16777216:Nat)=sizeLine:=sizeLine_eq.symm;have hu64':=hu64;refine ⟨_,(@Gd _ _ _ _ _ (@Gq _ _ 3 _ _ _ _ scDue.nd rfl (Or.inr rfl) (@Gk _ _ _ _ _ _ _ _ _ _ _ _ _ _ _ _ GNu (hr.mono (by decide)) rfl mNu FNu.kp bNu .nil GM (@Ga _ _ _ _ _ (pv 0) (@Ga _ _ _ _ _ (pv 1) Ge rfl) rfl) (by decide) rfl rfl) rfl (by first | exact .inl rfl | exact .inr rfl))
    (@Gd _ _ _ _ _ (OD (i:=4) scDue.nd rfl (Or.inl rfl) (own:=["key"]) rfl (Gj (fr:=[("i", 2),("numbers", 3)]) [(".0", .local),("key", .local),("i", .cell),("numbers", .cell)] rfl rfl (by decide +kernel) rfl (by decide +kernel) ⟨rfl,rfl,trivial⟩ ⟨λh=>GN h,λh=>GN h,λ_=>⟨_,rfl⟩,λ_=>⟨_,rfl⟩,trivial⟩ ⟨⟨rfl,.inl rfl,.inl rfl⟩,⟨rfl,.inl rfl,.inl rfl⟩,trivial⟩) (JM K (GA (ZaN rfl hu64) rfl mSor PyProof.Rows.boot_sorted (@Ga _ _ _ _ _ (pv 3) Ge rfl))) (λ_ _ _ _=>Gi (i:=0) (show List.Nodup (["key", "i", "numbers"]:List Str) by decide +kernel) rfl (Or.inl rfl)) (λ_ _ _ _=>JG (Gr JY (@G3 _ _ _ _ _ _ _ (OP K) (pv 0) Gg (λ_ _=>rfl)) (pv 1) (Gw _))) (λ_ _ _ _=>Jy hu1 (pv 2) (pv 0) (λ_ _=>rfl)))
    (@Gd _ _ _ _ _ (@Gq _ _ 5 _ _ _ _ scDue.nd rfl (Or.inr rfl) V3 rfl (by first | exact .inl rfl | exact .inr rfl))
    (@Gd _ _ _ _ _ (@GX _ _ _ _ _ _ _ _ PassesOwn.never rfl (JM K (@Gk _ _ _ _ _ _ _ _ _ _ _ _ _ _ _ _ GCh (hr.mono (by decide)) rfl mCh FCh.kp bCh .nil GM (@Ga _ _ _ _ _ (pv 4) Ge rfl) (by decide) rfl rfl)) (Gi (i:=6) scDue.nd rfl (Or.inl rfl))
    (@Gd _ _ _ _ _ (@Gq _ _ 7 _ _ _ _ scDue.nd rfl (Or.inl rfl) (@Gk _ _ _ _ _ _ _ _ _ _ _ _ _ _ _ _ GWd (hr.mono (by decide)) rfl mWd FWd.kp bWd .nil GM (@Ga _ _ _ _ _ (pv 3) (@Ga _ _ _ _ _ (pv 1) (@Ga _ _ _ _ _ (pv 2) (@Ga _ _ _ _ _ (pv 6) Ge rfl) rfl) rfl) rfl) (by decide) rfl rfl) rfl (by first | exact .inl rfl | exact .inr rfl))
    (@Gf _ _ _ (@GW _ _ _ _ _ _ _ _ (Gr Xd (pv 7) Ju (Gw _)) (@Gf _ _ _ (JS hu1 (pv 5) (pv 7) (@Gx _ _ _ _ _ _ _ _ GF (Ub hu1 (pv 5) (pv 7) Gg ⟨rfl,rfl,rfl,rfl⟩) Gg) rfl)) Gy))) (by intro _;rfl))
    (@Gf _ _ _ (@Gu _ _ _ _ (Jm (own:=["word"]) rfl (Gj (fr:=[("found", 5)]) [(".0", .local),("word", .local),("found", .cell)] rfl rfl (by decide +kernel) rfl (by decide +kernel) ⟨rfl,trivial⟩ ⟨λh=>GN h,λh=>GN h,λ_=>⟨_,rfl⟩,trivial⟩ ⟨⟨rfl,.inl rfl,.inl rfl⟩,trivial⟩) (JM K (GA (ZaQ rfl) rfl mSor PyProof.Rows.boot_sorted (@Ga _ _ _ _ _ (pv 5) Ge rfl))) (λ_ _ _ _=>Gi (i:=0) (show List.Nodup (["word", "found"]:List Str) by decide +kernel) rfl (Or.inl rfl)) (λ_ _ _ _=>Ja) (λ_ _ _ _=>@GO _ _ _ _ _ (@Ga _ _ _ _ _ (pv 0) (@Ga _ _ _ _ _ (Jy hu1 (pv 1) (pv 0) (λ_ _=>rfl)) Ge rfl) rfl))))))))),?_⟩
  refine ⟨_,rfl,_,rfl,rows,cols,rfl,hr8,hc8,λnd o H1 s1 hnd0 end_=>?_⟩;unfold ZcP at ht;dsimp only at ht;generalize numF rows cols rows=ks at *;dsimp only [GG];have nk:(ks.map (·.1)).length=ks.length:=List.length_map _;refine ⟨_,rfl,nd,_,ks.map (·.1),rfl,.inr ⟨o,end_⟩,by rw [List.map_map,List.map_map];rfl,by lia,λl zs hl pm hz so=>?_⟩;have ez:zs.map (·.2)=ks.map (·.1):=VL (lt:=Jc) (λa b h1 h2=>Uj h1 h2) pm so hso;have zl:zs.length=ks.length:=by have:=congrArg List.length ez;rwa [List.length_map,List.length_map] at this
  have s2:Same H1 (upd H1 l (.lst (zs.map λz=>V.ref z.1))):=Same.new hl;have el:upd H1 l (.lst (zs.map λz=>V.ref z.1)) l=some (.lst (zs.map λz=>V.ref z.1)):=Gb;generalize upd H1 l (.lst (zs.map λz=>V.ref z.1))=H2 at s2 el ⊢;refine ⟨l,rfl,⟨_,SqL.of el⟩,λD hD=>?_⟩;refine GH (K:=K) (a:=l) (xs:=zs.map λz=>V.ref z.1) (λj ys H3=>Same H2 H3/\H3 D=some (.lst ys)/\ys=(((ks.take j).filter λp=>decide (gA p.1 0<(i:Int))).map (·.2)).map V.int) ⟨Same.new hD,Gb,rfl⟩ (λj ys H3 _ ⟨y,_,_⟩=>SqL.of (y _ _ el)) ?_ ?_
  ·rintro j x ys H3 hx ⟨s3,eD,hys⟩;rw [List.getElem?_map] at hx;obtain ⟨z,hzj,rfl⟩:=Option.map_eq_some_iff.mp hx;have hzm:=List.mem_of_getElem? hzj;have hjl:j<zs.length:=(List.getElem?_eq_some_iff.mp hzj).1;obtain ⟨p,hp⟩:∃p,ks[j]?=some p:=⟨_,List.getElem?_eq_getElem (by lia)⟩;have hpm:=List.mem_of_getElem? hp;have zp:z.2=p.1:=by
    have h1:(zs.map (·.2))[j]?=some z.2:=by rw [List.getElem?_map,hzj];rfl
    rw [ez,List.getElem?_map,hp] at h1;exact (Option.some.inj h1).symm
   have ezz:=s3 _ _ (s2 _ _ (hz z hzm));rw [zp] at ezz;obtain ⟨a,b,c,ek⟩:=hk3 p hpm;have yl:ys.length<=j:=by
    rw [hys,List.length_map,List.length_map];have:=List.length_filter_le (λp:List Int×Int=>decide (gA p.1 0<(i:Int))) (ks.take j);rw [List.length_take] at this
    lia
   have dg:DGet H3 nd (.ref z.1) (some (.int p.2)):=by
    have vb:GZ (ks.map kvI) (p.1.map Sum.inl)=some (.int p.2):=by rw [Ut,VF hnd hpm];rfl
    rw [<-vb];exact Or.inr ⟨_,_,z.1,.inr ⟨o,s3 _ _ (s2 _ _ end_)⟩,rfl,ezz.trans (by rw [Jb]),rfl⟩
   refine ⟨⟨rfl,rfl,trivial⟩,?_⟩;refine ⟨_,rfl,z.1,_,_,_,rfl,rfl,SqT.of ezz,Ji (i:=0) (by lia) (by rw [ek];show (0:Int)<3;decide),_,rfl,_,_,rfl,rfl,_,rfl,?_⟩;have tk:((((ks.take (j+1)).filter λp=>decide (gA p.1 0<(i:Int))).map (·.2)).map V.int)=ys++((([p].filter λp=>decide (gA p.1 0<(i:Int))).map (·.2)).map V.int):=by rw [List.take_add_one,hp,List.filter_append,List.map_append,List.map_append,hys];rfl
   refine OO (λc=>?_) (λc=>?_)
   ·have c:decide (gA p.1 0<(i:Int))=true:=c;refine ⟨_,rfl,_,rfl,nd,_,rfl,dg,eD,by lia,s3.put hD,Gb,?_⟩;rw [tk,List.filter_cons,if_pos c]
    rfl
   ·have c:¬ decide (gA p.1 0<(i:Int))=true:=c;refine ⟨s3,eD,?_⟩;rw [tk,List.filter_cons,if_neg c];simp
  ·rintro ys H3 ⟨s3,eD,rfl⟩;rw [List.length_map,zl,List.take_length] at eD;rw [show ((ks.filter λp=>decide (gA p.1 0<(i:Int))).map (·.2))=rdsF ks (i:Int) from rfl] at eD;generalize rdsF ks (i:Int)=rs at eD hrd ht;have S3:=s1.trans (s2.trans s3);have end3:=s3 _ _ (s2 _ _ end_);dsimp only [GG];refine λfdd hfd=>?_;have s4:Same H3 (upd H3 fdd (.dK [])):=Same.new hfd;have e4:upd H3 fdd (.dK []) fdd=some (.dK (([]:TI).map kvT)):=Gb;generalize upd H3 fdd (.dK [])=H4 at s4 e4 ⊢;have S4:=S3.trans s4;have fd0:H fdd=none:=S3.free hfd;dsimp only [GG];refine ⟨_,rfl,D,rs,rfl,s4 _ _ eD,hrd,λcl cz H5 s5 ecl cok cm=>?_⟩;refine ⟨cl,rfl,⟨_,SqL.of ecl⟩,?_⟩;have S5:=S4.trans s5;have fd3:H3 fdd=none:=hfd;have nfc:cl≠fdd:=GV ecl (s5 _ _ e4) (λq=>by cases q);refine Jk (K:=K) (a:=cl) (xs:=cz.map λz=>V.ref z.1) (λj σ H6=>∃(v6 v7:Option V)(tj:TI),σ=[some (.int (rows:Int)),some (.int (cols:Int)),some (.int (i:Int)),some (.ref nd),some (.ref D),some (.ref fdd),v6,v7]/\Same H3 H6/\H6 cl=some (.lst (cz.map λz=>V.ref z.1))/\LzOk H6 cz/\H6 fdd=some (.dK (tj.map kvT))/\((Wo rs).take j).foldl (Z7 ks (i:Int) cols) (some [])=some tj/\tj.length<=j/\(tj.map (·.1)).Nodup)
    ⟨_,_,[],rfl,s4.trans s5,ecl,cok,s5 _ _ e4,rfl,Nat.le_refl _,List.nodup_nil⟩ (λj σ H6 _ ⟨_,_,_,_,_,y,_⟩=>SqL.of y) ?_ ?_
   ·rintro j x σ H6 hx ⟨v6,v7,tj,rfl,s6,ec6,ck6,e6,hf,tl,tn⟩;rw [List.getElem?_map] at hx;obtain ⟨c,hc,rfl⟩:=Option.map_eq_some_iff.mp hx;have hcm:=List.mem_of_getElem? hc;have hjl:j<cz.length:=(List.getElem?_eq_some_iff.mp hc).1;have cl12:cz.length<=2 ^ 12:=by
     have:=Yq rs;rw [<-cm,List.length_map] at this;rw [this];exact Nat.pow_le_pow_right (by lia) hrd
    have hcj:(Wo rs)[j]?=some c.2:=by rw [<-cm,List.getElem?_map,hc];rfl
    obtain ⟨tj1,h1⟩:=Zct ht (j+1);have h1':=h1;rw [List.take_add_one,hcj,List.foldl_append,hf] at h1;have h1:Z7 ks (i:Int) cols (some tj) c.2=some tj1:=h1;unfold Z7 at h1;obtain ⟨wd,hwd,rfl⟩:=Option.map_eq_some_iff.mp (show (Yn (YD ks c.2) (i:Int) cols).map _=some tj1 from h1);dsimp only [GG];refine ⟨_,rfl,_,rfl,_,rfl,_,rfl,nd,c.1,o,ks,c.2,cols,(i:Int),wd,rfl,s6 _ _ end3,hkl,hk3,ck6 c hcm,hc8,hwd,λH7 s7=>?_⟩;dsimp only [GG];have S7:=s6.trans s7;refine ⟨_,rfl,rfl,_,rfl,?_⟩;cases wd with
    | none=>
     refine Je ?_;exact ⟨_,_,tj,rfl,S7,s7 _ _ ec6,ck6.same s7,s7 _ _ e6,h1',by lia,tn⟩
    | some m=>
     refine G9 ?_;have e7:=s7 _ _ e6;have dg:DGet H7 fdd (.str (mkS m)) ((Wp tj m).map V.int):=by
      rw [<-Yu];exact .inl ⟨_,Sum.inr (mkS m),.inl e7,rfl,rfl⟩
     have gi:(((Wp tj m).map V.int).getD (.int 0))=V.int ((Wp tj m).getD 0):=by cases Wp tj m <;> rfl
     refine ⟨_,rfl,fdd,rfl,.inl ⟨_,.inl e7⟩,_,rfl,_,dg,_,_,gi,rfl,_,rfl,_,rfl,fdd,_,rfl,DPut.k (k:=Sum.inr (mkS m)) e7 (by rw [List.length_map];lia),?_⟩;have n1:=Yv tj m ((Wp tj m).getD 0+1);refine ⟨_,_,_,rfl,S7.put fd3,Gm (s7 _ _ ec6) nfc,λz hz'=>?_,by rw [Gb,Za7],h1',Nat.le_trans n1 (by lia),ZG tn _ _⟩;have y:=s7 _ _ (ck6 z hz');exact Gm y (GV y e7 (λq=>by cases q))
   ·rintro σ H6 ⟨v6,v7,tj,rfl,s6,ec6,ck6,e6,hf,tl,tn⟩;rw [List.length_map] at hf;have:(Wo rs).take cz.length=Wo rs:=by rw [<-cm,<-List.length_map (f:=(·.2)),List.take_length]
    rw [this,ht] at hf;cases hf;have S6:=S3.trans s6;refine ⟨_,rfl,fdd,t.map kvT,t.map λp=>mkS p.1,rfl,.inl e6,by rw [List.map_map,List.map_map];rfl,by rw [List.length_map];exact htl,λL ns hL pm2 so2=>?_⟩;have s7:Same H6 (upd H6 L (.lst (ns.map V.str))):=Same.new hL;have eL:upd H6 L (.lst (ns.map V.str)) L=some (.lst (ns.map V.str)):=Gb;generalize upd H6 L (.lst (ns.map V.str))=H7 at s7 eL ⊢;have e7:=s7 _ _ e6;have nl:ns.length=t.length:=by rw [pm2.length_eq,List.length_map]
    refine ⟨L,rfl,⟨_,SqL.of eL⟩,λD2 hD2=>?_⟩
    let gw:Str->Str×Int:=λx=>(x,(Wp t x.cps.toList).getD 0)
    have inT:∀x∈ns,∃p∈t,x=mkS p.1/\Wp t p.1=some p.2:=λx hx=>by
     obtain ⟨p,hp,rfl⟩:=List.mem_map.mp (pm2.mem_iff.mp hx);exact ⟨p,hp,rfl,Yw tn hp⟩
    refine GH (K:=K) (a:=L) (xs:=ns.map V.str) (λj ys H8=>∃us:List SIz,ys=us.map (λz=>V.ref z.1)/\Same H7 H8/\H8 D2=some (.lst ys)/\us.map (·.2)=(ns.take j).map gw/\∀z∈us,H8 z.1=some (.tup [.str z.2.1,.int z.2.2])) ⟨[],rfl,Same.new hD2,Gb,rfl,by simp⟩ (λj ys H8 _ ⟨_,_,y,_⟩=>SqL.of (y _ _ eL)) ?_ ?_
    ·rintro j x ys H8 hx ⟨us,rfl,s8,eD2,mu,hus⟩;rw [List.getElem?_map] at hx;obtain ⟨x,hxj,rfl⟩:=Option.map_eq_some_iff.mp hx;have hjl:j<ns.length:=(List.getElem?_eq_some_iff.mp hxj).1;obtain ⟨p,hp,rfl,gp⟩:=inT x (List.mem_of_getElem? hxj);have ul:us.length<=j:=by
      have:=congrArg List.length mu;rw [List.length_map,List.length_map,List.length_take] at this
      lia
     have dg:DGet H8 fdd (.str (mkS p.1)) (some (.int p.2)):=by
      have vb:GZ (t.map kvT) (Sum.inr (mkS p.1))=some (.int p.2):=by rw [Yu,gp];rfl
      rw [<-vb];exact .inl ⟨_,Sum.inr (mkS p.1),.inl (s8 _ _ e7),rfl,rfl⟩
     refine ⟨⟨rfl,trivial⟩,?_⟩;unfold YT;refine G9 ?_;refine ⟨_,rfl,_,rfl,_,rfl,fdd,_,rfl,dg,GU,λT hT=>?_⟩;have s9:Same H8 (upd H8 T (.tup [.str (mkS p.1),.int p.2])):=Same.new hT;have eT:upd H8 T (.tup [.str (mkS p.1),.int p.2]) T=some (.tup [.str (mkS p.1),.int p.2]):=Gb;generalize upd H8 T (.tup [.str (mkS p.1),.int p.2])=H9 at s9 eT ⊢;have eD9:=s9 _ _ eD2;refine ⟨eD9,by rw [List.length_map];lia,us++[(T,(mkS p.1,p.2))],by rw [List.map_append];rfl,(s8.trans s9).put hD2,Gb,?_,λz hz'=>?_⟩
     ·rw [List.map_append,mu,List.take_add_one,hxj,List.map_append];show _++[(mkS p.1,p.2)]=_++[gw (mkS p.1)];have:gw (mkS p.1)=(mkS p.1,p.2):=by show (mkS p.1,(Wp t p.1).getD 0)=_;rw [gp];rfl
      rw [this]
     ·rcases List.mem_append.mp hz' with hz' | hz'
      ·have y:=s9 _ _ (hus z hz');exact Gm y (GV y eD9 (λq=>by cases q))
      ·rw [List.mem_singleton.mp hz'];exact Gm eT (GV eT eD9 (λq=>by cases q))
    ·rintro ys H8 ⟨us,rfl,s8,eD2,mu,hus⟩;rw [List.length_map,List.take_length] at mu;refine q D2 us H8 (S6.trans (s7.trans s8)) ((S6.trans s7).free hD2) eD2 hus ?_ ?_
     ·rw [mu];refine (pm2.map gw).trans ?_;rw [List.map_map];refine List.Perm.of_eq (List.map_congr_left λp hp=>?_);show (mkS p.1,(Wp t p.1).getD 0)=_;rw [Yw tn hp]
      rfl
     ·rw [mu,List.pairwise_map];refine so2.imp λ{a b} h=>?_;have h':¬ (b.cps.toList<a.cps.toList):=of_decide_eq_false h;show (decide ((gw b).1.cps.toList<(gw a).1.cps.toList) || (decide ((gw b).1=(gw a).1) && decide ((gw b).2<(gw a).2)))=false;rw [show decide ((gw b).1.cps.toList<(gw a).1.cps.toList)=false from decide_eq_false h',Bool.false_or];by_cases e:b=a
      ·subst e;rw [show decide ((gw b).2<(gw b).2)=false from decide_eq_false (by lia),Bool.and_false]
      ·rw [show decide ((gw b).1=(gw a).1)=false from decide_eq_false e,Bool.false_and]
end
end M
namespace M
open PySem L2
theorem Rep.sub {a b:KI}{R:List (List Int)}(ha:Rep a R)(hb:Rep b R){p:List Int×Int}(hp:p∈a):p∈b:=by
 have hm:=hb.pm.mem_iff.mpr (ha.mem hp);obtain ⟨q,hq,hm⟩:=List.mem_flatMap.mp hm;have e:p.1=q.1:=(List.mem_replicate.mp hm).2;have c1:=Va ha.nd hp;have c2:=Va hb.nd hq;rw [<-e,hb.pm.count_eq,<-ha.pm.count_eq,c1] at c2;have h1:=ha.pos p hp;have h2:=hb.pos q hq;have:p=q:=Prod.ext e (by lia);rw [this];exact hq
theorem Ww {ks:KI}(nd:(ks.map (·.1)).Nodup):ks.Nodup:=by
 unfold List.Nodup at *;rw [List.pairwise_map] at nd;exact nd.imp λh z=>h (by rw [z])
theorem Rep.same {a b:KI}{R:List (List Int)}(ha:Rep a R)(hb:Rep b R):a.Perm b:=(List.perm_ext_iff_of_nodup (Ww ha.nd) (Ww hb.nd)).mpr λp=>⟨ha.sub hb,hb.sub ha⟩
def ZcQ (R:List (List Int)):KI:=R.foldl (λks m=>OM ks m ((Wj ks m).getD 0+1)) []
theorem Za9 (R:List (List Int)):Rep (ZcQ R) R:=by
 have:∀(R:List (List Int))(ks:KI)(R0:List (List Int)),Rep ks R0->Rep (R.foldl (λks m=>OM ks m ((Wj ks m).getD 0+1)) ks) (R0++R):=by
  intro R
  induction R with
  | nil=>intro ks R0 h;rw [List.append_nil];exact h
  | cons m R ih=>
   intro ks R0 h;have:=ih _ _ (h.put (m:=m) (n:=1) (by decide));rw [List.append_assoc] at this;exact this
 exact this R [] [] Rep.nil
def Zcw (ks:KI)(i c:Nat):TI:=(ks.map λp=>(Zz p.1 ((i:Int) * (c:Int)) c,p.2)).filter λq=>!decide (q.1=Wm c)
theorem Zcx (ks:KI)(i c:Nat):ZcN ks i c=tSI (Zcw ks i c):=by
 induction ks with
 | nil=>rfl
 | cons p ks ih=>
  unfold ZcN Zcw tSI at *;rw [List.map_cons,List.map_cons,List.filter_cons,List.filter_cons];by_cases h:Zz p.1 ((i:Int) * (c:Int)) c=Wm c
  ·rw [show (!decide ((mkS (Zz p.1 ((i:Int) * (c:Int)) c),p.2).1=mkS (Wm c)))=false by simp [h],show (!decide ((Zz p.1 ((i:Int) * (c:Int)) c,p.2).1=Wm c))=false by simp [h]];exact ih
  ·rw [show (!decide ((mkS (Zz p.1 ((i:Int) * (c:Int)) c),p.2).1=mkS (Wm c)))=true by simp [h,str_mk],show (!decide ((Zz p.1 ((i:Int) * (c:Int)) c,p.2).1=Wm c))=true by simp [h],if_pos rfl,if_pos rfl,List.map_cons,ih]
def Zcy:List Int->Bool
 | [_,_,_]=>true
 | _=>false
def ZcR:List (List Int)->Bool
 | []=>true
 | a::l=>(l.all λb=>!Jc b a) && ZcR l
def ndP:List (List Int)->Bool
 | []=>true
 | a::l=>(l.all λb=>!decide (a=b)) && ndP l
def chk (c i:Nat):Bool:=
 match ZcP (i+1) c i with
 | none=>false
 | some t=>(t.all λp=>PyData.strOk (mkS p.1)) && decide (t.length<=1000) && decide ((numF (i+1) c (i+1)).length<=200) && ((numF (i+1) c (i+1)).all λp=>Zcy p.1) && ndP ((numF (i+1) c (i+1)).map (·.1)) && ZcR ((numF (i+1) c (i+1)).map (·.1)) && decide ((rdsF (numF (i+1) c (i+1)) (i:Int)).length<=12) &&
  [1,2,3,4].all λe=>(Zcw (ZcQ (RJ (GJ (i+e) c ((i+e) * c)) ((i+e) * c) (i * (2 * c-1)))) i c).isPerm t && decide (i * (2 * c-1)<=(GJ (i+e) c ((i+e) * c)).length)
theorem key_of {k:List Int}(h:Zcy k=true):∃a b c:Int,k=[a,b,c]:=by
 match k,h with
 | [a,b,c],_=>exact ⟨a,b,c,rfl⟩
theorem Zcz:∀{l:List (List Int)},ndP l=true->l.Nodup
 | [],_=>List.nodup_nil
 | a::l,h=>by
  have h:((l.all λb=>!decide (a=b)) && ndP l)=true:=h;rw [Bool.and_eq_true] at h;refine List.nodup_cons.mpr ⟨λhm=>?_,Zcz h.2⟩;have:=List.all_eq_true.mp h.1 a hm;simp at this
theorem Z9:∀{l:List (List Int)},ZcR l=true->l.Pairwise (λa b=>Jc b a=false)
 | [],_=>.nil
 | a::l,h=>by
  have h:((l.all λb=>!Jc b a) && ZcR l)=true:=h;rw [Bool.and_eq_true] at h;refine .cons (λb hb=>?_) (Z9 h.2);have:=List.all_eq_true.mp h.1 b hb;simpa using this
structure Chk (c i:Nat)(t:TI):Prop where
 ct:ZcP (i+1) c i=some t
 sk:∀p∈t,PyData.strOk (mkS p.1)=true
 tl:t.length<=1000
 nl:(numF (i+1) c (i+1)).length<=200
 ky:∀p∈numF (i+1) c (i+1),∃a b c:Int,p.1=[a,b,c]
 nd:((numF (i+1) c (i+1)).map (·.1)).Nodup
 lx:((numF (i+1) c (i+1)).map (·.1)).Pairwise (λa b=>Jc b a=false)
 rd:(rdsF (numF (i+1) c (i+1)) (i:Int)).length<=12
 wd:∀e,1<=e->e<=4->(Zcw (ZcQ (RJ (GJ (i+e) c ((i+e) * c)) ((i+e) * c) (i * (2 * c-1)))) i c).Perm t/\i * (2 * c-1)<=(GJ (i+e) c ((i+e) * c)).length
theorem ZcA {c i:Nat}(h:chk c i=true):∃t,Chk c i t:=by
 unfold chk at h;split at h
 ·cases h
 ·rename_i t ht;rw [Bool.and_eq_true,Bool.and_eq_true,Bool.and_eq_true,Bool.and_eq_true,Bool.and_eq_true,Bool.and_eq_true,Bool.and_eq_true] at h;obtain ⟨⟨⟨⟨⟨⟨⟨h0,h1⟩,h2⟩,h3⟩,h4⟩,h5⟩,h6⟩,h7⟩:=h;refine ⟨t,ht,λp hp=>List.all_eq_true.mp h0 p hp,of_decide_eq_true h1,of_decide_eq_true h2,λp hp=>key_of (List.all_eq_true.mp h3 p hp),Zcz h4,Z9 h5,of_decide_eq_true h6,λe e1 e4=>?_⟩;have:=List.all_eq_true.mp h7 e (by
   have:e=1\/e=2\/e=3\/e=4:=by lia
   rcases this with rfl | rfl | rfl | rfl <;> simp)
  rw [Bool.and_eq_true] at this;exact ⟨List.isPerm_iff.mp this.1,of_decide_eq_true this.2⟩
theorem Zaa (rs:List (Int×Int))(k:Nat):∀j,(RJ rs k j).length<=2 ^ j
 | 0=>Nat.le_refl _
 | j+1=>by
  have h1:=VG rs nE nE j (RJ rs k j);have h2:=Zaa rs k j;show ((RJ rs k j).flatMap (fS rs nE nE j)).length<=_;rw [Nat.pow_succ]
  lia
end M
namespace M
open PySem L2
theorem ZdM:(chk 1 1 && chk 1 2 && chk 1 3 && chk 1 4 && chk 2 1 && chk 2 2 && chk 3 1 && chk 4 1)=true:=by decide +kernel
theorem ZcB:chk 2 3=true:=by decide +kernel
theorem ZcC:chk 3 2=true:=by decide +kernel
theorem ZcD:chk 2 4=true:=by decide +kernel
theorem Zba {c i:Nat}(h:(c=1/\1<=i/\i<=4)\/(c=2/\1<=i/\i<=4)\/(c=3/\1<=i/\i<=2)\/(c=4/\i=1)):chk c i=true:=by
 have h1:=ZdM;rw [Bool.and_eq_true,Bool.and_eq_true,Bool.and_eq_true,Bool.and_eq_true,Bool.and_eq_true,Bool.and_eq_true,Bool.and_eq_true] at h1;obtain ⟨⟨⟨⟨⟨⟨⟨a1,a2⟩,a3⟩,a4⟩,a5⟩,a6⟩,a7⟩,a8⟩:=h1;rcases h with ⟨rfl,h,h'⟩ | ⟨rfl,h,h'⟩ | ⟨rfl,h,h'⟩ | ⟨rfl,rfl⟩
 ·have:i=1\/i=2\/i=3\/i=4:=by lia
  rcases this with rfl | rfl | rfl | rfl
  ·exact a1
  ·exact a2
  ·exact a3
  ·exact a4
 ·have:i=1\/i=2\/i=3\/i=4:=by lia
  rcases this with rfl | rfl | rfl | rfl
  ·exact a5
  ·exact a6
  ·exact ZcB
  ·exact ZcD
 ·have:i=1\/i=2:=by lia
  rcases this with rfl | rfl
  ·exact a7
  ·exact ZcC
 ·exact a8
end M
namespace M
open PySem L2
theorem ZH:bootBuiltins "str" = some (.type "str"):=by first | rfl | decide +kernel
theorem ZI:bootBuiltins "min" = some (.builtin "min"):=by first | rfl | decide +kernel
def siD (p:Str×Int):PyData:=.tuple [.str p.1,.int p.2]
theorem Jj {ls:List (Str×Int)}(h:∀p∈ls,PyData.strOk p.1=true):SeqAt.shaped (.list (ls.map siD))=true:=by
 have c:∀ls:List (Str×Int),(∀p∈ls,PyData.strOk p.1=true)->PyData.canLayAll0 (ls.map siD)=true:=by
  intro ls
  induction ls with
  | nil=>intro _;simp [PyData.canLayAll0]
  | cons p ls ih=>
   intro h;rw [List.map_cons];simp only [PyData.canLayAll0,ih λq hq=>h q (List.mem_cons_of_mem _ hq),Bool.and_true];simp [siD,PyData.canLay0,PyData.canLayAll0,h p (List.mem_cons_self ..)]
 have d:∀ls:List (Str×Int),PyData.depthAll (ls.map siD)<=2:=by
  intro ls
  induction ls with
  | nil=>simp [PyData.depthAll]
  | cons p ls ih=>
   rw [List.map_cons];have:PyData.depth (siD p)<=2:=by simp [siD,PyData.depth,PyData.depthAll]
   simp only [PyData.depthAll]
   lia
 unfold SeqAt.shaped;rw [Bool.and_eq_true];refine ⟨by simp only [PyData.canLay0];exact c ls h,decide_eq_true ?_⟩;have:=d ls;simp only [PyData.depth]
 lia
theorem Yx (ls:List (Str×Int)):PyData.eqv (.list (ls.map siD)) (.list (ls.map siD))=true:=by
 simp only [PyData.eqv]
 induction ls with
 | nil=>simp [PyData.eqvAll]
 | cons p ls ih=>
  rw [List.map_cons];simp only [PyData.eqvAll,ih,Bool.and_true];simp [siD,PyData.eqv,PyData.eqvAll]
theorem JV {K:W.Frag}{H:Hp}:∀{zs:List SIz},(∀z∈zs,H z.1=some (.tup [.str z.2.1,.int z.2.2]))->DatVs K H (zs.map λz=>V.ref z.1) ((zs.map (·.2)).map siD)
 | [],_=>.nil
 | z::zs,h=>.cons (.tup (SqT.of (h z (List.mem_cons_self ..))) (.cons (.str _) (.cons (.int _) .nil))) (JV λy hy=>h y (List.mem_cons_of_mem _ hy))
section
variable {P:Program}{w:World}{K:W.Frag}{mg:Str->Option Value}{base:Heap}
def ZJ (K:W.Frag):Sp:=λvs H Q _=>∃(a:Addr)(ns:List Int),vs=[.ref a]/\SqL K H a (ns.map V.int)/\ns.length<=63/\∀H',Q (.bl true) H'
theorem scLaw:Gs ["script", "columns", "i", "rows", "due", "found", "pair"] ["script"] (Gc YB):=⟨rfl,rfl,rfl,by decide +kernel,rfl,by decide +kernel,by decide +kernel⟩
theorem ZcE {f fCa fMi fDu fWb no:Addr}{fd fdCa fdMi fdDu fdWb:FuncData}(F:Fun K "law" "law" YB f fd)(FCa:Fun K "_law_cell_at" "_law_cell_at" ZaS fCa fdCa)(bCa:Binds K fdCa ["script", "k"] [])(mCa:mg "_law_cell_at" = some (.ref fCa))(GCa:GL P w K mg base CX0 1 fCa fdCa ["script", "k"] (Zb6 K))(FMi:Fun K "_law_mixed" "_law_mixed" sMi fMi fdMi)(bMi:Binds K fdMi ["cell", "k"] [])(mMi:mg "_law_mixed" = some (.ref fMi))(GMi:GL P w K mg base CX0 1 fMi fdMi ["cell", "k"] Zek)(FDu:Fun K "_law_due" "_law_due" Zr fDu fdDu)(bDu:Binds K fdDu ["rows", "columns", "i"] [])(mDu:mg "_law_due" = some (.ref fDu))(GDu:GL P w K mg base CX0 3 fDu fdDu ["rows", "columns", "i"] Zcu)(FWb:Fun K "words_below" "words_below" sWb fWb fdWb)(bWb:Binds K fdWb ["rows", "columns", "i"] [])(mWb:mg "words_below" = some (.ref fWb))(GWb:GL P w K mg base (CXr P w) 6 fWb fdWb ["rows", "columns", "i"] (ZdH no))(kll:W.kitOne K (.type "list") (.type "list")=some true)(ktt:W.kitOne K (.type "tuple") (.type "tuple")=some true)(kss:W.kitOne K (.type "str") (.type "str")=some true)(kib:W.kitOne K (.type "int") (.type "bool")=some false)(mIsi:mg "isinstance" = none)(mMin:mg "min" = none)(mLst:mg "list" = none)(mTup:mg "tuple" = none)(mStr:mg "str" = none)(mBol:mg "bool" = none):GL P w K mg base CX0 7 f fd ["script"] (ZJ K):=by
 refine F.ok scLaw (λvs H Q E h=>?_) (λcdv A outer s H vs Q E hr h=>?_)
 ·obtain ⟨a,ns,rfl,_⟩:=h
  rfl
 obtain ⟨a,ns,rfl,hS,qV,q⟩:=h;have h16:(16777216:Nat)=sizeLine:=sizeLine_eq.symm;have hu:(A.deeper (PyProof.Rows.envOfC "law" (Gc YB) s.heap.objs.size f cdv)).units+64<cLine:=by have:=hr.un;lia
 refine ⟨_,(@Gd _ _ _ _ _ (@Gq _ _ 1 _ _ _ _ scLaw.nd rfl (Or.inl rfl) (@Gx _ _ _ _ _ _ _ _ GF Gg (@Gx _ _ _ _ _ _ _ _ OT (@Gk _ _ _ _ _ _ _ _ _ _ _ _ _ _ _ _ GMi (hr.mono (by decide)) rfl mMi FMi.kp bMi .nil GM (@Ga _ _ _ _ _ (@Gk _ _ _ _ _ _ _ _ _ _ _ _ _ _ _ _ GCa (hr.mono (by decide)) rfl mCa FCa.kp bCa .nil GM (@Ga _ _ _ _ _ (pv 0) (@Ga _ _ _ _ _ Gg Ge rfl) rfl) (by decide) rfl rfl) (@Ga _ _ _ _ _ Gg Ge rfl) rfl) (by decide) rfl rfl) Gg)) rfl (by first | exact .inl rfl | exact .inr rfl))
    (@Gd _ _ _ _ _ (@Gq _ _ 2 _ _ _ _ scLaw.nd rfl (Or.inl rfl) (@Gx _ _ _ _ _ _ _ _ GF Gg (@Gx _ _ _ _ _ _ _ _ OT (@Gk _ _ _ _ _ _ _ _ _ _ _ _ _ _ _ _ GMi (hr.mono (by decide)) rfl mMi FMi.kp bMi .nil GM (@Ga _ _ _ _ _ (@Gk _ _ _ _ _ _ _ _ _ _ _ _ _ _ _ _ GCa (hr.mono (by decide)) rfl mCa FCa.kp bCa .nil GM (@Ga _ _ _ _ _ (pv 0) (@Ga _ _ _ _ _ Gg Ge rfl) rfl) (by decide) rfl rfl) (@Ga _ _ _ _ _ Gg Ge rfl) rfl) (by decide) rfl rfl) (GA (Xf rfl) rfl mMin ZI (@Ga _ _ _ _ _ Gg (@Ga _ _ _ _ _ (@Gx _ _ _ _ _ _ _ _ YW Gg (@Gx _ _ _ _ _ _ _ _ W8 (@Gx _ _ _ _ _ _ _ _ Jd Gg (pv 1)) Gg)) Ge rfl) rfl)))) rfl (by first | exact .inl rfl | exact .inr rfl))
    (@Gd _ _ _ _ _ (@Gq _ _ 3 _ _ _ _ scLaw.nd rfl (Or.inl rfl) (@Gx _ _ _ _ _ _ _ _ GF (@Gx _ _ _ _ _ _ _ _ GF (pv 2) Gg) (@Gx _ _ _ _ _ _ _ _ OT (@Gk _ _ _ _ _ _ _ _ _ _ _ _ _ _ _ _ GMi (hr.mono (by decide)) rfl mMi FMi.kp bMi .nil GM (@Ga _ _ _ _ _ (@Gk _ _ _ _ _ _ _ _ _ _ _ _ _ _ _ _ GCa (hr.mono (by decide)) rfl mCa FCa.kp bCa .nil GM (@Ga _ _ _ _ _ (pv 0) (@Ga _ _ _ _ _ Gg Ge rfl) rfl) (by decide) rfl rfl) (@Ga _ _ _ _ _ Gg Ge rfl) rfl) (by decide) rfl rfl) Gg)) rfl (by first | exact .inl rfl | exact .inr rfl))
    (@Gd _ _ _ _ _ (@Gq _ _ 4 _ _ _ _ scLaw.nd rfl (Or.inl rfl) (@Gk _ _ _ _ _ _ _ _ _ _ _ _ _ _ _ _ GDu (hr.mono (by decide)) rfl mDu FDu.kp bDu .nil GM (@Ga _ _ _ _ _ (@Gx _ _ _ _ _ _ _ _ GF (pv 2) Gg) (@Ga _ _ _ _ _ (pv 1) (@Ga _ _ _ _ _ (pv 2) Ge rfl) rfl) rfl) (by decide) rfl rfl) rfl (by first | exact .inl rfl | exact .inr rfl))
    (@Gd _ _ _ _ _ (@Gq _ _ 5 _ _ _ _ scLaw.nd rfl (Or.inl rfl) (@Gk _ _ _ _ _ _ _ _ _ _ _ _ _ _ _ _ GWb (hr.mono (by decide)) rfl mWb FWb.kp bWb .nil Zau (@Ga _ _ _ _ _ (pv 3) (@Ga _ _ _ _ _ (pv 1) (@Ga _ _ _ _ _ (pv 2) Ge rfl) rfl) rfl) (by decide) rfl rfl) rfl (by first | exact .inl rfl | exact .inr rfl))
    (@Gd _ _ _ _ _ (@GW _ _ _ _ _ _ _ _ (PW.pt (Oz (JW (Jv (GA Op rfl mIsi Oq (@Ga _ _ _ _ _ (pv 5) (@Ga _ _ _ _ _ (VX mLst J1) Ge rfl) rfl)))) (Og (Gr (Zd2 K hu) (pv 5) (pv 4) (Gw _))))) (@Gf _ _ _ (@Gu _ _ _ _ YH)) Gy)
    (@Gd _ _ _ _ _ (@GX _ _ _ _ _ _ _ _ PassesOwn.never rfl (JM K (pv 5)) (Gi (i:=6) scLaw.nd rfl (Or.inl rfl))
    (@Gf _ _ _ (@GW _ _ _ _ _ _ _ _ (PW.pt (Oz (JW (Jv (GA Op rfl mIsi Oq (@Ga _ _ _ _ _ (pv 6) (@Ga _ _ _ _ _ (VX mTup JI) Ge rfl) rfl)))) (Oz (JW (Jv (GA Op rfl mIsi Oq (@Ga _ _ _ _ _ (@G3 _ _ _ _ _ _ _ (OP K) (pv 6) Gg (λ_ _=>rfl)) (@Ga _ _ _ _ _ (VX mStr ZH) Ge rfl) rfl)))) (Og (Jv (GA Op rfl mIsi Oq (@Ga _ _ _ _ _ (@G3 _ _ _ _ _ _ _ (OP K) (pv 6) Gg (λ_ _=>rfl)) (@Ga _ _ _ _ _ (VX mBol Xs) Ge rfl) rfl))))))) (@Gf _ _ _ (@Gu _ _ _ _ YH)) Gy)) (by intro _;rfl))
    (@Gd _ _ _ _ _ (JQ (UM PySem.F.plainAttrs_list PySem.F.slot_list_append PySem.F.type_list_append GY (pv 5) (@Ga _ _ _ _ _ (@GO _ _ _ _ _ (@Ga _ _ _ _ _ Jq (@Ga _ _ _ _ _ Gg Ge rfl) rfl)) Ge rfl)))
    (@Gf _ _ _ (@Gu _ _ _ _ (Zbk (Jl (Zda K hu) (@Gk _ _ _ _ _ _ _ _ _ _ _ _ _ _ _ _ GWb (hr.mono (by decide)) rfl mWb FWb.kp bWb .nil Zau (@Ga _ _ _ _ _ (pv 3) (@Ga _ _ _ _ _ (pv 1) (@Ga _ _ _ _ _ (pv 2) Ge rfl) rfl) rfl) (by decide) rfl rfl) (pv 4) (Gw _)) (ZK (Jl (Zda K hu) (@Gk _ _ _ _ _ _ _ _ _ _ _ _ _ _ _ _ GWb (hr.mono (by decide)) rfl mWb FWb.kp bWb .nil Zau (@Ga _ _ _ _ _ (@Gx _ _ _ _ _ _ _ _ GF (pv 3) Gg) (@Ga _ _ _ _ _ (pv 1) (@Ga _ _ _ _ _ (pv 2) Ge rfl) rfl) rfl) (by decide) rfl rfl) (pv 4) (Gw _)))))))))))))),?_⟩
 refine ⟨_,rfl,a,ns,0,rfl,hS,λz0=>⟨z0,0,rfl,by lia,λz=>?_⟩⟩;refine ⟨_,_,rfl,rfl,(by show (0:Int)<4;decide),_,_,rfl,rfl,?_⟩;obtain ⟨c,hc,c1,c4⟩:∃c:Nat,(1:Int)+z % 4=(c:Int)/\1<=c/\c<=4:=by
  have f0:0<=z % 4:=Int.emod_nonneg _ (by decide);have f1:z % 4<4:=Int.emod_lt_of_pos _ (by decide);exact ⟨((1:Int)+z % 4).toNat,by lia,by lia,by lia⟩
 dsimp only [GG];rw [hc];refine ⟨_,rfl,a,ns,1,rfl,hS,λz1=>⟨z1,1,rfl,by lia,λy=>?_⟩⟩;obtain ⟨m,hm,m1,m4⟩:∃m:Nat,(if (12:Int) / (2 * (c:Int)-1)<4 then (12:Int) / (2 * (c:Int)-1) else 4)=(m:Int)/\1<=m/\((c=1/\m<=4)\/(c=2/\m<=4)\/(c=3/\m<=2)\/(c=4/\m=1)):=by
  have:c=1\/c=2\/c=3\/c=4:=by lia
  rcases this with rfl | rfl | rfl | rfl
  ·exact ⟨4,by decide,by decide,by decide⟩
  ·exact ⟨4,by decide,by decide,by decide⟩
  ·exact ⟨2,by decide,by decide,by decide⟩
  ·exact ⟨1,by decide,by decide,by decide⟩
 refine ⟨_,rfl,_,_,rfl,rfl,?cm,_,_,rfl,rfl,_,_,rfl,rfl,?cd,_,_,rfl,?_⟩
 case cm=>exact .inl ⟨by decide,by decide⟩
 case cd=>
  have:c=1\/c=2\/c=3\/c=4:=by lia
  rcases this with rfl | rfl | rfl | rfl <;> exact ⟨by decide,ZaU⟩
 dsimp only;rw [hm];refine ⟨_,_,rfl,rfl,(by show (0:Int)<(m:Int);lia),_,_,rfl,rfl,?_⟩;obtain ⟨i,hi,i1,im⟩:∃i:Nat,(1:Int)+y % (m:Int)=(i:Int)/\1<=i/\i<=m:=by
  have f0:0<=y % (m:Int):=Int.emod_nonneg _ (by lia);have f1:y % (m:Int)<(m:Int):=Int.emod_lt_of_pos _ (by lia);exact ⟨((1:Int)+y % (m:Int)).toNat,by lia,by lia,by lia⟩
 dsimp only [GG];rw [hi];refine ⟨_,rfl,_,_,rfl,rfl,_,rfl,a,ns,2,rfl,hS,λz2=>⟨z2,2,rfl,by lia,λx=>?_⟩⟩;refine ⟨_,_,rfl,rfl,(by show (0:Int)<3;decide),_,_,rfl,rfl,?_⟩;obtain ⟨e,he,e1,e3⟩:∃e:Nat,(i:Int)+1+x % 3=((i+e:Nat):Int)/\1<=e/\e<=3:=by
  have f0:0<=x % 3:=Int.emod_nonneg _ (by decide);have f1:x % 3<3:=Int.emod_lt_of_pos _ (by decide);exact ⟨((1:Int)+x % 3).toNat,by lia,by lia,by lia⟩
 dsimp only [GG];rw [he];have combo:(c=1/\1<=i/\i<=4)\/(c=2/\1<=i/\i<=4)\/(c=3/\1<=i/\i<=2)\/(c=4/\i=1):=by lia
 obtain ⟨t,ck⟩:=ZcA (Zba combo);refine ⟨_,rfl,_,_,rfl,rfl,_,rfl,_,rfl,i+1,c,i,t,by push_cast;rfl,by lia,by lia,ck.nl,ck.ky,ck.nd,ck.lx,ck.rd,ck.ct,ck.tl,λD zs H1 s1 hD0 hD hz pm so=>?_⟩;have wb:∀(e:Nat),1<=e->e<=4->∀(H0:Hp)(Q:VK)(E:XK),(∀(l:Addr)(ws:List SIz)(H':Hp),Same H0 H'->H0 l=none->H' l=some (.lst (ws.map λz=>V.ref z.1))->(∀z∈ws,H' z.1=some (.tup [.str z.2.1,.int z.2.2]))->ws.map (·.2)=zs.map (·.2)->Q (.ref l) H')->ZdH no [.int ((i+e:Nat):Int),.int (c:Int),.int (i:Int)] H0 Q E:=by
  intro e e1 e4 H0 Q E k;have hre:i+e<=16:=by lia
  obtain ⟨wd,wl⟩:=ck.wd e e1 e4;refine ⟨_,_,_,rfl,.inr ⟨i+e,c,rfl,rfl,by lia,c1,hre,by lia,?_,.inr ⟨i,rfl,i1,by lia,wl,λj hj=>⟨_,?_,λm hm=>hm⟩,λl ws ks H' s' hn el ew rp pw sw=>?_⟩⟩⟩
  ·rcases combo with ⟨rfl,_,h⟩ | ⟨rfl,_,h⟩ | ⟨rfl,_,h⟩ | ⟨rfl,h⟩ <;> lia
  ·refine Nat.le_trans (Zaa _ _ j) ?_;have:j<=12:=by rcases combo with ⟨rfl,_,h⟩ | ⟨rfl,_,h⟩ | ⟨rfl,_,h⟩ | ⟨rfl,h⟩ <;> lia
   exact Nat.le_trans (Nat.pow_le_pow_right (by lia) this) (by decide)
  ·refine k l ws H' s' hn el ew ?_;have p1:ks.Perm (ZcQ (RJ (GJ (i+e) c ((i+e) * c)) ((i+e) * c) (i * (2 * c-1)))):=rp.same (Za9 _);have p2:(Zcw ks i c).Perm t:=((p1.map _).filter _).trans wd;rw [Zcx] at pw;have p3:(ws.map (·.2)).Perm (tSI t):=pw.trans (p2.map _);exact VL (lt:=OJ) (λa b h1 h2=>X7 h1 h2) (p3.trans pm.symm) sw so
 have tok:∀p∈zs.map (·.2),PyData.strOk p.1=true:=λp hp=>by
  obtain ⟨q,hq,rfl⟩:=List.mem_map.mp (pm.mem_iff.mp hp);exact ck.sk q hq
 have zlen:zs.length<=1000:=by
  have:=pm.length_eq;unfold tSI at this;rw [List.length_map,List.length_map] at this;have:=ck.tl
  lia
 dsimp only [GG];refine ⟨_,rfl,_,rfl,_,rfl,?_⟩;dsimp only [Zaj,List.cons_append,List.nil_append];refine wb e e1 (by lia) _ _ _ λl ws H2 s2 hl el ew em=>?_;dsimp only [GG];have wlen:ws.length=zs.length:=by have:=congrArg List.length em;rwa [List.length_map,List.length_map] at this
 have hD2:=s2 _ _ hD;have hz2:∀z∈zs,H2 z.1=some (.tup [.str z.2.1,.int z.2.2]):=λz h=>s2 _ _ (hz z h);refine ⟨_,rfl,_,_,true,rfl,⟨_,rfl,Je ?_⟩,.inl ⟨_,.lst el,rfl,kll⟩⟩;refine ⟨_,rfl,_,rfl,_,_,.lst (SqL.of el) (JV ew),.lst (SqL.of hD2) (JV hz2),by rw [em];exact Jj tok,Jj tok,_,rfl,?_⟩;rw [em,Yx];refine Je ?_;refine ⟨_,rfl,l,rfl,⟨_,SqL.of el⟩,?_⟩;refine Jk (K:=K) (a:=l) (xs:=ws.map λz=>V.ref z.1) (λj σ H3=>∃v6:Option V,σ=[some (.ref a),some (.int (c:Int)),some (.int (i:Int)),some (.int ((i+e:Nat):Int)),some (.ref D),some (.ref l),v6]/\H2=H3) ⟨_,rfl,rfl⟩ (λj σ H3 _ ⟨_,_,y⟩=>SqL.of (by rw [<-y];exact el)) ?_ ?_
 ·rintro j x σ H3 hx ⟨v6,rfl,rfl⟩;rw [List.getElem?_map] at hx;obtain ⟨z,hzj,rfl⟩:=Option.map_eq_some_iff.mp hx;have ez:=ew z (List.mem_of_getElem? hzj);dsimp only [GG];refine ⟨_,rfl,_,_,true,rfl,⟨_,rfl,Je ?_⟩,.inl ⟨_,.tup ez,rfl,ktt⟩⟩;refine ⟨_,rfl,z.1,_,0,.str z.2.1,rfl,rfl,SqT.of ez,rfl,_,_,true,rfl,⟨_,rfl,Je ?_⟩,.inl ⟨_,.str _,rfl,kss⟩⟩;refine ⟨_,rfl,z.1,_,1,.int z.2.2,rfl,rfl,SqT.of ez,rfl,_,_,false,rfl,⟨_,rfl,Je ?_⟩,.inl ⟨_,.int _,rfl,kib⟩⟩;exact ⟨_,rfl,rfl⟩
 ·rintro σ H3 ⟨v6,rfl,rfl⟩;refine ⟨_,rfl,.inl ⟨rfl,_,SqL.of el⟩,GU,λT hT=>?_⟩;have s3:Same H2 (upd H2 T (.tup [.str ("(" : Str),.int 1])):=Same.new hT;generalize upd H2 T (.tup [.str ("(" : Str),.int 1])=H3 at s3 ⊢;refine ⟨l,_,_,rfl,rfl,s3 _ _ el,by rw [List.length_map];lia,?_⟩;have nD:D≠l:=λe=>by rw [e,hl] at hD;cases hD
  have hD4:upd H3 l (.lst (ws.map (λz=>V.ref z.1)++[.ref T])) D=some (.lst (zs.map λz=>V.ref z.1)):=Gm (s3 _ _ hD2) nD;have hz4:∀z∈zs,upd H3 l (.lst (ws.map (λz=>V.ref z.1)++[.ref T])) z.1=some (.tup [.str z.2.1,.int z.2.2]):=λz h=>by
   have y:=s3 _ _ (hz2 z h);exact Gm y (GV y (s3 _ _ el) (λq=>by cases q))
  generalize upd H3 l (.lst (ws.map (λz=>V.ref z.1)++[.ref T]))=H4 at hD4 hz4 ⊢;refine ⟨_,rfl,_,rfl,_,rfl,?_⟩;dsimp only [Zaj,List.cons_append,List.nil_append];refine wb e e1 (by lia) _ _ _ λl5 w5 H5 s5 hl5 el5 ew5 em5=>?_;have hD5:=s5 _ _ hD4;have hz5:∀z∈zs,H5 z.1=some (.tup [.str z.2.1,.int z.2.2]):=λz h=>s5 _ _ (hz4 z h);refine ⟨_,rfl,_,_,.lst (SqL.of el5) (JV ew5),.lst (SqL.of hD5) (JV hz5),by rw [em5];exact Jj tok,Jj tok,?_⟩;rw [em5,Yx];refine ⟨_,rfl,G9 ?_⟩;refine ⟨_,rfl,_,_,rfl,rfl,_,rfl,_,rfl,?_⟩;dsimp only [Zaj,List.cons_append,List.nil_append];rw [show ((i+e:Nat):Int)+1=((i+(e+1):Nat):Int) by push_cast;lia];refine wb (e+1) (by lia) (by lia) _ _ _ λl6 w6 H6 s6 hl6 el6 ew6 em6=>?_;have hD6:=s6 _ _ hD5;have hz6:∀z∈zs,H6 z.1=some (.tup [.str z.2.1,.int z.2.2]):=λz h=>s6 _ _ (hz5 z h);refine ⟨_,rfl,_,_,.lst (SqL.of el6) (JV ew6),.lst (SqL.of hD6) (JV hz6),by rw [em6];exact Jj tok,Jj tok,?_⟩;rw [em6,Yx];exact q H6
end
end M
section
open PySem PySem.W PyProof.Rows
def M.rowP:Program:=PySem.Challenge.rw_onceways_k69_words_below_a_row.prog
def M.seenP:Program:={ M.rowP with main:={ M.rowP.main with body:=[1,2,3,5,6,7,8,10,11,12,13,14,15,16,17,18,19,20,21,22,23,24,25,26,28,29,31,32,33,34,36,37,38,39,40,41,42,43,44,45].filterMap (λi=>M.rowP.main.body[i]?) } }
def M.loosely:List Str:=[]
def M.hookX (s:Shared):Bool:=xlAt M.seenP [] s && recOk (RowW.records (OpenRow.toRowW PySem.Challenge.rw_onceways_k69_words_below_a_row.row)) s
noncomputable def M.atBoot (w:World)(os:OsState):Shared:=⟨boot_heap w.params,Array.mk [],boot_drawn,boot_toks,os⟩
noncomputable def M.topOf (p:Program)(N:Nat)(w:World)(os:OsState):Option Shared:=topRun treeTable p w (M.atBoot w os).heap.objs.size ((M.atBoot w os).heap.nsMap mainGlobals "__annotations__") N (M.atBoot w os) (topStub p)
theorem M.top_run {p:Program}{N:Nat}{w:World}{os:OsState}{s:Shared}(h:topFrom treeTable p w N (M.atBoot w os)=some s):M.topOf p N w os=some s:=by
 unfold topFrom at h;split at h
 ·obtain ⟨s1,h1,h2⟩:=Option.bind_eq_some_iff.mp h;split at h2
  ·cases h2;exact h1
  ·cases h2
 ·cases h
theorem M.left_boot {p q:Program}{loose:List Str}{Xt:Shared->Bool}{α:Type}{Yf:Shared->α}{Ya:World->α}{N:Nat}(e:opening p=plainProg p.main.scope.names)(hN:Nat.ble 600 N=true)(f:∀s,fenceModules? p s=some s)(hc:∀(w:World)(os:OsState),(topFrom treeTable p w N (M.atBoot w os)).isSome=true)(ha:∀(w:World)(os:OsState),(M.topOf p N w os).map (openSeen q loose (importedModules p.main.body) Xt true)=some (openGood q loose))(hb:∀(w:World)(os:OsState),(M.topOf p N w os).map Yf=some (Ya w)) :
  LeftO p q loose Xt Yf Ya N:=λw=>by
 obtain ⟨⟨a,b,c,d,os⟩,e1,e2⟩:=Option.map_eq_some_iff.mp (boot_open e hN f w);obtain ⟨rfl,rfl,rfl,rfl⟩:a=boot_heap w.params/\b=Array.mk []/\c=boot_drawn/\d=boot_toks:=by simpa using e2
 obtain ⟨s,hs⟩:=Option.isSome_iff_exists.mp (hc w os);have h1:=ha w os;have h2:=hb w os;rw [M.top_run hs] at h1 h2;unfold openEnds;rw [e1];show (topFrom treeTable p w N (M.atBoot w os)).map _=_;rw [hs];simp only [Option.map_some,Option.some.injEq] at h1 h2 ⊢;rw [h1,h2]
set_option maxHeartbeats 0 in
theorem M.topA (w:World)(os:OsState):(M.topOf M.rowP 3458 w os).map (openSeen M.seenP M.loosely (importedModules M.rowP.main.body) M.hookX true)=some (openGood M.seenP M.loosely):=by
 unfold M.topOf;rw [W.Fast.te14082659384304107361,W.Fast.te14364793385576792824,W.Fast.te4187177175401517315];kernel_rfl
set_option maxHeartbeats 0 in
theorem M.topC (w:World)(os:OsState):(topFrom treeTable M.rowP w 3458 (M.atBoot w os)).isSome=true:=by
 unfold topFrom;rw [W.Fast.te14082659384304107361,W.Fast.te14364793385576792824];kernel_rfl
end
namespace M
open PySem L2
theorem all_mk {l:W.OpenLaw}{w:World}{K:W.Frag}{h:Heap}{mg:Str->Option Value}{fa f1 f2 f3 f4 f5 f6 f7 f8 f9 f10 f11 f12 f13 f14 f15 f16 f17 f18 f19 f20 f21 f22 f23 f24 f25 f26 f27 f28 f29 no:Addr}{u0 u1 u2 u3 u4 u5:Tok}(X:K.In h)(G:h.Ns mainGlobals mg)(hfa:mg "law" = some (.ref fa)){od1 an1 od2 an2 od3 an3 od4 an4 od5 an5 od6 an6 od7 an7 od8 an8 od9 an9 od10 an10 od11 an11 od12 an12 od13 an13 od14 an14 od15 an15 od16 an16 od17 an17 od18 an18 od19 an19 od20 an20 od21 an21 od22 an22 od23 an23 od24 an24 od25 an25 od26 an26 od27 an27 od28 an28 od29 an29:Option Addr}{sl1 sl2 sl3 sl4 sl5 sl6 sl7 sl8 sl9 sl10 sl11 sl12 sl13 sl14 sl15 sl16 sl17 sl18 sl19 sl20 sl21 sl22 sl23 sl24 sl25 sl26 sl27 sl28 sl29:Array (Option Value)}{oc1 kV1 dc1 pm1 cd1 ct1 oc2 kV2 dc2 pm2 cd2 ct2 oc3 kV3 dc3 pm3 cd3 ct3 oc4 kV4 dc4 pm4 cd4 ct4 oc5 kV5 dc5 pm5 cd5 ct5 oc6 kV6 dc6 pm6 cd6 ct6 oc7 kV7 dc7 pm7 cd7 ct7 oc8 kV8 dc8 pm8 cd8 ct8 oc9 kV9 dc9 pm9 cd9 ct9 oc10 kV10 dc10 pm10 cd10 ct10 oc11 kV11 dc11 pm11 cd11 ct11 oc12 kV12 dc12 pm12 cd12 ct12 oc13 kV13 dc13 pm13 cd13 ct13 oc14 kV14 dc14 pm14 cd14 ct14 oc15 kV15 dc15 pm15 cd15 ct15 oc16 kV16 dc16 pm16 cd16 ct16 oc17 kV17 dc17 pm17 cd17 ct17 oc18 kV18 dc18 pm18 cd18 ct18 oc19 kV19 dc19 pm19 cd19 ct19 oc20 kV20 dc20 pm20 cd20 ct20 oc21 kV21 dc21 pm21 cd21 ct21 oc22 kV22 dc22 pm22 cd22 ct22 oc23 kV23 dc23 pm23 cd23 ct23 oc24 kV24 dc24 pm24 cd24 ct24 oc25 kV25 dc25 pm25 cd25 ct25 oc26 kV26 dc26 pm26 cd26 ct26 oc27 kV27 dc27 pm27 cd27 ct27 oc28 kV28 dc28 pm28 cd28 ct28 oc29 kV29 dc29 pm29 cd29 ct29:Value}(aF1:W.nsIn K mainGlobals "grid" = some (some (.ref f1)))(lF1:K.lookup f1=some ⟨oc1,od1,.func (W.fnOf "grid" "grid" (Gp sGr) (Gn sGr) (Gc sGr) .none kV1 dc1 pm1 an1 cd1 ct1),sl1⟩)(cF1:W.codeIn K cd1 "grid" = true)(kF1:W.keepIn K (.ref f1)=true)(aF2:W.nsIn K mainGlobals "beside" = some (some (.ref f2)))(lF2:K.lookup f2=some ⟨oc2,od2,.func (W.fnOf "beside" "beside" (Gp Zb5) (Gn Zb5) (Gc Zb5) .none kV2 dc2 pm2 an2 cd2 ct2),sl2⟩)(cF2:W.codeIn K cd2 "beside" = true)(kF2:W.keepIn K (.ref f2)=true)(aF3:W.nsIn K mainGlobals "last_roads" = some (some (.ref f3)))(lF3:K.lookup f3=some ⟨oc3,od3,.func (W.fnOf "last_roads" "last_roads" (Gp sLr) (Gn sLr) (Gc sLr) .none kV3 dc3 pm3 an3 cd3 ct3),sl3⟩)(cF3:W.codeIn K cd3 "last_roads" = true)(kF3:W.keepIn K (.ref f3)=true)(aF4:W.nsIn K mainGlobals "steps_of" = some (some (.ref f4)))(lF4:K.lookup f4=some ⟨oc4,od4,.func (W.fnOf "steps_of" "steps_of" (Gp sSo) (Gn sSo) (Gc sSo) .none kV4 dc4 pm4 an4 cd4 ct4),sl4⟩)(cF4:W.codeIn K cd4 "steps_of" = true)(kF4:W.keepIn K (.ref f4)=true)(aF5:W.nsIn K mainGlobals "first_marks" = some (some (.ref f5)))(lF5:K.lookup f5=some ⟨oc5,od5,.func (W.fnOf "first_marks" "first_marks" (Gp sFm) (Gn sFm) (Gc sFm) .none kV5 dc5 pm5 an5 cd5 ct5),sl5⟩)(cF5:W.codeIn K cd5 "first_marks" = true)(kF5:W.keepIn K (.ref f5)=true)(aF6:W.nsIn K mainGlobals "is_done" = some (some (.ref f6)))(lF6:K.lookup f6=some ⟨oc6,od6,.func (W.fnOf "is_done" "is_done" (Gp sId) (Gn sId) (Gc sId) .none kV6 dc6 pm6 an6 cd6 ct6),sl6⟩)(cF6:W.codeIn K cd6 "is_done" = true)(kF6:W.keepIn K (.ref f6)=true)(aF7:W.nsIn K mainGlobals "is_loose" = some (some (.ref f7)))(lF7:K.lookup f7=some ⟨oc7,od7,.func (W.fnOf "is_loose" "is_loose" (Gp sIl) (Gn sIl) (Gc sIl) .none kV7 dc7 pm7 an7 cd7 ct7),sl7⟩)(cF7:W.codeIn K cd7 "is_loose" = true)(kF7:W.keepIn K (.ref f7)=true)(aF8:W.nsIn K mainGlobals "is_full" = some (some (.ref f8)))(lF8:K.lookup f8=some ⟨oc8,od8,.func (W.fnOf "is_full" "is_full" (Gp sIf) (Gn sIf) (Gc sIf) .none kV8 dc8 pm8 an8 cd8 ct8),sl8⟩)(cF8:W.codeIn K cd8 "is_full" = true)(kF8:W.keepIn K (.ref f8)=true)(aF9:W.nsIn K mainGlobals "is_met" = some (some (.ref f9)))(lF9:K.lookup f9=some ⟨oc9,od9,.func (W.fnOf "is_met" "is_met" (Gp sIm) (Gn sIm) (Gc sIm) .none kV9 dc9 pm9 an9 cd9 ct9),sl9⟩)(cF9:W.codeIn K cd9 "is_met" = true)(kF9:W.keepIn K (.ref f9)=true)(aF10:W.nsIn K mainGlobals "far_end" = some (some (.ref f10)))(lF10:K.lookup f10=some ⟨oc10,od10,.func (W.fnOf "far_end" "far_end" (Gp sFe) (Gn sFe) (Gc sFe) .none kV10 dc10 pm10 an10 cd10 ct10),sl10⟩)(cF10:W.codeIn K cd10 "far_end" = true)(kF10:W.keepIn K (.ref f10)=true)(aF11:W.nsIn K mainGlobals "with_road" = some (some (.ref f11)))(lF11:K.lookup f11=some ⟨oc11,od11,.func (W.fnOf "with_road" "with_road" (Gp sWr) (Gn sWr) (Gc sWr) .none kV11 dc11 pm11 an11 cd11 ct11),sl11⟩)(cF11:W.codeIn K cd11 "with_road" = true)(kF11:W.keepIn K (.ref f11)=true)(aF12:W.nsIn K mainGlobals "left_behind" = some (some (.ref f12)))(lF12:K.lookup f12=some ⟨oc12,od12,.func (W.fnOf "left_behind" "left_behind" (Gp sLb) (Gn sLb) (Gc sLb) .none kV12 dc12 pm12 an12 cd12 ct12),sl12⟩)(cF12:W.codeIn K cd12 "left_behind" = true)(kF12:W.keepIn K (.ref f12)=true)(aF13:W.nsIn K mainGlobals "decided" = some (some (.ref f13)))(lF13:K.lookup f13=some ⟨oc13,od13,.func (W.fnOf "decided" "decided" (Gp sDe) (Gn sDe) (Gc sDe) .none kV13 dc13 pm13 an13 cd13 ct13),sl13⟩)(cF13:W.codeIn K cd13 "decided" = true)(kF13:W.keepIn K (.ref f13)=true)(aF14:W.nsIn K mainGlobals "behind_step" = some (some (.ref f14)))(lF14:K.lookup f14=some ⟨oc14,od14,.func (W.fnOf "behind_step" "behind_step" (Gp sBs) (Gn sBs) (Gc sBs) .none kV14 dc14 pm14 an14 cd14 ct14),sl14⟩)(cF14:W.codeIn K cd14 "behind_step" = true)(kF14:W.keepIn K (.ref f14)=true)(aF15:W.nsIn K mainGlobals "numbers_behind" = some (some (.ref f15)))(lF15:K.lookup f15=some ⟨oc15,od15,.func (W.fnOf "numbers_behind" "numbers_behind" (Gp sNb) (Gn sNb) (Gc sNb) .none kV15 dc15 pm15 an15 cd15 ct15),sl15⟩)(cF15:W.codeIn K cd15 "numbers_behind" = true)(kF15:W.keepIn K (.ref f15)=true)(aF16:W.nsIn K mainGlobals "roads_of_row" = some (some (.ref f16)))(lF16:K.lookup f16=some ⟨oc16,od16,.func (W.fnOf "roads_of_row" "roads_of_row" (Gp sRr) (Gn sRr) (Gc sRr) .none kV16 dc16 pm16 an16 cd16 ct16),sl16⟩)(cF16:W.codeIn K cd16 "roads_of_row" = true)(kF16:W.keepIn K (.ref f16)=true)(aF17:W.nsIn K mainGlobals "sign_of" = some (some (.ref f17)))(lF17:K.lookup f17=some ⟨oc17,od17,.func (W.fnOf "sign_of" "sign_of" (Gp sSg) (Gn sSg) (Gc sSg) .none kV17 dc17 pm17 an17 cd17 ct17),sl17⟩)(cF17:W.codeIn K cd17 "sign_of" = true)(kF17:W.keepIn K (.ref f17)=true)(aF18:W.nsIn K mainGlobals "word_in" = some (some (.ref f18)))(lF18:K.lookup f18=some ⟨oc18,od18,.func (W.fnOf "word_in" "word_in" (Gp sWn) (Gn sWn) (Gc sWn) .none kV18 dc18 pm18 an18 cd18 ct18),sl18⟩)(cF18:W.codeIn K cd18 "word_in" = true)(kF18:W.keepIn K (.ref f18)=true)(aF19:W.nsIn K mainGlobals "words_below" = some (some (.ref f19)))(lF19:K.lookup f19=some ⟨oc19,od19,.func (W.fnOf "words_below" "words_below" (Gp sWb) (Gn sWb) (Gc sWb) .none kV19 dc19 pm19 an19 cd19 ct19),sl19⟩)(cF19:W.codeIn K cd19 "words_below" = true)(kF19:W.keepIn K (.ref f19)=true)(aF20:W.nsIn K mainGlobals "_law_cell_at" = some (some (.ref f20)))(lF20:K.lookup f20=some ⟨oc20,od20,.func (W.fnOf "_law_cell_at" "_law_cell_at" (Gp ZaS) (Gn ZaS) (Gc ZaS) .none kV20 dc20 pm20 an20 cd20 ct20),sl20⟩)(cF20:W.codeIn K cd20 "_law_cell_at" = true)(kF20:W.keepIn K (.ref f20)=true)(aF21:W.nsIn K mainGlobals "_law_mixed" = some (some (.ref f21)))(lF21:K.lookup f21=some ⟨oc21,od21,.func (W.fnOf "_law_mixed" "_law_mixed" (Gp sMi) (Gn sMi) (Gc sMi) .none kV21 dc21 pm21 an21 cd21 ct21),sl21⟩)(cF21:W.codeIn K cd21 "_law_mixed" = true)(kF21:W.keepIn K (.ref f21)=true)(aF22:W.nsIn K mainGlobals "_law_numbers" = some (some (.ref f22)))(lF22:K.lookup f22=some ⟨oc22,od22,.func (W.fnOf "_law_numbers" "_law_numbers" (Gp Z0) (Gn Z0) (Gc Z0) .none kV22 dc22 pm22 an22 cd22 ct22),sl22⟩)(cF22:W.codeIn K cd22 "_law_numbers" = true)(kF22:W.keepIn K (.ref f22)=true)(aF23:W.nsIn K mainGlobals "_law_beside" = some (some (.ref f23)))(lF23:K.lookup f23=some ⟨oc23,od23,.func (W.fnOf "_law_beside" "_law_beside" (Gp Z1) (Gn Z1) (Gc Z1) .none kV23 dc23 pm23 an23 cd23 ct23),sl23⟩)(cF23:W.codeIn K cd23 "_law_beside" = true)(kF23:W.keepIn K (.ref f23)=true)(aF24:W.nsIn K mainGlobals "_law_choices" = some (some (.ref f24)))(lF24:K.lookup f24=some ⟨oc24,od24,.func (W.fnOf "_law_choices" "_law_choices" (Gp ZaT) (Gn ZaT) (Gc ZaT) .none kV24 dc24 pm24 an24 cd24 ct24),sl24⟩)(cF24:W.codeIn K cd24 "_law_choices" = true)(kF24:W.keepIn K (.ref f24)=true)(aF25:W.nsIn K mainGlobals "_law_end_of" = some (some (.ref f25)))(lF25:K.lookup f25=some ⟨oc25,od25,.func (W.fnOf "_law_end_of" "_law_end_of" (Gp Zo) (Gn Zo) (Gc Zo) .none kV25 dc25 pm25 an25 cd25 ct25),sl25⟩)(cF25:W.codeIn K cd25 "_law_end_of" = true)(kF25:W.keepIn K (.ref f25)=true)(aF26:W.nsIn K mainGlobals "_law_reached" = some (some (.ref f26)))(lF26:K.lookup f26=some ⟨oc26,od26,.func (W.fnOf "_law_reached" "_law_reached" (Gp Zp) (Gn Zp) (Gc Zp) .none kV26 dc26 pm26 an26 cd26 ct26),sl26⟩)(cF26:W.codeIn K cd26 "_law_reached" = true)(kF26:W.keepIn K (.ref f26)=true)(aF27:W.nsIn K mainGlobals "_law_word" = some (some (.ref f27)))(lF27:K.lookup f27=some ⟨oc27,od27,.func (W.fnOf "_law_word" "_law_word" (Gp Zq) (Gn Zq) (Gc Zq) .none kV27 dc27 pm27 an27 cd27 ct27),sl27⟩)(cF27:W.codeIn K cd27 "_law_word" = true)(kF27:W.keepIn K (.ref f27)=true)(aF28:W.nsIn K mainGlobals "_law_due" = some (some (.ref f28)))(lF28:K.lookup f28=some ⟨oc28,od28,.func (W.fnOf "_law_due" "_law_due" (Gp Zr) (Gn Zr) (Gc Zr) .none kV28 dc28 pm28 an28 cd28 ct28),sl28⟩)(cF28:W.codeIn K cd28 "_law_due" = true)(kF28:W.keepIn K (.ref f28)=true)(aF29:W.nsIn K mainGlobals "law" = some (some (.ref f29)))(lF29:K.lookup f29=some ⟨oc29,od29,.func (W.fnOf "law" "law" (Gp YB) (Gn YB) (Gc YB) .none kV29 dc29 pm29 an29 cd29 ct29),sl29⟩)(cF29:W.codeIn K cd29 "law" = true)(kF29:W.keepIn K (.ref f29)=true)(gW:W.nsIn K mainGlobals "NoWeb" = some (some (.ref no)))(xW:ExcC K no)(gUSED:W.nsIn K mainGlobals "USED" = some (some (.int (-1) u1)))(gFREE:W.nsIn K mainGlobals "FREE" = some (some (.int (-2) u2)))(gFIRST:W.nsIn K mainGlobals "FIRST" = some (some (.int (-3) u3)))(gSECOND:W.nsIn K mainGlobals "SECOND" = some (some (.int (-4) u4)))(gBARRED:W.nsIn K mainGlobals "BARRED" = some (some (.int (-5) u5)))(gDONE:W.nsIn K mainGlobals "DONE" = some (some (.int 0 u0)))(nrange:W.nsIn K mainGlobals "range" = some none)(nlist:W.nsIn K mainGlobals "list" = some none)(nlen:W.nsIn K mainGlobals "len" = some none)(nmin:W.nsIn K mainGlobals "min" = some none)(nsorted:W.nsIn K mainGlobals "sorted" = some none)(nall:W.nsIn K mainGlobals "all" = some none)(nany:W.nsIn K mainGlobals "any" = some none)(nenumerate:W.nsIn K mainGlobals "enumerate" = some none)(ntuple:W.nsIn K mainGlobals "tuple" = some none)(nint:W.nsIn K mainGlobals "int" = some none)(nstr:W.nsIn K mainGlobals "str" = some none)(nbool:W.nsIn K mainGlobals "bool" = some none)(nisinstance:W.nsIn K mainGlobals "isinstance" = some none)(kll:W.kitOne K (.type "list") (.type "list")=some true)(ktt:W.kitOne K (.type "tuple") (.type "tuple")=some true)(kss:W.kitOne K (.type "str") (.type "str")=some true)(kib:W.kitOne K (.type "int") (.type "bool")=some false)
  : ∃fd:FuncData,(∀(s:Shared)(v:Value),BindsTo s fd ⟨[v],[]⟩ [("script", v)])/\∀base:Heap,K.In base->base.Ns mainGlobals mg->GL l.prog w K mg base CX0 7 fa fd ["script"] (ZJ K):=by
 have e:=hfa.symm.trans (W.mg_of X G aF29);cases e;have FGr:=GD (st:=sGr) lF1 cF1 kF1;have bGr:=FGr.binds (ps:=["rows", "columns"]) λ_ _ _ _ _ _ us hl=>by obtain ⟨_,_,rfl⟩:=Xp hl;rfl
 have mGr:mg "grid" = some (.ref f1):=W.mg_of X G aF1;have FBe:=GD (st:=Zb5) lF2 cF2 kF2;have bBe:=FBe.binds (ps:=["web", "place"]) λ_ _ _ _ _ _ us hl=>by obtain ⟨_,_,rfl⟩:=Xp hl;rfl
 have mBe:mg "beside" = some (.ref f2):=W.mg_of X G aF2;have FLr:=GD (st:=sLr) lF3 cF3 kF3;have bLr:=FLr.binds (ps:=["web"]) λ_ _ _ _ _ _ us hl=>by obtain ⟨_,rfl⟩:=ZQ hl;rfl
 have mLr:mg "last_roads" = some (.ref f3):=W.mg_of X G aF3;have FSo:=GD (st:=sSo) lF4 cF4 kF4;have bSo:=FSo.binds (ps:=["web", "needed"]) λ_ _ _ _ _ _ us hl=>by obtain ⟨_,_,rfl⟩:=Xp hl;rfl
 have mSo:mg "steps_of" = some (.ref f4):=W.mg_of X G aF4;have FFm:=GD (st:=sFm) lF5 cF5 kF5;have bFm:=FFm.binds (ps:=["web", "needed"]) λ_ _ _ _ _ _ us hl=>by obtain ⟨_,_,rfl⟩:=Xp hl;rfl
 have mFm:mg "first_marks" = some (.ref f5):=W.mg_of X G aF5;have FId:=GD (st:=sId) lF6 cF6 kF6;have bId:=FId.binds (ps:=["marks"]) λ_ _ _ _ _ _ us hl=>by obtain ⟨_,rfl⟩:=ZQ hl;rfl
 have mId:mg "is_done" = some (.ref f6):=W.mg_of X G aF6;have FIl:=GD (st:=sIl) lF7 cF7 kF7;have bIl:=FIl.binds (ps:=["mark"]) λ_ _ _ _ _ _ us hl=>by obtain ⟨_,rfl⟩:=ZQ hl;rfl
 have mIl:mg "is_loose" = some (.ref f7):=W.mg_of X G aF7;have FIf:=GD (st:=sIf) lF8 cF8 kF8;have bIf:=FIf.binds (ps:=["mark"]) λ_ _ _ _ _ _ us hl=>by obtain ⟨_,rfl⟩:=ZQ hl;rfl
 have mIf:mg "is_full" = some (.ref f8):=W.mg_of X G aF8;have FIm:=GD (st:=sIm) lF9 cF9 kF9;have bIm:=FIm.binds (ps:=["mark"]) λ_ _ _ _ _ _ us hl=>by obtain ⟨_,rfl⟩:=ZQ hl;rfl
 have mIm:mg "is_met" = some (.ref f9):=W.mg_of X G aF9;have FFe:=GD (st:=sFe) lF10 cF10 kF10;have bFe:=FFe.binds (ps:=["marks", "place", "ends"]) λ_ _ _ _ _ _ us hl=>by obtain ⟨_,_,_,rfl⟩:=YS hl;rfl
 have mFe:mg "far_end" = some (.ref f10):=W.mg_of X G aF10;have FWr:=GD (st:=sWr) lF11 cF11 kF11;have bWr:=FWr.binds (ps:=["marks", "road", "ends"]) λ_ _ _ _ _ _ us hl=>by obtain ⟨_,_,_,rfl⟩:=YS hl;rfl
 have mWr:mg "with_road" = some (.ref f11):=W.mg_of X G aF11;have FLb:=GD (st:=sLb) lF12 cF12 kF12;have bLb:=FLb.binds (ps:=["marks", "leaving", "needed"]) λ_ _ _ _ _ _ us hl=>by obtain ⟨_,_,_,rfl⟩:=YS hl;rfl
 have mLb:mg "left_behind" = some (.ref f12):=W.mg_of X G aF12;have FDe:=GD (st:=sDe) lF13 cF13 kF13;have bDe:=FDe.binds (ps:=["marks", "step", "ends", "chosen"]) λ_ _ _ _ _ _ us hl=>by obtain ⟨_,_,_,_,rfl⟩:=ZcH hl;rfl
 have mDe:mg "decided" = some (.ref f13):=W.mg_of X G aF13;have FBs:=GD (st:=sBs) lF14 cF14 kF14;have bBs:=FBs.binds (ps:=["numbers", "step", "ends"]) λ_ _ _ _ _ _ us hl=>by obtain ⟨_,_,_,rfl⟩:=YS hl;rfl
 have mBs:mg "behind_step" = some (.ref f14):=W.mg_of X G aF14;have FNb:=GD (st:=sNb) lF15 cF15 kF15;have bNb:=FNb.binds (ps:=["web", "ends", "needed", "i"]) λ_ _ _ _ _ _ us hl=>by obtain ⟨_,_,_,_,rfl⟩:=ZcH hl;rfl
 have mNb:mg "numbers_behind" = some (.ref f15):=W.mg_of X G aF15;have FRr:=GD (st:=sRr) lF16 cF16 kF16;have bRr:=FRr.binds (ps:=["columns"]) λ_ _ _ _ _ _ us hl=>by obtain ⟨_,rfl⟩:=ZQ hl;rfl
 have mRr:mg "roads_of_row" = some (.ref f16):=W.mg_of X G aF16;have FSg:=GD (st:=sSg) lF17 cF17 kF17;have bSg:=FSg.binds (ps:=["mark", "place"]) λ_ _ _ _ _ _ us hl=>by obtain ⟨_,_,rfl⟩:=Xp hl;rfl
 have mSg:mg "sign_of" = some (.ref f17):=W.mg_of X G aF17;have FWn:=GD (st:=sWn) lF18 cF18 kF18;have bWn:=FWn.binds (ps:=["marks", "row", "columns"]) λ_ _ _ _ _ _ us hl=>by obtain ⟨_,_,_,rfl⟩:=YS hl;rfl
 have mWn:mg "word_in" = some (.ref f18):=W.mg_of X G aF18;have FWb:=GD (st:=sWb) lF19 cF19 kF19;have bWb:=FWb.binds (ps:=["rows", "columns", "i"]) λ_ _ _ _ _ _ us hl=>by obtain ⟨_,_,_,rfl⟩:=YS hl;rfl
 have mWb:mg "words_below" = some (.ref f19):=W.mg_of X G aF19;have FCa:=GD (st:=ZaS) lF20 cF20 kF20;have bCa:=FCa.binds (ps:=["script", "k"]) λ_ _ _ _ _ _ us hl=>by obtain ⟨_,_,rfl⟩:=Xp hl;rfl
 have mCa:mg "_law_cell_at" = some (.ref f20):=W.mg_of X G aF20;have FMi:=GD (st:=sMi) lF21 cF21 kF21;have bMi:=FMi.binds (ps:=["cell", "k"]) λ_ _ _ _ _ _ us hl=>by obtain ⟨_,_,rfl⟩:=Xp hl;rfl
 have mMi:mg "_law_mixed" = some (.ref f21):=W.mg_of X G aF21;have FNu:=GD (st:=Z0) lF22 cF22 kF22;have bNu:=FNu.binds (ps:=["rows", "columns"]) λ_ _ _ _ _ _ us hl=>by obtain ⟨_,_,rfl⟩:=Xp hl;rfl
 have mNu:mg "_law_numbers" = some (.ref f22):=W.mg_of X G aF22;have FBd:=GD (st:=Z1) lF23 cF23 kF23;have bBd:=FBd.binds (ps:=["numbers", "roads"]) λ_ _ _ _ _ _ us hl=>by obtain ⟨_,_,rfl⟩:=Xp hl;rfl
 have mBd:mg "_law_beside" = some (.ref f23):=W.mg_of X G aF23;have FCh:=GD (st:=ZaT) lF24 cF24 kF24;have bCh:=FCh.binds (ps:=["roads"]) λ_ _ _ _ _ _ us hl=>by obtain ⟨_,rfl⟩:=ZQ hl;rfl
 have mCh:mg "_law_choices" = some (.ref f24):=W.mg_of X G aF24;have FEo:=GD (st:=Zo) lF25 cF25 kF25;have bEo:=FEo.binds (ps:=["near", "place", "i"]) λ_ _ _ _ _ _ us hl=>by obtain ⟨_,_,_,rfl⟩:=YS hl;rfl
 have mEo:mg "_law_end_of" = some (.ref f25):=W.mg_of X G aF25;have FRe:=GD (st:=Zp) lF26 cF26 kF26;have bRe:=FRe.binds (ps:=["near", "starts"]) λ_ _ _ _ _ _ us hl=>by obtain ⟨_,_,rfl⟩:=Xp hl;rfl
 have mRe:mg "_law_reached" = some (.ref f26):=W.mg_of X G aF26;have FWd:=GD (st:=Zq) lF27 cF27 kF27;have bWd:=FWd.binds (ps:=["numbers", "columns", "i", "some"]) λ_ _ _ _ _ _ us hl=>by obtain ⟨_,_,_,_,rfl⟩:=ZcH hl;rfl
 have mWd:mg "_law_word" = some (.ref f27):=W.mg_of X G aF27;have FDu:=GD (st:=Zr) lF28 cF28 kF28;have bDu:=FDu.binds (ps:=["rows", "columns", "i"]) λ_ _ _ _ _ _ us hl=>by obtain ⟨_,_,_,rfl⟩:=YS hl;rfl
 have mDu:mg "_law_due" = some (.ref f28):=W.mg_of X G aF28;have FL:=GD (st:=YB) lF29 cF29 kF29;refine ⟨W.fnOf "law" "law" (Gp YB) (Gn YB) (Gc YB) .none kV29 dc29 pm29 an29 cd29 ct29,λs v=>.of_eq rfl,λbase _ _=>?_⟩;have GBe:=ZaW (P:=l.prog) (w:=w) (base:=base) (mg:=mg) ["web", "place"] FBe;have GId:=Zdn (P:=l.prog) (w:=w) (base:=base) FId (W.mg_of X G gDONE);have GIl:=Zdp (P:=l.prog) (w:=w) (base:=base) FIl (W.mg_of X G gFIRST) (W.mg_of X G gSECOND);have GIf:=Zdq (P:=l.prog) (w:=w) (base:=base) FIf (W.mg_of X G gUSED) (W.mg_of X G gBARRED);have GIm:=Zdr (P:=l.prog) (w:=w) (base:=base) FIm (W.mg_of X G gFREE) (W.mg_of X G gBARRED);have GFe:=Zds (P:=l.prog) (w:=w) (base:=base) FFe (W.mg_of X G gFREE);have GWr:=Zdt (P:=l.prog) (w:=w) (base:=base) FWr FId bId mId GId FIf bIf mIf GIf FFe bFe mFe GFe FIl bIl mIl GIl (W.mg_of X G gDONE) (W.mg_of X G gUSED) (W.mg_none_of X G nlist) (W.mg_none_of X G nany) (W.mg_none_of X G ntuple);have GLb:=Zdv (P:=l.prog) (w:=w) (base:=base) FLb FIl bIl mIl GIl FIm bIm mIm GIm (W.mg_of X G gFREE) (W.mg_none_of X G nlist) (W.mg_none_of X G nany) (W.mg_none_of X G nall) (W.mg_none_of X G ntuple);have GDe:=Zdw (P:=l.prog) (w:=w) (base:=base) FDe FWr bWr mWr GWr FLb bLb mLb GLb;have GLr:=Zdx (P:=l.prog) (w:=w) (base:=base) FLr (W.mg_none_of X G nenumerate);have GSo:=Zdy (P:=l.prog) (w:=w) (base:=base) FSo FLr bLr mLr GLr (W.mg_none_of X G nenumerate);have GFm:=Zdz (P:=l.prog) (w:=w) (base:=base) FFm FBe bBe mBe GBe (W.mg_of X G gFREE) (W.mg_none_of X G nall) (W.mg_none_of X G ntuple);have GBs:=ZdA (P:=l.prog) (w:=w) (base:=base) FBs FDe bDe mDe GDe;have GNb:=ZdD (P:=l.prog) (w:=w) (base:=base) FNb FFm bFm mFm GFm FSo bSo mSo GSo FBs bBs mBs GBs;have GGr:=Za0 (P:=l.prog) (w:=w) (base:=base) FGr (W.mg_of X G gW) xW (W.mg_none_of X G nrange);have GRr:=ZdE (P:=l.prog) (w:=w) (base:=base) (mg:=mg) FRr;have GSg:=ZdF (P:=l.prog) (w:=w) (base:=base) FSg (W.mg_of X G gFREE);have GWn:=ZdG (P:=l.prog) (w:=w) (base:=base) FWn FSg bSg mSg GSg (W.mg_none_of X G nrange);have GWb:=ZdI (P:=l.prog) (w:=w) (base:=base) FWb FGr bGr mGr GGr FNb bNb mNb GNb FRr bRr mRr GRr FWn bWn mWn GWn (W.mg_of X G gW) xW (W.mg_none_of X G nsorted);have GCa:=Zb7 (P:=l.prog) (w:=w) (base:=base) FCa (W.mg_none_of X G nlen);have GMi:=ZdJ (P:=l.prog) (w:=w) (base:=base) (mg:=mg) FMi;have GNu:=Zcc (P:=l.prog) (w:=w) (base:=base) FNu (W.mg_none_of X G nrange) (W.mg_none_of X G nlen);have GBd:=Zch (P:=l.prog) (w:=w) (base:=base) (mg:=mg) FBd;have GCh:=Zck (P:=l.prog) (w:=w) (base:=base) (mg:=mg) FCh;have GEo:=Zcn (P:=l.prog) (w:=w) (base:=base) (mg:=mg) FEo;have GRe:=Zcq (P:=l.prog) (w:=w) (base:=base) FRe (W.mg_none_of X G nlist) (W.mg_none_of X G nlen);have GWd:=Zcs (P:=l.prog) (w:=w) (base:=base) FWd FBd bBd mBd GBd FRe bRe mRe GRe FEo bEo mEo GEo (W.mg_none_of X G nrange) (W.mg_none_of X G nlen) (W.mg_none_of X G nint);have GDu:=Zcv (P:=l.prog) (w:=w) (base:=base) FDu FNu bNu mNu GNu FCh bCh mCh GCh FWd bWd mWd GWd (W.mg_none_of X G nsorted);exact ZcE FL FCa bCa mCa GCa FMi bMi mMi GMi FDu bDu mDu GDu FWb bWb mWb GWb kll ktt kss kib (W.mg_none_of X G nisinstance) (W.mg_none_of X G nmin) (W.mg_none_of X G nlist) (W.mg_none_of X G ntuple) (W.mg_none_of X G nstr) (W.mg_none_of X G nbool)
theorem walk {l:W.OpenLaw}{q:Program}{loose:List Str}{XP:(Str->Option Value)->Heap->Prop}{YP:World->Heap->Prop}{d:DefRec}{K:Params->W.Frag}(hn:l.most=some 63)(hdf:d.params.defaults=[])(hY:∀(w:World)(h:Heap),YP w h->(K w.params).In h)(F:∀(w:World)(mg:Str->Option Value)(fa:Addr)(h:Heap),(K w.params).In h->h.Ns mainGlobals mg->mg d.name=some (.ref fa) ->
   ∃fd:FuncData,(∀(s:Shared)(u:Value),BindsTo s fd ⟨[u],[]⟩ [("script", u)])/\∀base:Heap,(K w.params).In base->base.Ns mainGlobals mg->GL l.prog w (K w.params) mg base CX0 7 fa fd ["script"] (ZJ (K w.params))) :
  W.WalkO q loose XP YP l.row.toRowW d [] (λf vs=>PySem.call f vs):=
 L2.walk_of (n:=63) (k:=7) (x := "script") (CX:=λ_=>CX0) (sp:=λw=>ZJ (K w.params)) hn (by decide) hdf ⟨rfl,by decide,by decide⟩ hY F (λ_ _ a ns hl _ hS=>⟨a,ns,rfl,hS,hl,λ_=>rfl⟩) λ_ _ _ _ _ z=>z
end M
open PySem PySem.W PyProof.Rows
local macro_rules
 | `(tactic| o_head $H)=>`(tactic| (
  refine @holds_open _ M.seenP M.loosely M.hookX (XL M.seenP []) _ (Hook.obs $H) (Hook.val $H) (Hook.says $H) _ _ 3458
   (@M.left_boot M.rowP M.seenP M.loosely M.hookX _ (Hook.obs $H) (Hook.val $H) 3458 ?b1 ?b2 ?b3 M.topC M.topA ?hl)
   (Hook.of $H) (Hook.keeps $H) ?h1 XL.keeps (by rfl) (by rfl) (by rfl) ?h5 ?h6 ?h7 ?h8 ?h9 ?hw ?hc
  (case h1=>exact λs e=>xl_of s (Bool.and_eq_true_iff.mp e).1)
  (case h5=>exact λs e=>recFacts_of (Bool.and_eq_true_iff.mp e).2)
  (case h6=>rfl)
  (case h7=>first | assumption | decide +kernel)
  (case h8=>decide +kernel)
  (case h9=>exact ⟨rfl,rfl,rfl,rfl,rfl,by decide +kernel⟩)
  (case b1=>kernel_rfl)
  (case b2=>decide)
  (case b3=>(intro s;kernel_rfl))
  (case hl=>(intro w os;unfold M.topOf;rw [W.Fast.te14082659384304107361,W.Fast.te14364793385576792824];kernel_rfl))))
set_option maxRecDepth 100000 in
set_option maxHeartbeats 0 in
theorem PySem.Challenge.cw_onceways_k69_words_below_a_row_holds : PySem.Challenge.rw_onceways_k69_words_below_a_row.Holds := by
 w_on;o_law;k_head;(case hw=>w_witness2)
 k_fill
 refine M.walk (l:=PySem.Challenge.rw_onceways_k69_words_below_a_row) rfl rfl (λw h Y=>W.kIn_of Y) ?F
 case F=>
  intro w mg fa h KX G hmg
  refine' M.all_mk KX G hmg ?aF1 ?lF1 ?cF1 ?kF1 ?aF2 ?lF2 ?cF2 ?kF2 ?aF3 ?lF3 ?cF3 ?kF3 ?aF4 ?lF4 ?cF4 ?kF4 ?aF5 ?lF5 ?cF5 ?kF5 ?aF6 ?lF6 ?cF6 ?kF6 ?aF7 ?lF7 ?cF7 ?kF7 ?aF8 ?lF8 ?cF8 ?kF8 ?aF9 ?lF9 ?cF9 ?kF9 ?aF10 ?lF10 ?cF10 ?kF10 ?aF11 ?lF11 ?cF11 ?kF11 ?aF12 ?lF12 ?cF12 ?kF12 ?aF13 ?lF13 ?cF13 ?kF13 ?aF14 ?lF14 ?cF14 ?kF14 ?aF15 ?lF15 ?cF15 ?kF15 ?aF16 ?lF16 ?cF16 ?kF16 ?aF17 ?lF17 ?cF17 ?kF17 ?aF18 ?lF18 ?cF18 ?kF18 ?aF19 ?lF19 ?cF19 ?kF19 ?aF20 ?lF20 ?cF20 ?kF20 ?aF21 ?lF21 ?cF21 ?kF21 ?aF22 ?lF22 ?cF22 ?kF22 ?aF23 ?lF23 ?cF23 ?kF23 ?aF24 ?lF24 ?cF24 ?kF24 ?aF25 ?lF25 ?cF25 ?kF25 ?aF26 ?lF26 ?cF26 ?kF26 ?aF27 ?lF27 ?cF27 ?kF27 ?aF28 ?lF28 ?cF28 ?kF28 ?aF29 ?lF29 ?cF29 ?kF29 ?gW ?xW ?gUSED ?gFREE ?gFIRST ?gSECOND ?gBARRED ?gDONE ?nrange ?nlist ?nlen ?nmin ?nsorted ?nall ?nany ?nenumerate ?ntuple ?nint ?nstr ?nbool ?nisinstance ?kll ?ktt ?kss ?kib
  (case aF1=>k_is)
  (case lF1=>k_is)
  (case cF1=>k_is)
  (case kF1=>k_is)
  (case aF2=>k_is)
  (case lF2=>k_is)
  (case cF2=>k_is)
  (case kF2=>k_is)
  (case aF3=>k_is)
  (case lF3=>k_is)
  (case cF3=>k_is)
  (case kF3=>k_is)
  (case aF4=>k_is)
  (case lF4=>k_is)
  (case cF4=>k_is)
  (case kF4=>k_is)
  (case aF5=>k_is)
  (case lF5=>k_is)
  (case cF5=>k_is)
  (case kF5=>k_is)
  (case aF6=>k_is)
  (case lF6=>k_is)
  (case cF6=>k_is)
  (case kF6=>k_is)
  (case aF7=>k_is)
  (case lF7=>k_is)
  (case cF7=>k_is)
  (case kF7=>k_is)
  (case aF8=>k_is)
  (case lF8=>k_is)
  (case cF8=>k_is)
  (case kF8=>k_is)
  (case aF9=>k_is)
  (case lF9=>k_is)
  (case cF9=>k_is)
  (case kF9=>k_is)
  (case aF10=>k_is)
  (case lF10=>k_is)
  (case cF10=>k_is)
  (case kF10=>k_is)
  (case aF11=>k_is)
  (case lF11=>k_is)
  (case cF11=>k_is)
  (case kF11=>k_is)
  (case aF12=>k_is)
  (case lF12=>k_is)
  (case cF12=>k_is)
  (case kF12=>k_is)
  (case aF13=>k_is)
  (case lF13=>k_is)
  (case cF13=>k_is)
  (case kF13=>k_is)
  (case aF14=>k_is)
  (case lF14=>k_is)
  (case cF14=>k_is)
  (case kF14=>k_is)
  (case aF15=>k_is)
  (case lF15=>k_is)
  (case cF15=>k_is)
  (case kF15=>k_is)
  (case aF16=>k_is)
  (case lF16=>k_is)
  (case cF16=>k_is)
  (case kF16=>k_is)
  (case aF17=>k_is)
  (case lF17=>k_is)
  (case cF17=>k_is)
  (case kF17=>k_is)
  (case aF18=>k_is)
  (case lF18=>k_is)
  (case cF18=>k_is)
  (case kF18=>k_is)
  (case aF19=>k_is)
  (case lF19=>k_is)
  (case cF19=>k_is)
  (case kF19=>k_is)
  (case aF20=>k_is)
  (case lF20=>k_is)
  (case cF20=>k_is)
  (case kF20=>k_is)
  (case aF21=>k_is)
  (case lF21=>k_is)
  (case cF21=>k_is)
  (case kF21=>k_is)
  (case aF22=>k_is)
  (case lF22=>k_is)
  (case cF22=>k_is)
  (case kF22=>k_is)
  (case aF23=>k_is)
  (case lF23=>k_is)
  (case cF23=>k_is)
  (case kF23=>k_is)
  (case aF24=>k_is)
  (case lF24=>k_is)
  (case cF24=>k_is)
  (case kF24=>k_is)
  (case aF25=>k_is)
  (case lF25=>k_is)
  (case cF25=>k_is)
  (case kF25=>k_is)
  (case aF26=>k_is)
  (case lF26=>k_is)
  (case cF26=>k_is)
  (case kF26=>k_is)
  (case aF27=>k_is)
  (case lF27=>k_is)
  (case cF27=>k_is)
  (case kF27=>k_is)
  (case aF28=>k_is)
  (case lF28=>k_is)
  (case cF28=>k_is)
  (case kF28=>k_is)
  (case aF29=>k_is)
  (case lF29=>k_is)
  (case cF29=>k_is)
  (case kF29=>k_is)
  (case gW=>k_is)
  (case xW=>(unfold L2.ExcC;k_exc))
  (case gUSED=>k_is)
  (case gFREE=>k_is)
  (case gFIRST=>k_is)
  (case gSECOND=>k_is)
  (case gBARRED=>k_is)
  (case gDONE=>k_is)
  (case nrange=>k_is)
  (case nlist=>k_is)
  (case nlen=>k_is)
  (case nmin=>k_is)
  (case nsorted=>k_is)
  (case nall=>k_is)
  (case nany=>k_is)
  (case nenumerate=>k_is)
  (case ntuple=>k_is)
  (case nint=>k_is)
  (case nstr=>k_is)
  (case nbool=>k_is)
  (case nisinstance=>k_is)
  (case kll=>kit_is)
  (case ktt=>kit_is)
  (case kss=>kit_is)
  (case kib=>kit_is)
#print axioms PySem.Challenge.cw_onceways_k69_words_below_a_row_holds
