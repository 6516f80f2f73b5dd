import PyProof.Rows.All
import Wide.All
import OpenK.AllK
import Wide.FinOn
import Lean
import PyProof.EqAt
import PyProof.EqKinds
import PyProof.TupleCall
import PyProof.SumAny
import PySem.Challenge.RW_onceways_k74_no_grid
set_option Elab.async false
set_option linter.all false
set_option maxRecDepth 100000
set_option maxHeartbeats 4000000
namespace L2
open PySem PySem.Spec PyProof.Rows
abbrev Key:=Sum Int Str
def UK:Key->Value->Bool
 | .inl k,v=>Value.isInt k v
 | .inr x,v=>Value.isStrOf x v
def ZbT (w:World):Key->Int
 | .inl k=>hashInt k
 | .inr x=>hashStr w x
theorem GB:∀{k:Key}{v:Value},UK k v=true->(∃i t,k=Sum.inl i/\v=Value.int i t)\/(∃x t,k=Sum.inr x/\v=Value.str x t)
 | .inl i,v,h=>by
  obtain ⟨t,e⟩:=Value.isInt_shape (k:=i) (v:=v) h;exact .inl ⟨i,t,rfl,e⟩
 | .inr x,v,h=>by
  obtain ⟨t,e⟩:=Value.isStrOf_shape (x:=x) (v:=v) h;exact .inr ⟨x,t,rfl,e⟩
theorem V3 (i:Int)(t:Tok):UK (.inl i) (.int i t)=true:=by simp [UK,Value.isInt]
theorem V4 (x:Str)(t:Tok):UK (.inr x) (.str x t)=true:=by simp [UK,Value.isStrOf]
theorem Zj (a b:Int):decide ((Sum.inl a:Key)=Sum.inl b)=(a == b):=by
 by_cases e:a=b
 ·subst e;simp
 ·have h:¬ (Sum.inl a:Key)=Sum.inl b:=λq=>e (Sum.inl.inj q);rw [decide_eq_false h];exact (beq_eq_false_iff_ne.mpr e).symm
theorem Zk (a b:Str):decide ((Sum.inr a:Key)=Sum.inr b)=decide (a=b):=by
 by_cases e:a=b
 ·subst e;simp
 ·have h:¬ (Sum.inr a:Key)=Sum.inr b:=λq=>e (Sum.inr.inj q);rw [decide_eq_false h,decide_eq_false e]
theorem Zl (a:Int)(b:Str):decide ((Sum.inl a:Key)=Sum.inr b)=false:=decide_eq_false (λq=>nomatch q)
theorem Zm (a:Str)(b:Int):decide ((Sum.inr a:Key)=Sum.inl b)=false:=decide_eq_false (λq=>nomatch q)
def Gy (prog:Program)(w:World):PySem.KeyKind prog w Key where
 is:=UK
 hash:=ZbT w
 inj:=λv a b ha hb=>by
  rcases GB ha with ⟨i,t,rfl,rfl⟩ | ⟨x,t,rfl,rfl⟩
  ·rcases GB hb with ⟨j,u,rfl,e⟩ | ⟨y,u,rfl,e⟩
   ·injection e with e1 _;rw [e1]
   ·exact nomatch e
  ·rcases GB hb with ⟨j,u,rfl,e⟩ | ⟨y,u,rfl,e⟩
   ·exact nomatch e
   ·injection e with e1 _;rw [e1]
 byValue:=λk v h=>by
  rcases GB h with ⟨i,t,rfl,rfl⟩ | ⟨x,t,rfl,rfl⟩ <;> rfl
 pyHash:=λhv h=>by
  rcases GB hv with ⟨i,t,rfl,rfl⟩ | ⟨x,t,rfl,rfl⟩
  ·exact wpAny_pyHash_int h
  ·exact wpAny_pyHash_str h
 eqBool:=λhu hv h=>by
  rcases GB hu with ⟨i,t,rfl,rfl⟩ | ⟨x,t,rfl,rfl⟩
  ·rcases GB hv with ⟨j,u,rfl,rfl⟩ | ⟨y,u,rfl,rfl⟩
   ·rw [Zj] at h;exact wpAny_eqBool_int h
   ·rw [Zl] at h;exact SeqAt.EqAt.int_str i t y u _ _ _ _ h
  ·rcases GB hv with ⟨j,u,rfl,rfl⟩ | ⟨y,u,rfl,rfl⟩
   ·rw [Zm] at h;exact SeqAt.EqAt.str_int x t j u _ _ _ _ h
   ·rw [Zk] at h;exact wpAny_eqBool_str h
 «strs»:=λk x t v h=>by
  rcases GB h with ⟨i,u,rfl,e⟩ | ⟨y,u,rfl,e⟩
  ·exact nomatch e
  ·injection e with e1 _
   subst e1;cases v <;> rfl
theorem UL (prog:Program)(w:World)(i:Int)(t:Tok):(Gy prog w).is (.inl i) (.int i t)=true:=V3 i t
theorem UM (prog:Program)(w:World)(x:Str)(t:Tok):(Gy prog w).is (.inr x) (.str x t)=true:=V4 x t
end L2
namespace L2
open PySem PySem.Spec PyProof.Rows
inductive V where
 | non | bl (b:Bool) | int (i:Int) | str (x:Str) | byt (b:Array UInt8) | flt (b:UInt64) | ref (a:Addr) | ty (n:String)
 deriving DecidableEq
def RelV:V->Value->Prop
 | .non,u=>u=Value.none
 | .bl b,u=>u=Value.bool b
 | .int i,u=>∃t,u=Value.int i t
 | .str x,u=>∃t,u=Value.str x t
 | .byt b,u=>∃t,u=Value.bytes b t
 | .flt b,u=>∃t,u=Value.float b t
 | .ref a,u=>u=Value.ref a
 | .ty n,u=>u=Value.type n
abbrev Vals:List V->List Value->Prop:=Paired RelV
theorem Vals.length {xs:List V}{us:List Value}(r:Vals xs us):xs.length=us.length:=Paired.length r
theorem Vals.get:∀{xs:List V}{us:List Value}{i:Nat}{x:V},Vals xs us->xs[i]?=some x->∃u,us[i]?=some u/\RelV x u
 | _,_,_,_,.nil,e=>by simp at e
 | _,_,0,_,.cons r _,e=>by simp at e;subst e;exact ⟨_,rfl,r⟩
 | _,_,i+1,x,.cons _ t,e=>by
  obtain ⟨u,h1,h2⟩:=Vals.get (i:=i) (x:=x) t (by simpa using e);exact ⟨u,by simpa using h1,h2⟩
theorem Vals.set {x:V}{u:Value}(r:RelV x u):∀{xs:List V}{us:List Value}(i:Nat),Vals xs us->Vals (xs.set i x) (us.set i u)
 | _,_,_,.nil=>.nil
 | _,_,0,.cons _ t=>.cons r t
 | _,_,i+1,.cons q t=>.cons q (Vals.set r i t)
theorem Vals.append:∀{xs ys:List V}{us ws:List Value},Vals xs us->Vals ys ws->Vals (xs++ys) (us++ws)
 | _,_,_,_,.nil,s=>s
 | _,_,_,_,.cons r t,s=>.cons r (Vals.append t s)
theorem Vals.take:∀{xs:List V}{us:List Value}(n:Nat),Vals xs us->Vals (xs.take n) (us.take n)
 | _,_,0,_=>.nil
 | _,_,_+1,.nil=>.nil
 | _,_,n+1,.cons r t=>.cons r (Vals.take n t)
theorem Vals.drop:∀{xs:List V}{us:List Value}(n:Nat),Vals xs us->Vals (xs.drop n) (us.drop n)
 | _,_,0,r=>r
 | _,_,_+1,.nil=>.nil
 | _,_,n+1,.cons _ t=>Vals.drop n t
def RelO:Option V->Option Value->Prop
 | some v,some u=>RelV v u
 | none,none=>True
 | _,_=>False
def KV {κ:Type}:List (κ×V)->List (κ×Value)->Prop:=Paired λ(p:κ×V) (q:κ×Value)=>p.1=q.1/\RelV p.2 q.2
def kV:Key->V
 | .inl i=>.int i
 | .inr x=>.str x
inductive HO where
  | lst (xs:List V)
  | tup (xs:List V)
  | dK (kvs:List (Key×V)) | dT (kvs:List (List Key×V))
  | set (S:Int->Bool) (n:Nat)
  | ins (C dx:Addr) (fs:List (Str×V))
  | own (x:Addr)
  | xd (fs:List (Str×V))
  | met (f x:Addr)
  | rng (lo hi:Int)
  | frz (o:Obj) (u:HO)
  | tbl (ps:Array Value)
  | ext (φ:Heap->Prop)
abbrev Hp:=Addr->Option HO
def upd (H:Hp)(a:Addr)(o:HO):Hp:=λb=>if b=a then some o else H b
theorem Gb {H:Hp}{a:Addr}{o:HO}:upd H a o a=some o:=by unfold upd;rw [if_pos rfl]
theorem Gn {H:Hp}{a b:Addr}{o:HO}(h:b≠a):upd H a o b=H b:=by unfold upd;rw [if_neg h]
theorem J9 {H:Hp}{a:Addr}{o u:HO}:upd (upd H a o) a u=upd H a u:=by
 funext b;unfold upd;split <;> rfl
theorem JZ {H:Hp}{a b:Addr}{o u:HO}(h:H a=some o)(h':H b=some u)(d:o≠u):a≠b:=by
 intro e;subst e;rw [h] at h';exact d (Option.some.inj h')
theorem Gh {H:Hp}{a b:Addr}{o:HO}(h:H a=some o)(h':H b=none):a≠b:=by
 intro e;subst e;rw [h] at h';cases h'
section
variable (P:Program)(w:World)
def ObjOk (H:Hp)(h:Heap)(a:Addr):HO->Prop
 | .lst xs=>xs.length<=sizeLine/\∃(its:List Value)(n:Nat),Vals xs its/\h.get? a=some { cls:=.type "list", data:=.seq its.toArray n }
 | .tup xs=>xs.length<=sizeLine/\∃its:List Value,Vals xs its/\IsTup h a its.toArray
 | .dK kvs=>kvs.length<=sizeLine/\(a == sysModules)=false/\∃vs,KV kvs vs/\h.DictOf (Gy P w) a vs
 | .dT kvs=>kvs.length<=sizeLine/\(a == sysModules)=false/\∃xs:List (List Key×Addr×Value),
   Paired (λ(p:List Key×V) (q:List Key×Addr×Value)=>p.1=q.1/\H q.2.1=some (.tup (p.1.map kV))/\RelV p.2 q.2.2) kvs xs /\
   ∃o es ep,h.get? a=some o/\o.ExactDict/\o.data=.dict es ep/\es.toList=xs.map (entryOfKey (tupleKind (Gy P w)))/\(xs.map (·.1)).Nodup
 | .set S n=>h.SetOf (intKind P w) a S n
 | .ins C dx fs=>H dx=some (.own a)/\fs.length<=1000/\dx≠a/\h.get? a=some (W.instObj C dx) /\
   ∃mA,h.Ns1 dx mA/\(∀f,RelO (fs.lookup f) (mA f))/\PySem.Within mA (fs.map (·.1))
 | .own _=>∃o,h.get? a=some o
 | .xd fs=>∃mA,h.Ns1 a mA/\∀f,RelO (fs.lookup f) (mA f)
 | .rng lo hi=>∃t u v,h.get? a=some { cls:=.type "range", data:=.fields #[.int lo t,.int hi u,.int 1 v] }
 | .frz o u=>h.get? a=some o/\ObjOk H h a u
 | .tbl ps=>h.get? a=some { cls:=.none,data:=.fields ps }
 | .met f x=>h.get? a=some (W.methodObj (.ref f) (.ref x))
 | .ext φ=>φ h/\(∃o,h.get? a=some o)/\∀h1 h2:Heap,φ h1->(∀o,h1.get? a=some o->h2.get? a=some o)->φ h2
def HOk (H:Hp)(h:Heap):Prop:=∀a o,H a=some o->ObjOk P w H h a o
end
section
variable {P:Program}{w:World}{H H':Hp}{h h':Heap}{a:Addr}{o:HO}
theorem ObjOk.lt (x:ObjOk P w H h a o):a<h.objs.size:=by
 cases o with
 | lst xs=>obtain ⟨_,_,_,_,e⟩:=x;exact Heap.lt_size e
 | tup xs=>obtain ⟨_,_,_,p⟩:=x;exact p.lt
 | dK kvs=>obtain ⟨_,_,_,_,o,_,_,e,_⟩:=x;exact Heap.lt_size e
 | dT kvs=>obtain ⟨_,_,_,_,o,_,_,e,_⟩:=x;exact Heap.lt_size e
 | set S n=>obtain ⟨o,_,_,_,e,_⟩:=x;exact Heap.lt_size e
 | ins C dx fs=>obtain ⟨_,_,_,e,_⟩:=x;exact Heap.lt_size e
 | own y=>obtain ⟨_,e⟩:=x;exact Heap.lt_size e
 | xd fs=>obtain ⟨_,⟨_,_,_,e,_⟩,_⟩:=x;exact Heap.lt_size e
 | rng lo hi=>obtain ⟨_,_,_,e⟩:=x;exact Heap.lt_size e
 | frz ob u=>obtain ⟨e,_⟩:=x;exact Heap.lt_size e
 | tbl ps=>exact Heap.lt_size (show h.get? a=some _ from x)
 | met f y=>exact Heap.lt_size (show h.get? a=some _ from x)
 | ext φ=>obtain ⟨_,⟨_,e⟩,_⟩:=x;exact Heap.lt_size e
theorem Paired.mapP {α β:Type}{F G:α->β->Prop}:∀{l₁:List α}{l₂:List β},Paired F l₁ l₂->(∀a b,F a b->G a b)->Paired G l₁ l₂
 | _,_,.nil,_=>.nil
 | _,_,.cons r t,f=>.cons (f _ _ r) (Paired.mapP t f)
theorem ObjOk.stay (x:ObjOk P w H h a o)(k:∀b u,(b=a\/H b=some (.own a))->h.get? b=some u->h'.get? b=some u)(ho:∀b,H b=some (.own a)->H' b=some (.own a))(ht:∀b xs,H b=some (.tup xs)->H' b=some (.tup xs)):ObjOk P w H' h' a o:=by
 induction o with
 | lst xs=>obtain ⟨z,its,n,r,e⟩:=x;exact ⟨z,its,n,r,k _ _ (.inl rfl) e⟩
 | tup xs=>obtain ⟨z,its,r,ob,e,c⟩:=x;exact ⟨z,its,r,ob,k _ _ (.inl rfl) e,c⟩
 | dK kvs=>obtain ⟨z,y,vs,r,ob,es,ep,e,c⟩:=x;exact ⟨z,y,vs,r,ob,es,ep,k _ _ (.inl rfl) e,c⟩
 | dT kvs=>
  obtain ⟨z,y,xs,r,ob,es,ep,e,c⟩:=x;exact ⟨z,y,xs,Paired.mapP r λp q z=>⟨z.1,ht _ _ z.2.1,z.2.2⟩,ob,es,ep,k _ _ (.inl rfl) e,c⟩
 | set S n=>obtain ⟨ob,es,ep,t,e,c⟩:=x;exact ⟨ob,es,ep,t,k _ _ (.inl rfl) e,c⟩
 | ins C dx fs=>
  obtain ⟨d,z,ne,e,mA,⟨od,es,ep,e2,c⟩,r⟩:=x;exact ⟨ho _ d,z,ne,k _ _ (.inl rfl) e,mA,⟨od,es,ep,k _ _ (.inr d) e2,c⟩,r⟩
 | own y=>obtain ⟨ob,e⟩:=x;exact ⟨ob,k _ _ (.inl rfl) e⟩
 | xd fs=>obtain ⟨mA,⟨od,es,ep,e,c⟩,r⟩:=x;exact ⟨mA,⟨od,es,ep,k _ _ (.inl rfl) e,c⟩,r⟩
 | rng lo hi=>obtain ⟨t,u,v,e⟩:=x;exact ⟨t,u,v,k _ _ (.inl rfl) e⟩
 | frz ob u ih=>obtain ⟨e,q⟩:=x;exact ⟨k _ _ (.inl rfl) e,ih q⟩
 | tbl ps=>
  have e:h.get? a=some { cls:=.none,data:=.fields ps }:=x;show h'.get? a=some { cls:=.none,data:=.fields ps };exact k a _ (.inl rfl) e
 | met f y=>
  have e:h.get? a=some (W.methodObj (.ref f) (.ref y)):=x;show h'.get? a=some (W.methodObj (.ref f) (.ref y));exact k a _ (.inl rfl) e
 | ext φ=>obtain ⟨p,⟨o,e⟩,st⟩:=x;exact ⟨st _ _ p λo q=>k _ _ (.inl rfl) q,⟨o,k _ _ (.inl rfl) e⟩,st⟩
theorem HOk.lt (x:HOk P w H h)(e:H a=some o):a<h.objs.size:=(x a o e).lt
theorem HOk.fresh (x:HOk P w H h)(e:h.objs.size<=a):H a=none:=by
 cases q:H a with
 | none=>rfl
 | some u=>exact absurd (Nat.lt_of_lt_of_le (x.lt q) e) (Nat.lt_irrefl _)
theorem HOk.kept (x:HOk P w H h)(k:∀b u,h.get? b=some u->h'.get? b=some u):HOk P w H h':=λa o e=>
 (x a o e).stay (λb u _ q=>k b u q) (λ_ q=>q) λ_ _ q=>q
theorem HOk.laid (x:HOk P w H h)(k:∀b u,h.get? b=some u->h'.get? b=some u)(hp:h.objs.size<=a)(new:ObjOk P w (upd H a o) h' a o):HOk P w (upd H a o) h':=λb u e=>by
 have hn:=x.fresh hp;by_cases hb:b=a
 ·subst hb;rw [Gb] at e;cases e;exact new
 ·rw [Gn hb] at e;exact (x b u e).stay (λc v _ q=>k c v q) (λc q=>by rw [Gn (Gh q hn)];exact q) λc xs q=>by rw [Gn (Gh q hn)];exact q
end
def Rd (H:Hp)(a:Addr)(u:HO):Prop:=H a=some u\/∃o,H a=some (.frz o u)
theorem Rd.ok {P:Program}{w:World}{H:Hp}{h:Heap}{a:Addr}{u:HO}(r:Rd H a u)(x:HOk P w H h):ObjOk P w H h a u:=by
 rcases r with r | ⟨o,r⟩
 ·exact x a u r
 ·obtain ⟨_,q⟩:=x a _ r;exact q
def Mut:Option HO->Prop
 | some (.lst _)=>True
 | some (.dK _)=>True
 | some (.dT _)=>True
 | some (.set _ _)=>True
 | some (.ins _ _ _)=>True
 | some (.ext _)=>True
 | _=>False
section
variable {P:Program}{w:World}{H:Hp}{h h':Heap}{x e:Addr}{o':HO}
theorem HOk.write (ok:HOk P w H h)(mu:Mut (H x))(he:e=x\/H e=some (.own x))(k:∀b u,b≠e->h.get? b=some u->h'.get? b=some u)(heo:∃u,h'.get? e=some u)(new:ObjOk P w (upd H x o') h' x o'):HOk P w (upd H x o') h':=λb u q=>by
 have nown:∀c y,H c=some (.own y)->c≠x:=λc y r z=>by subst z;rw [r] at mu;exact mu
 have ntup:∀c xs,H c=some (.tup xs)->c≠x:=λc xs r z=>by subst z;rw [r] at mu;exact mu
 by_cases hb:b=x
 ·subst hb;rw [Gb] at q;cases q;exact new
 ·rw [Gn hb] at q;by_cases hbe:b=e
  ·have q':H b=some (.own x):=by
    rcases he with z | z
    ·exact absurd (hbe.trans z) hb
    ·rw [hbe];exact z
   rw [q] at q';cases q';obtain ⟨v,hv⟩:=heo;exact ⟨v,by rw [hbe];exact hv⟩
  ·refine (ok b u q).stay (λc v hc r=>k c v ?_ r) (λc r=>by rw [Gn (nown c b r)];exact r) λc xs r=>by rw [Gn (ntup c xs r)];exact r
   rcases hc with rfl | hc
   ·exact hbe
   ·rintro rfl;rcases he with z | z
    ·exact nown c b hc z
    ·rw [hc] at z;cases z;exact hb rfl
end
structure Un (fs ex:List Addr)(H H':Hp)(h h':Heap):Prop where
 keep:∀b o,h.get? b=some o->H b=none->b ∉ fs->b ∉ ex->h'.get? b=some o
 slot:∀b o,h.get? b=some o->H b=none->b∈fs->b ∉ ex->∃sl,h'.get? b=some { o with slots:=sl }
 free:∀b o,h.get? b=some o->H b=none->b ∉ ex->H' b=none
 there:∀b o,h.get? b=some o->b ∉ ex->∃o',h'.get? b=some o'
 tups:∀b xs,H b=some (.tup xs)->H' b=some (.tup xs)
 frzs:∀b o u,H b=some (.frz o u)->H' b=some (.frz o u)
 tbls:∀b ps,H b=some (.tbl ps)->∃more,H' b=some (.tbl (ps++more))
section
variable {fs fs' ex ex':List Addr}{H H1 H2:Hp}{h h1 h2 h':Heap}{a x e:Addr}{o:HO}
theorem Un.any (u:Un fs ex H H1 h h1){b:Addr}{ob:Obj}(q:h.get? b=some ob)(n:H b=none)(hx:b ∉ ex):∃sl,h1.get? b=some { ob with slots:=sl }:=by
 by_cases hb:b∈fs
 ·exact u.slot b ob q n hb hx
 ·exact ⟨ob.slots,u.keep b ob q n hb hx⟩
theorem Un.trans (a:Un fs ex H H1 h h1)(b:Un fs ex H1 H2 h1 h2):Un fs ex H H2 h h2 where
 keep:=λc ob q n hc hx=>b.keep c ob (a.keep c ob q n hc hx) (a.free c ob q n hx) hc hx
 slot:=λc ob q n hc hx=>by
  obtain ⟨sl,e1⟩:=a.slot c ob q n hc hx;obtain ⟨sl',e2⟩:=b.slot c _ e1 (a.free c ob q n hx) hc hx;exact ⟨sl',e2⟩
 free:=λc ob q n hx=>by
  obtain ⟨o',e1⟩:=a.there c ob q hx;exact b.free c o' e1 (a.free c ob q n hx) hx
 there:=λc ob q hx=>by
  obtain ⟨o',e1⟩:=a.there c ob q hx;exact b.there c o' e1 hx
 tups:=λc xs q=>b.tups c xs (a.tups c xs q)
 frzs:=λc ob xs q=>b.frzs c ob xs (a.frzs c ob xs q)
 tbls:=λc ps q=>by
  obtain ⟨m1,e1⟩:=a.tbls c ps q;obtain ⟨m2,e2⟩:=b.tbls c _ e1;exact ⟨m1++m2,by rw [e2,Array.append_assoc]⟩
theorem Un.kept (k:∀b u,h.get? b=some u->h'.get? b=some u):Un fs ex H H h h':=
 ⟨λb ob q _ _ _=>k b ob q,λb ob q _ _ _=>⟨ob.slots,k b ob q⟩,λ_ _ _ n _=>n,λb ob q _=>⟨ob,k b ob q⟩,λ_ _ q=>q,λ_ _ _ q=>q,λ_ ps q=>⟨#[],by rw [q];simp⟩⟩
theorem Un.refl:Un fs ex H H h h:=Un.kept λ_ _ q=>q
theorem Un.laid (k:∀b u,h.get? b=some u->h'.get? b=some u)(hp:h.objs.size<=a)(hn:H a=none):Un fs ex H (upd H a o) h h' where
 keep:=λb u q _ _ _=>k b u q
 slot:=λb u q _ _ _=>⟨u.slots,k b u q⟩
 free:=λb u q n _=>by rw [Gn (Nat.ne_of_lt (Nat.lt_of_lt_of_le (Heap.lt_size q) hp))];exact n
 there:=λb u q _=>⟨u,k b u q⟩
 tups:=λb xs q=>by rw [Gn (Gh q hn)];exact q
 frzs:=λb u xs q=>by rw [Gn (Gh q hn)];exact q
 tbls:=λb ps q=>⟨#[],by rw [Gn (Gh q hn),q];simp⟩
theorem Un.write (mu:Mut (H x))(he:e=x\/H e=some (.own x))(k:∀b u,b≠e->h.get? b=some u->h'.get? b=some u)(heo:∃u,h'.get? e=some u):Un fs ex H (upd H x o) h h':=by
 have hx:∀b,H b=none->b≠x:=λb n z=>by subst z;rw [n] at mu;exact mu
 have hb:∀b,H b=none->b≠e:=λb n z=>by
  subst z;rcases he with r | r
  ·exact hx b n r
  ·rw [n] at r;cases r
 have hm:∀b u,H b=some u->¬ Mut (some u)->b≠x:=λb u q nm z=>by subst z;rw [q] at mu;exact nm mu
 refine ⟨λb u q n _ _=>k b u (hb b n) q,λb u q n _ _=>⟨u.slots,k b u (hb b n) q⟩,λb u q n _=>by rw [Gn (hx b n)];exact n,λb u q _=>?_,
  λb xs q=>by rw [Gn (hm b _ q λz=>z)];exact q,λb u xs q=>by rw [Gn (hm b _ q λz=>z)];exact q,λb ps q=>⟨#[],by rw [Gn (hm b _ q λz=>z),q];simp⟩⟩
 by_cases hbe:b=e
 ·subst hbe;exact heo
 ·exact ⟨u,k b u hbe q⟩
theorem Un.mono (u:Un fs ex H H1 h h1)(hs:∀b∈fs,b∈fs')(hx:∀b∈ex,b∈ex'):Un fs' ex' H H1 h h1:=
 ⟨λb ob q n hb he=>u.keep b ob q n (λz=>hb (hs b z)) λz=>he (hx b z),λ_ _ q n _ he=>u.any q n λz=>he (hx _ z),λb ob q n he=>u.free b ob q n λz=>he (hx b z),λb ob q he=>u.there b ob q λz=>he (hx b z),u.tups,u.frzs,u.tbls⟩
end
def trk (h:Heap)(H:Hp):List Addr:=(List.range h.objs.size).filter λa=>(H a).isSome
def Xl (h:Heap)(H:Hp):Heap:=W.hideAll h (trk h H)
theorem V5 (h:Heap)(H:Hp):(Xl h H).objs.size=h.objs.size:=W.hideAll_size _ _
theorem Xm {h:Heap}{H:Hp}{b:Addr}{o:Obj}(e:h.get? b=some o)(n:H b=none):(Xl h H).get? b=some o:=
 W.hideAll_get _ e λhm=>by
  have q:(H b).isSome=true:=(List.mem_filter.mp hm).2;rw [n] at q;simp at q
theorem Yy {h:Heap}{H:Hp}{b:Addr}{o:Obj}(e:(Xl h H).get? b=some o):h.get? b=some o/\H b=none:=by
 have e':h.get? b=some o:=W.of_hideAll (trk h H) e;refine ⟨e',?_⟩;cases q:H b with
 | none=>rfl
 | some x=>
  have hm:b∈trk h H:=List.mem_filter.mpr ⟨List.mem_range.mpr (Heap.lt_size e'),by simp [q]⟩;have z:(Xl h H).get? b=none:=W.hideAll_none (trk h H) hm;rw [z] at e;cases e
end L2
namespace L2
open PySem PySem.Spec PyProof.Rows
structure Mod (K:W.Frag)(mg:Str->Option Value)(base:Heap):Prop where
 kin:K.In base
 glob:base.Ns mainGlobals mg
 blt:∃mb,base.Ns builtinsNs mb/\∀x:Str,x ≠ "__name__" -> mb x=bootBuiltins x
 nolimit:base.NoLimit
structure Cx where
 prog:Program
 w:World
 K:W.Frag
 mg:Str->Option Value
 base:Heap
 A:Around
 N:List Str
 s₀:Shared
 H₀:Hp
 env:Env
 outer:List Env
 stack:List Env
 ex:List Addr
 fn:Str->Bool
 calm:Bool
 pn:List (Addr×Obj)
 xe:Value->Shared->Prop
def frs (l:List Env):List Addr:=l.filterMap (·.frame)
abbrev Cx.fs (X:Cx):List Addr:=frs X.outer
def Vis (sc:Scope)(x:Str):Prop:=sc.names.lookup x=some .local\/sc.names.lookup x=some .cell\/sc.names.lookup x=some .free
def Loc (sc:Scope)(x:Str):Prop:=sc.names.lookup x=some .local\/sc.names.lookup x=some .cell
def ZbU (env:Env)(h:Heap)(m:Str->Option Value)(x:Str)(u:Value):Prop:=
 (env.kindOf x=some .local/\m x=some u)\/((env.kindOf x=some .cell\/env.kindOf x=some .free)/\∃c,env.cells.lookup x=some c/\h.IsCell c (some u))
structure Cx.Ok (X:Cx):Prop where
 mod:Mod X.K X.mg X.base
 kind:X.env.scope.kind=.function
 glob:X.env.globals=mainGlobals
 blt:X.env.builtins=builtinsNs
 above:X.s₀.heap.objs.size<=X.env.locals
 inj:∀x y c,X.env.cells.lookup x=some c->X.env.cells.lookup y=some c->x=y
 has:∀x,(X.env.kindOf x=some .cell\/X.env.kindOf x=some .free)->∃c,X.env.cells.lookup x=some c
 cab:∀x c,X.fn x=true->X.env.cells.lookup x=some c->X.s₀.heap.objs.size<=c
 hd:X.calm=true->X.A.handled=none
 frames:X.A.frames=some X.stack
 stk:X.stack=X.outer\/(X.stack=X.env::X.outer/\X.env.frame=some X.env.locals)
 exf:∀b∈X.ex,b≠X.env.locals/\∀x c,X.env.cells.lookup x=some c->c≠b
 bs:∀b o,X.base.get? b=some o->X.s₀.heap.get? b=some o/\X.H₀ b=none
 bsz:X.base.objs.size<=X.s₀.heap.objs.size
 noex:∀b o,X.base.get? b=some o->b ∉ X.ex
 exfs:∀b∈X.ex,b ∉ X.fs
 funs:X.s₀.heap.FunFrames X.base X.outer
 frf:∀b∈X.fs,X.H₀ b=none
structure Inv (X:Cx)(qQ:List (Addr×Obj))(σ:List (Option V))(H:Hp)(s:Shared):Prop where
 ok:X.Ok
 os:s.os=X.s₀.os
 bare:AllBare s.gens
 base:Un X.fs X.ex X.H₀ H X.s₀.heap s.heap
 loc:∃m,s.heap.Ns X.env.locals m/\∀(i:Nat)(x:Str)(v:V),X.N[i]?=some x->σ[i]?=some (some v)->Vis X.env.scope x->∃u,RelV v u/\ZbU X.env s.heap m x u
 cell:∀x c,X.env.cells.lookup x=some c->∃v,s.heap.IsCell c v
 free:H X.env.locals=none
 freeC:∀x c,X.env.cells.lookup x=some c->H c=none
 pin:∀p∈X.pn++qQ,s.heap.get? p.1=some p.2/\H p.1=none/\p.1≠X.env.locals/\p.1 ∉ X.fs/\∀v,p.2.data≠.cell v
 hok:HOk X.prog X.w H s.heap
 len:σ.length=X.N.length
section
variable {X:Cx}{qQ:List (Addr×Obj)}{σ:List (Option V)}{H H':Hp}{s:Shared}{h':Heap}
theorem Cx.Ok.nofr (ok:X.Ok){b:Addr}{o:Obj}(e:X.base.get? b=some o):b ∉ X.fs:=λhb=>by
 have:=(ok.funs.mem hb).1;rw [e] at this;cases this
theorem Inv.bs (I:Inv X qQ σ H s):∀b o,X.base.get? b=some o->s.heap.get? b=some o/\H b=none:=λb o e=>
 ⟨I.base.keep b o (I.ok.bs b o e).1 (I.ok.bs b o e).2 (I.ok.nofr e) (I.ok.noex b o e),I.base.free b o (I.ok.bs b o e).1 (I.ok.bs b o e).2 (I.ok.noex b o e)⟩
theorem Inv.bk (I:Inv X qQ σ H s):∀b o,X.base.get? b=some o->s.heap.get? b=some o:=λb o e=>(I.bs b o e).1
theorem Inv.mod (I:Inv X qQ σ H s):Mod X.K X.mg X.base:=I.ok.mod
theorem Inv.kIn (I:Inv X qQ σ H s):X.K.In s.heap:=I.ok.mod.kin.keeps I.bk
theorem Inv.lt (I:Inv X qQ σ H s):X.env.locals<s.heap.objs.size:=let ⟨_,hn,_⟩:=I.loc;hn.lt
theorem Inv.sz (I:Inv X qQ σ H s):X.s₀.heap.objs.size<=s.heap.objs.size:=Nat.le_trans I.ok.above (Nat.le_of_lt I.lt)
theorem Inv.nofs (I:Inv X qQ σ H s){a:Addr}(h:s.heap.objs.size<=a):a ∉ X.fs:=λhb=>by
 obtain ⟨_,o,ho,_⟩:=I.ok.funs.mem hb;exact absurd (Nat.lt_of_lt_of_le (Heap.lt_size ho) (Nat.le_trans I.sz h)) (Nat.lt_irrefl _)
theorem Inv.cne (I:Inv X qQ σ H s):∀x c,X.env.cells.lookup x=some c->c≠X.env.locals:=λx c e z=>by
 obtain ⟨v,o,ho,hd⟩:=I.cell x c e;obtain ⟨m,⟨o',es,ep,ho',hd',_⟩,_⟩:=I.loc;rw [z,ho'] at ho;cases ho;rw [hd'] at hd;cases hd
theorem Inv.funs (I:Inv X qQ σ H s):s.heap.FunFrames X.base X.outer:=by
 have all:∀(l:List Env),(∀b∈frs l,b∈X.fs)->X.s₀.heap.FunFrames X.base l->s.heap.FunFrames X.base l:=by
  intro l
  induction l with
  | nil=>intro _ _;trivial
  | cons env r ih=>
   intro hs hl;obtain ⟨hk,⟨L,o,hf,hn,ho,hd⟩,hr⟩:=hl;have hL:L∈X.fs:=hs L (by unfold frs;rw [List.filterMap_cons,hf];exact List.mem_cons_self);obtain ⟨sl,e⟩:=I.base.slot L o ho (I.ok.frf L hL) hL λz=>I.ok.exfs L z hL;exact ⟨hk,⟨L,_,hf,hn,e,hd⟩,ih (λb hb=>hs b (by unfold frs;rw [List.filterMap_cons,hf];exact List.mem_cons_of_mem _ hb)) hr⟩
 exact all X.outer (λ_ hb=>hb) I.ok.funs
theorem Inv.stack (I:Inv X qQ σ H s):s.heap.FunFrames X.base X.stack:=by
 rcases I.ok.stk with e | ⟨e,hf⟩
 ·rw [e];exact I.funs
 ·rw [e];obtain ⟨m,hn,_⟩:=I.loc;refine .cons (by rw [I.ok.kind];decide) hf hn ?_ I.funs;exact Heap.get?_none_of_le (Nat.le_trans I.ok.bsz I.ok.above)
theorem Inv.stkSub (I:Inv X qQ σ H s):∀b∈frs X.stack,b∈X.env.locals::X.fs:=λb hb=>by
 rcases I.ok.stk with e | ⟨e,hf⟩
 ·rw [e] at hb;exact List.mem_cons_of_mem _ hb
 ·rw [e] at hb;unfold frs at hb;rw [List.filterMap_cons,hf] at hb;exact hb
theorem Inv.stkFree (I:Inv X qQ σ H s):∀b∈frs X.stack,H b=none:=λb hb=>by
 rcases List.mem_cons.mp (I.stkSub b hb) with e | hb
 ·rw [e];exact I.free
 ·obtain ⟨_,o,ho,_⟩:=I.ok.funs.mem hb;exact I.base.free b o ho (I.ok.frf b hb) λz=>I.ok.exfs b z hb
theorem Inv.step {g':Array GenState}{t':Nat}{d':Drawn}{ch:List Addr}(I:Inv X qQ σ H s)(hch:∀b∈ch,(b∈X.ex\/X.s₀.heap.objs.size<=b)/\b≠X.env.locals/\(∀x c,X.env.cells.lookup x=some c->c≠b)/\∀p∈X.pn++qQ,p.1≠b)(keep:∀b o,b≠X.env.locals->b ∉ X.fs->b ∉ ch->s.heap.get? b=some o->H b=none->h'.get? b=some o)(slot:∀b o,b≠X.env.locals->b∈X.fs->b ∉ ch->s.heap.get? b=some o->H b=none->∃sl,h'.get? b=some { o with slots:=sl })(free:∀b o,b ∉ ch->s.heap.get? b=some o->H b=none->H' b=none)(there:∀b o,b ∉ ch->s.heap.get? b=some o->∃o',h'.get? b=some o')(tups:∀b xs,H b=some (.tup xs)->H' b=some (.tup xs))(frzs:∀b o u,H b=some (.frz o u)->H' b=some (.frz o u))(tbls:∀b ps,H b=some (.tbl ps)->∃more,H' b=some (.tbl (ps++more)))(ns:∀m,s.heap.Ns X.env.locals m->h'.Ns X.env.locals m)(hok:HOk X.prog X.w H' h')(hg:AllBare g') :
  Inv X qQ σ H' { s with heap:=h',gens:=g',drawn:=d',toks:=t' }:=by
 have neL:∀b o,X.s₀.heap.get? b=some o->b≠X.env.locals:=λb o e=>Nat.ne_of_lt (Nat.lt_of_lt_of_le (Heap.lt_size e) I.ok.above);have neC:∀b o,X.s₀.heap.get? b=some o->b ∉ X.ex->b ∉ ch:=λb o e hx hb=>by
  rcases (hch b hb).1 with z | z
  ·exact hx z
  ·exact absurd (Nat.lt_of_lt_of_le (Heap.lt_size e) z) (Nat.lt_irrefl _)
 have cellK:∀x c,X.env.cells.lookup x=some c->∀v,s.heap.IsCell c v->h'.IsCell c v:=λx c e v ⟨o,ho,hd⟩=>by
  have nch:c ∉ ch:=λz=>(hch c z).2.2.1 x c e rfl;by_cases hc:c∈X.fs
  ·obtain ⟨sl,q⟩:=slot c o (I.cne x c e) hc nch ho (I.freeC x c e);exact ⟨_,q,hd⟩
  ·exact ⟨o,keep c o (I.cne x c e) hc nch ho (I.freeC x c e),hd⟩
 refine ⟨I.ok,I.os,hg,⟨λb o e n hb hx=>?_,λb o e n hb hx=>?_,λb o e n hx=>?_,λb o e hx=>?_,λb xs e=>tups b xs (I.base.tups b xs e),λb o xs e=>frzs b o xs (I.base.frzs b o xs e),λb ps e=>?_⟩,?_,λx c e=>?_,?_,λx c e=>?_,λp hp=>?_,hok,I.len⟩
 ·exact keep b o (neL b o e) hb (neC b o e hx) (I.base.keep b o e n hb hx) (I.base.free b o e n hx)
 ·obtain ⟨sl,e1⟩:=I.base.slot b o e n hb hx;obtain ⟨sl',e2⟩:=slot b _ (neL b o e) hb (neC b o e hx) e1 (I.base.free b o e n hx);exact ⟨sl',e2⟩
 ·obtain ⟨o',e1⟩:=I.base.there b o e hx;exact free b o' (neC b o e hx) e1 (I.base.free b o e n hx)
 ·obtain ⟨o',e1⟩:=I.base.there b o e hx;exact there b o' (neC b o e hx) e1
 ·obtain ⟨m1,e1⟩:=I.base.tbls b ps e;obtain ⟨m2,e2⟩:=tbls b _ e1;exact ⟨m1++m2,by rw [e2,Array.append_assoc]⟩
 ·obtain ⟨m,hn,hl⟩:=I.loc;refine ⟨m,ns m hn,λi x v e1 e2 e3=>?_⟩;obtain ⟨u,r,l⟩:=hl i x v e1 e2 e3;refine ⟨u,r,?_⟩;rcases l with l | ⟨k,c,e,z⟩
  ·exact .inl l
  ·exact .inr ⟨k,c,e,cellK x c e _ z⟩
 ·obtain ⟨v,z⟩:=I.cell x c e;exact ⟨v,cellK x c e v z⟩
 ·obtain ⟨m,⟨o,_,_,ho,_⟩,_⟩:=I.loc;exact free _ o (λz=>(hch _ z).2.1 rfl) ho I.free
 ·obtain ⟨v,o,ho,hd⟩:=I.cell x c e;exact free c o (λz=>(hch c z).2.2.1 x c e rfl) ho (I.freeC x c e)
 ·obtain ⟨e,n,ne,nf,d⟩:=I.pin p hp;have nch:p.1 ∉ ch:=λz=>(hch p.1 z).2.2.2 p hp rfl;exact ⟨keep p.1 p.2 ne nf nch e n,free p.1 p.2 nch e n,ne,nf,d⟩
theorem Inv.un {t':Nat}(I:Inv X qQ σ H s)(u:Un X.fs [] H H' s.heap h')(hok:HOk X.prog X.w H' h'):Inv X qQ σ H' { s with heap:=h',toks:=t' }:=by
 obtain ⟨m,⟨o,es,ep,ho,r⟩,_⟩:=id I.loc;obtain ⟨sl,hL⟩:=u.any ho I.free (by simp);exact I.step (g':=s.gens) (d':=s.drawn) (ch:=[]) (λ_ z=>nomatch z) (λb o _ hb _ e n=>u.keep b o e n hb (by simp)) (λb o _ hb _ e n=>u.slot b o e n hb (by simp)) (λb o _ e n=>u.free b o e n (by simp)) (λb o _ e=>u.there b o e (by simp)) u.tups u.frzs u.tbls (λm' hm=>by
  obtain ⟨o',es',ep',ho',r'⟩:=hm;rw [ho] at ho';cases ho';exact ⟨_,es',ep',hL,r'⟩) hok I.bare
theorem Inv.call {g':Array GenState}{t':Nat}{d':Drawn}{ch:List Addr}(I:Inv X qQ σ H s)(u:Un (frs X.stack) ch H H' s.heap h')(hok:HOk X.prog X.w H' h')(hg:AllBare g')(hch:∀b∈ch,(b∈X.ex\/X.s₀.heap.objs.size<=b)/\b≠X.env.locals/\(∀x c,X.env.cells.lookup x=some c->c≠b)/\∀p∈X.pn++qQ,p.1≠b) :
  Inv X qQ σ H' { s with heap:=h',gens:=g',drawn:=d',toks:=t' }:=by
 obtain ⟨m,⟨o,es,ep,ho,r⟩,_⟩:=id I.loc;obtain ⟨sl,hL⟩:=u.any ho I.free λz=>(hch _ z).2.1 rfl;exact I.step (ch:=ch) hch (λb o hL hb hc e n=>u.keep b o e n (λz=>(List.mem_cons.mp (I.stkSub b z)).elim hL hb) hc) (λb o _ _ hc e n=>u.any e n hc) (λb o hc e n=>u.free b o e n hc) (λb o hc e=>u.there b o e hc) u.tups u.frzs u.tbls (λm' hm=>by
  obtain ⟨o',es',ep',ho',r'⟩:=hm;rw [ho] at ho';cases ho';exact ⟨_,es',ep',hL,r'⟩) hok hg
theorem Inv.turned {t':Nat}{it:Addr}(I:Inv X qQ σ H s)(k:∀b o,b≠it->s.heap.get? b=some o->h'.get? b=some o)(hn:H it=none)(hL:it≠X.env.locals)(h1:it∈X.ex\/X.s₀.heap.objs.size<=it)(h2:∀x c,X.env.cells.lookup x=some c->c≠it)(h3:∀p∈X.pn++qQ,p.1≠it):Inv X qQ σ H { s with heap:=h',toks:=t' }:=by
 have nit:∀b u,H b=some u->b≠it:=λb u e z=>by rw [z,hn] at e;cases e
 refine I.step (g':=s.gens) (d':=s.drawn) (ch:=[it]) (λb hb=>?_) (λb o _ _ hc e _=>k b o (λz=>hc (by simp [z])) e) (λb o _ _ hc e _=>⟨o.slots,k b o (λz=>hc (by simp [z])) e⟩) (λ_ _ _ _ n=>n)
  (λb o hc e=>⟨o,k b o (λz=>hc (by simp [z])) e⟩) (λ_ _ e=>e) (λ_ _ _ e=>e) (λb ps e=>⟨#[],by rw [e];simp⟩) (λm hm=>?_) (λb u e=>?_) I.bare
 ·have e:b=it:=by simpa using hb
  subst e;exact ⟨h1,hL,h2,h3⟩
 ·obtain ⟨o,es,ep,ho,r⟩:=hm;exact ⟨o,es,ep,k _ o (Ne.symm hL) ho,r⟩
 ·refine (I.hok b u e).stay (λc v hc q=>k c v ?_ q) (λ_ q=>q) λ_ _ q=>q;rcases hc with z | z
  ·rw [z];exact nit b u e
  ·exact nit c _ z
theorem Inv.tok (I:Inv X qQ σ H s)(t:Nat):Inv X qQ σ H { s with toks:=t }:=I.un (h':=s.heap) (t':=t) Un.refl I.hok
theorem Inv.kept {t':Nat}(I:Inv X qQ σ H s)(k:∀b u,s.heap.get? b=some u->h'.get? b=some u):Inv X qQ σ H { s with heap:=h',toks:=t' }:=I.un (Un.kept k) (I.hok.kept k)
theorem Inv.laid {a:Addr}{o:HO}{t':Nat}(I:Inv X qQ σ H s)(k:∀b u,s.heap.get? b=some u->h'.get? b=some u)(hp:s.heap.objs.size<=a)(new:ObjOk X.prog X.w (upd H a o) h' a o) :
  Inv X qQ σ (upd H a o) { s with heap:=h',toks:=t' }:=I.un (Un.laid k hp (I.hok.fresh hp)) (I.hok.laid k hp new)
theorem Inv.write {x e:Addr}{o:HO}{t':Nat}(I:Inv X qQ σ H s)(mu:Mut (H x))(he:e=x\/H e=some (.own x))(k:∀b u,b≠e->s.heap.get? b=some u->h'.get? b=some u)(heo:∃u,h'.get? e=some u)(new:ObjOk X.prog X.w (upd H x o) h' x o):Inv X qQ σ (upd H x o) { s with heap:=h',toks:=t' }:=I.un (Un.write mu he k heo) (I.hok.write mu he k heo new)
theorem Inv.weak {σ':List (Option V)}(I:Inv X qQ σ H s)(hl:σ'.length=σ.length)(w:∀(i:Nat) v,σ'[i]?=some (some v)->σ[i]?=some (some v)):Inv X qQ σ' H s:=
 ⟨I.ok,I.os,I.bare,I.base,let ⟨m,hn,hl'⟩:=I.loc;⟨m,hn,λi x v e1 e2 e3=>hl' i x v e1 (w i v e2) e3⟩,I.cell,I.free,I.freeC,I.pin,I.hok,hl.trans I.len⟩
theorem Inv.pins_of {pins':List (Addr×Obj)}(I:Inv X qQ σ H s)(h:∀p∈pins',s.heap.get? p.1=some p.2/\H p.1=none/\p.1≠X.env.locals/\p.1 ∉ X.fs/\∀v,p.2.data≠.cell v):Inv X pins' σ H s:=
 ⟨I.ok,I.os,I.bare,I.base,I.loc,I.cell,I.free,I.freeC,λp hp=>(List.mem_append.mp hp).elim (λz=>I.pin p (List.mem_append_left _ z)) (h p),I.hok,I.len⟩
theorem OJ {N:List Str}(hN:N.Nodup){i j:Nat}{x:Str}(a:N[i]?=some x)(b:N[j]?=some x):i=j:=by
 obtain ⟨h1,e1⟩:=List.getElem?_eq_some_iff.mp a;obtain ⟨h2,e2⟩:=List.getElem?_eq_some_iff.mp b;exact (List.getElem_inj hN).mp (e1.trans e2.symm)
theorem O9 {M:Model}{A:Around}{E:Value->Shared->Prop}{i:Nat}{x:Str}{v:V}{u:Value}{Q:Unit->Shared->Prop}(I:Inv X qQ σ H s)(hN:X.N.Nodup)(hi:X.N[i]?=some x)(hx:Loc X.env.scope x)(r:RelV v u)(h:∀s',Inv X qQ (σ.set i (some v)) H s'->(∃a,Heap.SameBut a s.heap s'.heap/\(a=X.env.locals\/X.env.cells.lookup x=some a))->Q () s')(hf:X.fn x=true\/X.env.scope.names.lookup x=some .local:=by first | exact .inl rfl | exact .inr rfl | assumption):wpAny M A (storeName X.env x u) Q E s:=by
 obtain ⟨m,hn,hl⟩:=id I.loc;have hcls:(X.env.scope.kind == .class || (X.env.scope.kind == .module && X.env.locals != X.env.globals))=false:=by rw [I.ok.kind];rfl
 have hiσ:i<σ.length:=by rw [I.len];exact (List.getElem?_eq_some_iff.mp hi).1
 have cne:=I.cne;have tracked:∀{a:Addr}{h':Heap},(∃o,s.heap.get? a=some o/\H a=none)->Heap.SameBut a s.heap h'->HOk X.prog X.w H h':=λ{a h'} ha hs b ob e=>by
  obtain ⟨_,_,hfree⟩:=ha;refine (I.hok b ob e).stay (λc w' hc q=>(hs.2 c ?_).trans q) (λ_ q=>q) λ_ _ q=>q;rintro rfl;rcases hc with rfl | hc
  ·rw [hfree] at e;cases e
  ·rw [hfree] at hc;cases hc
 rcases hx with hk | hk
 ·refine wpAny_storeName_local hk hn (λh' hn' hs=>?_) hcls;obtain ⟨oL,_,_,hoL,_⟩:=id hn;refine h _ ⟨I.ok,I.os,I.bare,⟨λb o e n hb hx=>?_,λb o e n hb hx=>?_,I.base.free,λb o e hx=>?_,I.base.tups,I.base.frzs,I.base.tbls⟩,⟨_,hn',λj y v' e1 e2 e3=>?_⟩,λy c e=>?_,I.free,I.freeC,λp hp=>?_,tracked ⟨oL,hoL,I.free⟩ hs,by simpa using I.len⟩ ⟨_,hs,.inl rfl⟩
  ·exact (hs.2 b (Nat.ne_of_lt (Nat.lt_of_lt_of_le (Heap.lt_size e) I.ok.above))).trans (I.base.keep b o e n hb hx)
  ·obtain ⟨sl,e1⟩:=I.base.slot b o e n hb hx;exact ⟨sl,(hs.2 b (Nat.ne_of_lt (Nat.lt_of_lt_of_le (Heap.lt_size e) I.ok.above))).trans e1⟩
  ·obtain ⟨o',e1⟩:=I.base.there b o e hx;exact ⟨o',(hs.2 b (Nat.ne_of_lt (Nat.lt_of_lt_of_le (Heap.lt_size e) I.ok.above))).trans e1⟩
  ·by_cases hj:j=i
   ·subst hj;rw [hi] at e1;cases e1;rw [List.getElem?_set_self hiσ] at e2;cases e2;exact ⟨u,r,.inl ⟨hk,by simp⟩⟩
   ·rw [List.getElem?_set_ne (Ne.symm hj)] at e2;obtain ⟨u',r',q⟩:=hl j y v' e1 e2 e3;refine ⟨u',r',?_⟩;rcases q with ⟨k,e⟩ | ⟨k,c,e,z⟩
    ·refine .inl ⟨k,?_⟩;have:y≠x:=λe=>hj (OJ hN e1 (e▸hi));simp [this,e]
    ·exact .inr ⟨k,c,e,z.sameBut hs (cne y c e)⟩
  ·obtain ⟨w',z⟩:=I.cell y c e;exact ⟨w',z.sameBut hs (cne y c e)⟩
  ·obtain ⟨e,n,ne,nf,d⟩:=I.pin p hp;exact ⟨(hs.2 p.1 ne).trans e,n,ne,nf,d⟩
 ·have hfn:X.fn x=true:=by
   rcases hf with z | z
   ·exact z
   ·rw [z] at hk;cases hk
  obtain ⟨c,hc⟩:=I.ok.has x (.inl hk);obtain ⟨w',z⟩:=I.cell x c hc;refine wpAny_storeName_cell I.ok.kind hk hc z (λh' hc' hs=>?_);obtain ⟨oc,hoc,hocd⟩:=id z;refine h { s with heap:=h' } ⟨I.ok,I.os,I.bare,⟨λb o e n hb hx=>?_,λb o e n hb hx=>?_,I.base.free,λb o e hx=>?_,I.base.tups,I.base.frzs,I.base.tbls⟩,⟨m,hn.sameBut hs (Ne.symm (cne x c hc)),λj y v' e1 e2 e3=>?_⟩,λy c' e=>?_,I.free,I.freeC,λp hp=>?_,tracked ⟨oc,hoc,I.freeC x c hc⟩ hs,by simpa using I.len⟩ ⟨c,hs,.inr hc⟩
  ·exact (hs.2 b (Nat.ne_of_lt (Nat.lt_of_lt_of_le (Heap.lt_size e) (I.ok.cab x c hfn hc)))).trans (I.base.keep b o e n hb hx)
  ·obtain ⟨sl,e1⟩:=I.base.slot b o e n hb hx;exact ⟨sl,(hs.2 b (Nat.ne_of_lt (Nat.lt_of_lt_of_le (Heap.lt_size e) (I.ok.cab x c hfn hc)))).trans e1⟩
  ·obtain ⟨o',e1⟩:=I.base.there b o e hx;exact ⟨o',(hs.2 b (Nat.ne_of_lt (Nat.lt_of_lt_of_le (Heap.lt_size e) (I.ok.cab x c hfn hc)))).trans e1⟩
  ·by_cases hj:j=i
   ·subst hj;rw [hi] at e1;cases e1;rw [List.getElem?_set_self hiσ] at e2;cases e2;exact ⟨u,r,.inr ⟨.inl hk,c,hc,hc'⟩⟩
   ·rw [List.getElem?_set_ne (Ne.symm hj)] at e2;obtain ⟨u',r',q⟩:=hl j y v' e1 e2 e3;refine ⟨u',r',?_⟩;rcases q with q | ⟨k,c',e,z'⟩
    ·exact .inl q
    ·refine .inr ⟨k,c',e,z'.sameBut hs ?_⟩;rintro rfl;exact hj (OJ hN e1 (I.ok.inj _ _ _ e hc▸hi))
  ·by_cases hcc:c'=c
   ·subst hcc;exact ⟨_,hc'⟩
   ·obtain ⟨w2,z2⟩:=I.cell y c' e;exact ⟨w2,z2.sameBut hs hcc⟩
  ·obtain ⟨e,n,ne,nf,d⟩:=I.pin p hp;refine ⟨(hs.2 p.1 ?_).trans e,n,ne,nf,d⟩;intro q;rw [q,hoc] at e;have q':oc=p.2:=Option.some.inj e;exact d w' (by rw [<-q'];exact hocd)
theorem OK {M:Model}{A:Around}{E:Value->Shared->Prop}{i:Nat}{x:Str}{v:V}{u:Value}{Q:Unit->Shared->Prop}(I:Inv X qQ σ H s)(hN:X.N.Nodup)(hi:X.N[i]?=some x)(hx:Loc X.env.scope x)(r:RelV v u)(h:∀s',Inv X qQ (σ.set i (some v)) H s'->Q () s')(hf:X.fn x=true\/X.env.scope.names.lookup x=some .local:=by first | exact .inl rfl | exact .inr rfl | assumption):wpAny M A (storeName X.env x u) Q E s:=
 O9 I hN hi hx r (λs' I' _=>h s' I') hf
theorem Inv.call' {s':Shared}{ch:List Addr}(I:Inv X qQ σ H s)(ho:s'.os=s.os)(u:Un (frs X.stack) ch H H' s.heap s'.heap)(hok:HOk X.prog X.w H' s'.heap)(hg:AllBare s'.gens)(hch:∀b∈ch,(b∈X.ex\/X.s₀.heap.objs.size<=b)/\b≠X.env.locals/\(∀x c,X.env.cells.lookup x=some c->c≠b)/\∀p∈X.pn++qQ,p.1≠b):Inv X qQ σ H' s':=by
 obtain ⟨h',g',d',t',o'⟩:=s';have e:o'=s.os:=ho;subst e;exact I.call (g':=g') (t':=t') (d':=d') u hok hg hch
end
abbrev XK:=Value->Option Addr->Hp->Prop
abbrev St:=List (Option V)
abbrev VK:=V->Hp->Prop
abbrev TE:=St->Hp->VK->Prop
abbrev TT:=St->Hp->(Bool->Hp->Prop)->Prop
abbrev TA:=St->Hp->(List V->Hp->Prop)->Prop
structure VI where
 nx:St->Hp->Prop
 rt:VK
 bk:St->Hp->Prop:=λ_ _=>False
 ct:St->Hp->Prop:=λ_ _=>False
abbrev TS:=VI->St->Hp->Prop
def EP (X:Cx)(qQ:List (Addr×Obj))(σ:St)(Q:VK)(u:Value)(s':Shared):Prop:=∃v H',Inv X qQ σ H' s'/\RelV v u/\Q v H'
def TP (X:Cx)(qQ:List (Addr×Obj))(σ:St)(Q:Bool->Hp->Prop)(b:Bool)(s':Shared):Prop:=∃H',Inv X qQ σ H' s'/\Q b H'
def AP (X:Cx)(qQ:List (Addr×Obj))(σ:St)(Q:List V->Hp->Prop)(us:List Value)(s':Shared):Prop:=∃vs H',Inv X qQ σ H' s'/\Vals vs us/\Q vs H'
def SP (X:Cx)(qQ:List (Addr×Obj))(D:VI)(f:Flow)(s':Shared):Prop:=
 match f with
 | .next=>∃ σ' H',Inv X qQ σ' H' s'/\D.nx σ' H'
 | .brk=>∃ σ' H',Inv X qQ σ' H' s'/\D.bk σ' H'
 | .cont=>∃ σ' H',Inv X qQ σ' H' s'/\D.ct σ' H'
 | .ret u=>∃v σ' H',Inv X qQ σ' H' s'/\RelV v u/\D.rt v H'
def PE (X:Cx)(e:Expr)(t:TE):Prop:=
 ∀(qQ:List (Addr×Obj))(s:Shared)(σ:St)(H:Hp)(Q:VK),Inv X qQ σ H s->t σ H Q->wpAny (model X.prog X.w) X.A (eval e X.env) (EP X qQ σ Q) X.xe s
def PT (X:Cx)(e:Expr)(t:TT):Prop:=
 ∀(qQ:List (Addr×Obj))(s:Shared)(σ:St)(H:Hp)(Q:Bool->Hp->Prop),Inv X qQ σ H s->t σ H Q->wpAny (model X.prog X.w) X.A (isTrue e X.env (eval e X.env)) (TP X qQ σ Q) X.xe s
def PW (X:Cx)(e:Expr)(t:TT):Prop:=
 ∀(whole:Sem Value)(qQ:List (Addr×Obj))(s:Shared)(σ:St)(H:Hp)(Q:Bool->Hp->Prop),Inv X qQ σ H s->t σ H Q->wpAny (model X.prog X.w) X.A (isTrue e X.env whole) (TP X qQ σ Q) X.xe s
theorem PW.pt {X:Cx}{e:Expr}{t:TT}(h:PW X e t):PT X e t:=h _
def PA (X:Cx)(es:List Expr)(t:TA):Prop:=
 ∀(pos:Pos)(qQ:List (Addr×Obj))(s:Shared)(σ:St)(H:Hp)(Q:List V->Hp->Prop),Inv X qQ σ H s->t σ H Q->wpAny (model X.prog X.w) X.A (spliced (backTo pos (starEach es X.env))) (AP X qQ σ Q) X.xe s
def PS (X:Cx)(st:Stmt)(t:TS):Prop:=
 ∀(qQ:List (Addr×Obj))(s:Shared)(σ:St)(H:Hp)(D:VI),Inv X qQ σ H s->t D σ H->wpAny (model X.prog X.w) X.A (exec st X.env) (SP X qQ D) X.xe s
def PSs (X:Cx)(st:List Stmt)(t:TS):Prop:=
 ∀(qQ:List (Addr×Obj))(s:Shared)(σ:St)(H:Hp)(D:VI),Inv X qQ σ H s->t D σ H->wpAny (model X.prog X.w) X.A (execs st X.env) (SP X qQ D) X.xe s
theorem thn {α:Type}{t:Sem α}{Q Q':α->Shared->Prop}{M:Model}{A:Around}{E:Value->Shared->Prop}{s:Shared}(h:wpAny M A t Q E s)(hQ:∀a s,Q a s->Q' a s):wpAny M A t Q' E s:=wpAny_mono h hQ λ_ _ x=>x
end L2
namespace L2
open PySem PySem.Spec PyProof.Rows
section
variable {X:Cx}
def Xn (i:Nat):TE:=λσ H Q=>∃v,σ[i]?=some (some v)/\Q v H
def tC (v:V):TE:=λ_ H Q=>Q v H
theorem Zn {i:Nat}{x:Str}{pos:Pos}(hN:X.N[i]?=some x)(hv:Vis X.env.scope x)(hd:(x == ("__debug__" : Str))=false:=by decide)(hcd:(x == ("__classdict__" : Str))=false:=by decide):PE X (.Name x pos) (Xn i):=by
 intro qQ s σ H Q I h;obtain ⟨v,e,h⟩:=h;obtain ⟨m,hn,hl⟩:=I.loc;obtain ⟨u,r,l⟩:=hl i x v hN e hv;have fin:EP X qQ σ Q u s:=⟨v,H,I,r,h⟩;rcases l with ⟨hk,hm⟩ | ⟨hk,c,hc,jQ⟩
 ·exact wpAny_Name (wpAny_loadName_local I.ok.kind hk hn hm fin) hd
 ·rcases hk with hk | hk
  ·exact wpAny_Name (wpAny_loadName_cell I.ok.kind hk hc jQ fin) hd
  ·exact wpAny_Name (wpAny_loadName_free I.ok.kind hk hc jQ fin hcd) hd
theorem Gf {i j pos}:PE X (.Constant (.int i) j pos) (tC (.int i)):=λ_ _ _ H _ I h=>wpAny_Constant_int ⟨.int i,H,I.tok _,⟨_,rfl⟩,h⟩
theorem UN {b j pos}:PE X (.Constant (.bool b) j pos) (tC (.bl b)):=λ_ _ _ H _ I h=>Constant_bool ⟨.bl b,H,I,rfl,h⟩
theorem Oa {j pos}:PE X (.Constant .none j pos) (tC .non):=λ_ _ _ H _ I h=>Constant_none ⟨.non,H,I,rfl,h⟩
theorem Jf {x j pos}:PE X (.Constant (.str x) j pos) (tC (.str x)):=λ_ _ _ H _ I h=>Calls.Constant_str ⟨.str x,H,I.tok _,⟨_,rfl⟩,h⟩
def Gl (X:Cx)(x:Str):Prop:=X.env.kindOf x=some .globalImplicit
theorem Ob {E:Value->Shared->Prop}{qQ:List (Addr×Obj)}{s:Shared}{σ:St}{H:Hp}{x:Str}{u:Value}{pos:Pos}{Q:Value->Shared->Prop}(I:Inv X qQ σ H s)(hg:Gl X x)(hm:X.mg x=some u)(h:Q u s)(hd:(x == ("__debug__" : Str))=false:=by decide):wpAny (model X.prog X.w) X.A (eval (.Name x pos) X.env) Q E s:=
 Calls.Name_function_global I.ok.kind hg (Calls.loadGlobal_global (by rw [I.ok.glob];exact I.mod.glob.keeps I.bk) hm h) hd
theorem Oy {E:Value->Shared->Prop}{qQ:List (Addr×Obj)}{s:Shared}{σ:St}{H:Hp}{x:Str}{u:Value}{pos:Pos}{Q:Value->Shared->Prop}(I:Inv X qQ σ H s)(hg:Gl X x)(hm:X.mg x=none)(hv:bootBuiltins x=some u)(h:Q u s)(hn:x ≠ "__name__" := by decide)(hd:(x == ("__debug__" : Str))=false:=by decide):wpAny (model X.prog X.w) X.A (eval (.Name x pos) X.env) Q E s:=by
 obtain ⟨mb,h1,h2⟩:=I.mod.blt;exact Calls.Name_function_global I.ok.kind hg (Calls.loadGlobal_builtin (by rw [I.ok.glob];exact I.mod.glob.keeps I.bk) hm (by rw [I.ok.blt];exact h1.keeps I.bk) ((h2 x hn).trans hv) h) hd
theorem GI {x:Str}{v:V}{u:Value}{pos:Pos}(hg:Gl X x)(hm:X.mg x=some u)(r:RelV v u)(hd:(x == ("__debug__" : Str))=false:=by decide):PE X (.Name x pos) (tC v):=
 λ_ _ _ H _ I h=>Ob I hg hm ⟨v,H,I,r,h⟩ hd
theorem Yz {x:Str}{v:V}{u:Value}{pos:Pos}(hg:Gl X x)(hm:X.mg x=none)(hv:bootBuiltins x=some u)(r:RelV v u)(hn:x ≠ "__name__" := by decide)(hd:(x == ("__debug__" : Str))=false:=by decide):PE X (.Name x pos) (tC v):=
 λ_ _ _ H _ I h=>Oy I hg hm hv ⟨v,H,I,r,h⟩ hn hd
variable {a b:Expr}{ta tb:TE}{pos:Pos}
def PC (X:Cx)(op:CmpOp)(a b:Expr)(t:TE):Prop:=
 ∀(qQ:List (Addr×Obj))(s:Shared)(σ:St)(H:Hp)(Q:VK),Inv X qQ σ H s->t σ H Q ->
  wpAny (model X.prog X.w) X.A (eval a X.env) (λv s₁=>wpAny (model X.prog X.w) X.A (eval b X.env) (λu s₂=>wpAny (model X.prog X.w) X.A (compareOp op v u) (EP X qQ σ Q) X.xe s₂) X.xe s₁) X.xe s
def tB (t:TE):TT:=λσ H Q=>t σ H λx H1=>∃c,x=.bl c/\Q c H1
theorem Zo {op:CmpOp}{t:TE}(h:PC X op a b t)(h1:behindInMarks op b=false:=by first | exact nobehind _ (by decide) (by decide) | rfl):PT X (.Compare a [op] [b] pos) (tB t):=by
 intro qQ s σ H Q I hw;refine wpAny_isTrue_Compare1 (thn (h qQ s σ H _ I hw) λv s1 h1=>thn h1 λu s2 h2=>thn h2 λc s3 ⟨x,H1,I1,r1,q1⟩=>?_) h1;obtain ⟨d,rfl,q⟩:=q1;cases r1;exact wpAny_truthy_bool ⟨H1,I1,q⟩
theorem Js {e:Expr}{t:TE}(h:PE X e t)(he:∀whole,isTrue e X.env whole=(do let v <- whole;standAt e.pos;holding [v] (truthy v)):=by intro _;rfl):PT X e (tB t):=by
 intro qQ s σ H Q I hw;refine isTrue_plain (thn (h qQ s σ H _ I hw) λv s1 ⟨x,H1,I1,r1,q1⟩=>?_) (he _);obtain ⟨d,rfl,q⟩:=q1;cases r1;exact wpAny_truthy_bool ⟨H1,I1,q⟩
variable {tA tB':TT}{rest:List Expr}
def ZbV (t u:TT):TT:=λσ H Q=>t σ H λc H1=>if c=true then u σ H1 Q else Q false H1
def tOr (t u:TT):TT:=λσ H Q=>t σ H λc H1=>if c=true then Q true H1 else u σ H1 Q
def ZbW (t:TT):TT:=λσ H Q=>t σ H λc H1=>Q (!c) H1
theorem Oc (ha:PT X a tA):PW X (.BoolOp .And [a] pos) tA:=by
 intro wh qQ s σ H Q I h;refine isTrue_and (thn (ha qQ s σ H Q I h) λc s1 e=>?_);cases c with
 | true=>exact isTrue_and_nil e
 | false=>exact e
theorem Vb (ha:PT X a tA):PW X (.BoolOp .Or [a] pos) tA:=by
 intro wh qQ s σ H Q I h;refine isTrue_or (thn (ha qQ s σ H Q I h) λc s1 e=>?_);cases c with
 | false=>exact isTrue_or_nil e
 | true=>exact e
theorem Ua (ha:PT X a tA)(hb:PW X (.BoolOp .And (b::rest) pos) tB'):PW X (.BoolOp .And (a::b::rest) pos) (ZbV tA tB'):=by
 intro wh qQ s σ H Q I h;refine isTrue_and (thn (ha qQ s σ H _ I h) λc s1 ⟨H1,I1,q1⟩=>?_);cases c with
 | true=>exact hb wh qQ s1 σ H1 Q I1 q1
 | false=>exact ⟨H1,I1,q1⟩
theorem VJ (ha:PT X a tA)(hb:PW X (.BoolOp .Or (b::rest) pos) tB'):PW X (.BoolOp .Or (a::b::rest) pos) (tOr tA tB'):=by
 intro wh qQ s σ H Q I h;refine isTrue_or (thn (ha qQ s σ H _ I h) λc s1 ⟨H1,I1,q1⟩=>?_);cases c with
 | true=>exact ⟨H1,I1,q1⟩
 | false=>exact hb wh qQ s1 σ H1 Q I1 q1
theorem JE (ha:PT X a tA):PT X (.UnaryOp .Not a pos) (ZbW tA):=by
 intro qQ s σ H Q I h;exact isTrue_not (ha qQ s σ H (λc H1=>Q (!c) H1) I h)
def Zai (ta tb:TE):TE:=λσ H Q=>ta σ H λx H1=>∃c,x=.bl c/\if c=true then tb σ H1 Q else Q (.bl false) H1
def ZbX (ta tb:TE):TE:=λσ H Q=>ta σ H λx H1=>∃c,x=.bl c/\if c=true then Q (.bl true) H1 else tb σ H1 Q
theorem Yc {op}{t:TE}(h:PE X a t):PE X (.BoolOp op [a] pos) t:=λqQ s σ H Q I hw=>BoolOp_one (h qQ s σ H Q I hw)
theorem Yd (ha:PE X a ta)(hb:PE X (.BoolOp .And (b::rest) pos) tb):PE X (.BoolOp .And (a::b::rest) pos) (Zai ta tb):=by
 intro qQ s σ H Q I h;refine BoolOp_and (thn (ha qQ s σ H _ I h) λv s1 ⟨x,H1,I1,r1,q1⟩=>?_);obtain ⟨c,rfl,q1⟩:=q1;cases r1;refine wpAny_truthy_bool ?_;cases c with
 | true=>exact hb qQ s1 σ H1 Q I1 q1
 | false=>exact ⟨.bl false,H1,I1,rfl,q1⟩
theorem Zaj (ha:PE X a ta)(hb:PE X (.BoolOp .Or (b::rest) pos) tb):PE X (.BoolOp .Or (a::b::rest) pos) (ZbX ta tb):=by
 intro qQ s σ H Q I h;refine BoolOp_or (thn (ha qQ s σ H _ I h) λv s1 ⟨x,H1,I1,r1,q1⟩=>?_);obtain ⟨c,rfl,q1⟩:=q1;cases r1;refine wpAny_truthy_bool ?_;cases c with
 | false=>exact hb qQ s1 σ H1 Q I1 q1
 | true=>exact ⟨.bl true,H1,I1,rfl,q1⟩
def tIf (t:TT)(ta tb:TE):TE:=λσ H Q=>t σ H λc H1=>if c=true then ta σ H1 Q else tb σ H1 Q
theorem J3 {c:Expr}(hc:PT X c tA)(ha:PE X a ta)(hb:PE X b tb):PE X (.IfExp c a b pos) (tIf tA ta tb):=by
 intro qQ s σ H Q I h;refine wpAny_IfExp (thn (hc qQ s σ H _ I h) λd s1 ⟨H1,I1,q1⟩=>?_);cases d with
 | true=>exact ha qQ s1 σ H1 Q I1 q1
 | false=>exact hb qQ s1 σ H1 Q I1 q1
end
end L2
namespace L2
open PySem PySem.Spec PyProof.Rows
def SqL (K:W.Frag)(H:Hp)(a:Addr)(xs:List V):Prop:=
 Rd H a (.lst xs) \/
  ∃(o:Obj)(its:Array Value)(n:Nat),K.lookup a=some o/\o.cls=.type "list" /\ o.dict=none/\o.data=.seq its n/\its.size<=sizeLine/\Vals xs its.toList
def SqT (K:W.Frag)(H:Hp)(a:Addr)(xs:List V):Prop:=
 Rd H a (.tup xs) \/
  ∃(o:Obj)(its:Array Value)(n:Nat),K.lookup a=some o/\o.cls=.type "tuple" /\ o.data=.seq its n/\its.size<=sizeLine/\Vals xs its.toList
def ZbY:Value->Option V
 | .none=>some .non
 | .bool b=>some (.bl b)
 | .int i _=>some (.int i)
 | .str x _=>some (.str x)
 | .bytes b _=>some (.byt b)
 | .float b _=>some (.flt b)
 | .ref a=>some (.ref a)
 | .type n=>some (.ty n)
 | _=>none
theorem RelV.abs {x:V}{u:Value}(r:RelV x u):ZbY u=some x:=by
 cases x with
 | non=>cases r;rfl
 | bl _=>cases r;rfl
 | int _=>obtain ⟨t,rfl⟩:=r;rfl
 | str _=>obtain ⟨t,rfl⟩:=r;rfl
 | byt _=>obtain ⟨t,rfl⟩:=r;rfl
 | flt _=>obtain ⟨t,rfl⟩:=r;rfl
 | ref _=>cases r;rfl
 | ty _=>cases r;rfl
theorem RelV.inj {x y:V}{u:Value}(r:RelV x u)(q:RelV y u):x=y:=Option.some.inj (r.abs.symm.trans q.abs)
theorem Vals.inj:∀{xs ys:List V}{us:List Value},Vals xs us->Vals ys us->xs=ys
 | _,_,_,.nil,.nil=>rfl
 | _,_,_,.cons r t,.cons r' t'=>by rw [r.inj r',Vals.inj t t']
section
variable {X:Cx}{qQ:List (Addr×Obj)}{σ:St}{H:Hp}{s:Shared}{a:Addr}{xs ys:List V}
theorem SqL.of {K:W.Frag}(h:H a=some (.lst xs)):SqL K H a xs:=.inl (.inl h)
theorem SqT.of {K:W.Frag}(h:H a=some (.tup xs)):SqT K H a xs:=.inl (.inl h)
theorem Inv.list (I:Inv X qQ σ H s)(h:SqL X.K H a xs):∃its:List Value,Vals xs its/\PlainL s.heap a its.toArray/\xs.length<=sizeLine:=by
 rcases h with h | ⟨o,its,n,hk,hc,hd,hs,hz,r⟩
 ·obtain ⟨z,its,n,r,e⟩:=h.ok I.hok;exact ⟨its,r,⟨_,n,e,rfl,rfl,rfl⟩,z⟩
 ·refine ⟨its.toList,r,⟨o,n,I.kIn a o hk,hc,hd,by simpa using hs⟩,?_⟩;have e:=r.length;simp only [Array.length_toList] at e
  lia
theorem Inv.tuple (I:Inv X qQ σ H s)(h:SqT X.K H a xs):∃its:List Value,Vals xs its/\IsTup s.heap a its.toArray/\xs.length<=sizeLine:=by
 rcases h with h | ⟨o,its,n,hk,hc,hs,hz,r⟩
 ·obtain ⟨z,its,r,p⟩:=h.ok I.hok;exact ⟨its,r,p,z⟩
 ·refine ⟨its.toList,r,⟨o,I.kIn a o hk,hc,n,by simpa using hs⟩,?_⟩;have e:=r.length;simp only [Array.length_toList] at e
  lia
theorem Inv.list_inj (I:Inv X qQ σ H s)(h:SqL X.K H a xs)(h':SqL X.K H a ys):xs=ys:=by
 obtain ⟨its,r,⟨o,n,e,_,_,d⟩,_⟩:=I.list h;obtain ⟨its',r',⟨o',n',e',_,_,d'⟩,_⟩:=I.list h';rw [e] at e';cases e';rw [d] at d';injection d' with d1 _
 have:its=its':=by simpa using congrArg Array.toList d1
 subst this;exact r.inj r'
theorem Inv.tuple_inj (I:Inv X qQ σ H s)(h:SqT X.K H a xs)(h':SqT X.K H a ys):xs=ys:=by
 obtain ⟨its,r,⟨o,e,_,n,d⟩,_⟩:=I.tuple h;obtain ⟨its',r',⟨o',e',_,n',d'⟩,_⟩:=I.tuple h';rw [e] at e';cases e';rw [d] at d';injection d' with d1 _
 have:its=its':=by simpa using congrArg Array.toList d1
 subst this;exact r.inj r'
end
abbrev Cx.wish (X:Cx)(E:Value->Shared->Prop):Cx:={ X with xe:=E }
abbrev Cx.nox (X:Cx):Cx:=X.wish λ_ _=>False
theorem Cx.Ok.wish {X:Cx}(ok:X.Ok)(E:Value->Shared->Prop):(X.wish E).Ok:=
 ⟨ok.mod,ok.kind,ok.glob,ok.blt,ok.above,ok.inj,ok.has,ok.cab,ok.hd,ok.frames,ok.stk,ok.exf,ok.bs,ok.bsz,ok.noex,ok.exfs,ok.funs,ok.frf⟩
theorem Cx.Ok.unwish {X:Cx}{E:Value->Shared->Prop}(ok:(X.wish E).Ok):X.Ok:=
 ⟨ok.mod,ok.kind,ok.glob,ok.blt,ok.above,ok.inj,ok.has,ok.cab,ok.hd,ok.frames,ok.stk,ok.exf,ok.bs,ok.bsz,ok.noex,ok.exfs,ok.funs,ok.frf⟩
section
variable {X:Cx}{qQ:List (Addr×Obj)}{σ:St}{H:Hp}{s:Shared}{E:Value->Shared->Prop}
theorem Inv.wish (I:Inv X qQ σ H s)(E:Value->Shared->Prop):Inv (X.wish E) qQ σ H s:=⟨I.ok.wish E,I.os,I.bare,I.base,I.loc,I.cell,I.free,I.freeC,I.pin,I.hok,I.len⟩
theorem Inv.unwish (I:Inv (X.wish E) qQ σ H s):Inv X qQ σ H s:=⟨I.ok.unwish,I.os,I.bare,I.base,I.loc,I.cell,I.free,I.freeC,I.pin,I.hok,I.len⟩
theorem SP.unwish {D:VI}{f:Flow}{s':Shared}(h:SP (X.wish E) qQ D f s'):SP X qQ D f s':=by
 cases f with
 | next=>obtain ⟨σ',H',I,q⟩:=h;exact ⟨σ',H',I.unwish,q⟩
 | brk=>obtain ⟨σ',H',I,q⟩:=h;exact ⟨σ',H',I.unwish,q⟩
 | cont=>obtain ⟨σ',H',I,q⟩:=h;exact ⟨σ',H',I.unwish,q⟩
 | ret u=>obtain ⟨v,σ',H',I,r,q⟩:=h;exact ⟨v,σ',H',I.unwish,r,q⟩
theorem PSs.nox {st:List Stmt}{t:TS}(h:PSs X.nox st t):PSs X st t:=λqQ s σ H D I hw=>
 wpAny_mono (h qQ s σ H D (I.wish _) hw) (λ_ _ q=>q.unwish) λ_ _ z=>False.elim z
end
section
variable {X:Cx}{st:Stmt}{rest:List Stmt}{t u:TS}{e:Expr}{te:TE}{pos:Pos}
def YA:TS:=λD σ H=>D.nx σ H
def Zak (t u:TS):TS:=λD σ H=>t { D with nx:=u D } σ H
theorem Gu:PSs X [] YA:=λ_ _ σ H _ I h=>wpAny_execs_nil ⟨σ,H,I,h⟩
theorem Gc (h1:PS X st t)(h2:PSs X rest u):PSs X (st::rest) (Zak t u):=by
 intro qQ s σ H D I h;refine wpAny_execs_cons (thn (h1 qQ s σ H { D with nx:=u D } I h) λf s1 q=>?_);cases f with
 | next=>
  obtain ⟨σ',H',I',q⟩:=q;exact h2 qQ s1 σ' H' D I' q
 | ret v=>exact q
 | brk=>exact q
 | cont=>exact q
theorem Gg (h1:PS X st t):PSs X [st] t:=by
 intro qQ s σ H D I h;refine wpAny_execs_cons (thn (h1 qQ s σ H D I h) λf s1 q=>?_);cases f with
 | next=>exact wpAny_execs_nil q
 | ret v=>exact q
 | brk=>exact q
 | cont=>exact q
theorem Inv.quiet {qQ:List (Addr×Obj)}{σ:St}{H:Hp}{s:Shared}(I:Inv X qQ σ H s):interactive X.env=false:=by simp [interactive,I.ok.kind]
def Zp (te:TE):TS:=λD σ H=>te σ H λ_ H1=>D.nx σ H1
theorem UO (he:PE X e te)(hs:swapsWith e none pos.line X.env=pure false:=by rfl):PS X (.Expr e pos) (Zp te):=by
 intro qQ s σ H D I h;exact wpAny_Expr_any (thn (he qQ s σ H _ I h) λv s1 ⟨x,H1,I1,r1,q1⟩=>⟨σ,H1,I1,q1⟩) I.quiet hs
def ZbZ (te:TE):TS:=λD σ H=>te σ H D.rt
theorem Gp (he:PE X e te):PS X (.Return (some e) pos) (ZbZ te):=by
 intro qQ s σ H D I h;exact wpAny_Return_some (thn (he qQ s σ H _ I h) λv s1 ⟨x,H1,I1,r1,q1⟩=>⟨x,σ,H1,I1,r1,q1⟩)
def Zal (c:TT)(t u:TS):TS:=λD σ H=>c σ H λb H1=>if b=true then t D σ H1 else u D σ H1
theorem GS {c:Expr}{a b:List Stmt}{tc:TT}(hc:PT X c tc)(ha:PSs X a t)(hb:PSs X b u):PS X (.If c a b pos) (Zal tc t u):=by
 intro qQ s σ H D I h;refine wpAny_If (thn (hc qQ s σ H _ I h) λd s1 ⟨H1,I1,q1⟩=>?_);cases d with
 | true=>exact ha qQ s1 σ H1 D I1 q1
 | false=>exact hb qQ s1 σ H1 D I1 q1
def Zq:TS:=λ_ _ _=>False
theorem Od {sts:List Stmt}:PSs X sts Zq:=λ_ _ _ _ _ _ h=>h.elim
end
abbrev TG:=V->St->Hp->(St->Hp->Prop)->Prop
abbrev TGs:=List V->St->Hp->(St->Hp->Prop)->Prop
def PG (X:Cx)(qU:Expr)(t:TG):Prop:=
 ∀(qQ:List (Addr×Obj))(s:Shared)(σ:St)(H:Hp)(v:V)(u:Value)(Q:St->Hp->Prop),Inv X qQ σ H s->RelV v u->t v σ H Q ->
  wpAny (model X.prog X.w) X.A (assign qU X.env u) (λ_ s'=>∃ σ' H',Inv X qQ σ' H' s'/\Q σ' H') X.xe s
def PGs (X:Cx)(ts:List Expr)(t:TGs):Prop:=
 ∀(qQ:List (Addr×Obj))(s:Shared)(σ:St)(H:Hp)(vs:List V)(us:List Value)(Q:St->Hp->Prop),Inv X qQ σ H s->Vals vs us->t vs σ H Q ->
  wpAny (model X.prog X.w) X.A (assignInOrder ((assignEach ts X.env).map (·.2)) us) (λ_ s'=>∃ σ' H',Inv X qQ σ' H' s'/\Q σ' H') X.xe s
abbrev Zam:=V->V->V->Hp->(Hp->Prop)->Prop
def Zbj (X:Cx)(t:Zam):Prop:=
 ∀(qQ:List (Addr×Obj))(s:Shared)(σ:St)(H:Hp)(o i v:V)(ov iv u:Value)(Q:Hp->Prop),Inv X qQ σ H s->RelV o ov->RelV i iv->RelV v u->t o i v H Q ->
  wpAny (model X.prog X.w) X.A (setItem ov iv u) (λ_ s'=>∃H',Inv X qQ σ H' s'/\Q H') X.xe s
section
variable {X:Cx}{pos:Pos}
def GQ (i:Nat):TG:=λv σ H Q=>Q (σ.set i (some v)) H
theorem Gs {i:Nat}{x:Str}(hN:X.N.Nodup)(hi:X.N[i]?=some x)(hx:Loc X.env.scope x)(hf:X.fn x=true\/X.env.scope.names.lookup x=some .local:=by first | exact .inl rfl | exact .inr rfl | assumption):PG X (.Name x pos) (GQ i):=by
 intro qQ s σ H v u Q I r h;exact wpAny_assign_Name (OK I hN hi hx r (λs' I'=>⟨_,H,I',h⟩) hf)
def Zb0:TGs:=λvs σ H Q=>vs=[]/\Q σ H
def Zan (t:TG)(u:TGs):TGs:=λvs σ H Q=>∃v r,vs=v::r/\t v σ H λσ' H'=>u r σ' H' Q
theorem OL:PGs X [] Zb0:=by
 intro qQ s σ H vs us Q I r h;obtain ⟨e,h⟩:=h;subst e;cases r;exact assignInOrder_nil ⟨σ,H,I,h⟩
theorem GV {e:Expr}{es:List Expr}{t:TG}{u:TGs}(h1:PG X e t)(h2:PGs X es u)(hs:(assignEach (e::es) X.env).map (·.2)=assign e X.env::(assignEach es X.env).map (·.2):=by rfl):PGs X (e::es) (Zan t u):=by
 intro qQ s σ H vs us Q I r h;obtain ⟨v,vr,e1,h⟩:=h;subst e1;cases r with
 | cons r rr=>
  rw [hs];refine assignInOrder_cons (thn (h1 qQ s σ H _ _ _ I r h) λ_ s1 ⟨σ1,H1,I1,q1⟩=>?_);exact h2 qQ s1 σ1 H1 _ _ Q I1 rr q1
def Zbk (K:W.Frag)(n:Nat)(t:TGs):TG:=λv σ H Q=>∃a xs,v=.ref a/\SqT K H a xs/\xs.length=n/\t xs σ H Q
theorem Zr {es:List Expr}{k:Nat}{t:TGs}{n:Nat}(hc:X.calm=true)(h:PGs X es t)(hn:(assignEach es X.env).length=n:=by rfl)(hst:(assignEach es X.env).findIdx? (·.1)=none:=by rfl):PG X (.Tuple es k pos) (Zbk X.K n t):=by
 intro qQ s σ H v u Q I r hw;obtain ⟨a,xs,e1,hq,hl,hw⟩:=hw;subst e1;cases r;obtain ⟨its,rv,ht,hz⟩:=I.tuple hq;refine assign_Tuple_tuple (I.ok.hd hc) ht (by simp [hn,<-hl,rv.length]) hst λh' hx=>?_;have I1:Inv X qQ σ H { s with heap:=h' }:=I.kept (t':=s.toks) λb o e=>hx b o (Nat.ne_of_lt (Heap.lt_size e)) e;exact h qQ _ σ H xs _ Q I1 (by simpa using rv) hw
def Zb1 (to ti:TE)(t:Zam):TG:=λv σ H Q=>to σ H λo H1=>ti σ H1 λi H2=>t o i v H2 λH3=>Q σ H3
theorem Oz {o i:Expr}{to ti:TE}{t:Zam}(ho:PE X o to)(hi:PE X i ti)(hs:Zbj X t)(ha:∀v,assign (.Subscript o i pos) X.env v=(do
   let ov <- holding [v] (eval o X.env)
   let iv <- holding [v,ov] (eval i X.env)
   standAt pos
   holding [v,ov,iv] (setItem ov iv v)
   release [v,ov,iv] []):=by intro _;rfl):PG X (.Subscript o i pos) (Zb1 to ti t):=by
 intro qQ s σ H v u Q I r h;rw [ha];refine wpAny_bind (wpAny_holding (thn (ho qQ s σ H _ I h) λov s1 ⟨x,H1,I1,r1,q1⟩=>?_));refine wpAny_bind (wpAny_holding (thn (hi qQ s1 σ H1 _ I1 q1) λiv s2 ⟨y,H2,I2,r2,q2⟩=>?_));refine wpAny_bind (wpAny_standAt (wpAny_bind (wpAny_holding (thn (hs qQ s2 σ H2 x y v ov iv u _ I2 r1 r2 r q2) λ_ s3 ⟨H3,I3,q3⟩=>?_))));exact wpAny_release ⟨σ,H3,I3,q3⟩
def Zao (te:TE)(g:TG):TS:=λD σ H=>te σ H λx H1=>g x σ H1 D.nx
theorem JX {tg e:Expr}{te:TE}{g:TG}(he:PE X e te)(hg:PG X tg g)(hs:swapsWithSole [tg] e pos.line X.env=pure false:=by rfl)(hw:swappedStores [tg] e X.env=pure none:=by rfl)(h1:(assignEach [tg] X.env).map (·.2)=[assign tg X.env]:=by rfl):PS X (.Assign [tg] e pos) (Zao te g):=by
 intro qQ s σ H D I h;refine wpAny_Assign_stores (thn (he qQ s σ H _ I h) λv s1 ⟨x,H1,I1,r1,q1⟩=>?_) hs hw;rw [h1];exact thn (hg qQ s1 σ H1 x v _ I1 r1 q1) λ_ s2 q=>q
theorem Gq {i:Nat}{x:Str}{e:Expr}{te:TE}{pos':Pos}(hN:X.N.Nodup)(hi:X.N[i]?=some x)(hx:Loc X.env.scope x)(he:PE X e te)(hs:swapsWith e (some (.Name x pos')) pos.line X.env=pure false:=by rfl)(hf:X.fn x=true\/X.env.scope.names.lookup x=some .local:=by first | exact .inl rfl | exact .inr rfl | assumption) :
  PS X (.Assign [.Name x pos'] e pos) (Zao te (GQ i)):=by
 intro qQ s σ H D I h;refine wpAny_Assign_Name (thn (he qQ s σ H _ I h) λv s1 ⟨y,H1,I1,r1,q1⟩=>?_) hs;exact OK I1 hN hi hx r1 (λs2 I2=>⟨_,H1,I2,q1⟩) hf
end
structure It where
 go:Nat->Hp->Prop
 yld:Nat->Hp->V->Hp->Prop
 stop:Nat->Hp->Prop
def Xg (X:Cx)(qQ:List (Addr×Obj))(H:Hp)(b:Addr):Prop:=
 H b=none/\b≠X.env.locals/\b ∉ X.fs/\(b∈X.ex\/X.s₀.heap.objs.size<=b)/\(∀x c,X.env.cells.lookup x=some c->c≠b)/\∀p∈X.pn++qQ,p.1≠b
theorem Inv.fpOk {X:Cx}{qQ:List (Addr×Obj)}{σ:St}{H H':Hp}{s:Shared}{b:Addr}(I:Inv X qQ σ H s)(hb:s.heap.objs.size<=b)(hn:H' b=none):Xg X qQ H' b:=by
 refine ⟨hn,Nat.ne_of_gt (Nat.lt_of_lt_of_le I.lt hb),I.nofs hb,.inr (Nat.le_trans I.sz hb),λx c e z=>?_,λp hp z=>?_⟩
 ·obtain ⟨v,q⟩:=I.cell x c e;exact absurd (Nat.lt_of_lt_of_le q.lt (by rw [z];exact hb)) (Nat.lt_irrefl _)
 ·exact absurd (Nat.lt_of_lt_of_le (Heap.lt_size (I.pin p hp).1) (by rw [z];exact hb)) (Nat.lt_irrefl _)
structure Ye (P:Program)(w:World)(K:W.Frag)(tg:Expr)(J:It)(fp:List Addr)(it:Addr)(tn:Nat->Heap->Prop):Prop where
 mem:it∈fp
 obj:∀i h,tn i h->∀b∈fp,∃o,h.get? b=some o/\∀v,o.data≠.cell v
 keep:∀i h h',tn i h->(∀b∈fp,∀o,h.get? b=some o->h'.get? b=some o)->tn i h'
 item:∀(X:Cx),X.prog=P->X.w=w->X.K=K->X.calm=true->∀(i:Nat)(qQ:List (Addr×Obj))(s:Shared)(σ:St)(H:Hp)(E:Value->Shared->Prop),Inv X qQ σ H s->(∀b∈fp,Xg X qQ H b)->tn i s.heap->J.go i H ->
  wpAny (model P w) X.A (pyNext (.ref it)) (λr s1=>∃u,r=some u /\
   wpAny (model P w) X.A (letOwnedTupleGo tg (.ref it) u) (λ_ s2=>∃x H',Inv X qQ σ H' s2/\RelV x u/\J.yld i H x H'/\tn (i+1) s2.heap/\∀b∈fp,H' b=none) E s1) E s
 done:∀(X:Cx),X.prog=P->X.w=w->X.K=K->X.calm=true->∀(i:Nat)(qQ:List (Addr×Obj))(s:Shared)(σ:St)(H:Hp)(E:Value->Shared->Prop),Inv X qQ σ H s->(∀b∈fp,Xg X qQ H b)->tn i s.heap->J.stop i H ->
  wpAny (model P w) X.A (pyNext (.ref it)) (λr s1=>r=none/\Inv X qQ σ H s1) E s
 self:∀(A:Around)(i:Nat)(s:Shared)(Q:Value->Shared->Prop)(E:Value->Shared->Prop),tn i s.heap->Q (.ref it) s->wpAny (model P w) A (pyIter (.ref it)) Q E s
abbrev TI:=St->Hp->(It->Hp->Prop)->Prop
def PIE (X:Cx)(qQ:List (Addr×Obj))(σ:St)(tg:Expr)(R:It->Hp->Prop)(itv:Value)(s2:Shared):Prop:=
 ∃(it:Addr)(fp:List Addr)(tn:Nat->Heap->Prop)(J:It)(H':Hp),itv=.ref it/\Inv X qQ σ H' s2/\Ye X.prog X.w X.K tg J fp it tn/\tn 0 s2.heap/\(∀b∈fp,Xg X qQ H' b)/\R J H'
def PI (X:Cx)(tg iter:Expr)(wi:TI):Prop:=
 ∀(qQ:List (Addr×Obj))(s:Shared)(σ:St)(H:Hp)(R:It->Hp->Prop),Inv X qQ σ H s->wi σ H R ->
  wpAny (model X.prog X.w) X.A (eval iter X.env) (λv s1=>wpAny (model X.prog X.w) X.A (pyIter v) (PIE X qQ σ tg R) X.xe s1) X.xe s
theorem V6 {M:Model}{A:Around}{E:Value->Shared->Prop}{s:Shared}{tg:Expr}{it:Addr}{u:Value}{o:Obj}{n:String}{vs:Array Value}{Q:Unit->Shared->Prop}(ho:s.heap.get? it=some o)(hc:o.cls=.type n)(hd:o.data=.fields vs)(hn:["enumerate", "zip", "dict_itemiterator", "dict_reverseitemiterator", "odict_iterator", "itertools.zip_longest", "itertools.pairwise"].contains n=false)(hQ:Q () s):wpAny M A (letOwnedTupleGo tg (.ref it) u) Q E s:=by
 unfold letOwnedTupleGo;cases tg <;> first
  | exact wpAny_pure hQ
  | (cases u <;> first
    | exact wpAny_pure hQ
    | (refine wpAny_bind (wpAny_load ho ?_)
       rw [hc,hd];show wpAny M A (if (["enumerate", "zip", "dict_itemiterator", "dict_reverseitemiterator", "odict_iterator", "itertools.zip_longest", "itertools.pairwise"].contains n && vs[0]? == some (rawInt _))=true then _ else _) Q E s;rw [if_neg (by intro h;rw [hn,Bool.false_and] at h;cases h)];exact wpAny_pure hQ))
def Itl (K:W.Frag)(a:Addr):It:=
 ⟨λi H=>∃xs x,SqL K H a xs/\xs[i]?=some x,λi H x H'=>H'=H/\∀xs,SqL K H a xs->xs[i]?=some x,λi H=>∃xs,SqL K H a xs/\xs.length<=i⟩
def Itt (K:W.Frag)(a:Addr):It:=
 ⟨λi H=>∃xs x,SqT K H a xs/\xs[i]?=some x,λi H x H'=>H'=H/\∀xs,SqT K H a xs->xs[i]?=some x,λi H=>∃xs,SqT K H a xs/\xs.length<=i⟩
def Itr (lo:Int)(n:Nat):It:=⟨λi _=>i<n,λi H x H'=>H'=H/\x=.int (lo+i),λi _=>n<=i⟩
theorem V7 {P:Program}{w:World}{K:W.Frag}{tg:Expr}(a it:Addr):Ye P w K tg (Itl K a) [it] it (λi h=>h.IsListIter it a i) where
 mem:=by simp
 obj:=λi h st b hb=>by
  have e:b=it:=by simpa using hb
  subst e;obtain ⟨o,e,c,d⟩:=st;exact ⟨o,e,λv z=>by rw [d] at z;cases z⟩
 keep:=λi h h' st k=>st.at λo e=>k it (by simp) o e
 item:=by
  intro X hP hw hK hc i qQ s σ H E I hf st hg;subst hP hw hK;obtain ⟨xs,x,hq,hx⟩:=hg;obtain ⟨its,rv,p,hz⟩:=I.list hq;obtain ⟨u,hu,ru⟩:=rv.get hx;obtain ⟨f0,f1,f2,f3,f4,f5⟩:=hf it (by simp);refine wpAny_pyNext_list_item st p.isList (x:=u) (by simpa using hu) λh' st' sb=>?_;have I1:Inv X qQ σ H { s with heap:=h' }:=I.turned (t':=s.toks) (λb o hb e=>(sb.2 b hb).trans e) f0 f1 f3 f4 f5;obtain ⟨o,e,c,d⟩:=id st';exact ⟨u,rfl,V6 (s:={ s with heap:=h' }) e c d (by decide) ⟨x,H,I1,ru,⟨rfl,λys hy=>by rw [I.list_inj hy hq];exact hx⟩,st',λb hb=>(hf b hb).1⟩⟩
 done:=by
  intro X hP hw hK hc i qQ s σ H E I hf st hg;subst hP hw hK;obtain ⟨xs,hq,hx⟩:=hg;obtain ⟨its,rv,p,hz⟩:=I.list hq;obtain ⟨f0,f1,f2,f3,f4,f5⟩:=hf it (by simp);have hl:=rv.length;exact wpAny_pyNext_list_end (I.ok.hd hc) st p.isList (by simp;lia) λh' eb=>⟨rfl,I.turned (t':=s.toks) (λb o hb e=>eb b o hb e) f0 f1 f3 f4 f5⟩
 self:=λ_ _ _ _ _ st h=>wpAny_pyIter_listiter st h
theorem VL {P:Program}{w:World}{K:W.Frag}{tg:Expr}(a it:Addr):Ye P w K tg (Itt K a) [it] it (λi h=>h.IsTupleIter it a i) where
 mem:=by simp
 obj:=λi h st b hb=>by
  have e:b=it:=by simpa using hb
  subst e;obtain ⟨o,e,c,d⟩:=st;exact ⟨o,e,λv z=>by rw [d] at z;cases z⟩
 keep:=λi h h' st k=>st.at λo e=>k it (by simp) o e
 item:=by
  intro X hP hw hK hc i qQ s σ H E I hf st hg;subst hP hw hK;obtain ⟨xs,x,hq,hx⟩:=hg;obtain ⟨its,rv,p,hz⟩:=I.tuple hq;obtain ⟨u,hu,ru⟩:=rv.get hx;obtain ⟨f0,f1,f2,f3,f4,f5⟩:=hf it (by simp);refine wpAny_pyNext_tuple_item st (show s.heap.IsTuple a its.toArray from p) (x:=u) (by simpa using hu) λh' st' sb=>?_;have I1:Inv X qQ σ H { s with heap:=h' }:=I.turned (t':=s.toks) (λb o hb e=>(sb.2 b hb).trans e) f0 f1 f3 f4 f5;obtain ⟨o,e,c,d⟩:=id st';exact ⟨u,rfl,V6 (s:={ s with heap:=h' }) e c d (by decide) ⟨x,H,I1,ru,⟨rfl,λys hy=>by rw [I.tuple_inj hy hq];exact hx⟩,st',λb hb=>(hf b hb).1⟩⟩
 done:=by
  intro X hP hw hK hc i qQ s σ H E I hf st hg;subst hP hw hK;obtain ⟨xs,hq,hx⟩:=hg;obtain ⟨its,rv,p,hz⟩:=I.tuple hq;obtain ⟨f0,f1,f2,f3,f4,f5⟩:=hf it (by simp);have hl:=rv.length;exact wpAny_pyNext_tuple_end (I.ok.hd hc) st (show s.heap.IsTuple a its.toArray from p) (by simp;lia) λh' eb=>⟨rfl,I.turned (t':=s.toks) (λb o hb e=>eb b o hb e) f0 f1 f3 f4 f5⟩
 self:=λ_ _ _ _ _ st h=>wpAny_pyIter_tupleiter st h
theorem VM {P:Program}{w:World}{K:PySem.W.Frag}{tg:Expr}(it:Addr)(lo:Int)(n:Nat):Ye P w K tg (Itr lo n) [it] it (λi h=>IsRangeIter h it (lo+(i:Nat) * 1) ((n:Int)-(i:Nat)) 1) where
 mem:=by simp
 obj:=λi h st b hb=>by
  have e:b=it:=by simpa using hb
  subst e;exact ⟨_,st,λv z=>by
   have z':Data.fields _=Data.cell v:=z;cases z'⟩
 keep:=λi h h' st k=>k it (by simp) _ st
 item:=by
  intro X hP hw hK hc i qQ s σ H E I hf st hg;subst hP hw hK;obtain ⟨f0,f1,f2,f3,f4,f5⟩:=hf it (by simp);have W:=Walks.range (prog:=X.prog) (w:=X.w) (I.ok.hd hc) it lo 1 n;refine W.item i s _ _ hg st λv h' tk hv st' kk=>?_;obtain ⟨t,rfl⟩:=hv;have I1:Inv X qQ σ H { s with heap:=h',toks:=tk }:=I.turned (λb o hb e=>kk b o (by simpa using hb) e) f0 f1 f3 f4 f5;refine ⟨_,rfl,V6 (s:={ s with heap:=h',toks:=tk }) (n := "range_iterator") st' rfl rfl (by decide) ⟨.int (lo+i),H,I1,⟨t,?_⟩,⟨rfl,rfl⟩,st',λb hb=>(hf b hb).1⟩⟩;rw [Int.mul_one]
 done:=by
  intro X hP hw hK hc i qQ s σ H E I hf st hg;subst hP hw hK;obtain ⟨f0,f1,f2,f3,f4,f5⟩:=hf it (by simp);exact wpAny_pyNext_range_end (I.ok.hd hc) st (by have:n<=i:=hg;lia) λh' eb=>⟨rfl,I.turned (t':=s.toks) (λb o hb e=>eb b o hb e) f0 f1 f3 f4 f5⟩
 self:=λ_ _ _ _ _ st h=>wpAny_pyIter_rangeiter st h
end L2
namespace L2
open PySem PySem.Spec PyProof.Rows
section
variable {X:Cx}{tg:Expr}
def Zs (K:W.Frag)(tl:TE):TI:=λσ H R=>tl σ H λx H1=>∃a,x=.ref a/\(∃xs,SqL K H1 a xs)/\R (Itl K a) H1
def Zbl (K:W.Frag)(tl:TE):TI:=λσ H R=>tl σ H λx H1=>∃a,x=.ref a/\(∃xs,SqT K H1 a xs)/\R (Itt K a) H1
theorem YB {l:Expr}{tl:TE}(hl:PE X l tl):PI X tg l (Zs X.K tl):=by
 intro qQ s σ H R I h;refine thn (hl qQ s σ H _ I h) λv s1 ⟨x,H1,I1,r1,q1⟩=>?_;obtain ⟨a,e,⟨xs,hq⟩,q⟩:=q1;subst e;cases r1;obtain ⟨its,rv,p,hz⟩:=I1.list hq;refine wpAny_pyIter_list p.isList ?_;refine ⟨s1.heap.objs.size,[s1.heap.objs.size],_,_,H1,rfl,I1.kept (t':=s1.toks) λb o e=>Heap.get?_push_of_some _ e,V7 a _,⟨_,Heap.get?_push_size _ rfl,rfl,rfl⟩,λb hb=>?_,q⟩;have e:b=s1.heap.objs.size:=by simpa using hb
 subst e;exact I1.fpOk (Nat.le_refl _) (I1.hok.fresh (Nat.le_refl _))
theorem Zt {l:Expr}{tl:TE}(hl:PE X l tl):PI X tg l (Zbl X.K tl):=by
 intro qQ s σ H R I h;refine thn (hl qQ s σ H _ I h) λv s1 ⟨x,H1,I1,r1,q1⟩=>?_;obtain ⟨a,e,⟨xs,hq⟩,q⟩:=q1;subst e;cases r1;obtain ⟨its,rv,p,hz⟩:=I1.tuple hq;refine wpAny_pyIter_tuple (show s1.heap.IsTuple a its.toArray from p) ?_;refine ⟨s1.heap.objs.size,[s1.heap.objs.size],_,_,H1,rfl,I1.kept (t':=s1.toks) λb o e=>Heap.get?_push_of_some _ e,VL a _,⟨_,Heap.get?_push_size _ rfl,rfl,rfl⟩,λb hb=>?_,q⟩;have e:b=s1.heap.objs.size:=by simpa using hb
 subst e;exact I1.fpOk (Nat.le_refl _) (I1.hok.fresh (Nat.le_refl _))
theorem Vc {qQ:List (Addr×Obj)}{σ:St}{H:Hp}{s:Shared}{R:It->Hp->Prop}{E:Value->Shared->Prop}{lo hi:Int}{t u v:Tok}{tk:Nat}(I:Inv X qQ σ H s)(h1:-(2 ^ 62)<=lo)(h2:lo<2 ^ 62)(h3:-(2 ^ 62)<=hi)(h4:hi<2 ^ 62)(q:R (Itr lo (hi-lo).toNat) H):wpAny (model X.prog X.w) X.A (pyIter (.ref s.heap.objs.size)) (PIE X qQ σ tg R) E { s with heap:=s.heap.push { cls:=.type "range", data:=.fields #[.int lo t,.int hi u,.int 1 v] },toks:=tk }:=by
 refine wpAny_pyIter_range (IsRange.new ..) (small_one h1 h2 h3 h4) ?_;have I1:Inv X qQ σ H { s with heap:=s.heap.push { cls:=.type "range", data:=.fields #[.int lo t,.int hi u,.int 1 v] },toks:=tk }:=I.kept λb o e=>Heap.get?_push_of_some _ e;refine ⟨(s.heap.push { cls:=.type "range", data:=.fields #[.int lo t,.int hi u,.int 1 v] }).objs.size,[(s.heap.push { cls:=.type "range", data:=.fields #[.int lo t,.int hi u,.int 1 v] }).objs.size],_,_,H,rfl,
  I1.kept (t':=tk) λb o e=>Heap.get?_push_of_some _ e,VM _ lo (hi-lo).toNat,?_,λb hb=>?_,q⟩
 ·have e1:lo+((0:Nat):Int) * 1=lo:=by simp
  have e2:(((hi-lo).toNat:Nat):Int)-((0:Nat):Int)=Builtin.Range.rangeSize lo hi 1:=by rw [rangeSize_one];split <;> lia
  show IsRangeIter _ _ (lo+((0:Nat):Int) * 1) ((((hi-lo).toNat:Nat):Int)-((0:Nat):Int)) 1;rw [e1,e2];exact Heap.get?_push_size _ rfl
 ·have e:b=(s.heap.push { cls:=.type "range", data:=.fields #[.int lo t,.int hi u,.int 1 v] }).objs.size:=by simpa using hb
  subst e;exact I1.fpOk (Nat.le_refl _) (I1.hok.fresh (Nat.le_refl _))
def Zap (ta:TA):TI:=λσ H R=>ta σ H λvs H1=>∃j:Int,vs=[.int j]/\-(2 ^ 62)<=j/\j<2 ^ 62/\R (Itr 0 j.toNat) H1
def Zaq (ta:TA):TI:=λσ H R=>ta σ H λvs H1=>∃i j:Int,vs=[.int i,.int j]/\(-(2 ^ 62)<=i/\i<2 ^ 62/\-(2 ^ 62)<=j/\j<2 ^ 62)/\R (Itr i (j-i).toNat) H1
theorem Oe {a:Expr}{ta:TA}{p pos:Pos}(hg:Gl X "range")(hm:X.mg "range" = none)(ha:PA X [a] ta)(hs:starEach [a] X.env=[(false,eval a X.env)]:=by rfl):PI X tg (.Call (.Name "range" p) [a] [] pos) (Zap ta):=by
 intro qQ s σ H R I h;refine Call_ (Oy I hg hm boot_range (PyProof.Rows.callWith_type1 (thn (ha pos qQ s σ H _ I h) λus s1 ⟨vs,H1,I1,r1,q1⟩=>?_) hs rfl));obtain ⟨j,e,q1,q2,q⟩:=q1;subst e;cases r1 with
 | cons r rr=>
  cases rr;obtain ⟨t,rfl⟩:=r;exact call_range_1 (Vc I1 (by lia) (by lia) q1 q2 (by simpa using q))
theorem V8 {a b:Expr}{ta:TA}{p pos:Pos}(hg:Gl X "range")(hm:X.mg "range" = none)(ha:PA X [a,b] ta)(hs:starEach [a,b] X.env=[(false,eval a X.env),(false,eval b X.env)]:=by rfl)(hs2:starEach [b] X.env=[(false,eval b X.env)]:=by rfl) :
  PI X tg (.Call (.Name "range" p) [a,b] [] pos) (Zaq ta):=by
 intro qQ s σ H R I h;refine Call_ (Oy I hg hm boot_range (PyProof.Rows.callWith_type1 (thn (ha pos qQ s σ H _ I h) λus s1 ⟨vs,H1,I1,r1,q1⟩=>?_) (by rw [hs,hs2]) (by rw [hs2];rfl)));obtain ⟨i,j,e,⟨q1,q2,q3,q4⟩,q⟩:=q1;subst e;cases r1 with
 | cons r rr=>
  cases rr with
  | cons r' rr=>
   cases rr;obtain ⟨t,rfl⟩:=r;obtain ⟨t',rfl⟩:=r';exact call_range_2 (Vc I1 q1 q2 q3 q4 q)
def Zb2 (wi:TI)(g:TG)(tb:TS):TS:=λD σ H=>wi σ H λJ H1=>∃W:Nat->Nat->St->Hp->Prop,(∃m,W 0 m σ H1)/\∀i m σ H,W i m σ H ->
 (J.stop i H/\D.nx σ H)\/(J.go i H/\∃N:St->Hp->Prop,(∀ σ' H',N σ' H'->∃m',m'<m/\W (i+1) m' σ' H')/\∀x H',J.yld i H x H'->g x σ H' λσ2 H2=>tb { D with nx:=N,ct:=N,bk:=D.nx } σ2 H2)
def Ub (fp:List Addr)(h:Heap):List (Addr×Obj):=fp.filterMap λb=>(h.get? b).map λo=>(b,o)
theorem Jl {fp:List Addr}{h:Heap}{b:Addr}{o:Obj}(hb:b∈fp)(e:h.get? b=some o):(b,o)∈Ub fp h:=List.mem_filterMap.mpr ⟨b,hb,by rw [e];rfl⟩
theorem V9 {fp:List Addr}{h:Heap}{p:Addr×Obj}(hp:p∈Ub fp h):p.1∈fp/\h.get? p.1=some p.2:=by
 obtain ⟨b,hb,e⟩:=List.mem_filterMap.mp hp;cases q:h.get? b with
 | none=>rw [q] at e;cases e
 | some o=>
  rw [q] at e;have e':(b,o)=p:=Option.some.inj e;subst e';exact ⟨hb,q⟩
theorem Inv.pinned {qQ:List (Addr×Obj)}{σ:St}{H:Hp}{s:Shared}{fp:List Addr}(I:Inv X qQ σ H s)(hf:∀b∈fp,Xg X qQ H b)(ho:∀b∈fp,∃o,s.heap.get? b=some o/\∀v,o.data≠.cell v):Inv X (qQ++Ub fp s.heap) σ H s:=
 I.pins_of λp hp=>(List.mem_append.mp hp).elim (λz=>I.pin p (List.mem_append_right _ z)) λz=>by
  obtain ⟨hb,e⟩:=V9 z;obtain ⟨f0,f1,f2,_⟩:=hf p.1 hb;obtain ⟨o,e',d⟩:=ho p.1 hb;rw [e] at e';cases e';exact ⟨e,f0,f1,f2,d⟩
theorem Inv.unpinned {qQ pl:List (Addr×Obj)}{σ:St}{H:Hp}{s:Shared}(I:Inv X (qQ++pl) σ H s):Inv X qQ σ H s:=I.pins_of λp hp=>I.pin p (List.mem_append_right _ (List.mem_append_left _ hp))
theorem Jg {iter:Expr}{body:List Stmt}{wi:TI}{g:TG}{tb:TS}{pos:Pos}(hp:PassesOwn (model X.prog X.w) X.A X.env X.xe)(hc:X.calm=true)(hi:PI X tg iter wi)(hg:PG X tg g)(hb:PSs X body tb)(hs:∀x,foldedSetIterable iter X.env x=pure x:=by intro _;rfl):PS X (.For tg iter body [] pos) (Zb2 wi g tb):=by
 intro qQ s σ H D I h;refine wpAny_For (thn (hi qQ s σ H _ I h) λv s1 h1=>thn h1 λitv s2 h2=>?_) hs;obtain ⟨it,fp,tn,J,H2,e,I2,T,st2,f2,W,⟨m0,w0⟩,turn⟩:=h2;subst e;have stat:∀{H':Hp},(∀b∈fp,H' b=none)->∀b∈fp,Xg X qQ H' b:=λhn b hb=>⟨hn b hb,(f2 b hb).2⟩;refine codeAny_forLoop_any (λn s'=>∃i σ' H',Inv X qQ σ' H' s'/\tn i s'.heap/\(∀b∈fp,H' b=none)/\W i n σ' H') ?_ m0 ⟨0,σ,H2,I2,st2,λb hb=>(f2 b hb).1,w0⟩;rintro n s3 ⟨i,σ3,H3,I3,st3,fr3,w3⟩;rcases turn i n σ3 H3 w3 with ⟨stop,qn⟩ | ⟨go,N,hN,step⟩
 ·refine wpAny_passesOwn hp (thn (T.done X rfl rfl rfl hc i qQ s3 σ3 H3 X.xe I3 (stat fr3) st3 stop) λr s4 ⟨hr,I4⟩=>?_);subst hr;exact wpAny_execs_nil ⟨σ3,H3,I4,qn⟩
 ·refine wpAny_passesOwn hp (thn (T.item X rfl rfl rfl hc i qQ s3 σ3 H3 X.xe I3 (stat fr3) st3 go) λr s4 ⟨u,hr,h4⟩=>?_);subst hr;refine wpAny_passesOwn hp (thn h4 λ_ s5 ⟨x,H5,I5,r5,y5,st5,fr5⟩=>?_);have I5':=I5.pinned (stat fr5) (T.obj _ _ st5);refine wpAny_passesOwn hp (thn (hg _ s5 σ3 H5 x u _ I5' r5 (step x H5 y5)) λ_ s6 ⟨σ6,H6,I6,q6⟩=>?_);refine wpAny_passesOwn hp (thn (hb _ s6 σ6 H6 _ I6 q6) λf s7 q7=>?_);have again:∀{σ7:St}{H7:Hp},Inv X (qQ++Ub fp s5.heap) σ7 H7 s7->N σ7 H7->∃m,m<n/\∃i σ' H',Inv X qQ σ' H' s7/\tn i s7.heap/\(∀b∈fp,H' b=none)/\W i m σ' H':=λ{σ7 H7} I7 n7=>by
   obtain ⟨m',hm,w7⟩:=hN σ7 H7 n7;refine ⟨m',hm,i+1,σ7,H7,I7.unpinned,T.keep _ _ _ st5 λb hb o e=>(I7.pin (b,o) (List.mem_append_right _ (List.mem_append_right _ (Jl hb e)))).1,λb hb=>?_,w7⟩;obtain ⟨o,e,d⟩:=T.obj _ _ st5 b hb;exact (I7.pin (b,o) (List.mem_append_right _ (List.mem_append_right _ (Jl hb e)))).2.1
  cases f with
  | next=>obtain ⟨σ7,H7,I7,n7⟩:=q7;exact again I7 n7
  | cont=>obtain ⟨σ7,H7,I7,n7⟩:=q7;exact again I7 n7
  | brk=>obtain ⟨σ7,H7,I7,q7⟩:=q7;exact ⟨σ7,H7,I7.unpinned,q7⟩
  | ret v=>obtain ⟨x7,σ7,H7,I7,r7,q7⟩:=q7;exact ⟨x7,σ7,H7,I7.unpinned,r7,q7⟩
end
theorem J4 {K:PySem.W.Frag}{a:Addr}{xs:List V}{g:TG}{tb:TS}{D:VI}{σ:St}{H:Hp}(Pv:Nat->St->Hp->Prop)(h0:Pv 0 σ H)(hl:∀i σ H,i<=xs.length->Pv i σ H->SqL K H a xs)(hs:∀i x σ H,xs[i]?=some x->Pv i σ H->g x σ H λσ2 H2=>tb { D with nx:=Pv (i+1),ct:=Pv (i+1),bk:=D.nx } σ2 H2)(hd:∀ σ H,Pv xs.length σ H->D.nx σ H) :
  ∃W:Nat->Nat->St->Hp->Prop,(∃m,W 0 m σ H)/\∀i m σ H,W i m σ H ->
   ((Itl K a).stop i H/\D.nx σ H)\/((Itl K a).go i H/\∃N:St->Hp->Prop,(∀ σ' H',N σ' H'->∃m',m'<m/\W (i+1) m' σ' H')/\∀x H',(Itl K a).yld i H x H'->g x σ H' λσ2 H2=>tb { D with nx:=N,ct:=N,bk:=D.nx } σ2 H2):=by
 refine ⟨λi m σ H=>m=xs.length-i/\i<=xs.length/\Pv i σ H,⟨xs.length,by simp,Nat.zero_le _,h0⟩,?_⟩;rintro i m σ H ⟨rfl,hi,p⟩;have q:=hl i σ H hi p;by_cases hlt:i<xs.length
 ·refine .inr ⟨⟨xs,xs[i],q,by simp [hlt]⟩,Pv (i+1),λσ' H' p'=>⟨xs.length-(i+1),by lia,rfl,hlt,p'⟩,λx H' y=>?_⟩;obtain ⟨e,y⟩:=y;subst e;exact hs i x σ _ (y xs q) p
 ·have e:i=xs.length:=by lia
  subst e;exact .inl ⟨⟨xs,q,Nat.le_refl _⟩,hd σ H p⟩
theorem YC {K:PySem.W.Frag}{a:Addr}{xs:List V}{g:TG}{tb:TS}{D:VI}{σ:St}{H:Hp}(Pv:Nat->St->Hp->Prop)(h0:Pv 0 σ H)(hl:∀i σ H,i<=xs.length->Pv i σ H->SqT K H a xs)(hs:∀i x σ H,xs[i]?=some x->Pv i σ H->g x σ H λσ2 H2=>tb { D with nx:=Pv (i+1),ct:=Pv (i+1),bk:=D.nx } σ2 H2)(hd:∀ σ H,Pv xs.length σ H->D.nx σ H) :
  ∃W:Nat->Nat->St->Hp->Prop,(∃m,W 0 m σ H)/\∀i m σ H,W i m σ H ->
   ((Itt K a).stop i H/\D.nx σ H)\/((Itt K a).go i H/\∃N:St->Hp->Prop,(∀ σ' H',N σ' H'->∃m',m'<m/\W (i+1) m' σ' H')/\∀x H',(Itt K a).yld i H x H'->g x σ H' λσ2 H2=>tb { D with nx:=N,ct:=N,bk:=D.nx } σ2 H2):=by
 refine ⟨λi m σ H=>m=xs.length-i/\i<=xs.length/\Pv i σ H,⟨xs.length,by simp,Nat.zero_le _,h0⟩,?_⟩;rintro i m σ H ⟨rfl,hi,p⟩;have q:=hl i σ H hi p;by_cases hlt:i<xs.length
 ·refine .inr ⟨⟨xs,xs[i],q,by simp [hlt]⟩,Pv (i+1),λσ' H' p'=>⟨xs.length-(i+1),by lia,rfl,hlt,p'⟩,λx H' y=>?_⟩;obtain ⟨e,y⟩:=y;subst e;exact hs i x σ _ (y xs q) p
 ·have e:i=xs.length:=by lia
  subst e;exact .inl ⟨⟨xs,q,Nat.le_refl _⟩,hd σ H p⟩
theorem Of {lo:Int}{n:Nat}{g:TG}{tb:TS}{D:VI}{σ:St}{H:Hp}(Pv:Nat->St->Hp->Prop)(h0:Pv 0 σ H)(hs:∀i σ H,i<n->Pv i σ H->g (.int (lo+i)) σ H λσ2 H2=>tb { D with nx:=Pv (i+1),ct:=Pv (i+1),bk:=D.nx } σ2 H2)(hd:∀ σ H,Pv n σ H->D.nx σ H) :
  ∃W:Nat->Nat->St->Hp->Prop,(∃m,W 0 m σ H)/\∀i m σ H,W i m σ H ->
   ((Itr lo n).stop i H/\D.nx σ H)\/((Itr lo n).go i H/\∃N:St->Hp->Prop,(∀ σ' H',N σ' H'->∃m',m'<m/\W (i+1) m' σ' H')/\∀x H',(Itr lo n).yld i H x H'->g x σ H' λσ2 H2=>tb { D with nx:=N,ct:=N,bk:=D.nx } σ2 H2):=by
 refine ⟨λi m σ H=>m=n-i/\i<=n/\Pv i σ H,⟨n,by simp,Nat.zero_le _,h0⟩,?_⟩;rintro i m σ H ⟨rfl,hi,p⟩;by_cases hlt:i<n
 ·refine .inr ⟨hlt,Pv (i+1),λσ' H' p'=>⟨n-(i+1),by lia,rfl,hlt,p'⟩,λx H' y=>?_⟩;obtain ⟨e,y⟩:=y;subst e y;exact hs i σ _ hlt p
 ·have e:i=n:=by lia
  subst e;exact .inl ⟨Nat.le_refl _,hd σ H p⟩
end L2
namespace L2
open PySem PySem.Spec PyProof.Rows
abbrev R2:=V->V->Hp->VK->Prop
def OpR (X:Cx)(f:Value->Value->Sem Value)(r:R2):Prop:=
 ∀(qQ:List (Addr×Obj))(s:Shared)(σ:St)(H:Hp)(x y:V)(v u:Value)(Q:VK),Inv X qQ σ H s->RelV x v->RelV y u->r x y H Q ->
  wpAny (model X.prog X.w) X.A (f v u) (EP X qQ σ Q) X.xe s
def UnR (X:Cx)(f:Value->Sem Value)(r:V->Hp->VK->Prop):Prop:=
 ∀(qQ:List (Addr×Obj))(s:Shared)(σ:St)(H:Hp)(x:V)(v:Value)(Q:VK),Inv X qQ σ H s->RelV x v->r x H Q ->
  wpAny (model X.prog X.w) X.A (f v) (EP X qQ σ Q) X.xe s
def Jx (X:Cx)(f:Value)(r:List V->Hp->VK->Prop):Prop:=
 ∀(qQ:List (Addr×Obj))(s:Shared)(σ:St)(H:Hp)(xs:List V)(us:List Value)(Q:VK),Inv X qQ σ H s->Vals xs us->r xs H Q ->
  wpAny (model X.prog X.w) X.A (call f us) (EP X qQ σ Q) X.xe s
def Zb3 (X:Cx)(r:V->Hp->(Bool->Hp->Prop)->Prop):Prop:=
 ∀(qQ:List (Addr×Obj))(s:Shared)(σ:St)(H:Hp)(x:V)(v:Value)(Q:Bool->Hp->Prop),Inv X qQ σ H s->RelV x v->r x H Q ->
  wpAny (model X.prog X.w) X.A (truthy v) (TP X qQ σ Q) X.xe s
def tOp (r:R2)(ta tb:TE):TE:=λσ H Q=>ta σ H λx H1=>tb σ H1 λy H2=>r x y H2 Q
def tUn (r:V->Hp->VK->Prop)(ta:TE):TE:=λσ H Q=>ta σ H λx H1=>r x H1 Q
def rI (C:Int->Int->Prop)(g:Int->Int->V):R2:=λx y H Q=>∃i j,x=.int i/\y=.int j/\C i j/\Q (g i j) H
def rI0 (g:Int->Int->V):R2:=λx y H Q=>∃i j,x=.int i/\y=.int j/\Q (g i j) H
def rU (g:Int->V):V->Hp->VK->Prop:=λx H Q=>∃i,x=.int i/\Q (g i) H
section
variable {X:Cx}{a b c:Expr}{ta tb tc:TE}{pos:Pos}
theorem Zar (ha:PE X a ta)(hb:PE X b tb){qQ:List (Addr×Obj)}{s:Shared}{σ:St}{H:Hp}{R:V->V->Hp->Prop}(I:Inv X qQ σ H s)(h:ta σ H λx H1=>tb σ H1 λy H2=>R x y H2){Q:Value->Shared->Prop}{f:Value->Value->Sem Value}(hf:∀v u s2 x y H2,Inv X qQ σ H2 s2->RelV x v->RelV y u->R x y H2->wpAny (model X.prog X.w) X.A (f v u) Q X.xe s2) :
  wpAny (model X.prog X.w) X.A (eval a X.env) (λv s₁=>wpAny (model X.prog X.w) X.A (eval b X.env) (λu s₂=>wpAny (model X.prog X.w) X.A (f v u) Q X.xe s₂) X.xe s₁) X.xe s:=by
 refine thn (ha qQ s σ H _ I h) λv s1 ⟨x,H1,I1,r1,q1⟩=>?_;refine thn (hb qQ s1 σ H1 _ I1 q1) λu s2 ⟨y,H2,I2,r2,q2⟩=>?_;exact hf v u s2 x y H2 I2 r1 r2 q2
theorem Gk {op:Operator}{r:R2}(ho:OpR X (binaryOp op) r)(ha:PE X a ta)(hb:PE X b tb):PE X (.BinOp a op b pos) (tOp r ta tb):=by
 intro qQ s σ H Q I h;exact wpAny_BinOp (Zar ha hb I h λv u s2 x y H2 I2 rx ry q=>ho qQ s2 σ H2 x y v u Q I2 rx ry q)
theorem YD {op:UnaryOp}{r:V->Hp->VK->Prop}(ho:UnR X (unaryOp op) r)(ha:PE X a ta):PE X (.UnaryOp op a pos) (tUn r ta):=by
 intro qQ s σ H Q I h;exact UnaryOp_ (thn (ha qQ s σ H _ I h) λv s1 ⟨x,H1,I1,r1,q1⟩=>ho qQ s1 σ H1 x v Q I1 r1 q1)
theorem opI {f:Value->Value->Sem Value}{C:Int->Int->Prop}{g:Int->Int->Int}(rule:∀(i j:Int)(t u:Tok)(s:Shared)(Q:Value->Shared->Prop)(E:Value->Shared->Prop),C i j->Q (.int (g i j) s.toks) { s with toks:=s.toks+1 }->wpAny (model X.prog X.w) X.A (f (.int i t) (.int j u)) Q E s) :
  OpR X f (rI C λi j=>.int (g i j)):=by
 intro qQ s σ H x y v u Q I rx ry h;obtain ⟨i,j,rfl,rfl,hc,q⟩:=h;obtain ⟨t,rfl⟩:=rx;obtain ⟨t',rfl⟩:=ry;exact rule i j t t' s _ _ hc ⟨.int (g i j),H,I.tok _,⟨_,rfl⟩,q⟩
theorem Zbm {f:Value->Value->Sem Value}{g:Int->Int->Int}(rule:∀(i j:Int)(t u:Tok)(s:Shared)(Q:Value->Shared->Prop)(E:Value->Shared->Prop),Q (.int (g i j) s.toks) { s with toks:=s.toks+1 }->wpAny (model X.prog X.w) X.A (f (.int i t) (.int j u)) Q E s) :
  OpR X f (rI0 λi j=>.int (g i j)):=by
 intro qQ s σ H x y v u Q I rx ry h;obtain ⟨i,j,rfl,rfl,q⟩:=h;obtain ⟨t,rfl⟩:=rx;obtain ⟨t',rfl⟩:=ry;exact rule i j t t' s _ _ ⟨.int (g i j),H,I.tok _,⟨_,rfl⟩,q⟩
theorem Zad {f:Value->Value->Sem Value}{g:Int->Int->Bool}(rule:∀(i j:Int)(t u:Tok)(s:Shared)(Q:Value->Shared->Prop)(E:Value->Shared->Prop),Q (.bool (g i j)) s->wpAny (model X.prog X.w) X.A (f (.int i t) (.int j u)) Q E s) :
  OpR X f (rI0 λi j=>.bl (g i j)):=by
 intro qQ s σ H x y v u Q I rx ry h;obtain ⟨i,j,rfl,rfl,q⟩:=h;obtain ⟨t,rfl⟩:=rx;obtain ⟨t',rfl⟩:=ry;exact rule i j t t' s _ _ ⟨.bl (g i j),H,I,rfl,q⟩
def Zb4 (i j:Int):Prop:=0<=j/\j<=1000000/\i.natAbs<2 ^ 64
def CMul (i j:Int):Prop:=(-(2 ^ 64)<i/\i<2 ^ 64)\/(-(2 ^ 64)<j/\j<2 ^ 64)
theorem CMul.ok {i j:Int}(h:CMul i j):IntMulOk i j:=by
 rcases h with ⟨h1,h2⟩ | ⟨h1,h2⟩
 ·exact .of_left (intBits_le_64 h1 h2)
 ·exact .of_right (intBits_le_64 h1 h2)
theorem GJ:OpR X (binaryOp .Add) (rI0 λi j=>.int (i+j)):=Zbm λ_ _ _ _ _ _ _ q=>add_int q
theorem Uc:OpR X (binaryOp .Sub) (rI0 λi j=>.int (i-j)):=Zbm λ_ _ _ _ _ _ _ q=>sub_int q
theorem G7:OpR X (binaryOp .Mult) (rI CMul λi j=>.int (i * j)):=opI λ_ _ _ _ _ _ _ hc q=>mul_int q hc.ok
theorem GU:OpR X (binaryOp .Mod) (rI (λ_ j=>0<j) λi j=>.int (i % j)):=opI λi j _ _ _ _ _ hc q=>by
 have h1:(0:Int)<j:=hc;exact mod_int' (by lia) (by rw [Int.fmod_eq_emod_of_nonneg i (by lia)];exact q)
theorem Yg:OpR X (binaryOp .Pow) (rI Zb4 λi j=>.int (i ^ j.toNat)):=opI λ_ _ _ _ _ _ _ hc q=>pow_int_small hc.1 hc.2.1 hc.2.2 q
end
def Zbn:V->V->Bool
 | .non,.non=>true | .non,.int _=>true | .int _,.non=>true | .non,.bl _=>true | .bl _,.non=>true | .non,.str _=>true | .str _,.non=>true
 | .int _,.int _=>true | .bl _,.bl _=>true | .str _,.str _=>true | .byt _,.byt _=>true
 | .int _,.str _=>true | .str _,.int _=>true | .bl _,.str _=>true | .str _,.bl _=>true
 | _,_=>false
def rEq:R2:=λx y H Q=>Zbn x y=true/\Q (.bl (decide (x=y))) H
def rNe:R2:=λx y H Q=>Zbn x y=true/\Q (.bl (!decide (x=y))) H
theorem Wa {i j:Int}:decide (V.int i=V.int j)=(i == j):=by
 rw [Bool.eq_iff_iff];simp
theorem Yh {i j:Bool}:decide (V.bl i=V.bl j)=(i == j):=by
 rw [Bool.eq_iff_iff];simp
theorem Wb {i j:Str}:decide (V.str i=V.str j)=(i == j):=by
 rw [Bool.eq_iff_iff];simp
theorem Wc {i j:Array UInt8}:decide (V.byt i=V.byt j)=(i.toList == j.toList):=by
 rw [Bool.eq_iff_iff];cases i;cases j;simp
section
variable {X:Cx}{a b c:Expr}{ta tb tc:TE}{pos:Pos}
theorem Gw {qQ:List (Addr×Obj)}{σ:St}{H:Hp}{s:Shared}{Q:VK}{k k':Bool}(I:Inv X qQ σ H s)(q:Q (.bl k) H)(e:k=k'):EP X qQ σ Q (.bool k') s:=by
 subst e;exact ⟨.bl k,H,I,rfl,q⟩
theorem OM:OpR X (compareOp .Eq) rEq:=by
 intro qQ s σ H x y v u Q I rx ry h;obtain ⟨hs,q⟩:=h;cases x with
 | non=>
  cases rx;cases y with
  | non=>cases ry;exact PySem.EqNone.eq_none_none (Gw I q (by simp))
  | bl j=>cases ry;exact PySem.EqNone.eq_none_bool (Gw I q (by simp))
  | int j=>obtain ⟨t',rfl⟩:=ry;exact PySem.EqNone.eq_none_int (Gw I q (by simp))
  | str j=>obtain ⟨t',rfl⟩:=ry;exact PySem.EqNone.eq_none_str (Gw I q (by simp))
  | _=>exact absurd (show false=true from hs) Bool.false_ne_true
 | bl i=>
  cases rx;cases y with
  | non=>cases ry;exact PySem.EqNone.eq_bool_none (Gw I q (by simp))
  | bl j=>cases ry;exact eq_bool (Gw I q Yh)
  | str j=>obtain ⟨t',rfl⟩:=ry;exact PySem.EqMixed.eq_bool_str (Gw I q (by simp))
  | _=>exact absurd (show false=true from hs) Bool.false_ne_true
 | int i=>
  obtain ⟨t,rfl⟩:=rx;cases y with
  | non=>cases ry;exact PySem.EqNone.eq_int_none (Gw I q (by simp))
  | int j=>obtain ⟨t',rfl⟩:=ry;exact eq_int (Gw I q Wa)
  | str j=>obtain ⟨t',rfl⟩:=ry;exact PySem.EqMixed.eq_int_str (Gw I q (by simp))
  | _=>exact absurd (show false=true from hs) Bool.false_ne_true
 | str i=>
  obtain ⟨t,rfl⟩:=rx;cases y with
  | non=>cases ry;exact PySem.EqNone.eq_str_none (Gw I q (by simp))
  | bl j=>cases ry;exact PySem.EqMixed.eq_str_bool (Gw I q (by simp))
  | int j=>obtain ⟨t',rfl⟩:=ry;exact PySem.EqMixed.eq_str_int (Gw I q (by simp))
  | str j=>obtain ⟨t',rfl⟩:=ry;exact eq_str (Gw I q Wb)
  | _=>exact absurd (show false=true from hs) Bool.false_ne_true
 | byt i=>
  obtain ⟨t,rfl⟩:=rx;cases y with
  | byt j=>obtain ⟨t',rfl⟩:=ry;exact W.eq_bytes (Gw I q Wc)
  | _=>exact absurd (show false=true from hs) Bool.false_ne_true
 | _=>cases y <;> exact absurd (show false=true from hs) Bool.false_ne_true
theorem Xo:OpR X (compareOp .NotEq) rNe:=by
 intro qQ s σ H x y v u Q I rx ry h;obtain ⟨hs,q⟩:=h;cases x with
 | non=>
  cases rx;cases y with
  | non=>cases ry;exact PySem.EqNone.ne_none_none (Gw I q (by simp))
  | bl j=>cases ry;exact PySem.EqNone.ne_none_bool (Gw I q (by simp))
  | int j=>obtain ⟨t',rfl⟩:=ry;exact PySem.EqNone.ne_none_int (Gw I q (by simp))
  | str j=>obtain ⟨t',rfl⟩:=ry;exact PySem.EqNone.ne_none_str (Gw I q (by simp))
  | _=>exact absurd (show false=true from hs) Bool.false_ne_true
 | bl i=>
  cases rx;cases y with
  | non=>cases ry;exact PySem.EqNone.ne_bool_none (Gw I q (by simp))
  | bl j=>cases ry;exact ne_bool (Gw I q (congrArg not Yh))
  | str j=>obtain ⟨t',rfl⟩:=ry;exact PySem.EqMixed.ne_bool_str (Gw I q (by simp))
  | _=>exact absurd (show false=true from hs) Bool.false_ne_true
 | int i=>
  obtain ⟨t,rfl⟩:=rx;cases y with
  | non=>cases ry;exact PySem.EqNone.ne_int_none (Gw I q (by simp))
  | int j=>obtain ⟨t',rfl⟩:=ry;exact ne_int (Gw I q (congrArg not Wa))
  | str j=>obtain ⟨t',rfl⟩:=ry;exact PySem.EqMixed.ne_int_str (Gw I q (by simp))
  | _=>exact absurd (show false=true from hs) Bool.false_ne_true
 | str i=>
  obtain ⟨t,rfl⟩:=rx;cases y with
  | non=>cases ry;exact PySem.EqNone.ne_str_none (Gw I q (by simp))
  | bl j=>cases ry;exact PySem.EqMixed.ne_str_bool (Gw I q (by simp))
  | int j=>obtain ⟨t',rfl⟩:=ry;exact PySem.EqMixed.ne_str_int (Gw I q (by simp))
  | str j=>obtain ⟨t',rfl⟩:=ry;exact ne_str (Gw I q (congrArg not Wb))
  | _=>exact absurd (show false=true from hs) Bool.false_ne_true
 | byt i=>
  obtain ⟨t,rfl⟩:=rx;cases y with
  | byt j=>obtain ⟨t',rfl⟩:=ry;exact W.ne_bytes (Gw I q (congrArg not Wc))
  | _=>exact absurd (show false=true from hs) Bool.false_ne_true
 | _=>cases y <;> exact absurd (show false=true from hs) Bool.false_ne_true
theorem UP:OpR X (compareOp .Lt) (rI0 λi j=>.bl (decide (i<j))):=Zad λ_ _ _ _ _ _ _ q=>lt_int q
theorem Zas:OpR X (compareOp .LtE) (rI0 λi j=>.bl (decide (i<=j))):=Zad λ_ _ _ _ _ _ _ q=>le_int q
theorem Zu:OpR X (compareOp .Gt) (rI0 λi j=>.bl (decide (j<i))):=Zad λ_ _ _ _ _ _ _ q=>gt_int q
theorem Xp:OpR X (compareOp .GtE) (rI0 λi j=>.bl (decide (j<=i))):=Zad λ_ _ _ _ _ _ _ q=>ge_int q
theorem Zv:OpR X (compareOp .Is) (λx y H Q=>y=.non/\Q (.bl (decide (x=.non))) H):=by
 intro qQ s σ H x y v u Q I rx ry h;obtain ⟨rfl,q⟩:=h;cases ry;refine is_none_gen (Gw I q ?_);cases x <;> first
  | (cases rx;rfl)
  | (obtain ⟨t,rfl⟩:=rx;rfl)
theorem YE:OpR X (compareOp .IsNot) (λx y H Q=>y=.non/\Q (.bl (!decide (x=.non))) H):=by
 intro qQ s σ H x y v u Q I rx ry h;obtain ⟨rfl,q⟩:=h;cases ry;refine isnot_none_gen (Gw I q ?_);cases x <;> first
  | (cases rx;rfl)
  | (obtain ⟨t,rfl⟩:=rx;rfl)
theorem GC (b:Expr){op:CmpOp}(h:op≠.In:=by decide)(h2:op≠.NotIn:=by decide):behindInMarks op b=false:=by
 have e1:(op == CmpOp.In)=false:=by cases op <;> first | rfl | exact absurd rfl h
 have e2:(op == CmpOp.NotIn)=false:=by cases op <;> first | rfl | exact absurd rfl h2
 cases b <;> simp [behindInMarks,e1,e2]
theorem Jy {op:CmpOp}{r:R2}(ho:OpR X (compareOp op) r)(ha:PE X a ta)(hb:PE X b tb)(hm:behindInMarks op b=false):PE X (.Compare a [op] [b] pos) (tOp r ta tb):=by
 intro qQ s σ H Q I h;exact wpAny_Compare1 (Zar ha hb I h λv u s2 x y H2 I2 rx ry q=>ho qQ s2 σ H2 x y v u Q I2 rx ry q) hm
def YF (t:TE):TT:=λσ H Q=>t σ H λx H'=>∃k,x=.bl k/\Q k H'
theorem Gv {op:CmpOp}{r:R2}(ho:OpR X (compareOp op) r)(ha:PE X a ta)(hb:PE X b tb)(hm:behindInMarks op b=false):PT X (.Compare a [op] [b] pos) (YF (tOp r ta tb)):=by
 intro qQ s σ H Q I h;refine wpAny_isTrue_Compare1 (thn (ha qQ s σ H _ I h) λv s1 ⟨x,H1,I1,r1,q1⟩=>thn (hb qQ s1 σ H1 _ I1 q1) λu s2 ⟨y,H2,I2,r2,q2⟩=>
  thn (ho qQ s2 σ H2 x y v u _ I2 r1 r2 q2) λc s3 ⟨z,H3,I3,r3,k,e,q3⟩=>?_) hm
 subst e;cases r3;exact wpAny_truthy_bool ⟨H3,I3,q3⟩
def Zw (r r':R2)(ta tb tc:TE):TE:=λσ H Q=>ta σ H λx H1=>tb σ H1 λy H2=>r x y H2 λz H3=>∃k,z=.bl k /\
 (if k=true then tc σ H3 λw' H4=>r' y w' H4 Q else Q (.bl false) H3)
theorem Xq {op op':CmpOp}{r r':R2}(ho:OpR X (compareOp op) r)(ho':OpR X (compareOp op') r')(ha:PE X a ta)(hb:PE X b tb)(hc:PE X c tc)(hm:lastMarks [op,op'] [b,c]=false:=by with_unfolding_all rfl):PT X (.Compare a [op,op'] [b,c] pos) (YF (Zw r r' ta tb tc)):=by
 intro qQ s σ H Q I h;refine isTrue_chain (thn (ha qQ s σ H _ I h) λv s1 ⟨x,H1,I1,r1,q1⟩=>test_link (thn (hb qQ s1 σ H1 _ I1 q1) λu s2 ⟨y,H2,I2,r2,q2⟩=>
  thn (ho qQ s2 σ H2 x y v u _ I2 r1 r2 q2) λd s3 ⟨z,H3,I3,r3,k,e,q3⟩=>?_)) hm
 subst e;cases r3;refine wpAny_truthy_bool ?_;cases k with
 | false=>
  obtain ⟨k',e',q'⟩:=q3;cases e';exact ite_ff ⟨H3,I3,q'⟩
 | true=>
  refine ite_tt (test_last (thn (hc qQ s3 σ H3 _ I3 q3) λw' s4 ⟨z',H4,I4,r4,q4⟩=>thn (ho' qQ s4 σ H4 y z' u w' _ I4 r2 r4 q4) λd' s5 ⟨z2,H5,I5,r5,k2,e2,q5⟩=>?_));subst e2;cases r5;exact wpAny_truthy_bool ⟨H5,I5,q5⟩
def Zbo (K:W.Frag)(x:V)(H:Hp)(k:Bool):Prop:=
 match x with
 | .non=>k=false
 | .bl b=>k=b
 | .int i=>k=(i != 0)
 | .str y=>y.length<=sizeLine/\k=((y.length:Int) != 0)
 | .byt y=>y.size<=sizeLine/\k=((y.size:Int) != 0)
 | .ref p=>(∃xs,SqL K H p xs/\k=!xs.isEmpty)\/(∃xs,SqT K H p xs/\k=!xs.isEmpty)\/∃kvs,H p=some (.dK kvs)/\k=!kvs.isEmpty
 | _=>False
theorem OA {κ:Type}{kvs:List (κ×V)}{vs:List (κ×Value)}(r:KV kvs vs):(!vs.isEmpty)=!kvs.isEmpty:=by
 cases r <;> rfl
theorem JR {xs:List V}{its:List Value}(r:Vals xs its):(!its.toArray.isEmpty)=!xs.isEmpty:=by
 cases r <;> simp
theorem Og:(sizeLine:Nat)<2 ^ 63:=by rw [sizeLine_eq];decide
theorem Zx:Zb3 X (λx H Q=>∃k,Zbo X.K x H k/\Q k H):=by
 intro qQ s σ H x v Q I rx h;obtain ⟨k,e,q⟩:=h;have hl:=Og;have hs:sizeLine=16777216:=sizeLine_eq;cases x with
 | non=>
  cases rx;have e':k=false:=e;subst e';exact truthy_none ⟨H,I,q⟩
 | bl b=>
  cases rx;have e':k=b:=e;subst e';exact wpAny_truthy_bool ⟨H,I,q⟩
 | int i=>
  obtain ⟨t,rfl⟩:=rx;have e':k=(i != 0):=e;subst e';exact PySem.P.truthy_int ⟨H,I,q⟩
 | str y=>
  obtain ⟨t,rfl⟩:=rx;obtain ⟨hy,e'⟩:y.length<=sizeLine/\k=((y.length:Int) != 0):=e;subst e';exact PySem.P.truthy_str (by lia) ⟨H,I.tok _,q⟩
 | byt y=>
  obtain ⟨t,rfl⟩:=rx;obtain ⟨hy,e'⟩:y.size<=sizeLine/\k=((y.size:Int) != 0):=e;subst e';exact W.truthy_bytes (by lia) ⟨H,I.tok _,q⟩
 | ref p=>
  cases rx;have e':(∃xs,SqL X.K H p xs/\k=!xs.isEmpty)\/(∃xs,SqT X.K H p xs/\k=!xs.isEmpty)\/∃kvs,H p=some (.dK kvs)/\k=!kvs.isEmpty:=e;rcases e' with ⟨xs,hx,e'⟩ | ⟨xs,hx,e'⟩ | ⟨kvs,hx,e'⟩
  ·subst e';obtain ⟨its,r,pl,hz⟩:=I.list hx;have qV:=r.length;exact wpAny_truthy_list pl.isList (by simp only [List.size_toArray];lia) ⟨H,I.tok _,by rw [JR r];exact q⟩
  ·subst e';obtain ⟨its,r,pl,hz⟩:=I.tuple hx;have qV:=r.length;exact truthy_tuple pl (by simp only [List.size_toArray];lia) ⟨H,I.tok _,by rw [JR r];exact q⟩
  ·subst e';obtain ⟨hz,hS,vs,r,m⟩:kvs.length<=sizeLine/\(p == sysModules)=false/\∃vs,KV kvs vs/\s.heap.DictOf (Gy X.prog X.w) p vs:=I.hok p _ hx;have qV:kvs.length=vs.length:=Paired.length r;exact wpAny_truthy_dict hS m (by lia) ⟨H,I.tok _,by rw [OA r];exact q⟩
 | _=>exact (show False from e).elim
theorem Jm (ha:PE X a ta)(he:∀whole,isTrue a X.env whole=(do let v <- whole;standAt a.pos;holding [v] (truthy v))) :
  PT X a (λσ H Q=>ta σ H λx H'=>∃k,Zbo X.K x H' k/\Q k H'):=by
 intro qQ s σ H Q I h;exact isTrue_plain (thn (ha qQ s σ H _ I h) λv s1 ⟨x,H1,I1,r1,q1⟩=>Zx qQ s1 σ H1 x v Q I1 r1 q1) (he _)
theorem YG {x:V}{us:List Value}(r:Vals [x] us):∃u,us=[u]/\RelV x u:=by
 cases r with
 | cons r1 r2=>cases r2;exact ⟨_,rfl,r1⟩
theorem Zy {x y:V}{us:List Value}(r:Vals [x,y] us):∃u w',us=[u,w']/\RelV x u/\RelV y w':=by
 cases r with
 | cons r1 r2=>
  cases r2 with
  | cons r3 r4=>cases r4;exact ⟨_,_,rfl,r1,r3⟩
theorem Ud (hc:X.calm=true):Jx X (.builtin "max") (λxs H Q=>∃i j,xs=[.int i,.int j]/\Q (.int (if j > i then j else i)) H):=by
 intro qQ s σ H xs us Q I r h;obtain ⟨i,j,rfl,q⟩:=h;obtain ⟨u,w',rfl,⟨t,rfl⟩,⟨t',rfl⟩⟩:=Zy r;refine max_two_ints (I.ok.hd hc) λh' tk k=>⟨_,H,I.kept k,?_,q⟩;by_cases hj:j > i
 ·rw [if_pos hj,if_pos hj];exact ⟨_,rfl⟩
 ·rw [if_neg hj,if_neg hj];exact ⟨_,rfl⟩
theorem Wd (hc:X.calm=true):Jx X (.builtin "min") (λxs H Q=>∃i j,xs=[.int i,.int j]/\Q (.int (if j<i then j else i)) H):=by
 intro qQ s σ H xs us Q I r h;obtain ⟨i,j,rfl,q⟩:=h;obtain ⟨u,w',rfl,⟨t,rfl⟩,⟨t',rfl⟩⟩:=Zy r;refine min_two_ints (I.ok.hd hc) λh' tk k=>⟨_,H,I.kept k,?_,q⟩;by_cases hj:j<i
 ·rw [if_pos hj,if_pos hj];exact ⟨_,rfl⟩
 ·rw [if_neg hj,if_neg hj];exact ⟨_,rfl⟩
end
end L2
namespace L2
open PySem PySem.Spec PyProof.Rows
structure ObjM (h:Heap)(x dx C:Addr)(mA:Str->Option Value):Prop where
 obj:h.get? x=some (W.instObj C dx)
 ns:h.Ns1 dx mA
 ne:dx≠x
theorem We {h:Heap}{dx:Addr}{mA:Str->Option Value}(n:h.Ns1 dx mA):∃od,h.get? dx=some od/\∀name,W.lookIn name od=some (mA name):=by
 obtain ⟨o,es,ep,ho,hd,hk,_,hm⟩:=n;refine ⟨o,ho,λname=>?_⟩;have e:=hm name;unfold nsFind findBy at e;rw [<-Array.find?_toList] at e;unfold W.lookIn;rw [hd];dsimp only;split
 ·rename_i y q;rw [q] at e;exact congrArg some e
 ·rename_i q;rw [q] at e;have a:es.toList.any (·.refKey)=false:=by
   rw [List.any_eq_false];intro y hy;obtain ⟨z,t,hkey⟩:=hk y (Array.mem_toList_iff.mp hy);simp [DictEntry.refKey,hkey]
  have a':¬ es.toList.any (·.refKey)=true:=by rw [a];exact Bool.false_ne_true
  rw [if_neg a'];exact congrArg some e
theorem ObjM.look {h:Heap}{x dx C:Addr}{mA:Str->Option Value}(I:ObjM h x dx C mA):∃od,W.InstAt h x (W.instObj C dx) C (some od)/\∀name,W.lookIn name od=some (mA name):=
 let ⟨od,ho,hl⟩:=We I.ns
 ⟨od,⟨I.obj,rfl,rfl,ho⟩,hl⟩
theorem RelO.some_of {v:V}{o:Option Value}(r:RelO (some v) o):∃u,o=some u/\RelV v u:=by
 cases o with
 | none=>exact (show False from r).elim
 | some u=>exact ⟨u,rfl,r⟩
section
variable {P:Program}{w:World}{H H':Hp}{h h':Heap}{a C dx:Addr}{fs fs':List (Str×V)}
theorem YH (hok:HOk P w H h)(e:H a=some (.ins C dx fs)):∃mA,ObjM h a dx C mA/\(∀f,RelO (fs.lookup f) (mA f))/\PySem.Within mA (fs.map (·.1))/\fs.length<=1000/\H dx=some (.own a):=by
 obtain ⟨d,z,ne,ob,mA,n,r,q⟩:=(show ObjOk P w H h a (.ins C dx fs) from hok a _ e);exact ⟨mA,⟨ob,n,ne⟩,r,q,z,d⟩
end
structure Cls (K:W.Frag)(C:Addr):Prop where
 pg:W.plainGet K C Str.empty=true
 hd:W.hasDictIn K C=true
 po:W.plainOver K C=true
 sa:W.findIn K (.ref C) "__setattr__" = some (some (.builtin "object.__setattr__"))
theorem Cls.get {K:W.Frag}{C:Addr}(c:Cls K C)(f:Str):W.plainGet K C f=true:=c.pg
section
variable {X:Cx}{qQ:List (Addr×Obj)}{σ:St}{H:Hp}{s:Shared}{A:Around}{E:Value->Shared->Prop}{Q:Value->Shared->Prop}{c:Value}{b:Bool}
inductive VN (K:W.Frag)(H:Hp):V->Value->Prop where
 | non:VN K H .non (.type "NoneType")
 | bl (x:Bool):VN K H (.bl x) (.type "bool")
 | int (i:Int):VN K H (.int i) (.type "int")
 | str (x:Str):VN K H (.str x) (.type "str")
 | flt (x:UInt64):VN K H (.flt x) (.type "float")
 | lst {a:Addr} {xs:List V} (e:H a=some (.lst xs)):VN K H (.ref a) (.type "list")
 | frz {a:Addr} {o:Obj} {xs:List V} (e:H a=some (.frz o (.lst xs))):VN K H (.ref a) (.type "list")
 | tup {a:Addr} {xs:List V} (e:H a=some (.tup xs)):VN K H (.ref a) (.type "tuple")
 | dK {a:Addr} {kvs:List (Key×V)} (e:H a=some (.dK kvs)):VN K H (.ref a) (.type "dict")
 | dT {a:Addr} {kvs:List (List Key×V)} (e:H a=some (.dT kvs)):VN K H (.ref a) (.type "dict")
 | ins {a C dx:Addr} {fs:List (Str×V)} (e:H a=some (.ins C dx fs)) (cl:Cls K C) (ha:W.findIn K (.ref C) "__class__" = some (some (.builtin "object.__class__")))
   (hn:W.specialIn K (.builtin "object.__class__") "__get__" = some (some (.builtin "getset_descriptor.__get__"))) (htk:W.takesIn K (.builtin "object.__class__")=some true)
   (hm:W.mroIn K C (.type "object")=some true):VN K H (.ref a) (.ref C)
theorem Wf {x:V}{u t:Value}(I:Inv X qQ σ H s)(rx:RelV x u)(ty:VN X.K H x t)(e:W.kitOne X.K t c=some b)(h:∀tk,Q (.bool b) { s with toks:=tk }) :
  wpAny (model X.prog X.w) A (call (.builtin "isinstance") [u,c]) Q E s:=by
 cases ty with
 | non=>cases (show u=Value.none from rx);exact W.kia_one W.kitx_none I.kIn True.intro e (λz=>nomatch z) h
 | bl y=>cases (show u=Value.bool y from rx);exact W.kia_one W.kitx_bool I.kIn True.intro e (λz=>nomatch z) h
 | int i=>obtain ⟨t,q⟩:=(show ∃t,u=Value.int i t from rx);cases q;exact W.kia_one W.kitx_int I.kIn True.intro e (λz=>nomatch z) h
 | str y=>obtain ⟨t,q⟩:=(show ∃t,u=Value.str y t from rx);cases q;exact W.kia_one W.kitx_str I.kIn True.intro e (λz=>nomatch z) h
 | flt y=>obtain ⟨t,q⟩:=(show ∃t,u=Value.float y t from rx);cases q;exact W.kia_one W.kitx_float I.kIn True.intro e (λz=>nomatch z) h
 | @lst a xs ea=>
  cases (show u=Value.ref a from rx);obtain ⟨_,_,n,_,h1⟩:=(show ObjOk X.prog X.w H s.heap a (.lst xs) from I.hok a _ ea);exact W.kia_one W.kitx_list I.kIn ⟨_,h1,rfl⟩ e (λz=>nomatch z) h
 | @frz a ob xs ea=>
  cases (show u=Value.ref a from rx);obtain ⟨_,_,_,n,_,h1⟩:=(show ObjOk X.prog X.w H s.heap a (.frz ob (.lst xs)) from I.hok a _ ea);exact W.kia_one W.kitx_list I.kIn ⟨_,h1,rfl⟩ e (λz=>nomatch z) h
 | @tup a xs ea=>
  cases (show u=Value.ref a from rx);obtain ⟨_,_,_,p⟩:=(show ObjOk X.prog X.w H s.heap a (.tup xs) from I.hok a _ ea);obtain ⟨o,h1,h2,_⟩:=p;exact W.kia_one W.kitx_tuple I.kIn ⟨o,h1,h2⟩ e (λz=>nomatch z) h
 | @dK a kvs ea=>
  cases (show u=Value.ref a from rx);obtain ⟨_,_,vs,_,p⟩:=(show ObjOk X.prog X.w H s.heap a (.dK kvs) from I.hok a _ ea);obtain ⟨o,es,ep,h1,h2,_⟩:=p;exact W.kia_one W.kitx_dict I.kIn ⟨o,h1,h2.1⟩ e (λz=>nomatch z) h
 | @dT a kvs ea=>
  cases (show u=Value.ref a from rx);obtain ⟨_,_,xs,_,o,es,ep,h1,h2,_⟩:=(show ObjOk X.prog X.w H s.heap a (.dT kvs) from I.hok a _ ea);exact W.kia_one W.kitx_dict I.kIn ⟨o,h1,h2.1⟩ e (λz=>nomatch z) h
 | @ins a C dx fs ea cl ha hn htk hm=>
  cases (show u=Value.ref a from rx);obtain ⟨mA,O,_⟩:=YH I.hok ea;obtain ⟨od,J,_⟩:=O.look;exact W.kia_one (W.kitx_own (cl.get _) cl.hd ha hn htk hm) I.kIn J e (λz=>nomatch z) h
end
end L2
namespace L2
open PySem PySem.Spec PyProof.Rows
structure Room (k:Nat)(A:Around):Prop where
 hd:A.handled=none
 dp:A.depth+3 * k+5<recursionLimit
 un:A.units+16 * k+200<cLine
theorem Room.mono {j k:Nat}{A:Around}(r:Room k A)(h:j<=k):Room j A:=⟨r.hd,by have:=r.dp;lia,by have:=r.un;lia⟩
theorem Room.deeper {k:Nat}{A:Around}(r:Room (k+1) A)(env:Env):Room k (A.deeper env):=
 ⟨r.hd,by have:=r.dp;show A.depth+1+3 * k+5<_;lia,by have:=r.un;show A.units+3+16 * k+200<_;lia⟩
theorem Room.depth {k:Nat}{A:Around}(r:Room k A):A.depth<recursionLimit:=by have:=r.dp;lia
def Zat:TA:=λ_ H Q=>Q [] H
def Xr (ta:TE)(tr:TA):TA:=λσ H Q=>ta σ H λx H1=>tr σ H1 λxs H2=>Q (x::xs) H2
section
variable {X:Cx}{e:Expr}{es:List Expr}{te:TE}{t:TA}{pos:Pos}
theorem Ge:PA X [] Zat:=λ_ _ _ _ H Q I h=>Calls.spliced_nil ⟨[],H,I,.nil,h⟩
theorem Ga (ha:PE X e te)(hr:PA X es t)(hs:starEach (e::es) X.env=(false,eval e X.env)::starEach es X.env:=by rfl):PA X (e::es) (Xr te t):=by
 intro pos qQ s σ H Q I h;rw [hs];show wpAny _ _ (spliced ((false,eval e X.env)::backTo pos (starEach es X.env))) _ _ s;refine Calls.spliced_cons (thn (ha qQ s σ H _ I h) λu s1 ⟨x,H1,I1,r1,q1⟩=>?_);exact thn (hr pos qQ s1 σ H1 _ I1 q1) λus s2 ⟨xs,H2,I2,r2,q2⟩=>⟨x::xs,H2,I2,.cons r1 r2,q2⟩
def Zbp (t:TA):TE:=λσ H Q=>t σ H λxs H1=>xs.length<=sizeLine/\∀p,H1 p=none->Q (.ref p) (upd H1 p (.tup xs))
def Zb5 (t:TA):TE:=λσ H Q=>t σ H λxs H1=>xs.length<=sizeLine/\∀p,H1 p=none->Q (.ref p) (upd H1 p (.lst xs))
theorem JF {x1}(h:PA X es t):PE X (.Tuple es x1 pos) (Zbp t):=by
 intro qQ s σ H Q I hq;refine wpAny_Tuple_spliced (thn (h pos qQ s σ H _ I hq) λus s1 ⟨xs,H1,I1,r,z,q⟩=>⟨by rw [<-r.length];exact z,?_⟩);have hf:H1 s1.heap.objs.size=none:=I1.hok.fresh (Nat.le_refl _);refine ⟨.ref s1.heap.objs.size,upd H1 s1.heap.objs.size (.tup xs),I1.laid (t':=s1.toks) (λb u e=>Heap.get?_push_of_some _ e) (Nat.le_refl _) ?_,rfl,q _ hf⟩;exact ⟨z,us,r,⟨_,Heap.get?_push_size _ rfl,rfl,_,rfl⟩⟩
theorem GH (h:PA X es t):PE X (.List es pos) (Zb5 t):=by
 intro qQ s σ H Q I hq;refine wpAny_List_spliced (thn (h pos qQ s σ H _ I hq) λus s1 ⟨xs,H1,I1,r,z,q⟩=>⟨by rw [<-r.length];exact z,?_⟩);have hf:H1 s1.heap.objs.size=none:=I1.hok.fresh (Nat.le_refl _);refine ⟨.ref s1.heap.objs.size,upd H1 s1.heap.objs.size (.lst xs),I1.laid (t':=s1.toks) (λb u e=>Heap.get?_push_of_some _ e) (Nat.le_refl _) ?_,rfl,q _ hf⟩;exact ⟨z,us,0,r,Heap.get?_push_size _ rfl⟩
end
abbrev Sp:=List V->Hp->VK->XK->Prop
abbrev CXT:=List Env->Hp->Shared->XK->Value->Shared->Prop
structure Zae (P:Program)(w:World)(K:W.Frag)(mg:Str->Option Value)(base:Heap)(A:Around)(outer:List Env)(s:Shared)(H:Hp):Prop where
 frames:A.frames=some outer
 mod:Mod K mg base
 bs:∀b o,base.get? b=some o->s.heap.get? b=some o/\H b=none
 bsz:base.objs.size<=s.heap.objs.size
 funs:s.heap.FunFrames base outer
 frf:∀b∈frs outer,H b=none
 hok:HOk P w H s.heap
 bare:AllBare s.gens
def CE (outer:List Env)(P:Program)(w:World)(H:Hp)(s:Shared)(Q:VK)(u:Value)(s':Shared):Prop:=
 ∃v H',s'.os=s.os/\AllBare s'.gens/\Un (frs outer) [] H H' s.heap s'.heap/\HOk P w H' s'.heap/\RelV v u/\Q v H'
def CR (CX:CXT)(outer:List Env)(P:Program)(w:World)(H:Hp)(s:Shared)(Q:VK)(E:XK)(r:Result)(s':Shared):Prop:=
 match r with
 | .ok (.ret u)=>CE outer P w H s Q u s'
 | .ok _=>False
 | .error e=>CX outer H s E e s'
structure GD (P:Program)(w:World)(K:W.Frag)(mg:Str->Option Value)(base:Heap)(CX:CXT)(k:Nat)(f:Addr)(fd:FuncData)(ps:List Str)(sp:Sp):Prop where
 len:∀vs H Q E,sp vs H Q E->vs.length=ps.length
 run:∀(A:Around)(outer:List Env)(s:Shared)(H:Hp)(args:Args)(us:List Value)(vs:List V)(Q:VK)(E:XK),Room k A->Zae P w K mg base A outer s H->BindsTo s fd args (ps.zip us)->Vals vs us->sp vs H Q E ->
  codeAny (model P w) A (.call (.ref f) args) (CR CX outer P w H s Q E) s
section
variable {X:Cx}{qQ:List (Addr×Obj)}{σ:St}{H:Hp}{s s':Shared}
theorem Inv.env0 (I:Inv X qQ σ H s):Zae X.prog X.w X.K X.mg X.base X.A X.stack s H:=
 ⟨I.ok.frames,I.ok.mod,I.bs,Nat.le_trans I.ok.bsz I.sz,I.stack,I.stkFree,I.hok,I.bare⟩
theorem Inv.after {Q:VK}{u:Value}(I:Inv X qQ σ H s)(h:CE X.stack X.prog X.w H s Q u s'):EP X qQ σ Q u s':=by
 obtain ⟨v,H',os,bare,un,hok,r,q⟩:=h;obtain ⟨hh,g,d,t,os'⟩:=s';obtain rfl:os'=s.os:=os;exact ⟨v,H',I.call (h':=hh) (g':=g) (d':=d) (t':=t) (ch:=[]) un hok bare (λb z=>absurd z (by simp)),r,q⟩
end
def Zau (sp:Sp)(dvs:List V)(E:XK)(t:TA):TE:=λσ H Q=>t σ H λvs H1=>sp (vs++dvs) H1 Q E
def Binds (K:W.Frag)(fd:FuncData)(ps:List Str)(ds:List Value):Prop:=
 ∀(s:Shared)(us:List Value),K.In s.heap->(us++ds).length=ps.length->BindsTo s fd ⟨us,[]⟩ (ps.zip (us++ds))
theorem Binds.all {K:W.Frag}{fd:FuncData}{ps:List Str}(h:∀us:List Value,us.length=ps.length->bindArgs fd ⟨us,[]⟩=pure (ps.zip us)):Binds K fd ps []:=λs us _ hl=>by
 rw [List.append_nil] at hl ⊢;exact .of_eq (h us hl)
def Ue (CX:CXT)(X:Cx)(E:XK):Prop:=∀(qQ:List (Addr×Obj))(σ:St)(H:Hp)(s:Shared)(e:Value)(s':Shared),Inv X qQ σ H s->CX X.stack H s E e s'->X.xe e s'
section
variable {X:Cx}{CX:CXT}{k:Nat}{f C:Addr}{fd:FuncData}{ps:List Str}{sp:Sp}{dvs:List V}{ds:List Value}{E:XK}{x m:Str}{p pos apos:Pos}{e o:Expr}{es:List Expr}{ta:TE}{t:TA}
theorem Zz {qQ:List (Addr×Obj)}{σ:St}{H:Hp}{s:Shared}{Q:VK}{us:List Value}{vs:List V}(F:GD X.prog X.w X.K X.mg X.base CX k f fd ps sp)(hr:Room k X.A)(hb:Binds X.K fd ps ds)(hd:Vals dvs ds)(hx:Ue CX X E)(I:Inv X qQ σ H s)(r:Vals vs us)(h:sp (vs++dvs) H Q E):wpAny (model X.prog X.w) X.A (call (.ref f) us) (EP X qQ σ Q) X.xe s:=by
 have r2:Vals (vs++dvs) (us++ds):=r.append hd;have hl:(us++ds).length=ps.length:=by rw [<-r2.length];exact F.len _ _ _ _ h
 refine wpAny_call (codeAny_mono (F.run X.A X.stack s H ⟨us,[]⟩ (us++ds) (vs++dvs) Q E hr I.env0 (hb s us I.kIn hl) r2 h) λr s' hq=>?_);cases r with
 | error e=>exact hx qQ σ H s e s' I hq
 | ok fl=>
  cases fl with
  | ret u=>exact I.after hq
  | next=>exact False.elim hq
  | brk=>exact False.elim hq
  | cont=>exact False.elim hq
theorem Gi (F:GD X.prog X.w X.K X.mg X.base CX k f fd ps sp)(hr:Room k X.A)(hg:Gl X x)(hm:X.mg x=some (.ref f))(hk:W.keepIn X.K (.ref f)=true)(hb:Binds X.K fd ps ds)(hd:Vals dvs ds)(hx:Ue CX X E)(ha:PA X (e::es) t)(hdb:(x == ("__debug__" : Str))=false:=by decide)(he:starEach (e::es) X.env=(false,eval e X.env)::starEach es X.env:=by rfl)(hpl:(backTo pos (starEach es X.env)).any (·.1)=false:=by rfl) :
  PE X (.Call (.Name x p) (e::es) [] pos) (Zau sp dvs E t):=by
 intro qQ s σ H Q I h;refine wpAny_Call_Name_kw (Ob I hg hm ?_ hdb);refine W.callWith_K (h₀:=X.base) I.ok.mod.kin hk (thn (ha pos qQ s σ H _ I h) λus s1 ⟨vs,H1,I1,r,q⟩=>⟨I1.kIn,?_⟩) he hpl;exact Zz F hr hb hd hx I1 r q
end
structure Go (N P:List Str)(sc:Scope):Prop where
 kind:sc.kind=.function
 co:sc.isCoroutine=false
 gen:sc.isGenerator=false
 nd:N.Nodup
 pre:N.take P.length=P
 par:∀x∈P,sc.names.lookup x=some .local\/sc.names.lookup x=some .cell
 nofree:∀y∈sc.names,y.2≠.free
theorem Uf {kindOf:Str->Option NameKind}{x:Str}:∀{binds:List (Str×Value)}{m:Str->Option Value},(∀v,(x,v) ∉ binds)->bindL kindOf binds m x=m x
 | [],_,_=>rfl
 | (n,v)::r,m,h=>by
  unfold bindL;rw [Uf λw hw=>h w (List.mem_cons_of_mem _ hw)];split
  ·have:x≠n:=by rintro rfl;exact h v List.mem_cons_self
   simp [this]
  ·rfl
theorem Ug {kindOf:Str->Option NameKind}{x:Str}:∀{binds:List (Str×Value)}{m:Str->Option Value},(∀v,(x,v) ∉ binds)->bindC kindOf binds m x=m x
 | [],_,_=>rfl
 | (n,v)::r,m,h=>by
  unfold bindC;rw [Ug λw hw=>h w (List.mem_cons_of_mem _ hw)];split
  ·rfl
  ·have:x≠n:=by rintro rfl;exact h v List.mem_cons_self
   simp [this]
theorem Uh {kindOf:Str->Option NameKind}{x:Str}{v:Value}:∀{P:List Str}{vs:List Value}{i:Nat}{m:Str->Option Value},P.Nodup->P[i]?=some x->vs[i]?=some v->kindOf x=some .local ->
  bindL kindOf (P.zip vs) m x=some v
 | [],_,_,_,_,h,_,_=>by simp at h
 | _::_,[],_,_,_,_,h,_=>by simp at h
 | p::P,w::vs,0,m,nd,h1,h2,hk=>by
  simp at h1 h2;subst h1;subst h2;show bindL kindOf ((p,w)::P.zip vs) m p=_;unfold bindL;rw [Uf λv hv=>(List.nodup_cons.mp nd).1 (List.of_mem_zip hv).1,if_pos hk];simp
 | p::P,w::vs,i+1,m,nd,h1,h2,hk=>by
  show bindL kindOf ((p,w)::P.zip vs) m x=_;unfold bindL;exact Uh (i:=i) (List.nodup_cons.mp nd).2 (by simpa using h1) (by simpa using h2) hk
theorem Ui {kindOf:Str->Option NameKind}{x:Str}{v:Value}:∀{P:List Str}{vs:List Value}{i:Nat}{m:Str->Option Value},P.Nodup->P[i]?=some x->vs[i]?=some v->kindOf x≠some .local ->
  bindC kindOf (P.zip vs) m x=some v
 | [],_,_,_,_,h,_,_=>by simp at h
 | _::_,[],_,_,_,_,h,_=>by simp at h
 | p::P,w::vs,0,m,nd,h1,h2,hk=>by
  simp at h1 h2;subst h1;subst h2;show bindC kindOf ((p,w)::P.zip vs) m p=_;unfold bindC;rw [Ug λv hv=>(List.nodup_cons.mp nd).1 (List.of_mem_zip hv).1,if_neg hk];simp
 | p::P,w::vs,i+1,m,nd,h1,h2,hk=>by
  show bindC kindOf ((p,w)::P.zip vs) m x=_;unfold bindC;exact Ui (i:=i) (List.nodup_cons.mp nd).2 (by simpa using h1) (by simpa using h2) hk
def ON (N:List Str)(vs:List V):St:=vs.map some++List.replicate (N.length-vs.length) none
def Xh (CX:CXT)(P:Program)(w:World)(K:W.Frag)(mg:Str->Option Value)(base:Heap)(N:List Str)(qual:Str)(scope:Scope)(f:Addr)(cd:Value)(A:Around)(outer:List Env)(s:Shared)(H:Hp)(E:XK):Cx where
 prog:=P
 w:=w
 K:=K
 mg:=mg
 base:=base
 A:=A.deeper (envOfC qual scope s.heap.objs.size f cd)
 N:=N
 s₀:=s
 H₀:=H
 env:=envOfC qual scope s.heap.objs.size f cd
 outer:=outer
 stack:=envOfC qual scope s.heap.objs.size f cd::outer
 ex:=[]
 calm:=true
 fn:=λ_=>true
 pn:=[]
 xe:=λe s'=>wpAny (model P w) (A.deeper (envOfC qual scope s.heap.objs.size f cd)) (leaving (envOfC qual scope s.heap.objs.size f cd) e) (λ_ s''=>CX outer H s E e s'') (λe' s''=>CX outer H s E e' s'') s'
theorem Vd {sc:Scope}{n:Nat}{x:Str}(h:sc.names.lookup x=some .cell):∃c,(cellsFrom n sc.names []).lookup x=some c:=by
 have q:=W.cellsFrom_some sc.names n [] (.inl h);exact Option.isSome_iff_exists.mp q
theorem Wg {CX:CXT}{P:Program}{w:World}{K:W.Frag}{mg:Str->Option Value}{base:Heap}{N ps:List Str}{qual:Str}{scope:Scope}{f:Addr}{cd:Value}{A:Around}{outer:List Env}{s s1:Shared}{H:Hp}{E:XK}{us:List Value}{vs:List V}(S:Go N ps scope)(hd:A.handled=none)(e0:Zae P w K mg base A outer s H)(hl:vs.length=ps.length)(r:Vals vs us)(x:InCallC s s.heap.objs.size (bindL (envOfC qual scope s.heap.objs.size f cd).kindOf (ps.zip us) λ_=>none) (cellsFrom (s.heap.objs.size+1) scope.names []) (bindC (envOfC qual scope s.heap.objs.size f cd).kindOf (ps.zip us) λ_=>none) s1) :
  Inv (Xh CX P w K mg base N qual scope f cd A outer s H E) [] (ON N vs) H s1:=by
 have hpl:ps.length<=N.length:=by have:=congrArg List.length S.pre;rw [List.length_take] at this;lia
 obtain ⟨h1,tk,rfl,hk⟩:=x.done;have noA:∀b:Addr,b ∉ (Xh CX P w K mg base N qual scope f cd A outer s H E).ex:=λb z=>absurd (show b∈([]:List Addr) from z) (by simp);refine ⟨⟨e0.mod,S.kind,rfl,rfl,Nat.le_refl _,λy z c h1 h2=>?_,λy hy=>?_,λy c _ h=>?_,λ_=>hd,Around.frames_deeper e0.frames,.inr ⟨rfl,rfl⟩,λb z=>absurd z (noA b),e0.bs,e0.bsz,λb _ _=>noA b,λb z=>absurd z (noA b),e0.funs,e0.frf⟩,
  rfl,e0.bare,Un.kept hk,⟨_,x.toInCall.ns,λi y v h1 h2 h3=>?_⟩,λy c h=>⟨_,x.cell y c h⟩,e0.hok.fresh (Nat.le_refl _),λy c h=>?_,λp hp=>absurd (show p∈([]:List (Addr×Obj)) from hp) (by simp),e0.hok.kept hk,?_⟩
 ·exact name_of_addr x.apart (PySem.mem_of_lookup h1) (PySem.mem_of_lookup h2)
 ·have hy:scope.names.lookup y=some .cell\/scope.names.lookup y=some .free:=hy;rcases hy with hy | hy
  ·exact Vd hy
  ·exact absurd rfl (S.nofree _ (PySem.mem_of_lookup hy))
 ·exact Nat.le_of_lt (x.above y c (PySem.mem_of_lookup h))
 ·have hi:i<vs.length:=by
   unfold ON at h2;by_cases hi:i<vs.length
   ·exact hi
   ·rw [List.getElem?_append_right (by simpa using hi)] at h2;rw [List.getElem?_replicate] at h2;split at h2 <;> cases h2
  have ha:vs[i]?=some v:=by
   unfold ON at h2;rw [List.getElem?_append_left (by simpa using hi),List.getElem?_map] at h2;cases e:vs[i]? with
   | none=>rw [e] at h2;cases h2
   | some a=>rw [e] at h2;cases h2;rfl
  obtain ⟨u,hu,rv⟩:=r.get ha;have hp:ps[i]?=some y:=by
   rw [<-S.pre,List.getElem?_take_of_lt (by lia)];exact h1
  have ndP:ps.Nodup:=by rw [<-S.pre];exact S.nd.sublist (List.take_sublist _ _)
  refine ⟨u,rv,?_⟩;rcases S.par y (List.mem_of_getElem? hp) with k | k
  ·exact .inl ⟨k,Uh ndP hp hu k⟩
  ·obtain ⟨c,e⟩:=Vd (n:=s.heap.objs.size+1) k;refine .inr ⟨.inl k,c,e,?_⟩;have q:=x.cell y c e;rw [Ui ndP hp hu (by show scope.names.lookup y≠_;rw [k];decide)] at q;exact q
 ·exact e0.hok.fresh (Nat.le_of_lt (x.above y c (PySem.mem_of_lookup h)))
 ·unfold ON;show _=N.length;rw [List.length_append,List.length_map,List.length_replicate]
  lia
theorem ZA {CX:CXT}{P:Program}{w:World}{K:W.Frag}{mg:Str->Option Value}{base:Heap}{k:Nat}{f:Addr}{name qual:Str}{params:Arguments}{body:List Stmt}{scope:Scope}{dV kV doc pm cdv ct oc:Value}{an od:Option Addr}{osl:Array (Option Value)}{N ps:List Str}{sp:Sp}(lk:K.lookup f=some ⟨oc,od,.func (W.fnOf name qual params body scope dV kV doc pm an cdv ct),osl⟩)(hcd:W.codeIn K cdv qual=true)(S:Go N ps scope)(len:∀vs H Q E,sp vs H Q E->vs.length=ps.length)(qG:∀(A:Around)(outer:List Env)(s:Shared)(H:Hp)(vs:List V)(Q:VK)(E:XK),Room k (A.deeper (envOfC qual scope s.heap.objs.size f cdv))->sp vs H Q E ->
   ∃t,PSs (Xh CX P w K mg base N qual scope f cdv A outer s H E) body t/\t { nx:=λ_ H'=>Q .non H',rt:=Q } (ON N vs) H) :
  GD P w K mg base CX (k+1) f (W.fnOf name qual params body scope dV kV doc pm an cdv ct) ps sp:=by
 refine ⟨len,λA outer s H args us vs Q E hr e0 hb r hsp=>?_⟩;have hl:=len _ _ _ _ hsp;have KX:K.In s.heap:=e0.mod.kin.keeps λb o e=>(e0.bs b o e).1;have lim:s.heap.NoLimit:=e0.mod.nolimit.keeps λb o e=>(e0.bs b o e).1;have hkind:∀y∈ps.zip us,scope.names.lookup y.1=some .local\/(scope.names.lookup y.1=some .cell/\((cellsFrom (s.heap.objs.size+1) scope.names []).lookup y.1).isSome=true):=λ⟨n,v⟩ hy=>by
  rcases S.par n (List.of_mem_zip hy).1 with q | q
  ·exact .inl q
  ·exact .inr ⟨q,W.cellsFrom_some _ _ _ (.inl q)⟩
 refine codeAny_call_function hr.depth (KX _ _ lk) rfl S.co S.gen rfl (W.codeRec_of KX hcd) (hb _ _ _ _ ?_);refine wpAny_newFunctionEnv_cells S.kind hkind λenv he s1 x=>?_;subst he;refine ⟨lim.keeps x.toInCall.keep,codeAny_func ?_⟩;obtain ⟨t,ht,hq⟩:=qG A outer s H vs Q E (hr.deeper _) hsp;have I:Inv (Xh CX P w K mg base N qual scope f cdv A outer s H E) [] (ON N vs) H s1:=Wg S hr.hd e0 hl r x;refine wpAny_mono (ht [] s1 (ON N vs) H _ I hq) (λfl s' hs=>?_) λe s' hs=>hs;have fin:∀{σ':St}{H':Hp}{v:V}{u:Value},Inv (Xh CX P w K mg base N qual scope f cdv A outer s H E) [] σ' H' s'->RelV v u->Q v H'->CE outer P w H s Q u s':=
  λ{σ' H' v u} J rv q=>⟨v,H',J.os,J.bare,J.base,J.hok,rv,q⟩
 cases fl with
 | ret u=>
  obtain ⟨v,σ',H',J,rv,q⟩:=hs;exact fin J rv q
 | next=>
  obtain ⟨σ',H',J,q⟩:=hs;exact fin (v:=V.non) (u:=Value.none) J rfl q
 | brk=>
  obtain ⟨_,_,_,q⟩:=hs;exact False.elim q
 | cont=>
  obtain ⟨_,_,_,q⟩:=hs;exact False.elim q
end L2
namespace L2
open PySem PySem.Spec PyProof.Rows
section
variable {X:Cx}{x:Str}{p pos:Pos}{e:Expr}{es:List Expr}{t:TA}{id T:String}{r:List V->Hp->VK->Prop}
def tCB (r:List V->Hp->VK->Prop)(t:TA):TE:=λσ H Q=>t σ H λvs H1=>r vs H1 Q
theorem Gz (hc:Jx X (.builtin id) r)(hg:Gl X x)(hm:X.mg x=none)(hv:bootBuiltins x=some (.builtin id))(ha:PA X (e::es) t)(hn:x ≠ "__name__" := by decide)(hdb:(x == ("__debug__" : Str))=false:=by decide)(he:starEach (e::es) X.env=(false,eval e X.env)::starEach es X.env:=by rfl)(hpl:(backTo pos (starEach es X.env)).any (·.1)=false:=by rfl):PE X (.Call (.Name x p) (e::es) [] pos) (tCB r t):=by
 intro qQ s σ H Q I h;refine wpAny_Call_Name_kw (Oy I hg hm hv ?_ hn hdb);exact PyProof.Rows.callWith_builtin1 (thn (ha pos qQ s σ H _ I h) λus s1 ⟨vs,H1,I1,r1,q1⟩=>hc qQ s1 σ H1 vs us Q I1 r1 q1) he hpl
theorem Jh (hc:Jx X (.type T) r)(hg:Gl X x)(hm:X.mg x=none)(hv:bootBuiltins x=some (.type T))(ha:PA X (e::es) t)(hn:x ≠ "__name__" := by decide)(hdb:(x == ("__debug__" : Str))=false:=by decide)(he:starEach (e::es) X.env=(false,eval e X.env)::starEach es X.env:=by rfl)(hpl:(backTo pos (starEach es X.env)).any (·.1)=false:=by rfl):PE X (.Call (.Name x p) (e::es) [] pos) (tCB r t):=by
 intro qQ s σ H Q I h;refine wpAny_Call_Name_kw (Oy I hg hm hv ?_ hn hdb);exact PyProof.Rows.callWith_type1 (thn (ha pos qQ s σ H _ I h) λus s1 ⟨vs,H1,I1,r1,q1⟩=>hc qQ s1 σ H1 vs us Q I1 r1 q1) he hpl
end
end L2
namespace HT
open PySem PyProof.Rows
section
variable {prog:Program}{w:World}{A:Around}{E:Value->Shared->Prop}{s:Shared}
def sIx (n d:Nat):Option Int->Nat
 | none=>d
 | some v=>if v<0 then (v+(n:Int)).toNat else min v.toNat n
theorem sIx_none (n d:Nat):sIx n d none=d:=rfl
theorem sIx_nat (n d k:Nat):sIx n d (some (k:Int))=min k n:=by
 show (if (k:Int)<0 then ((k:Int)+(n:Int)).toNat else min (k:Int).toNat n)=min k n;rw [if_neg (by lia),Int.toNat_natCast]
end
end HT
namespace L2
open PySem PySem.Spec PyProof.Rows
abbrev TO:=St->Hp->(Option Int->Hp->Prop)->Prop
def PO (X:Cx)(e:Option Expr)(t:TO):Prop:=
 ∀(qQ:List (Addr×Obj))(s:Shared)(σ:St)(H:Hp)(Q:Option Int->Hp->Prop),Inv X qQ σ H s->t σ H Q ->
  wpAny (model X.prog X.w) X.A (evalPart e X.env) (λu s'=>∃o H',Inv X qQ σ H' s'/\IsPart u o/\Q o H') X.xe s
def YI:TO:=λ_ H Q=>Q none H
def Zav (t:TE):TO:=λσ H Q=>t σ H λx H1=>∃i,x=.int i/\Q (some i) H1
section
variable {X:Cx}{e:Expr}{te:TE}{lo hi:Option Expr}{tl th:TO}{pos p2:Pos}
theorem YJ:PO X none YI:=by
 intro qQ s σ H Q I h;rw [evalPart_none];exact wpAny_pure ⟨none,H,I,.none,h⟩
theorem YK (h:PE X e te):PO X (some e) (Zav te):=by
 intro qQ s σ H Q I hw;rw [evalPart_some];refine thn (h qQ s σ H _ I hw) λu s1 ⟨x,H1,I1,r1,q1⟩=>?_;obtain ⟨i,rfl,q⟩:=q1;obtain ⟨t,rfl⟩:=r1;exact ⟨some i,H1,I1,.int i t,q⟩
def SlR (X:Cx)(r:V->Option Int->Option Int->Hp->VK->Prop):Prop:=
 ∀(qQ:List (Addr×Obj))(s:Shared)(σ:St)(H:Hp)(x:V)(v vl vu:Value)(lo hi:Option Int)(sl:Addr)(Q:VK),Inv X qQ σ H s->RelV x v->s.heap.IsSliceOf sl vl vu .none->IsPart vl lo->IsPart vu hi->r x lo hi H Q ->
  ∃T id,typeLookup (.type T) "__getitem__" = pure (some (.builtin id))/\s.TypeIs v T/\wpAny (model X.prog X.w) X.A (getItem v (.ref sl)) (EP X qQ σ Q) X.xe s
def tSl (r:V->Option Int->Option Int->Hp->VK->Prop)(te:TE)(tl th:TO):TE:=λσ H Q=>te σ H λx H1=>tl σ H1 λl H2=>th σ H2 λu H3=>r x l u H3 Q
theorem Xs {r:V->Option Int->Option Int->Hp->VK->Prop}(hr:SlR X r)(he:PE X e te)(hl:PO X lo tl)(hu:PO X hi th):PE X (.Subscript e (.Slice lo hi none p2) pos) (tSl r te tl th):=by
 intro qQ s σ H Q I h;refine Subscript_ (thn (he qQ s σ H _ I h) λv s1 ⟨x,H1,I1,r1,q1⟩=>?_);refine wpAny_Slice (thn (hl qQ s1 σ H1 _ I1 q1) λvl s2 ⟨l,H2,I2,pl,q2⟩=>thn (hu qQ s2 σ H2 _ I2 q2) λvu s3 ⟨u,H3,I3,pu,q3⟩=>?_);rw [evalPart_none];refine wpAny_pure ?_;have I4:Inv X qQ σ H3 { s3 with heap:=s3.heap.push { cls:=.type "slice", data:=.fields #[vl,vu,.none] } }:=I3.kept (t':=s3.toks) λb ob q=>Heap.get?_push_of_some _ q;obtain ⟨T,id,hT,ht,hg⟩:=hr qQ { s3 with heap:=s3.heap.push { cls:=.type "slice", data:=.fields #[vl,vu,.none] } } σ H3 x v vl vu l u s3.heap.objs.size Q I4 r1 (Heap.IsSliceOf.new ..) pl pu q3;show wpAny (model X.prog X.w) X.A (subscriptTail e (.Slice lo hi none p2) v (.ref s3.heap.objs.size)) (EP X qQ σ Q) X.xe { s3 with heap:=s3.heap.push { cls:=.type "slice", data:=.fields #[vl,vu,.none] } };exact tail_any (ops:=[.ref s3.heap.objs.size,v]) ht hT hg (by with_unfolding_all rfl)
def Xu (xs:List V)(lo hi:Option Int):List V:=(xs.drop (HT.sIx xs.length 0 lo)).take (HT.sIx xs.length xs.length hi-HT.sIx xs.length 0 lo)
theorem UQ (xs:List V)(lo hi:Option Int):(Xu xs lo hi).length<=xs.length:=by
 unfold Xu;rw [List.length_take,List.length_drop]
 lia
end
end L2
namespace L2
open PySem PySem.Spec PyProof.Rows
def ixN (n:Nat)(i:Int):Option Nat:=if 0<=i then (if i<n then some i.toNat else none) else if -(n:Int)<=i then some (i+n).toNat else none
def atI {α:Type}(xs:List α)(i:Int):Option α:=(ixN xs.length i).bind λj=>xs[j]?
theorem Wh {n:Nat}{i:Int}{j:Nat}(h:ixN n i=some j):seqIndex? i n=some j/\j<n/\-(n:Int)<=i/\i<n:=by
 unfold ixN at h;by_cases h0:0<=i
 ·rw [if_pos h0] at h;by_cases h1:i<n
  ·rw [if_pos h1] at h;have e:i.toNat=j:=Option.some.inj h;exact ⟨by rw [seqIndex_of h0 h1,e],by lia,by lia,h1⟩
  ·rw [if_neg h1] at h;cases h
 ·rw [if_neg h0] at h;by_cases h1:-(n:Int)<=i
  ·rw [if_pos h1] at h;have e:(i+n).toNat=j:=Option.some.inj h;exact ⟨by rw [seqIndex_neg (by lia) h1,e],by lia,h1,by lia⟩
  ·rw [if_neg h1] at h;cases h
theorem Wi {α:Type}{xs:List α}{i:Int}{v:α}(h:atI xs i=some v):∃j,seqIndex? i xs.length=some j/\xs[j]?=some v/\j<xs.length/\-(xs.length:Int)<=i/\i<xs.length:=by
 unfold atI at h;cases e:ixN xs.length i with
 | none=>rw [e] at h;cases h
 | some j=>
  rw [e] at h;obtain ⟨h1,h2,h3,h4⟩:=Wh e;exact ⟨j,h1,h,h2,h3,h4⟩
theorem G3 {α:Type}{xs:List α}{j:Nat}{v:α}(h:xs[j]?=some v):atI xs (j:Int)=some v:=by
 have hj:j<xs.length:=(List.getElem?_eq_some_iff.mp h).1;have e:ixN xs.length (j:Int)=some j:=by
  unfold ixN;rw [if_pos (by lia),if_pos (by lia)];simp
 unfold atI;rw [e];exact h
def YL (b:Expr):Prop:=∀o i,subscripted b false o i=operate [o,i] (getItem o i)
def IxR (X:Cx)(r:R2):Prop:=
 ∀(value slice:Expr)(qQ:List (Addr×Obj))(s:Shared)(σ:St)(H:Hp)(x y:V)(v u:Value)(Q:VK),Inv X qQ σ H s->RelV x v->RelV y u->r x y H Q ->
  subscripted slice false v u=operate [v,u] (getItem v u)->wpAny (model X.prog X.w) X.A (subscriptTail value slice v u) (EP X qQ σ Q) X.xe s
def MtR (X:Cx)(id:String)(r:V->List V->Hp->VK->Prop):Prop:=
 ∀(qQ:List (Addr×Obj))(s:Shared)(σ:St)(H:Hp)(x:V)(xs:List V)(v:Value)(us:List Value)(Q:VK),Inv X qQ σ H s->RelV x v->Vals xs us->r x xs H Q ->
  wpAny (model X.prog X.w) X.A (call (.builtin id) (v::us)) (EP X qQ σ Q) X.xe s
section
variable {X:Cx}{a b:Expr}{ta tb:TE}{pos:Pos}
theorem G4 {r:R2}(hr:IxR X r)(ha:PE X a ta)(hb:PE X b tb)(hs:YL b):PE X (.Subscript a b pos) (tOp r ta tb):=by
 intro qQ s σ H Q I h;exact Subscript_ (Zar ha hb I h λv u s2 x y H2 I2 rx ry q=>hr a b qQ s2 σ H2 x y v u Q I2 rx ry q (hs _ _))
def Zbq (K:W.Frag):R2:=λx y H Q=>∃p xs i v,x=.ref p/\y=.int i/\SqL K H p xs/\atI xs i=some v/\Q v H
def Zbr (K:W.Frag):R2:=λx y H Q=>∃p xs i v,x=.ref p/\y=.int i/\SqT K H p xs/\atI xs i=some v/\Q v H
theorem YM:IxR X (Zbq X.K):=by
 intro value slice qQ s σ H x y v u Q I rx ry h hs;obtain ⟨p,xs,i,z,rfl,rfl,hq,he,q⟩:=h;cases rx;obtain ⟨t,rfl⟩:=ry;obtain ⟨its,r,pl,hz⟩:=I.list hq;obtain ⟨j,h1,h2,h3,h4,h5⟩:=Wi he;obtain ⟨w,ew,rw'⟩:=r.get h2;have hl:=r.length;have hn:=Og;have fin:EP X qQ σ Q w s:=⟨z,H,I,rw',q⟩;by_cases h0:0<=i
 ·have hj:i.toNat=j:=by
   rw [seqIndex_of h0 h5] at h1;exact Option.some.inj h1
  exact item_listR pl.isList h0 (by lia) (by rw [hj];simpa using ew) fin hs
 ·have hj:(i+(its.toArray.size:Int)).toNat=j:=by
   rw [seqIndex_neg (by lia) h4] at h1;rw [List.size_toArray,<-hl];exact Option.some.inj h1
  exact subscriptTail_builtinR (x:=w) pl.isList.typeIs slot_list_getitem.lookup
   (wpAny_getItem_list_neg (Q:=λr s'=>r=w/\EP X qQ σ Q r s') pl.isList (by lia) (by rw [List.size_toArray] <;> lia) (by lia) (by rw [hj];simpa using ew) ⟨rfl,fin⟩) hs
theorem ZB:IxR X (Zbr X.K):=by
 intro value slice qQ s σ H x y v u Q I rx ry h hs;obtain ⟨p,xs,i,z,rfl,rfl,hq,he,q⟩:=h;cases rx;obtain ⟨t,rfl⟩:=ry;obtain ⟨its,r,pl,hz⟩:=I.tuple hq;obtain ⟨j,h1,h2,h3,h4,h5⟩:=Wi he;obtain ⟨w,ew,rw'⟩:=r.get h2;have hl:=r.length;have hn:=Og;have fin:EP X qQ σ Q w s:=⟨z,H,I,rw',q⟩;exact subscriptTail_builtinR (x:=w) pl.typeIs slot_tuple_getitem.lookup
  (getItem_tuple (j:=j) (Q:=λr s'=>r=w/\EP X qQ σ Q r s') pl (by lia) (by lia) (by rw [List.size_toArray,<-hl];exact h1) (by simpa using ew) ⟨rfl,fin⟩) hs
theorem VO (its:List Value)(n j:Nat)(u:Value):Obj.mapSeq (·.setIfInBounds j u) { cls:=.type "list", data:=.seq its.toArray n }={ cls:=.type "list", data:=.seq (its.set j u).toArray n }:=by
 simp [Obj.mapSeq]
theorem Inv.lst {qQ:List (Addr×Obj)}{σ:St}{H:Hp}{s:Shared}{p:Addr}{xs:List V}(I:Inv X qQ σ H s)(h:H p=some (.lst xs)) :
  ∃(its:List Value)(n:Nat),Vals xs its/\s.heap.get? p=some { cls:=.type "list", data:=.seq its.toArray n }/\xs.length<=sizeLine:=by
 obtain ⟨z,its,n,r,e⟩:=I.hok p _ h;exact ⟨its,n,r,e,z⟩
theorem Inv.lstUpd {qQ:List (Addr×Obj)}{σ:St}{H:Hp}{s:Shared}{p:Addr}{xs ys:List V}{its its':List Value}{n n':Nat}{f:Obj->Obj}(I:Inv X qQ σ H s)(h:H p=some (.lst xs))(ho:s.heap.get? p=some { cls:=.type "list", data:=.seq its.toArray n })(hf:f { cls:=.type "list", data:=.seq its.toArray n }={ cls:=.type "list", data:=.seq its'.toArray n' })(r:Vals ys its')(hz:ys.length<=sizeLine)(t:Nat) :
  Inv X qQ σ (upd H p (.lst ys)) { s with heap:=s.heap.update p f,toks:=t }:=by
 have e:(s.heap.update p f).get? p=some { cls:=.type "list", data:=.seq its'.toArray n' }:=by
  rw [Heap.get?_update_self f ho (by rw [hf] <;> rfl),hf]
 refine I.write (x:=p) (e:=p) (by rw [h];trivial) (.inl rfl) (λb u hb q=>(Heap.get?_update_other _ _ (Ne.symm hb)).trans q) ⟨_,e⟩ ?_;exact ⟨hz,its',n',r,e⟩
def Zaw:V->V->V->Hp->(Hp->Prop)->Prop:=λo i v H Q=>∃p xs k j,o=.ref p/\i=.int k/\H p=some (.lst xs)/\ixN xs.length k=some j/\Q (upd H p (.lst (xs.set j v)))
theorem Jn:Zbj X Zaw:=by
 intro qQ s σ H o i v ov iv u Q I ro ri rv h;obtain ⟨p,xs,k,j,rfl,rfl,hp,hj,q⟩:=h;cases ro;obtain ⟨t,rfl⟩:=ri;obtain ⟨its,n,r,ho,hz⟩:=I.lst hp;obtain ⟨h1,h2,h3,h4⟩:=Wh hj;have hl:=r.length;have hn:=Og;have I':Inv X qQ σ (upd H p (.lst (xs.set j v))) { s with heap:=s.heap.update p (Obj.mapSeq (·.setIfInBounds j u)) }:=
  I.lstUpd hp ho (VO its n j u) (r.set rv j) (by rw [List.length_set];exact hz) s.toks
 by_cases h0:0<=k
 ·have hk:k.toNat=j:=by
   rw [seqIndex_of h0 h4] at h1;exact Option.some.inj h1
  exact W.ki_setAt ho h0 (by lia) (by rw [List.size_toArray,<-hl];exact h4) (by rw [hk];exact ⟨_,I',q⟩)
 ·have hk:(k+(its.toArray.size:Int)).toNat=j:=by
   rw [seqIndex_neg (by lia) h3] at h1;rw [List.size_toArray,<-hl];exact Option.some.inj h1
  exact W.ki_setBack ho (by lia) (by rw [List.size_toArray,<-hl];exact h3) (by lia) (by rw [hk];exact ⟨_,I',q⟩)
theorem Uj (lo hi:Option Int)(n:Nat):(sliceBounds lo hi none n).1=((HT.sIx n 0 lo:Nat):Int)/\(sliceBounds lo hi none n).2.1=((HT.sIx n n hi:Nat):Int)/\(sliceBounds lo hi none n).2.2=1:=by
 refine ⟨?_,?_,rfl⟩
 ·cases lo with
  | none=>simp [sliceBounds,HT.sIx]
  | some i=>
   simp only [sliceBounds,HT.sIx,Option.getD_none,show (1:Int) > 0 by decide,if_true];by_cases h:i<0
   ·simp only [h,if_true] <;> lia
   ·simp only [h,if_false] <;> lia
 ·cases hi with
  | none=>simp [sliceBounds,HT.sIx]
  | some i=>
   simp only [sliceBounds,HT.sIx,Option.getD_none,show (1:Int) > 0 by decide,if_true];by_cases h:i<0
   ·simp only [h,if_true] <;> lia
   ·simp only [h,if_false] <;> lia
theorem OO (its:List Value)(lo hi:Option Int):slicePick its.toArray lo hi none=((its.drop (HT.sIx its.length 0 lo)).take (HT.sIx its.length its.length hi-HT.sIx its.length 0 lo)).toArray:=by
 obtain ⟨h1,h2,h3⟩:=Uj lo hi its.toArray.size;unfold slicePick;rw [h1,h2,h3];simp only [sliceRange_one,pick_run,List.size_toArray] <;> rfl
def Zbs (K:W.Frag):V->Option Int->Option Int->Hp->VK->Prop:=λx lo hi H Q=>∃a xs,x=.ref a/\SqL K H a xs/\∀p,H p=none->Q (.ref p) (upd H p (.lst (Xu xs lo hi)))
theorem YN:SlR X (Zbs X.K):=by
 intro qQ s σ H x v vl vu lo hi sl Q I rx hs pl pu h;obtain ⟨a,xs,rfl,hx,q⟩:=h;cases rx;obtain ⟨its,r,ht,hz⟩:=I.list hx;have qV:=r.length;refine ⟨"list", _,slot_list_getitem.lookup,ht.isList.typeIs,?_⟩;refine wpAny_getItem_list_slice ht.isList hs pl pu .none (by simp) ?_ (by rw [List.size_toArray] <;> lia);rw [OO,<-qV];refine ⟨.ref s.heap.objs.size,_,I.laid (t':=s.toks) (o:=.lst (Xu xs lo hi)) (λb ob q=>Heap.get?_push_of_some _ q) (Nat.le_refl _) ?_,rfl,q _ (I.hok.fresh (Nat.le_refl _))⟩;exact ⟨Nat.le_trans (UQ xs lo hi) hz,_,0,(r.drop (HT.sIx xs.length 0 lo)).take (HT.sIx xs.length xs.length hi-HT.sIx xs.length 0 lo),Heap.get?_push_size _ rfl⟩
def Uk:V->Bool
 | .non=>true
 | .bl _=>true
 | .int _=>true
 | .str _=>true
 | _=>false
def eqV:V->V->Bool
 | .non,.non=>true
 | .bl a,.bl b=>a == b
 | .bl a,.int b=>(if a then 1 else 0) == b
 | .int a,.bl b=>a == (if b then 1 else 0)
 | .int a,.int b=>a == b
 | .str a,.str b=>a == b
 | _,_=>false
theorem ZC {A:Around}{s:Shared}{y x:V}{u v:Value}(ry:RelV y u)(rx:RelV x v)(fy:Uk y=true)(fx:Uk x=true):SeqAt.EqAt A s u v (eqV y x):=by
 cases y with
 | non=>
  cases ry;cases x with
  | non=>cases rx;exact SeqAt.EqAt.same _
  | bl b=>cases rx;exact SeqAt.EqAt.none_bool b
  | int b=>obtain ⟨t,rfl⟩:=rx;exact SeqAt.EqAt.none_int b t
  | str b=>obtain ⟨t,rfl⟩:=rx;exact SeqAt.EqAt.none_str b t
  | _=>exact absurd (show false=true from fx) Bool.false_ne_true
 | bl a=>
  cases ry;cases x with
  | non=>cases rx;exact SeqAt.EqAt.bool_none a
  | bl b=>cases rx;exact SeqAt.EqAt.bool_bool a b
  | int b=>obtain ⟨t,rfl⟩:=rx;exact SeqAt.EqAt.bool_int a b t
  | str b=>obtain ⟨t,rfl⟩:=rx;exact SeqAt.EqAt.bool_str a b t
  | _=>exact absurd (show false=true from fx) Bool.false_ne_true
 | int a=>
  obtain ⟨t',rfl⟩:=ry;cases x with
  | non=>cases rx;exact SeqAt.EqAt.int_none a t'
  | bl b=>cases rx;exact SeqAt.EqAt.int_bool a t' b
  | int b=>obtain ⟨t,rfl⟩:=rx;exact SeqAt.EqAt.int_int a t' b t
  | str b=>obtain ⟨t,rfl⟩:=rx;exact SeqAt.EqAt.int_str a t' b t
  | _=>exact absurd (show false=true from fx) Bool.false_ne_true
 | str a=>
  obtain ⟨t',rfl⟩:=ry;cases x with
  | non=>cases rx;exact SeqAt.EqAt.str_none a t'
  | bl b=>cases rx;exact SeqAt.EqAt.str_bool a t' b
  | int b=>obtain ⟨t,rfl⟩:=rx;exact SeqAt.EqAt.str_int a t' b t
  | str b=>obtain ⟨t,rfl⟩:=rx;exact SeqAt.EqAt.str_str a t' b t
  | _=>exact absurd (show false=true from fx) Bool.false_ne_true
 | _=>exact absurd (show false=true from fy) Bool.false_ne_true
def eqU (x:V)(u:Value):Bool:=match u with
 | .none=>eqV .non x
 | .bool b=>eqV (.bl b) x
 | .int i _=>eqV (.int i) x
 | .str z _=>eqV (.str z) x
 | _=>false
theorem Yi {x y:V}{u:Value}(r:RelV y u)(f:Uk y=true):eqU x u=eqV y x:=by
 cases y with
 | non=>cases r;rfl
 | bl b=>cases r;rfl
 | int i=>obtain ⟨t,rfl⟩:=r;rfl
 | str z=>obtain ⟨t,rfl⟩:=r;rfl
 | _=>exact absurd (show false=true from f) Bool.false_ne_true
theorem Oh {x:V}:∀{xs:List V}{us:List Value},Vals xs us->xs.all Uk=true->us.any (eqU x)=xs.any λy=>eqV y x
 | _,_,.nil,_=>rfl
 | y::xs,u::us,.cons r t,f=>by
  rw [List.all_cons,Bool.and_eq_true] at f;rw [List.any_cons,List.any_cons,Yi r f.1,Oh t f.2]
theorem JG {A:Around}{s:Shared}{x:V}{v:Value}(rx:RelV x v)(fx:Uk x=true):∀{xs:List V}{us:List Value},Vals xs us->xs.all Uk=true->∀u∈us,SeqAt.EqAt A s u v (eqU x u)
 | _,_,.nil,_=>λu hu=>by cases hu
 | y::xs,u::us,.cons r t,f=>λu' hu=>by
  rw [List.all_cons,Bool.and_eq_true] at f;rcases List.mem_cons.mp hu with rfl | hu
  ·rw [Yi r f.1];exact ZC r rx f.1 fx
  ·exact JG rx fx t f.2 u' hu
def inV (x:V)(xs:List V):Bool:=xs.any λy=>eqV y x
def rIn (K:W.Frag)(neg:Bool):R2:=λx y H Q=>∃p xs,y=.ref p/\(SqL K H p xs\/SqT K H p xs)/\Uk x=true/\xs.all Uk=true/\Q (.bl (if neg then !inV x xs else inV x xs)) H
theorem Wj:OpR X (compareOp .In) (rIn X.K false):=by
 intro qQ s σ H x y v u Q I rx ry h;obtain ⟨p,xs,rfl,hq,fx,fs,q⟩:=h;cases ry;rcases hq with hq | hq
 ·obtain ⟨its,r,pl,hz⟩:=I.list hq;refine SeqAt.in_listAt (eqU x) pl.isList (λw hw=>JG rx fx r fs w (by simpa using hw)) ⟨.bl _,H,I,rfl,?_⟩;rw [show its.toArray.any (eqU x)=its.any (eqU x) by simp,Oh r fs];exact q
 ·obtain ⟨its,r,pl,hz⟩:=I.tuple hq;refine SeqAt.in_tupleAt (eqU x) pl (λw hw=>JG rx fx r fs w (by simpa using hw)) ⟨.bl _,H,I,rfl,?_⟩;rw [show its.toArray.any (eqU x)=its.any (eqU x) by simp,Oh r fs];exact q
theorem Ul:OpR X (compareOp .NotIn) (rIn X.K true):=by
 intro qQ s σ H x y v u Q I rx ry h;obtain ⟨p,xs,rfl,hq,fx,fs,q⟩:=h;cases ry;rcases hq with hq | hq
 ·obtain ⟨its,r,pl,hz⟩:=I.list hq;refine SeqAt.notIn_listAt (eqU x) pl.isList (λw hw=>JG rx fx r fs w (by simpa using hw)) ⟨.bl _,H,I,rfl,?_⟩;rw [show its.toArray.any (eqU x)=its.any (eqU x) by simp,Oh r fs];exact q
 ·obtain ⟨its,r,pl,hz⟩:=I.tuple hq;refine SeqAt.notIn_tupleAt (eqU x) pl (λw hw=>JG rx fx r fs w (by simpa using hw)) ⟨.bl _,H,I,rfl,?_⟩;rw [show its.toArray.any (eqU x)=its.any (eqU x) by simp,Oh r fs];exact q
theorem Um:Jx X (.builtin "len") (λxs H Q=>∃p ys,xs=[.ref p]/\(SqL X.K H p ys\/SqT X.K H p ys)/\Q (.int ys.length) H):=by
 intro qQ s σ H xs us Q I r h;obtain ⟨p,ys,rfl,hq,q⟩:=h;obtain ⟨u,rfl,rx⟩:=YG r;cases rx;have hn:=Og;rcases hq with hq | hq
 ·obtain ⟨its,r',pl,hz⟩:=I.list hq;have qV:=r'.length;exact Calls.call_len_list pl.isList (by simp only [List.size_toArray] <;> lia) ⟨.int ys.length,H,I.tok _,⟨s.toks+1,by rw [List.size_toArray,qV]⟩,q⟩
 ·obtain ⟨its,r',pl,hz⟩:=I.tuple hq;have qV:=r'.length;exact len_tuple pl (by simp only [List.size_toArray] <;> lia) ⟨.int ys.length,H,I.tok _,⟨s.toks+1,by rw [List.size_toArray,qV]⟩,q⟩
theorem Uo:Jx X (.type "list") (λxs H Q=>∃p ys,xs=[.ref p]/\(SqL X.K H p ys\/SqT X.K H p ys)/\∀l,H l=none->Q (.ref l) (upd H l (.lst ys))):=by
 intro qQ s σ H xs us Q I r h;obtain ⟨p,ys,rfl,hq,q⟩:=h;obtain ⟨u,rfl,rx⟩:=YG r;cases rx;have fin:∀(its:List Value),Vals ys its->ys.length<=sizeLine->∀(h':Heap)(c':Nat),(∀b o',s.heap.get? b=some o'->h'.get? b=some o') ->
   h'.get? s.heap.objs.size=some { cls:=.type "list", dict:=none,data:=.seq its.toArray c',slots:=#[] }->EP X qQ σ Q (.ref s.heap.objs.size) { s with heap:=h' }:=λits r' hz h' c' kp e=>
  ⟨.ref s.heap.objs.size,_,I.laid (t':=s.toks) kp (Nat.le_refl _) (show ObjOk X.prog X.w _ h' _ (.lst ys) from ⟨hz,its,c',r',e⟩),rfl,q _ (I.hok.fresh (Nat.le_refl _))⟩
 rcases hq with hq | hq
 ·obtain ⟨its,r',pl,hz⟩:=I.list hq;have qV:=r'.length;obtain ⟨o,ho,hc,n,hd⟩:=pl.isList;exact call_list_seq p (.inl rfl) ho hc hd (λh' c' kp e=>fin its r' hz h' c' kp e) (by simp only [List.size_toArray] <;> lia)
 ·obtain ⟨its,r',pl,hz⟩:=I.tuple hq;have qV:=r'.length;obtain ⟨o,ho,hc,n,hd⟩:=pl;exact call_list_seq p (.inr rfl) ho hc hd (λh' c' kp e=>fin its r' hz h' c' kp e) (by simp only [List.size_toArray] <;> lia)
theorem OP:Jx X (.type "tuple") (λxs H Q=>∃p ys,xs=[.ref p]/\((SqL X.K H p ys/\∀l,H l=none->Q (.ref l) (upd H l (.tup ys)))\/(SqT X.K H p ys/\Q (.ref p) H))):=by
 intro qQ s σ H xs us Q I r h;obtain ⟨p,ys,rfl,h⟩:=h;obtain ⟨u,rfl,rx⟩:=YG r;cases rx;rcases h with ⟨hq,q⟩ | ⟨hq,q⟩
 ·obtain ⟨its,r',pl,hz⟩:=I.list hq;have qV:=r'.length;refine call_tuple_list pl.isList (λh' kp=>?_) (by simp only [List.size_toArray] <;> lia);have I1:Inv X qQ σ H { s with heap:=h' }:=I.kept (t':=s.toks) kp;have I2:Inv X qQ σ (upd H h'.objs.size (.tup ys)) { s with heap:=h'.push { cls:=.type "tuple", data:=.seq its.toArray } }:=
   I1.laid (t':=s.toks) (λb o e=>Heap.get?_push_of_some _ e) (Nat.le_refl _) (show ObjOk X.prog X.w _ _ _ (.tup ys) from ⟨hz,its,r',IsTup.new _ _⟩)
  exact ⟨.ref h'.objs.size,_,I2,rfl,q _ (I1.hok.fresh (Nat.le_refl _))⟩
 ·obtain ⟨its,r',pl,hz⟩:=I.tuple hq;exact call_tuple_same pl ⟨.ref p,H,I,rfl,q⟩
def tyV (K:W.Frag)(T:String)(x:V)(H:Hp):Prop:=match x with
 | .str _=>T = "str"
 | .int _=>T = "int"
 | .ref p=>(T = "list" /\ ∃xs,SqL K H p xs)\/(T = "tuple" /\ ∃o,K.lookup p=some o/\o.cls=.type "tuple" /\ o.dict=none) \/
   (T = "dict" /\ ((∃kvs,H p=some (.dK kvs))\/∃kvs,H p=some (.dT kvs)))\/(T = "set" /\ ∃S n,H p=some (.set S n))
 | _=>False
theorem ZD {qQ:List (Addr×Obj)}{σ:St}{H:Hp}{s:Shared}{T:String}{x:V}{v:Value}(I:Inv X qQ σ H s)(r:RelV x v)(ty:tyV X.K T x H) :
  s.TypeIs v T/\∀a,v=.ref a->∃ob,s.heap.get? a=some ob/\ob.dict=none:=by
 cases x with
 | str z=>
  obtain ⟨t,rfl⟩:=r;cases (show T = "str" from ty);exact ⟨typeIs_str s z t,λ_ e=>nomatch e⟩
 | int i=>
  obtain ⟨t,rfl⟩:=r;cases (show T = "int" from ty);exact ⟨typeIs_int s i t,λ_ e=>nomatch e⟩
 | ref p=>
  cases r;rcases ty with ⟨rfl,xs,hq⟩ | ⟨rfl,o,hk,hc,hd⟩ | ⟨rfl,hk⟩ | ⟨rfl,S,n,hk⟩
  ·obtain ⟨its,_,pl,_⟩:=I.list hq;refine ⟨pl.isList.typeIs,λa e=>?_⟩;cases e;obtain ⟨o,n,e,c,hd,_⟩:=pl;exact ⟨o,e,hd⟩
  ·refine ⟨⟨o,I.kIn p o hk,hc⟩,λa e=>?_⟩;cases e;exact ⟨o,I.kIn _ o hk,hd⟩
  ·have z:∃o,s.heap.get? p=some o/\o.ExactDict:=by
    rcases hk with ⟨kvs,hk⟩ | ⟨kvs,hk⟩
    ·obtain ⟨_,_,_,_,o,_,_,e,ex,_⟩:=I.hok p _ hk;exact ⟨o,e,ex⟩
    ·obtain ⟨_,_,_,_,o,_,_,e,ex,_⟩:=I.hok p _ hk;exact ⟨o,e,ex⟩
   obtain ⟨o,e,ex⟩:=z;refine ⟨⟨o,e,ex.1⟩,λa e2=>?_⟩;cases e2;exact ⟨o,e,ex.2.1⟩
  ·obtain ⟨o,_,_,_,e,ex,_⟩:=I.hok p _ hk;refine ⟨⟨o,e,ex.1⟩,λa e2=>?_⟩;cases e2;exact ⟨o,e,ex.2.1⟩
 | _=>exact False.elim ty
def tBM (K:W.Frag)(T:String)(r:V->List V->Hp->VK->Prop)(to:TE)(t:TA):TE:=λσ H Q=>to σ H λx H1=>tyV K T x H1/\t σ H1 λxs H2=>r x xs H2 Q
variable {o e:Expr}{es:List Expr}{to:TE}{t:TA}{name:Str}{apos qK:Pos}{T id:String}{r:V->List V->Hp->VK->Prop}
theorem Xv (pa:PlainAttrs T)(slot:Slot T name id)(hty:typeOf (.builtin id)=pure (.type "method_descriptor"))(hm:MtR X id r)(ho:PE X o to)(ha:PA X (e::es) t)(hbase:attributeBase o name X.env (eval o X.env)=eval o X.env:=by rfl)(hfew:((backTo qK (starEach (e::es) X.env)).all (λx=>!x.1) && (backToKw qK (keywordEach [] X.env)).all (λx=>x.1.isSome)
   && decide ((e::es).length+([]:List Keyword).length+(if ([]:List Keyword).isEmpty then 0 else 1)<30))=true:=by rfl)(hline:(apos.endLine == qK.line)=true:=by rfl)(hs:starEach (e::es) X.env=(false,eval e X.env)::starEach es X.env:=by rfl)(hplain:(backTo qK (starEach es X.env)).any (·.1)=false:=by rfl) :
  PE X (.Call (.Attribute o name apos) (e::es) [] qK) (tBM X.K T r to t):=by
 intro qQ s σ H Q I h;refine wpAny_Call_method_late hbase hfew hline rfl (thn (ho qQ s σ H _ I h) λv s1 ⟨x,H1,I1,r1,ty,q1⟩=>?_);obtain ⟨h1,h2⟩:=ZD I1 r1 ty;refine ⟨T,id,pa,slot,hty,h1,h2,?_⟩;have hA:=ha qK qQ s1 σ H1 _ I1 q1;rw [hs] at hA ⊢;refine Calls.callWith_builtin (by show (false || (backTo qK (starEach es X.env)).any (·.1))=false;rw [hplain] <;> rfl) (Calls.evalArgs_plain ?_);exact thn hA λus s2 ⟨vs,H2,I2,r2,q2⟩=>hm qQ s2 σ H2 x vs v us Q I2 r1 r2 q2
/- xs.append(e),list.index on a module's tuple .. are MtR facts of 06m -/
end
end L2
namespace L2
open PySem PySem.Spec PyProof.Rows
def MtM (X:Cx)(id:String)(r:V->List V->Hp->VK->Prop):Prop:=
 ∀(qQ:List (Addr×Obj))(s:Shared)(σ:St)(H:Hp)(x:V)(xs:List V)(v:Value)(us:List Value)(Q:VK),Inv X qQ σ H s->RelV x v->Vals xs us->r x xs H Q ->
  wpAny (model X.prog X.w) X.A (call (.builtin id) (v::us)) (EP X qQ σ Q) X.xe s
theorem Vals.one:∀{x:V}{us:List Value},Vals [x] us->∃u,us=[u]/\RelV x u
 | _,_,.cons r .nil=>⟨_,rfl,r⟩
theorem Vals.two:∀{x y:V}{us:List Value},Vals [x,y] us->∃u v,us=[u,v]/\RelV x u/\RelV y v
 | _,_,_,.cons r (.cons q .nil)=>⟨_,_,rfl,r,q⟩
theorem Vals.rep {xs:List V}{us:List Value}(h:Vals xs us):∀k:Nat,Vals (List.replicate k xs).flatten (List.replicate k us).flatten
 | 0=>.nil
 | k+1=>by
  rw [List.replicate_succ,List.replicate_succ,List.flatten_cons,List.flatten_cons];exact Vals.append h (Vals.rep h k)
theorem Up (its:List Value):∀(k:Nat)(acc:List Value),
  List.foldl (λx1 x2=>x1++x2) acc.toArray (List.replicate k its.toArray)=(acc++(List.replicate k its).flatten).toArray
 | 0,acc=>by simp
 | k+1,acc=>by
  have e:acc.toArray++its.toArray=(acc++its).toArray:=by simp
  have e2:(acc++its)++(List.replicate k its).flatten=acc++(List.replicate (k+1) its).flatten:=by
   rw [List.replicate_succ,List.flatten_cons,List.append_assoc]
  rw [<-e2,<-Up its k (acc++its),<-e,List.replicate_succ,List.foldl_cons]
section
variable {X:Cx}{qQ:List (Addr×Obj)}{σ:St}{H:Hp}{s:Shared}{l b:Addr}{xs ys zs:List V}
theorem Inv.lset {its its':List Value}{n:Nat}{f:Array Value->Array Value}{t':Nat}(I:Inv X qQ σ H s)(hH:H l=some (.lst xs))(e:s.heap.get? l=some { cls:=.type "list", data:=.seq its.toArray n })(hf:f its.toArray=its'.toArray)(hv:Vals ys its')(hz:ys.length<=sizeLine) :
  Inv X qQ σ (upd H l (.lst ys)) { s with heap:=s.heap.update l (Obj.mapSeq f),toks:=t' }:=by
 have q:=PySem.IsL.update e f;rw [hf] at q;refine I.write (x:=l) (e:=l) (by rw [hH];exact trivial) (.inl rfl) (λb' u hb hu=>(Heap.get?_update_other s.heap (Obj.mapSeq f) (Ne.symm hb)).trans hu) ⟨_,q⟩ ?_;exact ⟨hz,its',_,hv,q⟩
theorem Inv.lnew {its:List Value}{t':Nat}(I:Inv X qQ σ H s)(hv:Vals ys its)(hz:ys.length<=sizeLine) :
  Inv X qQ σ (upd H s.heap.objs.size (.lst ys)) { s with heap:=s.heap.push { cls:=.type "list", data:=.seq its.toArray },toks:=t' }:=
 I.laid (λ_ _ q=>Heap.get?_push_of_some _ q) (Nat.le_refl _) ⟨hz,its,0,hv,Heap.get?_push_size _ rfl⟩
theorem Inv.fresh (I:Inv X qQ σ H s):H s.heap.objs.size=none:=I.hok.fresh (Nat.le_refl _)
theorem Inv.lstM (I:Inv X qQ σ H s)(hH:H l=some (.lst xs)):xs.length<=sizeLine/\∃(its:List Value)(n:Nat),Vals xs its/\xs.length=its.length/\s.heap.get? l=some { cls:=.type "list", data:=.seq its.toArray n }:=by
 obtain ⟨z,its,n,r,e⟩:=I.hok l _ hH;exact ⟨z,its,n,r,r.length,e⟩
theorem Xw {n:Nat}(h:n<=sizeLine):Builtin.List.listTooLong n=false:=by
 unfold Builtin.List.listTooLong;exact decide_eq_false (by lia)
end
section
variable {X:Cx}
def Wk:V->List V->Hp->VK->Prop:=λx vs H Q=>∃l xs y,x=.ref l/\vs=[y]/\H l=some (.lst xs)/\xs.length<sizeLine/\Q .non (upd H l (.lst (xs++[y])))
theorem JH:MtM X "list.append" Wk:=by
 intro qQ s σ H x vs v us Q I rx rv h;obtain ⟨l,xs,y,rfl,rfl,hH,hz,q⟩:=h;cases rx;obtain ⟨u,rfl,ru⟩:=rv.one;obtain ⟨z,its,n,r,hl,e⟩:=I.lstM hH;refine call_meets F.slot_list_append ⟨_,e,rfl⟩ F.entry_list_append (F.args_list_append_2 _ _) (PySem.list_append l its.toArray n u (by rw [List.size_toArray];lia)) ⟨e,?_⟩;refine ⟨.non,_,I.lset (its':=its++[u]) hH e (by simp) (r.append (.cons ru .nil)) ?_,rfl,q⟩;rw [List.length_append,List.length_singleton]
 lia
def Zbt:R2:=λx y H Q=>∃l b xs zs,x=.ref l/\y=.ref b/\H l=some (.lst xs)/\H b=some (.lst zs)/\xs.length+zs.length<=sizeLine/\∀p,H p=none->Q (.ref p) (upd H p (.lst (xs++zs)))
theorem ZE:OpR X (binaryOp .Add) Zbt:=by
 intro qQ s σ H x y v u Q I rx ry h;obtain ⟨l,b,xs,zs,rfl,rfl,hH,hB,hz,q⟩:=h;cases rx;cases ry;obtain ⟨z,its,n,r,hl,e⟩:=I.lstM hH;obtain ⟨z2,its2,n2,r2,hl2,e2⟩:=I.lstM hB;refine PySem.P.add_list e e2 ?_ (by rw [List.size_toArray,List.size_toArray];lia);have ea:its.toArray++its2.toArray=(its++its2).toArray:=by simp
 rw [ea];exact ⟨.ref _,_,I.lnew (t':=s.toks) (r.append r2) (by rw [List.length_append];lia),rfl,q _ I.fresh⟩
def Zb6:R2:=λx y H Q=>∃l k xs,x=.ref l/\y=.int k/\H l=some (.lst xs)/\-(2 ^ 63)<=k/\k<2 ^ 63/\xs.length * k.toNat<=sizeLine /\
 ∀p,H p=none->Q (.ref p) (upd H p (.lst (List.replicate k.toNat xs).flatten))
theorem YO {α:Type}(xs:List α)(k:Nat):(List.replicate k xs).flatten.length=k * xs.length:=by
 induction k with
 | zero=>simp
 | succ k ih=>rw [List.replicate_succ,List.flatten_cons,List.length_append,ih,Nat.succ_mul,Nat.add_comm]
theorem ZG:OpR X (binaryOp .Mult) Zb6:=by
 intro qQ s σ H x y v u Q I rx ry h;obtain ⟨l,k,xs,rfl,rfl,hH,h1,h2,hz,q⟩:=h;cases rx;obtain ⟨t,rfl⟩:=ry;obtain ⟨z,its,n,r,hl,e⟩:=I.lstM hH;have qV:its.toArray.size * k.toNat<=sizeLine:=by rw [List.size_toArray,<-hl];exact hz
 have hcap:¬ its.toArray.size * k.toNat > (2 ^ 63-1) / 8:=by
  have:(sizeLine:Nat)<=(2 ^ 63-1) / 8:=by decide
  lia
 have hfit:¬ (!Builtin.List.listFitsIndex k)=true:=by
  rw [fitsIndex_both h1 h2];exact Bool.false_ne_true
 have hlong:¬ Builtin.List.listTooLong (its.toArray.size * k.toNat)=true:=by
  rw [Xw qV];exact Bool.false_ne_true
 have hnew:List.foldl (λx1 x2=>x1++x2) #[] (List.replicate (if its.toArray.isEmpty=true then 0 else k.toNat) its.toArray)=(List.replicate k.toNat its).flatten.toArray:=by
  have f0:∀m:Nat,List.foldl (λx1 x2=>x1++x2) #[] (List.replicate m its.toArray)=(List.replicate m its).flatten.toArray:=λm=>by
   have:=Up its m [];rw [List.nil_append] at this;exact this
  rw [f0];cases its with
  | nil=>simp
  | cons a r'=>rw [if_neg (by simp)]
 refine wpAny_binaryOp_repeat_ref (T := "list") (U := "int") (by decide) ⟨_,e,rfl⟩ (λs'=>typeIs_int s' k t) noFill_list_mul F.fills_int_mul F.slot_int_rmul repeat_list F.slot_int_index.lookup
  (call_meets F.slot_int_rmul (typeIs_int s k t) F.entry_int_rmul (F.args_int_rmul_2 _ _) (int___rmul___int_list k t l its.toArray n)
   ⟨e,rfl,⟨_,e,rfl⟩,call_meets F.slot_list_mul ⟨_,e,rfl⟩ F.entry_list_mul (F.args_list_mul_2 _ _) (AutoListH.list___mul___list_int_3 l its.toArray n k t hfit hcap hlong) ⟨e,?_⟩⟩)
 rw [hnew];exact ⟨.ref _,_,I.lnew (t':=s.toks) (r.rep k.toNat) (by rw [YO,Nat.mul_comm];exact hz),rfl,q _ I.fresh⟩
end
end L2
namespace Att
open PySem PySem.W PySem.Calls PyProof.Rows
theorem Oi {P:Params}{h:Heap}:∀(ns:List Int)(vs:List Value),WellAll P h vs (ns.map WData.int)->IntsAre vs ns:=by
 intro ns
 induction ns with
 | nil=>
  intro vs w;rw [List.map_nil] at w;cases w;exact .nil
 | cons n ns ih=>
  intro vs w;rw [List.map_cons] at w;cases w with
  | cons a b=>
   cases a;exact .cons _ _ (ih _ b)
theorem Wl {l:OpenLaw}{n:Nat}(hn:l.most=some n){P:Params}{h:Heap}{args:List WData}{vals:List Value}(hpre:l.row.toRowW.claim.pre args=true)(hwl:WellAll P h vals args) :
  ∃a vs ns,vals=[Value.ref a]/\args=[WData.list (ns.map WData.int)]/\h.get? a=some { cls:=.type "list", data:=.seq vs.toArray }/\IntsAre vs ns/\ns.length<=n:=by
 have hsh:WShape.hasAll [] args [.list .int]=true:=(pre_splitW hpre).1;have hc:l.pre.holds [] { args:=args }=true:=(pre_splitW hpre).2;obtain ⟨d,r,rfl,h1,h2⟩:=hasAllW_cons hsh;obtain rfl:=hasAllW_nil h2;obtain ⟨xs,rfl,h3⟩:=hasW_list h1;obtain ⟨ns,rfl⟩:=items_int h3;have qV:ns.length<=n:=by
  unfold OpenLaw.pre at hc;have h4:(WTm.not (.lt (.lit (.int (n:Int))) (.len (.arg 0)))).holds [] { args:=[.list (ns.map .int)] }=true:=by
   have h4:=(holds_andW hc).1;rw [hn] at h4;exact h4
  have h5:=condW_of h4 (w_not (w_lt w_lit (w_len_list (w_arg rfl))));rw [List.length_map] at h5;refine Nat.le_of_not_lt λq=>?_;have q':(n:Int)<((ns.length:Nat):Int):=by lia
  first
   | (rw [decide_eq_true q'] at h5;exact absurd h5 (by decide))
   | (simp at h5;lia)
 cases hwl with
 | cons w1 w2=>
  cases w2;cases w1 with
  | list ho qY=>exact ⟨_,_,ns,rfl,rfl,ho,Oi ns _ qY,qV⟩
theorem Wm (l:OpenLaw)(args:List WData):l.row.toRowW.claim.post args (.bool true) args=true:=
 postW_of (r:=l.row.toRowW) (X:=(true == true))
  (show WShape.has [] (.bool true) .bool=true by first | rfl | decide | simp [WShape.has,WShape.arms,WShape.armsAll])
  (show (WTm.eq .res (.lit (.bool true))).value [] { args:=args,res:=some (.bool true),after:=args }=some (.bool (true == true)) from w_eq_bool (w_res rfl) w_lit) rfl
theorem attach_call {l:OpenLaw}{n:Nat}{q:Program}{loose:List Str}{XP:(Str->Option Value)->Heap->Prop}{YP:World->Heap->Prop}{d:DefRec}(hn:l.most=some n)(hdf:d.params.defaults=[])(call:∀(w:World)(s₀ s₁:Shared)(mg mb:Str->Option Value)(fa:Addr)(o:Obj)(pm cd doc:Value)(a:Addr)(vs:List Value)(ns:List Int),
   Ground q loose [] XP w s₀ mg mb s₁.heap->YP w s₁.heap ->
   s₁.heap.get? fa=some o->o.data=.func (docDef d.name d.params d.body d.scope pm cd doc)->s₁.heap.CodeRec cd d.name->mg d.name=some (.ref fa) ->
   s₁.heap.get? a=some { cls:=.type "list", data:=.seq vs.toArray }->IntsAre vs ns->ns.length<=n->s₁.gens=#[] ->
   codeAny (model l.prog w) callerA (.call (.ref fa) ⟨[.ref a],[]⟩) (λr s'=>r=.ok (.ret (.bool true))/\OldK s₁.heap s'.heap/\s'.os=s₁.os/\AllBare s'.gens) s₁) :
  WalkO q loose XP YP l.row.toRowW d [] (λf vs=>PySem.call f vs):=by
 intro w s₀ s₁ mg mb G Y fa o pm cd doc dV kV ho hd hcd hD hmg hg args vals as hpre hlay hrd hwl hlo;obtain rfl:dV=.none:=Dflts.none hD hdf;obtain rfl:kV=.none:=Dflts.noKw hD;obtain ⟨a,vs,ns,rfl,rfl,hobj,hints,qV⟩:=Wl hn hpre hwl;refine enter_call (codeAny_mono (call w s₀ s₁ mg mb fa o pm cd doc a vs ns G Y ho (fd_plain hd) hcd hmg hobj hints qV hg) λr s' hq=>?_);obtain ⟨rfl,h2,h3,h4⟩:=hq;exact ⟨.inl ⟨.bool true,.bool true,[],rfl,λ_=>rfl,.bool true,Wm l _,λ_=>⟨List.Pairwise.nil,λ_ hm=>(nomatch hm)⟩⟩,h2,h3,h4⟩
end Att
namespace L2
open PySem PySem.Spec PyProof.Rows
theorem Uq:∀{vs:List Value}{ns:List Int},IntsAre vs ns->Vals (ns.map V.int) vs
 | _,_,.nil=>.nil
 | _,_,.cons n t h=>.cons ⟨t,rfl⟩ (Uq h)
def Zax (H:Hp):Prop:=∀b,H b=none\/∃o xs,H b=some (.frz o (.lst xs))
theorem Xx {P:Program}{w:World}{K:W.Frag}{mg mb:Str->Option Value}{CX:CXT}{k:Nat}{fa a:Addr}{fd:FuncData}{x:Str}{sp:Sp}{s₁:Shared}{vs:List Value}{ns:List Int}(KX:K.In s₁.heap)(hns:s₁.heap.Ns mainGlobals mg)(hb:s₁.heap.Ns builtinsNs mb)(hbb:∀x:Str,x ≠ "__name__" -> mb x=bootBuiltins x)(hlim:s₁.heap.NoLimit)(hg:s₁.gens=#[])(ha:s₁.heap.get? a=some { cls:=.type "list", data:=.seq vs.toArray })(hi:IntsAre vs ns)(hl:ns.length<=sizeLine)(hr:Room k callerA)(F:∀base:Heap,K.In base->base.Ns mainGlobals mg->GD P w K mg base CX k fa fd [x] sp)(hbind:∀(s:Shared)(u:Value),BindsTo s fd ⟨[u],[]⟩ [(x,u)])(hsp:∀H:Hp,Zax H->SqL K H a (ns.map V.int)->sp [.ref a] H (λv _=>v=.bl true) λ_ _ _=>False)(hCX:∀H e s',CX [] H s₁ (λ_ _ _=>False) e s'->False) :
  codeAny (model P w) callerA (.call (.ref fa) ⟨[.ref a],[]⟩) (λr s'=>r=.ok (.ret (.bool true))/\OldK s₁.heap s'.heap/\s'.os=s₁.os/\AllBare s'.gens) s₁:=by
 have rv:=Uq hi;have lenV:=hi.length;have core:∀H:Hp,Zax H->SqL K H a (ns.map V.int)->HOk P w H s₁.heap->(∀b,H b≠none->b=a)->(H a≠none->K.lookup a=none) ->
   codeAny (model P w) callerA (.call (.ref fa) ⟨[.ref a],[]⟩) (λr s'=>r=.ok (.ret (.bool true))/\OldK s₁.heap s'.heap/\s'.os=s₁.os/\AllBare s'.gens) s₁:=by
  intro H hO hS hok hA hK;have base_of:∀{b:Addr}{o:Obj},s₁.heap.get? b=some o->H b=none->(Xl s₁.heap H).get? b=some o:=λe n=>Xm e n;have noA:∀{b:Addr}{o:Obj}{es:Array DictEntry}{ep:Nat},s₁.heap.get? b=some o->o.data=.dict es ep->H b=none:=λ{b o es ep} e d=>by
   cases q:H b with
   | none=>rfl
   | some u=>
    have e':b=a:=hA b (by rw [q];simp);subst e';rw [ha] at e;cases e;have d':Data.seq vs.toArray _=Data.dict es ep:=d;cases d'
  have nsK:∀{b:Addr}{m:Str->Option Value},s₁.heap.Ns b m->(Xl s₁.heap H).Ns b m:=λ{b m} ⟨o,es,ep,e,d,r⟩=>⟨o,es,ep,base_of e (noA e d),d,r⟩;have hKb:K.In (Xl s₁.heap H):=λb o e=>base_of (KX b o e) (by
   cases q:H b with
   | none=>rfl
   | some u=>
    have e':b=a:=hA b (by rw [q];simp);subst e';rw [hK (by rw [q];simp)] at e;cases e)
  have hM:Mod K mg (Xl s₁.heap H):=⟨hKb,nsK hns,⟨mb,nsK hb,hbb⟩,let ⟨mc,h1,h2⟩:=hlim;⟨mc,nsK h1,h2⟩⟩;have e0:Zae P w K mg (Xl s₁.heap H) callerA [] s₁ H:=⟨rfl,hM,λb o e=>Yy e,Nat.le_of_eq (V5 _ _),trivial,λb hb=>absurd (show b∈([]:List Addr) from hb) (by simp),hok,.of_eq hg⟩;refine codeAny_mono ((F _ hKb (nsK hns)).run callerA [] s₁ H ⟨[.ref a],[]⟩ [.ref a] [.ref a] _ _ hr e0 (hbind s₁ (.ref a)) (.cons rfl .nil) (hsp H hO hS)) λr s' h=>?_;cases r with
  | error e=>exact (hCX H e s' h).elim
  | ok fl=>
   cases fl with
   | next=>exact False.elim h
   | brk=>exact False.elim h
   | cont=>exact False.elim h
   | ret u=>
    obtain ⟨v,H',os,bare,un,hok',r',q⟩:=h;have q':v=.bl true:=q;subst q';obtain rfl:u=Value.bool true:=r';refine ⟨rfl,OldK.of_keep λb o e=>?_,os,bare⟩;cases q:H b with
    | none=>exact un.keep b o e q (by intro z;exact absurd (show b∈([]:List Addr) from z) (by simp)) (by simp)
    | some u=>
     rcases hO b with z | ⟨ob,xs,z⟩
     ·rw [q] at z;cases z
     ·have z2:=un.frzs b ob _ z;obtain ⟨e1,_⟩:=hok b _ z;obtain ⟨e2,_⟩:=hok' b _ z2;rw [e] at e1;cases e1;exact e2
 cases hk:K.lookup a with
 | some o=>
  have e:=KX a o hk;rw [ha] at e;cases e;refine core (λ_=>none) (λ_=>.inl rfl) (.inr ⟨_,vs.toArray,_,hk,rfl,rfl,rfl,by rw [List.size_toArray,lenV];exact hl,by simpa using rv⟩) (λb u z=>by have z':(none:Option HO)=some u:=z;cases z') (λb z=>absurd rfl z) λz=>absurd rfl z
 | none=>
  refine core (λb=>if b=a then some (.frz { cls:=.type "list", data:=.seq vs.toArray } (.lst (ns.map V.int))) else none) (λb=>?_) (.inl (.inr ⟨{ cls:=.type "list", data:=.seq vs.toArray },if_pos rfl⟩)) (λb u z=>?_) (λb z=>?_) λ_=>hk
  ·by_cases hb:b=a
   ·exact .inr ⟨_,_,if_pos hb⟩
   ·exact .inl (if_neg hb)
  ·by_cases hb:b=a
   ·have z':=(if_pos hb).symm.trans z;cases z';subst hb;exact ⟨ha,by rw [List.length_map];exact hl,vs,_,rv,ha⟩
   ·have z':=(if_neg hb).symm.trans z;cases z'
  ·by_cases hb:b=a
   ·exact hb
   ·exact absurd (if_neg hb) z
end L2
namespace L2
open PySem PySem.Spec PyProof.Rows
theorem walk_of {l:W.OpenLaw}{n k:Nat}{q:Program}{loose:List Str}{XP:(Str->Option Value)->Heap->Prop}{YP:World->Heap->Prop}{d:DefRec}{K:Params->W.Frag}{CX:World->CXT}{sp:World->Sp}{x:Str}(hn:l.most=some n)(hn2:n<=sizeLine)(hdf:d.params.defaults=[])(hr:Room k callerA)(hY:∀(w:World)(h:Heap),YP w h->(K w.params).In h)(F:∀(w:World)(mg:Str->Option Value)(fa:Addr)(h:Heap),(K w.params).In h->h.Ns mainGlobals mg->mg d.name=some (.ref fa) ->
   ∃fd:FuncData,(∀(s:Shared)(u:Value),BindsTo s fd ⟨[u],[]⟩ [(x,u)]) /\
    ∀base:Heap,(K w.params).In base->base.Ns mainGlobals mg->GD l.prog w (K w.params) mg base (CX w) k fa fd [x] (sp w))(hsp:∀(w:World)(H:Hp)(a:Addr)(ns:List Int),ns.length<=n->Zax H->SqL (K w.params) H a (ns.map V.int)->sp w [.ref a] H (λv _=>v=.bl true) λ_ _ _=>False)(hCX:∀(w:World)(H:Hp)(s:Shared)(e:Value)(s':Shared),CX w [] H s (λ_ _ _=>False) e s'->False) :
  W.WalkO q loose XP YP l.row.toRowW d [] (λf vs=>PySem.call f vs):=by
 refine Att.attach_call hn hdf λw s₀ s₁ mg mb fa o pm cd doc a vs ns G Y ho hd hcd hmg hobj hints qV hg=>?_;have KX:=hY w _ Y;obtain ⟨fd,hb,hF⟩:=F w mg fa _ KX G.T.g hmg;exact Xx KX G.T.g G.T.b G.T.builtins G.T.nolimit hg hobj hints (Nat.le_trans qV hn2) hr hF hb (λH hO hS=>hsp w H a ns qV hO hS) λH e s'=>hCX w H s₁ e s'
end L2
/- THE LAST THEOREM (shape;LID,My.* are yours):
  My.Adr: a structure of the addresses that your layer names (classes,functions);My.Txt K t: a structure (Prop) of the equations over K;
  My.txt_mk:{K} {implicit addresses ..} (e1:nsIn K mainGlobals "law" = some (some (.ref f))) (e2:K.lookup f=some ⟨oc,od,.func (fnOf "law" "law" params body scope dV kV doc pm an cdv ct),sl⟩) (e3:codeIn K cdv "law" = true) ..:∃t,My.Txt K t
set_option maxRecDepth 100000 in
set_option maxHeartbeats 0 in
theorem PySem.Challenge.cw_LID_holds:PySem.Challenge.rw_LID.Holds:=by
 w_on;o_law;k_head;(case hw=>w_witness2)
 k_fill
 refine L2.walk_of (l:=PySem.Challenge.rw_LID) (n:=63) (k:=40) (x := "script") (CX:=λw=>..) (sp:=λ_=>My.sp_law) rfl (by decide) rfl ⟨rfl,by decide,by decide⟩ (λw h Y=>W.kIn_of Y) ?F ?S ?C
 case F=>
  intro w mg fa h KX G hmg;have T:∃t,My.Txt (L2.KOf KX) t:=by
   dsimp only [L2.KOf]                          -- K must stand as «<heap const> w.params» for k_is
   refine' My.txt_mk ?e1 ?e2 ?e3 ..
   (case e1=>W.k_is)                    -- in the order: a name->its address->its object->its parts
   (case e2=>W.k_is)
   ..
  obtain ⟨t,T⟩:=T;have e0:=hmg.symm.trans (W.mg_of KX G T.law);cases e0                                       -- fa is the law's own address;exact ⟨_,λs u=>.of_eq rfl,λbase kb nb=>My.law_fn T kb nb⟩     -- if «.of_eq rfl» comes too early: refine' ⟨_,?b,λbase kb nb=>My.law_fn T kb nb⟩;exact λs u=>.of_eq rfl
 case S=>exact λw H a ns hl hO hS=>..
 case C=>exact ..
(the tactic k_is has no namespace: write k_is) -/
namespace L2
open PySem PySem.Spec PyProof.Rows
def Gm (s:Stmt):Arguments:=match s with
 | .FunctionDef _ a _ _ _ _ _ _ _ _=>a
 | _=>{ posonlyargs:=[],args:=[],vararg:=none,kwonlyargs:=[],kw_defaults:=[],kwarg:=none,defaults:=[] }
def Gj (s:Stmt):List Stmt:=match s with
 | .FunctionDef _ _ b _ _ _ _ _ _ _=>b
 | _=>[]
def Gd (s:Stmt):Scope:=match s with
 | .FunctionDef _ _ _ _ _ _ sc _ _ _=>sc
 | _=>{ kind:=.function,names:=[],isGenerator:=false,isCoroutine:=false }
abbrev CX0:CXT:=λ_ _ _ _ _ _=>False
abbrev E0:XK:=λ_ _ _=>False
theorem GT {X:Cx}:Ue CX0 X E0:=λ_ _ _ _ _ _ _ h=>h.elim
structure Fun (K:W.Frag)(x qual:Str)(st:Stmt)(f:Addr)(fd:FuncData):Prop where
 ex:∃(oc:Value)(od:Option Addr)(kV doc pm:Value)(an:Option Addr)(cdv ct:Value)(osl:Array (Option Value)),
  fd=W.fnOf x qual (Gm st) (Gj st) (Gd st) .none kV doc pm an cdv ct/\K.lookup f=some ⟨oc,od,.func fd,osl⟩/\W.codeIn K cdv qual=true
 kp:W.keepIn K (.ref f)=true
section
variable {P:Program}{w:World}{K:W.Frag}{mg:Str->Option Value}{base:Heap}
theorem Zb7 {α:Type}{l:List α}(h:l.length=0):l=[]:=List.length_eq_zero_iff.mp h
theorem YQ {α:Type}{l:List α}{n:Nat}(h:l.length=n+1):∃a t,l=a::t/\t.length=n:=by
 cases l with
 | nil=>cases h
 | cons a t=>exact ⟨a,t,rfl,by simpa using h⟩
theorem YR {α:Type}{l:List α}(h:l.length=1):∃a,l=[a]:=by
 obtain ⟨a,t,rfl,g⟩:=YQ h;exact ⟨a,by rw [Zb7 g]⟩
theorem Wn {α:Type}{l:List α}(h:l.length=2):∃x0 x1,l=[x0,x1]:=by
 obtain ⟨a,t,rfl,g⟩:=YQ h;obtain ⟨x1,rfl⟩:=YR g;exact ⟨a,x1,rfl⟩
theorem Xy {α:Type}{l:List α}(h:l.length=3):∃x0 x1 x2,l=[x0,x1,x2]:=by
 obtain ⟨a,t,rfl,g⟩:=YQ h;obtain ⟨x1,x2,rfl⟩:=Wn g;exact ⟨a,x1,x2,rfl⟩
theorem Zay {α:Type}{l:List α}(h:l.length=4):∃x0 x1 x2 x3,l=[x0,x1,x2,x3]:=by
 obtain ⟨a,t,rfl,g⟩:=YQ h;obtain ⟨x1,x2,x3,rfl⟩:=Xy g;exact ⟨a,x1,x2,x3,rfl⟩
theorem Zaz {α:Type}{l:List α}(h:l.length=5):∃x0 x1 x2 x3 x4,l=[x0,x1,x2,x3,x4]:=by
 obtain ⟨a,t,rfl,g⟩:=YQ h;obtain ⟨x1,x2,x3,x4,rfl⟩:=Zay g;exact ⟨a,x1,x2,x3,x4,rfl⟩
theorem Zb8 {α:Type}{l:List α}(h:l.length=6):∃x0 x1 x2 x3 x4 x5,l=[x0,x1,x2,x3,x4,x5]:=by
 obtain ⟨a,t,rfl,g⟩:=YQ h;obtain ⟨x1,x2,x3,x4,x5,rfl⟩:=Zaz g;exact ⟨a,x1,x2,x3,x4,x5,rfl⟩
theorem Zcp {α:Type}{l:List α}(h:l.length=7):∃x0 x1 x2 x3 x4 x5 x6,l=[x0,x1,x2,x3,x4,x5,x6]:=by
 obtain ⟨a,t,rfl,g⟩:=YQ h;obtain ⟨x1,x2,x3,x4,x5,x6,rfl⟩:=Zb8 g;exact ⟨a,x1,x2,x3,x4,x5,x6,rfl⟩
theorem Fun.ok {x qual:Str}{st:Stmt}{f:Addr}{fd:FuncData}{N ps:List Str}{k:Nat}{sp:Sp}(F:Fun K x qual st f fd)(S:Go N ps (Gd st))(len:∀vs H Q E,sp vs H Q E->vs.length=ps.length)(qG:∀(cdv:Value)(A:Around)(outer:List Env)(s:Shared)(H:Hp)(vs:List V)(Q:VK)(E:XK),Room k (A.deeper (envOfC qual (Gd st) s.heap.objs.size f cdv))->sp vs H Q E ->
   ∃t,PSs (Xh CX0 P w K mg base N qual (Gd st) f cdv A outer s H E).nox (Gj st) t/\t { nx:=λ_ H'=>Q .non H',rt:=Q } (ON N vs) H):GD P w K mg base CX0 (k+1) f fd ps sp:=by
 obtain ⟨oc,od,kV,doc,pm,an,cdv,ct,osl,rfl,lk,hcd⟩:=F.ex;refine ZA lk hcd S len λA outer s H vs Q E hr hsp=>?_;obtain ⟨t,h,q⟩:=qG cdv A outer s H vs Q E hr hsp;exact ⟨t,h.nox,q⟩
theorem Fun.binds {x qual:Str}{st:Stmt}{f:Addr}{fd:FuncData}{ps:List Str}(F:Fun K x qual st f fd)(h:∀(kV doc pm:Value)(an:Option Addr)(cdv ct:Value)(us:List Value),us.length=ps.length->bindArgs (W.fnOf x qual (Gm st) (Gj st) (Gd st) .none kV doc pm an cdv ct) ⟨us,[]⟩=pure (ps.zip us)):Binds K fd ps []:=by
 obtain ⟨oc,od,kV,doc,pm,an,cdv,ct,osl,rfl,lk,hcd⟩:=F.ex;exact .all (h kV doc pm an cdv ct)
theorem GA {x qual:Str}{st:Stmt}{f:Addr}{oc:Value}{od an:Option Addr}{osl:Array (Option Value)}{kV doc pm cdv ct:Value}(l:K.lookup f=some ⟨oc,od,.func (W.fnOf x qual (Gm st) (Gj st) (Gd st) .none kV doc pm an cdv ct),osl⟩)(c:W.codeIn K cdv qual=true)(k:W.keepIn K (.ref f)=true):Fun K x qual st f (W.fnOf x qual (Gm st) (Gj st) (Gd st) .none kV doc pm an cdv ct):=⟨⟨oc,od,kV,doc,pm,an,cdv,ct,osl,rfl,l,c⟩,k⟩
end
section
variable {X:Cx}
theorem pv (i:Nat){x:Str}{pos:Pos}(hN:X.N[i]?=some x:=by rfl)(hv:Vis X.env.scope x:=by first | exact Or.inl rfl | exact Or.inr (Or.inl rfl) | exact Or.inr (Or.inr rfl))(hd:(x == ("__debug__" : Str))=false:=by decide)(hcd:(x == ("__classdict__" : Str))=false:=by decide):PE X (.Name x pos) (Xn i):=Zn hN hv hd hcd
end
theorem Ji {A B:Prop}(h:B):if false=true then A else B:=by
 rw [if_neg Bool.false_ne_true];exact h
theorem Jd {A B:Prop}(h:A):if true=true then A else B:=by
 rw [if_pos rfl];exact h
theorem UJ {c A B:Prop}[Decidable c](h1:c->A)(h2:¬ c->B):if c then A else B:=by
 by_cases h:c
 ·rw [if_pos h];exact h1 h
 ·rw [if_neg h];exact h2 h
def Same (H H':Hp):Prop:=∀b o,H b=some o->H' b=some o
theorem Same.refl (H:Hp):Same H H:=λ_ _ h=>h
theorem Same.trans {H H1 H2:Hp}(a:Same H H1)(b:Same H1 H2):Same H H2:=λc o h=>b c o (a c o h)
theorem Same.free {H H':Hp}(e:Same H H'){l:Addr}(h:H' l=Option.none):H l=Option.none:=by
 cases q:H l with
 | none=>rfl
 | some o=>
  rw [e l o q] at h;cases h
theorem Same.seq {K:W.Frag}{H H':Hp}{a:Addr}{xs:List V}(e:Same H H')(h:SqL K H a xs):SqL K H' a xs:=by
 rcases h with (h | ⟨o,h⟩) | h
 ·exact .inl (.inl (e _ _ h))
 ·exact .inl (.inr ⟨o,e _ _ h⟩)
 ·exact .inr h
end L2
namespace L2
open PySem PySem.Spec PyProof.Rows
section
variable {prog:Program}{w:World}{A:Around}{R:Result->Shared->Prop}{s:Shared}
theorem Ur {elt qU iter:Expr}{ifs:List Expr}{scope:Scope}{pos:Pos}{it acc:Value}{env:Env}(I:Nat->Shared->Prop)(turn:∀n s,I n s->wpAny (model prog w) A (pyNext it) (λr s1=>match r with
   | none=>R (.ok .next) s1
   | some v=>wpAny (model prog w) A (letOwnedTupleGo qU it v) (λ_ s1'=>wpAny (model prog w) A (assign qU env v) (λ_ s2=>
     wpAny (model prog w) A (forIn ifs true λc r=>if r=true then do let ok <- isTrue c env (eval c env);pure (ForInStep.yield ok) else pure (ForInStep.yield r)) (λok s3=>
      if ok=true then wpAny (model prog w) A (eval elt env) (λx s4=>
       wpAny (model prog w) A (call (.builtin "list.append") [acc,x]) (λ_ s5=>∃m,m<n/\I m s5) (λ_ _=>False) s4) (λ_ _=>False) s3
      else ∃m,m<n/\I m s3) (λ_ _=>False) s2) (λ_ _=>False) s1') (λ_ _=>False) s1) (λ_ _=>False) s)(n:Nat)(h:I n s) :
  codeAny (model prog w) A (.compLoop (.ListComp elt [⟨qU,iter,ifs,0⟩] scope pos) 0 it acc env) R s:=by
 have ff:∀{E:Value->Shared->Prop},∀(x:Value)(s:Shared),(λ(_:Value) (_:Shared)=>False) x s->E x s:=λ_ _ z=>False.elim z;refine codeAny_loop rfl I (λn s hI=>?_) n h;show wpAny _ A ((compTurn (.ListComp elt [⟨qU,iter,ifs,0⟩] scope pos) 0 it acc env).onRaise (λx=>do noteFrame x env;theTreesLotGoes x)) _ _ s;refine wpAny_noted ?_;rw [compTurn_list];refine wpAny_bind (wpAny_standAt (wpAny_bind (wpAny_mono (turn n s hI) (λr s1 h1=>?_) ff)));cases r with
 | none=>exact wpAny_pure h1
 | some v=>
  refine wpAny_bind (wpAny_mono h1 (λ_ s1' h1'=>?_) ff);refine wpAny_bind (wpAny_mono h1' (λ_ s2 h2=>wpAny_bind (wpAny_mono h2 (λok s3 h3=>?_) ff)) ff);cases ok with
  | false=>exact wpAny_pure ⟨rfl,h3⟩
  | true=>
   exact wpAny_bind (wpAny_bind (wpAny_mono h3 (λx s4 h4=>wpAny_bind (wpAny_mono h4 (λ_ s5 h5=>wpAny_pure (wpAny_pure ⟨rfl,h5⟩)) ff)) ff))
end
def Cx.comp (X:Cx)(scope:Scope)(cl:List (Str×Addr))(N:List Str)(C:Addr)(s:Shared)(H:Hp)(fp:List Addr):Cx:=
 { X with N:=N,s₀:=s,H₀:=H,env:=compEnvC scope cl C X.env,outer:=X.stack,ex:=fp,fn:=λ_=>false,pn:=[],xe:=λ_ _=>False }
def ZH (X:Cx)(ifs:List Expr)(t:TT):Prop:=
 ∀(qQ:List (Addr×Obj))(s:Shared)(σ:St)(H:Hp)(Q:Bool->Hp->Prop),Inv X qQ σ H s->t σ H Q ->
  wpAny (model X.prog X.w) X.A (forIn ifs true λc r=>if r=true then do let ok <- isTrue c X.env (eval c X.env);pure (ForInStep.yield ok) else pure (ForInStep.yield r)) (TP X qQ σ Q) X.xe s
def YS:TT:=λ_ H Q=>Q true H
theorem Jo {X:Cx}:ZH X [] YS:=λ_ _ _ H _ I h=>wpAny_tests_nil ⟨H,I,h⟩
theorem OQ {X:Cx}{c:Expr}{t:TT}(h:PT X c t):ZH X [c] t:=λqQ s σ H Q I hw=>wpAny_tests_one (h qQ s σ H Q I hw)
structure G8 (X:Cx)(scope:Scope)(cl:List (Str×Addr))(own:List Str)(fr:List (Str×Nat)):Prop where
 clos:closureFor scope X.env=pure cl
 nocell:∀y∈scope.names,y.2≠.cell
 kind:scope.kind=.function
 names:∀y∈scope.names,y.2=.local->scope.names.lookup y.1=some .local
 cls:∀y c,cl.lookup y=some c->X.env.cells.lookup y=some c
 has:∀y,((relabel scope X.env).names.lookup y=some .cell\/(relabel scope X.env).names.lookup y=some .free)->∃c,cl.lookup y=some c
 free:∀p∈fr,X.N[p.2]?=some p.1/\(X.env.kindOf p.1=some .cell\/X.env.kindOf p.1=some .free)/\((relabel scope X.env).names.lookup p.1=some .cell\/(relabel scope X.env).names.lookup p.1=some .free)
def Jt (own:List Str)(fr:List (Str×Nat))(σ:St):St:=own.map (λ_=>none)++fr.map λp=>(σ[p.2]?).join
def JI:St->St->Prop
 | [],[]=>True
 | none::r,_::r'=>JI r r'
 | some v::r,some v'::r'=>v=v'/\JI r r'
 | _,_=>False
theorem Jp:∀{a b:St},JI a b->∀(i:Nat)(v:V),a[i]?=some (some v)->b[i]?=some (some v)
 | [],[],_,i,v,h=>by simp at h
 | [],_::_,z,_,_,_=>z.elim
 | none::r,[],z,_,_,_=>z.elim
 | some _::r,[],z,_,_,_=>z.elim
 | some _::r,none::_,z,_,_,_=>z.elim
 | none::r,_::r',z,0,v,h=>by simp at h
 | none::r,_::r',z,i+1,v,h=>by
  have:=Jp (a:=r) (b:=r') z i v (by simpa using h);simpa using this
 | some x::r,some x'::r',z,0,v,h=>by
  obtain ⟨e,_⟩:=z;subst e;simpa using h
 | some x::r,some x'::r',z,i+1,v,h=>by
  have:=Jp (a:=r) (b:=r') z.2 i v (by simpa using h);simpa using this
def GX (J:It)(D:Addr)(g:TG)(tc:TT)(te:TE)(σ0:St)(W:Nat->Nat->List V->Hp->Prop)(R:Hp->Prop):Prop:=
 ∀i m ys H2,W i m ys H2->(J.stop i H2/\R H2)\/(J.go i H2/\∃N:List V->Hp->Prop,(∀ys' H',N ys' H'->∃m',m'<m/\W (i+1) m' ys' H')/\∀x H3,J.yld i H2 x H3->g x σ0 H3 λσ4 H4=>JI σ0 σ4/\tc σ4 H4 λb H5=>
  if b=true then te σ4 H5 λy H6=>H6 D=some (.lst ys)/\ys.length<sizeLine/\N (ys++[y]) (upd H6 D (.lst (ys++[y])))
  else N ys H5)
def ZI (wi:TI)(g:TG)(tc:TT)(te:TE)(own:List Str)(fr:List (Str×Nat)):TE:=λσ H Q=>wi σ H λJ H1=>∀D,H1 D=none ->
 ∃W:Nat->Nat->List V->Hp->Prop,(∃m,W 0 m [] (upd H1 D (.lst [])))/\GX J D g tc te (Jt own fr σ) W λH2=>Q (.ref D) H2
section
variable {X:Cx}{qU iter elt:Expr}{ifs:List Expr}{scope:Scope}{cl:List (Str×Addr)}{own:List Str}{fr:List (Str×Nat)}{pos:Pos}{wi:TI}{g:TG}{tc:TT}{te:TE}
theorem Inv.sub_pins {qQ pins':List (Addr×Obj)}{σ:St}{H:Hp}{s:Shared}(I:Inv X qQ σ H s)(h:∀p∈pins',p∈qQ):Inv X pins' σ H s:=I.pins_of λp hp=>I.pin p (List.mem_append_right _ (h p hp))
theorem YT {qQ:List (Addr×Obj)}{σ:St}{H:Hp}{s:Shared}{C:Addr}{fp:List Addr}(S:G8 X scope cl own fr)(I:Inv X qQ σ H s)(hf:∀b∈fp,Xg X qQ H b)(hC:s.heap.objs.size<=C)(hfl:∀b∈fp,b<s.heap.objs.size) :
  (X.comp scope cl (own++fr.map (·.1)) C s H fp).Ok:=by
 refine ⟨I.ok.mod,?_,I.ok.glob,I.ok.blt,hC,λx y c h1 h2=>I.ok.inj x y c (S.cls x c h1) (S.cls y c h2),S.has,λx c z=>absurd z (by simp [Cx.comp]),I.ok.hd,I.ok.frames,.inl rfl,
  λb hb=>⟨Nat.ne_of_lt (Nat.lt_of_lt_of_le (hfl b hb) hC),λx c h=>(hf b hb).2.2.2.2.1 x c (S.cls x c h)⟩,I.bs,Nat.le_trans I.ok.bsz I.sz,λb o e hb=>?_,λb hb z=>?_,I.stack,I.stkFree⟩
 ·show (relabel scope X.env).kind=.function;exact S.kind
 ·rcases (hf b hb).2.2.2.1 with z | z
  ·exact I.ok.noex b o e z
  ·exact absurd (Nat.lt_of_lt_of_le (Heap.lt_size e) (Nat.le_trans I.ok.bsz z)) (Nat.lt_irrefl _)
 ·rcases List.mem_cons.mp (I.stkSub b z) with q | q
  ·exact (hf b hb).2.1 q
  ·exact (hf b hb).2.2.1 q
theorem OB (own:List Str)(fr:List (Str×Nat))(σ:St):(Jt own fr σ).length=(own++fr.map (·.1)).length:=by
 unfold Jt;simp
theorem OC {qQ:List (Addr×Obj)}{σ:St}{H:Hp}{s:Shared}{it:Addr}{fp:List Addr}{tn:Nat->Heap->Prop}{J:It}{E:Value->Shared->Prop}{RR:Value->Addr->Result->Shared->Prop}{Rf:Addr->Hp->Prop}(hc:X.calm=true)(S:G8 X scope cl own fr)(I:Inv X qQ σ H s)(T:Ye X.prog X.w X.K qU J fp it tn)(st:tn 0 s.heap)(hf:∀b∈fp,Xg X qQ H b)(hg:∀C s H fp,PG (X.comp scope cl (own++fr.map (·.1)) C s H fp) qU g)(ht:∀C s H fp,ZH (X.comp scope cl (own++fr.map (·.1)) C s H fp) ifs tc)(he:∀C s H fp,PE (X.comp scope cl (own++fr.map (·.1)) C s H fp) elt te)(hw:∀D,H D=none->∃W:Nat->Nat->List V->Hp->Prop,(∃m,W 0 m [] (upd H D (.lst [])))/\GX J D g tc te (Jt own fr σ) W (Rf D))(hRR:∀D C s' H',s.heap.objs.size<=C->C≠D->(∃m,s'.heap.Ns C m)->H' C=none->Un (frs X.stack) fp H H' s.heap s'.heap->HOk X.prog X.w H' s'.heap->AllBare s'.gens->s'.os=s.os->Rf D H'->RR (.ref D) C (.ok .next) s') :
  wpAny (model X.prog X.w) X.A (newList []) (λacc s3=>wpAny (model X.prog X.w) X.A (newFunctionEnv scope X.env.globals cl [] X.env.qual none .none (some X.env)) (λcenv s4=>
   codeAny (model X.prog X.w) X.A (.compStart (.ListComp elt [⟨qU,iter,ifs,0⟩] scope pos) 0 (.ref it) acc { cenv with scope:=relabel scope X.env }) (RR acc cenv.locals) s4) E s3) E s:=by
 have hfl:∀b∈fp,b<s.heap.objs.size:=λb hb=>by
  obtain ⟨o,e,_⟩:=T.obj 0 s.heap st b hb;exact Heap.lt_size e
 have hD:H s.heap.objs.size=none:=I.fresh;obtain ⟨W,⟨m0,w0⟩,turns⟩:=hw s.heap.objs.size hD;have I1:Inv X qQ σ (upd H s.heap.objs.size (.lst [])) { s with heap:=s.heap.push { cls:=.type "list", data:=.seq ([]:List Value).toArray },toks:=s.toks }:=I.lnew .nil (Nat.zero_le _);refine wpAny_newObj_type (wpAny_newFunctionEnv S.nocell (by intro y hy;simp at hy) (λh1 hns1 hsb1=>?_) S.kind);dsimp only at hns1 hsb1 ⊢;generalize hH2:s.heap.push { cls:=.type "list", dict:=none,data:=.seq ([]:List Value).toArray }=H2 at hns1 hsb1 ⊢ I1;have hCs:H2.objs.size=s.heap.objs.size+1:=by rw [<-hH2,Heap.size_push]
 have hCle:s.heap.objs.size<=H2.objs.size:=by lia
 have hDC:s.heap.objs.size≠H2.objs.size:=by lia
 have up1:∀b o,H2.get? b=some o->h1.get? b=some o:=λb o e=>hsb1.extBut b o (Nat.ne_of_lt (Heap.lt_size e)) (Heap.get?_push_of_some _ e);have up:∀b o,s.heap.get? b=some o->h1.get? b=some o:=λb o e=>up1 b o (hH2▸Heap.get?_push_of_some _ e);have okY:=YT (C:=H2.objs.size) S I hf hCle hfl;have I0:∀tk,Inv (X.comp scope cl (own++fr.map (·.1)) H2.objs.size s H fp) [] (Jt own fr σ) (upd H s.heap.objs.size (.lst [])) { s with heap:=h1,toks:=tk }:=by
  intro tk;have hok1:HOk X.prog X.w (upd H s.heap.objs.size (.lst [])) h1:=I1.hok.kept up1;refine ⟨okY,rfl,I.bare,⟨λb o e n _ _=>up b o e,λb o e n _ _=>⟨o.slots,up b o e⟩,λb o e n _=>?_,λb o e _=>⟨o,up b o e⟩,λb xs q=>?_,λb o u q=>?_,λb ps q=>⟨#[],?_⟩⟩,
   ⟨_,hns1,λi x v e1 e2 e3=>?_⟩,λx c e=>?_,?_,λx c e=>?_,λp hp=>?_,hok1,OB own fr σ⟩
  ·have e':s.heap.get? b=some o:=e;show upd H s.heap.objs.size (.lst []) b=none;rw [Gn (Nat.ne_of_lt (Heap.lt_size e'))];exact n
  ·rw [Gn (Gh q hD)];exact q
  ·rw [Gn (Gh q hD)];exact q
  ·have q':H b=some (.tbl ps):=q;rw [Gn (Gh q' hD),q'];simp
  ·-- the free names
   have e2':(Jt own fr σ)[i]?=some (some v):=e2;have e1':(own++fr.map (·.1))[i]?=some x:=e1;unfold Jt at e2';by_cases hi:i<own.length
   ·rw [List.getElem?_append_left (by simpa using hi),List.getElem?_map] at e2';cases q:own[i]? with
    | none=>rw [q] at e2';cases e2'
    | some y=>rw [q] at e2';cases e2'
   ·rw [List.getElem?_append_right (by simpa using hi),List.length_map,List.getElem?_map] at e2';rw [List.getElem?_append_right (by lia),List.getElem?_map] at e1';cases q:fr[i-own.length]? with
    | none=>rw [q] at e2';cases e2'
    | some p=>
     rw [q] at e1' e2';have ex:p.1=x:=Option.some.inj e1';have ev:(σ[p.2]?).join=some v:=Option.some.inj e2';have ev':σ[p.2]?=some (some v):=by
      cases z:σ[p.2]? with
      | none=>rw [z] at ev;cases ev
      | some o=>rw [z] at ev;cases o with
       | none=>cases ev
       | some v'=>have:v'=v:=Option.some.inj ev;rw [this]
     obtain ⟨f1,f2,f3⟩:=S.free p (List.mem_of_getElem? q);subst ex;obtain ⟨m,hn,hl⟩:=I.loc;have vis:Vis X.env.scope p.1:=by
      rcases f2 with f2 | f2
      ·exact .inr (.inl f2)
      ·exact .inr (.inr f2)
     obtain ⟨u,ru,lk⟩:=hl p.2 p.1 v f1 ev' vis;refine ⟨u,ru,?_⟩;rcases lk with ⟨k,_⟩ | ⟨k,c,e,z⟩
     ·rcases f2 with f2 | f2 <;> (rw [f2] at k;cases k)
     ·obtain ⟨c',hc'⟩:=S.has p.1 f3;have e':=S.cls _ _ hc';rw [e] at e';cases e';obtain ⟨oc,ho,hd⟩:=z;exact .inr ⟨f3,c,hc',⟨oc,up _ _ ho,hd⟩⟩
  ·obtain ⟨v,oc,ho,hd⟩:=I.cell x c (S.cls x c e);exact ⟨v,oc,up _ _ ho,hd⟩
  ·show upd H s.heap.objs.size (.lst []) H2.objs.size=none;rw [Gn (Ne.symm hDC)];exact I.hok.fresh hCle
  ·obtain ⟨v,z⟩:=I.cell x c (S.cls x c e);show upd H s.heap.objs.size (.lst []) c=none;rw [Gn (Nat.ne_of_lt z.lt)];exact I.freeC x c (S.cls x c e)
  ·exact absurd (show p∈([]:List (Addr×Obj)) from hp) (by simp)
 have fpf:∀b∈fp,upd H s.heap.objs.size (.lst []) b=none:=λb hb=>by rw [Gn (Nat.ne_of_lt (hfl b hb))];exact (hf b hb).1
 have st1:tn 0 h1:=T.keep 0 _ _ st λb hb o e=>up b o e;have stat:∀{H':Hp},(∀b∈fp,H' b=none)->∀b∈fp,Xg (X.comp scope cl (own++fr.map (·.1)) H2.objs.size s H fp) [] H' b:=λhn b hb=>
  ⟨hn b hb,(okY.exf b hb).1,okY.exfs b hb,.inl hb,(okY.exf b hb).2,λp hp=>absurd (show p∈([]:List (Addr×Obj)) from hp) (by simp)⟩
 have loop:∀s3:Shared,(∃tk,s3={ s with heap:=h1,toks:=tk }) ->
   codeAny (model X.prog X.w) X.A (.compLoop (.ListComp elt [⟨qU,iter,ifs,0⟩] scope pos) 0 (.ref it) (.ref s.heap.objs.size) (compEnvC scope cl H2.objs.size X.env)) (RR (.ref s.heap.objs.size) H2.objs.size) s3:=by
  rintro s3 ⟨tk,rfl⟩;refine Ur (λn s'=>∃i ys H',Inv (X.comp scope cl (own++fr.map (·.1)) H2.objs.size s H fp) [] (Jt own fr σ) H' s'/\tn i s'.heap/\(∀b∈fp,H' b=none)/\W i n ys H') ?_ m0 ⟨0,[],_,I0 tk,st1,fpf,w0⟩;rintro n s4 ⟨i,ys,H4,I4,st4,fr4,w4⟩;rcases turns i n ys H4 w4 with ⟨stop,q⟩ | ⟨go,N,hN,step⟩
  ·refine thn (T.done (X.comp scope cl (own++fr.map (·.1)) H2.objs.size s H fp) rfl rfl rfl hc i [] s4 _ H4 _ I4 (stat fr4) st4 stop) λr s5 ⟨hr,I5⟩=>?_;subst hr;exact hRR _ _ s5 H4 hCle (Ne.symm hDC) ⟨_,I5.loc.choose_spec.1⟩ I5.free I5.base I5.hok I5.bare I5.os q
  ·refine thn (T.item (X.comp scope cl (own++fr.map (·.1)) H2.objs.size s H fp) rfl rfl rfl hc i [] s4 _ H4 _ I4 (stat fr4) st4 go) λr s5 ⟨u,hr,h5⟩=>?_;subst hr;refine thn h5 λ_ s6 ⟨x,H6,I6,r6,y6,st6,fr6⟩=>?_;have I6':=I6.pinned (stat fr6) (T.obj _ _ st6);refine thn (hg H2.objs.size s H fp _ s6 _ H6 x u _ I6' r6 (step x H6 y6)) λ_ s7 ⟨σ7,H7,I7,k7,q7⟩=>?_;refine thn (ht H2.objs.size s H fp _ s7 σ7 H7 _ I7 q7) λok s8 ⟨H8,I8,q8⟩=>?_;have again:∀{s9:Shared}{σ9:St}{H9:Hp}{zs:List V},Inv (X.comp scope cl (own++fr.map (·.1)) H2.objs.size s H fp) ([]++Ub fp s6.heap) σ9 H9 s9->(∀(i:Nat) v,(Jt own fr σ)[i]?=some (some v)->σ9[i]?=some (some v))->(∃m',m'<n/\W (i+1) m' zs H9) ->
     ∃m,m<n/\∃i ys H',Inv (X.comp scope cl (own++fr.map (·.1)) H2.objs.size s H fp) [] (Jt own fr σ) H' s9/\tn i s9.heap/\(∀b∈fp,H' b=none)/\W i m ys H':=by
    intro s9 σ9 H9 zs I9 hσ ⟨m',hm,w9⟩;refine ⟨m',hm,i+1,zs,H9,(I9.sub_pins (λp hp=>absurd (show p∈([]:List (Addr×Obj)) from hp) (by simp))).weak ?_ hσ,T.keep _ _ _ st6 λb hb o e=>(I9.pin (b,o) (List.mem_append_right _ (List.mem_append_right _ (Jl hb e)))).1,λb hb=>?_,w9⟩
    ·rw [I9.len];exact OB own fr σ
    ·obtain ⟨o,e,d⟩:=T.obj _ _ st6 b hb;exact (I9.pin (b,o) (List.mem_append_right _ (List.mem_append_right _ (Jl hb e)))).2.1
   cases ok with
   | false=>exact (if_neg Bool.false_ne_true).mpr (again I8 (Jp k7) (hN _ _ ((if_neg Bool.false_ne_true).mp q8)))
   | true=>
    refine (if_pos rfl).mpr ?_;have q8':=(if_pos rfl).mp q8;refine thn (he H2.objs.size s H fp _ s8 σ7 H8 _ I8 q8') λy s9 ⟨yv,H9,I9,r9,hD9,hz,q9⟩=>?_;refine thn (JH _ s9 σ7 H9 (.ref s.heap.objs.size) [yv] (.ref s.heap.objs.size) [y] (λ_ H'=>H'=upd H9 s.heap.objs.size (.lst (ys++[yv]))) I9 rfl (.cons r9 .nil) ⟨_,ys,yv,rfl,rfl,hD9,hz,rfl⟩) λ_ s10 ⟨_,H10,I10,_,e10⟩=>?_;subst e10;exact again I10 (Jp k7) (hN _ _ q9)
 exact codeAny_compStart_list (loop _ ⟨_,rfl⟩) (T.self _ 0 _ _ _ st1 (loop _ ⟨_,rfl⟩))
theorem OD {qQ:List (Addr×Obj)}{σ:St}{H H':Hp}{s s':Shared}{fp:List Addr}(I:Inv X qQ σ H s)(hf:∀b∈fp,Xg X qQ H b)(un:Un (frs X.stack) fp H H' s.heap s'.heap)(hok:HOk X.prog X.w H' s'.heap)(bare:AllBare s'.gens)(os:s'.os=s.os):Inv X qQ σ H' s':=
 I.call' os un hok bare λb hb=>⟨(hf b hb).2.2.2.1,(hf b hb).2.1,(hf b hb).2.2.2.2.1,(hf b hb).2.2.2.2.2⟩
theorem Ve {qQ:List (Addr×Obj)}{σ σ':St}{H H':Hp}{s s':Shared}{C:Addr}{h':Heap}(I:Inv X qQ σ H s)(hC:s.heap.objs.size<=C)(hn:H' C=none)(I':Inv X qQ σ' H' s')(sb:Heap.SameBut C s'.heap h') :
  Inv X qQ σ' H' { s' with heap:=h' }:=by
 obtain ⟨f0,f1,f2,f3,f4,f5⟩:=I.fpOk hC hn;exact I'.turned (t':=s'.toks) (λb o hb e=>(sb.2 b hb).trans e) f0 f1 f3 f4 f5
theorem Jz (hc:X.calm=true)(S:G8 X scope cl own fr)(hi:PI X qU iter wi)(hg:∀C s H fp,PG (X.comp scope cl (own++fr.map (·.1)) C s H fp) qU g)(ht:∀C s H fp,ZH (X.comp scope cl (own++fr.map (·.1)) C s H fp) ifs tc)(he:∀C s H fp,PE (X.comp scope cl (own++fr.map (·.1)) C s H fp) elt te)(hs:∀x,foldedSetIterable iter X.env x=pure x:=by intro _;rfl):PE X (.ListComp elt [⟨qU,iter,ifs,0⟩] scope pos) (ZI wi g tc te own fr):=by
 intro qQ s σ H Q I h;rw [eval_ListComp];refine wpAny_comprehension_free (use:=none) rfl hs S.clos S.kind S.names (thn (hi qQ s σ H _ I h) λv s1 h1=>thn h1 λitv s2 h2=>?_);obtain ⟨it,fp,tn,J,H2,e,I2,T,st2,f2,hw⟩:=h2;subst e;refine OC (RR:=λacc C=>compPost (model X.prog X.w) X.A X.xe none (EP X qQ σ Q) acc C) hc S I2 T st2 f2 hg ht he hw ?_;rintro D C s' H' hC hDC ⟨m,hn⟩ hCf un hok bare os q;refine ⟨m,hn,λh' hs'=>⟨.ref D,H',?_,rfl,q⟩⟩;exact Ve (C:=C) (σ:=σ) I2 hC hCf (OD I2 f2 un hok bare os) hs'
theorem Wo {i:Nat}{y:Str}{py spos:Pos}(hN:X.N.Nodup)(hi':X.N[i]?=some y)(hx:Loc X.env.scope y)(hc:X.calm=true)(S:G8 X scope cl own fr)(hi:PI X qU iter wi)(hg:∀C s H fp,PG (X.comp scope cl (own++fr.map (·.1)) C s H fp) qU g)(ht:∀C s H fp,ZH (X.comp scope cl (own++fr.map (·.1)) C s H fp) ifs tc)(he:∀C s H fp,PE (X.comp scope cl (own++fr.map (·.1)) C s H fp) elt te)(hf:X.fn y=true\/X.env.scope.names.lookup y=some .local:=by first | exact .inl rfl | exact .inr rfl | assumption)(hsw:swapsWith (.ListComp elt [⟨qU,iter,ifs,0⟩] scope pos) (some (.Name y py)) spos.line X.env=pure true:=by rfl)(hs:∀x,foldedSetIterable iter X.env x=pure x:=by intro _;rfl):PS X (.Assign [.Name y py] (.ListComp elt [⟨qU,iter,ifs,0⟩] scope pos) spos) (Zao (ZI wi g tc te own fr) (GQ i)):=by
 intro qQ s σ H Dn I h;rw [exec_Assign_Name_used _ _ _ _ hsw];refine wpAny_bind (wpAny_standAt (wpAny_bind ?_));show wpAny _ X.A (do let _ <- comprehension (.ListComp elt [⟨qU,iter,ifs,0⟩] scope pos) scope X.env _ (newList []) false (eval iter X.env) (some (assign (.Name y py) X.env))) _ _ s;refine wpAny_bind (wpAny_mono (wpAny_comprehension_free (use:=some (assign (.Name y py) X.env)) (Q:=λ_ s'=>SP X qQ Dn .next s') rfl hs S.clos S.kind S.names (thn (hi qQ s σ H _ I h) λv s1 h1=>thn h1 λitv s2 h2=>?_))
  (λ_ s' hq=>wpAny_pure (wpAny_pure hq)) λ_ _ e=>e)
 obtain ⟨it,fp,tn,J,H2,e,I2,T,st2,f2,hw⟩:=h2;subst e;refine OC (RR:=λacc C=>compPost (model X.prog X.w) X.A X.xe (some (assign (.Name y py) X.env)) (λ_ s'=>SP X qQ Dn .next s') acc C) hc S I2 T st2 f2 hg ht he hw ?_;rintro D C s' H' hC hDC ⟨m,hn⟩ hCf un hok bare os q;have I3:Inv X qQ σ H' s':=OD I2 f2 un hok bare os;show wpAny _ X.A (assign (.Name y py) X.env (.ref D)) _ _ s';refine wpAny_assign_Name (O9 I3 hN hi' hx (v:=.ref D) rfl (λs4 I4 ⟨a,hsa,ha⟩=>?_) hf);have hCa:C≠a:=by
  rcases ha with z | z
  ·rw [z];exact Nat.ne_of_gt (Nat.lt_of_lt_of_le I2.lt hC)
  ·obtain ⟨v,q⟩:=I2.cell y a z;exact Nat.ne_of_gt (Nat.lt_of_lt_of_le q.lt hC)
 refine ⟨m,hn.sameBut hsa hCa,λh' hs'=>⟨_,H',Ve (C:=C) (σ:=σ) I2 hC hCf I4 hs',q⟩⟩
end
theorem G9 {K:PySem.W.Frag}{a D:Addr}{xs:List V}{g:TG}{tc:TT}{te:TE}{σ0:St}{R:Hp->Prop}{H1:Hp}(Pv:Nat->List V->Hp->Prop)(h0:Pv 0 [] (upd H1 D (.lst [])))(hl:∀i ys H,i<=xs.length->Pv i ys H->SqL K H a xs)(hs:∀i x ys H,xs[i]?=some x->Pv i ys H->g x σ0 H λσ4 H4=>JI σ0 σ4/\tc σ4 H4 λb H5=>if b=true then te σ4 H5 λy H6=>H6 D=some (.lst ys)/\ys.length<sizeLine/\Pv (i+1) (ys++[y]) (upd H6 D (.lst (ys++[y]))) else Pv (i+1) ys H5)(hd:∀ys H,Pv xs.length ys H->R H):∃W:Nat->Nat->List V->Hp->Prop,(∃m,W 0 m [] (upd H1 D (.lst [])))/\GX (Itl K a) D g tc te σ0 W R:=by
 refine ⟨λi m ys H=>m=xs.length-i/\i<=xs.length/\Pv i ys H,⟨_,rfl,Nat.zero_le _,h0⟩,?_⟩;rintro i m ys H ⟨rfl,hi,p⟩;have q:=hl i ys H hi p;by_cases hlt:i<xs.length
 ·refine .inr ⟨⟨xs,xs[i],q,by simp [hlt]⟩,Pv (i+1),λys' H' p'=>⟨xs.length-(i+1),by lia,rfl,hlt,p'⟩,λx H' y=>?_⟩;obtain ⟨e,y⟩:=y;subst e;exact hs i x ys _ (y xs q) p
 ·have e:i=xs.length:=by lia
  subst e;exact .inl ⟨⟨xs,q,Nat.le_refl _⟩,hd ys H p⟩
theorem VP {lo:Int}{n:Nat}{D:Addr}{g:TG}{tc:TT}{te:TE}{σ0:St}{R:Hp->Prop}{H1:Hp}(Pv:Nat->List V->Hp->Prop)(h0:Pv 0 [] (upd H1 D (.lst [])))(hs:∀i ys H,i<n->Pv i ys H->g (.int (lo+i)) σ0 H λσ4 H4=>JI σ0 σ4/\tc σ4 H4 λb H5=>if b=true then te σ4 H5 λy H6=>H6 D=some (.lst ys)/\ys.length<sizeLine/\Pv (i+1) (ys++[y]) (upd H6 D (.lst (ys++[y]))) else Pv (i+1) ys H5)(hd:∀ys H,Pv n ys H->R H):∃W:Nat->Nat->List V->Hp->Prop,(∃m,W 0 m [] (upd H1 D (.lst [])))/\GX (Itr lo n) D g tc te σ0 W R:=by
 refine ⟨λi m ys H=>m=n-i/\i<=n/\Pv i ys H,⟨_,rfl,Nat.zero_le _,h0⟩,?_⟩;rintro i m ys H ⟨rfl,hi,p⟩;by_cases hlt:i<n
 ·refine .inr ⟨hlt,Pv (i+1),λys' H' p'=>⟨n-(i+1),by lia,rfl,hlt,p'⟩,λx H' y=>?_⟩;obtain ⟨e,y⟩:=y;subst e y;exact hs i ys _ hlt p
 ·have e:i=n:=by lia
  subst e;exact .inl ⟨Nat.le_refl _,hd ys H p⟩
theorem Oj {X:Cx}{scope:Scope}{own:List Str}(hf:∀y∈scope.names,y.2≠.free)(hc:∀y∈scope.names,y.2≠.cell)(hk:scope.kind=.function)(hn:∀y∈scope.names,y.2=.local->scope.names.lookup y.1=some .local):G8 X scope [] own []:=by
 have rel:(relabel scope X.env).names=scope.names:=by
  unfold relabel;dsimp only;refine (List.map_congr_left λp hp=>?_).trans (List.map_id _);obtain ⟨n,k⟩:=p;have:(k == NameKind.free)=false:=by
   have:=hf _ hp;cases k <;> first | rfl | exact absurd rfl this
  simp [this]
 refine ⟨closureFor_none hf,hc,hk,hn,λy c h=>by simp at h,λy h=>?_,λp hp=>by simp at hp⟩;rw [rel] at h;rcases h with h | h
 ·exact absurd rfl (hc _ (PySem.mem_of_lookup h))
 ·exact absurd rfl (hf _ (PySem.mem_of_lookup h))
end L2
namespace L2
open PySem PySem.Spec PyProof.Rows
def VQ (a C:Addr)(h:Heap):Prop:=∃ob vs,h.get? a=some ob/\ob.cls=.ref C/\ob.data=.fields vs
def Xz (a C:Addr):HO:=.ext (VQ a C)
theorem YU {P:Program}{w:World}{H:Hp}{h:Heap}{a C:Addr}(x:VQ a C h):ObjOk P w H h a (Xz a C):=by
 refine ⟨x,?_,λh1 h2 p k=>?_⟩
 ·obtain ⟨ob,_,e,_⟩:=x;exact ⟨ob,e⟩
 ·obtain ⟨ob,vs,e,c,d⟩:=p;exact ⟨ob,vs,k ob e,c,d⟩
theorem ObjOk.there {P:Program}{w:World}{H:Hp}{h:Heap}{a:Addr}{u:HO}(ok:ObjOk P w H h a u):∃v,h.get? a=some v:=by
 cases u with
 | lst xs=>obtain ⟨_,_,_,_,e⟩:=ok;exact ⟨_,e⟩
 | tup xs=>obtain ⟨_,_,_,o,e,_⟩:=ok;exact ⟨_,e⟩
 | dK kvs=>obtain ⟨_,_,_,_,o,_,_,e,_⟩:=ok;exact ⟨_,e⟩
 | dT kvs=>obtain ⟨_,_,_,_,o,_,_,e,_⟩:=ok;exact ⟨_,e⟩
 | set S n=>obtain ⟨o,_,_,_,e,_⟩:=ok;exact ⟨_,e⟩
 | ins C dx fs=>obtain ⟨_,_,_,e,_⟩:=ok;exact ⟨_,e⟩
 | own y=>obtain ⟨_,e⟩:=ok;exact ⟨_,e⟩
 | xd fs=>obtain ⟨_,⟨_,_,_,e,_⟩,_⟩:=ok;exact ⟨_,e⟩
 | rng lo hi=>obtain ⟨_,_,_,e⟩:=ok;exact ⟨_,e⟩
 | frz ob u=>obtain ⟨e,_⟩:=ok;exact ⟨_,e⟩
 | tbl ps=>exact ⟨_,show h.get? a=some _ from ok⟩
 | met f y=>exact ⟨_,show h.get? a=some _ from ok⟩
 | ext φ=>obtain ⟨_,⟨_,e⟩,_⟩:=ok;exact ⟨_,e⟩
def ZaA (P:Program)(w:World)(outer:List Env)(H H':Hp)(s:Shared)(a C:Addr)(s':Shared):Prop:=
 ∃(t:Addr)(B:Heap),s'.os=s.os/\AllBare s'.gens/\Un (frs outer) [] H H' s.heap s'.heap/\HOk P w H' s'.heap/\Heap.FlyingW B outer a (.ref C) (.ref t) s'.heap /\
  (∀b o,s'.heap.get? b=some o->H' b≠none->B.get? b=some o)/\(∀b o0 o,s.heap.get? b=some o0->s'.heap.get? b=some o->b ∉ frs outer->B.get? b=some o)
def CXr (P:Program)(w:World):CXT:=λouter H s E e s'=>∃(a C:Addr)(H':Hp),e=.ref a/\ZaA P w outer H H' s a C s'/\E (.ref C) none H'
section
variable {X:Cx}{qQ:List (Addr×Obj)}{σ:St}{H:Hp}{s:Shared}
def Vf (X:Cx)(E:XK):Prop:=∀(qQ:List (Addr×Obj))(σ:St)(H:Hp)(s:Shared)(h':Heap)(a C:Addr)(vs:List Value),Inv X qQ σ H s->Heap.MadeExcOf s.heap h' a (.ref C) vs->E (.ref C) none H->X.xe (.ref a) { s with heap:=h' }
theorem JY {P:Program}{w:World}{K:W.Frag}{mg:Str->Option Value}{base:Heap}{N:List Str}{qual:Str}{scope:Scope}{f:Addr}{cd:Value}{A:Around}{outer:List Env}{s:Shared}{H:Hp}{E:XK} :
  Vf (Xh (CXr P w) P w K mg base N qual scope f cd A outer s H E) E:=by
 intro qQ σ H1 s1 h' a C vs I hx hE;have hfr:=I.ok.frames;have hst:s1.heap.FunFrames base (envOfC qual scope s.heap.objs.size f cd::outer):=I.stack;have hin:∀env∈(envOfC qual scope s.heap.objs.size f cd::outer),∀b,env.frame=some b->b∈frs (envOfC qual scope s.heap.objs.size f cd::outer):=λenv he b hb=>List.mem_filterMap.mpr ⟨env,he,hb⟩;have inB:∀b o,s1.heap.get? b=some o->b ∉ frs (envOfC qual scope s.heap.objs.size f cd::outer)->(W.hideAll s1.heap (frs (envOfC qual scope s.heap.objs.size f cd::outer))).get? b=some o:=λb o e n=>W.hideAll_get _ e n;refine wpAny_leaves_madeW (base:=W.hideAll s1.heap (frs (envOfC qual scope s.heap.objs.size f cd::outer))) hfr rfl (λb o q=>W.of_hideAll _ q) (W.funFrames_hide hst hin) hx λh2 t fl tu tn sm=>?_;refine ⟨a,C,H1,rfl,⟨t,_,I.os,I.bare,⟨λb o e n hb _=>?_,λb o e n hb _=>?_,λb o e n _=>?_,λb o e _=>?_,I.base.tups,I.base.frzs,I.base.tbls⟩,λb u e=>?_,fl,λb o e n=>?_,λb o0 o e0 e nb=>?_⟩,hE⟩
 ·have e1:s1.heap.get? b=some o:=I.base.keep b o e n hb (by intro z;exact absurd (show b∈([]:List Addr) from z) (by simp));refine fl.1 b o (inB b o e1 λz=>?_);rcases List.mem_cons.mp (I.stkSub b z) with q | q
  ·exact absurd (Nat.lt_of_lt_of_le (Heap.lt_size e) I.ok.above) (by rw [q];exact Nat.lt_irrefl _)
  ·exact hb q
 ·obtain ⟨sl,e1⟩:=I.base.slot b o e n hb (by intro z;exact absurd (show b∈([]:List Addr) from z) (by simp));have nf:∀vs,o.data≠.fields vs:=by
   obtain ⟨_,o',ho',hnf⟩:=I.funs.mem (show b∈(outer.filterMap (·.frame)) from hb);rw [e1] at ho';cases ho';exact hnf
  obtain ⟨sl',e2⟩:=sm b { o with slots:=sl } (hx.keeps b _ e1) nf;exact ⟨sl',e2⟩
 ·exact I.base.free b o e n (by intro z;exact absurd (show b∈([]:List Addr) from z) (by simp))
 ·obtain ⟨o1,e1⟩:=I.base.there b o e (by intro z;exact absurd (show b∈([]:List Addr) from z) (by simp));by_cases hb:b∈frs (envOfC qual scope s.heap.objs.size f cd::outer)
  ·obtain ⟨_,o',ho',hnf⟩:=hst.mem hb;rw [e1] at ho';cases ho';obtain ⟨sl',e2⟩:=sm b o1 (hx.keeps b _ e1) hnf;exact ⟨_,e2⟩
  ·exact ⟨o1,fl.1 b o1 (inB b o1 e1 hb)⟩
 ·have trk:∀c v,s1.heap.get? c=some v->H1 c≠none->h2.get? c=some v:=λc v q hc=>fl.1 c v (inB c v q λz=>hc (I.stkFree c z));refine (I.hok b u e).stay (λc v hc q=>trk c v q ?_) (λ_ q=>q) λ_ _ q=>q;rcases hc with z | z
  ·rw [z,e];simp
  ·rw [z];simp
 ·cases q':H1 b with
  | none=>exact absurd q' n
  | some u=>
   obtain ⟨v,q⟩:=(I.hok b u q').there;have nb:b ∉ frs (envOfC qual scope s.heap.objs.size f cd::outer):=λz=>n (I.stkFree b z);have e2:=fl.1 b v (inB b v q nb);rw [e] at e2;cases e2;exact inB b _ q nb
 ·obtain ⟨o1,e1⟩:=I.base.there b o0 e0 (by intro z;exact absurd (show b∈([]:List Addr) from z) (by simp));have nb':b ∉ frs (envOfC qual scope s.heap.objs.size f cd::outer):=λz=>by
   rcases List.mem_cons.mp (I.stkSub b z) with q | q
   ·exact absurd (Nat.lt_of_lt_of_le (Heap.lt_size e0) I.ok.above) (by rw [q];exact Nat.lt_irrefl _)
   ·exact nb q
  have e2:=fl.1 b o1 (inB b o1 e1 nb');have e':h2.get? b=some o:=e;rw [e'] at e2;cases e2;exact inB b _ e1 nb'
theorem Vg {P:Program}{w:World}{outer:List Env}{H H':Hp}{s s':Shared}{a C t:Addr}{B h2:Heap}(un:Un (frs outer) [] H H' s.heap s'.heap)(hok:HOk P w H' s'.heap)(fr:s'.heap.FunFrames B outer)(trk:∀b o,s'.heap.get? b=some o->H' b≠none->B.get? b=some o)(old:∀b o0 o,s.heap.get? b=some o0->s'.heap.get? b=some o->b ∉ frs outer->B.get? b=some o)(st:B.StaysIn h2)(sm:s'.heap.UpToSlots h2) :
  Un (frs outer) [] H H' s.heap h2/\HOk P w H' h2:=by
 refine ⟨⟨λb o e n hb hx=>st b o (old b o o e (un.keep b o e n hb hx) hb),λb o e n hb hx=>?_,un.free,λb o e hx=>?_,un.tups,un.frzs,un.tbls⟩,λb u e=>?_⟩
 ·obtain ⟨sl,e1⟩:=un.slot b o e n hb hx;obtain ⟨_,o',ho',hnf⟩:=fr.mem hb;rw [e1] at ho';cases ho';obtain ⟨sl',e2⟩:=sm b _ e1 hnf;exact ⟨sl',e2⟩
 ·obtain ⟨o1,e1⟩:=un.there b o e hx;by_cases hb:b∈frs outer
  ·obtain ⟨_,o',ho',hnf⟩:=fr.mem hb;rw [e1] at ho';cases ho';obtain ⟨sl',e2⟩:=sm b _ e1 hnf;exact ⟨_,e2⟩
  ·exact ⟨o1,st b o1 (old b o o1 e e1 hb)⟩
 ·refine (hok b u e).stay (λc v hc q=>st c v (trk c v q ?_)) (λ_ q=>q) λ_ _ q=>q;rcases hc with z | z
  ·rw [z,e];simp
  ·rw [z];simp
theorem Inv.track {a:Addr}{u:HO}(I:Inv X qQ σ H s)(hn:H a=none)(f1:a≠X.env.locals)(f4:∀x c,X.env.cells.lookup x=some c->c≠a)(f5:∀p∈X.pn++qQ,p.1≠a)(hs:X.s₀.heap.get? a=none)(ok:∀H',ObjOk X.prog X.w H' s.heap a u):Inv X qQ σ (upd H a u) s:=by
 refine ⟨I.ok,I.os,I.bare,⟨I.base.keep,I.base.slot,λb o e n z=>?_,I.base.there,λb xs e=>?_,λb o x e=>?_,λb ps e=>?_⟩,I.loc,I.cell,?_,λx c e=>?_,λp hp=>?_,λb v e=>?_,I.len⟩
 ·rw [Gn (show b≠a from λq=>by rw [q,hs] at e;cases e)];exact I.base.free b o e n z
 ·have:=I.base.tups b xs e;rw [Gn (Gh this hn)];exact this
 ·have:=I.base.frzs b o x e;rw [Gn (Gh this hn)];exact this
 ·obtain ⟨more,this⟩:=I.base.tbls b ps e;exact ⟨more,by rw [Gn (Gh this hn)];exact this⟩
 ·rw [Gn (Ne.symm f1)];exact I.free
 ·rw [Gn (f4 x c e)];exact I.freeC x c e
 ·obtain ⟨e,n,r⟩:=I.pin p hp;exact ⟨e,by rw [Gn (f5 p hp)];exact n,r⟩
 ·by_cases hb:b=a
  ·subst hb;rw [Gb] at e;cases e;exact ok _
  ·rw [Gn hb] at e;exact (I.hok b v e).stay (λ_ _ _ q=>q) (λc q=>by rw [Gn (Gh q hn)];exact q) λc xs q=>by rw [Gn (Gh q hn)];exact q
end
end L2
namespace L2
open PySem PySem.Spec PyProof.Rows
abbrev Zbu:List Value:=[.type "ValueError", .type "Exception", .type "BaseException", .type "object"]
abbrev ExcC (K:W.Frag)(C:Addr):Prop:=W.excIn K C Zbu "ValueError.__new__" = true
theorem UR {K:W.Frag}{h:Heap}{C:Addr}(KX:K.In h)(ex:ExcC K C):∃mro' ns' mN',(∃nm' qn' bs' hd' sn' sub' ab' col' dd' j0 j1 j2 j3 j5,
  h.get? C=some (excClassObj nm' qn' C ns' bs' mro' hd' sn' sub' ab' col' dd' j0 j1 j2 j3 j5 "ValueError.__new__"))/\h.Ns ns' mN'/\mN' "__init__" = none/\OwnTail h Zbu mro':=by
 have ex':=ex;unfold ExcC W.excIn at ex';split at ex'
 ·rename_i dd' cd' sl' lk;have lk':=KX _ _ lk;split at ex'
  ·rename_i C' rest' j0 j1 j2 j3 n' j5 hm hs;rw [Bool.and_eq_true,Bool.and_eq_true,Bool.and_eq_true,Bool.and_eq_true,Bool.and_eq_true,beq_iff_eq,beq_iff_eq,beq_iff_eq] at ex';obtain ⟨⟨⟨⟨⟨z1,z2⟩,z3⟩,z4⟩,z5⟩,z6⟩:=ex';have z3':cd'.hasDel=false:=by simpa using z3
   subst z1 z2;cases cd' with
   | mk a1 a2 a3 a4 a5 a6 a7 a8 a9 a10 a11=>
    have hm':a3=.ref C'::rest':=hm;have h11:a11=false:=z3';subst hm' h11;have es:sl'=#[j0,j1,j2,j3,some (.builtin "ValueError.__new__"),j5]:=by
     cases sl' with
     | mk l=>exact congrArg Array.mk hs
    subst es;exact ⟨rest',a4,_,⟨_,_,_,_,_,_,_,_,_,_,_,_,_,_,lk'⟩,.of_isNs (W.isNs_of_in KX z5),W.nsMap_none_of_in KX z5 z6,W.tail_of_in KX z4⟩
  ·cases ex'
 ·cases ex'
section
variable {X:Cx}
def ZJ (C:Addr)(E:XK)(t:TA):TS:=λ_ σ H=>t σ H λvs H1=>vs.length<=sizeLine/\E (.ref C) none H1
theorem Vh {C:Addr}{E:XK}{x:Str}{np qK pos:Pos}{e:Expr}{es:List Expr}{t:TA}(hc:X.calm=true)(hR:Vf X E)(hg:Gl X x)(hm:X.mg x=some (.ref C))(ex:ExcC X.K C)(ha:PA X (e::es) t)(hdb:(x == ("__debug__" : Str))=false:=by decide)(he:starEach (e::es) X.env=(false,eval e X.env)::starEach es X.env:=by rfl)(hpl:(backTo qK (starEach es X.env)).any (·.1)=false:=by rfl) :
  PS X (.Raise (some (.Call (.Name x np) (e::es) [] qK)) none pos) (ZJ C E t):=by
 intro qQ s σ H D I h;obtain ⟨mro',ns',mN',⟨nm',qn',bs',hd',sn',sub',ab',col',dd',j0,j1,j2,j3,j5,hC⟩,hN,hni,T⟩:=UR I.mod.kin ex;refine wpAny_Raise_call_subT (C:=C) (nm:=nm') (q:=qn') (N:=ns') (bs:=bs') (bm:=mro') (hdct:=hd') (sn:=sn') (sub:=sub') (ab:=ab') (col:=col') (dd:=dd') (k0:=j0) (k1:=j1) (k2:=j2) (k3:=j3) (k5:=j5)
  PySem.F.excBase_ValueError (mN:=mN') (T.hasType PySem.F.excBase_ValueError.hasBase) (I.ok.hd hc) (by rw [he];show (false || (backTo qK (starEach es X.env)).any (·.1))=false;rw [hpl];rfl) hni (Ob I hg hm ⟨rfl,?_⟩ hdb)
 have hA:=ha qK qQ s σ H _ I h;rw [he] at hA ⊢;refine Calls.evalArgs_plain (thn hA λus s2 ⟨vs,H2,I2,r2,hl,q2⟩=>?_);exact ⟨rfl,by rw [<-r2.length];exact hl,I2.bk _ _ hC,hN.keeps I2.bk,T.keeps I2.bk,λh' a hm=>hR qQ σ H2 s2 h' a C us I2 hm q2⟩
def Cx.inExc (X:Cx)(a:Addr):Cx:={ X with A:=X.A.mark (some (.ref a)),calm:=false,xe:=λ_ _=>False }
theorem Cx.Ok.inExc {X:Cx}(ok:X.Ok)(a:Addr):(X.inExc a).Ok:=
 ⟨ok.mod,ok.kind,ok.glob,ok.blt,ok.above,ok.inj,ok.has,ok.cab,(λz=>nomatch z),ok.frames,ok.stk,ok.exf,ok.bs,ok.bsz,ok.noex,ok.exfs,ok.funs,ok.frf⟩
variable {qQ:List (Addr×Obj)}{σ:St}{H:Hp}{s:Shared}
theorem Inv.inExc (I:Inv X qQ σ H s)(a:Addr):Inv (X.inExc a) qQ σ H s:=⟨I.ok.inExc a,I.os,I.bare,I.base,I.loc,I.cell,I.free,I.freeC,I.pin,I.hok,I.len⟩
theorem Inv.outExc {a:Addr}(ok:X.Ok)(I:Inv (X.inExc a) qQ σ H s):Inv X qQ σ H s:=⟨ok,I.os,I.bare,I.base,I.loc,I.cell,I.free,I.freeC,I.pin,I.hok,I.len⟩
theorem J5 {M:Model}{A:Around}{E:Value->Shared->Prop}{i:Nat}{n:Str}{pos:Pos}{Q:Unit->Shared->Prop}(I:Inv X qQ σ H s)(hN:X.N.Nodup)(hi:X.N[i]?=some n)(hl:X.env.scope.names.lookup n=some .local)(h:∀s',Inv X qQ (σ.set i none) H s'->Q () s'):wpAny M A (do bindName X.env n .none;unbindBehindTheSuite X.env n pos) Q E s:=by
 obtain ⟨m,hn,hlk⟩:=id I.loc;refine wpAny_nameGoes_keeps hl hn (by rw [I.ok.kind];rfl) λh' v hn' sb=>h _ ?_;have old:∀b o,X.s₀.heap.get? b=some o->b≠X.env.locals:=λb o e=>Nat.ne_of_lt (Nat.lt_of_lt_of_le (Heap.lt_size e) I.ok.above);have hLn:∀b u,H b=some u->b≠X.env.locals:=λb u e z=>by rw [z,I.free] at e;cases e
 refine ⟨I.ok,I.os,I.bare,⟨λb o e z hb hx=>(sb.2 b (old b o e)).trans (I.base.keep b o e z hb hx),λb o e z hb hx=>?_,I.base.free,λb o e hx=>?_,I.base.tups,I.base.frzs,I.base.tbls⟩,
  ⟨_,hn',λj y v' e1 e2 e3=>?_⟩,λy c e=>?_,I.free,I.freeC,λp hp=>?_,λb u e=>?_,by simpa using I.len⟩
 ·obtain ⟨sl,q⟩:=I.base.slot b o e z hb hx;exact ⟨sl,(sb.2 b (old b o e)).trans q⟩
 ·obtain ⟨o',q⟩:=I.base.there b o e hx;exact ⟨o',(sb.2 b (old b o e)).trans q⟩
 ·by_cases hj:j=i
  ·subst hj;have hiσ:j<σ.length:=by rw [I.len];exact (List.getElem?_eq_some_iff.mp hi).1
   rw [List.getElem?_set_self hiσ] at e2;cases e2
  ·rw [List.getElem?_set_ne (Ne.symm hj)] at e2;obtain ⟨u,ru,lk⟩:=hlk j y v' e1 e2 e3;refine ⟨u,ru,?_⟩;have hyn:y≠n:=λz=>hj (OJ hN e1 (z▸hi));rcases lk with ⟨k,e⟩ | ⟨k,c,e,z⟩
   ·exact .inl ⟨k,by simp [hyn,e]⟩
   ·exact .inr ⟨k,c,e,z.sameBut sb (I.cne y c e)⟩
 ·obtain ⟨v',z⟩:=I.cell y c e;exact ⟨v',z.sameBut sb (I.cne y c e)⟩
 ·obtain ⟨e,z,ne,nf,d⟩:=I.pin p hp;exact ⟨(sb.2 p.1 ne).trans e,z,ne,nf,d⟩
 ·refine (I.hok b u e).stay (λc v' hc q=>(sb.2 c ?_).trans q) (λ_ q=>q) λ_ _ q=>q;rcases hc with z | z
  ·rw [z];exact hLn b u e
  ·exact hLn c _ z
end
end L2
namespace L2
open PySem PySem.Spec PyProof.Rows
theorem OR {M:Model}{h:Heap}{a C:Addr}(hx:VQ a C h):W.Looks M h (typeOf (.ref a)) (.ref C):=by
 obtain ⟨ob,vs,e,c,d⟩:=hx;exact c▸(W.Looks.ld e).andThen .now
theorem Wp {K:PySem.W.Frag}{M:Model}{A:Around}{E:Value->Shared->Prop}{Q:Bool->Shared->Prop}{s:Shared}{a C W:Addr}{b:Bool}(KX:K.In s.heap)(hx:VQ a C s.heap)(hk:PySem.W.kitCls K (.ref C) (.ref W)=some b)(hb:PySem.W.subIn K (.ref W) (.type "BaseException")=some true)(h:Q b s):wpAny M A (excMatches (.ref a) (.ref W)) Q E s:=by
 obtain ⟨hty,his,hsub⟩:=PySem.W.kit_cls (M:=M) KX hk;have hB:=PySem.W.looks_subIn (M:=M) KX hb;have LT:=OR (M:=M) hx;obtain ⟨h0,g,dd,tk,os⟩:=s;have f:=tc_notTuple;unfold excMatches isInstance isExcClass;refine wpAny_bind (wpAny_bind (hty.at (wpAny_of_eq f ?_)));simp only [Bool.false_eq_true,if_false];refine wpAny_bind (wpAny_pure ?_);simp only [List.forIn_cons,List.forIn_nil];refine wpAny_bind (wpAny_bind (wpAny_bind (wpAny_bind (his.at ?_))));simp only [if_true];refine hB.at ?_;simp only [Bool.not_true,Bool.false_eq_true,if_false];refine wpAny_pure (wpAny_pure ?_);refine wpAny_bind (LT.at ?_);refine wpAny_bind (wpAny_bind (wpAny_bind (hsub.at ?_)));cases b with
 | true=>simp only [if_true];first | exact wpAny_pure (wpAny_pure (wpAny_pure h)) | exact wpAny_pure (wpAny_pure h) | exact wpAny_pure h
 | false=>simp only [Bool.false_eq_true,if_false];first | exact wpAny_pure (wpAny_pure (wpAny_pure h)) | exact wpAny_pure (wpAny_pure h) | exact wpAny_pure h
section
variable {X:Cx}{k:Nat}{f:Addr}{fd:FuncData}{ps:List Str}{sp:Sp}{dvs:List V}{ds:List Value}{fx:Str}{fp qK bpos np hpos pos:Pos}{e:Expr}{es:List Expr}{t:TA}
def Yj (K:PySem.W.Frag)(W:Addr)(i:Nat)(ts:TS)(D:VI)(σ:St):XK:=λcls _ H2=>∃C,cls=.ref C/\PySem.W.kitCls K (.ref C) (.ref W)=some true /\
 ∀a,H2 a=none->ts { nx:=λσ' H'=>D.nx (σ'.set i none) H',rt:=D.rt,bk:=λσ' H'=>D.bk (σ'.set i none) H',ct:=λσ' H'=>D.ct (σ'.set i none) H' } (σ.set i (some (.ref a))) (upd H2 a (Xz a C))
theorem handled {qQ:List (Addr×Obj)}{σ:St}{H:Hp}{s s':Shared}{D:VI}{W:Addr}{wx n:Str}{i:Nat}{b0:Stmt}{suite:List Stmt}{rest:List ExceptHandler}{ts:TS}{ev:Value}(hc:X.calm=true)(hst:X.stack=X.env::X.outer)(hfr:X.env.frame=some X.env.locals)(hex:X.ex=[])(hN:X.N.Nodup)(hi:X.N[i]?=some n)(hl:X.env.scope.names.lookup n=some .local)(hgW:Gl X wx)(hmW:X.mg wx=some (.ref W))(hbE:PySem.W.subIn X.K (.ref W) (.type "BaseException")=some true)(hsu:∀a,PSs (X.inExc a) (b0::suite) ts)(I:Inv X qQ σ H s)(h:CXr X.prog X.w X.stack H s (Yj X.K W i ts D σ) ev s')(hdb:(wx == ("__debug__" : Str))=false:=by decide) :
  wpAny (model X.prog X.w) X.A (noteFrame ev X.env) (λ_ s2=>wpAny (model X.prog X.w) X.A (setFlight ev none) (λ_ s3=>
   wpAny (model X.prog X.w) X.A (handleBy ev X.env (.ExceptHandler (some (.Name wx np)) (some n) (b0::suite) hpos::rest)) (SP X qQ D) X.xe s3) X.xe s2) X.xe s':=by
 obtain ⟨a,C,H',rfl,⟨t,B,os,bare,un,hok,fl,trk,old⟩,C',eC,hk,q⟩:=h;cases eC;have ff:∀{E:Value->Shared->Prop},∀(x:Value)(s:Shared),(λ(_:Value) (_:Shared)=>False) x s->E x s:=λ_ _ z=>False.elim z;have flX:=fl;rw [hst] at flX;have afr:=I.ok.frames;rw [hst] at afr;have new:s.heap.get? a=none:=by
  cases z:s.heap.get? a with
  | none=>rfl
  | some o0=>
   exfalso;obtain ⟨ob,vs,e1,c1,d1,_⟩:=fl.first;by_cases hb:a∈frs X.stack
   ·obtain ⟨_,o',ho',hnf⟩:=fl.2.2.1.mem hb;rw [e1] at ho';cases ho';exact hnf vs d1
   ·have:=old a o0 ob z e1 hb;rw [fl.2.1] at this;cases this
 have hna:H' a=none:=by
  cases z:H' a with
  | none=>rfl
  | some u=>
   exfalso;obtain ⟨ob,vs,e1,_⟩:=fl.first;have:=trk a ob e1 (by rw [z];simp);rw [fl.2.1] at this;cases this
 have na1:a≠X.env.locals:=λz=>by
  obtain ⟨m,⟨o,_,_,ho,_⟩,_⟩:=I.loc;rw [<-z,new] at ho;cases ho
 have na2:∀x c,X.env.cells.lookup x=some c->c≠a:=λx c e z=>by
  obtain ⟨v,o,ho,_⟩:=I.cell x c e;rw [z,new] at ho;cases ho
 have na3:∀p∈X.pn++qQ,p.1≠a:=λp hp z=>by
  have:=(I.pin p hp).1;rw [z,new] at this;cases this
 have na4:X.s₀.heap.get? a=none:=by
  cases z:X.s₀.heap.get? a with
  | none=>rfl
  | some o=>
   obtain ⟨o',e'⟩:=I.base.there a o z (by rw [hex];simp);rw [new] at e';cases e'
 have at_:∀{h2:Heap}{tk:Nat},B.StaysIn h2->s'.heap.UpToSlots h2->Inv X qQ σ H' { s' with heap:=h2,toks:=tk }:=λ{h2 tk} st sm=>by
  obtain ⟨u2,k2⟩:=Vg (t:=t) (a:=a) (C:=C) un hok fl.2.2.1 trk old st sm;exact I.call' (ch:=[]) os u2 k2 bare (λb z=>absurd z (by simp))
 refine wpAny_looks_onW afr hfr flX λh4 held4 sm4=>?_;refine wpAny_landsW held4 λh5 fl5 sm5=>?_;have I5:Inv X qQ σ H' { s' with heap:=h5 }:=at_ (tk:=s'.toks) fl5.1 (sm4.trans sm5);refine wpAny_handleBy_cons (codeAny_handlers_test ?_) (by intro q;cases q);refine Ob (X:=X.inExc a) (I5.inExc a) hgW hmW ?_ hdb;obtain ⟨ob,vs,e1,c1,d1,_⟩:=fl5.first;refine Wp (b:=true) I5.kIn ⟨ob,vs,e1,c1,d1⟩ hk hbE ?_;refine codeAny_handlers_suite_as ?_;refine lands_againW fl5 λh6 fl6 sm6=>?_;have I6:Inv X qQ σ H' { s' with heap:=h6 }:=at_ (tk:=s'.toks) fl6.1 ((sm4.trans sm5).trans sm6);obtain ⟨ob6,vs6,e6,c6,d6,_⟩:=fl6.first;have I7:=I6.track (u:=Xz a C) hna na1 na2 na3 na4 λH2=>YU ⟨ob6,vs6,e6,c6,d6⟩;refine OK (X:=X.inExc a) (I7.inExc a) hN hi (.inl hl) (v:=.ref a) rfl (λs8 I8=>?_) (.inr hl);refine wpAny_mono (hsu a qQ s8 _ _ _ I8 (q a hna)) (λfl s9 q9=>?_) ff;show wpAny _ _ (do bindName X.env n .none;unbindBehindTheSuite X.env n hpos) _ _ s9;cases fl with
 | next=>
  obtain ⟨σ9,H9,I9,q9⟩:=q9;exact J5 (I9.outExc I.ok) hN hi hl λs10 I10=>⟨_,_,I10,q9⟩
 | brk=>
  obtain ⟨σ9,H9,I9,q9⟩:=q9;exact J5 (I9.outExc I.ok) hN hi hl λs10 I10=>⟨_,_,I10,q9⟩
 | cont=>
  obtain ⟨σ9,H9,I9,q9⟩:=q9;exact J5 (I9.outExc I.ok) hN hi hl λs10 I10=>⟨_,_,I10,q9⟩
 | ret u=>
  obtain ⟨v,σ9,H9,I9,r9,q9⟩:=q9;exact J5 (I9.outExc I.ok) hN hi hl λs10 I10=>⟨v,_,_,I10,r9,q9⟩
theorem XA {qQ:List (Addr×Obj)}{σ:St}{H:Hp}{s:Shared}{Q:VK}{E:XK}{QQ:Value->Shared->Prop}{EE:Value->Shared->Prop}(F:GD X.prog X.w X.K X.mg X.base (CXr X.prog X.w) k f fd ps sp)(hr:Room k X.A)(hg:Gl X fx)(hm:X.mg fx=some (.ref f))(hk:W.keepIn X.K (.ref f)=true)(hb:Binds X.K fd ps ds)(hd:Vals dvs ds)(ha:PA X.nox (e::es) t)(I:Inv X qQ σ H s)(h:t σ H λvs H1=>sp (vs++dvs) H1 Q E)(hQ:∀u s',EP X qQ σ Q u s'->QQ u s')(hE:∀ev H1 s1 s',Inv X qQ σ H1 s1->CXr X.prog X.w X.stack H1 s1 E ev s'->EE ev s')(hdb:(fx == ("__debug__" : Str))=false:=by decide)(he:starEach (e::es) X.env=(false,eval e X.env)::starEach es X.env:=by rfl)(hpl:(backTo qK (starEach es X.env)).any (·.1)=false:=by rfl) :
  wpAny (model X.prog X.w) X.A (eval (.Call (.Name fx fp) (e::es) [] qK) X.env) QQ EE s:=by
 refine wpAny_Call_Name_kw (Ob I hg hm ?_ hdb);refine W.callWith_K (h₀:=X.base) I.ok.mod.kin hk (wpAny_mono (ha qK qQ s σ H _ (I.wish _) h) (λus s1 ⟨vs,H1,I1,r,q⟩=>⟨I1.unwish.kIn,?_⟩) (λ_ _ z=>False.elim z)) he hpl;have I1:=I1.unwish;have r2:Vals (vs++dvs) (us++ds):=r.append hd;have hl:(us++ds).length=ps.length:=by rw [<-r2.length];exact F.len _ _ _ _ q
 refine wpAny_call (codeAny_mono (F.run X.A X.stack s1 H1 ⟨us,[]⟩ (us++ds) (vs++dvs) Q E hr I1.env0 (hb s1 us I1.kIn hl) r2 q) λr s' hq=>?_);cases r with
 | error ev=>exact hE ev H1 s1 s' I1 hq
 | ok fl=>
  cases fl with
  | ret u=>exact hQ u s' (I1.after hq)
  | next=>exact False.elim hq
  | brk=>exact False.elim hq
  | cont=>exact False.elim hq
def Zb9 (K:PySem.W.Frag)(W:Addr)(i:Nat)(sp:Sp)(dvs:List V)(t:TA)(ts:TS):TS:=λD σ H=>t σ H λvs H1=>sp (vs++dvs) H1 (λ_ H2=>D.nx σ H2) (Yj K W i ts D σ)
theorem ZK {W:Addr}{wx n:Str}{i:Nat}{b0:Stmt}{suite:List Stmt}{ts:TS}(F:GD X.prog X.w X.K X.mg X.base (CXr X.prog X.w) k f fd ps sp)(hr:Room k X.A)(hg:Gl X fx)(hm:X.mg fx=some (.ref f))(hk:PySem.W.keepIn X.K (.ref f)=true)(hb:Binds X.K fd ps ds)(hd:Vals dvs ds)(ha:PA X.nox (e::es) t)(hc:X.calm=true)(hst:X.stack=X.env::X.outer)(hfr:X.env.frame=some X.env.locals)(hex:X.ex=[])(hN:X.N.Nodup)(hi:X.N[i]?=some n)(hl:X.env.scope.names.lookup n=some .local)(hgW:Gl X wx)(hmW:X.mg wx=some (.ref W))(hbE:PySem.W.subIn X.K (.ref W) (.type "BaseException")=some true)(hsu:∀a,PSs (X.inExc a) (b0::suite) ts)(hdb:(fx == ("__debug__" : Str))=false:=by decide)(hdb2:(wx == ("__debug__" : Str))=false:=by decide)(he:starEach (e::es) X.env=(false,eval e X.env)::starEach es X.env:=by rfl)(hpl:(backTo qK (starEach es X.env)).any (·.1)=false:=by rfl)(hs:swapsWith (.Call (.Name fx fp) (e::es) [] qK) none bpos.line X.env=pure false:=by rfl) :
  PS X (.Try [.Expr (.Call (.Name fx fp) (e::es) [] qK) bpos] [.ExceptHandler (some (.Name wx np)) (some n) (b0::suite) hpos] [] [] pos) (Zb9 X.K W i sp dvs t ts):=by
 intro qQ s σ H D I h;refine wpAny_Try_except (wpAny_execs_cons (wpAny_Expr_any (XA F hr hg hm hk hb hd ha I h (λu s' hq=>?_) (λev H1 s1 s' I1 hq=>?_) hdb he hpl) I.quiet hs))
 ·obtain ⟨v,H2,I2,_,q⟩:=hq;exact wpAny_execs_nil (wpAny_execs_nil ⟨σ,H2,I2,q⟩)
 ·exact handled hc hst hfr hex hN hi hl hgW hmW hbE hsu I1 hq hdb2
end
end L2
namespace L2
open PySem PySem.Spec PyProof.Rows
theorem Wq {K:W.Frag}{prog:Program}{w:World}{A:Around}{E:Value->Shared->Prop}{Q:Option Value->Shared->Prop}{s:Shared}{a C:Addr}(KX:K.In s.heap)(hx:VQ a C s.heap)(hga:W.findIn K (.ref C) "__getattribute__" = some (some (.builtin "BaseException.__getattribute__")))(hnga:W.findIn K (.ref C) "__getattr__" = some none)(hcl:W.findIn K (.ref C) "__class__" = some (some (.builtin "object.__class__")))(hm:W.mroIn K C (.type "object")=some true)(hB:W.subIn K (.ref C) (.type "BaseException")=some true)(h:Q (some (.ref C)) { s with toks:=s.toks+1 }):wpAny (model prog w) A (getAttr? (.ref a) "__class__") Q E s:=by
 have L0:=OR (M:=model prog w) hx;have L1:=W.looks_findIn (M:=model prog w) KX hga;have L2:=W.looks_findIn (M:=model prog w) KX hnga;have L3:=W.looks_findIn (M:=model prog w) KX hcl;have L4:=W.looks_subIn (M:=model prog w) KX hB;obtain ⟨h0,g,d,t,os⟩:=s;have f3:=PySem.F.attr_ValueError.ga.bind (.ref a);unfold getAttr? getAttrBy? getAttrBy;refine wpAny_bind (wpAny_mkText (wpAny_bind (wpAny_attempt (wpAny_holding (wpAny_bind (L0.at (wpAny_bind (L1.at ?_))))))));dsimp only;have hx2:(onTheHeap (Value.ref C) && Value.builtin "BaseException.__getattribute__" == Value.builtin "object.__getattribute__")=false:=by
  have z:(Value.builtin "BaseException.__getattribute__" == Value.builtin "object.__getattribute__")=false:=by decide +kernel
  rw [z,Bool.and_false]
 rw [hx2];simp only [Bool.false_eq_true,if_false];unfold getAttrByItsOwn
 repeat (any_goals (first | assumption | with_reducible refine L0.at ?_ | with_reducible refine L2.at ?_ | wp_step))
 have hsp:splitId "BaseException.__getattribute__" = some ("BaseException", "__getattribute__"):=by decide +kernel
 have hkd:builtinKind "BaseException.__getattribute__" = some .slot:=by decide +kernel
 have har:=PySem.F.args_bexc_ga (.ref a) (.str (Str.ofString "__class__") t);refine codeAny_call_builtin PySem.F.attr_ValueError.ga.plain PySem.F.entry_bexc_ga ?_;show wpAny _ _ (checkBuiltinCall "BaseException.__getattribute__" ⟨[.ref a,.str (Str.ofString "__class__") t],[]⟩) _ _ _;simp only [checkBuiltinCall,hkd,hsp];refine wpAny_bind ?_;unfold isInstance;have f5:=PySem.F.typeOf_object_class;have f6:=PySem.F.slot_gs_get.lookup;have f7:=PySem.F.slot_gs_set.lookup;have hT5:(⟨h0,g,d,t+1,os⟩:Shared).TypeIs (.builtin "object.__class__") "getset_descriptor" := PySem.F.typeOf_object_class;refine wpAny_bind (L0.at (L4.at ?_))
 repeat (any_goals (first | assumption | with_reducible refine L0.at ?_ | with_reducible refine L3.at ?_ | wp_step))
 have Lo:W.Looks (model prog w) h0 (isSubtype (.ref C) (.type (".".intercalate ("object.__class__".cutAt '.').dropLast))) true:=by
  rw [PySem.F.owner_object_class];exact W.looks_mroIn KX hm
 have hT6:(⟨h0,g,d,t+1,os⟩:Shared).TypeIs (.builtin "object.__class__") "getset_descriptor" := PySem.F.typeOf_object_class;refine codeAny_call_builtin PySem.F.slot_gs_get.plain PySem.F.entry_gs_get (PySem.F.slot_gs_get.check _ _ _ _ _ _ _ _ hT6 (PySem.F.args_gs_get _ _ _) ?_)
 repeat (any_goals (first | assumption | with_reducible refine L0.at ?_ | with_reducible refine Lo.at ?_ | wp_step))
 refine ⟨Code.quiet_builtin _ (by decide +kernel),codeAny_builtin PySem.F.entry_object_class ?_⟩
 repeat (any_goals (first | assumption | with_reducible refine L0.at ?_ | wp_step))
end L2
namespace L2
open PySem PySem.Spec PyProof.Rows
structure Zaf (K:W.Frag)(C:Addr):Prop where
 ex:ExcC K C
 ga:W.findIn K (.ref C) "__getattribute__" = some (some (.builtin "BaseException.__getattribute__"))
 nga:W.findIn K (.ref C) "__getattr__" = some none
 cl:W.findIn K (.ref C) "__class__" = some (some (.builtin "object.__class__"))
 ob:W.mroIn K C (.type "object")=some true
 be:W.subIn K (.ref C) (.type "BaseException")=some true
theorem Vi {K:W.Frag}{a C:Addr}(k:Zaf K C):W.KitX K (.ref a) (.ref C) (VQ a C) where
 ty:=λ_ _ _ p=>OR p
 it:=λM h KX _=>by
  obtain ⟨_,_,_,⟨_,_,_,_,_,_,_,_,_,_,_,_,_,_,hC⟩,_⟩:=UR KX k.ex;intro A Q E s kk q;unfold isType loadHead;exact wpAny_bind (wpAny_loadPart (kk _ _ hC) (wpAny_pure q))
 ne:=λh tp dd its n sl KX htp=>by
  obtain ⟨_,_,_,⟨_,_,_,_,_,_,_,_,_,_,_,_,_,_,hC⟩,_⟩:=UR KX k.ex;refine Bool.eq_false_iff.mpr λq=>?_;have e:C=tp:=Value.ref.inj (beq_iff_eq.mp q);rw [<-e,hC] at htp;have z:=congrArg Obj.data (Option.some.inj htp);unfold excClassObj at z;cases z
 ca:=λKX p q=>Wq KX p k.ga k.nga k.cl k.ob k.be q
def Us:V->Value
 | .ty n=>.type n
 | .ref a=>.ref a
 | _=>.none
def Wr:V->Bool
 | .ty _=>true
 | .ref _=>true
 | _=>false
theorem RelV.cls {c:V}{u:Value}(r:RelV c u)(h:Wr c=true):u=Us c:=by
 cases c with
 | ty n=>exact r
 | ref a=>exact r
 | _=>cases h
theorem Vals.cls:∀{cs:List V}{us:List Value},Vals cs us->cs.all Wr=true->us=cs.map Us
 | _,_,.nil,_=>rfl
 | _,_,.cons r t,h=>by
  rw [List.all_cons,Bool.and_eq_true] at h;rw [List.map_cons,r.cls h.1,Vals.cls t h.2]
def Zca (K:W.Frag):List V->Hp->VK->Prop:=λxs H Q=>∃x c b,xs=[x,c]/\Q (.bl b) H /\
 ((∃t,VN K H x t/\Wr c=true/\W.kitOne K t (Us c)=some b) \/
  (∃a C,x=.ref a/\H a=some (Xz a C)/\Zaf K C/\Wr c=true/\W.kitOne K (.ref C) (Us c)=some b) \/
  (∃a C tp cs,x=.ref a/\H a=some (Xz a C)/\Zaf K C/\c=.ref tp/\H tp=some (.tup cs)/\cs.all Wr=true/\W.kitAny K (.ref C) (cs.map Us)=some b))
theorem Ja {X:Cx}:Jx X (.builtin "isinstance") (Zca X.K):=by
 intro qQ s σ H xs us Q I rv h;obtain ⟨x,c,b,rfl,q,h⟩:=h;obtain ⟨u,cv,rfl,ru,rc⟩:=rv.two;have fin:∀tk,EP X qQ σ Q (.bool b) { s with toks:=tk }:=λtk=>⟨.bl b,H,I.tok tk,rfl,q⟩;rcases h with ⟨t,ty,hc,e⟩ | ⟨a,C,rfl,ha,k,hc,e⟩ | ⟨a,C,tp,cs,rfl,ha,k,rfl,ht,hc,e⟩
 ·rw [rc.cls hc];exact Wf I ru ty e fin
 ·rw [rc.cls hc];cases (show u=Value.ref a from ru);obtain ⟨p,_⟩:=I.hok a _ ha;exact W.kia_one (Vi k) I.kIn p e (λz=>nomatch z) fin
 ·cases (show u=Value.ref a from ru);cases (show cv=Value.ref tp from rc);obtain ⟨p,_⟩:=I.hok a _ ha;obtain ⟨_,its,r,o,eo,co,n,dn⟩:=I.hok tp _ ht;obtain ⟨ocl,odi,oda,osl⟩:=o;cases (show ocl=.type "tuple" from co);cases (show oda=.seq its.toArray n from dn);exact W.kia_tup (its:=its) (Vi k) I.kIn p eo (by rw [r.cls hc];exact e) (λz=>nomatch z) fin
mutual
inductive DatV (K:W.Frag)(H:Hp):V->PyData->Prop
 | non:DatV K H .non .none
 | bl (b:Bool):DatV K H (.bl b) (.bool b)
 | int (i:Int):DatV K H (.int i) (.int i)
 | str (x:Str):DatV K H (.str x) (.str x)
 | lst {a:Addr} {xs:List V} {ds:List PyData}:SqL K H a xs->DatVs K H xs ds->DatV K H (.ref a) (.list ds)
 | tup {a:Addr} {xs:List V} {ds:List PyData}:SqT K H a xs->DatVs K H xs ds->DatV K H (.ref a) (.tuple ds)
inductive DatVs (K:W.Frag)(H:Hp):List V->List PyData->Prop
 | nil:DatVs K H [] []
 | cons {x:V} {d:PyData} {xs:List V} {ds:List PyData}:DatV K H x d->DatVs K H xs ds->DatVs K H (x::xs) (d::ds)
end
section
variable {X:Cx}{qQ:List (Addr×Obj)}{σ:St}{H:Hp}{s:Shared}
mutual
theorem DatV.reads (I:Inv X qQ σ H s):∀{x:V}{d:PyData}{u:Value},DatV X.K H x d->RelV x u->∃as,Reads s.heap u d as
 | _,_,_,.non,r=>by cases r;exact ⟨_,.none⟩
 | _,_,_,.bl b,r=>by cases r;exact ⟨_,.bool b⟩
 | _,_,_,.int i,r=>by obtain ⟨t,rfl⟩:=r;exact ⟨_,.int i t⟩
 | _,_,_,.str x,r=>by obtain ⟨t,rfl⟩:=r;exact ⟨_,.str x t⟩
 | _,_,_,.lst hq hs,r=>by
  cases r;obtain ⟨its,rv,⟨o,n,e,c,dd,dt⟩,_⟩:=I.list hq;obtain ⟨as,ra⟩:=DatVs.reads I hs rv;exact ⟨_,.list e c dt (by simpa using ra)⟩
 | _,_,_,.tup hq hs,r=>by
  cases r;obtain ⟨its,rv,⟨o,e,c,n,dt⟩,_⟩:=I.tuple hq;obtain ⟨as,ra⟩:=DatVs.reads I hs rv;exact ⟨_,.tuple e c dt (by simpa using ra)⟩
theorem DatVs.reads (I:Inv X qQ σ H s):∀{xs:List V}{ds:List PyData}{us:List Value},DatVs X.K H xs ds->Vals xs us->∃as,ReadsAll s.heap us ds as
 | _,_,_,.nil,.nil=>⟨_,.nil⟩
 | _,_,_,.cons h hs,.cons r rs=>by
  obtain ⟨as,ra⟩:=DatV.reads I h r;obtain ⟨bs,rb⟩:=DatVs.reads I hs rs;exact ⟨_,.cons ra rb⟩
end
end
def Lt2 (p:Nat)(a:Int):Prop:=a.natAbs<2 ^ p
def ZaB (i j:Int):Prop:=0<j/\Lt2 9000 j
theorem GP {X:Cx}:OpR X (binaryOp .FloorDiv) (rI ZaB λi j=>.int (i / j)):=opI λi j _ _ _ _ _ hc q=>by
 have h1:(0:Int)<j:=hc.1;have h2:j.natAbs<2 ^ 9000:=hc.2;refine floordiv_int (by lia) (by rw [Int.fdiv_eq_ediv_of_nonneg i (by lia)];exact q) (.inl (PyProof.noPylong_of_log2 ?_));exact (Nat.log2_lt (by lia)).mpr h2
theorem Same.new {H:Hp}{p:Addr}{o:HO}(h:H p=none):Same H (upd H p o):=λb u e=>by rw [Gn (Gh e h)];exact e
theorem Same.put {H H1:Hp}{p:Addr}{o:HO}(s:Same H H1)(h:H p=none):Same H (upd H1 p o):=λb u e=>by rw [Gn (Gh e h)];exact s b u e
theorem GG {H:Hp}{p b:Addr}{o u:HO}(h:H b=some u)(n:b≠p):upd H p o b=some u:=by rw [Gn n];exact h
inductive Prs (H:Hp):List V->List (Int×Int)->Prop
 | nil:Prs H [] []
 | cons {p:Addr} {a b:Int} {xs:List V} {rs:List (Int×Int)}:H p=some (.tup [.int a,.int b])->Prs H xs rs->Prs H (.ref p::xs) ((a,b)::rs)
theorem Prs.len {H:Hp}{xs:List V}{rs:List (Int×Int)}(h:Prs H xs rs):xs.length=rs.length:=by
 induction h with
 | nil=>rfl
 | cons _ _ ih=>rw [List.length_cons,List.length_cons,ih]
theorem Prs.snoc {H:Hp}{xs:List V}{rs:List (Int×Int)}(h:Prs H xs rs){p:Addr}{a b:Int}(e:H p=some (.tup [.int a,.int b])):Prs H (xs++[.ref p]) (rs++[(a,b)]):=by
 induction h with
 | nil=>exact .cons e .nil
 | cons e1 _ ih=>exact .cons e1 ih
theorem Prs.keep {H H':Hp}{xs:List V}{rs:List (Int×Int)}(h:Prs H xs rs)(k:∀p ys,H p=some (.tup ys)->H' p=some (.tup ys)):Prs H' xs rs:=by
 induction h with
 | nil=>exact .nil
 | cons e1 _ ih=>exact .cons (k _ _ e1) ih
theorem Prs.same {H H':Hp}{xs:List V}{rs:List (Int×Int)}(h:Prs H xs rs)(k:Same H H'):Prs H' xs rs:=h.keep λp ys e=>k p _ e
theorem XB {H:Hp}{l:Addr}{zs:List V}{o:HO}(h:H l=some (.lst zs)):∀p ys,H p=some (.tup ys)->upd H l o p=some (.tup ys):=λp ys e=>GG e (JZ e h (λz=>by cases z))
theorem Vj {H:Hp}{l:Addr}{o:HO}(h:H l=none):∀p ys,H p=some (.tup ys)->upd H l o p=some (.tup ys):=λp ys e=>GG e (Gh e h)
end L2
namespace L2
open PySem PySem.Spec PyProof.Rows
section
variable {P:Program}{w:World}{K:W.Frag}{mg:Str->Option Value}{base:Heap}
theorem Fun.okR {x qual:Str}{st:Stmt}{f:Addr}{fd:FuncData}{N ps:List Str}{k:Nat}{sp:Sp}(F:Fun K x qual st f fd)(S:Go N ps (Gd st))(len:∀vs H Q E,sp vs H Q E->vs.length=ps.length)(qG:∀(cdv:Value)(A:Around)(outer:List Env)(s:Shared)(H:Hp)(vs:List V)(Q:VK)(E:XK),Room k (A.deeper (envOfC qual (Gd st) s.heap.objs.size f cdv))->sp vs H Q E ->
   ∃t,PSs (Xh (CXr P w) P w K mg base N qual (Gd st) f cdv A outer s H E) (Gj st) t/\t { nx:=λ_ H'=>Q .non H',rt:=Q } (ON N vs) H):GD P w K mg base (CXr P w) (k+1) f fd ps sp:=by
 obtain ⟨oc,od,kV,doc,pm,an,cdv,ct,osl,rfl,lk,hcd⟩:=F.ex;refine ZA lk hcd S len λA outer s H vs Q E hr hsp=>?_;obtain ⟨t,h,q⟩:=qG cdv A outer s H vs Q E hr hsp;exact ⟨t,h,q⟩
theorem ZaC {X:Cx}:Ue (CXr X.prog X.w) X E0:=λ_ _ _ _ _ _ _ ⟨_,_,_,_,_,h⟩=>h.elim
end
section
variable {X:Cx}
theorem Ut {x:Str}{a:Addr}{pos:Pos}(hm:X.mg x=some (.ref a))(hg:Gl X x:=by rfl)(hd:(x == ("__debug__" : Str))=false:=by decide):PE X (.Name x pos) (tC (.ref a)):=GI hg hm rfl hd
theorem Yk {x:Str}{T:String}{pos:Pos}(hm:X.mg x=none)(hv:bootBuiltins x=some (.type T))(hg:Gl X x:=by rfl)(hn:x ≠ "__name__" := by decide)(hd:(x == ("__debug__" : Str))=false:=by decide):PE X (.Name x pos) (tC (.ty T)):=Yz hg hm hv rfl hn hd
end
theorem Jb:bootBuiltins "isinstance" = some (.builtin "isinstance"):=by first | rfl | decide +kernel
theorem YV:bootBuiltins "ValueError" = some (.type "ValueError"):=by first | rfl | decide +kernel
theorem JS:bootBuiltins "tuple" = some (.type "tuple"):=by first | rfl | decide +kernel
theorem Ol:bootBuiltins "list" = some (.type "list"):=by first | rfl | decide +kernel
theorem Vk {K:W.Frag}{t:Value}:W.kitOne K t t=some true:=by
 unfold W.kitOne;rw [if_pos (beq_self_eq_true t)]
section
variable {X:Cx}(K:W.Frag)
theorem Zh (h:X.K=K:=by rfl):IxR X (Zbq K):=h▸YM
theorem US (h:X.K=K:=by rfl):IxR X (Zbr K):=h▸ZB
theorem kIn (h:X.K=K:=by rfl):OpR X (compareOp .In) (rIn K false):=h▸Wj
theorem Yl (h:X.K=K:=by rfl):OpR X (compareOp .NotIn) (rIn K true):=h▸Ul
theorem Zbv (h:X.K=K:=by rfl):Jx X (.builtin "len") (λxs H Q=>∃p ys,xs=[.ref p]/\(SqL K H p ys\/SqT K H p ys)/\Q (.int ys.length) H):=h▸Um
theorem Ws (h:X.K=K:=by rfl):Jx X (.type "list") (λxs H Q=>∃p ys,xs=[.ref p]/\(SqL K H p ys\/SqT K H p ys)/\∀l,H l=none->Q (.ref l) (upd H l (.lst ys))):=h▸Uo
theorem kSl (h:X.K=K:=by rfl):SlR X (Zbs K):=h▸YN
theorem Zag {es:List Expr}{k:Nat}{t:TGs}{n:Nat}{pos:Pos}(hc:X.calm=true)(h:PGs X es t)(hK:X.K=K:=by rfl)(hn:(assignEach es X.env).length=n:=by rfl)(hst:(assignEach es X.env).findIdx? (·.1)=none:=by rfl):PG X (.Tuple es k pos) (Zbk K n t):=hK▸Zr hc h hn hst
theorem OS {tg l:Expr}{tl:TE}(hl:PE X l tl)(h:X.K=K:=by rfl):PI X tg l (Zs K tl):=h▸YB hl
end
end L2
namespace L2
open PySem
def UT (r c:Nat)(p:Nat):List (Int×Int):=
 (if ((p:Int)+1) % (c:Int)=0 then [] else [((p:Int),(p:Int)+1)])++(if (p:Int)+(c:Int)<(r:Int) * (c:Int) then [((p:Int),(p:Int)+(c:Int))] else [])
def GE (r c i:Nat):List (Int×Int):=(List.range i).flatMap (UT r c)
theorem JA (r c i:Nat):GE r c (i+1)=GE r c i++UT r c i:=by
 unfold GE;rw [List.range_succ,List.flatMap_append,List.flatMap_singleton]
theorem Vl {H H2:Hp}{l t:Addr}{xs:List V}{rs:List (Int×Int)}{a b:Int}(s:Same H H2)(hl:H l=none)(h2:H2 l=some (.lst xs))(hp:Prs H2 xs rs)(ht:H2 t=none) :
  Same H (upd (upd H2 t (.tup [.int a,.int b])) l (.lst (xs++[.ref t])))/\upd (upd H2 t (.tup [.int a,.int b])) l (.lst (xs++[.ref t])) l=some (.lst (xs++[.ref t])) /\
   Prs (upd (upd H2 t (.tup [.int a,.int b])) l (.lst (xs++[.ref t]))) (xs++[.ref t]) (rs++[(a,b)]):=by
 have hne:t≠l:=λz=>by rw [z,h2] at ht;cases ht
 have s1:Same H (upd H2 t (.tup [.int a,.int b])):=s.put (s.free ht);refine ⟨s1.put hl,Gb,?_⟩;have k1:=hp.keep (Vj (o:=.tup [.int a,.int b]) ht);have k2:=k1.keep (XB (H:=upd H2 t (.tup [.int a,.int b])) (l:=l) (zs:=xs) (o:=.lst (xs++[.ref t])) (GG h2 (Ne.symm hne)));exact k2.snoc (by rw [Gn hne,Gb])
end L2
namespace L2
open PySem PySem.Spec PyProof.Rows
def AllP {α:Type}(P:α->Prop):List α->Prop
 | []=>True
 | x::r=>P x/\AllP P r
theorem AllP.mem {α:Type}{P:α->Prop}:∀{l:List α},AllP P l->∀x∈l,P x
 | _::_,h,_,.head _=>h.1
 | _::_,h,x,.tail _ m=>AllP.mem h.2 x m
theorem Gx {X:Cx}{scope:Scope}{cl:List (Str×Addr)}{own:List Str}{fr:List (Str×Nat)}(L:List (Str×NameKind))(hcl:closureFor scope X.env=pure cl)(hL:(relabel scope X.env).names=L)(hc:∀y∈scope.names,y.2≠.cell)(hk:scope.kind=.function)(hn:∀y∈scope.names,y.2=.local->scope.names.lookup y.1=some .local)(hcs:AllP (λp=>X.env.cells.lookup p.1=some p.2) cl)(qY:AllP (λp=>(p.2=.cell\/p.2=.free)->∃c,cl.lookup p.1=some c) L)(hfr:AllP (λp=>X.N[p.2]?=some p.1/\(X.env.kindOf p.1=some .cell\/X.env.kindOf p.1=some .free)/\(L.lookup p.1=some .cell\/L.lookup p.1=some .free)) fr):G8 X scope cl own fr:=
 ⟨hcl,hc,hk,hn,λy c h=>hcs.mem (y,c) (PySem.mem_of_lookup h),λy h=>by
  rw [hL] at h;rcases h with h | h
  ·exact qY.mem _ (PySem.mem_of_lookup h) (.inl rfl)
  ·exact qY.mem _ (PySem.mem_of_lookup h) (.inr rfl),λp hp=>by
  rw [hL];exact hfr.mem p hp⟩
theorem G5 {k:NameKind}{P:Prop}(h:k=.cell\/k=.free)(h1:(k == .cell)=false:=by rfl)(h2:(k == .free)=false:=by rfl):P:=by
 rcases h with z | z
 ·subst z;exact absurd h1 (by decide)
 ·subst z;exact absurd h2 (by decide)
theorem Prs.get {H:Hp}:∀{xs:List V}{rs:List (Int×Int)},Prs H xs rs->∀{i:Nat}{x:V},xs[i]?=some x->∃t r,x=.ref t/\H t=some (.tup [.int r.1,.int r.2])/\rs[i]?=some r
 | _,_,.nil,_,_,h=>by simp at h
 | _,_,.cons (a:=a) (b:=b) e _,0,_,h=>by
  simp at h;subst h;exact ⟨_,(a,b),rfl,e,rfl⟩
 | _,_,.cons _ r,i+1,x,h=>by
  obtain ⟨t,q,h1,h2,h3⟩:=Prs.get r (i:=i) (x:=x) (by simpa using h);exact ⟨t,q,h1,h2,by simpa using h3⟩
theorem GK {t u:TS}{D:VI}{σ:St}{H:Hp}(Pm:St->Hp->Prop)(h2:∀ σ' H',Pm σ' H'->u D σ' H')(h1:(∀ σ' H',Pm σ' H'->u D σ' H')->t { D with nx:=u D } σ H):Zak t u D σ H:=h1 h2
end L2
namespace L2
open PySem PySem.Spec PyProof.Rows
section
variable {X:Cx}
theorem UU:UnR X (unaryOp .USub) (rU λi=>.int (-i)):=by
 intro qQ s σ H x v Q I rx h;obtain ⟨i,rfl,q⟩:=h;obtain ⟨t,rfl⟩:=rx;exact neg_int ⟨.int (-i),H,I.tok _,⟨_,rfl⟩,q⟩
end
theorem ZL {xs:List V}{k:Nat}:Xu xs none (some (k:Int))=xs.take k:=by
 unfold Xu;rw [HT.sIx_none,HT.sIx_nat,List.drop_zero,Nat.sub_zero];by_cases h:k<=xs.length
 ·rw [Nat.min_eq_left h]
 ·rw [Nat.min_eq_right (by lia),List.take_length,List.take_of_length_le (by lia)]
end L2
namespace L2
open PySem PySem.Spec PyProof.Rows
theorem Ov {P:Program}{w:World}{K:W.Frag}{mg:Str->Option Value}{base:Heap}{N:List Str}{qual:Str}{scope:Scope}{f:Addr}{cd:Value}{A:Around}{outer:List Env}{s:Shared}{H:Hp}{E:XK} :
  Ue (CXr P w) (Xh (CXr P w) P w K mg base N qual scope f cd A outer s H E) E:=by
 intro qQ σ H1 s1 ev s' I h;obtain ⟨a,C,H',rfl,⟨t,B,os,bare,un,hok,fl,trk,old⟩,hE⟩:=h;have hfr:=I.ok.frames;have nox:∀b:Addr,b ∉ (Xh (CXr P w) P w K mg base N qual scope f cd A outer s H E).ex:=λb z=>absurd (show b∈([]:List Addr) from z) (by simp);refine wpAny_leaves_onW hfr rfl fl λh2 fl2 sm=>?_;obtain ⟨u2,k2⟩:=Vg (t:=t) (a:=a) (C:=C) un hok fl.2.2.1 trk old fl2.1 sm;have u1:Un (frs (envOfC qual scope s.heap.objs.size f cd::outer)) [] H H1 s.heap s1.heap:=Un.mono I.base (λb hb=>by
  have hb':b∈frs outer:=hb;obtain ⟨env,he,q⟩:=List.mem_filterMap.mp hb';exact List.mem_filterMap.mpr ⟨env,List.mem_cons_of_mem _ he,q⟩) (λb hb=>absurd hb (nox b))
 have u3:=u1.trans u2;have nst:∀b o,s.heap.get? b=some o->b ∉ frs outer->b ∉ frs (envOfC qual scope s.heap.objs.size f cd::outer):=λb o e hb z=>by
  rcases List.mem_cons.mp (I.stkSub b z) with q | q
  ·exact absurd (Nat.lt_of_lt_of_le (Heap.lt_size e) I.ok.above) (by rw [q];exact Nat.lt_irrefl _)
  ·exact hb q
 have inst:∀b,b∈frs outer->b∈frs (envOfC qual scope s.heap.objs.size f cd::outer):=λb hb=>by
  obtain ⟨env,he,q⟩:=List.mem_filterMap.mp hb;exact List.mem_filterMap.mpr ⟨env,List.mem_cons_of_mem _ he,q⟩
 refine ⟨a,C,H',rfl,⟨t,B,os.trans I.os,bare,⟨λb o e n hb hx=>u3.keep b o e n (nst b o e hb) hx,λb o e n hb hx=>u3.slot b o e n (inst b hb) hx,u3.free,u3.there,u3.tups,u3.frzs,u3.tbls⟩,k2,fl2,λb o e n=>?_,λb o0 o e0 e nb=>?_⟩,hE⟩
 ·cases q':H' b with
  | none=>exact absurd q' n
  | some u=>
   obtain ⟨v,q⟩:=(hok b u q').there;have e1:=trk b v q n;have e2:=fl2.1 b v e1;have e':h2.get? b=some o:=e;rw [e'] at e2;cases e2;exact e1
 ·obtain ⟨o1,e1⟩:=u1.there b o0 e0 (by simp);obtain ⟨o2,e2⟩:=un.there b o1 e1 (by simp);have e3:=old b o1 o2 e1 e2 (nst b o0 e0 nb);have e4:=fl2.1 b o2 e3;have e':h2.get? b=some o:=e;rw [e'] at e4;cases e4;exact e3
end L2
namespace L2
open PySem PySem.Spec PyProof.Rows
section
variable {X:Cx}
def Ite (K:W.Frag)(a:Addr):It:=
 ⟨λi H=>∃xs x,SqL K H a xs/\xs[i]?=some x,λi H x H'=>∃T y,x=.ref T/\H T=none/\H'=upd H T (.tup [.int (i:Nat),y])/\∀xs,SqL K H a xs->xs[i]?=some y,λi H=>∃xs,SqL K H a xs/\xs.length<=i⟩
theorem Wt {P:Program}{w:World}{K:W.Frag}{elts:List Expr}{k:Nat}{pos:Pos}(a e it:Addr)(hne:e≠it) :
  Ye P w K (.Tuple elts k pos) (Ite K a) [e,it] e (λi h=>(∃old,IsEnum h e it ((i:Nat):Int) old)/\h.IsListIter it a i) where
 mem:=by simp
 obj:=λi h st b hb=>by
  obtain ⟨⟨old,he⟩,⟨o,ei,c,d⟩⟩:=st;rcases List.mem_cons.mp hb with rfl | hb
  ·exact ⟨_,he,λv z=>by
    have z':Data.fields _=Data.cell v:=z;cases z'⟩
  ·have eb:b=it:=by simpa using hb
   subst eb;exact ⟨o,ei,λv z=>by rw [d] at z;cases z⟩
 keep:=λi h h' st q=>by
  obtain ⟨⟨old,he⟩,hi⟩:=st;exact ⟨⟨old,q e (by simp) _ he⟩,hi.at λo ho=>q it (by simp) o ho⟩
 item:=by
  intro X hP hw hK hc i qQ s σ H E I hf st hg;subst hP hw hK;obtain ⟨xs,x,hq,hx⟩:=hg;obtain ⟨its,rv,p,hz⟩:=I.list hq;obtain ⟨u,hu,ru⟩:=rv.get hx;obtain ⟨⟨old,he⟩,hit⟩:=st;refine wpAny_pyNext_enum_item he hit p.isList (x:=u) (by simpa using hu) hne λh1 heo hit1 ht1 hz1 hk1=>?_;refine ⟨_,rfl,wpAny_letOwnedTupleGo_enum (s:={ s with heap:=h1,toks:=s.toks+1 }) heo λh2 he2 hs2=>?_⟩;have hs2':Heap.SameBut e h1 h2:=hs2;have hfr:H s.heap.objs.size=none:=I.fresh;have hel:e<s.heap.objs.size:=Heap.lt_size he;have kk:∀b o,b ∉ [e,it]->s.heap.get? b=some o->h2.get? b=some o:=λb o hb q=>by
   have n1:b≠e:=λz=>hb (by simp [z]);have n2:b≠it:=λz=>hb (by simp [z]);exact (hs2'.2 b n1).trans (hk1 b o n1 n2 q)
  have nT:∀b o,s.heap.get? b=some o->b≠s.heap.objs.size:=λb o q=>Nat.ne_of_lt (Heap.lt_size q);have trk:∀c u,H c=some u->c ∉ [e,it]:=λc u q z=>by
   rw [(hf c z).1] at q;cases q
  refine ⟨.ref s.heap.objs.size,upd H s.heap.objs.size (.tup [.int (i:Nat),x]),I.call' (ch:=[e,it]) rfl ⟨λb o q _ _ hb=>kk b o hb q,λb o q _ _ hb=>⟨o.slots,kk b o hb q⟩,λb o q n _=>by rw [Gn (nT b o q)];exact n,
   λb o q hb=>⟨o,kk b o hb q⟩,λb ys q=>by rw [Gn (Gh q hfr)];exact q,λb o u q=>by rw [Gn (Gh q hfr)];exact q,λb ps q=>⟨#[],by rw [Gn (Gh q hfr),q];simp⟩⟩ (λb v q=>?_) I.bare (λb hb=>?_),
   rfl,⟨_,x,rfl,hfr,rfl,λys hy=>by rw [I.list_inj hy hq];exact hx⟩,⟨⟨_,by rw [Int.natCast_add];exact he2⟩,hit1.extBut hs2'.extBut (Ne.symm hne)⟩,λb hb=>?_⟩
  ·by_cases hb:b=s.heap.objs.size
   ·subst hb;rw [Gb] at q;cases q;refine ⟨by have h16:(16777216:Nat)=sizeLine:=sizeLine_eq.symm;rw [<-h16];show 2<=16777216;lia,[.int (i:Nat) s.toks,u],.cons ⟨_,rfl⟩ (.cons ru .nil),⟨_,(hs2'.2 _ (Nat.ne_of_gt hel)).trans ht1,rfl,_,rfl⟩⟩
   ·rw [Gn hb] at q;refine (I.hok b v q).stay (λc v' hc z=>kk c v' ?_ z) (λc z=>by rw [Gn (Gh z hfr)];exact z) λc ys z=>by rw [Gn (Gh z hfr)];exact z
    rcases hc with rfl | hc
    ·exact trk _ _ q
    ·exact trk _ _ hc
  ·obtain ⟨f0,f1,f2,f3,f4,f5⟩:=hf b hb;exact ⟨f3,f1,f4,f5⟩
  ·have ho:∃o,s.heap.get? b=some o:=by
    rcases List.mem_cons.mp hb with rfl | hb
    ·exact ⟨_,he⟩
    ·have eb:b=it:=by simpa using hb
     subst eb;obtain ⟨o,ei,_⟩:=hit;exact ⟨o,ei⟩
   obtain ⟨o,ho⟩:=ho;rw [Gn (nT b o ho)];exact (hf b hb).1
 done:=by
  intro X hP hw hK hc i qQ s σ H E I hf st hg;subst hP hw hK;obtain ⟨xs,hq,hx⟩:=hg;obtain ⟨its,rv,p,hz⟩:=I.list hq;obtain ⟨⟨old,he⟩,hit⟩:=st;obtain ⟨f0,f1,f2,f3,f4,f5⟩:=hf it (by simp);have hl:=rv.length;exact wpAny_pyNext_enum_end (I.ok.hd hc) he hit p.isList (by simp;lia) λh' eb=>⟨rfl,I.turned (t':=s.toks) (λb o hb q=>eb b o hb q) f0 f1 f3 f4 f5⟩
 self:=λ_ _ _ _ _ ⟨⟨_,he⟩,_⟩ h=>wpAny_pyIter_enum he h
def ZM (K:W.Frag)(ta:TA):TI:=λσ H R=>ta σ H λvs H1=>∃a xs,vs=[.ref a]/\SqL K H1 a xs/\R (Ite K a) H1
theorem YW {elts:List Expr}{k:Nat}{p0:Pos}{l:Expr}{ta:TA}{p pos:Pos}(hg:Gl X "enumerate")(hm:X.mg "enumerate" = none)(ha:PA X [l] ta)(hs:starEach [l] X.env=[(false,eval l X.env)]:=by rfl) :
  PI X (.Tuple elts k p0) (.Call (.Name "enumerate" p) [l] [] pos) (ZM X.K ta):=by
 intro qQ s σ H R I h;refine Call_ (Oy I hg hm boot_enumerate (PyProof.Rows.callWith_type1 (thn (ha pos qQ s σ H _ I h) λus s1 ⟨vs,H1,I1,r1,q1⟩=>?_) hs rfl));obtain ⟨a,xs,e,hq,q⟩:=q1;subst e;obtain ⟨u,rfl,ru⟩:=r1.one;cases ru;obtain ⟨its,rv,pl,hz⟩:=I1.list hq;refine call_enumerate_list pl.isList λh' hE hI hsz hk=>?_;refine wpAny_pyIter_enum hE ?_;refine ⟨s1.heap.objs.size+1,[s1.heap.objs.size+1,s1.heap.objs.size],_,_,H1,rfl,I1.kept (t':=s1.toks) hk,Wt a _ _ (Nat.succ_ne_self _),⟨⟨_,hE⟩,hI⟩,λb hb=>?_,q⟩;have e:s1.heap.objs.size<=b:=by
  rcases List.mem_cons.mp hb with rfl | hb
  ·exact Nat.le_succ _
  ·have eb:b=s1.heap.objs.size:=by simpa using hb
   rw [eb];exact Nat.le_refl _
 exact I1.fpOk e (I1.hok.fresh e)
theorem ZN (K:W.Frag){elts:List Expr}{k:Nat}{p0:Pos}{l:Expr}{ta:TA}{p pos:Pos}(hg:Gl X "enumerate")(hm:X.mg "enumerate" = none)(ha:PA X [l] ta)(h:X.K=K:=by rfl)(hs:starEach [l] X.env=[(false,eval l X.env)]:=by rfl) :
  PI X (.Tuple elts k p0) (.Call (.Name "enumerate" p) [l] [] pos) (ZM K ta):=h▸YW hg hm ha hs
end
end L2
namespace L2
open PySem PySem.Spec PyProof.Rows
section
variable {X:Cx}{a b c d:Expr}{ta tb tc td:TE}{pos:Pos}
theorem Vm:bootBuiltins "all" = some (.builtin "all"):=by first | rfl | decide +kernel
theorem Om:∀{bs:List Bool}{us:List Value},Vals (bs.map V.bl) us->us=bs.map Value.bool
 | [],_,.nil=>rfl
 | b::bs,_,.cons r t=>by rw [List.map_cons,<-Om t];cases r;rfl
theorem Wu (bs:List Bool):(List.range bs.length).all (λi=>bs.getD i false)=bs.all id:=by
 induction bs with
 | nil=>rfl
 | cons b bs ih=>
  rw [List.length_cons,List.range_succ_eq_map,List.all_cons,List.all_map,List.all_cons];show (b && _)=(b && _)
  congr 1
theorem Zcb (K:W.Frag)(hc:X.calm=true)(h:X.K=K:=by rfl):Jx X (.builtin "all") (λxs H Q=>∃(p:Addr)(bs:List Bool),xs=[.ref p]/\SqL K H p (bs.map V.bl)/\Q (.bl (bs.all id)) H):=by
 subst h;intro qQ s σ H xs us Q I rv h;obtain ⟨p,bs,rfl,hq,q⟩:=h;obtain ⟨u,rfl,ru⟩:=rv.one;cases ru;obtain ⟨its,r,pl,hz⟩:=I.list hq;have e:=Om r;have hh:X.A.in1.handled=none:=I.ok.hd hc;obtain ⟨o,eo,_⟩:=id pl.isList;have hlt:p<s.heap.objs.size:=Heap.lt_size eo;refine call_all_walk (wpAny_pyIter_list pl.isList ?_);refine ⟨s.heap.objs.size,_,_,_,_,_,λi=>bs.getD i false,rfl,Walks.list hh s.heap.objs.size p (Nat.ne_of_lt hlt) its.toArray,⟨⟨_,Heap.get?_push_size _ rfl,rfl,rfl⟩,pl.isList.at λo e=>Heap.get?_push_of_some _ e⟩,?_,λh' tk hk=>?_⟩
 ·intro i v s' Q' E' hv hq';have hv':its[i]?=some v:=by simpa using hv
  rw [e,List.getElem?_map] at hv';cases z:bs[i]? with
  | none=>rw [z] at hv';cases hv'
  | some b=>
   rw [z] at hv';cases hv';have eb:bs.getD i false=b:=by rw [List.getD_eq_getElem?_getD,z];rfl
   exact wpAny_truthy_bool (by rw [<-eb];exact hq')
 ·have hl:its.toArray.size=bs.length:=by rw [List.size_toArray,e,List.length_map]
  have I1:Inv X qQ σ H { s with heap:=s.heap.push { cls:=.type "list_iterator", data:=.fields #[.ref p,.int 0 0] } }:=I.kept (t':=s.toks) λb o e=>Heap.get?_push_of_some _ e;refine ⟨.bl _,H,I.kept λb o e'=>hk b o ?_ (Heap.get?_push_of_some _ e'),?_,q⟩
  ·intro z;have:b=s.heap.objs.size:=by simpa using z
   exact absurd (Heap.lt_size e') (by rw [this];exact Nat.lt_irrefl _)
  ·show Value.bool _=Value.bool _;rw [hl,Wu]
end
end L2
namespace L2
open PySem PySem.Spec PyProof.Rows
section
variable {κ:Type}[DecidableEq κ]
def JQ (kvs:List (κ×V))(k:κ):Option V:=(kvs.find? λkv=>decide (kv.1=k)).map (·.2)
def Uu (kvs:List (κ×V))(k:κ)(v:V):List (κ×V):=
 if (kvs.any λkv=>decide (kv.1=k))=true then kvs.map (λkv=>if kv.1=k then (kv.1,v) else kv) else kvs++[(k,v)]
theorem GL {p:κ×V}{r:List (κ×V)}{k:κ}(e:p.1=k):JQ (p::r) k=some p.2:=by simp [JQ,List.find?_cons,e]
theorem GM {p:κ×V}{r:List (κ×V)}{k:κ}(e:¬ p.1=k):JQ (p::r) k=JQ r k:=by simp [JQ,List.find?_cons,e]
theorem J6 (k:κ):∀kvs:List (κ×V),(kvs.any λkv=>decide (kv.1=k))=(JQ kvs k).isSome
 | []=>rfl
 | p::r=>by
  rw [List.any_cons];by_cases e:p.1=k
  ·simp only [GL e,decide_eq_true e,Bool.true_or,Option.isSome_some]
  ·rw [GM e,decide_eq_false e,Bool.false_or];exact J6 k r
theorem Vn (k j:κ)(y:V):∀kvs:List (κ×V),JQ (kvs.map λkv=>if kv.1=k then (kv.1,y) else kv) j=(JQ kvs j).map λx=>if j=k then y else x
 | []=>rfl
 | p::r=>by
  have ih:=Vn k j y r;rw [List.map_cons];by_cases h:p.1=k
  ·rw [if_pos h];by_cases e:p.1=j
   ·rw [GL (p:=(p.1,y)) e,GL e,Option.map_some,if_pos (e.symm.trans h)]
   ·rw [GM (p:=(p.1,y)) e,GM e,ih]
  ·rw [if_neg h];by_cases e:p.1=j
   ·rw [GL (p:=p) e,GL e,Option.map_some,if_neg (λz=>h (e.trans z))]
   ·rw [GM (p:=p) e,GM e,ih]
theorem Uv (k j:κ)(y:V):∀kvs:List (κ×V),JQ kvs k=none->JQ (kvs++[(k,y)]) j=if j=k then some y else JQ kvs j
 | [],_=>by
  by_cases e:k=j
  ·rw [if_pos e.symm];exact GL (p:=(k,y)) e
  ·rw [if_neg (λz=>e z.symm)];exact GM (p:=(k,y)) e
 | p::r,hn=>by
  rw [List.cons_append];have hk:¬ p.1=k:=λz=>by rw [GL z] at hn;cases hn
  rw [GM hk] at hn;have ih:=Uv k j y r hn;by_cases e:p.1=j
  ·rw [GL e,GL e,if_neg (λz=>hk (e.trans z))]
  ·rw [GM e,GM e,ih]
theorem Vo (kvs:List (κ×V))(k j:κ)(y:V):JQ (Uu kvs k y) j=if j=k then some y else JQ kvs j:=by
 unfold Uu;by_cases a:(kvs.any λkv=>decide (kv.1=k))=true
 ·rw [if_pos a,Vn];rw [J6] at a;by_cases e:j=k
  ·obtain ⟨x,hx⟩:=Option.isSome_iff_exists.mp a;rw [if_pos e,e,hx,Option.map_some,if_pos rfl]
  ·rw [if_neg e];cases JQ kvs j with
   | none=>rfl
   | some x=>rw [Option.map_some,if_neg e]
 ·rw [if_neg a];refine Uv k j y kvs ?_;rw [J6] at a;cases q:JQ kvs k with
  | none=>rfl
  | some x=>rw [q] at a;exact (a rfl).elim
theorem Jc (kvs:List (κ×V))(k:κ)(v:V):(Uu kvs k v).length<=kvs.length+1:=by
 unfold Uu;split
 ·rw [List.length_map];lia
 ·rw [List.length_append,List.length_cons,List.length_nil];lia
theorem RelO.isSome_eq {o:Option V}{u:Option Value}(r:RelO o u):o.isSome=u.isSome:=by
 cases o with
 | none=>cases u with
  | none=>rfl
  | some _=>exact (show False from r).elim
 | some _=>cases u with
  | none=>exact (show False from r).elim
  | some _=>rfl
theorem RelO.getD {o:Option V}{u:Option Value}{d:V}{d':Value}(r:RelO o u)(rd:RelV d d'):RelV (o.getD d) (u.getD d'):=by
 cases o with
 | none=>cases u with
  | none=>exact rd
  | some _=>exact (show False from r).elim
 | some _=>cases u with
  | none=>exact (show False from r).elim
  | some _=>exact r
theorem KV.val {kvs:List (κ×V)}{vs:List (κ×Value)}(r:KV kvs vs)(k:κ):RelO (JQ kvs k) (valueAt vs k):=by
 unfold KV at r
 induction r with
 | nil=>exact True.intro
 | @cons p q ps qs h t ih=>
  obtain ⟨h1,h2⟩:=h;by_cases e:p.1=k
  ·have e':q.1=k:=h1.symm.trans e;have b:valueAt (q::qs) k=some q.2:=by simp [valueAt,List.find?_cons,e']
   rw [GL e,b];exact h2
  ·have e':¬ q.1=k:=λz=>e (h1.trans z);have b:valueAt (q::qs) k=valueAt qs k:=by simp [valueAt,List.find?_cons,e']
   rw [GM e,b];exact ih
theorem KV.any {kvs:List (κ×V)}{vs:List (κ×Value)}(r:KV kvs vs)(k:κ):(kvs.any λkv=>decide (kv.1=k))=vs.any λkv=>decide (kv.1=k):=by
 unfold KV at r
 induction r with
 | nil=>rfl
 | cons h t ih=>rw [List.any_cons,List.any_cons,ih,h.1]
theorem KV.repl {kvs:List (κ×V)}{vs:List (κ×Value)}(r:KV kvs vs)(k:κ){y:V}{u:Value}(ry:RelV y u) :
  KV (kvs.map λkv=>if kv.1=k then (kv.1,y) else kv) (vs.map λkv=>if kv.1=k then (kv.1,u) else kv):=by
 unfold KV at r ⊢
 induction r with
 | nil=>exact .nil
 | @cons p q ps qs h t ih=>
  rw [List.map_cons,List.map_cons];refine .cons ?_ ih;obtain ⟨h1,h2⟩:=h;by_cases e:p.1=k
  ·rw [if_pos e,if_pos (h1.symm.trans e)];exact ⟨h1,ry⟩
  ·rw [if_neg e,if_neg (λz=>e (h1.trans z))];exact ⟨h1,h2⟩
theorem KV.put {kvs:List (κ×V)}{vs:List (κ×Value)}(r:KV kvs vs)(k:κ){y:V}{u:Value}(ry:RelV y u):KV (Uu kvs k y) (stored vs k u):=by
 unfold Uu stored;rw [r.any k];by_cases e:(vs.any λkv=>decide (kv.1=k))=true
 ·rw [if_pos e,if_pos e];exact r.repl k ry
 ·rw [if_neg e,if_neg e];exact Paired.snoc r ⟨rfl,ry⟩
theorem KV.length {kvs:List (κ×V)}{vs:List (κ×Value)}(r:KV kvs vs):kvs.length=vs.length:=Paired.length r
end
theorem Wv {P:Program}{w:World}{k:Key}{u:Value}(r:RelV (kV k) u):(Gy P w).is k u=true:=by
 cases k with
 | inl i=>obtain ⟨t,e⟩:=(show ∃t,u=Value.int i t from r);subst e;exact UL P w i t
 | inr x=>obtain ⟨t,e⟩:=(show ∃t,u=Value.str x t from r);subst e;exact UM P w x t
theorem Uw {P:Program}{w:World}:∀{ks:List Key}{us:List Value},Vals (ks.map kV) us->ItemsAre (Gy P w) ks us
 | [],_,r=>by rw [List.map_nil] at r;cases r;exact .nil
 | k::ks,_,r=>by
  rw [List.map_cons] at r;cases r with
  | cons h t=>exact .cons (Wv h) (Uw t)
abbrev KT (H:Hp):List (List Key×V)->List (List Key×Addr×Value)->Prop:=Paired λp q=>p.1=q.1/\H q.2.1=some (.tup (p.1.map kV))/\RelV p.2 q.2.2
theorem KT.val {H:Hp}{kvs:List (List Key×V)}{xs:List (List Key×Addr×Value)}(r:KT H kvs xs)(k:List Key):RelO (JQ kvs k) ((atKey xs k).map (·.2)):=by
 induction r with
 | nil=>exact True.intro
 | @cons p q ps qs h t ih=>
  obtain ⟨h1,_,h2⟩:=h;by_cases e:p.1=k
  ·have e':q.1=k:=h1.symm.trans e;have b:atKey (q::qs) k=some q.2:=by simp [atKey,List.find?_cons,e']
   rw [GL e,b];exact h2
  ·have e':¬ q.1=k:=λz=>e (h1.trans z);have b:atKey (q::qs) k=atKey qs k:=by simp [atKey,List.find?_cons,e']
   rw [GM e,b];exact ih
theorem KT.repl {H:Hp}{kvs:List (List Key×V)}{xs:List (List Key×Addr×Value)}(r:KT H kvs xs)(k:List Key){y:V}{u:Value}(ry:RelV y u) :
  KT H (kvs.map λkv=>if kv.1=k then (kv.1,y) else kv) (xs.map (putAt k u)):=by
 induction r with
 | nil=>exact .nil
 | @cons p q ps qs h t ih=>
  rw [List.map_cons,List.map_cons];refine .cons ?_ ih;obtain ⟨h1,h2,h3⟩:=h;unfold putAt;by_cases e:p.1=k
  ·rw [if_pos e,if_pos (h1.symm.trans e)];exact ⟨h1,h2,ry⟩
  ·rw [if_neg e,if_neg (λz=>e (h1.trans z))];exact ⟨h1,h2,h3⟩
theorem KT.put {H:Hp}{kvs:List (List Key×V)}{xs:List (List Key×Addr×Value)}(r:KT H kvs xs)(k:List Key){b:Addr}{y:V}{u:Value}(hb:H b=some (.tup (k.map kV)))(ry:RelV y u) :
  KT H (Uu kvs k y) (storedH xs k b u):=by
 have e:(kvs.any λkv=>decide (kv.1=k))=(atKey xs k).isSome:=by
  rw [J6,(r.val k).isSome_eq,Option.isSome_map]
 unfold Uu storedH;rw [e];by_cases q:(atKey xs k).isSome=true
 ·rw [if_pos q,if_pos q];exact r.repl k ry
 ·rw [if_neg q,if_neg q];exact Paired.snoc r ⟨rfl,hb,ry⟩
theorem KT.keeps {H H':Hp}{kvs:List (List Key×V)}{xs:List (List Key×Addr×Value)}(r:KT H kvs xs)(ht:∀b ys,H b=some (.tup ys)->H' b=some (.tup ys)):KT H' kvs xs:=
 Paired.mapP r λ_ _ z=>⟨z.1,ht _ _ z.2.1,z.2.2⟩
section
variable {P:Program}{w:World}{H:Hp}{h:Heap}{a:Addr}
theorem ZO {u:HO}(ok:HOk P w H h)(e:Rd H a u):ObjOk P w H h a u:=e.ok ok
theorem UV {kvs:List (Key×V)}(ok:HOk P w H h)(e:Rd H a (.dK kvs)):kvs.length<=sizeLine/\(a == sysModules)=false/\∃vs,KV kvs vs/\h.DictOf (Gy P w) a vs:=
 show ObjOk P w H h a (.dK kvs) from ZO ok e
theorem ZaD {kvs:List (Key×V)}(ok:HOk P w H h)(e:H a=some (.dK kvs)):kvs.length<=sizeLine/\(a == sysModules)=false/\∃vs,KV kvs vs/\h.DictOf (Gy P w) a vs:=UV ok (.inl e)
theorem Ux {ks:List Key}(ok:HOk P w H h)(e:H a=some (.tup (ks.map kV))):(tupleKind (Gy P w)).is h ks a:=by
 obtain ⟨_,its,r,o,h1,h2,n,h3⟩:=(show ObjOk P w H h a (.tup (ks.map kV)) from ok a _ e);exact ⟨o,its.toArray,n,h1,h2,h3,by simpa using Uw r⟩
theorem VR {kvs:List (List Key×V)}(ok:HOk P w H h)(e:Rd H a (.dT kvs)):kvs.length<=sizeLine/\(a == sysModules)=false /\
  ∃xs,KT H kvs xs/\h.DictOfH (tupleKind (Gy P w)) a xs:=by
 obtain ⟨z,y,xs,r,o,es,ep,h1,h2,h3,h4,h5⟩:=(show ObjOk P w H h a (.dT kvs) from ZO ok e);refine ⟨z,y,xs,r,o,es,ep,h1,h2,h3,h4,λx hx=>?_,h5⟩;have all:∀{l:List (List Key×V)}{m:List (List Key×Addr×Value)},KT H l m->∀x∈m,(tupleKind (Gy P w)).is h x.1 x.2.1:=by
  intro l m q
  induction q with
  | nil=>intro x hx;exact nomatch hx
  | @cons p q ps qs hq t ih=>
   intro x hx;rcases List.mem_cons.mp hx with e | hx
   ·subst e;exact Ux ok (by rw [<-hq.1];exact hq.2.1)
   ·exact ih x hx
 exact all r x hx
theorem ZaE {kvs:List (List Key×V)}(ok:HOk P w H h)(e:H a=some (.dT kvs)):kvs.length<=sizeLine/\(a == sysModules)=false /\
  ∃xs,KT H kvs xs/\h.DictOfH (tupleKind (Gy P w)) a xs:=VR ok (.inl e)
end
def DGet (H:Hp)(a:Addr)(y:V)(r:Option V):Prop:=
 (∃kvs k,Rd H a (.dK kvs)/\y=kV k/\r=JQ kvs k)\/∃kvs k b,Rd H a (.dT kvs)/\y=.ref b/\H b=some (.tup (k.map kV))/\r=JQ kvs k
def DPut (H:Hp)(a:Addr)(y v:V)(H':Hp):Prop:=
 (∃kvs k,H a=some (.dK kvs)/\y=kV k/\kvs.length<sizeLine/\H'=upd H a (.dK (Uu kvs k v))) \/
 ∃kvs k b,H a=some (.dT kvs)/\y=.ref b/\H b=some (.tup (k.map kV))/\kvs.length<sizeLine/\H'=upd H a (.dT (Uu kvs k v))
theorem DGet.k {H:Hp}{a:Addr}{kvs:List (Key×V)}{k:Key}(e:H a=some (.dK kvs)):DGet H a (kV k) (JQ kvs k):=.inl ⟨kvs,k,.inl e,rfl,rfl⟩
theorem DGet.t {H:Hp}{a b:Addr}{kvs:List (List Key×V)}{k:List Key}(e:H a=some (.dT kvs))(eb:H b=some (.tup (k.map kV))):DGet H a (.ref b) (JQ kvs k):=.inr ⟨kvs,k,b,.inl e,rfl,eb,rfl⟩
theorem DPut.k {H:Hp}{a:Addr}{kvs:List (Key×V)}{k:Key}{v:V}(e:H a=some (.dK kvs))(hl:kvs.length<sizeLine):DPut H a (kV k) v (upd H a (.dK (Uu kvs k v))):=.inl ⟨kvs,k,e,rfl,hl,rfl⟩
theorem DPut.t {H:Hp}{a b:Addr}{kvs:List (List Key×V)}{k:List Key}{v:V}(e:H a=some (.dT kvs))(eb:H b=some (.tup (k.map kV)))(hl:kvs.length<sizeLine) :
  DPut H a (.ref b) v (upd H a (.dT (Uu kvs k v))):=.inr ⟨kvs,k,b,e,rfl,eb,hl,rfl⟩
section
variable {X:Cx}{qQ:List (Addr×Obj)}{σ:St}{H:Hp}{s:Shared}{a:Addr}{y v:V}{u r:Value}{o:Option V}{A:Around}{E:Value->Shared->Prop}
theorem Inv.big (I:Inv X qQ σ H s):sysModules<s.heap.objs.size:=by
 have h:mainGlobals<s.heap.objs.size:=(I.mod.glob.keeps I.bk).lt;exact Nat.lt_trans (by decide) h
theorem Ww {Q:Value->Shared->Prop}(hu:A.units+1<cLine)(I:Inv X qQ σ H s)(g:DGet H a y (some v))(ry:RelV y u)(h:∀w' s',Inv X qQ σ H s'->RelV v w'->Q w' s') :
  wpAny (model X.prog X.w) A (getItem (.ref a) u) Q E s:=by
 rcases g with ⟨kvs,k,e,ey,l⟩ | ⟨kvs,k,b,e,ey,eb,l⟩
 ·subst ey;obtain ⟨z,hd,vs,rel,dd⟩:=UV I.hok e;obtain ⟨w',hw,rw'⟩:=RelO.some_of (v:=v) (o:=valueAt vs k) (by rw [l];exact rel.val k);exact wpAny_getItem_of (Wv ry) dd.mapOf hw (h w' _ (I.tok _) rw')
 ·subst ey;cases (show u=Value.ref b from ry);obtain ⟨z,hd,xs,rel,dd⟩:=VR I.hok e;obtain ⟨w',hw,rw'⟩:=RelO.some_of (v:=v) (o:=(atKey xs k).map (·.2)) (by rw [l];exact rel.val k);obtain ⟨p,hp,hp2⟩:=Option.map_eq_some_iff.mp hw;refine wpAny_getItem_heap (tupleKind_room_in1 hu) (Ux I.hok eb) dd hp ?_;rw [hp2];exact h w' _ (I.tok _) rw'
theorem Zcc {Q:Value->Shared->Prop}(hu:A.units+1<cLine)(I:Inv X qQ σ H s)(g:DGet H a y o)(ry:RelV y u)(h:∀s',Inv X qQ σ H s'->Q (.bool o.isSome) s') :
  wpAny (model X.prog X.w) A (compareOp .In u (.ref a)) Q E s:=by
 rcases g with ⟨kvs,k,e,ey,l⟩ | ⟨kvs,k,b,e,ey,eb,l⟩
 ·subst ey;obtain ⟨z,hd,vs,rel,dd⟩:=UV I.hok e;refine wpAny_in_of (Wv ry) hd dd.mapOf ?_;rw [<-(rel.val k).isSome_eq,<-l];exact h _ (I.tok _)
 ·subst ey;cases (show u=Value.ref b from ry);obtain ⟨z,hd,xs,rel,dd⟩:=VR I.hok e;refine wpAny_in_heap (tupleKind_room_in1 hu) (Ux I.hok eb) hd dd ?_;have q:=(rel.val k).isSome_eq;rw [Option.isSome_map] at q;rw [<-q,<-l];exact h _ (I.tok _)
theorem Wx {h':Heap}{t':Nat}{ob:HO}(I:Inv X qQ σ H s)(mu:Mut (H a))(hs:Heap.SameBut a s.heap h')(he:∃q,h'.get? a=some q)(new:ObjOk X.prog X.w (upd H a ob) h' a ob) :
  Inv X qQ σ (upd H a ob) { s with heap:=h',toks:=t' }:=
 I.write (x:=a) (e:=a) mu (.inl rfl) (λb q hb z=>(hs.2 b hb).trans z) he new
theorem ZP {P:Program}{w:World}{H':Hp}{h':Heap}{kvs:List (Key×V)}{vs:List (Key×Value)}(z:kvs.length<=sizeLine)(hd:(a == sysModules)=false)(rel:KV kvs vs)(dd:h'.DictOf (Gy P w) a vs) :
  ObjOk P w H' h' a (.dK kvs):=⟨z,hd,vs,rel,dd⟩
theorem Wy {H':Hp}{Q:Unit->Shared->Prop}(hu:A.units+1<cLine)(I:Inv X qQ σ H s)(g:DPut H a y v H')(ry:RelV y u)(rv:RelV v r)(h:∀s',Inv X qQ σ H' s'->Q () s') :
  wpAny (model X.prog X.w) A (setItem (.ref a) u r) Q E s:=by
 rcases g with ⟨kvs,k,e,ey,l,eH⟩ | ⟨kvs,k,b,e,ey,eb,l,eH⟩
 ·subst ey eH;obtain ⟨z,hd,vs,rel,dd⟩:=ZaD I.hok e;have hz:vs.length<=sizeLine:=by rw [<-rel.length];exact z
  have hl:(Uu kvs k v).length<=sizeLine:=by have:=Jc kvs k v;lia
  refine wpAny_setItem_pairs (hsz:=hz) (Wv ry) dd λh' dd' hs=>h _ ?_;have he:∃q,h'.get? a=some q:=let ⟨q,_,_,hq,_⟩:=dd';⟨q,hq⟩;exact Wx I (by rw [e];exact True.intro) hs he (ZP hl hd (rel.put k rv) dd')
 ·subst ey eH;cases (show u=Value.ref b from ry);obtain ⟨z,hd,xs,rel,dd⟩:=ZaE I.hok e;have hz:xs.length<=sizeLine:=by rw [<-Paired.length rel];exact z
  have hl:(Uu kvs k v).length<=sizeLine:=by have:=Jc kvs k v;lia
  refine wpAny_setItem_heap (hsz:=hz) (tupleKind_room_in1 hu) (Ux I.hok eb) dd λh' dd' hs=>h _ ?_;obtain ⟨q,es,ep,hq,h2,h3,h4,_,h5⟩:=dd';refine Wx I (by rw [e];exact True.intro) hs ⟨q,hq⟩ ⟨hl,hd,_,(rel.put k eb rv).keeps λc ys ec=>?_,q,es,ep,hq,h2,h3,h4,h5⟩;rw [Gn (JZ ec e (λz=>nomatch z))];exact ec
end
def Zbw (i:Expr):Prop:=∀ov iv,subscripted i false ov iv=operate [ov,iv] (getItem ov iv)
theorem YX {prog:Program}{w:World}{A:Around}{E:Value->Shared->Prop}{s:Shared}{env:Env}{value slice:Expr}{pos:Pos}{T id:String}{Q:Value->Shared->Prop}(hl:typeLookup (.type T) "__getitem__" = pure (some (.builtin id)))(hs:Zbw slice)(h:wpAny (model prog w) A (eval value env) (λo s₁=>wpAny (model prog w) A (eval slice env) (λi s₂=>s₂.TypeIs o T/\wpAny (model prog w) A (getItem o i) Q E s₂) E s₁) E s) :
  wpAny (model prog w) A (eval (.Subscript value slice pos) env) Q E s:=by
 refine Subscript_ (wpAny_mono h (λo s₁ h₁=>wpAny_mono h₁ (λi s₂ h₂=>?_) λ_ _ x=>x) λ_ _ x=>x);obtain ⟨hT,h₂⟩:=h₂;unfold subscriptTail;refine wpAny_bind ?_;rw [getitemInPython_of_ne hT.not_modules];refine wpAny_bind (wpAny_specialOf hT hl ?_);have fin:wpAny (model prog w) A (subscripted slice false o i) (λr s₃=>wpAny (model prog w) A (letTemporaryGo value o r >>= λ_=>pure r) Q E s₃) E s₂:=by
  rw [hs o i];exact wpAny_operating (wpAny_mono h₂ (λr s₃ h₃=>wpAny_bind (wpAny_letTemporaryGo (wpAny_pure h₃))) λ_ _ x=>x)
 first
  | exact wpAny_pure (wpAny_bind fin)
  | exact wpAny_bind (wpAny_pure (wpAny_bind fin))
  | exact wpAny_bind fin
theorem UW {X:Cx}{qQ:List (Addr×Obj)}{σ:St}{H:Hp}{s:Shared}{a:Addr}{y:V}{o:Option V}(I:Inv X qQ σ H s)(g:DGet H a y o):s.TypeIs (.ref a) "dict" := by
 rcases g with ⟨kvs,k,e,_,_⟩ | ⟨kvs,k,b,e,_,_,_⟩
 ·obtain ⟨_,_,vs,_,dd⟩:=UV I.hok e;exact dd.typeIs
 ·obtain ⟨_,_,xs,_,dd⟩:=VR I.hok e;exact dd.typeIs
def ZaF (td ty:TE):TE:=λσ H Q=>td σ H λx H1=>ty σ H1 λy H2=>∃a v,x=.ref a/\DGet H2 a y (some v)/\Q v H2
def Zcd (ty td:TE):TE:=λσ H Q=>ty σ H λy H1=>td σ H1 λx H2=>∃a o,x=.ref a/\DGet H2 a y o/\Q (.bl o.isSome) H2
def ZaG (td ty tv:TE):TS:=λD σ H=>tv σ H λv H1=>td σ H1 λx H2=>ty σ H2 λy H3=>∃a H4,x=.ref a/\DPut H3 a y v H4/\D.nx σ H4
section
variable {X:Cx}{o i e value:Expr}{pos pos' tpos:Pos}{td ty tv:TE}
theorem UX (hu:X.A.units+1<cLine)(ho:PE X o td)(hi:PE X i ty)(hs:Zbw i):PE X (.Subscript o i pos) (ZaF td ty):=by
 intro qQ s σ H Q I h;refine YX PySem.F.slot_dict_getitem.lookup hs (thn (ho qQ s σ H _ I h) λu s1 ⟨x,H1,I1,rx,q1⟩=>thn (hi qQ s1 σ H1 _ I1 q1) λiv s2 ⟨y,H2,I2,ry,a,v,ex,g,q2⟩=>?_);subst ex;obtain rfl:u=Value.ref a:=rx;exact ⟨UW I2 g,Ww hu I2 g ry λw' s3 I3 rw'=>⟨v,H2,I3,rw',q2⟩⟩
theorem ZQ (hu:X.A.units+1<cLine)(hi:PE X i ty)(ho:PE X o td):PC X .In i o (Zcd ty td):=by
 intro qQ s σ H Q I h;refine thn (hi qQ s σ H _ I h) λiv s1 ⟨y,H1,I1,ry,q1⟩=>thn (ho qQ s1 σ H1 _ I1 q1) λu s2 ⟨x,H2,I2,rx,a,ov,ex,g,q2⟩=>?_;subst ex;obtain rfl:u=Value.ref a:=rx;exact Zcc hu I2 g ry λs3 I3=>⟨.bl ov.isSome,H2,I3,rfl,q2⟩
theorem OT (hu:X.A.units+1<cLine)(ho:PE X o td)(hi:PE X i ty)(hv:PE X value tv)(hs:swapsWith value (some (.Subscript o i pos')) pos.line X.env=pure false) :
  PS X (.Assign [.Subscript o i pos'] value pos) (ZaG td ty tv):=by
 intro qQ s σ H D I h;refine wpAny_Assign_Subscript (thn (hv qQ s σ H _ I h) λr s1 ⟨v,H1,I1,rv,q1⟩=>thn (ho qQ s1 σ H1 _ I1 q1) λu s2 ⟨x,H2,I2,rx,q2⟩=>thn (hi qQ s2 σ H2 _ I2 q2) λiv s3 ⟨y,H3,I3,ry,a,H4,ex,g,q3⟩=>?_) hs;subst ex;obtain rfl:u=Value.ref a:=rx;exact Wy hu I3 g ry rv λs4 I4=>⟨σ,H4,I4,q3⟩
end
theorem Vp {P:Program}{w:World}{H:Hp}(h:Heap)(hb:sysModules<h.objs.size):ObjOk P w H (h.push { cls:=.type "dict", data:=.dict #[] }) h.objs.size (.dK []):=
 ⟨Nat.zero_le _,beq_eq_false_iff_ne.mpr (Ne.symm (Nat.ne_of_lt hb)),[],.nil,Heap.DictOf.new h⟩
theorem XC {P:Program}{w:World}{H:Hp}(h:Heap)(hb:sysModules<h.objs.size):ObjOk P w H (h.push { cls:=.type "dict", data:=.dict #[] }) h.objs.size (.dT []):=
 ⟨Nat.zero_le _,beq_eq_false_iff_ne.mpr (Ne.symm (Nat.ne_of_lt hb)),[],.nil,_,#[],0,Heap.get?_push_size _ rfl,⟨rfl,rfl,rfl⟩,rfl,rfl,List.nodup_nil⟩
def ZR:TE:=λ_ H Q=>∀p,H p=none->Q (.ref p) (upd H p (.dK []))
def ZS:TE:=λ_ H Q=>∀p,H p=none->Q (.ref p) (upd H p (.dT []))
section
variable {X:Cx}{pos:Pos}
theorem XD:PE X (.Dict [] [] pos) ZR:=λqQ s σ H Q I h=>
 wpAny_Dict_empty ⟨.ref s.heap.objs.size,_,I.laid (a:=s.heap.objs.size) (o:=.dK []) (t':=s.toks) (λ_ _ q=>Heap.get?_push_of_some _ q) (Nat.le_refl _) (Vp s.heap I.big),rfl,h _ (I.hok.fresh (Nat.le_refl _))⟩
theorem Vq:PE X (.Dict [] [] pos) ZS:=λqQ s σ H Q I h=>
 wpAny_Dict_empty ⟨.ref s.heap.objs.size,_,I.laid (a:=s.heap.objs.size) (o:=.dT []) (t':=s.toks) (λ_ _ q=>Heap.get?_push_of_some _ q) (Nat.le_refl _) (XC s.heap I.big),rfl,h _ (I.hok.fresh (Nat.le_refl _))⟩
end
structure M2 (X:Cx)(o:Expr)(m:Str)(apos:Pos)(e f:Expr)(qK:Pos):Prop where
 base:attributeBase o m X.env (eval o X.env)=eval o X.env
 few:((backTo qK (starEach [e,f] X.env)).all (λx=>!x.1) && (backToKw qK (keywordEach [] X.env)).all (λx=>x.1.isSome)
  && decide (([e,f]:List Expr).length+([]:List Keyword).length+(if ([]:List Keyword).isEmpty then 0 else 1)<30))=true
 line:(apos.endLine == qK.line)=true
 trees:backTo qK (starEach [e,f] X.env)=[(false,eval e X.env),(false,eval f X.env)]
def IsD (H:Hp)(a:Addr):Prop:=(∃kvs,Rd H a (.dK kvs))\/∃kvs,Rd H a (.dT kvs)
theorem ZT {X:Cx}{qQ:List (Addr×Obj)}{σ:St}{H:Hp}{s:Shared}{a:Addr}(I:Inv X qQ σ H s)(d:IsD H a) :
  s.TypeIs (.ref a) "dict" /\ (∀b,Value.ref a=.ref b->∃ob,s.heap.get? b=some ob/\ob.dict=none)/\(a == sysModules)=false:=by
 rcases d with ⟨kvs,e⟩ | ⟨kvs,e⟩
 ·obtain ⟨_,hd,vs,_,dd⟩:=UV I.hok e;refine ⟨dd.typeIs,λb q=>?_,hd⟩;cases q;obtain ⟨ob,_,_,h1,h2,_⟩:=dd;exact ⟨ob,h1,h2.2.1⟩
 ·obtain ⟨_,hd,xs,_,dd⟩:=VR I.hok e;refine ⟨dd.typeIs,λb q=>?_,hd⟩;cases q;obtain ⟨ob,_,_,h1,h2,_⟩:=dd;exact ⟨ob,h1,h2.2.1⟩
section
variable {X:Cx}{qQ:List (Addr×Obj)}{σ:St}{H:Hp}{s:Shared}{a:Addr}{y d:V}{u r:Value}{o:Option V}{A:Around}{E:Value->Shared->Prop}
theorem ZU {Q:Value->Shared->Prop}(hu:A.units+1<cLine)(I:Inv X qQ σ H s)(g:DGet H a y o)(ry:RelV y u)(rd:RelV d r)(h:∀w' s',Inv X qQ σ H s'->RelV (o.getD d) w'->Q w' s') :
  wpAny (model X.prog X.w) A (call (.builtin "dict.get") [.ref a,u,r]) Q E s:=by
 rcases g with ⟨kvs,k,e,ey,l⟩ | ⟨kvs,k,b,e,ey,eb,l⟩
 ·subst ey;obtain ⟨z,hd,vs,rel,dd⟩:=UV I.hok e;refine call_meetsIn PySem.F.slot_dict_get dd.typeIs PySem.F.entry_dict_get (PySem.F.args_dict_get_3 _ _ _) (meets_dict_get_default (Gy X.prog X.w) a (Wv ry) hd r) ⟨_,dd.mapOf,h _ _ (I.tok _) ?_⟩;rw [l];exact (rel.val k).getD rd
 ·subst ey;cases (show u=Value.ref b from ry);obtain ⟨z,hd,xs,rel,dd⟩:=VR I.hok e;refine call_meetsIn PySem.F.slot_dict_get dd.typeIs PySem.F.entry_dict_get (PySem.F.args_dict_get_3 _ _ _) (meetsH_dict_get_default (tupleKind (Gy X.prog X.w)) a b hd r) ⟨tupleKind_room_in1 hu,k,xs,Ux I.hok eb,dd,h _ _ (I.tok _) ?_⟩;rw [l];exact (rel.val k).getD rd
end
def ZV (td ty tx:TE):TE:=λσ H Q=>td σ H λx H1=>∃a,x=.ref a/\IsD H1 a/\ty σ H1 λy H2=>tx σ H2 λz H3=>∃o,DGet H3 a y o/\Q (o.getD z) H3
section
variable {X:Cx}{o e f:Expr}{apos qK:Pos}{td ty tx:TE}
theorem Vr (hu:X.A.units+1<cLine)(ho:PE X o td)(he:PE X e ty)(hf:PE X f tx)(m:M2 X o "get" apos e f qK):PE X (.Call (.Attribute o "get" apos) [e,f] [] qK) (ZV td ty tx):=by
 intro qQ s σ H Q I h;refine wpAny_Call_method m.base m.few m.line PySem.F.plainAttrs_dict PySem.F.slot_dict_get PySem.F.type_dict_get (thn (ho qQ s σ H _ I h) λu s1 ⟨x,H1,I1,rx,a,ex,d,q1⟩=>?_);subst ex;obtain rfl:u=Value.ref a:=rx;obtain ⟨t1,t2,_⟩:=ZT I1 d;refine ⟨t1,t2,?_⟩;rw [m.trees];refine Calls.callWith_builtin rfl (Calls.evalArgs_plain (Calls.spliced_cons (thn (he qQ s1 σ H1 _ I1 q1) λiv s2 ⟨y,H2,I2,ry,q2⟩=>
  Calls.spliced_cons (thn (hf qQ s2 σ H2 _ I2 q2) λfv s3 ⟨z,H3,I3,rz,ov,g,q3⟩=>Calls.spliced_nil ?_))))
 exact ZU hu I3 g ry rz λw' s4 I4 rw'=>⟨_,H3,I4,rw',q3⟩
end
end L2
namespace L2
open PySem PySem.Spec PyProof.Rows
theorem Vs {K:PySem.W.Frag}{a:Addr}{xs:List V}{g:TG}{tb:TS}{D:VI}{σ:St}{H:Hp}(Pv:Nat->St->Hp->Prop)(h0:Pv 0 σ H)(hl:∀i σ H,i<=xs.length->Pv i σ H->SqL K H a xs)(hs:∀i x σ H T,xs[i]?=some x->Pv i σ H->H T=none->g (.ref T) σ (upd H T (.tup [.int (i:Nat),x])) λσ2 H2=>tb { D with nx:=Pv (i+1),ct:=Pv (i+1),bk:=D.nx } σ2 H2)(hd:∀ σ H,Pv xs.length σ H->D.nx σ H) :
  ∃W:Nat->Nat->St->Hp->Prop,(∃m,W 0 m σ H)/\∀i m σ H,W i m σ H ->
   ((Ite K a).stop i H/\D.nx σ H)\/((Ite K a).go i H/\∃N:St->Hp->Prop,(∀ σ' H',N σ' H'->∃m',m'<m/\W (i+1) m' σ' H')/\∀x H',(Ite K a).yld i H x H'->g x σ H' λσ2 H2=>tb { D with nx:=N,ct:=N,bk:=D.nx } σ2 H2):=by
 refine ⟨λi m σ H=>m=xs.length-i/\i<=xs.length/\Pv i σ H,⟨xs.length,by simp,Nat.zero_le _,h0⟩,?_⟩;rintro i m σ H ⟨rfl,hi,p⟩;have q:=hl i σ H hi p;by_cases hlt:i<xs.length
 ·refine .inr ⟨⟨xs,xs[i],q,by simp [hlt]⟩,Pv (i+1),λσ' H' p'=>⟨xs.length-(i+1),by lia,rfl,hlt,p'⟩,λx H' y=>?_⟩;obtain ⟨T,y',rfl,hT,rfl,hy⟩:=y;exact hs i y' σ H T (hy xs q) p hT
 ·have e:i=xs.length:=by lia
  subst e;exact .inl ⟨⟨xs,q,Nat.le_refl _⟩,hd σ H p⟩
end L2
namespace L2
open PySem PySem.Spec PyProof.Rows
def Jj:Bool->Keyed->Array Keyed->Nat->Nat->Nat->StateT SortSt Sem (Option Nat):=sortPriv% PySem.Builtin.gallop
def OU:Array Keyed->Array Keyed->StateT SortSt Sem (Array Keyed):=sortPriv% PySem.Builtin.mergeLo
def OV:Array Keyed->Array Keyed->StateT SortSt Sem (Array Keyed):=sortPriv% PySem.Builtin.mergeHi
def On:Nat->StateT SortSt Sem Unit:=sortPriv% PySem.Builtin.setMinGallop
def JT (left:Bool)(key:Keyed)(arr:Array Keyed)(base i:Nat):StateT SortSt Sem (Option Bool):=do
 let x <- elem' arr (base+i)
 if left then lt' x key else return (<- lt' key x).map (!·)
def JJ (left:Bool)(key:Keyed)(arr:Array Keyed)(base n lo hi:Nat):StateT SortSt Sem (Option Nat):=do
 let mut lo:=lo
 let mut hi:=hi
 for _ in [:n] do
  if lo>=hi then break
  let m:=lo+(hi-lo) / 2
  let some more <- JT left key arr base m | return none
  if more then lo:=m+1
  else hi:=m
 return some hi
def OW (left:Bool)(key:Keyed)(arr:Array Keyed)(base n hint:Nat):StateT SortSt Sem (Option Nat):=do
 let mut lastofs:=0
 let mut ofs:=1
 let maxofs:=n-hint
 for _ in [:n] do
  if ofs>=maxofs then break
  let some more <- JT left key arr base (hint+ofs) | return none
  if !more then break
  lastofs:=ofs
  ofs:=2 * ofs+1
 JJ left key arr base n (hint+lastofs+1) (hint+min ofs maxofs)
def JU (left:Bool)(key:Keyed)(arr:Array Keyed)(base n hint:Nat):StateT SortSt Sem (Option Nat):=do
 let mut lastofs:=0
 let mut ofs:=1
 let maxofs:=hint+1
 for _ in [:n] do
  if ofs>=maxofs then break
  let some found <- JT left key arr base (hint-ofs) | return none
  if found then break
  lastofs:=ofs
  ofs:=2 * ofs+1
 JJ left key arr base n (hint+1-min ofs maxofs) (hint-lastofs)
theorem VS (left:Bool)(key:Keyed)(arr:Array Keyed)(base n hint:Nat):Jj left key arr base n hint=(do
  let some right <- JT left key arr base hint | return none
  if right then OW left key arr base n hint else JU left key arr base n hint):=rfl
section
variable {M:Model}{A:Around}{E:Value->Shared->Prop}{s:Shared}{kd:SortKind}{b:Keyed->Keyed->Bool}{good:Keyed->Prop}
structure WO (b:Keyed->Keyed->Bool):Prop where
 irr:∀x,b x x=false
 tr:∀x y z,b x y=true->b y z=true->b x z=true
 neg:∀x y z,b x z=true->b x y=true\/b y z=true
def J0 (M:Model)(A:Around)(E:Value->Shared->Prop)(s:Shared)(kd:SortKind)(b:Keyed->Keyed->Bool)(good:Keyed->Prop):Prop:=
 ∀(x y:Keyed)(st:SortSt)(Q:Option Bool->SortSt->Prop),good x->good y->kindOf st=kd->Q (some (b x y)) st->wpS M A E s (lt' x y) Q st
theorem Gr {arr:Array Keyed}{i:Nat}{x:Keyed}{st:SortSt}{Q:Keyed->SortSt->Prop}(h:arr[i]?=some x)(q:Q x st):wpS M A E s (elem' arr i) Q st:=by
 rw [elem'_eq,h];exact wpS_pure q
def byd (b:Keyed->Keyed->Bool)(left:Bool)(key:Keyed)(arr:Array Keyed)(base i:Nat):Bool:=match arr[base+i]? with
 | some x=>if left then b x key else !b key x
 | none=>false
theorem Jq {left:Bool}{key:Keyed}{arr:Array Keyed}{base i:Nat}{x:Keyed}{st:SortSt}{Q:Option Bool->SortSt->Prop}(L:J0 M A E s kd b good)(hk:good key)(hx:arr[base+i]?=some x)(gx:good x)(hs:kindOf st=kd)(q:Q (some (byd b left key arr base i)) st):wpS M A E s (JT left key arr base i) Q st:=by
 unfold JT;refine wpS_bind (Gr hx ?_);unfold byd at q;rw [hx] at q;cases left with
 | true=>exact L x key st Q gx hk hs q
 | false=>exact wpS_bind (L key x st _ hk gx hs (wpS_pure q))
section
variable {left:Bool}{key:Keyed}{arr:Array Keyed}{base n hint:Nat}{st:SortSt}{Q:Option Nat->SortSt->Prop}
structure Gal (b:Keyed->Keyed->Bool)(good:Keyed->Prop)(left:Bool)(key:Keyed)(arr:Array Keyed)(base n:Nat):Prop where
 gk:good key
 it:∀i,i<n->∃x,arr[base+i]?=some x/\good x
 mono:∀i j,i<=j->j<n->byd b left key arr base j=true->byd b left key arr base i=true
theorem GF {lo hi:Nat}(L:J0 M A E s kd b good)(G:Gal b good left key arr base n)(hs:kindOf st=kd)(h1:lo<=hi)(h2:hi<=n)(h3:∀i,i<lo->byd b left key arr base i=true)(h4:∀i,hi<=i->i<n->byd b left key arr base i=false)(q:∀k,k<=n->(∀i,i<k->byd b left key arr base i=true)->(∀i,k<=i->i<n->byd b left key arr base i=false)->Q (some k) st):wpS M A E s (JJ left key arr base n lo hi) Q st:=by
 unfold JJ;refine wpS_bind (wpS_forRange (λk c st'=>st'=st/\∃lo hi,c=(none,lo,hi)/\lo<=hi/\hi<=n/\hi-lo<=n-k/\(∀i,i<lo->byd b left key arr base i=true)/\(∀i,hi<=i->i<n->byd b left key arr base i=false)) ?_ ?_ ⟨rfl,lo,hi,rfl,h1,h2,by lia,h3,h4⟩)
 ·rintro k c st' _ hk ⟨rfl,lo,hi,rfl,h1,h2,h5,h3,h4⟩;dsimp only;split
  ·rename_i h6;have:lo=hi:=by lia
   subst this;refine wpS_pure ?_;dsimp only;exact wpS_pure (q lo h2 h3 h4)
  ·rename_i h6;obtain ⟨x,hx,gx⟩:=G.it (lo+(hi-lo) / 2) (by lia);refine wpS_bind (Jq L G.gk hx gx hs ?_);dsimp only;cases hb:byd b left key arr base (lo+(hi-lo) / 2) with
   | true=>
    refine wpS_pure ⟨rfl,_,_,rfl,by lia,h2,by lia,λi hi'=>G.mono i (lo+(hi-lo) / 2) (by lia) (by lia) hb,h4⟩
   | false=>
    refine wpS_pure ⟨rfl,_,_,rfl,by lia,by lia,by lia,h3,λi h8 h9=>?_⟩;cases hc:byd b left key arr base i with
    | false=>rfl
    | true=>rw [G.mono _ i h8 h9 hc] at hb;cases hb
 ·rintro c st' ⟨rfl,lo,hi,rfl,h1,h2,h5,h3,h4⟩;have:lo=hi:=by simp at h5;lia
  subst this;exact wpS_pure (q lo h2 h3 h4)
theorem GW (L:J0 M A E s kd b good)(G:Gal b good left key arr base n)(hs:kindOf st=kd)(hn:hint<n)(q:∀k,k<=n->(∀i,i<k->byd b left key arr base i=true)->(∀i,k<=i->i<n->byd b left key arr base i=false)->Q (some k) st):wpS M A E s (Jj left key arr base n hint) Q st:=by
 rw [VS];obtain ⟨x,hx,gx⟩:=G.it hint hn;have anti:∀i j,byd b left key arr base i=false->i<=j->j<n->byd b left key arr base j=false:=λi j h1 h2 h3=>by
  cases hc:byd b left key arr base j with
  | false=>rfl
  | true=>rw [G.mono _ j h2 h3 hc] at h1;cases h1
 refine wpS_bind (Jq L G.gk hx gx hs ?_);cases hb:byd b left key arr base hint with
 | true=>
  show wpS M A E s (OW left key arr base n hint) Q st;unfold OW;refine wpS_bind (wpS_forRange (λk c st'=>st'=st/\∃last ofs,c=(none,last,ofs)/\last<ofs/\k+1<=ofs/\hint+last<n/\byd b left key arr base (hint+last)=true) ?_ ?_ ⟨rfl,0,1,rfl,by lia,by lia,hn,hb⟩)
  ·rintro k c st' _ hk ⟨rfl,last,ofs,rfl,h1,h2,h3,h4⟩;dsimp only;split
   ·rename_i h5;refine wpS_pure ?_;dsimp only;rw [Nat.min_eq_right h5];exact GF L G hs (by lia) (by lia) (λi hi=>G.mono i _ (show i<=hint+last by lia) h3 h4) (λi h6 h7=>by lia) q
   ·rename_i h5;obtain ⟨y,hy,gy⟩:=G.it (hint+ofs) (by lia);refine wpS_bind (Jq L G.gk hy gy hs ?_);dsimp only;cases hb2:byd b left key arr base (hint+ofs) with
    | true=>exact wpS_pure ⟨rfl,_,_,rfl,by lia,by lia,by lia,hb2⟩
    | false=>
     refine wpS_pure ?_;dsimp only;rw [Nat.min_eq_left (by lia)];exact GF L G hs (by lia) (by lia) (λi hi=>G.mono i _ (show i<=hint+last by lia) h3 h4) (λi h6 h7=>anti _ i hb2 h6 h7) q
  ·rintro c st' ⟨rfl,last,ofs,rfl,h1,h2,h3,h4⟩;dsimp only;have h5:n-hint<=ofs:=by simp at h2;lia
   rw [Nat.min_eq_right h5];exact GF L G hs (by lia) (by lia) (λi hi=>G.mono i _ (show i<=hint+last by lia) h3 h4) (λi h6 h7=>by lia) q
 | false=>
  show wpS M A E s (JU left key arr base n hint) Q st;unfold JU;refine wpS_bind (wpS_forRange (λk c st'=>st'=st/\∃last ofs,c=(none,last,ofs)/\last<ofs/\k+1<=ofs/\last<=hint/\byd b left key arr base (hint-last)=false) ?_ ?_ ⟨rfl,0,1,rfl,by lia,by lia,by lia,hb⟩)
  ·rintro k c st' _ hk ⟨rfl,last,ofs,rfl,h1,h2,h3,h4⟩;dsimp only;split
   ·rename_i h5;refine wpS_pure ?_;dsimp only;rw [Nat.min_eq_right h5];exact GF L G hs (by lia) (by lia) (λi hi=>by lia) (λi h6 h7=>anti _ i h4 h6 h7) q
   ·rename_i h5;obtain ⟨y,hy,gy⟩:=G.it (hint-ofs) (by lia);refine wpS_bind (Jq L G.gk hy gy hs ?_);dsimp only;cases hb2:byd b left key arr base (hint-ofs) with
    | false=>exact wpS_pure ⟨rfl,_,_,rfl,by lia,by lia,by lia,hb2⟩
    | true=>
     refine wpS_pure ?_;dsimp only;rw [Nat.min_eq_left (by lia)];exact GF L G hs (by lia) (by lia) (λi hi=>G.mono i (hint-ofs) (by lia) (by lia) hb2) (λi h6 h7=>anti _ i h4 h6 h7) q
  ·rintro c st' ⟨rfl,last,ofs,rfl,h1,h2,h3,h4⟩;dsimp only;have h5:hint+1<=ofs:=by simp at h2;lia
   rw [Nat.min_eq_right h5];exact GF L G hs (by lia) (by lia) (λi hi=>by lia) (λi h6 h7=>anti _ i h4 h6 h7) q
end
end
end L2
namespace L2
open PySem PySem.Spec PyProof.Rows
abbrev MLs:=Option (Array Keyed)×Array Keyed×Nat×Nat×Nat×Nat
abbrev MLt:=Option (Array Keyed)×Array Keyed×Nat×Nat×Nat×Nat×Nat
def Ju (a b out:Array Keyed)(ia ib:Nat):Array Keyed:=out++a.extract ia++b.extract ib
def OE (a b out:Array Keyed)(ia ib:Nat):Array Keyed:=out++b.extract ib++a.extract ia
def XE (a b:Array Keyed)(mg:Nat):Nat->MLs->StateT SortSt Sem (ForInStep MLs):=λ_ r=>
 let out:=r.2.1;let ia:=r.2.2.1;let ib:=r.2.2.2.1;let qZ:=r.2.2.2.2.1;let qX:=r.2.2.2.2.2
 do
 let x <- elem' b ib
 let y <- elem' a ia
 match <- lt' x y with
 | some bWins=>
  if bWins=true then do
   let z <- elem' b ib
   let out:=out.push z
   let ib:=ib+1
   let qX:=qX+1
   let qZ:=0
   if (ib == b.size)=true then pure (.done (some (Ju a b out ia ib),out,ia,ib,qZ,qX))
   else if qX>=mg then pure (.done (none,out,ia,ib,qZ,qX))
   else pure (.yield (none,out,ia,ib,qZ,qX))
  else do
   let z <- elem' a ia
   let out:=out.push z
   let ia:=ia+1
   let qZ:=qZ+1
   let qX:=0
   if (ia+1 == a.size)=true then pure (.done (some (OE a b out ia ib),out,ia,ib,qZ,qX))
   else if qZ>=mg then pure (.done (none,out,ia,ib,qZ,qX))
   else pure (.yield (none,out,ia,ib,qZ,qX))
 | _=>pure (.done (some (Ju a b out ia ib),out,ia,ib,qZ,qX))
def mlD (a b:Array Keyed)(qJ qZ k:Nat)(out:Array Keyed)(ia ib:Nat):StateT SortSt Sem (ForInStep MLt):=do
 let qX:=k
 let z <- elem' a ia
 let out:=out.push z
 let ia:=ia+1
 if (ia+1 == a.size)=true then pure (.done (some (OE a b out ia ib),out,ia,ib,qJ,qZ,qX))
 else if (decide (qZ<7) && decide (qX<7))=true then pure (.done (none,out,ia,ib,qJ,qZ,qX))
 else pure (.yield (none,out,ia,ib,qJ,qZ,qX))
def mlC (a b:Array Keyed)(qJ qZ qX:Nat)(out:Array Keyed)(ia ib:Nat):StateT SortSt Sem (ForInStep MLt):=do
 let z <- elem' b ib
 let out:=out.push z
 let ib:=ib+1
 if (ib == b.size)=true then pure (.done (some (Ju a b out ia ib),out,ia,ib,qJ,qZ,qX))
 else do
  let y <- elem' a ia
  match <- Jj true y b ib (b.size-ib) 0 with
  | some k=>
   let qX:=k
   if k > 0 then
    let out:=out++b.extract ib (ib+k)
    let ib:=ib+k
    if (ib == b.size)=true then pure (.done (some (Ju a b out ia ib),out,ia,ib,qJ,qZ,qX))
    else mlD a b qJ qZ k out ia ib
   else mlD a b qJ qZ k out ia ib
  | _=>pure (.done (some (Ju a b out ia ib),out,ia,ib,qJ,qZ,qX))
def mlB (a b:Array Keyed)(qJ qZ qX:Nat)(out:Array Keyed)(ia ib:Nat):StateT SortSt Sem (ForInStep MLt):=do
 On qJ
 let x <- elem' b ib
 match <- Jj false x a ia (a.size-ia) 0 with
 | some k=>
  let qZ:=k
  if k > 0 then
   let out:=out++a.extract ia (ia+k)
   let ia:=ia+k
   if (ia+1 == a.size)=true then pure (.done (some (OE a b out ia ib),out,ia,ib,qJ,qZ,qX))
   else if (ia == a.size)=true then pure (.done (some (Ju a b out ia ib),out,ia,ib,qJ,qZ,qX))
   else mlC a b qJ qZ qX out ia ib
  else mlC a b qJ qZ qX out ia ib
 | _=>pure (.done (some (Ju a b out ia ib),out,ia,ib,qJ,qZ,qX))
def XF (a b:Array Keyed):Nat->MLt->StateT SortSt Sem (ForInStep MLt):=λ_ r=>
 let out:=r.2.1;let ia:=r.2.2.1;let ib:=r.2.2.2.1;let qJ:=r.2.2.2.2.1;let qZ:=r.2.2.2.2.2.1;let qX:=r.2.2.2.2.2.2
 if qJ > 1 then mlB a b (qJ-1) qZ qX out ia ib else mlB a b qJ qZ qX out ia ib
abbrev MLo:=Option (Array Keyed)×Array Keyed×Nat×Nat×Nat
def XG (a b:Array Keyed):Nat->MLo->StateT SortSt Sem (ForInStep MLo):=λ_ r=>
 let out:=r.2.1;let ia:=r.2.2.1;let ib:=r.2.2.2.1;let qJ:=r.2.2.2.2
 do
 let r <- forIn [:a.size+b.size] ((none,out,ia,ib,0,0):MLs) (XE a b qJ)
 match r.1 with
 | some x=>pure (.done (some x,r.2.1,r.2.2.1,r.2.2.2.1,qJ))
 | none=>do
  liftM (rule "list.sort.gallop")
  let r <- forIn [:a.size+b.size] ((none,r.2.1,r.2.2.1,r.2.2.2.1,qJ+1,r.2.2.2.2.1,r.2.2.2.2.2):MLt) (XF a b)
  match r.1 with
  | some x=>pure (.done (some x,r.2.1,r.2.2.1,r.2.2.2.1,r.2.2.2.2.1))
  | none=>do
   On (r.2.2.2.2.1+1)
   pure (.yield (none,r.2.1,r.2.2.1,r.2.2.2.1,r.2.2.2.2.1+1))
theorem GO {α β:Type}{m:StateT SortSt Sem α}{f g:α->StateT SortSt Sem β}(h:∀x,f x=g x):m >>= f=m >>= g:=by rw [funext h]
theorem OX {α:Type}{c:Prop}[Decidable c]{x y u v:α}(h1:x=y)(h2:u=v):(if c then x else u)=if c then y else v:=by rw [h1,h2]
theorem Oo {β:Type}{r:Std.Legacy.Range}{c:β}{f g:Nat->β->StateT SortSt Sem (ForInStep β)}(h:∀i x,f i x=g i x):forIn r c f=forIn r c g:=by rw [funext λi=>funext (h i)]
theorem UY (a b:Array Keyed):OU a b=(do
  liftM (rule "list.sort.merge-lo")
  let x <- elem' b 0
  let out:=#[x]
  if (1 == b.size)=true then pure (Ju a b out 0 1)
  else if (0+1 == a.size)=true then pure (OE a b out 0 1)
  else do
   let st <- get
   let r <- forIn [:a.size+b.size] ((none,out,0,1,gallopOf st):MLo) (XG a b)
   match r.1 with
   | some r=>pure r
   | none=>liftM (unsupported "internal:list.sort.merge-bound")):=by
 refine GO (m:=liftM (rule "list.sort.merge-lo")) λ_=>?_;refine GO (m:=elem' b 0) λx=>?_;refine OX (c:=(1 == b.size)=true) rfl ?_;refine OX (c:=(0+1 == a.size)=true) rfl ?_;refine GO (m:=get) λst=>?_;refine (congrArg (λm:StateT SortSt Sem MLo=>m >>= _) (Oo (r:=[:a.size+b.size]) (c:=((none,#[x],0,1,gallopOf st):MLo)) (g:=XG a b) λi r=>?_)).trans ?_;rotate_left
 ·refine GO λr=>?_;obtain ⟨r1,r2⟩:=r;cases r1 <;> rfl
 unfold XG;refine (congrArg (λm:StateT SortSt Sem MLs=>m >>= _) (Oo (r:=[:a.size+b.size]) (g:=XE a b r.2.2.2.2) λi r=>rfl)).trans ?_;refine GO λq=>?_;obtain ⟨q1,q2⟩:=q;cases q1 with
 | some z=>rfl
 | none=>
  refine GO (m:=liftM (rule "list.sort.gallop")) λ_=>?_;refine (congrArg (λm:StateT SortSt Sem MLt=>m >>= _) (Oo (r:=[:a.size+b.size]) (g:=XF a b) λi r=>rfl)).trans ?_;refine GO λq=>?_;obtain ⟨q1,q2⟩:=q;cases q1 <;> rfl
end L2
namespace L2
open PySem PySem.Spec PyProof.Rows
section
variable {b:Keyed->Keyed->Bool}
abbrev kle (b:Keyed->Keyed->Bool)(x y:Keyed):Prop:=b y x=false
theorem WO.le_trans (W:WO b){x y z:Keyed}(h1:kle b x y)(h2:kle b y z):kle b x z:=by
 cases h:b z x with
 | false=>exact h
 | true=>
  rcases W.neg z y x h with q | q
  ·rw [show b z y=false from h2] at q;cases q
  ·rw [show b y x=false from h1] at q;cases q
theorem WO.le_of_lt (W:WO b){x y:Keyed}(h:b x y=true):kle b x y:=by
 cases q:b y x with
 | false=>exact q
 | true=>
  have:=W.tr _ _ _ h q;rw [W.irr] at this;cases this
theorem WO.le_refl (W:WO b)(x:Keyed):kle b x x:=W.irr x
structure Mrg (b:Keyed->Keyed->Bool)(all out ra rb:List Keyed):Prop where
 perm:(out++ra++rb).Perm all
 so:out.Pairwise (kle b)
 le:∀x∈out,∀y∈ra++rb,kle b x y
 sa:ra.Pairwise (kle b)
 sb:rb.Pairwise (kle b)
theorem Mrg.len {all out ra rb:List Keyed}(h:Mrg b all out ra rb):out.length+ra.length+rb.length=all.length:=by
 have:=h.perm.length_eq;rw [List.length_append,List.length_append] at this;exact this
theorem Mrg.moveA {all out u ra rb:List Keyed}(h:Mrg b all out (u++ra) rb)(hu:∀x∈u,∀y∈rb,kle b x y):Mrg b all (out++u) ra rb:=by
 have sa:=List.pairwise_append.mp h.sa;refine ⟨by rw [List.append_assoc out u ra];exact h.perm,List.pairwise_append.mpr ⟨h.so,sa.1,λx hx y hy=>h.le x hx y (by simp [hy])⟩,λx hx y hy=>?_,sa.2.1,h.sb⟩;rcases List.mem_append.mp hx with hx | hx
 ·refine h.le x hx y ?_;rcases List.mem_append.mp hy with hy | hy
  ·simp [hy]
  ·simp [hy]
 ·rcases List.mem_append.mp hy with hy | hy
  ·exact sa.2.2 x hx y hy
  ·exact hu x hx y hy
theorem Mrg.moveB {all out u ra rb:List Keyed}(h:Mrg b all out ra (u++rb))(hu:∀x∈u,∀y∈ra,kle b x y):Mrg b all (out++u) ra rb:=by
 have sb:=List.pairwise_append.mp h.sb;refine ⟨?_,List.pairwise_append.mpr ⟨h.so,sb.1,λx hx y hy=>h.le x hx y (by simp [hy])⟩,λx hx y hy=>?_,h.sa,sb.2.1⟩
 ·refine List.Perm.trans ?_ h.perm;simp only [List.append_assoc];refine List.Perm.append_left _ ?_;rw [<-List.append_assoc,<-List.append_assoc];exact List.Perm.append_right _ List.perm_append_comm
 ·rcases List.mem_append.mp hx with hx | hx
  ·refine h.le x hx y ?_;rcases List.mem_append.mp hy with hy | hy
   ·simp [hy]
   ·simp [hy]
  ·rcases List.mem_append.mp hy with hy | hy
   ·exact hu x hx y hy
   ·exact sb.2.2 x hx y hy
def GR (b:Keyed->Keyed->Bool)(all r:List Keyed):Prop:=r.Perm all/\r.Pairwise (kle b)
theorem Mrg.endA {all out ra rb:List Keyed}(h:Mrg b all out ra rb)(hz:∀x∈ra,∀y∈rb,kle b x y):GR b all (out++ra++rb):=by
 refine ⟨h.perm,?_⟩;rw [List.append_assoc];exact List.pairwise_append.mpr ⟨h.so,List.pairwise_append.mpr ⟨h.sa,h.sb,hz⟩,h.le⟩
theorem Mrg.endB {all out ra rb:List Keyed}(h:Mrg b all out ra rb)(hz:∀x∈rb,∀y∈ra,kle b x y):GR b all (out++rb++ra):=by
 refine ⟨?_,?_⟩
 ·refine List.Perm.trans ?_ h.perm;rw [List.append_assoc,List.append_assoc];exact List.Perm.append_left _ List.perm_append_comm
 ·rw [List.append_assoc];exact List.pairwise_append.mpr ⟨h.so,List.pairwise_append.mpr ⟨h.sb,h.sa,hz⟩,λx hx y hy=>h.le x hx y (by
   rcases List.mem_append.mp hy with hy | hy <;> simp [hy])⟩
end
theorem J7 (a:Array Keyed)(i:Nat):(a.extract i).toList=a.toList.drop i:=by
 rw [Array.toList_extract,List.extract_eq_take_drop,List.take_of_length_le];rw [List.length_drop];exact Nat.le_refl _
theorem Vt (a:Array Keyed)(i k:Nat):(a.extract i (i+k)).toList=(a.toList.drop i).take k:=by
 rw [Array.toList_extract,List.extract_eq_take_drop,Nat.add_sub_cancel_left]
theorem GY {a:Array Keyed}{i:Nat}{x:Keyed}(h:a[i]?=some x):a.toList.drop i=x::a.toList.drop (i+1):=by
 rw [<-Array.getElem?_toList] at h;obtain ⟨h1,h2⟩:=List.getElem?_eq_some_iff.mp h;rw [List.drop_eq_getElem_cons h1,h2]
def SameG (st st':SortSt):Prop:=kindOf st'=kindOf st/\arrOf st'=arrOf st/\pendingOf st'=pendingOf st/\failedOf st'=failedOf st
theorem SameG.refl (st:SortSt):SameG st st:=⟨rfl,rfl,rfl,rfl⟩
theorem SameG.trans {st st' st'':SortSt}(h:SameG st st')(k:SameG st' st''):SameG st st'':=⟨k.1.trans h.1,k.2.1.trans h.2.1,k.2.2.1.trans h.2.2.1,k.2.2.2.trans h.2.2.2⟩
section
variable {M:Model}{A:Around}{E:Value->Shared->Prop}{s:Shared}{kd:SortKind}{b:Keyed->Keyed->Bool}{good:Keyed->Prop}
theorem Jr {g:Nat}{st:SortSt}{Q:Unit->SortSt->Prop}(q:∀st',SameG st st'->Q () st'):wpS M A E s (On g) Q st:=by
 refine wpS_modify (f:=λs=>SortSt.mk' (kindOf s) (arrOf s) (pendingOf s) g (failedOf s)) (q _ ⟨rfl,rfl,rfl,rfl⟩)
structure Two (b:Keyed->Keyed->Bool)(good:Keyed->Prop)(a c:Array Keyed):Prop where
 ga:∀x∈a.toList,good x
 gc:∀x∈c.toList,good x
 sa:a.toList.Pairwise (kle b)
 sc:c.toList.Pairwise (kle b)
 na:0<a.size
 nc:0<c.size
 first:∀x,c[0]?=some x->∀y∈a.toList,kle b x y
 last:∀z,a[a.size-1]?=some z->∀y∈c.toList,kle b y z
variable {a c:Array Keyed}
theorem Two.at (T:Two b good a c){i:Nat}(h:i<a.size):∃x,a[i]?=some x/\good x:=⟨a[i],by simp [h],T.ga _ (by simp)⟩
theorem Two.ct (T:Two b good a c){i:Nat}(h:i<c.size):∃x,c[i]?=some x/\good x:=⟨c[i],by simp [h],T.gc _ (by simp)⟩
def ML (b:Keyed->Keyed->Bool)(a c out:Array Keyed)(ia ib:Nat):Prop:=Mrg b (a.toList++c.toList) out.toList (a.toList.drop ia) (c.toList.drop ib)
theorem ML.done {out:Array Keyed}{ia ib:Nat}(h:ML b a c out ia ib)(e:ib=c.size\/ia=a.size):GR b (a.toList++c.toList) (Ju a c out ia ib).toList:=by
 unfold Ju;rw [Array.toList_append,Array.toList_append,J7,J7];refine Mrg.endA h λx hx y hy=>?_;rcases e with e | e
 ·rw [List.drop_of_length_le (by rw [e,Array.length_toList];exact Nat.le_refl _)] at hy;cases hy
 ·rw [List.drop_of_length_le (by rw [e,Array.length_toList];exact Nat.le_refl _)] at hx;cases hx
theorem ML.last {out:Array Keyed}{ia ib:Nat}(T:Two b good a c)(h:ML b a c out ia ib)(e:ia+1=a.size):GR b (a.toList++c.toList) (OE a c out ia ib).toList:=by
 unfold OE;rw [Array.toList_append,Array.toList_append,J7,J7];refine Mrg.endB h λx hx y hy=>?_;obtain ⟨z,hz,_⟩:=T.at (i:=ia) (by lia);rw [GY hz,List.drop_of_length_le (by rw [Array.length_toList];lia)] at hy;have:y=z:=by simpa using hy
 subst this;exact T.last y (by rw [<-e];exact hz) x (List.mem_of_mem_drop hx)
theorem ML.pushB {out:Array Keyed}{ia ib:Nat}{x:Keyed}(h:ML b a c out ia ib)(hx:c[ib]?=some x)(hl:∀y∈a.toList.drop ia,kle b x y):ML b a c (out.push x) ia (ib+1):=by
 unfold ML at h ⊢;rw [Array.toList_push];rw [GY hx] at h;exact Mrg.moveB (u:=[x]) h λz hz y hy=>by
  have:z=x:=by simpa using hz
  subst this;exact hl y hy
theorem ML.pushA {out:Array Keyed}{ia ib:Nat}{x:Keyed}(h:ML b a c out ia ib)(hx:a[ia]?=some x)(hl:∀y∈c.toList.drop ib,kle b x y):ML b a c (out.push x) (ia+1) ib:=by
 unfold ML at h ⊢;rw [Array.toList_push];rw [GY hx] at h;exact Mrg.moveA (u:=[x]) h λz hz y hy=>by
  have:z=x:=by simpa using hz
  subst this;exact hl y hy
theorem ML.takeA {out:Array Keyed}{ia ib k:Nat}(h:ML b a c out ia ib)(hl:∀x∈(a.toList.drop ia).take k,∀y∈c.toList.drop ib,kle b x y):ML b a c (out++a.extract ia (ia+k)) (ia+k) ib:=by
 unfold ML at h ⊢;rw [Array.toList_append,Vt];rw [<-List.take_append_drop k (a.toList.drop ia),List.drop_drop] at h;exact Mrg.moveA h hl
theorem ML.takeB {out:Array Keyed}{ia ib k:Nat}(h:ML b a c out ia ib)(hl:∀x∈(c.toList.drop ib).take k,∀y∈a.toList.drop ia,kle b x y):ML b a c (out++c.extract ib (ib+k)) ia (ib+k):=by
 unfold ML at h ⊢;rw [Array.toList_append,Vt];rw [<-List.take_append_drop k (c.toList.drop ib),List.drop_drop] at h;exact Mrg.moveB h hl
theorem OY {l:List Keyed}{x:Keyed}(W:WO b)(h:(x::l).Pairwise (kle b)):∀y∈x::l,kle b x y:=λy hy=>by
 rcases List.mem_cons.mp hy with rfl | hy
 ·exact W.le_refl _
 ·exact (List.pairwise_cons.mp h).1 y hy
theorem Wz (W:WO b)(L:J0 M A E s kd b good)(T:Two b good a c){out:Array Keyed}{ia ib mg:Nat}{st:SortSt}(hs:kindOf st=kd)(h:ML b a c out ia ib)(h1:ia+1<a.size)(h2:ib<c.size){Q:MLs->SortSt->Prop}(q1:∀r y st',SameG st st'->GR b (a.toList++c.toList) r.toList->Q (some r,y) st')(q2:∀out' ia' ib' ac bc st',SameG st st'->ML b a c out' ia' ib'->ia'+1<a.size->ib'<c.size->out.size<out'.size->Q (none,out',ia',ib',ac,bc) st') :
  wpS M A E s (forIn [:a.size+c.size] ((none,out,ia,ib,0,0):MLs) (XE a c mg)) Q st:=by
 refine wpS_forRange (λk r st'=>SameG st st'/\∃out' ia' ib' ac bc,r=(none,out',ia',ib',ac,bc)/\ML b a c out' ia' ib'/\ia'+1<a.size/\ib'<c.size/\out.size+k<=out'.size) ?_ ?_ ⟨SameG.refl _,_,_,_,_,_,rfl,h,h1,h2,Nat.le_refl _⟩
 ·rintro k r st1 _ hk ⟨sg,out',ia',ib',ac,bc,rfl,h,h1,h2,h3⟩;have hs1:kindOf st1=kd:=sg.1.trans hs;unfold XE;dsimp only;obtain ⟨x,hx,gx⟩:=T.ct h2;obtain ⟨y,hy,gy⟩:=T.at (i:=ia') (by lia);refine wpS_bind (Gr hx (wpS_bind (Gr hy (wpS_bind (L x y st1 _ gx gy hs1 ?_)))));have sA:(a.toList.drop ia').Pairwise (kle b):=h.sa;have sB:(c.toList.drop ib').Pairwise (kle b):=h.sb;rw [GY hy] at sA;rw [GY hx] at sB;dsimp only;cases hb:b x y with
  | true=>
   rw [if_pos rfl];refine wpS_bind (Gr hx ?_);have h':=h.pushB hx λz hz=>by
    rw [GY hy] at hz;exact W.le_trans (W.le_of_lt hb) (OY W sA z hz)
   split
   ·rename_i e;exact wpS_pure (q1 _ _ _ sg (h'.done (.inl (eq_of_beq e))))
   ·rename_i e;have e:ib'+1<c.size:=by
     have:ib'+1≠c.size:=λz=>e (beq_iff_eq.mpr z)
     lia
    split
    ·exact wpS_pure (q2 _ _ _ _ _ _ sg h' h1 e (by rw [Array.size_push];lia))
    ·exact wpS_pure ⟨sg,_,_,_,_,_,rfl,h',h1,e,by rw [Array.size_push];lia⟩
  | false=>
   rw [if_neg Bool.false_ne_true];refine wpS_bind (Gr hy ?_);have h':=h.pushA hy λz hz=>by
    rw [GY hx] at hz;exact W.le_trans hb (OY W sB z hz)
   split
   ·rename_i e;exact wpS_pure (q1 _ _ _ sg (h'.last T (eq_of_beq e)))
   ·rename_i e;have e:ia'+1+1<a.size:=by
     have:ia'+1+1≠a.size:=λz=>e (beq_iff_eq.mpr z)
     lia
    split
    ·exact wpS_pure (q2 _ _ _ _ _ _ sg h' e h2 (by rw [Array.size_push];lia))
    ·exact wpS_pure ⟨sg,_,_,_,_,_,rfl,h',e,h2,by rw [Array.size_push];lia⟩
 ·rintro r st1 ⟨sg,out',ia',ib',ac,bc,rfl,h,h1,h2,h3⟩;exact q2 _ _ _ _ _ _ sg h h1 h2 (by have:=T.na;simp at h3;lia)
end
end L2
namespace L2
open PySem PySem.Spec PyProof.Rows
def Rng (b:Keyed->Keyed->Bool)(arr:Array Keyed)(lo hi:Nat):Prop:=∀i j x y,lo<=i->i<=j->j<hi->arr[i]?=some x->arr[j]?=some y->kle b x y
section
variable {M:Model}{A:Around}{E:Value->Shared->Prop}{s:Shared}{kd:SortKind}{b:Keyed->Keyed->Bool}{good:Keyed->Prop}
theorem XH (W:WO b):∀{l:List Keyed}{i j:Nat}{x y:Keyed},l.Pairwise (kle b)->i<=j->l[i]?=some x->l[j]?=some y->kle b x y
 | [],_,_,_,_,_,_,h,_=>by simp at h
 | z::l,0,0,x,y,_,_,h1,h2=>by
  simp at h1 h2;subst h1 h2;exact W.le_refl _
 | z::l,0,j+1,x,y,h,_,h1,h2=>by
  simp at h1 h2;subst h1;exact (List.pairwise_cons.mp h).1 y (List.mem_of_getElem? h2)
 | z::l,i+1,0,_,_,_,h,_,_=>by lia
 | z::l,i+1,j+1,x,y,h,hij,h1,h2=>by
  simp at h1 h2;exact XH W (List.pairwise_cons.mp h).2 (by lia) h1 h2
theorem Ym (W:WO b){arr:Array Keyed}{lo:Nat}(h:(arr.toList.drop lo).Pairwise (kle b)):Rng b arr lo arr.size:=λi j x y h1 h2 h3 e1 e2=>by
 refine XH (i:=i-lo) (j:=j-lo) W h (by lia) ?_ ?_
 ·rw [List.getElem?_drop,Nat.add_sub_cancel' h1,Array.getElem?_toList];exact e1
 ·rw [List.getElem?_drop,Nat.add_sub_cancel' (Nat.le_trans h1 h2),Array.getElem?_toList];exact e2
theorem OF (W:WO b){left:Bool}{key:Keyed}{arr:Array Keyed}{base n:Nat}(hk:good key)(hg:∀i,i<n->∃x,arr[base+i]?=some x/\good x)(h:Rng b arr base (base+n)):Gal b good left key arr base n:=by
 refine ⟨hk,hg,λi j h1 h2 h3=>?_⟩;obtain ⟨x,hx,_⟩:=hg i (by lia);obtain ⟨y,hy,_⟩:=hg j h2;have hxy:=h (base+i) (base+j) x y (by lia) (by lia) (by lia) hx hy;unfold byd at h3 ⊢;rw [hy] at h3;rw [hx];dsimp only at h3 ⊢;cases left with
 | true=>
  rw [if_pos rfl] at h3 ⊢;rcases W.neg y x key h3 with z | z
  ·rw [show b y x=false from hxy] at z;cases z
  ·exact z
 | false=>
  rw [if_neg Bool.false_ne_true] at h3 ⊢;rw [Bool.not_eq_true'] at h3 ⊢;exact W.le_trans (x:=x) (y:=y) (z:=key) hxy h3
variable {a c:Array Keyed}
theorem Vu {arr:Array Keyed}{base k:Nat}{x:Keyed}(h:x∈(arr.toList.drop base).take k):∃i,i<k/\arr[base+i]?=some x:=by
 obtain ⟨i,hi⟩:=List.mem_iff_getElem?.mp h;rw [List.getElem?_take] at hi;split at hi
 ·rw [List.getElem?_drop,Array.getElem?_toList] at hi;exact ⟨i,by assumption,hi⟩
 ·cases hi
theorem Vv {arr:Array Keyed}{base:Nat}{x:Keyed}(h:x∈arr.toList.drop base):∃i,base+i<arr.size/\arr[base+i]?=some x:=by
 obtain ⟨i,hi⟩:=List.mem_iff_getElem?.mp h;rw [List.getElem?_drop,Array.getElem?_toList] at hi;exact ⟨i,(Array.getElem?_eq_some_iff.mp hi).1,hi⟩
section
variable {out:Array Keyed}{ia ib:Nat}{st:SortSt}{Q:ForInStep MLt->SortSt->Prop}
structure XI (b:Keyed->Keyed->Bool)(a c:Array Keyed)(n:Nat)(st:SortSt)(Q:ForInStep MLt->SortSt->Prop):Prop where
 fin:∀r y st',SameG st st'->GR b (a.toList++c.toList) r.toList->Q (.done (some r,y)) st'
 brk:∀out' ia' ib' y st',SameG st st'->ML b a c out' ia' ib'->ia'+1<a.size->ib'<c.size->n<=out'.size->Q (.done (none,out',ia',ib',y)) st'
 go:∀out' ia' ib' y st',SameG st st'->ML b a c out' ia' ib'->ia'+1<a.size->ib'<c.size->n<=out'.size->Q (.yield (none,out',ia',ib',y)) st'
theorem WA (T:Two b good a c){mg ac k n:Nat}(R:XI b a c n st Q)(h:ML b a c out ia ib)(h1:ia+1<a.size)(h2:ib<c.size)(hn:n<=out.size)(hl:∀x,a[ia]?=some x->∀y∈c.toList.drop ib,kle b x y) :
  wpS M A E s (mlD a c mg ac k out ia ib) Q st:=by
 unfold mlD;obtain ⟨x,hx,gx⟩:=T.at (i:=ia) (by lia);refine wpS_bind (Gr hx ?_);have h':=h.pushA hx (hl x hx);have hn':n<=(out.push x).size:=by rw [Array.size_push];lia
 dsimp only;split
 ·rename_i e;exact wpS_pure (R.fin _ _ _ (SameG.refl _) (h'.last T (eq_of_beq e)))
 ·rename_i e;have e:ia+1+1<a.size:=by
   have:ia+1+1≠a.size:=λz=>e (beq_iff_eq.mpr z)
   lia
  split
  ·exact wpS_pure (R.brk _ _ _ _ _ (SameG.refl _) h' e h2 hn')
  ·exact wpS_pure (R.go _ _ _ _ _ (SameG.refl _) h' e h2 hn')
theorem WB (W:WO b)(L:J0 M A E s kd b good)(T:Two b good a c){mg ac bc n:Nat}(R:XI b a c n st Q)(hs:kindOf st=kd)(h:ML b a c out ia ib)(h1:ia+1<a.size)(h2:ib<c.size)(hn:n<=out.size)(hl:∀x,c[ib]?=some x->∀y∈a.toList.drop ia,kle b x y):wpS M A E s (mlC a c mg ac bc out ia ib) Q st:=by
 unfold mlC;obtain ⟨x,hx,gx⟩:=T.ct h2;obtain ⟨y,hy,gy⟩:=T.at (i:=ia) (by lia);refine wpS_bind (Gr hx ?_);have h':=h.pushB hx (hl x hx);have hn':n<=(out.push x).size:=by rw [Array.size_push];lia
 generalize out.push x=out1 at h' hn';dsimp only;split
 ·rename_i e;exact wpS_pure (R.fin _ _ _ (SameG.refl _) (h'.done (.inl (eq_of_beq e))))
 ·rename_i e;have e:ib+1<c.size:=by
   have:ib+1≠c.size:=λz=>e (beq_iff_eq.mpr z)
   lia
  refine wpS_bind (Gr hy ?_);have sB:Rng b c (ib+1) c.size:=Ym W h'.sb;have sA:(a.toList.drop ia).Pairwise (kle b):=h'.sa;rw [GY hy] at sA;have G:Gal b good true y c (ib+1) (c.size-(ib+1)):=OF W gy (λi hi=>T.ct (by lia)) (by rw [Nat.add_sub_cancel' (by lia)];exact sB);refine wpS_bind (GW L G hs (by lia) λk hk k1 k2=>?_);dsimp only;have tk:∀z∈(c.toList.drop (ib+1)).take k,∀v∈a.toList.drop ia,kle b z v:=λz hz v hv=>by
   obtain ⟨i,hi,ez⟩:=Vu hz;have:=k1 i hi;unfold byd at this;rw [ez] at this;dsimp only at this;rw [if_pos rfl] at this;rw [GY hy] at hv;exact W.le_trans (W.le_of_lt this) (OY W sA v hv)
  have tr:∀v∈c.toList.drop (ib+1+k),kle b y v:=λv hv=>by
   obtain ⟨i,hi,ev⟩:=Vv hv;have:=k2 (k+i) (by lia) (by lia);unfold byd at this;rw [show ib+1+(k+i)=ib+1+k+i by lia,ev] at this;dsimp only at this;rw [if_pos rfl] at this;exact this
  split
  ·have h3:=h'.takeB tk;have hn3:n<=(out1++c.extract (ib+1) (ib+1+k)).size:=by rw [Array.size_append];lia
   split
   ·rename_i e2;exact wpS_pure (R.fin _ _ _ (SameG.refl _) (h3.done (.inl (eq_of_beq e2))))
   ·rename_i e2;have e2:ib+1+k<c.size:=by
     have:ib+1+k≠c.size:=λz=>e2 (beq_iff_eq.mpr z)
     lia
    exact WA T R h3 h1 e2 hn3 λx' hx' v hv=>by
     rw [hy] at hx';cases hx';exact tr v hv
  ·rename_i hk0;have:k=0:=by lia
   subst this;exact WA T R h' h1 e hn' λx' hx' v hv=>by
    rw [hy] at hx';cases hx';exact tr v hv
theorem YY (W:WO b)(L:J0 M A E s kd b good)(T:Two b good a c){mg ac bc n:Nat}(R:∀st',SameG st st'->XI b a c n st' Q)(hs:kindOf st=kd)(h:ML b a c out ia ib)(h1:ia+1<a.size)(h2:ib<c.size)(hn:n<=out.size) :
  wpS M A E s (mlB a c mg ac bc out ia ib) Q st:=by
 unfold mlB;refine wpS_bind (Jr λst1 sg=>?_);have R:=R st1 sg;have hs1:kindOf st1=kd:=sg.1.trans hs;obtain ⟨x,hx,gx⟩:=T.ct h2;refine wpS_bind (Gr hx ?_);have sA:Rng b a ia a.size:=Ym W h.sa;have sB:(c.toList.drop ib).Pairwise (kle b):=h.sb;rw [GY hx] at sB;have G:Gal b good false x a ia (a.size-ia):=OF W gx (λi hi=>T.at (by lia)) (by rw [Nat.add_sub_cancel' (by lia)];exact sA);refine wpS_bind (GW L G hs1 (by lia) λk hk k1 k2=>?_);dsimp only;have tk:∀z∈(a.toList.drop ia).take k,∀v∈c.toList.drop ib,kle b z v:=λz hz v hv=>by
  obtain ⟨i,hi,ez⟩:=Vu hz;have:=k1 i hi;unfold byd at this;rw [ez] at this;dsimp only at this;rw [if_neg Bool.false_ne_true,Bool.not_eq_true'] at this;rw [GY hx] at hv;exact W.le_trans this (OY W sB v hv)
 have tr:∀v∈a.toList.drop (ia+k),kle b x v:=λv hv=>by
  obtain ⟨i,hi,ev⟩:=Vv hv;have:=k2 (k+i) (by lia) (by lia);unfold byd at this;rw [show ia+(k+i)=ia+k+i by lia,ev] at this;dsimp only at this;rw [if_neg Bool.false_ne_true,Bool.not_eq_false'] at this;exact W.le_of_lt this
 split
 ·have h3:=h.takeA tk;have hn3:n<=(out++a.extract ia (ia+k)).size:=by rw [Array.size_append];lia
  split
  ·rename_i e2;exact wpS_pure (R.fin _ _ _ (SameG.refl _) (h3.last T (eq_of_beq e2)))
  ·rename_i e2;split
   ·rename_i e3;exact wpS_pure (R.fin _ _ _ (SameG.refl _) (h3.done (.inr (eq_of_beq e3))))
   ·rename_i e3;have e4:ia+k+1<a.size:=by
     have:ia+k+1≠a.size:=λz=>e2 (beq_iff_eq.mpr z);have:ia+k≠a.size:=λz=>e3 (beq_iff_eq.mpr z)
     lia
    exact WB W L T R hs1 h3 e4 h2 hn3 λx' hx' v hv=>by
     rw [hx] at hx';cases hx';exact tr v hv
 ·have:k=0:=by lia
  subst this;exact WB W L T R hs1 h h1 h2 hn λx' hx' v hv=>by
   rw [hx] at hx';cases hx';exact tr v hv
end
theorem WC (W:WO b)(L:J0 M A E s kd b good)(T:Two b good a c){out:Array Keyed}{ia ib n:Nat}{y:Nat×Nat×Nat}{st:SortSt}(hs:kindOf st=kd)(h:ML b a c out ia ib)(h1:ia+1<a.size)(h2:ib<c.size){Q:MLt->SortSt->Prop}(q1:∀r y st',SameG st st'->GR b (a.toList++c.toList) r.toList->Q (some r,y) st')(q2:∀out' ia' ib' y st',SameG st st'->ML b a c out' ia' ib'->ia'+1<a.size->ib'<c.size->out.size<=out'.size->Q (none,out',ia',ib',y) st') :
  wpS M A E s (forIn [:n] ((none,out,ia,ib,y):MLt) (XF a c)) Q st:=by
 refine wpS_forRange (λk r st'=>SameG st st'/\∃out' ia' ib' y,r=(none,out',ia',ib',y)/\ML b a c out' ia' ib'/\ia'+1<a.size/\ib'<c.size/\out.size<=out'.size) ?_ ?_ ⟨SameG.refl _,_,_,_,_,rfl,h,h1,h2,Nat.le_refl _⟩
 ·rintro k r st1 _ hk ⟨sg,out',ia',ib',y,rfl,h,h1,h2,h3⟩;have hs1:kindOf st1=kd:=sg.1.trans hs;have R:∀st',SameG st1 st'->XI b a c out.size st' (λr st'=>match r with
   | .done c'=>Q c' st'
   | .yield c'=>SameG st st'/\∃out' ia' ib' y,c'=(none,out',ia',ib',y)/\ML b a c out' ia' ib'/\ia'+1<a.size/\ib'<c.size/\out.size<=out'.size):=λst' sg'=>
   ⟨λr y st2 g m=>q1 r y st2 ((sg.trans sg').trans g) m,λo i j y st2 g m p1 p2 p3=>q2 o i j y st2 ((sg.trans sg').trans g) m p1 p2 p3,λo i j y st2 g m p1 p2 p3=>⟨(sg.trans sg').trans g,o,i,j,y,rfl,m,p1,p2,p3⟩⟩
  unfold XF;dsimp only;have mono:∀mg,wpS M A E s (mlB a c mg y.2.1 y.2.2 out' ia' ib') _ st1:=λmg=>YY W L T R hs1 h h1 h2 h3;split
  ·exact wpS_mono (mono _) λr st' hr=>by cases r <;> exact hr
  ·exact wpS_mono (mono _) λr st' hr=>by cases r <;> exact hr
 ·rintro r st1 ⟨sg,out',ia',ib',y,rfl,h,h1,h2,h3⟩;exact q2 _ _ _ _ _ sg h h1 h2 h3
theorem UZ (W:WO b)(L:J0 M A E s kd b good)(T:Two b good a c){st:SortSt}(hs:kindOf st=kd){Q:Array Keyed->SortSt->Prop}(q:∀r st',SameG st st'->GR b (a.toList++c.toList) r.toList->Q r st'):wpS M A E s (OU a c) Q st:=by
 rw [UY];refine wpS_bind (wpS_lift (wpAny_rule ⟨rfl,?_⟩));obtain ⟨x,hx,gx⟩:=T.ct T.nc;refine wpS_bind (Gr hx ?_);have h0:ML b a c #[x] 0 1:=by
  have z:ML b a c #[] 0 0:=⟨by simp,by simp,by simp,by simpa using T.sa,by simpa using T.sc⟩;exact z.pushB hx λy hy=>T.first x hx y (by simpa using hy)
 have hc:=T.nc;have ha:=T.na;dsimp only;split
 ·rename_i e;exact wpS_pure (q _ _ (SameG.refl _) (h0.done (.inl (eq_of_beq e))))
 ·rename_i e;have e:1<c.size:=by
   have:1≠c.size:=λz=>e (beq_iff_eq.mpr z)
   lia
  split
  ·rename_i e2;exact wpS_pure (q _ _ (SameG.refl _) (h0.last T (eq_of_beq e2)))
  ·rename_i e2;have e2:0+1<a.size:=by
    have:0+1≠a.size:=λz=>e2 (beq_iff_eq.mpr z)
    lia
   refine wpS_bind (wpS_get ?_);refine wpS_bind (wpS_forRange (λk r st'=>SameG st st'/\∃out' ia' ib' mg,r=(none,out',ia',ib',mg)/\ML b a c out' ia' ib'/\ia'+1<a.size/\ib'<c.size/\k<out'.size) ?_ ?_ ⟨SameG.refl _,_,_,_,_,rfl,h0,e2,e,by simp⟩)
   ·rintro k r st1 _ hk ⟨sg,out',ia',ib',mg,rfl,h,h1,h2,h3⟩;have hs1:kindOf st1=kd:=sg.1.trans hs;unfold XG;dsimp only;refine wpS_bind (Wz W L T hs1 h h1 h2 (λr y st2 g m=>?_) (λo i j ac bc st2 g m p1 p2 p3=>?_))
    ·refine wpS_pure ?_;dsimp only;exact wpS_pure (q r st2 (sg.trans g) m)
    ·dsimp only;refine wpS_bind (wpS_lift (wpAny_rule ⟨rfl,?_⟩));refine wpS_bind (WC W L T (g.1.trans hs1) m p1 p2 (λr y st3 g3 m3=>?_) (λo3 i3 j3 y3 st3 g3 m3 r1 r2 r3=>?_))
     ·refine wpS_pure ?_;dsimp only;exact wpS_pure (q r st3 ((sg.trans g).trans g3) m3)
     ·dsimp only;refine wpS_bind (Jr λst4 g4=>?_);exact wpS_pure ⟨((sg.trans g).trans g3).trans g4,_,_,_,_,rfl,m3,r1,r2,by lia⟩
   ·rintro r st1 ⟨sg,out',ia',ib',mg,rfl,h,h1,h2,h3⟩;exfalso;have:=Mrg.len h;rw [List.length_append,List.length_drop,List.length_drop,Array.length_toList,Array.length_toList,Array.length_toList] at this;simp at h3
    lia
end
end L2
namespace L2
open PySem PySem.Spec PyProof.Rows
abbrev MHs:=Option (Array Keyed)×Nat×Nat×Array Keyed×Nat×Nat
abbrev MHt:=Option (Array Keyed)×Nat×Nat×Array Keyed×Nat×Nat×Nat
abbrev MHo:=Option (Array Keyed)×Nat×Nat×Array Keyed×Nat
def Jv (a b out:Array Keyed)(na nb:Nat):Array Keyed:=a.extract 0 na++b.extract 0 nb++out.reverse
def JV (a b out:Array Keyed)(na nb:Nat):Array Keyed:=b.extract 0 nb++a.extract 0 na++out.reverse
def XJ (a b:Array Keyed)(mg:Nat):Nat->MHs->StateT SortSt Sem (ForInStep MHs):=λ_ r=>
 let na:=r.2.1;let nb:=r.2.2.1;let out:=r.2.2.2.1;let qZ:=r.2.2.2.2.1;let qX:=r.2.2.2.2.2
 do
 let x <- elem' b (nb-1)
 let y <- elem' a (na-1)
 match <- lt' x y with
 | some aWins=>
  if aWins=true then do
   let na:=na-1
   let z <- elem' a na
   let out:=out.push z
   let qZ:=qZ+1
   let qX:=0
   if (na == 0)=true then pure (.done (some (Jv a b out na nb),na,nb,out,qZ,qX))
   else if qZ>=mg then pure (.done (none,na,nb,out,qZ,qX))
   else pure (.yield (none,na,nb,out,qZ,qX))
  else do
   let nb:=nb-1
   let z <- elem' b nb
   let out:=out.push z
   let qX:=qX+1
   let qZ:=0
   if (nb == 1)=true then pure (.done (some (JV a b out na nb),na,nb,out,qZ,qX))
   else if qX>=mg then pure (.done (none,na,nb,out,qZ,qX))
   else pure (.yield (none,na,nb,out,qZ,qX))
 | _=>pure (.done (some (Jv a b out na nb),na,nb,out,qZ,qX))
def mhD (a b:Array Keyed)(qJ qZ qX:Nat)(na nb:Nat)(out:Array Keyed):StateT SortSt Sem (ForInStep MHt):=do
 let na:=na-1
 let z <- elem' a na
 let out:=out.push z
 if (na == 0)=true then pure (.done (some (Jv a b out na nb),na,nb,out,qJ,qZ,qX))
 else if (decide (qZ<7) && decide (qX<7))=true then pure (.done (none,na,nb,out,qJ,qZ,qX))
 else pure (.yield (none,na,nb,out,qJ,qZ,qX))
def mhC (a b:Array Keyed)(qJ qZ qX:Nat)(na nb:Nat)(out:Array Keyed):StateT SortSt Sem (ForInStep MHt):=do
 let nb:=nb-1
 let z <- elem' b nb
 let out:=out.push z
 if (nb == 1)=true then pure (.done (some (JV a b out na nb),na,nb,out,qJ,qZ,qX))
 else do
  let y <- elem' a (na-1)
  match <- Jj true y b 0 nb (nb-1) with
  | some at_=>
   let k:=nb-at_
   let qX:=k
   if k > 0 then
    let out:=out++(b.extract at_ nb).reverse
    let nb:=at_
    if (nb == 1)=true then pure (.done (some (JV a b out na nb),na,nb,out,qJ,qZ,qX))
    else if (nb == 0)=true then pure (.done (some (Jv a b out na nb),na,nb,out,qJ,qZ,qX))
    else mhD a b qJ qZ qX na nb out
   else mhD a b qJ qZ qX na nb out
  | _=>pure (.done (some (Jv a b out na nb),na,nb,out,qJ,qZ,qX))
def mhB (a b:Array Keyed)(qJ qZ qX:Nat)(na nb:Nat)(out:Array Keyed):StateT SortSt Sem (ForInStep MHt):=do
 On qJ
 let x <- elem' b (nb-1)
 match <- Jj false x a 0 na (na-1) with
 | some at_=>
  let k:=na-at_
  let qZ:=k
  if k > 0 then
   let out:=out++(a.extract at_ na).reverse
   let na:=at_
   if (na == 0)=true then pure (.done (some (Jv a b out na nb),na,nb,out,qJ,qZ,qX))
   else mhC a b qJ qZ qX na nb out
  else mhC a b qJ qZ qX na nb out
 | _=>pure (.done (some (Jv a b out na nb),na,nb,out,qJ,qZ,qX))
def XM (a b:Array Keyed):Nat->MHt->StateT SortSt Sem (ForInStep MHt):=λ_ r=>
 let na:=r.2.1;let nb:=r.2.2.1;let out:=r.2.2.2.1;let qJ:=r.2.2.2.2.1;let qZ:=r.2.2.2.2.2.1;let qX:=r.2.2.2.2.2.2
 if qJ > 1 then mhB a b (qJ-1) qZ qX na nb out else mhB a b qJ qZ qX na nb out
def XN (a b:Array Keyed):Nat->MHo->StateT SortSt Sem (ForInStep MHo):=λ_ r=>
 let na:=r.2.1;let nb:=r.2.2.1;let out:=r.2.2.2.1;let qJ:=r.2.2.2.2
 do
 let r <- forIn [:a.size+b.size] ((none,na,nb,out,0,0):MHs) (XJ a b qJ)
 match r.1 with
 | some x=>pure (.done (some x,r.2.1,r.2.2.1,r.2.2.2.1,qJ))
 | none=>do
  liftM (rule "list.sort.gallop")
  let r <- forIn [:a.size+b.size] ((none,r.2.1,r.2.2.1,r.2.2.2.1,qJ+1,r.2.2.2.2.1,r.2.2.2.2.2):MHt) (XM a b)
  match r.1 with
  | some x=>pure (.done (some x,r.2.1,r.2.2.1,r.2.2.2.1,r.2.2.2.2.1))
  | none=>do
   On (r.2.2.2.2.1+1)
   pure (.yield (none,r.2.1,r.2.2.1,r.2.2.2.1,r.2.2.2.2.1+1))
theorem U0 (a b:Array Keyed):OV a b=(do
  liftM (rule "list.sort.merge-hi")
  let x <- elem' a (a.size-1)
  let out:=#[x]
  if (a.size-1 == 0)=true then pure (Jv a b out (a.size-1) b.size)
  else if (b.size == 1)=true then pure (JV a b out (a.size-1) b.size)
  else do
   let st <- get
   let r <- forIn [:a.size+b.size] ((none,a.size-1,b.size,out,gallopOf st):MHo) (XN a b)
   match r.1 with
   | some r=>pure r
   | none=>liftM (unsupported "internal:list.sort.merge-bound")):=by
 refine GO (m:=liftM (rule "list.sort.merge-hi")) λ_=>?_;refine GO (m:=elem' a (a.size-1)) λx=>?_;refine OX (c:=(a.size-1 == 0)=true) rfl ?_;refine OX (c:=(b.size == 1)=true) rfl ?_;refine GO (m:=get) λst=>?_;refine (congrArg (λm:StateT SortSt Sem MHo=>m >>= _) (Oo (r:=[:a.size+b.size]) (c:=((none,a.size-1,b.size,#[x],gallopOf st):MHo)) (g:=XN a b) λi r=>?_)).trans ?_;rotate_left
 ·refine GO λr=>?_;obtain ⟨r1,r2⟩:=r;cases r1 <;> rfl
 unfold XN;refine (congrArg (λm:StateT SortSt Sem MHs=>m >>= _) (Oo (r:=[:a.size+b.size]) (g:=XJ a b r.2.2.2.2) λi r=>rfl)).trans ?_;refine GO λq=>?_;obtain ⟨q1,q2⟩:=q;cases q1 with
 | some z=>rfl
 | none=>
  refine GO (m:=liftM (rule "list.sort.gallop")) λ_=>?_;refine (congrArg (λm:StateT SortSt Sem MHt=>m >>= _) (Oo (r:=[:a.size+b.size]) (g:=XM a b) λi r=>rfl)).trans ?_;refine GO λq=>?_;obtain ⟨q1,q2⟩:=q;cases q1 <;> rfl
end L2
namespace L2
open PySem PySem.Spec PyProof.Rows
section
variable {b:Keyed->Keyed->Bool}
structure MrgH (b:Keyed->Keyed->Bool)(all out ra rb:List Keyed):Prop where
 perm:(ra++rb++out).Perm all
 so:out.Pairwise (kle b)
 le:∀x∈ra++rb,∀y∈out,kle b x y
 sa:ra.Pairwise (kle b)
 sb:rb.Pairwise (kle b)
theorem MrgH.len {all out ra rb:List Keyed}(h:MrgH b all out ra rb):ra.length+rb.length+out.length=all.length:=by
 have:=h.perm.length_eq;rw [List.length_append,List.length_append] at this;exact this
theorem MrgH.moveB {all out u ra rb:List Keyed}(h:MrgH b all out ra (rb++u))(hu:∀x∈u,∀y∈ra,kle b y x):MrgH b all (u++out) ra rb:=by
 have sb:=List.pairwise_append.mp h.sb;refine ⟨?_,List.pairwise_append.mpr ⟨sb.2.1,h.so,λx hx y hy=>h.le x (by simp [hx]) y hy⟩,λx hx y hy=>?_,h.sa,sb.1⟩
 ·have:=h.perm;simp only [List.append_assoc] at this ⊢;exact this
 ·rcases List.mem_append.mp hy with hy | hy
  ·rcases List.mem_append.mp hx with hx | hx
   ·exact hu y hy x hx
   ·exact sb.2.2 x hx y hy
  ·refine h.le x ?_ y hy;rcases List.mem_append.mp hx with hx | hx <;> simp [hx]
theorem MrgH.moveA {all out u ra rb:List Keyed}(h:MrgH b all out (ra++u) rb)(hu:∀x∈u,∀y∈rb,kle b y x):MrgH b all (u++out) ra rb:=by
 have sa:=List.pairwise_append.mp h.sa;refine ⟨?_,List.pairwise_append.mpr ⟨sa.2.1,h.so,λx hx y hy=>h.le x (by simp [hx]) y hy⟩,λx hx y hy=>?_,sa.1,h.sb⟩
 ·refine List.Perm.trans ?_ h.perm;simp only [List.append_assoc];refine List.Perm.append_left _ ?_;rw [<-List.append_assoc,<-List.append_assoc];exact List.Perm.append_right _ List.perm_append_comm
 ·rcases List.mem_append.mp hy with hy | hy
  ·rcases List.mem_append.mp hx with hx | hx
   ·exact sa.2.2 x hx y hy
   ·exact hu y hy x hx
  ·refine h.le x ?_ y hy;rcases List.mem_append.mp hx with hx | hx <;> simp [hx]
theorem MrgH.endA {all out ra rb:List Keyed}(h:MrgH b all out ra rb)(hz:∀x∈ra,∀y∈rb,kle b x y):GR b all (ra++rb++out):=
 ⟨h.perm,List.pairwise_append.mpr ⟨List.pairwise_append.mpr ⟨h.sa,h.sb,hz⟩,h.so,h.le⟩⟩
theorem MrgH.endB {all out ra rb:List Keyed}(h:MrgH b all out ra rb)(hz:∀x∈rb,∀y∈ra,kle b x y):GR b all (rb++ra++out):=by
 refine ⟨List.Perm.trans (List.Perm.append_right _ List.perm_append_comm) h.perm,List.pairwise_append.mpr ⟨List.pairwise_append.mpr ⟨h.sb,h.sa,hz⟩,h.so,λx hx y hy=>h.le x ?_ y hy⟩⟩;rcases List.mem_append.mp hx with hx | hx <;> simp [hx]
end
theorem Vw (a:Array Keyed)(k:Nat):(a.extract 0 k).toList=a.toList.take k:=by
 rw [Array.toList_extract,List.extract_eq_take_drop,List.drop_zero,Nat.sub_zero]
theorem WD (a:Array Keyed){i j:Nat}(h:i<=j):a.toList.take j=a.toList.take i++(a.extract i j).toList:=by
 rw [Array.toList_extract,List.extract_eq_take_drop];have:=List.take_append_drop i (a.toList.take j);rw [List.take_take,Nat.min_eq_left h,List.drop_take] at this;exact this.symm
theorem WE {a:Array Keyed}{i:Nat}{x:Keyed}(h:a[i]?=some x):a.toList.take (i+1)=a.toList.take i++[x]:=by
 rw [<-Array.getElem?_toList] at h;rw [List.take_add_one,h]
 rfl
theorem taken {arr:Array Keyed}{k:Nat}{x:Keyed}(h:x∈arr.toList.take k):∃i,i<k/\arr[i]?=some x:=by
 obtain ⟨i,hi⟩:=List.mem_iff_getElem?.mp h;rw [List.getElem?_take] at hi;split at hi
 ·rw [Array.getElem?_toList] at hi;exact ⟨i,by assumption,hi⟩
 ·cases hi
theorem U1 {arr:Array Keyed}{i j:Nat}{x:Keyed}(h:x∈(arr.extract i j).toList):∃k,i<=k/\k<j/\arr[k]?=some x:=by
 rw [Array.toList_extract,List.extract_eq_take_drop] at h;obtain ⟨k,hk⟩:=List.mem_iff_getElem?.mp h;rw [List.getElem?_take] at hk;split at hk
 ·rw [List.getElem?_drop,Array.getElem?_toList] at hk;exact ⟨i+k,by lia,by lia,hk⟩
 ·cases hk
section
variable {M:Model}{A:Around}{E:Value->Shared->Prop}{s:Shared}{kd:SortKind}{b:Keyed->Keyed->Bool}{good:Keyed->Prop}{a c:Array Keyed}
def MH (b:Keyed->Keyed->Bool)(a c:Array Keyed)(na nb:Nat)(out:Array Keyed):Prop:=MrgH b (a.toList++c.toList) out.toList.reverse (a.toList.take na) (c.toList.take nb)
theorem WF (W:WO b){arr:Array Keyed}{hi:Nat}(h:(arr.toList.take hi).Pairwise (kle b)):Rng b arr 0 (0+hi):=λi j x y h1 h2 h3 e1 e2=>by
 refine XH (i:=i) (j:=j) W h h2 ?_ ?_
 ·rw [List.getElem?_take,if_pos (by lia),Array.getElem?_toList];exact e1
 ·rw [List.getElem?_take,if_pos (by lia),Array.getElem?_toList];exact e2
theorem MH.done {out:Array Keyed}{na nb:Nat}(h:MH b a c na nb out)(e:na=0\/nb=0):GR b (a.toList++c.toList) (Jv a c out na nb).toList:=by
 unfold Jv;rw [Array.toList_append,Array.toList_append,Vw,Vw,Array.toList_reverse];refine MrgH.endA h λx hx y hy=>?_;rcases e with e | e
 ·rw [e] at hx;simp at hx
 ·rw [e] at hy;simp at hy
theorem MH.first {out:Array Keyed}{na nb:Nat}(T:Two b good a c)(h:MH b a c na nb out)(e:nb=1):GR b (a.toList++c.toList) (JV a c out na nb).toList:=by
 unfold JV;rw [Array.toList_append,Array.toList_append,Vw,Vw,Array.toList_reverse];refine MrgH.endB h λx hx y hy=>?_;obtain ⟨i,hi,ex⟩:=taken hx;have:i=0:=by lia
 subst this;exact T.first x ex y (List.mem_of_mem_take hy)
theorem MH.pushB {out:Array Keyed}{na nb:Nat}{x:Keyed}(h:MH b a c na (nb+1) out)(hx:c[nb]?=some x)(hl:∀y∈a.toList.take na,kle b y x):MH b a c na nb (out.push x):=by
 unfold MH at h ⊢;rw [Array.toList_push,List.reverse_append];rw [WE hx] at h;exact MrgH.moveB (u:=[x]) h λz hz y hy=>by
  have:z=x:=by simpa using hz
  subst this;exact hl y hy
theorem MH.pushA {out:Array Keyed}{na nb:Nat}{x:Keyed}(h:MH b a c (na+1) nb out)(hx:a[na]?=some x)(hl:∀y∈c.toList.take nb,kle b y x):MH b a c na nb (out.push x):=by
 unfold MH at h ⊢;rw [Array.toList_push,List.reverse_append];rw [WE hx] at h;exact MrgH.moveA (u:=[x]) h λz hz y hy=>by
  have:z=x:=by simpa using hz
  subst this;exact hl y hy
theorem MH.takeA {out:Array Keyed}{na nb k:Nat}(h:MH b a c na nb out)(hk:k<=na)(hl:∀x∈(a.extract k na).toList,∀y∈c.toList.take nb,kle b y x):MH b a c k nb (out++(a.extract k na).reverse):=by
 unfold MH at h ⊢;rw [Array.toList_append,Array.toList_reverse,List.reverse_append,List.reverse_reverse];rw [WD a hk] at h;exact MrgH.moveA h hl
theorem MH.takeB {out:Array Keyed}{na nb k:Nat}(h:MH b a c na nb out)(hk:k<=nb)(hl:∀x∈(c.extract k nb).toList,∀y∈a.toList.take na,kle b y x):MH b a c na k (out++(c.extract k nb).reverse):=by
 unfold MH at h ⊢;rw [Array.toList_append,Array.toList_reverse,List.reverse_append,List.reverse_reverse];rw [WD c hk] at h;exact MrgH.moveB h hl
theorem OZ (W:WO b){arr:Array Keyed}{k:Nat}{x:Keyed}(h:(arr.toList.take (k+1)).Pairwise (kle b))(hx:arr[k]?=some x):∀y∈arr.toList.take (k+1),kle b y x:=λy hy=>by
 obtain ⟨i,hi,ey⟩:=taken hy;exact WF W h i k y x (Nat.zero_le _) (by lia) (by lia) ey hx
theorem WG (W:WO b)(L:J0 M A E s kd b good)(T:Two b good a c){out:Array Keyed}{na nb mg:Nat}{st:SortSt}(hs:kindOf st=kd)(h:MH b a c na nb out)(h1:0<na/\na<=a.size)(h2:1<nb/\nb<=c.size){Q:MHs->SortSt->Prop}(q1:∀r y st',SameG st st'->GR b (a.toList++c.toList) r.toList->Q (some r,y) st')(q2:∀na' nb' out' ac bc st',SameG st st'->MH b a c na' nb' out'->(0<na'/\na'<=a.size)->(1<nb'/\nb'<=c.size)->out.size<out'.size->Q (none,na',nb',out',ac,bc) st') :
  wpS M A E s (forIn [:a.size+c.size] ((none,na,nb,out,0,0):MHs) (XJ a c mg)) Q st:=by
 refine wpS_forRange (λk r st'=>SameG st st'/\∃na' nb' out' ac bc,r=(none,na',nb',out',ac,bc)/\MH b a c na' nb' out'/\(0<na'/\na'<=a.size)/\(1<nb'/\nb'<=c.size)/\out.size+k<=out'.size) ?_ ?_ ⟨SameG.refl _,_,_,_,_,_,rfl,h,h1,h2,Nat.le_refl _⟩
 ·rintro k r st1 _ hk ⟨sg,na',nb',out',ac,bc,rfl,h,h1,h2,h3⟩;have hs1:kindOf st1=kd:=sg.1.trans hs;obtain ⟨na',rfl⟩:∃n,na'=n+1:=⟨na' - 1,by lia⟩;obtain ⟨nb',rfl⟩:∃n,nb'=n+1:=⟨nb' - 1,by lia⟩;unfold XJ;dsimp only [Nat.add_sub_cancel];obtain ⟨x,hx,gx⟩:=T.ct (i:=nb') (by lia);obtain ⟨y,hy,gy⟩:=T.at (i:=na') (by lia);refine wpS_bind (Gr hx (wpS_bind (Gr hy (wpS_bind (L x y st1 _ gx gy hs1 ?_)))));dsimp only;cases hb:b x y with
  | true=>
   rw [if_pos rfl];refine wpS_bind (Gr hy ?_);have h':=h.pushA hy λz hz=>W.le_trans (OZ W h.sb hx z hz) (W.le_of_lt hb);split
   ·rename_i e;exact wpS_pure (q1 _ _ _ sg (h'.done (.inl (eq_of_beq e))))
   ·rename_i e;have e:0<na':=by
     have:na'≠0:=λz=>e (beq_iff_eq.mpr z)
     lia
    split
    ·exact wpS_pure (q2 _ _ _ _ _ _ sg h' ⟨e,by lia⟩ h2 (by rw [Array.size_push];lia))
    ·exact wpS_pure ⟨sg,_,_,_,_,_,rfl,h',⟨e,by lia⟩,h2,by rw [Array.size_push];lia⟩
  | false=>
   rw [if_neg Bool.false_ne_true];refine wpS_bind (Gr hx ?_);have h':=h.pushB hx λz hz=>W.le_trans (OZ W h.sa hy z hz) hb;split
   ·rename_i e;exact wpS_pure (q1 _ _ _ sg (h'.first T (eq_of_beq e)))
   ·rename_i e;have e:1<nb':=by
     have:nb'≠1:=λz=>e (beq_iff_eq.mpr z)
     lia
    split
    ·exact wpS_pure (q2 _ _ _ _ _ _ sg h' h1 ⟨e,by lia⟩ (by rw [Array.size_push];lia))
    ·exact wpS_pure ⟨sg,_,_,_,_,_,rfl,h',h1,⟨e,by lia⟩,by rw [Array.size_push];lia⟩
 ·rintro r st1 ⟨sg,na',nb',out',ac,bc,rfl,h,h1,h2,h3⟩;exact q2 _ _ _ _ _ _ sg h h1 h2 (by have:=T.na;simp at h3;lia)
section
variable {out:Array Keyed}{na nb:Nat}{st:SortSt}{Q:ForInStep MHt->SortSt->Prop}
structure XO (b:Keyed->Keyed->Bool)(a c:Array Keyed)(n:Nat)(st:SortSt)(Q:ForInStep MHt->SortSt->Prop):Prop where
 fin:∀r y st',SameG st st'->GR b (a.toList++c.toList) r.toList->Q (.done (some r,y)) st'
 brk:∀na' nb' out' y st',SameG st st'->MH b a c na' nb' out'->(0<na'/\na'<=a.size)->(1<nb'/\nb'<=c.size)->n<=out'.size->Q (.done (none,na',nb',out',y)) st'
 go:∀na' nb' out' y st',SameG st st'->MH b a c na' nb' out'->(0<na'/\na'<=a.size)->(1<nb'/\nb'<=c.size)->n<=out'.size->Q (.yield (none,na',nb',out',y)) st'
theorem WH (T:Two b good a c){mg ac bc n:Nat}(R:XO b a c n st Q)(h:MH b a c (na+1) nb out)(h1:na+1<=a.size)(h2:1<nb/\nb<=c.size)(hn:n<=out.size)(hl:∀x,a[na]?=some x->∀y∈c.toList.take nb,kle b y x) :
  wpS M A E s (mhD a c mg ac bc (na+1) nb out) Q st:=by
 unfold mhD;dsimp only [Nat.add_sub_cancel];obtain ⟨x,hx,gx⟩:=T.at (i:=na) (by lia);refine wpS_bind (Gr hx ?_);have h':=h.pushA hx (hl x hx);have hn':n<=(out.push x).size:=by rw [Array.size_push];lia
 split
 ·rename_i e;exact wpS_pure (R.fin _ _ _ (SameG.refl _) (h'.done (.inl (eq_of_beq e))))
 ·rename_i e;have e:0<na:=by
   have:na≠0:=λz=>e (beq_iff_eq.mpr z)
   lia
  split
  ·exact wpS_pure (R.brk _ _ _ _ _ (SameG.refl _) h' ⟨e,by lia⟩ h2 hn')
  ·exact wpS_pure (R.go _ _ _ _ _ (SameG.refl _) h' ⟨e,by lia⟩ h2 hn')
theorem WI (W:WO b)(L:J0 M A E s kd b good)(T:Two b good a c){mg ac bc n:Nat}(R:XO b a c n st Q)(hs:kindOf st=kd)(h:MH b a c (na+1) (nb+1) out)(h1:na+1<=a.size)(h2:0<nb/\nb+1<=c.size)(hn:n<=out.size)(hl:∀x,c[nb]?=some x->∀y∈a.toList.take (na+1),kle b y x):wpS M A E s (mhC a c mg ac bc (na+1) (nb+1) out) Q st:=by
 unfold mhC;dsimp only [Nat.add_sub_cancel];obtain ⟨x,hx,gx⟩:=T.ct (i:=nb) (by lia);obtain ⟨y,hy,gy⟩:=T.at (i:=na) (by lia);refine wpS_bind (Gr hx ?_);have h':=h.pushB hx (hl x hx);have hn':n<=(out.push x).size:=by rw [Array.size_push];lia
 generalize out.push x=out1 at h' hn';split
 ·rename_i e;exact wpS_pure (R.fin _ _ _ (SameG.refl _) (h'.first T (eq_of_beq e)))
 ·rename_i e;have e:1<nb:=by
   have:nb≠1:=λz=>e (beq_iff_eq.mpr z)
   lia
  refine wpS_bind (Gr hy ?_);have G:Gal b good true y c 0 nb:=OF W gy (λi hi=>by rw [Nat.zero_add];exact T.ct (by lia)) (WF W h'.sb);refine wpS_bind (GW L G hs (by lia) λk hk k1 k2=>?_);dsimp only;have tk:∀z∈(c.extract k nb).toList,∀v∈a.toList.take (na+1),kle b v z:=λz hz v hv=>by
   obtain ⟨i,hi,hj,ez⟩:=U1 hz;have:=k2 i hi hj;unfold byd at this;rw [Nat.zero_add,ez] at this;dsimp only at this;rw [if_pos rfl] at this;exact W.le_trans (OZ W h'.sa hy v hv) this
  have tr:∀v∈c.toList.take k,kle b v y:=λv hv=>by
   obtain ⟨i,hi,ev⟩:=taken hv;have:=k1 i hi;unfold byd at this;rw [Nat.zero_add,ev] at this;dsimp only at this;rw [if_pos rfl] at this;exact W.le_of_lt this
  split
  ·have h3:=h'.takeB hk tk;have hn3:n<=(out1++(c.extract k nb).reverse).size:=by rw [Array.size_append];lia
   split
   ·rename_i e2;exact wpS_pure (R.fin _ _ _ (SameG.refl _) (h3.first T (eq_of_beq e2)))
   ·rename_i e2;split
    ·rename_i e3;exact wpS_pure (R.fin _ _ _ (SameG.refl _) (h3.done (.inr (eq_of_beq e3))))
    ·rename_i e3;have e4:1<k:=by
      have:k≠1:=λz=>e2 (beq_iff_eq.mpr z);have:k≠0:=λz=>e3 (beq_iff_eq.mpr z)
      lia
     exact WH T R h3 h1 ⟨e4,by lia⟩ hn3 λx' hx' v hv=>by
      rw [hy] at hx';cases hx';exact tr v hv
  ·have:k=nb:=by lia
   subst this;exact WH T R h' h1 ⟨e,by lia⟩ hn' λx' hx' v hv=>by
    rw [hy] at hx';cases hx';exact tr v hv
theorem YZ (W:WO b)(L:J0 M A E s kd b good)(T:Two b good a c){mg ac bc n:Nat}(R:∀st',SameG st st'->XO b a c n st' Q)(hs:kindOf st=kd)(h:MH b a c na (nb+1) out)(h1:0<na/\na<=a.size)(h2:0<nb/\nb+1<=c.size)(hn:n<=out.size) :
  wpS M A E s (mhB a c mg ac bc na (nb+1) out) Q st:=by
 unfold mhB;refine wpS_bind (Jr λst1 sg=>?_);have R:=R st1 sg;have hs1:kindOf st1=kd:=sg.1.trans hs;dsimp only [Nat.add_sub_cancel];obtain ⟨x,hx,gx⟩:=T.ct (i:=nb) (by lia);refine wpS_bind (Gr hx ?_);have G:Gal b good false x a 0 na:=OF W gx (λi hi=>by rw [Nat.zero_add];exact T.at (by lia)) (WF W h.sa);refine wpS_bind (GW L G hs1 (by lia) λk hk k1 k2=>?_);dsimp only;have tk:∀z∈(a.extract k na).toList,∀v∈c.toList.take (nb+1),kle b v z:=λz hz v hv=>by
  obtain ⟨i,hi,hj,ez⟩:=U1 hz;have:=k2 i hi hj;unfold byd at this;rw [Nat.zero_add,ez] at this;dsimp only at this;rw [if_neg Bool.false_ne_true,Bool.not_eq_false'] at this;exact W.le_trans (OZ W h.sb hx v hv) (W.le_of_lt this)
 have tr:∀v∈a.toList.take k,kle b v x:=λv hv=>by
  obtain ⟨i,hi,ev⟩:=taken hv;have:=k1 i hi;unfold byd at this;rw [Nat.zero_add,ev] at this;dsimp only at this;rw [if_neg Bool.false_ne_true,Bool.not_eq_true'] at this;exact this
 split
 ·have h3:=h.takeA hk tk;have hn3:n<=(out++(a.extract k na).reverse).size:=by rw [Array.size_append];lia
  split
  ·rename_i e2;exact wpS_pure (R.fin _ _ _ (SameG.refl _) (h3.done (.inl (eq_of_beq e2))))
  ·rename_i e2;have:k≠0:=λz=>e2 (beq_iff_eq.mpr z);obtain ⟨k,rfl⟩:∃n,k=n+1:=⟨k-1,by lia⟩;exact WI W L T R hs1 h3 (by lia) h2 hn3 λx' hx' v hv=>by
    rw [hx] at hx';cases hx';exact tr v hv
 ·have:k=na:=by lia
  subst this;obtain ⟨k,rfl⟩:∃n,k=n+1:=⟨k-1,by lia⟩;exact WI W L T R hs1 h (by lia) h2 hn λx' hx' v hv=>by
   rw [hx] at hx';cases hx';exact tr v hv
end
theorem WJ (W:WO b)(L:J0 M A E s kd b good)(T:Two b good a c){out:Array Keyed}{na nb n:Nat}{y:Nat×Nat×Nat}{st:SortSt}(hs:kindOf st=kd)(h:MH b a c na nb out)(h1:0<na/\na<=a.size)(h2:1<nb/\nb<=c.size){Q:MHt->SortSt->Prop}(q1:∀r y st',SameG st st'->GR b (a.toList++c.toList) r.toList->Q (some r,y) st')(q2:∀na' nb' out' y st',SameG st st'->MH b a c na' nb' out'->(0<na'/\na'<=a.size)->(1<nb'/\nb'<=c.size)->out.size<=out'.size->Q (none,na',nb',out',y) st') :
  wpS M A E s (forIn [:n] ((none,na,nb,out,y):MHt) (XM a c)) Q st:=by
 refine wpS_forRange (λk r st'=>SameG st st'/\∃na' nb' out' y,r=(none,na',nb',out',y)/\MH b a c na' nb' out'/\(0<na'/\na'<=a.size)/\(1<nb'/\nb'<=c.size)/\out.size<=out'.size) ?_ ?_ ⟨SameG.refl _,_,_,_,_,rfl,h,h1,h2,Nat.le_refl _⟩
 ·rintro k r st1 _ hk ⟨sg,na',nb',out',y,rfl,h,h1,h2,h3⟩;have hs1:kindOf st1=kd:=sg.1.trans hs;have R:∀st',SameG st1 st'->XO b a c out.size st' (λr st'=>match r with
   | .done c'=>Q c' st'
   | .yield c'=>SameG st st'/\∃na' nb' out' y,c'=(none,na',nb',out',y)/\MH b a c na' nb' out'/\(0<na'/\na'<=a.size)/\(1<nb'/\nb'<=c.size)/\out.size<=out'.size):=λst' sg'=>
   ⟨λr y st2 g m=>q1 r y st2 ((sg.trans sg').trans g) m,λo i j y st2 g m p1 p2 p3=>q2 o i j y st2 ((sg.trans sg').trans g) m p1 p2 p3,λo i j y st2 g m p1 p2 p3=>⟨(sg.trans sg').trans g,o,i,j,y,rfl,m,p1,p2,p3⟩⟩
  unfold XM;dsimp only;obtain ⟨nb',rfl⟩:∃n,nb'=n+1:=⟨nb' - 1,by lia⟩;have mono:∀mg,wpS M A E s (mhB a c mg y.2.1 y.2.2 na' (nb'+1) out') _ st1:=λmg=>YZ W L T R hs1 h h1 ⟨by lia,h2.2⟩ h3;split
  ·exact wpS_mono (mono _) λr st' hr=>by cases r <;> exact hr
  ·exact wpS_mono (mono _) λr st' hr=>by cases r <;> exact hr
 ·rintro r st1 ⟨sg,na',nb',out',y,rfl,h,h1,h2,h3⟩;exact q2 _ _ _ _ _ sg h h1 h2 h3
theorem U2 (W:WO b)(L:J0 M A E s kd b good)(T:Two b good a c){st:SortSt}(hs:kindOf st=kd){Q:Array Keyed->SortSt->Prop}(q:∀r st',SameG st st'->GR b (a.toList++c.toList) r.toList->Q r st'):wpS M A E s (OV a c) Q st:=by
 rw [U0];refine wpS_bind (wpS_lift (wpAny_rule ⟨rfl,?_⟩));have hc:=T.nc;have ha:=T.na;obtain ⟨x,hx,gx⟩:=T.at (i:=a.size-1) (by lia);refine wpS_bind (Gr hx ?_);have h0:MH b a c (a.size-1) c.size #[x]:=by
  have z:MH b a c (a.size-1+1) c.size #[]:=by
   unfold MH;rw [Nat.sub_add_cancel (by lia),List.take_of_length_le (by simp),List.take_of_length_le (by simp)];exact ⟨by simp,by simp,by simp,T.sa,T.sc⟩
  exact z.pushA hx λy hy=>T.last x hx y (List.mem_of_mem_take hy)
 dsimp only;split
 ·rename_i e;exact wpS_pure (q _ _ (SameG.refl _) (h0.done (.inl (eq_of_beq e))))
 ·rename_i e;have e:0<a.size-1:=by
   have:a.size-1≠0:=λz=>e (beq_iff_eq.mpr z)
   lia
  split
  ·rename_i e2;exact wpS_pure (q _ _ (SameG.refl _) (h0.first T (eq_of_beq e2)))
  ·rename_i e2;have e2:1<c.size:=by
    have:c.size≠1:=λz=>e2 (beq_iff_eq.mpr z)
    lia
   refine wpS_bind (wpS_get ?_);refine wpS_bind (wpS_forRange (λk r st'=>SameG st st'/\∃na' nb' out' mg,r=(none,na',nb',out',mg)/\MH b a c na' nb' out'/\(0<na'/\na'<=a.size)/\(1<nb'/\nb'<=c.size)/\k<out'.size) ?_ ?_ ⟨SameG.refl _,_,_,_,_,rfl,h0,⟨e,by lia⟩,⟨e2,Nat.le_refl _⟩,by simp⟩)
   ·rintro k r st1 _ hk ⟨sg,na',nb',out',mg,rfl,h,h1,h2,h3⟩;have hs1:kindOf st1=kd:=sg.1.trans hs;unfold XN;dsimp only;refine wpS_bind (WG W L T hs1 h h1 h2 (λr y st2 g m=>?_) (λo i j ac bc st2 g m p1 p2 p3=>?_))
    ·refine wpS_pure ?_;dsimp only;exact wpS_pure (q r st2 (sg.trans g) m)
    ·dsimp only;refine wpS_bind (wpS_lift (wpAny_rule ⟨rfl,?_⟩));refine wpS_bind (WJ W L T (g.1.trans hs1) m p1 p2 (λr y st3 g3 m3=>?_) (λo3 i3 j3 y3 st3 g3 m3 r1 r2 r3=>?_))
     ·refine wpS_pure ?_;dsimp only;exact wpS_pure (q r st3 ((sg.trans g).trans g3) m3)
     ·dsimp only;refine wpS_bind (Jr λst4 g4=>?_);exact wpS_pure ⟨((sg.trans g).trans g3).trans g4,_,_,_,_,rfl,m3,r1,r2,by lia⟩
   ·rintro r st1 ⟨sg,na',nb',out',mg,rfl,h,h1,h2,h3⟩;exfalso;have:=MrgH.len h;rw [List.length_append,List.length_take,List.length_take,List.length_reverse,Array.length_toList,Array.length_toList,Array.length_toList] at this;simp at h3
    lia
end
end L2
namespace L2
open PySem PySem.Spec PyProof.Rows
abbrev Asc:=Option (Option Nat)×Nat
abbrev Dsc:=Option (Option Nat)×Nat×Nat
def Y0 (lo:Nat):Nat->Asc->StateT SortSt Sem (ForInStep Asc):=λ_ r=>do
 match <- ltAt' (lo+r.2) (lo+r.2-1) with
 | some smaller=>if smaller=true then pure (.done (none,r.2)) else pure (.yield (none,r.2+1))
 | _=>pure (.done (some none,r.2))
def Zah (lo:Nat):Nat->Dsc->StateT SortSt Sem (ForInStep Dsc):=λ_ r=>do
 match <- ltAt' (lo+r.2.1) (lo+r.2.1-1) with
 | some smaller=>
  if smaller=true then
   if r.2.2 > 0 then do
    reverseSlice' (lo+r.2.1-(r.2.2+1)) (lo+r.2.1)
    pure (.yield (none,r.2.1+1,0))
   else pure (.yield (none,r.2.1+1,0))
  else do
   match <- ltAt' (lo+r.2.1-1) (lo+r.2.1) with
   | some larger=>if larger=true then pure (.done (none,r.2.1,r.2.2)) else pure (.yield (none,r.2.1+1,r.2.2+1))
   | _=>pure (.done (some none,r.2.1,r.2.2))
 | _=>pure (.done (some none,r.2.1,r.2.2))
def Uy (lo n qW:Nat):StateT SortSt Sem (Option Nat):=do
 reverseSlice' lo (lo+n)
 let r <- forIn [n:qW] ((none,n):Asc) (Y0 lo)
 match r.1 with
 | some x=>pure x
 | none=>pure (some r.2)
def VT (lo n qW:Nat):StateT SortSt Sem (Option Nat):=do
 liftM (rule "list.sort.descending-run")
 let r <- forIn [n+1:qW] ((none,n+1,0):Dsc) (Zah lo)
 match r.1 with
 | some x=>pure x
 | none=>(if r.2.2 > 0 then (do
   reverseSlice' (lo+r.2.1-(r.2.2+1)) (lo+r.2.1)
   Uy lo r.2.1 qW) else Uy lo r.2.1 qW)
theorem U3 (lo qW:Nat):countRun' lo qW=(do
  let r <- forIn [1:qW] ((none,1):Asc) (Y0 lo)
  match r.1 with
  | some x=>pure x
  | none=>(if (r.2 == qW)=true then pure (some r.2) else (if r.2 > 1 then (do
    match <- ltAt' lo (lo+r.2-1) with
    | some rose=>(if rose=true then pure (some r.2) else (do
      reverseSlice' lo (lo+r.2)
      VT lo r.2 qW))
    | _=>pure none)
   else VT lo r.2 qW))):=by
 rw [countRun'_eq];refine (congrArg (λm:StateT SortSt Sem Asc=>m >>= _) (Oo (r:=[1:qW]) (c:=((none,1):Asc)) (g:=Y0 lo) λi r=>rfl)).trans ?_;refine GO λr=>?_;obtain ⟨r1,r2⟩:=r;cases r1 with
 | some z=>rfl
 | none=>
  refine OX (c:=(r2 == qW)=true) rfl ?_;refine OX (c:=r2 > 1) ?_ ?_
  ·refine GO λz=>?_;cases z with
   | none=>rfl
   | some z=>
    refine OX (c:=z=true) rfl ?_;refine GO λ_=>?_;unfold VT;refine GO λ_=>?_;refine (congrArg (λm:StateT SortSt Sem Dsc=>m >>= _) (Oo (r:=[r2+1:qW]) (c:=((none,r2+1,0):Dsc)) (g:=Zah lo) λi r=>rfl)).trans ?_;refine GO λr=>?_;obtain ⟨r1,r2,r3⟩:=r;cases r1 with
    | some z=>rfl
    | none=>
     refine OX (c:=r3 > 0) (GO λ_=>?_) ?_
     all_goals
      unfold Uy;refine GO λ_=>?_;refine (congrArg (λm:StateT SortSt Sem Asc=>m >>= _) (Oo (r:=[r2:qW]) (c:=((none,r2):Asc)) (g:=Y0 lo) λi r=>rfl)).trans ?_;refine GO λr=>?_;obtain ⟨r1,r2⟩:=r;cases r1 <;> rfl
  ·unfold VT;refine GO λ_=>?_;refine (congrArg (λm:StateT SortSt Sem Dsc=>m >>= _) (Oo (r:=[r2+1:qW]) (c:=((none,r2+1,0):Dsc)) (g:=Zah lo) λi r=>rfl)).trans ?_;refine GO λr=>?_;obtain ⟨r1,r2,r3⟩:=r;cases r1 with
   | some z=>rfl
   | none=>
    refine OX (c:=r3 > 0) (GO λ_=>?_) ?_
    all_goals
     unfold Uy;refine GO λ_=>?_;refine (congrArg (λm:StateT SortSt Sem Asc=>m >>= _) (Oo (r:=[r2:qW]) (c:=((none,r2):Asc)) (g:=Y0 lo) λi r=>rfl)).trans ?_;refine GO λr=>?_;obtain ⟨r1,r2⟩:=r;cases r1 <;> rfl
end L2
namespace L2
open PySem PySem.Spec PyProof.Rows
structure Ah (lo:Nat)(st st':SortSt):Prop where
 kd:kindOf st'=kindOf st
 pe:pendingOf st'=pendingOf st
 fa:failedOf st'=failedOf st
 pm:(arrOf st').Perm (arrOf st)
 lw:∀i,i<lo->(arrOf st')[i]?=(arrOf st)[i]?
theorem Ah.refl (lo:Nat)(st:SortSt):Ah lo st st:=⟨rfl,rfl,rfl,.refl _,λ_ _=>rfl⟩
theorem Ah.trans {lo:Nat}{st st' st'':SortSt}(h:Ah lo st st')(k:Ah lo st' st''):Ah lo st st'':=
 ⟨k.kd.trans h.kd,k.pe.trans h.pe,k.fa.trans h.fa,k.pm.trans h.pm,λi hi=>(k.lw i hi).trans (h.lw i hi)⟩
theorem Ah.size {lo:Nat}{st st':SortSt}(h:Ah lo st st'):(arrOf st').size=(arrOf st).size:=h.pm.size_eq
def AllG (good:Keyed->Prop)(arr:Array Keyed):Prop:=∀x∈arr.toList,good x
theorem AllG.perm {good:Keyed->Prop}{a c:Array Keyed}(h:AllG good a)(p:c.Perm a):AllG good c:=λx hx=>h x (p.toList.mem_iff.mp hx)
theorem AllG.at {good:Keyed->Prop}{a:Array Keyed}(h:AllG good a){i:Nat}(hi:i<a.size):∃x,a[i]?=some x/\good x:=⟨a[i],by simp [hi],h _ (by simp)⟩
def Xi (b:Keyed->Keyed->Bool)(arr:Array Keyed)(lo hi:Nat):Prop:=∀i j x y,lo<=i->i<=j->j<hi->arr[i]?=some x->arr[j]?=some y->kle b y x
section
variable {M:Model}{A:Around}{E:Value->Shared->Prop}{s:Shared}{kd:SortKind}{b:Keyed->Keyed->Bool}{good:Keyed->Prop}
theorem JK {st:SortSt}{i j:Nat}{Q:Option Bool->SortSt->Prop}(L:J0 M A E s kd b good)(hs:kindOf st=kd)(G:AllG good (arrOf st))(hi:i<(arrOf st).size)(hj:j<(arrOf st).size)(q:∀x y,(arrOf st)[i]?=some x->(arrOf st)[j]?=some y->Q (some (b x y)) st):wpS M A E s (ltAt' i j) Q st:=by
 obtain ⟨x,hx,gx⟩:=G.at hi;obtain ⟨y,hy,gy⟩:=G.at hj;rw [ltAt'_eq];refine wpS_bind (wpS_get ?_);exact wpS_bind (Gr hx (wpS_bind (Gr hy (L x y st Q gx gy hs (q x y hx hy)))))
theorem Y1 (arr:Array Keyed)(W:WO b)(lo:Nat):Rng b arr lo (lo+1):=λi j x y h1 h2 h3 e1 e2=>by
 have:i=j:=by lia
 subst this;rw [e1] at e2;cases e2;exact W.le_refl _
theorem XQ {arr:Array Keyed}(W:WO b){lo n:Nat}{x y:Keyed}(h:Rng b arr lo (lo+n))(hn:0<n)(hx:arr[lo+n-1]?=some x)(hy:arr[lo+n]?=some y)(hxy:kle b x y):Rng b arr lo (lo+n+1):=λi j u v h1 h2 h3 e1 e2=>by
 by_cases hj:j<lo+n
 ·exact h i j u v h1 h2 hj e1 e2
 ·have:j=lo+n:=by lia
  subst this;rw [hy] at e2;cases e2;by_cases hi:i=lo+n
  ·subst hi;rw [hy] at e1;cases e1;exact W.le_refl _
  ·exact W.le_trans (h i (lo+n-1) u x h1 (by lia) (by lia) e1 hx) hxy
theorem Jk {arr:Array Keyed}(W:WO b){lo n:Nat}{x y:Keyed}(h:Xi b arr lo (lo+n))(hn:0<n)(hx:arr[lo+n-1]?=some x)(hy:arr[lo+n]?=some y)(hxy:kle b y x):Xi b arr lo (lo+n+1):=λi j u v h1 h2 h3 e1 e2=>by
 by_cases hj:j<lo+n
 ·exact h i j u v h1 h2 hj e1 e2
 ·have:j=lo+n:=by lia
  subst this;rw [hy] at e2;cases e2;by_cases hi:i=lo+n
  ·subst hi;rw [hy] at e1;cases e1;exact W.le_refl _
  ·exact W.le_trans hxy (h i (lo+n-1) u x h1 (by lia) (by lia) e1 hx)
theorem WK (W:WO b)(L:J0 M A E s kd b good){st:SortSt}{lo a qW:Nat}{Q:Asc->SortSt->Prop}(hs:kindOf st=kd)(G:AllG good (arrOf st))(hn:lo+qW<=(arrOf st).size)(h1:1<=a)(h2:a<=qW)(h3:Rng b (arrOf st) lo (lo+a))(q:∀n,a<=n->n<=qW->Rng b (arrOf st) lo (lo+n)->(n=qW\/∃x y,(arrOf st)[lo+n-1]?=some x/\(arrOf st)[lo+n]?=some y/\b y x=true)->Q (none,n) st):wpS M A E s (forIn [a:qW] ((none,a):Asc) (Y0 lo)) Q st:=by
 refine wpS_forRange (λk r st'=>st'=st/\r=(none,k)/\a<=k/\k<=qW/\Rng b (arrOf st) lo (lo+k)) ?_ ?_ ⟨rfl,rfl,Nat.le_refl _,h2,h3⟩
 ·rintro k r st' _ hk ⟨rfl,rfl,h4,h5,h6⟩;unfold Y0;refine wpS_bind (JK L hs G (by show lo+k<_;lia) (by show lo+k-1<_;lia) λy x hy hx=>?_);dsimp only;split
  ·rename_i hb;exact wpS_pure (q k h4 h5 h6 (.inr ⟨x,y,hx,hy,hb⟩))
  ·rename_i hb;exact wpS_pure ⟨rfl,rfl,by lia,by lia,XQ W h6 (by lia) hx hy (Bool.eq_false_iff.mpr hb)⟩
 ·rintro r st' ⟨rfl,rfl,h4,h5,h6⟩;rw [Nat.max_eq_right h2] at h6 ⊢;exact q qW h2 (Nat.le_refl _) h6 (.inl rfl)
def WL (b:Keyed->Keyed->Bool)(arr:Array Keyed)(lo hi:Nat):Prop:=∀i j x y,lo<=i->i<hi->lo<=j->j<hi->arr[i]?=some x->arr[j]?=some y->kle b x y
theorem JL {st:SortSt}{lo i j:Nat}(h:lo<=i)(hj:j<=(arrOf st).size):Ah lo st (setArr st (mirror (arrOf st) i j ((j-i) / 2))):=by
 refine ⟨rfl,rfl,rfl,mirror_perm _ _ _ _,λk hk=>?_⟩;show (mirror (arrOf st) i j ((j-i) / 2))[k]?=_;rw [getElem?_mirror_all hj,if_neg (by lia)]
theorem VU {arr:Array Keyed}{lo hi:Nat}(hj:hi<=arr.size)(h:Xi b arr lo hi):Rng b (mirror arr lo hi ((hi-lo) / 2)) lo hi:=λi j x y h1 h2 h3 e1 e2=>by
 rw [getElem?_mirror_all hj,if_pos (by lia)] at e1 e2;exact h (lo+hi-1-j) (lo+hi-1-i) y x (by lia) (by lia) (by lia) e2 e1
theorem JB {arr:Array Keyed}{lo hi i j:Nat}(hj:j<=arr.size)(h1:lo<=i)(h2:i<=j)(h3:j<=hi)(hA:WL b arr i j)(h:Xi b arr lo hi):Xi b (mirror arr i j ((j-i) / 2)) lo hi:=λp q x y k1 k2 k3 e1 e2=>by
 rw [getElem?_mirror_all hj] at e1 e2;by_cases hp:i<=p/\p<j
 ·rw [if_pos hp] at e1;by_cases hq:i<=q/\q<j
  ·rw [if_pos hq] at e2;exact hA (i+j-1-q) (i+j-1-p) y x (by lia) (by lia) (by lia) (by lia) e2 e1
  ·rw [if_neg hq] at e2;exact h _ q x y (by lia) (by lia) k3 e1 e2
 ·rw [if_neg hp] at e1;by_cases hq:i<=q/\q<j
  ·rw [if_pos hq] at e2;exact h p _ x y k1 (by lia) (by lia) e1 e2
  ·rw [if_neg hq] at e2;exact h p q x y k1 k2 k3 e1 e2
def ZaH (b:Keyed->Keyed->Bool)(lo qW:Nat)(st:SortSt)(Q:Option Nat->SortSt->Prop):Prop:=∀m st',Ah lo st st'->1<=m->m<=qW->Rng b (arrOf st') lo (lo+m)->Q (some m) st'
theorem Uz (W:WO b)(L:J0 M A E s kd b good){st:SortSt}{lo n qW:Nat}{Q:Option Nat->SortSt->Prop}(hs:kindOf st=kd)(G:AllG good (arrOf st))(hn:lo+qW<=(arrOf st).size)(h1:1<=n)(h2:n<=qW)(h3:Xi b (arrOf st) lo (lo+n))(q:ZaH b lo qW st Q):wpS M A E s (Uy lo n qW) Q st:=by
 unfold Uy;rw [reverseSlice'_eq];refine wpS_bind (wpS_modify ?_);have ah:=JL (st:=st) (lo:=lo) (i:=lo) (j:=lo+n) (Nat.le_refl _) (by lia);have r:=VU (arr:=arrOf st) (lo:=lo) (hi:=lo+n) (by lia) h3;generalize hst:setArr st (mirror (arrOf st) lo (lo+n) ((lo+n-lo) / 2))=st1 at ah;have e1:arrOf st1=mirror (arrOf st) lo (lo+n) ((lo+n-lo) / 2):=by rw [<-hst]
 rw [<-e1] at r;refine wpS_bind (WK W L (ah.kd.trans hs) (G.perm ah.pm) (by rw [ah.size];exact hn) h1 h2 r λm k1 k2 k3 _=>?_);dsimp only;exact wpS_pure (q m st1 ah (by lia) k2 k3)
theorem UA (W:WO b)(L:J0 M A E s kd b good){st:SortSt}{lo n qW:Nat}{Q:Option Nat->SortSt->Prop}(hs:kindOf st=kd)(G:AllG good (arrOf st))(hn:lo+qW<=(arrOf st).size)(h2:n+1<=qW)(h3:Xi b (arrOf st) lo (lo+(n+1)))(q:ZaH b lo qW st Q):wpS M A E s (VT lo n qW) Q st:=by
 unfold VT;refine wpS_bind (wpS_lift (wpAny_rule ⟨rfl,?_⟩));have fin:∀m neq st1,Ah lo st st1->n+1<=m->m<=qW->Xi b (arrOf st1) lo (lo+m)->neq+1<=m->WL b (arrOf st1) (lo+m-(neq+1)) (lo+m) ->
   wpS M A E s (if neq > 0 then (do reverseSlice' (lo+m-(neq+1)) (lo+m);Uy lo m qW) else Uy lo m qW) Q st1:=by
  intro m neq st1 ah k1 k2 k3 k4 k5;have G1:=G.perm ah.pm;have hn1:lo+qW<=(arrOf st1).size:=by rw [ah.size];exact hn
  split
  ·rw [reverseSlice'_eq];refine wpS_bind (wpS_modify ?_);have ah2:=JL (st:=st1) (lo:=lo) (i:=lo+m-(neq+1)) (j:=lo+m) (by lia) (by lia);have r:=JB (arr:=arrOf st1) (lo:=lo) (hi:=lo+m) (i:=lo+m-(neq+1)) (j:=lo+m) (by lia) (by lia) (by lia) (Nat.le_refl _) k5 k3;generalize hst:setArr st1 (mirror (arrOf st1) (lo+m-(neq+1)) (lo+m) ((lo+m-(lo+m-(neq+1))) / 2))=st2 at ah2;have e1:arrOf st2=mirror (arrOf st1) (lo+m-(neq+1)) (lo+m) ((lo+m-(lo+m-(neq+1))) / 2):=by rw [<-hst]
   rw [<-e1] at r;have ah3:=ah.trans ah2;exact Uz W L (ah3.kd.trans hs) (G.perm ah3.pm) (by rw [ah3.size];exact hn) (by lia) k2 r λm' st' a'=>q m' st' (ah3.trans a')
  ·exact Uz W L (ah.kd.trans hs) G1 hn1 (by lia) k2 k3 λm' st' a'=>q m' st' (ah.trans a')
 have al0:∀(arr:Array Keyed) m,WL b arr (lo+m-(0+1)) (lo+m):=λarr m i j x y i1 i2 i3 i4 e1 e2=>by
  have:i=j:=by lia
  subst this;rw [e1] at e2;cases e2;exact W.le_refl _
 refine wpS_bind (wpS_forRange (λk r st1=>Ah lo st st1/\∃neq,r=(none,k,neq)/\n+1<=k/\k<=qW/\Xi b (arrOf st1) lo (lo+k)/\neq+1<=k/\WL b (arrOf st1) (lo+k-(neq+1)) (lo+k)) ?_ ?_ ⟨Ah.refl _ _,0,rfl,Nat.le_refl _,h2,h3,by lia,al0 _ _⟩)
 ·rintro k r st1 _ hk ⟨ah,neq,rfl,k1,k2,k3,k4,k5⟩;have G1:=G.perm ah.pm;have hn1:lo+qW<=(arrOf st1).size:=by rw [ah.size];exact hn
  have hs1:=ah.kd.trans hs;unfold Zah;refine wpS_bind (JK L hs1 G1 (by show lo+k<_;lia) (by show lo+k-1<_;lia) λy x hy hx=>?_);dsimp only;split
  ·rename_i hb;have hyx:=W.le_of_lt hb;split
   ·rw [reverseSlice'_eq];refine wpS_bind (wpS_modify ?_);have ah2:=JL (st:=st1) (lo:=lo) (i:=lo+k-(neq+1)) (j:=lo+k) (by lia) (by lia);have r:=JB (arr:=arrOf st1) (lo:=lo) (hi:=lo+k) (i:=lo+k-(neq+1)) (j:=lo+k) (by lia) (by lia) (by lia) (Nat.le_refl _) k5 k3;have e3:(mirror (arrOf st1) (lo+k-(neq+1)) (lo+k) ((lo+k-(lo+k-(neq+1))) / 2))[lo+k]?=some y:=by rw [getElem?_mirror_all (by lia),if_neg (by lia)];exact hy
    have e4:∃z,(mirror (arrOf st1) (lo+k-(neq+1)) (lo+k) ((lo+k-(lo+k-(neq+1))) / 2))[lo+k-1]?=some z/\kle b y z:=by
     obtain ⟨z,hz,_⟩:=G1.at (i:=lo+k-(neq+1)) (by lia);refine ⟨z,?_,W.le_trans hyx (k3 (lo+k-(neq+1)) (lo+k-1) z x (by lia) (by lia) (by lia) hz hx)⟩;rw [getElem?_mirror_all (by lia),if_pos (by lia),<-hz]
     congr 1
     lia
    generalize hst:setArr st1 (mirror (arrOf st1) (lo+k-(neq+1)) (lo+k) ((lo+k-(lo+k-(neq+1))) / 2))=st2 at ah2;have e1:arrOf st2=mirror (arrOf st1) (lo+k-(neq+1)) (lo+k) ((lo+k-(lo+k-(neq+1))) / 2):=by rw [<-hst]
    rw [<-e1] at r e3 e4;obtain ⟨z,hz,hyz⟩:=e4;exact wpS_pure ⟨ah.trans ah2,0,rfl,by lia,by lia,Jk W r (by lia) hz e3 hyz,by lia,al0 _ _⟩
   ·exact wpS_pure ⟨ah,0,rfl,by lia,by lia,Jk W k3 (by lia) hx hy hyx,by lia,al0 _ _⟩
  ·rename_i hb;have hxy:kle b x y:=Bool.eq_false_iff.mpr hb;refine wpS_bind (JK L hs1 G1 (by show lo+k-1<_;lia) (by show lo+k<_;lia) λx' y' hx' hy'=>?_);rw [hx] at hx';cases hx';rw [hy] at hy';cases hy';dsimp only;split
   ·refine wpS_pure ?_;dsimp only;exact fin k neq st1 ah k1 k2 k3 k4 k5
   ·rename_i hb2;have hyx:kle b y x:=Bool.eq_false_iff.mpr hb2;refine wpS_pure ⟨ah,neq+1,rfl,by lia,by lia,Jk W k3 (by lia) hx hy hyx,by lia,λi j u v i1 i2 i3 i4 e1 e2=>?_⟩;have toX:∀i u,lo+k-(neq+1)<=i->i<lo+(k+1)->(arrOf st1)[i]?=some u->kle b u x/\kle b x u:=λi u p1 p2 e=>by
     by_cases hi:i<lo+k
     ·exact ⟨k5 i (lo+k-1) u x p1 hi (by lia) (by lia) e hx,k5 (lo+k-1) i x u (by lia) (by lia) p1 hi hx e⟩
     ·have:i=lo+k:=by lia
      subst this;rw [hy] at e;cases e;exact ⟨hyx,hxy⟩
    exact W.le_trans (toX i u (by lia) i2 e1).1 (toX j v (by lia) i4 e2).2
 ·rintro r st1 ⟨ah,neq,rfl,k1,k2,k3,k4,k5⟩;dsimp only;rw [Nat.max_eq_right h2] at *;exact fin qW neq st1 ah k1 k2 k3 k4 k5
theorem O0 (W:WO b)(L:J0 M A E s kd b good){st:SortSt}{lo qW:Nat}{Q:Option Nat->SortSt->Prop}(hs:kindOf st=kd)(G:AllG good (arrOf st))(hn:lo+qW<=(arrOf st).size)(h1:1<=qW)(q:ZaH b lo qW st Q):wpS M A E s (countRun' lo qW) Q st:=by
 rw [U3];refine wpS_bind (WK W L hs G hn (Nat.le_refl _) h1 (Y1 _ W _) λn k1 k2 k3 k4=>?_);dsimp only;split
 ·exact wpS_pure (q n st (Ah.refl _ _) k1 k2 k3)
 ·rename_i e;have e:n≠qW:=λz=>e (beq_iff_eq.mpr z);obtain ⟨x,y,hx,hy,hb⟩:=k4.resolve_left e;have hyx:=W.le_of_lt hb;split
  ·rename_i e1;refine wpS_bind (JK L hs G (by lia) (by lia) λu v hu hv=>?_);rw [hx] at hv;cases hv;dsimp only;split
   ·exact wpS_pure (q n st (Ah.refl _ _) k1 k2 k3)
   ·rename_i hb2;have hxu:kle b x u:=Bool.eq_false_iff.mpr hb2;have al:WL b (arrOf st) lo (lo+n):=λi j p r i1 i2 i3 i4 e1 e2=>
     W.le_trans (k3 i (lo+n-1) p x i1 (by lia) (by lia) e1 hx) (W.le_trans hxu (k3 lo j u r (Nat.le_refl _) i3 i4 hu e2))
    have ni:Xi b (arrOf st) lo (lo+n):=λi j p r i1 i2 i3 e1 e2=>al j i r p (by lia) i3 i1 (by lia) e2 e1;rw [reverseSlice'_eq];refine wpS_bind (wpS_modify ?_);have ah:=JL (st:=st) (lo:=lo) (i:=lo) (j:=lo+n) (Nat.le_refl _) (by lia);have r:=JB (arr:=arrOf st) (lo:=lo) (hi:=lo+n) (i:=lo) (j:=lo+n) (by lia) (Nat.le_refl _) (by lia) (Nat.le_refl _) al ni;have e3:(mirror (arrOf st) lo (lo+n) ((lo+n-lo) / 2))[lo+n]?=some y:=by rw [getElem?_mirror_all (by lia),if_neg (by lia)];exact hy
    have e4:(mirror (arrOf st) lo (lo+n) ((lo+n-lo) / 2))[lo+n-1]?=some u:=by
     rw [getElem?_mirror_all (by lia),if_pos (by lia),<-hu]
     congr 1
     lia
    generalize hst:setArr st (mirror (arrOf st) lo (lo+n) ((lo+n-lo) / 2))=st2 at ah;have e1:arrOf st2=mirror (arrOf st) lo (lo+n) ((lo+n-lo) / 2):=by rw [<-hst]
    rw [<-e1] at r e3 e4;exact UA W L (ah.kd.trans hs) (G.perm ah.pm) (by rw [ah.size];exact hn) (by lia) (Jk W r (by lia) e4 e3 (W.le_trans hyx hxu)) λm' st' a'=>q m' st' (ah.trans a')
  ·have:n=1:=by lia
   subst this;refine UA W L hs G hn (by lia) (Jk W (λi j p r i1 i2 i3 e1 e2=>?_) (by lia) hx hy hyx) q;have:i=j:=by lia
   subst this;rw [e1] at e2;cases e2;exact W.le_refl _
end
end L2
namespace L2
open PySem PySem.Spec PyProof.Rows
section
variable {M:Model}{A:Around}{E:Value->Shared->Prop}{s:Shared}{kd:SortKind}{b:Keyed->Keyed->Bool}{good:Keyed->Prop}
theorem VV (W:WO b){arr:Array Keyed}{lo k l:Nat}{p:Keyed}(hk:lo+k<arr.size)(hl:l<=k)(h:Rng b arr lo (lo+k))(hp:arr[lo+k]?=some p)(h1:∀i x,i<l->arr[lo+i]?=some x->kle b x p)(h2:∀i x,l<=i->i<k->arr[lo+i]?=some x->kle b p x) :
  Rng b (bubble arr (lo+k) (lo+k-(lo+l))) lo (lo+(k+1)):=by
 have e0:lo+k-(lo+k-(lo+l))=lo+l:=by lia
 have at_:∀q,(bubble arr (lo+k) (lo+k-(lo+l)))[q]?=if q=lo+l then some p else if lo+l<q/\q<=lo+k then arr[q-1]? else arr[q]?:=λq=>by
  rw [getElem?_bubble hk _ (by lia),e0,hp]
 intro i j x y i1 i2 i3 e1 e2;rw [at_] at e1 e2;have low:∀q z,lo<=q->q<lo+l->arr[q]?=some z->kle b z p:=λq z q1 q2 e=>h1 (q-lo) z (by lia) (by rw [Nat.add_sub_cancel' q1];exact e);have high:∀q z,lo+l<=q->q<lo+k->arr[q]?=some z->kle b p z:=λq z q1 q2 e=>h2 (q-lo) z (by lia) (by lia) (by rw [Nat.add_sub_cancel' (by lia)];exact e);by_cases ci:i=lo+l
 ·rw [if_pos ci] at e1;cases e1;by_cases cj:j=lo+l
  ·rw [if_pos cj] at e2;cases e2;exact W.le_refl _
  ·rw [if_neg cj,if_pos (by lia)] at e2;exact high (j-1) y (by lia) (by lia) e2
 ·rw [if_neg ci] at e1;by_cases di:lo+l<i/\i<=lo+k
  ·rw [if_pos di] at e1;rw [if_neg (by lia),if_pos (by lia)] at e2;exact h (i-1) (j-1) x y (by lia) (by lia) (by lia) e1 e2
  ·rw [if_neg di] at e1;by_cases cj:j=lo+l
   ·rw [if_pos cj] at e2;cases e2;exact low i x i1 (by lia) e1
   ·rw [if_neg cj] at e2;by_cases dj:lo+l<j/\j<=lo+k
    ·rw [if_pos dj] at e2;exact h i (j-1) x y i1 (by lia) (by lia) e1 e2
    ·rw [if_neg dj] at e2;exact h i j x y i1 i2 (by lia) e1 e2
theorem WM {st:SortSt}{lo src d:Nat}(h1:src<(arrOf st).size)(h2:d<=src)(h3:lo<=src-d):Ah lo st (setArr st (bubble (arrOf st) src d)):=by
 refine ⟨rfl,rfl,rfl,bubble_perm _ _ _,λk hk=>?_⟩;show (bubble (arrOf st) src d)[k]?=_;rw [getElem?_bubble h1 _ h2,if_neg (by lia),if_neg (by lia)]
theorem VW (W:WO b)(L:J0 M A E s kd b good){st:SortSt}{lo n ok:Nat}{Q:Bool->SortSt->Prop}(hs:kindOf st=kd)(G:AllG good (arrOf st))(hn:lo+n<=(arrOf st).size)(h1:1<=ok)(h2:ok<=n)(h3:Rng b (arrOf st) lo (lo+ok))(q:∀st',Ah lo st st'->Rng b (arrOf st') lo (lo+n)->Q true st'):wpS M A E s (binarySort' lo n ok) Q st:=by
 rw [binarySort'_eq,Nat.max_eq_left h1];refine wpS_bind (wpS_forRange (λk r st1=>Ah lo st st1/\r=(none,())/\ok<=k/\k<=n/\Rng b (arrOf st1) lo (lo+k)) ?_ ?_ ⟨Ah.refl _ _,rfl,Nat.le_refl _,h2,h3⟩)
 ·rintro k r st1 _ hk ⟨ah,rfl,k1,k2,k3⟩;have G1:=G.perm ah.pm;have hn1:lo+n<=(arrOf st1).size:=by rw [ah.size];exact hn
  have hs1:=ah.kd.trans hs;obtain ⟨p,hp,gp⟩:=G1.at (i:=lo+k) (by lia);have fin:∀l,l<=k->(∀i x,i<l->(arrOf st1)[lo+i]?=some x->kle b x p)->(∀i x,l<=i->i<k->(arrOf st1)[lo+i]?=some x->kle b p x) ->
    wpS M A E s (do moveDown' (lo+k) (lo+l);pure (ForInStep.yield ((none,()):Option Bool×Unit))) (λr st'=>match r with
     | .done c'=>False
     | .yield c'=>Ah lo st st'/\c'=(none,())/\ok<=k+1/\k+1<=n/\Rng b (arrOf st') lo (lo+(k+1))) st1:=by
   intro l hl g1 g2;rw [moveDown'_eq];refine wpS_bind (wpS_modify ?_);have ah2:=WM (st:=st1) (lo:=lo) (src:=lo+k) (d:=lo+k-(lo+l)) (by lia) (by lia) (by lia);exact wpS_pure ⟨ah.trans ah2,rfl,by lia,by lia,VV W (by lia) hl k3 hp g1 g2⟩
  dsimp only;refine wpS_bind (wpS_forRange (λi c st'=>st'=st1/\∃l r,c=(none,l,r)/\l<=r/\r<=k/\r-l<=k-i/\(∀i x,i<l->(arrOf st1)[lo+i]?=some x->kle b x p)/\(∀i x,r<=i->i<k->(arrOf st1)[lo+i]?=some x->kle b p x)) ?_ ?_ ⟨rfl,0,k,rfl,by lia,by lia,by lia,λi x hi=>by lia,λi x h1 h2=>by lia⟩)
  ·rintro i c st' _ hi ⟨rfl,l,r,rfl,g1,g2,g3,g4,g5⟩;dsimp only;split
   ·have:l=r:=by lia
    subst this;refine wpS_pure ?_;dsimp only;exact wpS_mono (fin l g2 g4 g5) λr st' hr=>by
     cases r with
     | done z=>exact False.elim hr
     | yield z=>exact hr
   ·refine wpS_bind (JK L hs1 G1 (by lia) (by lia) λp' m hp' hm=>?_);rw [hp] at hp';cases hp';dsimp only;split
    ·rename_i hb;refine wpS_pure ⟨rfl,_,_,rfl,by lia,by lia,by lia,g4,λj x j1 j2 e=>?_⟩;exact W.le_trans (W.le_of_lt hb) (k3 _ (lo+j) m x (by lia) (by lia) (by lia) hm e)
    ·rename_i hb;refine wpS_pure ⟨rfl,_,_,rfl,by lia,by lia,by lia,λj x j1 e=>?_,g5⟩;exact W.le_trans (k3 (lo+j) _ x m (by lia) (by lia) (by lia) e hm) (Bool.eq_false_iff.mpr hb)
  ·rintro c st' ⟨rfl,l,r,rfl,g1,g2,g3,g4,g5⟩;have:l=r:=by simp at g3;lia
   subst this;dsimp only;exact wpS_mono (fin l g2 g4 g5) λr st' hr=>by
     cases r with
     | done z=>exact False.elim hr
     | yield z=>exact hr
 ·rintro r st1 ⟨ah,rfl,k1,k2,k3⟩;dsimp only;rw [Nat.max_eq_right h2] at k3;exact wpS_pure (q st1 ah k3)
end
end L2
namespace L2
open PySem PySem.Spec PyProof.Rows
def JM (arr:Array Keyed)(base:Nat)(l:List Keyed):Array Keyed:=List.foldl (λa (x:Keyed×Nat)=>a.setIfInBounds (base+x.2) x.1) arr l.zipIdx
def XR (sa:Nat)(merged:Array Keyed):StateT SortSt Sem Bool:=do
 modify λs=>setArr s (JM (arrOf s) sa merged.toList)
 let s <- get
 pure (failedOf s).isNone
def ZW (st:SortSt)(sa na sb nb:Nat):StateT SortSt Sem Bool:=(if (nb == 0)=true then pure true else (if na<=nb then (do
  let m <- OU ((arrOf st).extract sa sb) ((arrOf st).extract sb (sb+nb))
  XR sa m) else (do
  let m <- OV ((arrOf st).extract sa sb) ((arrOf st).extract sb (sb+nb))
  XR sa m)))
def ZX (st:SortSt)(sa na sb nb:Nat):StateT SortSt Sem Bool:=(if (na == 0)=true then pure true else (do
  let y <- elem' (arrOf st) (sa+na-1)
  match <- Jj true y (arrOf st) sb nb (nb-1) with
  | some nb=>ZW st sa na sb nb
  | _=>pure false))
theorem U4 (i:Nat):mergeAt' i=(do
  let st <- get
  match (pendingOf st)[i]?,(pendingOf st)[i+1]? with
  | some (sa,na,power),some (sb,nb,_)=>do
   set (setPending st (((pendingOf st).setIfInBounds i (sa,na+nb,power)).eraseIdxIfInBounds (i+1)))
   let x <- elem' (arrOf st) sb
   match <- Jj false x (arrOf st) sa na 0 with
   | some k=>ZX st (sa+k) (na-k) sb nb
   | _=>pure false
  | _,_=>liftM (unsupported "internal:list.sort.pending")):=by
 refine GO (m:=get) λst=>?_;cases (pendingOf st)[i]? with
 | none=>rfl
 | some p=>
  cases (pendingOf st)[i+1]? with
  | none=>rfl
  | some q=>
   obtain ⟨sa,na,pw⟩:=p;obtain ⟨sb,nb,pw'⟩:=q
   rfl
end L2
namespace L2
open PySem PySem.Spec PyProof.Rows
theorem Yn:∀(l:List Keyed)(arr:Array Keyed)(base n i:Nat),base+n+l.length<=arr.size ->
  (List.foldl (λa (x:Keyed×Nat)=>a.setIfInBounds (base+x.2) x.1) arr (l.zipIdx n))[i]?=if base+n<=i/\i<base+n+l.length then l[i-(base+n)]? else arr[i]?
 | [],arr,base,n,i,_=>by
  rw [if_neg (by simp)]
  rfl
 | x::l,arr,base,n,i,h=>by
  rw [List.zipIdx_cons,List.foldl_cons];rw [List.length_cons] at h;have ih:=Yn l (arr.setIfInBounds (base+n) x) base (n+1) i (by rw [Array.size_setIfInBounds];lia);refine ih.trans ?_;rw [List.length_cons];by_cases h1:base+(n+1)<=i/\i<base+(n+1)+l.length
  ·rw [if_pos h1,if_pos (by lia)];rw [show i-(base+n)=(i-(base+(n+1)))+1 by lia,List.getElem?_cons_succ]
  ·rw [if_neg h1,Array.getElem?_setIfInBounds];by_cases h2:base+n=i
   ·subst h2;rw [if_pos rfl,if_pos (by lia),if_pos (by lia),Nat.sub_self]
    rfl
   ·rw [if_neg h2,if_neg (by lia)]
theorem Yo {arr:Array Keyed}{base:Nat}{l:List Keyed}(h:base+l.length<=arr.size)(i:Nat):(JM arr base l)[i]?=if base<=i/\i<base+l.length then l[i-base]? else arr[i]?:=Yn l arr base 0 i h
theorem XS {arr:Array Keyed}{base:Nat}{l:List Keyed}(h:base+l.length<=arr.size)(p:l.Perm ((arr.toList.drop base).take l.length)):(JM arr base l).Perm arr:=by
 have e:(JM arr base l).toList=arr.toList.take base++l++arr.toList.drop (base+l.length):=by
  refine List.ext_getElem? λi=>?_;have hl:arr.toList.length=arr.size:=Array.length_toList;rw [Array.getElem?_toList,Yo h];rw [List.append_assoc,List.getElem?_append,List.length_take,hl,Nat.min_eq_left (by lia)];by_cases h1:i<base
  ·rw [if_neg (by lia),if_pos h1,List.getElem?_take,if_pos h1,Array.getElem?_toList]
  ·rw [if_neg h1,List.getElem?_append];by_cases h2:i<base+l.length
   ·rw [if_pos (by lia),if_pos (by lia)]
   ·rw [if_neg (by lia),if_neg (by lia),List.getElem?_drop,Array.getElem?_toList]
    congr 1
    lia
 have e2:arr.toList=arr.toList.take base++(arr.toList.drop base).take l.length++arr.toList.drop (base+l.length):=by
  rw [List.append_assoc,<-List.drop_drop,List.take_append_drop,List.take_append_drop]
 rw [Array.perm_iff_toList_perm,e];exact ((List.Perm.append_left _ p).append_right _).trans (.of_eq e2.symm)
section
variable {M:Model}{A:Around}{E:Value->Shared->Prop}{s:Shared}{kd:SortKind}{b:Keyed->Keyed->Bool}{good:Keyed->Prop}
theorem J8 {arr:Array Keyed}{lo mid hi:Nat}(h1:Rng b arr lo mid)(h2:Rng b arr mid hi)(h3:∀i j x y,lo<=i->i<mid->mid<=j->j<hi->arr[i]?=some x->arr[j]?=some y->kle b x y):Rng b arr lo hi:=λi j x y i1 i2 i3 e1 e2=>by
 by_cases c1:j<mid
 ·exact h1 i j x y i1 i2 c1 e1 e2
 ·by_cases c2:i<mid
  ·exact h3 i j x y i1 c2 (by lia) i3 e1 e2
  ·exact h2 i j x y (by lia) i2 i3 e1 e2
theorem Yp {arr:Array Keyed}{lo hi:Nat}(hh:hi<=arr.size)(h:Rng b arr lo hi):(arr.extract lo hi).toList.Pairwise (kle b):=by
 rw [List.pairwise_iff_getElem];intro i j hi' hj' hij;have sz:(arr.extract lo hi).toList.length=hi-lo:=by rw [Array.length_toList,Array.size_extract,Nat.min_eq_left hh]
 refine h (lo+i) (lo+j) _ _ (by lia) (by lia) (by lia) ?_ ?_
 ·simp [Array.getElem_extract]
 ·simp [Array.getElem_extract]
end
end L2
namespace L2
open PySem PySem.Spec PyProof.Rows
section
variable {M:Model}{A:Around}{E:Value->Shared->Prop}{s:Shared}{kd:SortKind}{b:Keyed->Keyed->Bool}{good:Keyed->Prop}
def MgQ (b:Keyed->Keyed->Bool)(st:SortSt)(lo hi:Nat)(Q:Bool->SortSt->Prop):Prop:=∀st',kindOf st'=kindOf st->pendingOf st'=pendingOf st->failedOf st'=failedOf st->(arrOf st').Perm (arrOf st) ->
 (∀i,i<lo\/hi<=i->(arrOf st')[i]?=(arrOf st)[i]?)->Rng b (arrOf st') lo hi->Q true st'
structure GalF (b:Keyed->Keyed->Bool)(arr:Array Keyed)(sa k sb nb hi:Nat):Prop where
 k0:sa<=k
 k1:k<sb
 n0:0<nb
 n1:sb+nb<=hi
 ra:Rng b arr sa sb
 rb:Rng b arr sb hi
 lowA:∀i x y,sa<=i->i<k->arr[i]?=some x->arr[sb]?=some y->kle b x y
 highA:∀i x y,k<=i->i<sb->arr[i]?=some x->arr[sb]?=some y->kle b y x
 lowB:∀i x y,sb<=i->i<sb+nb->arr[i]?=some x->arr[sb-1]?=some y->kle b x y
 highB:∀i x y,sb+nb<=i->i<hi->arr[i]?=some x->arr[sb-1]?=some y->kle b y x
theorem GalF.two {arr:Array Keyed}{sa k sb nb hi:Nat}(F:GalF b arr sa k sb nb hi)(hh:hi<=arr.size)(G:AllG good arr):Two b good (arr.extract k sb) (arr.extract sb (sb+nb)):=by
 have h0:=F.k0;have h1:=F.k1;have h2:=F.n0;have h3:=F.n1;have memG:∀{i j x},x∈(arr.extract i j).toList->good x:=λ{i j x} hx=>by
  obtain ⟨q,_,_,e⟩:=U1 hx;rw [<-Array.getElem?_toList] at e;exact G x (List.mem_of_getElem? e)
 refine ⟨λx=>memG,λx=>memG,Yp (by lia) λi j x y i1 i2 i3=>F.ra i j x y (by lia) i2 i3,Yp (by lia) λi j x y i1 i2 i3=>F.rb i j x y i1 i2 (by lia),by rw [Array.size_extract];lia,by rw [Array.size_extract];lia,λx hx y hy=>?_,λz hz y hy=>?_⟩
 ·have hx:arr[sb]?=some x:=by
   rw [Array.getElem?_extract,if_pos (by lia)] at hx;exact hx
  obtain ⟨q,q1,q2,e⟩:=U1 hy;exact F.highA q y x q1 q2 e hx
 ·have hz:arr[sb-1]?=some z:=by
   rw [Array.size_extract,Array.getElem?_extract,if_pos (by lia)] at hz;rw [<-hz]
   congr 1
   lia
  obtain ⟨q,q1,q2,e⟩:=U1 hy;exact F.lowB q y z q1 (by lia) e hz
theorem GalF.fin (W:WO b){st:SortSt}{sa k sb nb hi:Nat}{Q:Bool->SortSt->Prop}(F:GalF b (arrOf st) sa k sb nb hi)(hh:hi<=(arrOf st).size)(q:MgQ b st sa hi Q)(hf:failedOf st=none){m:Array Keyed}{st1:SortSt}(sg:SameG st st1)(hm:GR b (((arrOf st).extract k sb).toList++((arrOf st).extract sb (sb+nb)).toList) m.toList):wpS M A E s (XR k m) Q st1:=by
 have h0:=F.k0;have h1:=F.k1;have h2:=F.n0;have h3:=F.n1;unfold XR;refine wpS_bind (wpS_modify (wpS_bind (wpS_get (wpS_pure ?_))));show Q (failedOf st1).isNone _;rw [sg.2.2.2,hf];have hl:m.toList.length=sb+nb-k:=by
  have:=hm.1.length_eq;rw [List.length_append,Array.length_toList,Array.length_toList,Array.length_toList,Array.size_extract,Array.size_extract] at this;rw [Array.length_toList]
  lia
 have hb:k+m.toList.length<=(arrOf st).size:=by lia
 have e1:((arrOf st).toList.drop k).take m.toList.length=((arrOf st).extract k sb).toList++((arrOf st).extract sb (sb+nb)).toList:=by
  have x1:((arrOf st).extract k (sb+nb)).toList=((arrOf st).toList.drop k).take m.toList.length:=by
   rw [hl,Array.toList_extract,List.extract_eq_take_drop]
  rw [<-x1,<-Array.toList_append,Array.extract_append_extract]
  congr 2 <;> lia
 have at_:=Yo (arr:=arrOf st) (base:=k) (l:=m.toList) hb;have mem:∀i x,k<=i->i<sb+nb->(JM (arrOf st) k m.toList)[i]?=some x->(∃j,k<=j/\j<sb/\(arrOf st)[j]?=some x)\/(∃j,sb<=j/\j<sb+nb/\(arrOf st)[j]?=some x):=λi x i1 i2 e=>by
  rw [at_,if_pos (by lia)] at e;have hx:=hm.1.mem_iff.mp (List.mem_of_getElem? e);rcases List.mem_append.mp hx with hx | hx
  ·exact .inl (U1 hx)
  ·exact .inr (U1 hx)
 obtain ⟨b0,hb0⟩:∃x,(arrOf st)[sb]?=some x:=⟨_,Array.getElem?_eq_getElem (by lia)⟩;obtain ⟨aL,haL⟩:∃x,(arrOf st)[sb-1]?=some x:=⟨_,Array.getElem?_eq_getElem (by lia)⟩;refine q _ sg.1 sg.2.2.1 ?_ ?_ (λi hi'=>?_) ?_
 ·show failedOf st1=failedOf st;exact sg.2.2.2
 ·show (JM (arrOf st1) k m.toList).Perm (arrOf st);rw [sg.2.1];exact XS hb (hm.1.trans (.of_eq e1.symm))
 ·show (JM (arrOf st1) k m.toList)[i]?=_;rw [sg.2.1,at_,if_neg (by lia)]
 ·show Rng b (JM (arrOf st1) k m.toList) sa hi;rw [sg.2.1];have old:∀i,i<k\/sb+nb<=i->(JM (arrOf st) k m.toList)[i]?=(arrOf st)[i]?:=λi hi'=>by rw [at_,if_neg (by lia)]
  refine J8 (mid:=k) (λi j x y i1 i2 i3 e1 e2=>?_) (J8 (mid:=sb+nb) (λi j x y i1 i2 i3 e1 e2=>?_) (λi j x y i1 i2 i3 e1 e2=>?_) (λi j x y i1 i2 i3 i4 e1 e2=>?_)) (λi j x y i1 i2 i3 i4 e1 e2=>?_)
  ·rw [old i (by lia)] at e1;rw [old j (by lia)] at e2;exact F.ra i j x y i1 i2 (by lia) e1 e2
  ·rw [at_,if_pos (by lia)] at e1 e2;exact XH W hm.2 (by lia) e1 e2
  ·rw [old i (by lia)] at e1;rw [old j (by lia)] at e2;exact F.rb i j x y (by lia) i2 i3 e1 e2
  ·rw [old j (by lia)] at e2;rcases mem i x i1 i2 e1 with ⟨p,p1,p2,e⟩ | ⟨p,p1,p2,e⟩
   ·exact W.le_trans (F.ra p (sb-1) x aL (by lia) (by lia) (by lia) e haL) (F.highB j y aL i3 i4 e2 haL)
   ·exact F.rb p j x y p1 (by lia) i4 e e2
  ·rw [old i (by lia)] at e1;have xb:=F.lowA i x b0 i1 i2 e1 hb0;by_cases cj:j<sb+nb
   ·rcases mem j y i3 cj e2 with ⟨p,p1,p2,e⟩ | ⟨p,p1,p2,e⟩
    ·exact F.ra i p x y i1 (by lia) p2 e1 e
    ·exact W.le_trans xb (F.rb sb p b0 y (Nat.le_refl _) p1 (by lia) hb0 e)
   ·rw [old j (by lia)] at e2;exact W.le_trans xb (F.rb sb j b0 y (Nat.le_refl _) (by lia) i4 hb0 e2)
theorem U5 (W:WO b)(L:J0 M A E s kd b good){st:SortSt}{i sa na sb nb pw pw':Nat}{Q:Bool->SortSt->Prop}(hs:kindOf st=kd)(hf:failedOf st=none)(G:AllG good (arrOf st))(p1:(pendingOf st)[i]?=some (sa,na,pw))(p2:(pendingOf st)[i+1]?=some (sb,nb,pw'))(e:sb=sa+na)(hna:0<na)(hnb:0<nb)(hh:sb+nb<=(arrOf st).size)(ra:Rng b (arrOf st) sa sb)(rb:Rng b (arrOf st) sb (sb+nb))(q:MgQ b (setPending st (((pendingOf st).setIfInBounds i (sa,na+nb,pw)).eraseIdxIfInBounds (i+1))) sa (sb+nb) Q):wpS M A E s (mergeAt' i) Q st:=by
 subst e;rw [U4];refine wpS_bind (wpS_get ?_);rw [p1,p2];dsimp only;refine wpS_bind ?_;show wpS M A E s (set _) _ st;refine (show wpS M A E s (modify λ_=>setPending st (((pendingOf st).setIfInBounds i (sa,na+nb,pw)).eraseIdxIfInBounds (i+1))) _ st from wpS_modify ?_);generalize hst:setPending st (((pendingOf st).setIfInBounds i (sa,na+nb,pw)).eraseIdxIfInBounds (i+1))=st1 at q;have ea:arrOf st1=arrOf st:=by rw [<-hst]
 have ek:kindOf st1=kd:=by rw [<-hst];exact hs
 have ef:failedOf st1=none:=by rw [<-hst];exact hf
 rw [<-ea] at G hh ra rb ⊢;obtain ⟨b0,hb0,gb0⟩:=G.at (i:=sa+na) (by lia);obtain ⟨aL,haL,gaL⟩:=G.at (i:=sa+na-1) (by lia);refine wpS_bind (Gr hb0 ?_);have G1:Gal b good false b0 (arrOf st1) sa na:=OF W gb0 (λi hi=>G.at (by lia)) ra;refine wpS_bind (GW L G1 ek hna λk hk k1 k2=>?_);have lowA:∀i x y,sa<=i->i<sa+k->(arrOf st1)[i]?=some x->(arrOf st1)[sa+na]?=some y->kle b x y:=λi x y i1 i2 e1 e2=>by
  rw [hb0] at e2;cases e2;have:=k1 (i-sa) (by lia);unfold byd at this;rw [Nat.add_sub_cancel' i1,e1] at this;dsimp only at this;rw [if_neg Bool.false_ne_true,Bool.not_eq_true'] at this;exact this
 have highA:∀i x y,sa+k<=i->i<sa+na->(arrOf st1)[i]?=some x->(arrOf st1)[sa+na]?=some y->kle b y x:=λi x y i1 i2 e1 e2=>by
  rw [hb0] at e2;cases e2;have:=k2 (i-sa) (by lia) (by lia);unfold byd at this;rw [Nat.add_sub_cancel' (by lia),e1] at this;dsimp only at this;rw [if_neg Bool.false_ne_true,Bool.not_eq_false'] at this;exact W.le_of_lt this
 dsimp only;unfold ZX;rw [show arrOf st=arrOf st1 from ea.symm];split
 ·rename_i e0;have e0:na-k=0:=eq_of_beq e0;refine wpS_pure (q st1 rfl rfl rfl (.refl _) (λ_ _=>rfl) (J8 ra rb λi j x y i1 i2 i3 i4 e1 e2=>?_));exact W.le_trans (lowA i x b0 i1 (by lia) e1 hb0) (rb (sa+na) j b0 y (Nat.le_refl _) i3 i4 hb0 e2)
 ·rename_i e0;have e0:na-k≠0:=λz=>e0 (beq_iff_eq.mpr z);refine wpS_bind (Gr (show (arrOf st1)[sa+k+(na-k)-1]?=some aL by rw [<-haL];congr 1;lia) ?_);have G2:Gal b good true aL (arrOf st1) (sa+na) nb:=OF W gaL (λi hi=>G.at (by lia)) rb;refine wpS_bind (GW L G2 ek (by lia) λnb' hk' k1' k2'=>?_);have lowB:∀i x y,sa+na<=i->i<sa+na+nb'->(arrOf st1)[i]?=some x->(arrOf st1)[sa+na-1]?=some y->kle b x y:=λi x y i1 i2 e1 e2=>by
   rw [haL] at e2;cases e2;have:=k1' (i-(sa+na)) (by lia);unfold byd at this;rw [Nat.add_sub_cancel' i1,e1] at this;dsimp only at this;rw [if_pos rfl] at this;exact W.le_of_lt this
  have highB:∀i x y,sa+na+nb'<=i->i<sa+na+nb->(arrOf st1)[i]?=some x->(arrOf st1)[sa+na-1]?=some y->kle b y x:=λi x y i1 i2 e1 e2=>by
   rw [haL] at e2;cases e2;have:=k2' (i-(sa+na)) (by lia) (by lia);unfold byd at this;rw [Nat.add_sub_cancel' (by lia),e1] at this;dsimp only at this;rw [if_pos rfl] at this;exact this
  dsimp only;unfold ZW;split
  ·rename_i e1;have e1:nb'=0:=eq_of_beq e1;refine wpS_pure (q st1 rfl rfl rfl (.refl _) (λ_ _=>rfl) (J8 ra rb λi j x y i1 i2 i3 i4 f1 f2=>?_));exact W.le_trans (ra i (sa+na-1) x aL i1 (by lia) (by lia) f1 haL) (highB j y aL (by lia) i4 f2 haL)
  ·rename_i e1;have e1:nb'≠0:=λz=>e1 (beq_iff_eq.mpr z);have F:GalF b (arrOf st1) sa (sa+k) (sa+na) nb' (sa+na+nb):=⟨by lia,by lia,by lia,by lia,ra,rb,lowA,highA,lowB,highB⟩;have T:=F.two hh G;split
   ·refine wpS_bind ?_;rw [show arrOf st=arrOf st1 from ea.symm];exact UZ W L T ek λr st' sg m=>F.fin W hh q ef sg m
   ·refine wpS_bind ?_;rw [show arrOf st=arrOf st1 from ea.symm];exact U2 W L T ek λr st' sg m=>F.fin W hh q ef sg m
end
end L2
namespace L2
open PySem PySem.Spec PyProof.Rows
def Runs (b:Keyed->Keyed->Bool)(arr:Array Keyed):Nat->List (Nat×Nat×Nat)->Nat->Prop
 | s,[],e=>s=e
 | s,x::rest,e=>x.1=s/\0<x.2.1/\Rng b arr s (s+x.2.1)/\Runs b arr (s+x.2.1) rest e
section
variable {b:Keyed->Keyed->Bool}{arr arr':Array Keyed}
theorem Runs.le:∀{p:List (Nat×Nat×Nat)}{s e:Nat},Runs b arr s p e->s+p.length<=e
 | [],s,e,h=>by have h:s=e:=h;simp [h]
 | x::p,s,e,h=>by
  have:=Runs.le h.2.2.2;have:=h.2.1;rw [List.length_cons]
  lia
theorem Runs.app:∀{u v:List (Nat×Nat×Nat)}{s e:Nat},Runs b arr s (u++v) e↔∃m,Runs b arr s u m/\Runs b arr m v e
 | [],v,s,e=>⟨λh=>⟨s,rfl,h⟩,λ⟨m,h1,h2⟩=>by have h1:s=m:=h1;rw [h1];exact h2⟩
 | x::u,v,s,e=>by
  constructor
  ·rintro ⟨h1,h2,h3,h4⟩;obtain ⟨m,k1,k2⟩:=Runs.app.mp h4;exact ⟨m,⟨h1,h2,h3,k1⟩,k2⟩
  ·rintro ⟨m,⟨h1,h2,h3,k1⟩,k2⟩;exact ⟨h1,h2,h3,Runs.app.mpr ⟨m,k1,k2⟩⟩
theorem Runs.keep:∀{p:List (Nat×Nat×Nat)}{s e:Nat},Runs b arr s p e->(∀i,s<=i->i<e->arr'[i]?=arr[i]?)->Runs b arr' s p e
 | [],_,_,h,_=>h
 | x::p,s,e,h,k=>by
  have:=Runs.le h.2.2.2;refine ⟨h.1,h.2.1,λi j u v i1 i2 i3 e1 e2=>?_,Runs.keep h.2.2.2 λi i1 i2=>k i (by lia) i2⟩;rw [k i i1 (by lia)] at e1;rw [k j (by lia) (by lia)] at e2;exact h.2.2.1 i j u v i1 i2 i3 e1 e2
theorem Runs.push {p:List (Nat×Nat×Nat)}{s lo n pw:Nat}(h:Runs b arr s p lo)(hn:0<n)(hr:Rng b arr lo (lo+n)):Runs b arr s (p++[(lo,n,pw)]) (lo+n):=
 Runs.app.mpr ⟨lo,h,rfl,hn,hr,rfl⟩
theorem Runs.two {p:List (Nat×Nat×Nat)}{i e sa na pw sb nb pw':Nat}(h:Runs b arr 0 p e)(h1:p[i]?=some (sa,na,pw))(h2:p[i+1]?=some (sb,nb,pw')) :
  sb=sa+na/\0<na/\0<nb/\sb+nb<=e/\Rng b arr sa sb/\Rng b arr sb (sb+nb) /\
   ((∀i,i<sa\/sb+nb<=i->arr'[i]?=arr[i]?)->Rng b arr' sa (sb+nb)->Runs b arr' 0 ((p.set i (sa,na+nb,pw)).eraseIdx (i+1)) e):=by
 obtain ⟨l1,e1⟩:=List.getElem?_eq_some_iff.mp h1;obtain ⟨l2,e2⟩:=List.getElem?_eq_some_iff.mp h2;have d:p=p.take i++(sa,na,pw)::(sb,nb,pw')::p.drop (i+2):=by
  conv=>lhs;rw [<-List.take_append_drop i p,List.drop_eq_getElem_cons l1,e1,List.drop_eq_getElem_cons l2,e2]
 have hl:(p.take i).length=i:=by rw [List.length_take];lia
 generalize p.take i=u at d hl;generalize p.drop (i+2)=v at d;subst d;obtain ⟨m,k1,k2,k3,k4,k5,k6,k7,k8⟩:=Runs.app.mp h;have k2:sa=m:=k2;have k3:0<na:=k3;have k5:sb=m+na:=k5;have k6:0<nb:=k6;have k4:Rng b arr m (m+na):=k4;have k7:Rng b arr (m+na) (m+na+nb):=k7;have k8:Runs b arr (m+na+nb) v e:=k8;subst k2 k5;have k9:sa+na+nb+v.length<=e:=k8.le;refine ⟨rfl,k3,k6,by lia,k4,k7,λho hr=>?_⟩;have es:((u++(sa,na,pw)::(sa+na,nb,pw')::v).set i (sa,na+nb,pw)).eraseIdx (i+1)=u++(sa,na+nb,pw)::v:=by
  rw [List.set_append,if_neg (by lia),hl,Nat.sub_self,List.set_cons_zero,List.eraseIdx_append_of_length_le (by lia),hl,Nat.add_sub_cancel_left]
  rfl
 rw [es];refine Runs.app.mpr ⟨sa,k1.keep λj j1 j2=>ho j (.inl j2),rfl,by show 0<na+nb;lia,by show Rng b arr' sa (sa+(na+nb));rw [<-Nat.add_assoc];exact hr,?_⟩;show Runs b arr' (sa+(na+nb)) v e;rw [<-Nat.add_assoc];exact k8.keep λj j1 j2=>ho j (.inr j1)
theorem Runs.pow:∀{p:List (Nat×Nat×Nat)}{s e:Nat}(i:Nat)(f:Nat×Nat×Nat->Nat×Nat×Nat),(∀x,(f x).1=x.1/\(f x).2.1=x.2.1)->Runs b arr s p e->Runs b arr s (p.modify i f) e
 | [],_,_,i,f,_,h=>by cases i <;> exact h
 | x::p,s,e,0,f,hf,h=>by
  rw [List.modify_zero_cons];obtain ⟨q1,q2⟩:=hf x;refine ⟨q1.trans h.1,by rw [q2];exact h.2.1,by rw [q2];exact h.2.2.1,by rw [q2];exact h.2.2.2⟩
 | x::p,s,e,i+1,f,hf,h=>by
  rw [List.modify_succ_cons];exact ⟨h.1,h.2.1,h.2.2.1,Runs.pow i f hf h.2.2.2⟩
theorem Runs.one (W:WO b){p:List (Nat×Nat×Nat)}{e:Nat}(h:Runs b arr 0 p e)(hl:p.length<=1):Rng b arr 0 e:=by
 match p,h,hl with
 | [],h,_=>
  have h:0=e:=h;subst h;intro i j x y i1 i2 i3
  lia
 | [x],h,_=>
  have h4:0+x.2.1=e:=h.2.2.2;rw [<-h4];exact h.2.2.1
end
end L2
namespace L2
open PySem PySem.Spec PyProof.Rows
section
variable {M:Model}{A:Around}{E:Value->Shared->Prop}{s:Shared}{kd:SortKind}{b:Keyed->Keyed->Bool}{good:Keyed->Prop}
structure SI (b:Keyed->Keyed->Bool)(kd:SortKind)(st0 st:SortSt)(lo:Nat):Prop where
 ki:kindOf st=kd
 fa:failedOf st=none
 pm:(arrOf st).Perm (arrOf st0)
 ru:Runs b (arrOf st) 0 (pendingOf st).toList lo
theorem SI.size {st0 st:SortSt}{lo:Nat}(h:SI b kd st0 st lo):(arrOf st).size=(arrOf st0).size:=h.pm.size_eq
theorem SI.merge (W:WO b)(L:J0 M A E s kd b good){st0 st:SortSt}{lo i:Nat}{Q:Bool->SortSt->Prop}(G:AllG good (arrOf st0))(h:SI b kd st0 st lo)(hlo:lo<=(arrOf st0).size)(hi:i+1<(pendingOf st).size)(q:∀st',SI b kd st0 st' lo->(pendingOf st').size+1=(pendingOf st).size->(∀i,lo<=i->(arrOf st')[i]?=(arrOf st)[i]?)->Q true st'):wpS M A E s (mergeAt' i) Q st:=by
 obtain ⟨⟨sa,na,pw⟩,p1⟩:∃x,(pendingOf st)[i]?=some x:=⟨_,Array.getElem?_eq_getElem (by lia)⟩;obtain ⟨⟨sb,nb,pw'⟩,p2⟩:∃x,(pendingOf st)[i+1]?=some x:=⟨_,Array.getElem?_eq_getElem hi⟩;have two:=λarr'=>Runs.two (arr':=arr') h.ru (by rw [Array.getElem?_toList];exact p1) (by rw [Array.getElem?_toList];exact p2);obtain ⟨t1,t2,t3,t4,t5,t6,_⟩:=two (arrOf st);have hsz:=h.size;refine U5 W L h.ki h.fa (G.perm h.pm) p1 p2 t1 t2 t3 (by lia) t5 t6 λst' k1 k2 k3 k4 k5 k6=>?_;have e0:arrOf (setPending st (((pendingOf st).setIfInBounds i (sa,na+nb,pw)).eraseIdxIfInBounds (i+1)))=arrOf st:=rfl;rw [e0] at k4 k5;have e1:pendingOf st'=((pendingOf st).setIfInBounds i (sa,na+nb,pw)).eraseIdxIfInBounds (i+1):=k2;have e2:(pendingOf st').toList=((pendingOf st).toList.set i (sa,na+nb,pw)).eraseIdx (i+1):=by
  rw [e1,Array.toList_eraseIdxIfInBounds,Array.toList_setIfInBounds]
 refine q st' ⟨k1.trans h.ki,k3.trans h.fa,k4.trans h.pm,?_⟩ ?_ λj hj=>k5 j (.inr (by lia))
 ·rw [e2];exact (two (arrOf st')).2.2.2.2.2.2 k5 k6
 ·have:=congrArg List.length e2;rw [Array.length_toList,List.length_eraseIdx,List.length_set,Array.length_toList,if_pos hi] at this
  lia
theorem J1 (W:WO b)(L:J0 M A E s kd b good){st:SortSt}{Q:Unit->SortSt->Prop}(hs:kindOf st=kd)(hf:failedOf st=none)(hp:pendingOf st=#[])(G:AllG good (arrOf st))(q:∀st',(arrOf st').Perm (arrOf st)->failedOf st'=none->Rng b (arrOf st') 0 (arrOf st).size->Q () st'):wpS M A E s sortRuns' Q st:=by
 rw [sortRuns'_eq];refine wpS_bind (wpS_get ?_);dsimp only;generalize hsz:(arrOf st).size=size at q;generalize minRun' size size 0=minrun;refine wpS_bind (wpS_mono (Q:=λr st1=>r=(none,size)/\SI b kd st st1 size) (wpS_forRange (λk r st1=>∃lo,r=(none,lo)/\k<=lo/\lo<=size/\SI b kd st st1 lo) ?_ ?_ ⟨0,rfl,Nat.le_refl _,Nat.zero_le _,hs,hf,.refl _,by rw [hp];rfl⟩) ?_)
 ·rintro k r st1 _ hk ⟨lo,rfl,k1,k2,I⟩;dsimp only;split
  ·have:lo=size:=by lia
   subst this;exact wpS_pure ⟨rfl,I⟩
  ·rename_i hlo;have s1:(arrOf st1).size=size:=I.size.trans hsz;refine wpS_bind (O0 W L I.ki (G.perm I.pm) (by lia) (by lia) λn st2 ah n1 n2 n3=>?_);have I2:SI b kd st st2 lo:=⟨ah.kd.trans I.ki,ah.fa.trans I.fa,ah.pm.trans I.pm,by rw [ah.pe];exact I.ru.keep λi _ hi=>ah.lw i hi⟩;dsimp only;have pushed:∀st3 n,SI b kd st st3 lo->0<n->Rng b (arrOf st3) lo (lo+n)->SI b kd st (setPending st3 ((pendingOf st3).push (lo,n,0))) (lo+n):=by
    intro st3 n I3 n1 n3;refine ⟨I3.ki,I3.fa,I3.pm,?_⟩;show Runs b (arrOf st3) 0 ((pendingOf st3).push (lo,n,0)).toList (lo+n);rw [Array.toList_push];exact I3.ru.push n1 n3
   have pow:∀st3 pw,SI b kd st st3 lo->SI b kd st (setPending st3 ((pendingOf st3).modify ((pendingOf st3).size-1) λx=>(x.1,x.2.1,pw))) lo:=by
    intro st3 pw I3;refine ⟨I3.ki,I3.fa,I3.pm,?_⟩;show Runs b (arrOf st3) 0 ((pendingOf st3).modify ((pendingOf st3).size-1) λx=>(x.1,x.2.1,pw)).toList lo;rw [Array.toList_modify];exact I3.ru.pow _ _ λx=>⟨rfl,rfl⟩
   split
   ·rename_i hmr;refine wpS_bind (wpS_lift (wpAny_rule ⟨rfl,?_⟩));have s2:(arrOf st2).size=size:=I2.size.trans hsz;refine wpS_bind (VW W L I2.ki (G.perm I2.pm) (by lia) n1 (by lia) n3 λst3 ah3 r3=>?_);have I3:SI b kd st st3 lo:=⟨ah3.kd.trans I2.ki,ah3.fa.trans I2.fa,ah3.pm.trans I2.pm,by rw [ah3.pe];exact I2.ru.keep λi _ hi=>ah3.lw i hi⟩;rw [show (!true)=false from rfl,if_neg Bool.false_ne_true];have hN:1<=min (size-lo) minrun/\lo+min (size-lo) minrun<=size:=by lia
    clear hmr;generalize min (size-lo) minrun=N at r3 hN;refine wpS_bind (wpS_get ?_);cases hbk:(pendingOf st3).back? with
    | none=>exact wpS_bind (wpS_modify (wpS_pure ⟨_,rfl,by lia,by lia,pushed st3 _ I3 (by lia) r3⟩))
    | some x=>
     obtain ⟨s1,n1,pw1⟩:=x;dsimp only;refine wpS_bind (wpS_mono (Q:=λr st4=>r=(none,())/\SI b kd st st4 lo/\∀i,lo<=i->(arrOf st4)[i]?=(arrOf st3)[i]?) (wpS_forRange (λ_ r st4=>r=(none,())/\SI b kd st st4 lo/\∀i,lo<=i->(arrOf st4)[i]?=(arrOf st3)[i]?) ?_ (λ_ _ z=>z) ⟨rfl,I3,λ_ _=>rfl⟩) ?_)
     ·rintro k' r st4 _ hk' ⟨rfl,I4,same⟩;refine wpS_bind (wpS_get ?_);by_cases hz:(pendingOf st4).size > 1
      ·obtain ⟨⟨z1,z2,z3⟩,pz⟩:∃x,(pendingOf st4)[(pendingOf st4).size-2]?=some x:=⟨_,Array.getElem?_eq_getElem (by lia)⟩;rw [if_pos hz,pz];dsimp only;split
       ·exact wpS_pure ⟨rfl,I4,same⟩
       ·refine wpS_bind (I4.merge W L G (by lia) (by lia) λst5 I5 _ same5=>?_);rw [show (!true)=false from rfl,if_neg Bool.false_ne_true];exact wpS_pure ⟨rfl,I5,λi hi=>(same5 i hi).trans (same i hi)⟩
      ·rw [if_neg hz];exact wpS_pure ⟨rfl,I4,same⟩
     ·rintro r st4 ⟨rfl,I4,same⟩;dsimp only;refine wpS_bind (wpS_modify (wpS_bind (wpS_modify (wpS_pure ⟨_,rfl,by lia,by lia,?_⟩))));refine pushed _ _ (pow st4 _ I4) (by lia) λi j x y i1 i2 i3 e1 e2=>?_;have e1:(arrOf st4)[i]?=some x:=e1;have e2:(arrOf st4)[j]?=some y:=e2;rw [same i i1] at e1;rw [same j (by lia)] at e2;exact r3 i j x y i1 i2 i3 e1 e2
   ·have hN:1<=n/\lo+n<=size:=by lia
    refine wpS_bind (wpS_get ?_);cases hbk:(pendingOf st2).back? with
    | none=>exact wpS_bind (wpS_modify (wpS_pure ⟨_,rfl,by lia,by lia,pushed st2 _ I2 (by lia) n3⟩))
    | some x=>
     obtain ⟨s1,n1,pw1⟩:=x;dsimp only;refine wpS_bind (wpS_mono (Q:=λr st4=>r=(none,())/\SI b kd st st4 lo/\∀i,lo<=i->(arrOf st4)[i]?=(arrOf st2)[i]?) (wpS_forRange (λ_ r st4=>r=(none,())/\SI b kd st st4 lo/\∀i,lo<=i->(arrOf st4)[i]?=(arrOf st2)[i]?) ?_ (λ_ _ z=>z) ⟨rfl,I2,λ_ _=>rfl⟩) ?_)
     ·rintro k' r st4 _ hk' ⟨rfl,I4,same⟩;refine wpS_bind (wpS_get ?_);by_cases hz:(pendingOf st4).size > 1
      ·obtain ⟨⟨z1,z2,z3⟩,pz⟩:∃x,(pendingOf st4)[(pendingOf st4).size-2]?=some x:=⟨_,Array.getElem?_eq_getElem (by lia)⟩;rw [if_pos hz,pz];dsimp only;split
       ·exact wpS_pure ⟨rfl,I4,same⟩
       ·refine wpS_bind (I4.merge W L G (by lia) (by lia) λst5 I5 _ same5=>?_);rw [show (!true)=false from rfl,if_neg Bool.false_ne_true];exact wpS_pure ⟨rfl,I5,λi hi=>(same5 i hi).trans (same i hi)⟩
      ·rw [if_neg hz];exact wpS_pure ⟨rfl,I4,same⟩
     ·rintro r st4 ⟨rfl,I4,same⟩;dsimp only;refine wpS_bind (wpS_modify (wpS_bind (wpS_modify (wpS_pure ⟨_,rfl,by lia,by lia,?_⟩))));refine pushed _ _ (pow st4 _ I4) (by lia) λi j x y i1 i2 i3 e1 e2=>?_;have e1:(arrOf st4)[i]?=some x:=e1;have e2:(arrOf st4)[j]?=some y:=e2;rw [same i i1] at e1;rw [same j (by lia)] at e2;exact n3 i j x y i1 i2 i3 e1 e2
 ·rintro r st1 ⟨lo,rfl,k1,k2,I⟩;have:lo=size:=by simp at k1;lia
  subst this;exact ⟨rfl,I⟩
 ·rintro r st1 ⟨rfl,I⟩;dsimp only;refine wpS_bind (wpS_mono (Q:=λr st2=>r=(none,())/\SI b kd st st2 size/\(pendingOf st2).size<=1) (wpS_forRange (λk r st2=>r=(none,())/\SI b kd st st2 size/\(pendingOf st2).size+k<=size+1) ?_ ?_ ⟨rfl,I,?_⟩) ?_)
  ·rintro k r st2 _ hk ⟨rfl,I2,hz⟩;refine wpS_bind (wpS_get ?_);split
   ·rename_i h1;exact wpS_pure ⟨rfl,I2,h1⟩
   ·rename_i h1;generalize hi:(if Option.any _ _=true then (pendingOf st2).size-2-1 else (pendingOf st2).size-2)=i;have hi2:i+1<(pendingOf st2).size:=by
     rw [<-hi];have key:∀(c:Prop)[Decidable c](m:Nat),(if c then m-1 else m)<=m:=λc _ m=>by split <;> lia
     refine Nat.lt_of_le_of_lt (Nat.succ_le_succ (key _ ((pendingOf st2).size-2))) ?_
     lia
    refine wpS_bind (I2.merge W L G (by lia) hi2 λst3 I3 h3 _=>?_);rw [show (!true)=false from rfl,if_neg Bool.false_ne_true];exact wpS_pure ⟨rfl,I3,by lia⟩
  ·rintro r st2 ⟨rfl,I2,hz⟩;exact ⟨rfl,I2,by simp at hz;lia⟩
  ·have:=I.ru.le;rw [Array.length_toList] at this
   lia
  ·rintro r st2 ⟨rfl,I2,h1⟩;refine wpS_pure (q st2 I2.pm I2.fa ?_);exact I2.ru.one W (by rw [Array.length_toList];exact h1)
end
end L2
namespace L2
open PySem PySem.Spec PyProof.Rows
section
variable {prog:Program}{w:World}{A:Around}{E:Value->Shared->Prop}{s:Shared}{kd:SortKind}{b:Keyed->Keyed->Bool}{good:Keyed->Prop}
def JN (s:Shared)(a:Addr)(vs:List Value):Shared:={ s with heap:=((s.heap.update a (Obj.mapSeq λ_=>#[])).push (seqObj "tuple" vs.toArray 0)).push (seqObj "list" #[] 0) }
theorem WN (W:WO b){arr:Array Keyed}(h:arr.size<2):Rng b arr 0 arr.size:=λi j x y i1 i2 i3 e1 e2=>by
 have:i=j:=by lia
 subst this;rw [e1] at e2;cases e2;exact W.le_refl _
theorem O1 {a:Addr}{vs:List Value}{n:Nat}{P:PySem.Fin->Shared->Prop}(W:WO b)(ha:s.heap.get? a=some (seqObj "list" vs.toArray n))(hz:vs.length<=sizeLine)(hg:∀v∈vs,good (v,v))(hk:2<=vs.length->∀{E':Value->Shared->Prop}{R:SortKind->Shared->Prop},R kd (JN s a vs)->wpAny (model prog w) A (keyKind' vs.toArray) R E' (JN s a vs))(L:J0 (model prog w) A E (JN s a vs) kd b good)(q:∀out:Array Keyed,out.Perm (pairsOf vs)->Rng b out 0 vs.length->P (.done (.ret .none)) { s with heap:=sortedHeap s.heap a vs (out.map (·.2)) }) :
  wpAny (model prog w) A (Builtin.«list.sort» { pos:=[.ref a] }) P E s:=by
 rw [list_sort_plain];refine wpAny_bind (listItems_at ha rfl ?_);refine wpAny_bind (listUpdate_at ha rfl ?_ (by rw [List.size_toArray];exact hz) (Nat.zero_le _));have ha1:=get?_update_seq ha (λ_=>#[]);generalize (if ((#[]:Array Value).size == vs.toArray.size)=true then n else n+1)=n1 at ha1;refine wpAny_bind (seqEpoch_at ha1 rfl ?_);refine wpAny_bind (wpAny_newTuple ?_ hz);refine wpAny_bind (wpAny_newList ?_ (Nat.zero_le _));refine wpAny_holding ?_;have ha2:(JN s a vs).heap.get? a=some (seqObj "list" #[] n1):=Heap.get?_push_of_some _ (Heap.get?_push_of_some _ ha1);show wpAny (model prog w) A _ P E (JN s a vs);have hps:(pairsOf vs).size=vs.length:=pairsOf_size vs;dsimp only [List.size_toArray];split
 ·rename_i h2;have h2:vs.length<2:=by simpa using h2
  refine wpAny_bind (wpAny_pure ?_);refine wpAny_bind (wpAny_mono (Q:=λr s'=>s'=JN s a vs/\failedOf r.2=none/\(arrOf r.2).Perm (pairsOf vs)/\Rng b (arrOf r.2) 0 vs.length) (wpAny_pure ⟨rfl,rfl,.refl _,?_⟩) ?_ (λ_ _ z=>z))
  ·have:=WN W (arr:=pairsOf vs) (by lia);rw [hps] at this;exact this
  ·rintro ⟨_,st⟩ s' ⟨rfl,e2,hp,hr⟩;dsimp only;refine wpAny_bind (seqEpoch_at ha2 rfl ?_);have e2:failedOf st=none:=e2;have hl:((arrOf st).map (·.2)).size<=sizeLine+1:=by
    have this:(arrOf st).size=(pairsOf vs).size:=hp.size_eq;rw [pairsOf_size] at this;rw [Array.size_map]
    lia
   refine wpAny_bind (listUpdate_at ha2 rfl ?_ (Nat.zero_le _) hl);have:(n1 != n1)=false:=by simp
   rw [this,e2];exact wpAny_pure (q (arrOf st) hp hr)
 ·rename_i h2;have h2:¬ vs.length<2:=by simpa using h2
  refine wpAny_bind (hk (by lia) ?_);refine wpAny_bind (wpAny_mono (Q:=λr s'=>s'=JN s a vs/\failedOf r.2=none/\(arrOf r.2).Perm (pairsOf vs)/\Rng b (arrOf r.2) 0 vs.length) ?_ ?_ (λ_ _ z=>z))
  ·refine J1 (st:=SortSt.mk' kd (vs.toArray.zip vs.toArray) #[] 7 none) (Q:=λ_ st=>failedOf st=none/\(arrOf st).Perm (pairsOf vs)/\Rng b (arrOf st) 0 vs.length) W L rfl rfl rfl (λx hx=>?_) λst' k1 k2 k3=>⟨k2,k1,?_⟩
   ·have hx:x∈(pairsOf vs).toList:=hx;rw [pairsOf_toList] at hx;obtain ⟨e,hm⟩:=mem_zip_self hx;obtain ⟨x1,x2⟩:=x;have e:x1=x2:=e;subst e;exact hg _ hm
   ·have e:(arrOf (SortSt.mk' kd (vs.toArray.zip vs.toArray) #[] 7 none)).size=vs.length:=hps;rw [e] at k3;exact k3
  ·rintro ⟨_,st⟩ s' ⟨rfl,e2,hp,hr⟩;dsimp only;refine wpAny_bind (seqEpoch_at ha2 rfl ?_);have e2:failedOf st=none:=e2;have hl:((arrOf st).map (·.2)).size<=sizeLine+1:=by
    have this:(arrOf st).size=(pairsOf vs).size:=hp.size_eq;rw [pairsOf_size] at this;rw [Array.size_map]
    lia
   refine wpAny_bind (listUpdate_at ha2 rfl ?_ (Nat.zero_le _) hl);have:(n1 != n1)=false:=by simp
   rw [this,e2];exact wpAny_pure (q (arrOf st) hp hr)
theorem JO {h:Heap}{a c:Addr}{o:Obj}{f:Obj->Obj}(hc:c≠a)(e:h.get? c=some o):(h.update a f).get? c=some o:=(Heap.get?_update_ne h c a f hc).trans e
theorem VX {l:Addr}{vs:List Value}{Q:Value->Shared->Prop}(W:WO b)(hl:s.heap.IsList l vs.toArray)(hz:vs.length<=sizeLine)(hg:∀v∈vs,good (v,v))(hk:∀h':Heap,(∀c o,s.heap.get? c=some o->h'.get? c=some o)->2<=vs.length->∀{E':Value->Shared->Prop}{R:SortKind->Shared->Prop},R kd { s with heap:=h' }->wpAny (model prog w) A.in1.in1 (keyKind' vs.toArray) R E' { s with heap:=h' })(L:∀h':Heap,(∀c o,s.heap.get? c=some o->h'.get? c=some o)->J0 (model prog w) A.in1.in1 E { s with heap:=h' } kd b good)(q:∀out:Array Keyed,out.Perm (pairsOf vs)->Rng b out 0 vs.length->Q (.ref (s.heap.objs.size+1)) { s with heap:=sortedAll s.heap vs (out.map (·.2)) }) :
  wpAny (model prog w) A (call (.builtin "sorted") [.ref l]) Q E s:=by
 refine Calls.call_function_entry kind_sorted plain_sorted entry_sorted (args_sorted1 _) ?_;unfold Builtin.sorted;refine wpAny_bind (wpAny_pure ?_);refine wpAny_bind (collect_list hl ?_ hz);refine wpAny_bind (wpAny_newList ?_ hz);refine wpAny_bind (wpAny_holding ?_);generalize hh1:(s.heap.push (seqObj "list" #[] 0)).update s.heap.objs.size (Obj.mapSeq λx=>x++vs.toArray)=h1;have sz1:h1.objs.size=s.heap.objs.size+1:=by rw [<-hh1,Heap.size_update,Heap.size_push]
 have k1:∀c o,s.heap.get? c=some o->h1.get? c=some o:=λc o e=>by
  rw [<-hh1];exact JO (Nat.ne_of_lt (Heap.lt_size e)) (Heap.get?_push_of_some _ e)
 generalize hh2:h1.push { cls:=Value.type "list", data:=Data.seq vs.toArray }=h2;have ha:h2.get? h1.objs.size=some (seqObj "list" vs.toArray 0):=by rw [<-hh2];exact Heap.get?_push_size _ rfl
 have k2:∀c o,s.heap.get? c=some o->h2.get? c=some o:=λc o e=>by
  rw [<-hh2];exact Heap.get?_push_of_some _ (k1 c o e)
 have k3:∀c o,s.heap.get? c=some o->(JN { s with heap:=h2 } h1.objs.size vs).heap.get? c=some o:=λc o e=>by
  unfold JN;refine Heap.get?_push_of_some _ (Heap.get?_push_of_some _ (JO ?_ (k2 c o e)));have:=Heap.lt_size e;rw [sz1];exact Nat.ne_of_lt (Nat.lt_succ_of_lt this)
 refine wpAny_call_entry (s:={ s with heap:=h2 }) slot_list_sort ⟨_,ha,rfl⟩ entry_list_sort ?_ (args_list_sort _);refine O1 (s:={ s with heap:=h2 }) W ha hz hg (λh=>hk _ k3 h) (L _ k3) λout p r=>⟨.none,rfl,wpAny_pure ⟨_,rfl,?_⟩⟩;have e:({ s with heap:=sortedHeap h2 h1.objs.size vs (out.map (·.2)) }:Shared)={ s with heap:=sortedAll s.heap vs (out.map (·.2)) }:=by
  unfold sortedAll;rw [sz1,<-hh2,<-hh1]
 show Q (.ref h1.objs.size) { s with heap:=sortedHeap h2 h1.objs.size vs (out.map (·.2)) };rw [e,sz1];exact q out p r
end
end L2
namespace L2
open PySem PySem.Spec PyProof.Rows
section
variable {X:Cx}(K:W.Frag)
theorem ZY {tg:Expr}{l:Expr}{tl:TE}(hl:PE X l tl)(h:X.K=K:=by rfl):PI X tg l (Zbl K tl):=h▸Zt hl
end
end L2
namespace L2
open PySem PySem.Spec PyProof.Rows
theorem XT {K:PySem.W.Frag}{a D:Addr}{xs:List V}{g:TG}{tc:TT}{te:TE}{σ0:St}{R:Hp->Prop}{H1:Hp}(Pv:Nat->List V->Hp->Prop)(h0:Pv 0 [] (upd H1 D (.lst [])))(hl:∀i ys H,i<=xs.length->Pv i ys H->SqT K H a xs)(hs:∀i x ys H,xs[i]?=some x->Pv i ys H->g x σ0 H λσ4 H4=>JI σ0 σ4/\tc σ4 H4 λb H5=>if b=true then te σ4 H5 λy H6=>H6 D=some (.lst ys)/\ys.length<sizeLine/\Pv (i+1) (ys++[y]) (upd H6 D (.lst (ys++[y]))) else Pv (i+1) ys H5)(hd:∀ys H,Pv xs.length ys H->R H):∃W:Nat->Nat->List V->Hp->Prop,(∃m,W 0 m [] (upd H1 D (.lst [])))/\GX (Itt K a) D g tc te σ0 W R:=by
 refine ⟨λi m ys H=>m=xs.length-i/\i<=xs.length/\Pv i ys H,⟨_,rfl,Nat.zero_le _,h0⟩,?_⟩;rintro i m ys H ⟨rfl,hi,p⟩;have q:=hl i ys H hi p;by_cases hlt:i<xs.length
 ·refine .inr ⟨⟨xs,xs[i],q,by simp [hlt]⟩,Pv (i+1),λys' H' p'=>⟨xs.length-(i+1),by lia,rfl,hlt,p'⟩,λx H' y=>?_⟩;obtain ⟨e,y⟩:=y;subst e;exact hs i x ys _ (y xs q) p
 ·have e:i=xs.length:=by lia
  subst e;exact .inl ⟨⟨xs,q,Nat.le_refl _⟩,hd ys H p⟩
end L2
namespace L2
open PySem PySem.Spec PyProof.Rows Classical
theorem ZZ {α:Type}{κ:Keyed->α}{lt:α->α->Bool}(irr:∀a,lt a a=false)(tr:∀{a b c},lt a b=true->lt b c=true->lt a c=true)(tot:∀{a b},lt a b=false->lt b a=false->a=b):WO (λx y=>lt (κ x) (κ y)):=by
 refine ⟨λx=>irr _,λx y z=>tr,λx y z h=>?_⟩;cases h1:lt (κ x) (κ y) with
 | true=>exact .inl rfl
 | false=>
  cases h2:lt (κ y) (κ x) with
  | true=>exact .inr (tr h2 h)
  | false=>
   rw [<-tot h1 h2];exact .inr h
theorem WP {α β:Type}{f:α->β}:∀{l:List β}{zs:List α},l.Perm (zs.map f)->∃zs':List α,zs'.Perm zs/\zs'.map f=l:=by
 intro l zs h;generalize hm:zs.map f=m at h
 induction h generalizing zs with
 | nil=>exact ⟨zs,.refl _,by rw [hm]⟩
 | @cons x l1 l2 _ ih=>
  cases zs with
  | nil=>simp at hm
  | cons z zs=>
   simp at hm;obtain ⟨zs',h1,h2⟩:=ih hm.2;exact ⟨z::zs',h1.cons z,by rw [List.map_cons,h2,hm.1]⟩
 | swap x y l=>
  cases zs with
  | nil=>simp at hm
  | cons z zs=>
   cases zs with
   | nil=>simp at hm
   | cons z2 zs=>
    simp at hm;exact ⟨z2::z::zs,.swap _ _ _,by simp [hm.1,hm.2.1,hm.2.2]⟩
 | trans _ _ ih1 ih2=>
  obtain ⟨zs1,h1,h2⟩:=ih2 hm;obtain ⟨zs2,h3,h4⟩:=ih1 h2;exact ⟨zs2,h3.trans h1,h4⟩
end L2
namespace L2
open PySem PySem.Spec PyProof.Rows Classical
theorem UB {b:Keyed->Keyed->Bool}{out:Array Keyed}{n:Nat}(h:Rng b out 0 n)(hn:out.size=n):out.toList.Pairwise (kle b):=by
 rw [List.pairwise_iff_getElem];intro i j hi hj hij;rw [Array.length_toList] at hi hj;exact h i j _ _ (Nat.zero_le _) (by lia) (by lia) (by simp [hi]) (by simp [hj])
theorem XU {vs:List Value}{out:Array Keyed}(h:out.Perm (pairsOf vs)):(out.map (·.2)).toList.Perm vs/\(∀x∈out.toList,x.1=x.2/\x.1∈vs)/\out.size=vs.length:=by
 have p:out.toList.Perm (vs.zip vs):=by
  have:=h.toList;rw [pairsOf_toList] at this;exact this
 refine ⟨?_,λx hx=>mem_zip_self (p.mem_iff.mp hx),by rw [h.size_eq,pairsOf_size]⟩;rw [Array.toList_map];have:=p.map (λx:Keyed=>x.2);rw [show (vs.zip vs).map (λx:Keyed=>x.2)=vs from List.map_snd_zip (Nat.le_refl _)] at this;exact this
end L2
namespace L2
open PySem PySem.Spec PyProof.Rows
section
variable {X:Cx}
theorem Inv.freeze {qQ:List (Addr×Obj)}{σ:St}{H:Hp}{s:Shared}{a:Addr}{kvs:List (Key×V)}(I:Inv X qQ σ H s)(e:H a=some (.dK kvs)):∃o,Inv X qQ σ (upd H a (.frz o (.dK kvs))) s:=by
 have ob:ObjOk X.prog X.w H s.heap a (.dK kvs):=I.hok a _ e;obtain ⟨z,hd,vs,r,o,es,ep,h1,h2⟩:=id ob;refine ⟨o,?_⟩;have:=I.write (x:=a) (e:=a) (o:=.frz o (.dK kvs)) (h':=s.heap) (t':=s.toks) (by rw [e];exact True.intro) (.inl rfl) (λb u _ q=>q) ⟨_,h1⟩ ⟨h1,ob⟩;exact this
def ItD (a:Addr)(o:Obj)(kvs:List (Key×V)):It:=
 ⟨λi H=>H a=some (.frz o (.dK kvs))/\i<kvs.length,λi H x H'=>H'=H/\∃k v,kvs[i]?=some (k,v)/\x=kV k,λi H=>H a=some (.frz o (.dK kvs))/\kvs.length<=i⟩
theorem Yq:∀{kvs:List (Key×V)}{vs:List (Key×Value)}{i:Nat}{k:Key}{v:V},KV kvs vs->kvs[i]?=some (k,v)->∃u,vs[i]?=some (k,u)
 | _,_,i,k,v,.nil,e=>by simp at e
 | p::ps,q::qs,0,k,v,.cons r t,e=>by
  simp at e;subst e;obtain ⟨q1,q2⟩:=q;have:k=q1:=r.1;subst this;exact ⟨q2,rfl⟩
 | p::ps,q::qs,i+1,k,v,.cons _ t,e=>by
  obtain ⟨u,h⟩:=Yq (i:=i) t (by simpa using e);exact ⟨u,by simpa using h⟩
theorem Z0 {P:Program}{w:World}{k:Key}{u:Value}(h:(Gy P w).is k u=true):RelV (kV k) u:=by
 rcases GB (show UK k u=true from h) with ⟨i,t,rfl,rfl⟩ | ⟨x,t,rfl,rfl⟩
 ·exact ⟨t,rfl⟩
 ·exact ⟨t,rfl⟩
theorem U6 {qQ:List (Addr×Obj)}{σ:St}{H:Hp}{s:Shared}{a:Addr}{o:Obj}{kvs:List (Key×V)}{es:Array DictEntry}{ep:Nat}(I:Inv X qQ σ H s)(e:H a=some (.frz o (.dK kvs)))(ho:o.data=.dict es ep) :
  ∃vs,KV kvs vs/\s.heap.DictAt (Gy X.prog X.w) a vs ep:=by
 obtain ⟨h1,z,hd,vs,r,o',es',ep',h2,h3,h4,h5,h6,h7⟩:=(show ObjOk X.prog X.w H s.heap a (.frz o (.dK kvs)) from I.hok a _ e);rw [h1] at h2;cases h2;rw [ho] at h4;cases h4;exact ⟨vs,r,o,es,h1,h3,ho,h5,h6,h7⟩
theorem WQ {P:Program}{w:World}{K:W.Frag}{tg:Expr}(a it:Addr)(o:Obj)(kvs:List (Key×V))(es:Array DictEntry)(ep:Nat)(ho:o.data=.dict es ep) :
  Ye P w K tg (ItD a o kvs) [it] it (λi h=>h.IsKeyIter it a i kvs.length ep) where
 mem:=by simp
 obj:=λi h st b hb=>by
  have e:b=it:=by simpa using hb
  subst e;obtain ⟨o,e,c,d⟩:=st;exact ⟨o,e,λv z=>by rw [d] at z;cases z⟩
 keep:=λi h h' st k=>by
  obtain ⟨o,e,c,d⟩:=st;exact ⟨o,k it (by simp) o e,c,d⟩
 item:=by
  intro X hP hw hK hc i qQ s σ H E I hf st hg;subst hP hw hK;obtain ⟨hq,hi⟩:=hg;obtain ⟨vs,r,da⟩:=U6 I hq ho;have qV:kvs.length=vs.length:=Paired.length r;obtain ⟨⟨k,v⟩,hx⟩:∃x,kvs[i]?=some x:=⟨_,List.getElem?_eq_getElem hi⟩;obtain ⟨u,hu⟩:=Yq r hx;obtain ⟨f0,f1,f2,f3,f4,f5⟩:=hf it (by simp);refine wpAny_pyNext_dict_item (knd:=Gy X.prog X.w) (kvs:=vs) (by rw [<-qV];exact st) da hu λkey h' hk st' sb=>?_;have I1:Inv X qQ σ H { s with heap:=h' }:=I.turned (t':=s.toks) (λb o hb e=>(sb.2 b hb).trans e) f0 f1 f3 f4 f5;obtain ⟨o',e,c,d⟩:=id st';exact ⟨key,rfl,V6 (s:={ s with heap:=h' }) e c d (by decide) ⟨kV k,H,I1,Z0 hk,⟨rfl,k,v,hx,rfl⟩,by rw [qV];exact st',λb hb=>(hf b hb).1⟩⟩
 done:=by
  intro X hP hw hK hc i qQ s σ H E I hf st hg;subst hP hw hK;obtain ⟨hq,hi⟩:=hg;obtain ⟨vs,r,da⟩:=U6 I hq ho;have qV:kvs.length=vs.length:=Paired.length r;obtain ⟨f0,f1,f2,f3,f4,f5⟩:=hf it (by simp);exact wpAny_pyNext_dict_end (knd:=Gy X.prog X.w) (I.ok.hd hc) (by rw [<-qV];exact st) da (List.getElem?_eq_none_iff.mpr (by lia)) λh' eb=>⟨rfl,I.turned (t':=s.toks) (λb o hb e=>eb b o hb e) f0 f1 f3 f4 f5⟩
 self:=λ_ _ _ _ _ st h=>wpAny_pyIter_keyiter st h
def Z1 (tl:TE):TI:=λσ H R=>tl σ H λx H1=>∃a o kvs,x=.ref a/\H1 a=some (.frz o (.dK kvs))/\R (ItD a o kvs) H1
theorem XV {tg l:Expr}{tl:TE}(hl:PE X l tl):PI X tg l (Z1 tl):=by
 intro qQ s σ H R I h;refine thn (hl qQ s σ H _ I h) λv s1 ⟨x,H1,I1,r1,q1⟩=>?_;obtain ⟨a,o,kvs,e,hq,q⟩:=q1;subst e;cases r1;obtain ⟨h1,z,hd,vs0,r0,o',es,ep,h2,h3,h4,h5⟩:=(show ObjOk X.prog X.w H1 s1.heap a (.frz o (.dK kvs)) from I1.hok a _ hq);rw [h1] at h2;cases h2;obtain ⟨vs,r,da⟩:=U6 I1 hq h4;have qV:kvs.length=vs.length:=Paired.length r;refine wpAny_pyIter_dict (knd:=Gy X.prog X.w) hd da ?_;refine ⟨s1.heap.objs.size,[s1.heap.objs.size],_,_,H1,rfl,I1.kept (t':=s1.toks) λb o e=>Heap.get?_push_of_some _ e,WQ a _ o kvs es ep h4,⟨_,Heap.get?_push_size _ rfl,rfl,by rw [qV];rfl⟩,λb hb=>?_,q⟩;have e:b=s1.heap.objs.size:=by simpa using hb
 subst e;exact I1.fpOk (Nat.le_refl _) (I1.hok.fresh (Nat.le_refl _))
theorem VY {a D:Addr}{o:Obj}{kvs:List (Key×V)}{g:TG}{tc:TT}{te:TE}{σ0:St}{R:Hp->Prop}{H1:Hp}(Pv:Nat->List V->Hp->Prop)(h0:Pv 0 [] (upd H1 D (.lst [])))(hl:∀i ys H,i<=kvs.length->Pv i ys H->H a=some (.frz o (.dK kvs)))(hs:∀i k v ys H,kvs[i]?=some (k,v)->Pv i ys H->g (kV k) σ0 H λσ4 H4=>JI σ0 σ4/\tc σ4 H4 λb H5=>if b=true then te σ4 H5 λy H6=>H6 D=some (.lst ys)/\ys.length<sizeLine/\Pv (i+1) (ys++[y]) (upd H6 D (.lst (ys++[y]))) else Pv (i+1) ys H5)(hd:∀ys H,Pv kvs.length ys H->R H):∃W:Nat->Nat->List V->Hp->Prop,(∃m,W 0 m [] (upd H1 D (.lst [])))/\GX (ItD a o kvs) D g tc te σ0 W R:=by
 refine ⟨λi m ys H=>m=kvs.length-i/\i<=kvs.length/\Pv i ys H,⟨_,rfl,Nat.zero_le _,h0⟩,?_⟩;rintro i m ys H ⟨rfl,hi,p⟩;have q:=hl i ys H hi p;by_cases hlt:i<kvs.length
 ·refine .inr ⟨⟨q,hlt⟩,Pv (i+1),λys' H' p'=>⟨kvs.length-(i+1),by lia,rfl,hlt,p'⟩,λx H' y=>?_⟩;obtain ⟨e,k,v,ek,rfl⟩:=y;subst e;exact hs i k v ys _ ek p
 ·have e:i=kvs.length:=by lia
  subst e;exact .inl ⟨⟨q,Nat.le_refl _⟩,hd ys H p⟩
theorem Zce {qQ:List (Addr×Obj)}{σ:St}{H:Hp}{s:Shared}{a:Addr}{kvs:List (Key×V)}{A:Around}{E:Value->Shared->Prop}{Q:Bool->Shared->Prop}(I:Inv X qQ σ H s)(e:Rd H a (.dK kvs))(q:∀s',Inv X qQ σ H s'->Q (!kvs.isEmpty) s'):wpAny (model X.prog X.w) A (truthy (.ref a)) Q E s:=by
 obtain ⟨hz,hS,vs,r,m⟩:=UV I.hok e;have hl:=Og;have qV:kvs.length=vs.length:=Paired.length r;exact wpAny_truthy_dict hS m (by lia) (by rw [OA r];exact q _ (I.tok _))
theorem WR {a:Expr}{ta:TE}(ha:PE X a ta)(he:∀whole,isTrue a X.env whole=(do let v <- whole;standAt a.pos;holding [v] (truthy v))) :
  PT X a (λσ H Q=>ta σ H λx H'=>∃p kvs,x=.ref p/\Rd H' p (.dK kvs)/\Q (!kvs.isEmpty) H'):=by
 intro qQ s σ H Q I h;refine isTrue_plain (thn (ha qQ s σ H _ I h) λv s1 ⟨x,H1,I1,r1,p,kvs,e,rd,q1⟩=>?_) (he _);subst e;cases r1;exact Zce I1 rd λs' I'=>⟨H1,I',q1⟩
theorem WS {prog:Program}{w:World}{A:Around}{I:Addr}{fp wr:List Addr}{n:Nat}{P:Nat->Value->Prop}{St:Nat->Heap->Prop}{J:Heap->Prop}{R:Result->Shared->Prop}(W:Walks prog w A.in1 I fp wr n P St)(tr:Nat->Bool)(ht:∀(s:Shared)(i:Nat)(v:Value)(Q:Bool->Shared->Prop)(E:Value->Shared->Prop),J s.heap->P i v->(∀tk,Q (tr i) { s with toks:=tk })->wpAny (model prog w) A.in1 (truthy v) Q E s)(keepJ:∀h h':Heap,J h->(∀b o,b ∉ wr->h.get? b=some o->h'.get? b=some o)->J h') :
  ∀(k i:Nat)(s:Shared),n-i=k->i<=n->St i s.heap->J s.heap->(∀h' tk,(∀b o,b ∉ wr->s.heap.get? b=some o->h'.get? b=some o)->R (.ok (.ret (.bool (((List.range n).drop i).all tr)))) { s with heap:=h',toks:=tk }) ->
  codeAny (model prog w) A (.builtin "all.loop" ⟨[.ref I],[]⟩) R s:=by
 intro k
 induction k with
 | zero=>
  intro i s hk hi st j hR;have en:i=n:=by lia
  subst en;refine codeAny_builtin F.entry_all_loop ?_;rw [Around.under_plainId F.plain_all_loop _];unfold Builtin.«all.loop»;refine wpAny_bind (W.done s _ _ st λh' tk kept=>?_);refine wpAny_bind (wpAny_rule ?_);have:=hR h' tk kept;rw [List.drop_of_length_le (by rw [List.length_range];exact Nat.le_refl _)] at this;exact wpAny_pure this
 | succ k ih=>
  intro i s hk hi st j hR;refine codeAny_builtin F.entry_all_loop ?_;rw [Around.under_plainId F.plain_all_loop _];unfold Builtin.«all.loop»;refine wpAny_bind (W.item i s _ _ (by lia) st λv h' tk pv st' kept=>?_);have j':=keepJ _ _ j kept;refine wpAny_bind (wpAny_holding (ht _ i v _ _ j' pv λtk2=>wpAny_bind (wpAny_letGo ?_)));have ed:(List.range n).drop i=i::(List.range n).drop (i+1):=by
   rw [List.drop_eq_getElem_cons (by rw [List.length_range];lia),List.getElem_range]
  cases hb:tr i with
  | true=>
   rw [if_pos rfl];refine wpAny_pure ⟨plainId_quiet F.plain_all_loop _,ih (i+1) _ (by lia) (by lia) st' j' λh2 tk3 k2=>?_⟩;have:=hR h2 tk3 λb o nb e=>k2 b o nb (kept b o nb e);rw [ed,List.all_cons,hb,Bool.true_and] at this;exact this
  | false=>
   rw [if_neg Bool.false_ne_true];refine wpAny_bind (wpAny_rule ?_);have:=hR h' tk2 kept;rw [ed,List.all_cons,hb,Bool.false_and] at this;exact wpAny_pure this
theorem ZaI (K:PySem.W.Frag)(hc:X.calm=true)(h:X.K=K:=by rfl):Jx X (.builtin "all") (λxs H Q=>∃(p:Addr)(zs:List (Addr×List V)),xs=[.ref p]/\SqL K H p (zs.map λz=>V.ref z.1)/\(∀z∈zs,SqL K H z.1 z.2)/\Q (.bl (zs.all λz=>!z.2.isEmpty)) H):=by
 subst h;intro qQ s σ H xs us Q I rv h;obtain ⟨p,zs,rfl,hq,hz,q⟩:=h;obtain ⟨u,rfl,ru⟩:=rv.one;cases ru;obtain ⟨its,r,pl,hzl⟩:=I.list hq;have hh:X.A.in1.handled=none:=I.ok.hd hc;obtain ⟨o,eo,_⟩:=id pl.isList;have hlt:p<s.heap.objs.size:=Heap.lt_size eo;have qV:=r.length;rw [List.length_map] at qV;have ge:∀(i:Nat)(v:Value),its.toArray[i]?=some v->∃z,zs[i]?=some z/\v=.ref z.1:=λi v hv=>by
  have hv':its[i]?=some v:=by simpa using hv
  have hi:i<its.length:=(List.getElem?_eq_some_iff.mp hv').1;obtain ⟨z,e⟩:∃z,zs[i]?=some z:=⟨_,List.getElem?_eq_getElem (by lia)⟩;obtain ⟨u,hu,ru⟩:=r.get (show (zs.map λz=>V.ref z.1)[i]?=some (V.ref z.1) by rw [List.getElem?_map,e];rfl);rw [hv'] at hu;cases hu;exact ⟨z,e,ru⟩
 refine call_function_tree PySem.F.kind_all PySem.F.plain_all PySem.F.entry_all (PySem.F.args_all1 _) ?_;show wpAny _ _ (oneArg "all" ⟨[.ref p],[]⟩ >>= _) _ _ s;refine wpAny_bind (wpAny_bind (wpAny_pure (wpAny_pure ?_)));refine wpAny_bind (wpAny_pyIter_list pl.isList ?_);refine wpAny_pure ⟨plainId_quiet F.plain_all_loop _,?_⟩;have kz:∀z∈zs,∃iz:List Value,Vals z.2 iz/\s.heap.IsList z.1 iz.toArray/\z.2.length<=sizeLine:=λz hzm=>by
  obtain ⟨iz,rz,pz,lz⟩:=I.list (hz z hzm);exact ⟨iz,rz,pz.isList,lz⟩
 have zlt:∀z∈zs,z.1<s.heap.objs.size:=λz hzm=>by
  obtain ⟨iz,_,pz,_⟩:=kz z hzm;obtain ⟨o,e,_⟩:=pz;exact Heap.lt_size e
 have W:=Walks.list (prog:=X.prog) (w:=X.w) hh s.heap.objs.size p (Nat.ne_of_lt hlt) its.toArray;refine WS (J:=λh=>∀z∈zs,∃iz:List Value,Vals z.2 iz/\h.IsList z.1 iz.toArray/\z.2.length<=sizeLine/\z.1<s.heap.objs.size) W (λi=>match zs[i]? with | some z=>!z.2.isEmpty | none=>true) (λs' i v Q' E' j pv q'=>?_) (λh h' j k z hzm=>?_) its.toArray.size 0 _ rfl (Nat.zero_le _)
  ⟨⟨_,Heap.get?_push_size _ rfl,rfl,rfl⟩,pl.isList.at λo e=>Heap.get?_push_of_some _ e⟩ (λz hzm=>?_) (λh' tk hk=>?_)
 ·obtain ⟨z,ez,rfl⟩:=ge i v pv;obtain ⟨iz,rz,pz,lz,_⟩:=j z (List.mem_of_getElem? ez);rw [ez] at q';have hl:=Og;have:=rz.length;exact wpAny_truthy_list pz (by simp only [List.size_toArray];lia) (by rw [JR rz];exact q' _)
 ·obtain ⟨iz,rz,pz,lz,zl⟩:=j z hzm;refine ⟨iz,rz,pz.at λo e=>k _ o ?_ e,lz,zl⟩;intro y;have:z.1=s.heap.objs.size:=by simpa using y
  exact absurd zl (by rw [this];exact Nat.lt_irrefl _)
 ·obtain ⟨iz,rz,pz,lz⟩:=kz z hzm;exact ⟨iz,rz,pz.at λo e=>Heap.get?_push_of_some _ e,lz,zlt z hzm⟩
 ·refine ⟨.bl _,H,I.kept λb o e'=>hk b o ?_ (Heap.get?_push_of_some _ e'),?_,q⟩
  ·intro z;have:b=s.heap.objs.size:=by simpa using z
   exact absurd (Heap.lt_size e') (by rw [this];exact Nat.lt_irrefl _)
  ·show Value.bool _=Value.bool _
   congr 1
   rw [List.size_toArray,<-qV,List.drop_zero];clear hk W kz zlt ge qV hzl pl r hq hz q
   induction zs with
   | nil=>rfl
   | cons z zs ih=>
    rw [List.length_cons,List.range_succ_eq_map,List.all_cons,List.all_map,List.all_cons]
    congr 1
theorem Zbx (K:W.Frag)(hc:X.calm=true)(h:X.K=K:=by rfl):Jx X (.builtin "any") (λxs H Q=>∃(p:Addr)(bs:List Bool),xs=[.ref p]/\SqL K H p (bs.map V.bl)/\Q (.bl (bs.any id)) H):=by
 subst h;intro qQ s σ H xs us Q I rv h;obtain ⟨p,bs,rfl,hq,q⟩:=h;obtain ⟨u,rfl,ru⟩:=rv.one;cases ru;obtain ⟨its,r,pl,hz⟩:=I.list hq;have e:=Om r;have hh:X.A.in1.handled=none:=I.ok.hd hc;obtain ⟨o,eo,_⟩:=id pl.isList;have hlt:p<s.heap.objs.size:=Heap.lt_size eo;refine call_any_walk (wpAny_pyIter_list pl.isList ?_);refine ⟨s.heap.objs.size,_,_,_,_,_,λi=>bs.getD i false,rfl,Walks.list hh s.heap.objs.size p (Nat.ne_of_lt hlt) its.toArray,⟨⟨_,Heap.get?_push_size _ rfl,rfl,rfl⟩,pl.isList.at λo e=>Heap.get?_push_of_some _ e⟩,?_,λh' tk hk=>?_⟩
 ·intro i v s' Q' E' hv hq';have hv':its[i]?=some v:=by simpa using hv
  rw [e,List.getElem?_map] at hv';cases z:bs[i]? with
  | none=>rw [z] at hv';cases hv'
  | some b=>
   rw [z] at hv';cases hv';have eb:bs.getD i false=b:=by rw [List.getD_eq_getElem?_getD,z];rfl
   exact wpAny_truthy_bool (by rw [<-eb];exact hq')
 ·have hl:its.toArray.size=bs.length:=by rw [List.size_toArray,e,List.length_map]
  refine ⟨.bl _,H,I.kept λb o e'=>hk b o ?_ (Heap.get?_push_of_some _ e'),?_,q⟩
  ·intro z;have:b=s.heap.objs.size:=by simpa using z
   exact absurd (Heap.lt_size e') (by rw [this];exact Nat.lt_irrefl _)
  ·show Value.bool _=Value.bool _
   congr 1
   rw [hl];clear hk hl hz pl r hq e q
   induction bs with
   | nil=>rfl
   | cons b bs ih=>
    rw [List.length_cons,List.range_succ_eq_map,List.any_cons,List.any_map,List.any_cons];show (b || _)=(b || _)
    congr 1
theorem Vx:bootBuiltins "any" = some (.builtin "any"):=by first | rfl | decide +kernel
end
end L2
namespace L2
open PySem PySem.Spec PyProof.Rows
mutual
inductive Th (H:Hp):V->PyData->Prop
 | non:Th H .non .none
 | bl (b:Bool):Th H (.bl b) (.bool b)
 | int (i:Int):Th H (.int i) (.int i)
 | str (x:Str):Th H (.str x) (.str x)
 | lst {a:Addr} {xs:List V} {ds:List PyData}:H a=some (.lst xs)->xs.length<=1000->Ths H xs ds->Th H (.ref a) (.list ds)
 | tup {a:Addr} {xs:List V} {ds:List PyData}:H a=some (.tup xs)->xs.length<=1000->Ths H xs ds->Th H (.ref a) (.tuple ds)
inductive Ths (H:Hp):List V->List PyData->Prop
 | nil:Ths H [] []
 | cons {x:V} {d:PyData} {xs:List V} {ds:List PyData}:Th H x d->Ths H xs ds->Ths H (x::xs) (d::ds)
end
mutual
theorem Th.same {H H':Hp}(s:Same H H'):∀{v:V}{d:PyData},Th H v d->Th H' v d
 | _,_,.non=>.non
 | _,_,.bl b=>.bl b
 | _,_,.int i=>.int i
 | _,_,.str x=>.str x
 | _,_,.lst e z h=>.lst (s _ _ e) z (Ths.same s h)
 | _,_,.tup e z h=>.tup (s _ _ e) z (Ths.same s h)
theorem Ths.same {H H':Hp}(s:Same H H'):∀{vs:List V}{ds:List PyData},Ths H vs ds->Ths H' vs ds
 | _,_,.nil=>.nil
 | _,_,.cons h t=>.cons (Th.same s h) (Ths.same s t)
end
section
variable {X:Cx}{a:Expr}{ta:TE}{pos:Pos}
theorem WT (K:W.Frag)(h:X.K=K:=by rfl):Jx X (.type "tuple") (λxs H Q=>∃p ys,xs=[.ref p]/\((SqL K H p ys/\∀l,H l=none->Q (.ref l) (upd H l (.tup ys)))\/(SqT K H p ys/\Q (.ref p) H))):=h▸OP
end
end L2
namespace L2
open PySem PySem.Spec PyProof.Rows
section
variable {prog:Program}{w:World}{A:Around}{E:Value->Shared->Prop}{s:Shared}
theorem WU {it d:Addr}{i ep:Nat}{es:Array DictEntry}{o:Obj}{e:DictEntry}{Q:Value->Shared->Prop}(hit:s.heap.IsKeyIter it d i es.size ep)(ho:s.heap.get? d=some o)(hd:o.data=.dict es ep)(hi:es[i]?=some e)(q:∀h',h'.IsKeyIter it d (i+1) es.size ep->Heap.SameBut it s.heap h'->Q e.key { s with heap:=h' }):wpAny (model prog w) A (Builtin.«dict_keyiterator.__next__» ⟨[.ref it],[]⟩) (λfin s'=>∃v,fin=.done (.ret v)/\Q v s') E s:=by
 obtain ⟨⟨c0,d0,t0,sl0⟩,hoi,hci,hdi⟩:=id hit;subst hci hdi;have T:=hit.typeIs
 wp_walk using wpAny_fieldsOf hoi rfl,wpAny_dictEntries ho hd,wpAny_dictEpoch ho hd,wpAny_typeNameOfWhole_keyiter T,wpAny_isOneOf_keyiter T
 rw [if_neg (by lia),Int.toNat_natCast,hi]
 wp_walk using wpAny_typeNameOfWhole_keyiter T,wpAny_isOneOf_keyiter T,wpAny_setField hoi rfl
 case hi=>exact (by decide:(0:Nat)+1<4)
 case h=>
  have K1:(s.heap.update it (Obj.mapFields (·.setIfInBounds 1 (rawInt ((i:Int)+1))))).IsKeyIter it d (i+1) es.size ep:=by
   exact ⟨_,Heap.get?_update_self _ hoi rfl,rfl,rfl⟩
  have B1:Heap.SameBut it s.heap (s.heap.update it (Obj.mapFields (·.setIfInBounds 1 (rawInt ((i:Int)+1))))):=Heap.SameBut.update ..;have T1:=K1.typeIs (s:={ s with heap:=s.heap.update it (Obj.mapFields (·.setIfInBounds 1 (rawInt ((i:Int)+1)))) });show wpAny _ _ _ _ _ { s with heap:=s.heap.update it (Obj.mapFields (·.setIfInBounds 1 (rawInt ((i:Int)+1)))) };generalize s.heap.update it (Obj.mapFields (·.setIfInBounds 1 (rawInt ((i:Int)+1))))=h1 at K1 B1 T1 ⊢
  wp_walk using wpAny_isOneOf_keyiter T1
  exact ⟨_,rfl,q _ K1 B1⟩
theorem WV {it d:Addr}{i ep:Nat}{es:Array DictEntry}{o:Obj}{Q:Value->Shared->Prop}(hh:A.handled=none)(hit:s.heap.IsKeyIter it d i es.size ep)(ho:s.heap.get? d=some o)(hd:o.data=.dict es ep)(hi:es[i]?=none)(q:∀h' e,(∀c o,c≠it->s.heap.get? c=some o->h'.get? c=some o)->(∃o,h'.get? e=some o/\o.cls=.type "StopIteration")->E (.ref e) { s with heap:=h' }):wpAny (model prog w) A (Builtin.«dict_keyiterator.__next__» ⟨[.ref it],[]⟩) (λfin s'=>∃v,fin=.done (.ret v)/\Q v s') E s:=by
 obtain ⟨⟨c0,d0,t0,sl0⟩,hoi,hci,hdi⟩:=id hit;subst hci hdi;have T:=hit.typeIs
 wp_walk using wpAny_fieldsOf hoi rfl,wpAny_dictEntries ho hd,wpAny_dictEpoch ho hd,wpAny_typeNameOfWhole_keyiter T,wpAny_isOneOf_keyiter T
 rw [if_neg (by lia),Int.toNat_natCast,hi]
 wp_walk using wpAny_typeNameOfWhole_keyiter T,wpAny_setField hoi rfl
 case hi=>exact (by decide:(0:Nat)<4)
 case h=>
  have B1:Heap.SameBut it s.heap (s.heap.update it (Obj.mapFields (·.setIfInBounds 0 Value.none))):=Heap.SameBut.update ..;show wpAny _ _ _ _ _ { s with heap:=s.heap.update it (Obj.mapFields (·.setIfInBounds 0 Value.none)) };generalize s.heap.update it (Obj.mapFields (·.setIfInBounds 0 Value.none))=h1 at B1 ⊢
  wp_walk using wpAny_raiseNew_none hh
  exact q _ _ (λc o n e=>Heap.get?_push_of_some _ (Heap.get?_push_of_some _ (by rw [B1.2 c n];exact e))) ⟨_,Heap.get?_push_size _ rfl,rfl⟩
theorem WW {it d:Addr}{i ep:Nat}{es:Array DictEntry}{o:Obj}{e:DictEntry}{Q:Option Value->Shared->Prop}(hit:s.heap.IsKeyIter it d i es.size ep)(ho:s.heap.get? d=some o)(hd:o.data=.dict es ep)(hi:es[i]?=some e)(q:∀h',h'.IsKeyIter it d (i+1) es.size ep->Heap.SameBut it s.heap h'->Q (some e.key) { s with heap:=h' }):wpAny (model prog w) A (pyNext (.ref it)) Q E s:=by
 refine wpAny_bind (wpAny_attempt (wpAny_callSpecial?_slot hit.typeIs F.slot_dict_keyiterator_next (wpAny_call_entry F.slot_dict_keyiterator_next hit.typeIs F.entry_dict_keyiterator_next (WU hit ho hd hi λh' k b=>?_) (F.args_dict_keyiterator_next_1 _))))
 wp_walk
 exact q h' k b
theorem WX {it d:Addr}{i ep:Nat}{es:Array DictEntry}{o:Obj}{Q:Option Value->Shared->Prop}(hh:A.in1.handled=none)(hit:s.heap.IsKeyIter it d i es.size ep)(ho:s.heap.get? d=some o)(hd:o.data=.dict es ep)(hi:es[i]?=none)(q:∀h',(∀c o,c≠it->s.heap.get? c=some o->h'.get? c=some o)->Q none { s with heap:=h' }):wpAny (model prog w) A (pyNext (.ref it)) Q E s:=by
 refine wpAny_bind (wpAny_attempt (wpAny_callSpecial?_slot hit.typeIs F.slot_dict_keyiterator_next (wpAny_call_entry F.slot_dict_keyiterator_next hit.typeIs F.entry_dict_keyiterator_next (WV hh hit ho hd hi ?_) (F.args_dict_keyiterator_next_1 _))));rintro h' e k ⟨o',e1,e2⟩;exact wpAny_bind (wpAny_isInstance ⟨o',e1,e2⟩ isSubtype_stop (wpAny_pure (q h' k)))
theorem WY {d:Addr}{ep:Nat}{es:Array DictEntry}{o:Obj}{Q:Value->Shared->Prop}(hs:(d == sysModules)=false)(ho:s.heap.get? d=some o)(hc:o.ExactDict)(hd:o.data=.dict es ep)(q:∀h',h'.IsKeyIter s.heap.objs.size d 0 es.size ep->(∀c o,s.heap.get? c=some o->h'.get? c=some o)->Q (.ref s.heap.objs.size) { s with heap:=h' }):wpAny (model prog w) A (pyIter (.ref d)) Q E s:=by
 have T:s.TypeIs (.ref d) "dict" := ⟨o,ho,hc.1⟩;refine wpAny_pyIter_slot T F.slot_dict_iter (wpAny_call_entry F.slot_dict_iter T F.entry_dict_iter ?_ (F.args_dict_iter_1 _))
 wp_walk using wpAny_notOrdered_dict T,wpAny_dictEntries ho hd,wpAny_dictEpoch ho hd
 exact ⟨_,rfl, "dict_keyiterator", _,⟨_,Heap.get?_push_size _ rfl,rfl⟩,F.slot_dict_keyiterator_next.lookup,q _ ⟨_,Heap.get?_push_size _ rfl,rfl,rfl⟩ λc o e=>Heap.get?_push_of_some _ e⟩
end
end L2
namespace L2
open PySem PySem.Spec PyProof.Rows
section
variable {X:Cx}
theorem Inv.freezeT {qQ:List (Addr×Obj)}{σ:St}{H:Hp}{s:Shared}{a:Addr}{kvs:List (List Key×V)}(I:Inv X qQ σ H s)(e:H a=some (.dT kvs)):∃o,Inv X qQ σ (upd H a (.frz o (.dT kvs))) s:=by
 have ob:ObjOk X.prog X.w H s.heap a (.dT kvs):=I.hok a _ e;obtain ⟨z,hd,xs,r,o,es,ep,h1,h2⟩:=id ob;have nt:∀b ys,H b=some (.tup ys)->upd H a (.frz o (.dT kvs)) b=some (.tup ys):=λb ys q=>by rw [Gn (JZ q e (λz=>by cases z))];exact q
 refine ⟨o,I.write (x:=a) (e:=a) (o:=.frz o (.dT kvs)) (h':=s.heap) (t':=s.toks) (by rw [e];exact True.intro) (.inl rfl) (λb u _ q=>q) ⟨_,h1⟩ ⟨h1,z,hd,xs,Paired.mapP r λp q y=>⟨y.1,nt _ _ y.2.1,y.2.2⟩,o,es,ep,h1,h2⟩⟩
def ItT (a:Addr)(o:Obj)(kvs:List (List Key×V)):It:=
 ⟨λi H=>H a=some (.frz o (.dT kvs))/\i<kvs.length,λi H x H'=>H'=H/\∃k v b,kvs[i]?=some (k,v)/\x=.ref b/\H b=some (.tup (k.map kV)),λi H=>H a=some (.frz o (.dT kvs))/\kvs.length<=i⟩
theorem XW {α β:Type}{F:α->β->Prop}{l:List α}{m:List β}(h:Paired F l m):∀{i:Nat}{x:α},l[i]?=some x->∃y,m[i]?=some y/\F x y:=by
 induction h with
 | nil=>intro i x e;simp at e
 | @cons p q _ _ r _ ih=>
  intro i x e;cases i with
  | zero=>simp at e;subst e;exact ⟨q,by simp,r⟩
  | succ i=>simp at e;obtain ⟨y,h1,h2⟩:=ih e;exact ⟨y,by simpa using h1,h2⟩
theorem O2 {qQ:List (Addr×Obj)}{σ:St}{H:Hp}{s:Shared}{a:Addr}{o:Obj}{kvs:List (List Key×V)}(I:Inv X qQ σ H s)(e:H a=some (.frz o (.dT kvs))) :
  (a == sysModules)=false/\s.heap.get? a=some o/\o.ExactDict/\∃es ep,o.data=.dict es ep/\es.size=kvs.length/\∀(i:Nat) k v,kvs[i]?=some (k,v)->∃(de:DictEntry)(b:Addr),es[i]?=some de/\de.key=.ref b/\H b=some (.tup (k.map kV)):=by
 obtain ⟨h1,z,hd,xs,r,o',es,ep,h2,h3,h4,h5,h6⟩:=(show ObjOk X.prog X.w H s.heap a (.frz o (.dT kvs)) from I.hok a _ e);rw [h1] at h2;cases h2;refine ⟨hd,h1,h3,es,ep,h4,?_,λi k v hi=>?_⟩
 ·rw [<-Array.length_toList,h5,List.length_map,Paired.length r]
 ·obtain ⟨⟨k',b,u⟩,hq,e1,e2,_⟩:=XW r hi;refine ⟨entryOfKey (tupleKind (Gy X.prog X.w)) (k',b,u),b,?_,rfl,e2⟩;rw [<-Array.getElem?_toList,h5,List.getElem?_map,hq]
  rfl
theorem VZ {P:Program}{w:World}{K:W.Frag}{tg:Expr}(a it:Addr)(o:Obj)(kvs:List (List Key×V))(es:Array DictEntry)(ep:Nat)(ho:o.data=.dict es ep)(hsz:es.size=kvs.length) :
  Ye P w K tg (ItT a o kvs) [it] it (λi h=>h.IsKeyIter it a i es.size ep) where
 mem:=by simp
 obj:=λi h st b hb=>by
  have e:b=it:=by simpa using hb
  subst e;obtain ⟨o,e,c,d⟩:=st;exact ⟨o,e,λv z=>by rw [d] at z;cases z⟩
 keep:=λi h h' st k=>by
  obtain ⟨o,e,c,d⟩:=st;exact ⟨o,k it (by simp) o e,c,d⟩
 item:=by
  intro X hP hw hK hc i qQ s σ H E I hf st hg;subst hP hw hK;obtain ⟨hq,hi⟩:=hg;obtain ⟨hd,h1,h2,es',ep',h3,h4,h5⟩:=O2 I hq;rw [ho] at h3;cases h3;obtain ⟨⟨k,v⟩,hx⟩:∃x,kvs[i]?=some x:=⟨_,List.getElem?_eq_getElem hi⟩;obtain ⟨de,b,hde,hkey,hb⟩:=h5 i k v hx;obtain ⟨f0,f1,f2,f3,f4,f5⟩:=hf it (by simp);refine WW st h1 ho hde λh' st' sb=>?_;have I1:Inv X qQ σ H { s with heap:=h' }:=I.turned (t':=s.toks) (λb o hb e=>(sb.2 b hb).trans e) f0 f1 f3 f4 f5;obtain ⟨o',e,c,d⟩:=id st';exact ⟨de.key,rfl,V6 (s:={ s with heap:=h' }) e c d (by decide) ⟨.ref b,H,I1,hkey,⟨rfl,k,v,b,hx,rfl,hb⟩,st',λb hb=>(hf b hb).1⟩⟩
 done:=by
  intro X hP hw hK hc i qQ s σ H E I hf st hg;subst hP hw hK;obtain ⟨hq,hi⟩:=hg;obtain ⟨hd,h1,h2,es',ep',h3,h4,h5⟩:=O2 I hq;rw [ho] at h3;cases h3;obtain ⟨f0,f1,f2,f3,f4,f5⟩:=hf it (by simp);exact WX (I.ok.hd hc) st h1 ho (Array.getElem?_eq_none (by lia)) λh' eb=>⟨rfl,I.turned (t':=s.toks) (λb o hb e=>eb b o hb e) f0 f1 f3 f4 f5⟩
 self:=λ_ _ _ _ _ st h=>wpAny_pyIter_keyiter st h
def Z2 (tl:TE):TI:=λσ H R=>tl σ H λx H1=>∃a kvs,x=.ref a/\((H1 a=some (.dT kvs)/\∀o,R (ItT a o kvs) (upd H1 a (.frz o (.dT kvs))))\/∃o,H1 a=some (.frz o (.dT kvs))/\R (ItT a o kvs) H1)
theorem Vy {tg l:Expr}{tl:TE}(hl:PE X l tl):PI X tg l (Z2 tl):=by
 intro qQ s σ H R I h;refine thn (hl qQ s σ H _ I h) λv s1 ⟨x,H1,I1,r1,q1⟩=>?_;obtain ⟨a,kvs,e,q⟩:=q1;subst e;cases r1;obtain ⟨o,H2,I2,hq,q2⟩:∃o H2,Inv X qQ σ H2 s1/\H2 a=some (.frz o (.dT kvs))/\R (ItT a o kvs) H2:=by
  rcases q with ⟨e,q⟩ | ⟨o,e,q⟩
  ·obtain ⟨o,I2⟩:=I1.freezeT e;exact ⟨o,_,I2,Gb,q o⟩
  ·exact ⟨o,H1,I1,e,q⟩
 obtain ⟨hd,h1,h2,es,ep,h3,h4,h5⟩:=O2 I2 hq;refine WY hd h1 h2 h3 λh' st kp=>?_;refine ⟨s1.heap.objs.size,[s1.heap.objs.size],_,_,H2,rfl,I2.kept (t':=s1.toks) kp,VZ a _ o kvs es ep h3 h4,st,λb hb=>?_,q2⟩;have e:b=s1.heap.objs.size:=by simpa using hb
 subst e;exact I2.fpOk (Nat.le_refl _) (I2.hok.fresh (Nat.le_refl _))
theorem WZ {a:Addr}{o:Obj}{kvs:List (List Key×V)}{g:TG}{tb:TS}{D:VI}{σ:St}{H:Hp}(Pv:Nat->St->Hp->Prop)(h0:Pv 0 σ H)(hl:∀i σ H,i<=kvs.length->Pv i σ H->H a=some (.frz o (.dT kvs)))(hs:∀i k v b σ H,kvs[i]?=some (k,v)->H b=some (.tup (k.map kV))->Pv i σ H->g (.ref b) σ H λσ2 H2=>tb { D with nx:=Pv (i+1),ct:=Pv (i+1),bk:=D.nx } σ2 H2)(hd:∀ σ H,Pv kvs.length σ H->D.nx σ H) :
  ∃W:Nat->Nat->St->Hp->Prop,(∃m,W 0 m σ H)/\∀i m σ H,W i m σ H ->
   ((ItT a o kvs).stop i H/\D.nx σ H)\/((ItT a o kvs).go i H/\∃N:St->Hp->Prop,(∀ σ' H',N σ' H'->∃m',m'<m/\W (i+1) m' σ' H')/\∀x H',(ItT a o kvs).yld i H x H'->g x σ H' λσ2 H2=>tb { D with nx:=N,ct:=N,bk:=D.nx } σ2 H2):=by
 refine ⟨λi m σ H=>m=kvs.length-i/\i<=kvs.length/\Pv i σ H,⟨_,rfl,Nat.zero_le _,h0⟩,?_⟩;rintro i m σ H ⟨rfl,hi,p⟩;have q:=hl i σ H hi p;by_cases hlt:i<kvs.length
 ·refine .inr ⟨⟨q,hlt⟩,Pv (i+1),λσ' H' p'=>⟨kvs.length-(i+1),by lia,rfl,hlt,p'⟩,λx H' y=>?_⟩;obtain ⟨e,k,v,b,ek,rfl,eb⟩:=y;subst e;exact hs i k v b σ _ ek eb p
 ·have e:i=kvs.length:=by lia
  subst e;exact .inl ⟨⟨q,Nat.le_refl _⟩,hd σ H p⟩
theorem V0 {a D:Addr}{o:Obj}{kvs:List (List Key×V)}{g:TG}{tc:TT}{te:TE}{σ0:St}{R:Hp->Prop}{H1:Hp}(Pv:Nat->List V->Hp->Prop)(h0:Pv 0 [] (upd H1 D (.lst [])))(hl:∀i ys H,i<=kvs.length->Pv i ys H->H a=some (.frz o (.dT kvs)))(hs:∀i k v b ys H,kvs[i]?=some (k,v)->H b=some (.tup (k.map kV))->Pv i ys H->g (.ref b) σ0 H λσ4 H4=>JI σ0 σ4/\tc σ4 H4 λc H5=>if c=true then te σ4 H5 λy H6=>H6 D=some (.lst ys)/\ys.length<sizeLine/\Pv (i+1) (ys++[y]) (upd H6 D (.lst (ys++[y]))) else Pv (i+1) ys H5)(hd:∀ys H,Pv kvs.length ys H->R H):∃W:Nat->Nat->List V->Hp->Prop,(∃m,W 0 m [] (upd H1 D (.lst [])))/\GX (ItT a o kvs) D g tc te σ0 W R:=by
 refine ⟨λi m ys H=>m=kvs.length-i/\i<=kvs.length/\Pv i ys H,⟨_,rfl,Nat.zero_le _,h0⟩,?_⟩;rintro i m ys H ⟨rfl,hi,p⟩;have q:=hl i ys H hi p;by_cases hlt:i<kvs.length
 ·refine .inr ⟨⟨q,hlt⟩,Pv (i+1),λys' H' p'=>⟨kvs.length-(i+1),by lia,rfl,hlt,p'⟩,λx H' y=>?_⟩;obtain ⟨e,k,v,b,ek,rfl,eb⟩:=y;subst e;exact hs i k v b ys _ ek eb p
 ·have e:i=kvs.length:=by lia
  subst e;exact .inl ⟨⟨q,Nat.le_refl _⟩,hd ys H p⟩
end
end L2
namespace L2
open PySem PySem.Spec PyProof.Rows Classical
section
variable {prog:Program}{w:World}{A:Around}{E:Value->Shared->Prop}{s:Shared}{b:Keyed->Keyed->Bool}{good:Keyed->Prop}
theorem W0 (h:∀x y,good x->good y->∀{E':Value->Shared->Prop}{Q:Bool->Shared->Prop},Q (b x y) s->wpAny (model prog w) A (keyLt' (tuples' true) x.1 y.1) Q E' s):J0 (model prog w) A E s (tuples' true) b good:=by
 intro x y st Q gx gy hs q;rw [lt'_eq];refine wpS_bind (wpS_get ?_);refine wpS_bind (wpS_lift ?_);rw [hs];exact wpAny_attempt (h x y gx gy ⟨rfl,wpS_pure q⟩)
theorem U7 {h:Heap}{a:Addr}{xs ys:Array Value}(h1:h.IsTuple a xs)(h2:h.IsTuple a ys):xs=ys:=by
 obtain ⟨o,e,_,n,d⟩:=h1;obtain ⟨o',e',_,n',d'⟩:=h2;rw [e] at e';cases e';rw [d] at d';cases d'
 rfl
end
end L2
namespace L2
open PySem PySem.Spec PyProof.Rows Classical
abbrev kvI (x:List Int×Int):List Key×V:=(x.1.map Sum.inl,.int x.2)
theorem UC (ns:List Int):(ns.map (Sum.inl:Int->Key)).map kV=ns.map V.int:=by rw [List.map_map];rfl
end L2
namespace L2
open PySem PySem.Spec PyProof.Rows
variable {X:Cx}
theorem UD:∀{ys:List Str}{its:List Value},Vals (ys.map V.str) its->∃l:List (Str×Tok),strValues l=its/\l.map (·.1)=ys
 | [],_,h=>by cases h;exact ⟨[],rfl,rfl⟩
 | y::ys,_,h=>by
  cases h with
  | cons r h=>
   obtain ⟨t,rfl⟩:=r;obtain ⟨l,rfl,e⟩:=UD h;exact ⟨(y,t)::l,rfl,by rw [List.map_cons,e]⟩
theorem Y2 (K:W.Frag)(hK:X.K=K:=by rfl):MtR X "str.join" (λx xs H Q=>∃a l ys,x=.str a/\xs=[.ref l]/\SqL K H l (ys.map V.str)/\JoinOk a ys=true/\Q (.str (Txt.join a ys)) H):=by
 subst hK;intro qQ s σ H x xs v us Q I rx rv h;obtain ⟨a,l,ys,rfl,rfl,hl,hj,q⟩:=h;obtain ⟨u,rfl,ru⟩:=rv.one;cases ru;obtain ⟨t',rfl⟩:=rx;obtain ⟨its,hv,pl,_⟩:=I.list hl;obtain ⟨ls,rfl,e⟩:=UD hv;exact SC.join pl.isList e hj λt' k=>⟨.str _,H,I.tok _,⟨_,rfl⟩,q⟩
end L2
namespace L2
open PySem PySem.Spec PyProof.Rows Classical
theorem Y3 {a b:Str}(h:a.cps.toList=b.cps.toList):a=b:=by
 cases a;cases b
 congr 1
 exact Array.toList_inj.mp h
def Ow (a b:Str×Int):Bool:=decide (a.1.cps.toList<b.1.cps.toList) || (decide (a.1=b.1) && decide (a.2<b.2))
theorem slt_iff {a b:Str×Int}:Ow a b=true↔a.1.cps.toList<b.1.cps.toList\/(a.1=b.1/\a.2<b.2):=by simp [Ow]
theorem W2 (a:Str×Int):Ow a a=false:=by simp [Ow,List.lt_irrefl]
theorem Z3 {a b c:Str×Int}(h1:Ow a b=true)(h2:Ow b c=true):Ow a c=true:=by
 rcases slt_iff.mp h1 with h1 | ⟨h1,k1⟩ <;> rcases slt_iff.mp h2 with h2 | ⟨h2,k2⟩
 ·exact slt_iff.mpr (.inl (List.lt_trans h1 h2))
 ·exact slt_iff.mpr (.inl (h2▸h1))
 ·exact slt_iff.mpr (.inl (h1▸h2))
 ·exact slt_iff.mpr (.inr ⟨h1.trans h2,by lia⟩)
theorem Y4 {a b:Str×Int}(h1:Ow a b=false)(h2:Ow b a=false):a=b:=by
 have h1:(a.1.cps.toList<b.1.cps.toList\/(a.1=b.1/\a.2<b.2))->False:=λz=>by rw [slt_iff.mpr z] at h1;cases h1
 have h2:(b.1.cps.toList<a.1.cps.toList\/(b.1=a.1/\b.2<a.2))->False:=λz=>by rw [slt_iff.mpr z] at h2;cases h2
 have e:a.1=b.1:=Y3 (List.le_antisymm (List.not_lt.mp λz=>h2 (.inl z)) (List.not_lt.mp λz=>h1 (.inl z)));refine Prod.ext e ?_;rcases Int.lt_trichotomy a.2 b.2 with h | h | h
 ·exact (h1 (.inr ⟨e,h⟩)).elim
 ·exact h
 ·exact (h2 (.inr ⟨e.symm,h⟩)).elim
def IsSI (h:Heap)(a:Addr)(x:Str×Int):Prop:=∃t u:Tok,h.IsTuple a #[.str x.1 t,.int x.2 u]
theorem IsSI.one {h:Heap}{a:Addr}{x y:Str×Int}(h1:IsSI h a x)(h2:IsSI h a y):x=y:=by
 obtain ⟨t,u,p1⟩:=h1;obtain ⟨t',u',q1⟩:=h2;have e:=U7 p1 q1;simp only [Array.mk.injEq,List.cons.injEq,Value.int.injEq,Value.str.injEq,and_true] at e;exact Prod.ext e.1.1 e.2.1
noncomputable def Y5 (h:Heap)(v:Value):Str×Int:=if q:∃x a,v=.ref a/\IsSI h a x then choose q else (Str.empty,0)
theorem O3 {h:Heap}{a:Addr}{x:Str×Int}(hx:IsSI h a x):Y5 h (.ref a)=x:=by
 have q:∃x a',Value.ref a=.ref a'/\IsSI h a' x:=⟨x,a,rfl,hx⟩;unfold Y5;rw [dif_pos q];obtain ⟨a',e,h1⟩:=choose_spec q;cases e;exact h1.one hx
theorem ZaJ (h:Heap):WO (λx y=>Ow (Y5 h x.1) (Y5 h y.1)):=ZZ (κ:=λx:Keyed=>Y5 h x.1) (lt:=Ow) W2 Z3 Y4
theorem IsSI.keep {h h':Heap}{a:Addr}{x:Str×Int}(k:∀c o,h.get? c=some o->h'.get? c=some o)(p:IsSI h a x):IsSI h' a x:=by
 obtain ⟨t,u,⟨o,e,r⟩⟩:=p;exact ⟨t,u,⟨o,k _ _ e,r⟩⟩
section
variable {prog:Program}{w:World}{A:Around}{E:Value->Shared->Prop}{s:Shared}
theorem ZaK {a c:Addr}{x y:Str×Int}{Q:Bool->Shared->Prop}(px:IsSI s.heap a x)(py:IsSI s.heap c y)(q:Q (Ow x y) s):wpAny (model prog w) A.in1 (keyLt' (tuples' true) (.ref a) (.ref c)) Q E s:=by
 obtain ⟨t1,u1,⟨o1,g1,_,n1,d1⟩⟩:=px;obtain ⟨t2,u2,⟨o2,g2,_,n2,d2⟩⟩:=py;refine W.kat_lt g1 d1 g2 d2 ?_;refine W.kat_cons (PyProof.Rows.eqBool_str (W.kat_go (λhe=>W.kat_yes (W.kat_cons (wpAny_eqBool_int (W.kat_go (λhe2=>W.kat_yes (W.kat_nil ?_)) λhe2=>W.kat_no ?_)))) λhe=>W.kat_no ?_))
 ·have e1:x.1=y.1:=by simpa using he
  have e2:x.2=y.2:=by simpa using he2
  have:Ow x y=false:=by rw [Prod.ext e1 e2];exact W2 y
  rw [this] at q;simpa using q
 ·have e1:x.1=y.1:=by simpa using he
  have:Ow x y=decide (x.2<y.2):=by simp [Ow,e1,List.lt_irrefl]
  rw [this] at q;exact W.kat_one _ _ (PyProof.Rows.lt_int q)
 ·have e1:x.1≠y.1:=by simpa using he
  have:Ow x y=decide (x.1.cps.toList<y.1.cps.toList):=by simp [Ow,e1]
  rw [this] at q;exact oneLt_str q
end
section
variable {X:Cx}(K:W.Frag)
abbrev SIz:=Addr×(Str×Int)
def Y6:List V->Hp->VK->Prop:=λxs H Q=>∃(p:Addr)(zs:List SIz),xs=[.ref p]/\SqL K H p (zs.map λz=>V.ref z.1)/\(∀z∈zs,SqT K H z.1 [.str z.2.1,.int z.2.2]) /\
 ∀(l:Addr)(zs':List SIz),H l=none->zs'.Perm zs->(zs'.map (·.2)).Pairwise (λa b=>Ow b a=false)->Q (.ref l) (upd H l (.lst (zs'.map λz=>V.ref z.1)))
theorem W4:∀{zs:List SIz}{its:List Value},Vals (zs.map λz=>V.ref z.1) its->its=zs.map λz=>Value.ref z.1
 | [],_,h=>by cases h;rfl
 | z::zs,_,h=>by
  cases h with
  | cons r h=>
   cases r;rw [W4 h]
   rfl
theorem W5:∀(zs:List SIz),Vals (zs.map λz=>V.ref z.1) (zs.map λz=>Value.ref z.1)
 | []=>.nil
 | z::zs=>.cons rfl (W5 zs)
theorem Y7 (h:X.K=K:=by rfl):Jx X (.builtin "sorted") (Y6 K):=by
 subst h;intro qQ s σ H xs us Q I rv h;obtain ⟨p,zs,rfl,hq,hz,q⟩:=h;obtain ⟨u,rfl,ru⟩:=rv.one;cases ru;obtain ⟨its,r,pl,hzl⟩:=I.list hq;have hl:=r.length;rw [List.length_map] at hl hzl;have ei:=W4 r;have key:∀z∈zs,IsSI s.heap z.1 z.2:=λz hzm=>by
  obtain ⟨iz,rz,pz,_⟩:=I.tuple (hz z hzm);obtain ⟨u,v,rfl,⟨t,rfl⟩,⟨t',rfl⟩⟩:=rz.two;exact ⟨t,t',pz⟩
 have isL:∀v∈its,∃a x,v=.ref a/\IsSI s.heap a x:=λv hv=>by
  rw [ei] at hv;obtain ⟨z,hzm,rfl⟩:=List.mem_map.mp hv;exact ⟨z.1,_,rfl,key z hzm⟩
 have tups:∀(h':Heap),(∀c o,s.heap.get? c=some o->h'.get? c=some o)->∀vs:List Value,(∀v∈vs,∃a x,v=.ref a/\IsSI s.heap a x)->∃fs:List Value,W.KatTups h' vs fs/\fs.length=vs.length/\∀f∈fs,∃(b:Str)(t:Tok),f=.str b t:=by
  intro h' k vs
  induction vs with
  | nil=>intro _;exact ⟨[],.nil,rfl,λf hf=>by cases hf⟩
  | cons v vs ih=>
   intro h;obtain ⟨fs,h1,h2,h3⟩:=ih λx hx=>h x (List.mem_cons_of_mem _ hx);obtain ⟨a,x,rfl,px⟩:=h v (List.mem_cons_self ..);obtain ⟨t,u,⟨o,e,c,n,d⟩⟩:=px.keep k;refine ⟨.str x.1 t::fs,.cons e c d rfl h1,by simp [h2],λf hf=>?_⟩;rcases List.mem_cons.mp hf with rfl | hf
   ·exact ⟨_,_,rfl⟩
   ·exact h3 f hf
 refine VX (kd:=tuples' true) (good:=λx=>∃a y,x.1=.ref a/\IsSI s.heap a y) (ZaJ s.heap) pl.isList (by lia) isL (λh' k h2 E' R q=>?_) (λh' k=>W0 λx y gx gy E' Q q=>?_) λout hp hr=>?_
 ·obtain ⟨fs,t1,t2,t3⟩:=tups h' k its isL;exact W.kat_kind (T:=.type "str") t1 (by lia) (λv hv=>by obtain ⟨b,t,rfl⟩:=t3 v hv;exact .now) rfl q
 ·obtain ⟨a,y1,e1,h1⟩:=gx;obtain ⟨c,y2,e2,h2⟩:=gy;simp only [e1,e2,O3 h1,O3 h2] at q ⊢;exact ZaK (A:=X.A.in1) (h1.keep k) (h2.keep k) q
 ·obtain ⟨o1,o2,o3⟩:=XU hp;obtain ⟨e,he⟩:=sortedAll_at s.heap its (out.map (·.2));rw [ei] at o1;obtain ⟨zs',p1,p2⟩:=WP o1;have ps:(zs'.map (·.2)).Pairwise (λa b=>Ow b a=false):=by
   have a1:=UB hr o3;have a2:(out.toList.map (·.2)).Pairwise (λu v=>Ow (Y5 s.heap v) (Y5 s.heap u)=false):=by
    rw [List.pairwise_map];refine a1.imp_of_mem λ{x y} hx hy hxy=>?_;rw [<-(o2 x hx).1,<-(o2 y hy).1];exact hxy
   rw [Array.toList_map] at p2;rw [<-p2,List.pairwise_map] at a2;rw [List.pairwise_map];refine a2.imp_of_mem λ{x y} hx hy hxy=>?_;rw [O3 (key x (p1.mem_iff.mp hx)),O3 (key y (p1.mem_iff.mp hy))] at hxy;exact hxy
  refine ⟨.ref _,_,I.laid (a:=s.heap.objs.size+1) (t':=s.toks) (o:=.lst (zs'.map λz=>V.ref z.1)) (λb o e=>sortedAll_old e) (Nat.le_succ _) ⟨by rw [List.length_map,p1.length_eq];exact hzl,(out.map (·.2)).toList,e,by rw [<-p2];exact W5 zs',he⟩,rfl,q _ _ (I.hok.fresh (Nat.le_succ _)) p1 ps⟩
end
end L2
namespace L2
open PySem PySem.Spec PyProof.Rows
def mkS (l:List Nat):Str:=⟨l.toArray⟩
end L2
namespace L2
open PySem PySem.Spec PyProof.Rows
def Z4:TE:=λ_ H Q=>∀p,H p=none->∀o,Q (.ref p) (upd H p (.frz o (.dK [])))
theorem XX (c:Nat)(n:Nat):(List.replicate n (#[c]:Array Nat)).foldl (·++·) #[]=(List.replicate n c).toArray:=by
 have key:∀(n:Nat)(a:Array Nat),((List.replicate n (#[c]:Array Nat)).foldl (·++·) a).toList=a.toList++List.replicate n c:=by
  intro n
  induction n with
  | zero=>intro a;simp
  | succ n ih=>intro a;rw [List.replicate_succ,List.foldl_cons,ih];simp [List.replicate_succ]
 apply Array.toList_inj.mp;rw [key];simp
section
variable {X:Cx}
theorem Vz {pos:Pos}:PE X (.Dict [] [] pos) Z4:=λqQ s σ H Q I h=>
 wpAny_Dict_empty (by
  have I1:=I.laid (a:=s.heap.objs.size) (o:=.dK []) (t':=s.toks) (λ_ _ q=>Heap.get?_push_of_some _ q) (Nat.le_refl _) (Vp s.heap I.big);obtain ⟨o,I2⟩:=I1.freeze Gb;rw [J9] at I2;exact ⟨.ref s.heap.objs.size,_,I2,rfl,h _ (I.hok.fresh (Nat.le_refl _)) o⟩)
def ZaL:V->V->Hp->VK->Prop:=λx y H Q=>∃(c n:Nat),x=.str (mkS [c])/\y=.int (n:Int)/\1<=n/\n<=1000/\Q (.str (mkS (List.replicate n c))) H
theorem Y8:OpR X (binaryOp .Mult) ZaL:=by
 intro qQ s σ H x y v u Q I rx ry h;obtain ⟨c,n,rfl,rfl,h1,h2,q⟩:=h;obtain ⟨t,rfl⟩:=rx;obtain ⟨t',rfl⟩:=ry;have hn:¬ ((n:Int)<1):=by lia
 have hl:(mkS [c]).length=1:=rfl;refine P.mul_str ?_ (λ_ _=>?_) (λ_ _=>?_) ?_
 ·rw [decide_eq_false (show ¬ ((n:Int) < -(2 ^ 63:Int)) by lia),decide_eq_false (show ¬ ((n:Int)>=2 ^ 63) by lia)]
  rfl
 ·rw [hl];intro z;have:(1:Int)<=(2 ^ 63-1) / (n:Int):=Int.le_ediv_of_mul_le (by lia) (by lia)
  lia
 ·rw [hl,Int.toNat_natCast];unfold Builtin.Str.tooLong;exact decide_eq_false (by have:=sizeLine_eq;lia)
 ·rw [if_neg hn];split
  ·rename_i z;rw [hl] at z;have:n=1:=(by have z:(n:Int)=1:=(by simpa using z);lia);subst this;exact ⟨.str _,H,I,⟨_,rfl⟩,q⟩
  ·rw [Int.toNat_natCast,show (mkS [c]).cps=#[c] from rfl,XX];refine ⟨?_,.str _,H,I.tok _,⟨_,rfl⟩,q⟩;have:=sizeLine_eq;show (List.replicate n c).toArray.size<=_;rw [List.size_toArray,List.length_replicate]
   lia
end
theorem OG:∀(l:List Nat)(acc:Array Nat),((l.map λc=>mkS [c]).foldl (λacc p=>acc++(mkS []).cps++p.cps) acc).toList=acc.toList++l
 | [],acc=>by simp
 | c::l,acc=>by
  rw [List.map_cons,List.foldl_cons,OG l];simp only [Array.toList_append];show acc.toList++[]++[c]++_=_;simp
theorem V1 (l:List Nat):Txt.join (mkS []) (l.map λc=>mkS [c])=mkS l:=by
 have e:(Txt.join (mkS []) (l.map λc=>mkS [c])).cps=(mkS l).cps:=by
  apply Array.toList_inj.mp;cases l with
  | nil=>rfl
  | cons c l=>exact OG l #[c]
 generalize Txt.join (mkS []) (l.map λc=>mkS [c])=x at e;cases x;cases e
 rfl
theorem XY (l:List Nat)(h:l.length<=1000):JoinOk (mkS []) (l.map λc=>mkS [c])=true:=by
 unfold PySem.JoinOk;have key:∀(l:List Nat)(a:Nat),(l.map λc=>mkS [c]).foldl (λa s=>a+s.length+(mkS []).length) a<=a+l.length:=by
  intro l
  induction l with
  | nil=>intro a;exact Nat.le_refl _
  | cons p l ih=>
   intro a;rw [List.map_cons,List.foldl_cons];refine Nat.le_trans (ih _) ?_;have h1:(mkS [p]).length=1:=rfl;have h2:(mkS []).length=0:=rfl;rw [List.length_cons]
   lia
 have h3:=key l 0;rw [List.foldl_toArray'] <;> try rfl
 simp only [Bool.not_eq_true'];unfold Builtin.Str.tooLong;apply decide_eq_false;rw [sizeLine_eq]
 lia
end L2
namespace M
open PySem L2
def top (i:Nat):Stmt:=PySem.Challenge.pw_onceways_k74_no_grid.main.body.getD i (.Pass ⟨0,0,0,0⟩)
abbrev sGr:Stmt:=top 8
abbrev Z5:Stmt:=top 11
abbrev sLr:Stmt:=top 19
abbrev sSo:Stmt:=top 20
abbrev sFm:Stmt:=top 22
abbrev sId:Stmt:=top 23
abbrev sIl:Stmt:=top 24
abbrev sIf:Stmt:=top 25
abbrev sIm:Stmt:=top 26
abbrev sFe:Stmt:=top 27
abbrev sWr:Stmt:=top 28
abbrev sLb:Stmt:=top 29
abbrev sDe:Stmt:=top 30
abbrev sBs:Stmt:=top 42
abbrev sNb:Stmt:=top 43
abbrev sRr:Stmt:=top 45
abbrev sSg:Stmt:=top 46
abbrev sWn:Stmt:=top 47
abbrev sWb:Stmt:=top 48
abbrev sCw:Stmt:=top 49
abbrev sCb:Stmt:=top 50
abbrev sAp:Stmt:=top 51
abbrev sWf:Stmt:=top 52
abbrev sSw:Stmt:=top 54
abbrev Y9:Stmt:=top 56
abbrev sMi:Stmt:=top 57
abbrev sAs:Stmt:=top 58
abbrev sNw:Stmt:=top 59
abbrev XZ:Stmt:=top 60
structure WebAt (H:Hp)(wb l:Addr)(k:Int)(xs:List V)(rs:List (Int×Int)):Prop where
 w:H wb=some (.tup [.int k,.ref l])
 l:H l=some (.lst xs)
 p:Prs H xs rs
theorem WebAt.same {H H':Hp}{wb l:Addr}{k:Int}{xs:List V}{rs:List (Int×Int)}(h:WebAt H wb l k xs rs)(s:Same H H'):WebAt H' wb l k xs rs:=⟨s _ _ h.w,s _ _ h.l,h.p.same s⟩
section
variable {P:Program}{w:World}{K:W.Frag}{mg:Str->Option Value}{base:Heap}
theorem GZ:2<=sizeLine:=by decide
theorem G6 {p:Nat}{a:Int}(h:a.natAbs<2 ^ p:=by decide +kernel):Lt2 p a:=h
theorem Za {ns:List Int}{i:Nat}(h:i<ns.length):ns.getD i 0=ns[i]:=by
 rw [List.getD_eq_getElem?_getD,List.getElem?_eq_getElem h]
 rfl
theorem VA {ns:List Int}{i:Nat}(h:i<ns.length):ns.getD i 0∈ns:=by
 rw [Za h];exact List.getElem_mem h
theorem Jw {ns:List Int}{i:Int}(h0:0<=i)(h1:i<ns.length):atI (ns.map V.int) i=some (.int (ns.getD i.toNat 0)):=by
 obtain ⟨k,rfl⟩:=Int.eq_ofNat_of_zero_le h0;have hk:k<ns.length:=by lia
 refine G3 ?_;show (ns.map V.int)[k]?=some (.int (ns.getD k 0));rw [List.getElem?_map,List.getD_eq_getElem?_getD,List.getElem?_eq_getElem hk]
 rfl
def Z6 (K:W.Frag):Sp:=λvs H Q _=>∃(a:Addr)(ns:List Int)(k:Nat),vs=[.ref a,.int (k:Int)]/\SqL K H a (ns.map V.int)/\∀z:Int,Q (.int z) H
theorem ZaM:Go ["script", "k"] ["script", "k"] (Gd Y9):=⟨rfl,rfl,rfl,by decide +kernel,rfl,by decide +kernel,by decide +kernel⟩
theorem Z7 {f:Addr}{fd:FuncData}(F:Fun K "_law_cell_at" "_law_cell_at" Y9 f fd)(mLen:mg "len" = none):GD P w K mg base CX0 1 f fd ["script", "k"] (Z6 K):=by
 refine F.ok ZaM (λvs H Q E h=>?_) (λcdv A outer s H vs Q E hr h=>?_)
 ·obtain ⟨_,_,_,rfl,_⟩:=h
  rfl
 ·obtain ⟨a,ns,k,rfl,hS,q⟩:=h;refine ⟨_,Gc (GS (Gv UP (pv 1) (Gz (Zbv K) rfl mLen PySem.boot_len (Ga (pv 0) Ge)) (GC _)) (Gg (Gp (G4 (Zh K) (pv 0) (pv 1) (λ_ _=>rfl)))) Gu)
    (Gg (Gp Gf)),?_⟩
  refine ⟨_,rfl,_,rfl,a,_,rfl,.inl hS,_,_,rfl,rfl,_,rfl,?_⟩;rw [List.length_map];refine UJ (λz=>?_) (λ_=>q 0);have z':=of_decide_eq_true z;exact ⟨_,rfl,_,rfl,a,_,_,_,rfl,rfl,hS,Jw (by lia) z',q _⟩
end
end M
namespace M
open PySem L2
def J2 (rs:List (Int×Int))(x:Int):Nat->Int
 | 0=>-1
 | j+1=>if (rs.getD j (0,0)).1=x\/(rs.getD j (0,0)).2=x then (j:Int) else J2 rs x j
theorem VB (rs:List (Int×Int))(x:Int){i:Nat}(h:(rs.getD i (0,0)).1=x\/(rs.getD i (0,0)).2=x):∀j:Nat,i<j->(i:Int)<=J2 rs x j
 | 0,hi=>by lia
 | j+1,hi=>by
  unfold J2;split
  ·lia
  ·rename_i hn;rcases Nat.lt_or_ge i j with q | q
   ·exact VB rs x h j q
   ·have:i=j:=by lia
    subst this;exact absurd h hn
theorem VC (rs:List (Int×Int))(x:Int):∀(j i:Nat),J2 rs x j=(i:Int)->(rs.getD i (0,0)).1=x\/(rs.getD i (0,0)).2=x
 | 0,i,h=>by unfold J2 at h;lia
 | j+1,i,h=>by
  unfold J2 at h;split at h
  ·rename_i hn;have:i=j:=by lia
   subst this;exact hn
  ·exact VC rs x j i h
def JP (rs:List (Int×Int))(x:Int):Int:=J2 rs x rs.length
theorem O4 {rs:List (Int×Int)}{j:Nat}(hj:j<rs.length){p:Int}(h:(rs.getD j (0,0)).1=p\/(rs.getD j (0,0)).2=p):(j:Int)<=JP rs p:=VB rs p h rs.length hj
def gA (m:List Int)(p:Int):Int:=m.getD p.toNat 0
def GN (q:Int):Bool:=decide (0<=q\/q=-3\/q=-4)
def Je (q:Int):Bool:=decide (q=-1\/q=-5)
def Ox (q:Int):Bool:=decide (¬ (q=-2\/q=-5))
def U8 (s t q:Int):Int:=if q=s then -3 else if q=t then -4 else q
def OH (s t:Int)(m:List Int)(a:Int):Int:=if gA m a=-2 then U8 s t a else gA m a
def pW1 (m:List Int)(r:Int×Int)(fa fb:Int):List Int:=
 let c1:=(m.set r.1.toNat (-1)).set r.2.toNat (-1)
 let c2:=if 0<=fa then c1.set fa.toNat fb else c1
 if 0<=fb then c2.set fb.toNat fa else c2
abbrev nE:Int:=-9
def pC (s t:Int)(m:List Int)(r:Int×Int):List Int:=if gA m r.1=r.2 then (m.set r.1.toNat (-1)).set r.2.toNat (-1) else pW1 m r (OH s t m r.1) (OH s t m r.2)
def JC (s t:Int)(m:List Int)(r:Int×Int):Option (List Int):=
 if m.getD (m.length-1) 0=0\/Je (gA m r.1)=true\/Je (gA m r.2)=true then none
 else if gA m r.1=r.2\/(OH s t m r.1<0/\OH s t m r.2<0) then (if (pC s t m r).any GN=true then none else some ((pC s t m r).set (m.length-1) 0))
 else some (pC s t m r)
def UE (m lv nd:List Int):Option (List Int):=
 if lv=[] then some m else if (lv.any λp=>GN (gA m p))=true\/(nd.all λp=>Ox (gA m p))=false then none else some (lv.foldl (λm p=>m.set p.toNat (-2)) m)
def O5 (rs:List (Int×Int))(j:Nat):List Int:=[(rs.getD j (0,0)).1,(rs.getD j (0,0)).2].filter λp=>decide (JP rs p=(j:Int))
def Zi (s t:Int)(lv:List Int):List Int:=lv.filter λp=>decide (p=s\/p=t)
def W6 (rs:List (Int×Int))(s t:Int)(m:List Int)(j:Nat)(ch:Bool):Option (List Int):=
 (if ch=true then JC s t m (rs.getD j (0,0)) else some m).bind λm'=>UE m' (O5 rs j) (Zi s t (O5 rs j))
theorem Op (s t q:Int):(q=s/\U8 s t q=-3)\/(q≠s/\q=t/\U8 s t q=-4)\/(q≠s/\q≠t/\U8 s t q=q):=by
 unfold U8;by_cases h1:q=s
 ·exact .inl ⟨h1,if_pos h1⟩
 ·by_cases h2:q=t
  ·exact .inr (.inl ⟨h1,h2,by rw [if_neg h1,if_pos h2]⟩)
  ·exact .inr (.inr ⟨h1,h2,by rw [if_neg h1,if_neg h2]⟩)
end M
namespace M
open PySem L2
section
variable {P:Program}{w:World}{K:W.Frag}{mg:Str->Option Value}{base:Heap}
def EndD (H:Hp)(e:Addr)(s t:Int):Prop:=s=nE/\t=nE/\∃o,H e=some (.frz o (.dK []))
theorem EndD.same {H H':Hp}{e:Addr}{s t:Int}(h:EndD H e s t)(q:Same H H'):EndD H' e s t:=⟨h.1,h.2.1,h.2.2.imp λ_ z=>q _ _ z⟩
theorem EndD.get {H:Hp}{e:Addr}{s t:Int}(h:EndD H e s t)(p:Int)(p0:0<=p):DGet H e (.int p) (if p=s then some (.int (-3)) else if p=t then some (.int (-4)) else none):=by
 obtain ⟨rfl,rfl,o,e⟩:=h;have n:¬ p=nE:=λz=>by have:p=-9:=z;lia
 rw [if_neg n,if_neg n];exact .inl ⟨_,.inl p,.inr ⟨o,e⟩,rfl,rfl⟩
def Zby (K:W.Frag):Sp:=λvs H Q _=>∃(m:Addr)(ms:List Int),vs=[.ref m]/\SqT K H m (ms.map V.int)/\ms≠[]/\Q (.bl (decide (ms.getD (ms.length-1) 0=0))) H
theorem Zcf:Go ["marks"] ["marks"] (Gd sId):=⟨rfl,rfl,rfl,by decide +kernel,rfl,by decide +kernel,by decide +kernel⟩
theorem Z8 {ns:List Int}(h:ns≠[]):atI (ns.map V.int) (-1)=some (.int (ns.getD (ns.length-1) 0)):=by
 have hp:0<ns.length:=List.length_pos_iff.mpr h;have e:ixN (ns.map V.int).length (-1)=some (ns.length-1):=by
  unfold ixN;rw [if_neg (by decide),List.length_map,if_pos (by lia)]
  congr 1
  lia
 unfold atI;rw [e];show (ns.map V.int)[ns.length-1]?=_;rw [List.getElem?_map,List.getD_eq_getElem?_getD,List.getElem?_eq_getElem (show ns.length-1<ns.length by lia)]
 rfl
theorem G0 {i j:Int}:decide (V.int i=V.int j)=decide (i=j):=by
 by_cases h:i=j
 ·rw [decide_eq_true h,decide_eq_true (by rw [h])]
 ·rw [decide_eq_false h,decide_eq_false λz=>h (V.int.inj z)]
theorem ZaN {f:Addr}{fd:FuncData}(F:Fun K "is_done" "is_done" sId f fd){u0:Tok}(mDONE:mg "DONE" = some (.int 0 u0)):GD P w K mg base CX0 1 f fd ["marks"] (Zby K):=by
 refine F.ok Zcf (λvs H Q E h=>?_) (λcdv A outer s0 H vs Q E hr h=>?_)
 ·obtain ⟨_,_,rfl,_⟩:=h
  rfl
 ·obtain ⟨m,ms,rfl,hm,hne,q⟩:=h;refine ⟨_,Gg (Gp (Jy OM (G4 (US K) (pv 0) (YD UU Gf) (λ_ _=>rfl)) (GI (v:=.int (0)) rfl mDONE ⟨_,rfl⟩) (GC _))),?_⟩;refine ⟨_,rfl,_,rfl,m,_,_,_,rfl,rfl,hm,Z8 hne,rfl,?_⟩;rw [G0];exact q
def U9 (g:Int->Bool):Sp:=λvs H Q _=>∃q:Int,vs=[.int q]/\∀H',Same H H'->Q (.bl (g q)) H'
theorem ZaO (q a b:Int):inV (.int q) [.int a,.int b]=decide (q=a\/q=b):=by
 rw [show decide (q=a\/q=b)=decide (a=q\/b=q) from decide_eq_decide.mpr ⟨λh=>h.imp Eq.symm Eq.symm,λh=>h.imp Eq.symm Eq.symm⟩];unfold inV;by_cases h1:a=q <;> by_cases h2:b=q <;> simp [eqV,h1,h2]
theorem Zcg:Go ["mark"] ["mark"] (Gd sIl):=⟨rfl,rfl,rfl,by decide +kernel,rfl,by decide +kernel,by decide +kernel⟩
theorem ZaP {f:Addr}{fd:FuncData}(F:Fun K "is_loose" "is_loose" sIl f fd){u3 u4:Tok}(mFIRST:mg "FIRST" = some (.int (-3) u3))(mSECOND:mg "SECOND" = some (.int (-4) u4)):GD P w K mg base CX0 1 f fd ["mark"] (U9 GN):=by
 refine F.ok Zcg (λvs H Q E h=>?_) (λcdv A outer s0 H vs Q E hr h=>?_)
 ·obtain ⟨_,rfl,_⟩:=h
  rfl
 ·obtain ⟨x,rfl,q⟩:=h;refine ⟨_,Gg (Gp (Zaj (Jy Xp (pv 0) Gf (GC _)) (Yc (Jy (kIn K) (pv 0) (JF (Ga (GI (v:=.int (-3)) rfl mFIRST ⟨_,rfl⟩) (Ga (GI (v:=.int (-4)) rfl mSECOND ⟨_,rfl⟩) Ge))) (by with_unfolding_all rfl))))),?_⟩;refine ⟨_,rfl,_,_,rfl,rfl,_,rfl,?_⟩;unfold GN at q;by_cases h0:0<=x
  ·rw [decide_eq_true h0];refine Jd ?_;have:=q H (Same.refl _);rw [decide_eq_true (.inl h0)] at this;exact this
  ·rw [decide_eq_false h0];refine Ji ?_;refine ⟨_,rfl,GZ,λp hp=>⟨p,_,rfl,.inr (SqT.of Gb),rfl,rfl,?_⟩⟩;show Q (.bl (inV (.int x) [.int (-3),.int (-4)])) _;rw [ZaO];have:=q _ (Same.new (o:=.tup [.int (-3),.int (-4)]) hp);rw [show decide (0<=x\/x=-3\/x=-4)=decide (x=-3\/x=-4) from decide_eq_decide.mpr ⟨λz=>z.resolve_left h0,.inr⟩] at this;exact this
theorem Zch:Go ["mark"] ["mark"] (Gd sIf):=⟨rfl,rfl,rfl,by decide +kernel,rfl,by decide +kernel,by decide +kernel⟩
theorem ZaQ {f:Addr}{fd:FuncData}(F:Fun K "is_full" "is_full" sIf f fd){u1 u5:Tok}(mUSED:mg "USED" = some (.int (-1) u1))(mBARRED:mg "BARRED" = some (.int (-5) u5)):GD P w K mg base CX0 1 f fd ["mark"] (U9 Je):=by
 refine F.ok Zch (λvs H Q E h=>?_) (λcdv A outer s0 H vs Q E hr h=>?_)
 ·obtain ⟨_,rfl,_⟩:=h
  rfl
 ·obtain ⟨x,rfl,q⟩:=h;refine ⟨_,Gg (Gp (Jy (kIn K) (pv 0) (JF (Ga (GI (v:=.int (-1)) rfl mUSED ⟨_,rfl⟩) (Ga (GI (v:=.int (-5)) rfl mBARRED ⟨_,rfl⟩) Ge))) (by with_unfolding_all rfl))),?_⟩;refine ⟨_,rfl,GZ,λp hp=>⟨p,_,rfl,.inr (SqT.of Gb),rfl,rfl,?_⟩⟩;show Q (.bl (inV (.int x) [.int (-1),.int (-5)])) _;rw [ZaO];exact q _ (Same.new hp)
theorem Zci:Go ["mark"] ["mark"] (Gd sIm):=⟨rfl,rfl,rfl,by decide +kernel,rfl,by decide +kernel,by decide +kernel⟩
theorem ZaR {f:Addr}{fd:FuncData}(F:Fun K "is_met" "is_met" sIm f fd){u2 u5:Tok}(mFREE:mg "FREE" = some (.int (-2) u2))(mBARRED:mg "BARRED" = some (.int (-5) u5)):GD P w K mg base CX0 1 f fd ["mark"] (U9 Ox):=by
 refine F.ok Zci (λvs H Q E h=>?_) (λcdv A outer s0 H vs Q E hr h=>?_)
 ·obtain ⟨_,rfl,_⟩:=h
  rfl
 ·obtain ⟨x,rfl,q⟩:=h;refine ⟨_,Gg (Gp (Jy (Yl K) (pv 0) (JF (Ga (GI (v:=.int (-2)) rfl mFREE ⟨_,rfl⟩) (Ga (GI (v:=.int (-5)) rfl mBARRED ⟨_,rfl⟩) Ge))) (by with_unfolding_all rfl))),?_⟩;refine ⟨_,rfl,GZ,λp hp=>⟨p,_,rfl,.inr (SqT.of Gb),rfl,rfl,?_⟩⟩;show Q (.bl (!inV (.int x) [.int (-2),.int (-5)])) _;rw [ZaO];have:=q _ (Same.new (o:=.tup [.int (-2),.int (-5)]) hp);unfold Ox at this;rw [decide_not] at this;exact this
def Zbz (K:W.Frag):Sp:=λvs H Q _=>∃(m e:Addr)(ms:List Int)(p s t:Int),vs=[.ref m,.int p,.ref e]/\SqT K H m (ms.map V.int)/\0<=p/\p<ms.length/\EndD H e s t/\Q (.int (OH s t ms p)) H
theorem Zcj:Go ["marks", "place", "ends"] ["marks", "place", "ends"] (Gd sFe):=⟨rfl,rfl,rfl,by decide +kernel,rfl,by decide +kernel,by decide +kernel⟩
theorem ZaS {f:Addr}{fd:FuncData}(F:Fun K "far_end" "far_end" sFe f fd){u2:Tok}(mFREE:mg "FREE" = some (.int (-2) u2)):GD P w K mg base CX0 1 f fd ["marks", "place", "ends"] (Zbz K):=by
 refine F.ok Zcj (λvs H Q E h=>?_) (λcdv A outer s0 H vs Q E hr h=>?_)
 ·obtain ⟨_,_,_,_,_,_,rfl,_⟩:=h
  rfl
 ·obtain ⟨m,e,ms,p,s,t,rfl,hm,p0,p1,he,q⟩:=h;have hu1:(A.deeper (PyProof.Rows.envOfC "far_end" (Gd sFe) s0.heap.objs.size f cdv)).units+1<cLine:=by have:=hr.un;lia
  refine ⟨_,Gg (Gp (J3 (Gv OM (G4 (US K) (pv 0) (pv 1) (λ_ _=>rfl)) (GI (v:=.int (-2)) rfl mFREE ⟨_,rfl⟩) (GC _)) (Vr hu1 (pv 2) (pv 1) (pv 1) ⟨rfl,rfl,rfl,rfl⟩) (G4 (US K) (pv 0) (pv 1) (λ_ _=>rfl)))),?_⟩;refine ⟨_,rfl,_,rfl,m,_,_,_,rfl,rfl,hm,Jw p0 p1,rfl,_,rfl,?_⟩;rw [G0];unfold OH at q;refine UJ (λz=>?_) (λz=>?_)
  ·rw [if_pos (show gA ms p=-2 from of_decide_eq_true z)] at q;obtain ⟨_,_,o,e1⟩:=id he;refine ⟨_,rfl,e,rfl,.inl ⟨_,.inr ⟨o,e1⟩⟩,_,rfl,_,rfl,_,he.get p p0,?_⟩;unfold U8 at q;by_cases h1:p=s
   ·rw [if_pos h1] at q ⊢;exact q
   ·rw [if_neg h1] at q ⊢;by_cases h2:p=t
    ·rw [if_pos h2] at q ⊢;exact q
    ·rw [if_neg h2] at q ⊢;exact q
  ·rw [if_neg (show ¬ gA ms p=-2 from λy=>z (decide_eq_true y))] at q;exact ⟨_,rfl,_,rfl,m,_,_,_,rfl,rfl,hm,Jw p0 p1,q⟩
theorem Oq {n:Nat}{i:Int}(h0:0<=i)(h1:i<n):ixN n i=some i.toNat:=by
 unfold ixN;rw [if_pos h0,if_pos h1]
theorem map_set {ms:List Int}{n:Nat}{v:Int}:(ms.map V.int).set n (.int v)=(ms.set n v).map V.int:=by
 rw [List.map_set]
def ZbA:Sp:=λvs H Q _=>∃(m r e:Addr)(ms:List Int)(a b s t:Int),vs=[.ref m,.ref r,.ref e]/\H m=some (.tup (ms.map V.int))/\H r=some (.tup [.int a,.int b])/\EndD H e s t/\0<=a/\a<b/\b+1<ms.length/\(∀q∈ms,q+1<(ms.length:Int))/\ms.length<=1000 /\
 (∀H':Hp,Same H H'->JC s t ms (a,b)=none->Q .non H')/\(∀(T:Addr)(m':List Int)(H':Hp),Same H H'->H T=none->H' T=some (.tup (m'.map V.int))->JC s t ms (a,b)=some m'->Q (.ref T) H')
theorem scWr:Go ["marks", "road", "ends", "a", "b", "rounds", "far_a", "far_b", "changed"] ["marks", "road", "ends"] (Gd sWr):=⟨rfl,rfl,rfl,by decide +kernel,rfl,by decide +kernel,by decide +kernel⟩
theorem Yr {ms:List Int}{s t p:Int}(p0:0<=p)(p1:p+1<ms.length)(h:∀q∈ms,q+1<(ms.length:Int)):OH s t ms p+1<ms.length:=by
 unfold OH;split
 ·rcases Op s t p with ⟨_,e⟩ | ⟨_,_,e⟩ | ⟨_,_,e⟩ <;> lia
 ·exact h _ (VA (by lia))
theorem ZaT {f fId fIf fFe fIl:Addr}{fd fdId fdIf fdFe fdIl:FuncData}(F:Fun K "with_road" "with_road" sWr f fd)(FId:Fun K "is_done" "is_done" sId fId fdId)(bId:Binds K fdId ["marks"] [])(mId:mg "is_done" = some (.ref fId))(GId:GD P w K mg base CX0 1 fId fdId ["marks"] (Zby K))(FIf:Fun K "is_full" "is_full" sIf fIf fdIf)(bIf:Binds K fdIf ["mark"] [])(mIf:mg "is_full" = some (.ref fIf))(GIf:GD P w K mg base CX0 1 fIf fdIf ["mark"] (U9 Je))(FFe:Fun K "far_end" "far_end" sFe fFe fdFe)(bFe:Binds K fdFe ["marks", "place", "ends"] [])(mFe:mg "far_end" = some (.ref fFe))(GFe:GD P w K mg base CX0 1 fFe fdFe ["marks", "place", "ends"] (Zbz K))(FIl:Fun K "is_loose" "is_loose" sIl fIl fdIl)(bIl:Binds K fdIl ["mark"] [])(mIl:mg "is_loose" = some (.ref fIl))(GIl:GD P w K mg base CX0 1 fIl fdIl ["mark"] (U9 GN)){u0 u1:Tok}(mDONE:mg "DONE" = some (.int 0 u0))(mUSED:mg "USED" = some (.int (-1) u1))(mLst:mg "list" = none)(mAny:mg "any" = none)(mTup:mg "tuple" = none):GD P w K mg base CX0 2 f fd ["marks", "road", "ends"] ZbA:=by
 refine F.ok scWr (λvs H Q E h=>?_) (λcdv A outer s0 H vs Q E hr h=>?_)
 ·obtain ⟨_,_,_,_,_,_,_,_,rfl,_⟩:=h
  rfl
 ·obtain ⟨m,r,e,ms,a,b,s,t,rfl,hm,hr',he,a0,ab,bk,qY,qV,qn,qs⟩:=h;have h16:(16777216:Nat)=sizeLine:=sizeLine_eq.symm;have hne:ms≠[]:=λz=>by rw [z] at bk;simp at bk;lia
  refine ⟨_,Gc (JX (pv 1) (Zag K (n:=2) rfl (GV (Gs (i:=3) scWr.nd rfl (Or.inl rfl)) (GV (Gs (i:=4) scWr.nd rfl (Or.inl rfl)) OL))))
    (Gc (Gq (i:=5) scWr.nd rfl (Or.inl rfl) (Jy OM (G4 (US K) (pv 0) (pv 3) (λ_ _=>rfl)) (pv 4) (GC _)))
    (Gc (GS (PW.pt (VJ (Js (Gi GId (hr.mono (by decide)) rfl mId FId.kp bId .nil GT (Ga (pv 0) Ge))) (VJ (Js (Gi GIf (hr.mono (by decide)) rfl mIf FIf.kp bIf .nil GT (Ga (G4 (US K) (pv 0) (pv 3) (λ_ _=>rfl)) Ge))) (VJ (Js (Gi GIf (hr.mono (by decide)) rfl mIf FIf.kp bIf .nil GT (Ga (G4 (US K) (pv 0) (pv 4) (λ_ _=>rfl)) Ge))) (Vb (PW.pt (Ua (Jm (pv 5) (λ_=>rfl)) (Oc (WR (pv 2) (λ_=>rfl)))))))))) (Gg (Gp Oa)) Gu)
    (Gc (Gq (i:=6) scWr.nd rfl (Or.inl rfl) (Gi GFe (hr.mono (by decide)) rfl mFe FFe.kp bFe .nil GT (Ga (pv 0) (Ga (pv 3) (Ga (pv 2) Ge)))))
    (Gc (Gq (i:=7) scWr.nd rfl (Or.inl rfl) (Gi GFe (hr.mono (by decide)) rfl mFe FFe.kp bFe .nil GT (Ga (pv 0) (Ga (pv 4) (Ga (pv 2) Ge)))))
    (Gc (Gq (i:=8) scWr.nd rfl (Or.inl rfl) (Jh (Ws K) rfl mLst Ol (Ga (pv 0) Ge)))
    (Gc (JX (GI (v:=.int (-1)) rfl mUSED ⟨_,rfl⟩) (Oz (pv 8) (pv 3) Jn))
    (Gc (JX (GI (v:=.int (-1)) rfl mUSED ⟨_,rfl⟩) (Oz (pv 8) (pv 4) Jn))
    (Gc (GS (PW.pt (Ua (JE (Jm (pv 5) (λ_=>rfl))) (Oc (Gv Xp (pv 6) Gf (GC _))))) (Gg (JX (pv 7) (Oz (pv 8) (pv 6) Jn))) Gu)
    (Gc (GS (PW.pt (Ua (JE (Jm (pv 5) (λ_=>rfl))) (Oc (Gv Xp (pv 7) Gf (GC _))))) (Gg (JX (pv 6) (Oz (pv 8) (pv 7) Jn))) Gu)
    (Gc (GS (PW.pt (VJ (Jm (pv 5) (λ_=>rfl)) (Vb (PW.pt (Ua (Gv UP (pv 6) Gf (GC _)) (Oc (Gv UP (pv 7) Gf (GC _)))))))) (Gc (GS (Js (Gz (Zbx K rfl) rfl mAny Vx (Ga (Jz (own:=["mark"]) rfl (Oj (by decide +kernel) (by decide +kernel) rfl (by decide +kernel)) (OS K (pv 8)) (λ_ _ _ _=>Gs (i:=0) (show List.Nodup (["mark"]:List Str) by decide +kernel) rfl (Or.inl rfl)) (λ_ _ _ _=>Jo) (λ_ _ _ _=>Gi GIl (hr.mono (by decide)) rfl mIl FIl.kp bIl .nil GT (Ga (pv 0) Ge))) Ge))) (Gg (Gp Oa)) Gu)
    (Gg (JX (GI (v:=.int (0)) rfl mDONE ⟨_,rfl⟩) (Oz (pv 8) (YD UU Gf) Jn)))) Gu)
    (Gg (Gp (Jh (WT K) rfl mTup JS (Ga (pv 8) Ge)))))))))))))),?_⟩
  refine ⟨_,rfl,r,_,rfl,SqT.of hr',rfl,_,_,rfl,_,_,rfl,rfl,?_⟩
  try dsimp only [GQ]
  refine GK (λσ' H'=>σ'=[some (.ref m),some (.ref r),some (.ref e),some (.int a),some (.int b),some (.bl (decide (gA ms a=b))),none,none,none]/\H'=H) ?r2 ?r1
  case r1=>
   intro hk;refine ⟨_,rfl,_,rfl,m,_,_,_,rfl,rfl,SqT.of hm,Jw a0 (by lia),_,rfl,rfl,?_⟩;rw [G0];exact hk _ _ ⟨rfl,rfl⟩
  rintro σ' H' ⟨rfl,rfl⟩;have ret:(ms.getD (ms.length-1) 0=0\/Je (gA ms a)=true\/Je (gA ms b)=true)->∀H2,Same H' H2->Q .non H2:=λz H2 s2=>qn H2 s2 (by unfold JC;rw [if_pos z]);refine GK (λσ'' H2=>σ''=[some (.ref m),some (.ref r),some (.ref e),some (.int a),some (.int b),some (.bl (decide (gA ms a=b))),none,none,none]/\Same H' H2/\¬ (ms.getD (ms.length-1) 0=0\/Je (gA ms a)=true\/Je (gA ms b)=true)) ?f2 ?f1
  case f1=>
   intro hk;refine ⟨_,rfl,m,ms,rfl,SqT.of hm,hne,_,rfl,?_⟩;by_cases c1:ms.getD (ms.length-1) 0=0
   ·rw [decide_eq_true c1];exact Jd (Jd (ret (.inl c1) _ (Same.refl _)))
   rw [decide_eq_false c1];refine Ji ?_;refine ⟨_,rfl,_,rfl,m,_,_,_,rfl,rfl,SqT.of hm,Jw a0 (by lia),_,rfl,λH2 s2=>⟨_,rfl,?_⟩⟩;by_cases c2:Je (gA ms a)=true
   ·rw [show Je (ms.getD a.toNat 0)=true from c2];exact Jd (Jd (ret (.inr (.inl c2)) _ s2))
   rw [show Je (ms.getD a.toNat 0)=false from by cases z:Je (gA ms a);exact z;exact absurd z c2];refine Ji ?_;refine ⟨_,rfl,_,rfl,m,_,_,_,rfl,rfl,SqT.of (s2 _ _ hm),Jw (by lia) (by lia),_,rfl,λH3 s3=>⟨_,rfl,?_⟩⟩;have s23:=s2.trans s3;by_cases c3:Je (gA ms b)=true
   ·rw [show Je (ms.getD b.toNat 0)=true from c3];exact Jd (Jd (ret (.inr (.inr c3)) _ s23))
   rw [show Je (ms.getD b.toNat 0)=false from by cases z:Je (gA ms b);exact z;exact absurd z c3];refine Ji ?_;refine ⟨_,rfl,_,rfl,?_⟩;have hno:¬ (ms.getD (ms.length-1) 0=0\/Je (gA ms a)=true\/Je (gA ms b)=true):=λz=>z.elim c1 λz=>z.elim c2 c3;by_cases c4:gA ms a=b
   ·rw [decide_eq_true c4];obtain ⟨_,_,o,e1⟩:=id he;refine Jd ⟨_,rfl,e,_,rfl,.inr ⟨o,s23 _ _ e1⟩,?_⟩;exact Ji (hk _ _ ⟨by rw [decide_eq_true c4],s23,hno⟩)
   ·rw [decide_eq_false c4];refine Ji (Ji ?_);exact hk _ _ ⟨by rw [decide_eq_false c4],s23,hno⟩
  rintro σ'' H2 ⟨rfl,s2,hno⟩;have hm2:=s2 _ _ hm;have he2:=he.same s2;refine ⟨_,rfl,_,rfl,_,rfl,m,e,ms,a,s,t,rfl,SqT.of hm2,a0,by lia,he2,?_⟩;refine ⟨_,rfl,_,rfl,_,rfl,m,e,ms,b,s,t,rfl,SqT.of hm2,by lia,by lia,he2,?_⟩;refine ⟨_,rfl,m,_,rfl,.inr (SqT.of hm2),λc hc=>?_⟩;have fal:=Yr (s:=s) (t:=t) a0 (show a+1<ms.length by lia) qY;have fbl:=Yr (s:=s) (t:=t) (show 0<=b by lia) bk qY;have ev:JC s t ms (a,b)=(if gA ms a=b\/(OH s t ms a<0/\OH s t ms b<0) then (if (pC s t ms (a,b)).any GN=true then none else some ((pC s t ms (a,b)).set (ms.length-1) 0)) else some (pC s t ms (a,b))):=by
   unfold JC;rw [if_neg hno]
  rw [ev] at qn qs;clear ev ret;have hpc:pC s t ms (a,b)=if gA ms a=b then (ms.set a.toNat (-1)).set b.toNat (-1) else pW1 ms (a,b) (OH s t ms a) (OH s t ms b):=rfl
  rw [hpc] at qn qs;clear hpc;generalize hfa:OH s t ms a=fa at *;generalize hfb:OH s t ms b=fb at *;have hmc:Same H' (upd H2 c (.lst (ms.map V.int))):=s2.put (s2.free hc);have hc0:H' c=none:=s2.free hc
  try dsimp only [GQ]
  refine ⟨_,rfl,_,rfl,c,_,a,_,rfl,rfl,Gb,Oq a0 (by rw [List.length_map];lia),?_⟩;rw [J9,map_set];refine ⟨_,rfl,_,rfl,c,_,b,_,rfl,rfl,Gb,Oq (by lia) (by rw [List.length_map,List.length_set];lia),?_⟩;rw [J9,map_set];dsimp only;obtain ⟨c3,hc3,l3⟩:∃c3,(if gA ms a=b then (ms.set a.toNat (-1)).set b.toNat (-1) else pW1 ms (a,b) fa fb)=c3/\c3.length=ms.length:=⟨_,rfl,by
   split
   ·simp only [List.length_set]
   ·unfold pW1;dsimp only;split <;> split <;> simp only [List.length_set]⟩
  rw [hc3] at qn qs;refine GK (λσ' H3=>σ'=[some (.ref m),some (.ref r),some (.ref e),some (.int a),some (.int b),some (.bl (decide (gA ms a=b))),some (.int fa),some (.int fb),some (.ref c)]/\H3=upd H2 c (.lst ((if gA ms a=b then (ms.set a.toNat (-1)).set b.toNat (-1) else if 0<=fa then ((ms.set a.toNat (-1)).set b.toNat (-1)).set fa.toNat fb else (ms.set a.toNat (-1)).set b.toNat (-1)).map V.int))) ?g2 ?g1
  case g1=>
   intro hk;by_cases c4:gA ms a=b
   ·rw [decide_eq_true c4] at hk ⊢;rw [if_pos c4] at hk;exact ⟨_,rfl,_,rfl,Ji (Ji (hk _ _ ⟨rfl,rfl⟩))⟩
   rw [decide_eq_false c4] at hk ⊢;rw [if_neg c4] at hk;refine ⟨_,rfl,_,rfl,Jd ⟨_,rfl,_,_,rfl,rfl,_,rfl,?_⟩⟩;by_cases z:0<=fa
   ·rw [decide_eq_true z];refine Jd ⟨_,rfl,_,rfl,_,rfl,c,_,fa,_,rfl,rfl,Gb,Oq z (by rw [List.length_map,List.length_set,List.length_set];lia),?_⟩;rw [J9,map_set];exact hk _ _ ⟨rfl,by rw [if_pos z]⟩
   ·rw [decide_eq_false z];exact Ji (hk _ _ ⟨rfl,by rw [if_neg z]⟩)
  rintro σ' H3 ⟨rfl,rfl⟩;have l2:(if gA ms a=b then (ms.set a.toNat (-1)).set b.toNat (-1) else if 0<=fa then ((ms.set a.toNat (-1)).set b.toNat (-1)).set fa.toNat fb else (ms.set a.toNat (-1)).set b.toNat (-1)).length=ms.length:=by split <;> (try split) <;> simp only [List.length_set]
  refine GK (λσ' H3=>σ'=[some (.ref m),some (.ref r),some (.ref e),some (.int a),some (.int b),some (.bl (decide (gA ms a=b))),some (.int fa),some (.int fb),some (.ref c)]/\H3=upd H2 c (.lst (c3.map V.int))) ?h2 ?h1
  case h1=>
   intro hk;rw [<-hc3] at hk;by_cases c4:gA ms a=b
   ·rw [decide_eq_true c4] at hk ⊢;rw [if_pos c4] at hk ⊢;exact ⟨_,rfl,_,rfl,Ji (Ji (hk _ _ ⟨rfl,rfl⟩))⟩
   rw [decide_eq_false c4] at hk ⊢;rw [if_neg c4] at hk l2 ⊢;refine ⟨_,rfl,_,rfl,Jd ⟨_,rfl,_,_,rfl,rfl,_,rfl,?_⟩⟩;by_cases z:0<=fb
   ·rw [decide_eq_true z];refine Jd ⟨_,rfl,_,rfl,_,rfl,c,_,fb,_,rfl,rfl,Gb,Oq z (by rw [List.length_map,l2];lia),?_⟩;rw [J9,map_set];exact hk _ _ ⟨rfl,by unfold pW1;dsimp only;rw [if_pos z]⟩
   ·rw [decide_eq_false z];exact Ji (hk _ _ ⟨rfl,by unfold pW1;dsimp only;rw [if_neg z]⟩)
  rintro σ' H3 ⟨rfl,rfl⟩;clear hc3;have sc:∀ys,Same H' (upd H2 c ys):=λys=>s2.put hc0;have fin:∀(H4:Hp)(m':List Int),Same H' H4->H4 c=some (.lst (m'.map V.int))->m'.length=ms.length->(if gA ms a=b\/(fa<0/\fb<0) then (if c3.any GN=true then none else some (c3.set (ms.length-1) 0)) else some c3)=some m'->∀T,H4 T=none->Q (.ref T) (upd H4 T (.tup (m'.map V.int))):=λH4 m' s4 e4 _ em T hT=>qs T m' _ (s4.put (s4.free hT)) (s4.free hT) Gb em;refine GK (λσ' H4=>∃m':List Int,σ'=[some (.ref m),some (.ref r),some (.ref e),some (.int a),some (.int b),some (.bl (decide (gA ms a=b))),some (.int fa),some (.int fb),some (.ref c)]/\Same H' H4/\H4 c=some (.lst (m'.map V.int))/\m'.length=ms.length/\(if gA ms a=b\/(fa<0/\fb<0) then (if c3.any GN=true then none else some (c3.set (ms.length-1) 0)) else some c3)=some m') ?k2 ?k1
  case k2=>
   rintro σ' H4 ⟨m',rfl,s4,e4,l4,em⟩;exact ⟨_,rfl,c,_,rfl,.inl ⟨SqL.of e4,λT hT=>fin H4 m' s4 e4 l4 em T hT⟩⟩
  case k1=>
   intro hk;have notb:¬ (gA ms a=b\/(fa<0/\fb<0))->∃m':List Int,[some (V.ref m),some (.ref r),some (.ref e),some (.int a),some (.int b),some (.bl (decide (gA ms a=b))),some (.int fa),some (.int fb),some (.ref c)]=[some (.ref m),some (.ref r),some (.ref e),some (.int a),some (.int b),some (.bl (decide (gA ms a=b))),some (.int fa),some (.int fb),some (.ref c)]/\Same H' (upd H2 c (.lst (c3.map V.int)))/\upd H2 c (.lst (c3.map V.int)) c=some (.lst (m'.map V.int))/\m'.length=ms.length/\(if gA ms a=b\/(fa<0/\fb<0) then (if c3.any GN=true then none else some (c3.set (ms.length-1) 0)) else some c3)=some m':=
    λz=>⟨c3,rfl,sc _,Gb,l3,by rw [if_neg z]⟩
   by_cases c4:gA ms a=b
   ·rw [decide_eq_true c4];rw [decide_eq_true c4] at hk;rw [decide_eq_true c4] at notb;refine ⟨_,rfl,_,rfl,Jd (Jd ?_)⟩;have zc:gA ms a=b\/(fa<0/\fb<0):=.inl c4;rw [if_pos zc] at qn;refine ⟨_,rfl,c,rfl,⟨_,SqL.of Gb⟩,λD hD=>?_⟩;have ecD:c≠D:=λz=>by rw [<-z,Gb] at hD;cases hD
    refine G9 (K:=K) (a:=c) (xs:=c3.map V.int) (λi ys H4=>Same (upd H2 c (.lst (c3.map V.int))) H4/\H4 D=some (.lst ys)/\ys=((c3.take i).map GN).map V.bl) ⟨Same.new hD,Gb,rfl⟩ (λi ys H4 _ ⟨s4,_⟩=>SqL.of (s4 _ _ Gb)) ?_ ?_
    ·rintro i x ys H4 hxi ⟨s4,hD4,rfl⟩;have hi:i<(c3.map V.int).length:=(List.getElem?_eq_some_iff.mp hxi).1;rw [List.length_map] at hi;rw [List.getElem?_map] at hxi;cases y:c3[i]? with
     | none=>rw [y] at hxi;cases hxi
     | some x1=>
      rw [y] at hxi;cases hxi;refine ⟨trivial,?_⟩;unfold YS;refine Jd ?_;refine ⟨_,rfl,x1,rfl,λH5 s5=>⟨s5 _ _ hD4,by rw [List.length_map,List.length_map,List.length_take];lia,(s4.trans s5).put hD,Gb,?_⟩⟩;rw [List.take_add_one,y,List.map_append,List.map_append]
      rfl
    ·rintro ys H4 ⟨s4,hD4,rfl⟩;rw [List.length_map,List.take_length] at hD4;refine ⟨D,_,rfl,SqL.of hD4,_,rfl,?_⟩;rw [List.any_map,show (id∘GN)=GN from rfl];have s04:=(sc (.lst (c3.map V.int))).trans s4;by_cases z3:c3.any GN=true
     ·rw [z3];exact Jd (qn _ s04 (by rw [if_pos z3]))
     ·rw [show c3.any GN=false from by cases y:c3.any GN;rfl;exact absurd y z3];refine Ji ?_;refine ⟨_,rfl,_,rfl,c,_,-1,ms.length-1,rfl,rfl,s4 _ _ Gb,?_,?_⟩
      ·unfold ixN;rw [if_neg (by decide),List.length_map,l3,if_pos (by lia)]
       congr 1
       lia
      ·rw [map_set];exact hk _ _ ⟨_,rfl,s04.put hc0,Gb,by rw [List.length_set,l3],by rw [if_pos zc,if_neg z3]⟩
   rw [decide_eq_false c4];rw [decide_eq_false c4] at hk;rw [decide_eq_false c4] at notb;refine ⟨_,rfl,_,rfl,Ji ⟨_,rfl,_,_,rfl,rfl,_,rfl,?_⟩⟩;by_cases z1:fa<0
   ·rw [decide_eq_true z1];refine Jd ⟨_,rfl,_,_,rfl,rfl,_,rfl,?_⟩;by_cases z2:fb<0
    ·rw [decide_eq_true z2];refine Jd ?_;have zc:gA ms a=b\/(fa<0/\fb<0):=.inr ⟨z1,z2⟩;rw [if_pos zc] at qn;refine ⟨_,rfl,c,rfl,⟨_,SqL.of Gb⟩,λD hD=>?_⟩;have ecD:c≠D:=λz=>by rw [<-z,Gb] at hD;cases hD
     refine G9 (K:=K) (a:=c) (xs:=c3.map V.int) (λi ys H4=>Same (upd H2 c (.lst (c3.map V.int))) H4/\H4 D=some (.lst ys)/\ys=((c3.take i).map GN).map V.bl) ⟨Same.new hD,Gb,rfl⟩ (λi ys H4 _ ⟨s4,_⟩=>SqL.of (s4 _ _ Gb)) ?_ ?_
     ·rintro i x ys H4 hxi ⟨s4,hD4,rfl⟩;have hi:i<(c3.map V.int).length:=(List.getElem?_eq_some_iff.mp hxi).1;rw [List.length_map] at hi;rw [List.getElem?_map] at hxi;cases y:c3[i]? with
      | none=>rw [y] at hxi;cases hxi
      | some x1=>
       rw [y] at hxi;cases hxi;refine ⟨trivial,?_⟩;unfold YS;refine Jd ?_;refine ⟨_,rfl,x1,rfl,λH5 s5=>⟨s5 _ _ hD4,by rw [List.length_map,List.length_map,List.length_take];lia,(s4.trans s5).put hD,Gb,?_⟩⟩;rw [List.take_add_one,y,List.map_append,List.map_append]
       rfl
     ·rintro ys H4 ⟨s4,hD4,rfl⟩;rw [List.length_map,List.take_length] at hD4;refine ⟨D,_,rfl,SqL.of hD4,_,rfl,?_⟩;rw [List.any_map,show (id∘GN)=GN from rfl];have s04:=(sc (.lst (c3.map V.int))).trans s4;by_cases z3:c3.any GN=true
      ·rw [z3];exact Jd (qn _ s04 (by rw [if_pos z3]))
      ·rw [show c3.any GN=false from by cases y:c3.any GN;rfl;exact absurd y z3];refine Ji ?_;refine ⟨_,rfl,_,rfl,c,_,-1,ms.length-1,rfl,rfl,s4 _ _ Gb,?_,?_⟩
       ·unfold ixN;rw [if_neg (by decide),List.length_map,l3,if_pos (by lia)]
        congr 1
        lia
       ·rw [map_set];exact hk _ _ ⟨_,rfl,s04.put hc0,Gb,by rw [List.length_set,l3],by rw [if_pos zc,if_neg z3]⟩
    ·rw [decide_eq_false z2];exact Ji (hk _ _ (notb λy=>y.elim c4 λy=>z2 y.2))
   ·rw [decide_eq_false z1];exact Ji (Ji (hk _ _ (notb λy=>y.elim c4 λy=>z1 y.1)))
end
end M
namespace M
open PySem L2
section
variable {P:Program}{w:World}{K:W.Frag}{mg:Str->Option Value}{base:Heap}
def ZaU:Sp:=λvs H Q _=>∃(m a b:Addr)(ms L N:List Int),vs=[.ref m,.ref a,.ref b]/\H m=some (.tup (ms.map V.int))/\H a=some (.lst (L.map V.int))/\H b=some (.lst (N.map V.int))/\(∀p∈L,0<=p/\p<(ms.length:Int))/\(∀p∈N,0<=p/\p<(ms.length:Int))/\L.length<=100/\N.length<=100/\ms.length<=1000 /\
 (∀H':Hp,Same H H'->UE ms L N=none->Q .non H')/\(∀(T:Addr)(m':List Int)(H':Hp),Same H H'->H' T=some (.tup (m'.map V.int))->UE ms L N=some m'->Q (.ref T) H')
theorem scLb:Go ["marks", "leaving", "needed", "place", "changed"] ["marks", "leaving", "needed"] (Gd sLb):=⟨rfl,rfl,rfl,by decide +kernel,rfl,by decide +kernel,by decide +kernel⟩
theorem W7 (L:List Int):(L.map V.int).isEmpty=decide (L=[]):=by cases L <;> rfl
theorem ZaV {f fIl fIm:Addr}{fd fdIl fdIm:FuncData}(F:Fun K "left_behind" "left_behind" sLb f fd)(FIl:Fun K "is_loose" "is_loose" sIl fIl fdIl)(bIl:Binds K fdIl ["mark"] [])(mIl:mg "is_loose" = some (.ref fIl))(GIl:GD P w K mg base CX0 1 fIl fdIl ["mark"] (U9 GN))(FIm:Fun K "is_met" "is_met" sIm fIm fdIm)(bIm:Binds K fdIm ["mark"] [])(mIm:mg "is_met" = some (.ref fIm))(GIm:GD P w K mg base CX0 1 fIm fdIm ["mark"] (U9 Ox)){u2:Tok}(mFREE:mg "FREE" = some (.int (-2) u2))(mLst:mg "list" = none)(mAny:mg "any" = none)(mAll:mg "all" = none)(mTup:mg "tuple" = none):GD P w K mg base CX0 2 f fd ["marks", "leaving", "needed"] ZaU:=by
 refine F.ok scLb (λvs H Q E h=>?_) (λcdv A outer s0 H vs Q E hr h=>?_)
 ·obtain ⟨_,_,_,_,_,_,rfl,_⟩:=h
  rfl
 ·obtain ⟨m,a,b,ms,L,N,rfl,hm,ha,hb,lr,nr,l100,n100,m1000,qn,qs⟩:=h;have h16:(16777216:Nat)=sizeLine:=sizeLine_eq.symm;refine ⟨_,Gc (GS (JE (Jm (pv 1) (λ_=>rfl))) (Gg (Gp (pv 0))) Gu)
    (Gc (GS (PW.pt (VJ (Js (Gz (Zbx K rfl) rfl mAny Vx (Ga (Jz (own:=["place"]) rfl (Gx (fr:=[("marks", 0)]) [(".0", .local),("place", .local),("is_loose", .globalImplicit),("marks", .cell)] rfl rfl (by decide +kernel) rfl (by decide +kernel) ⟨rfl,trivial⟩ ⟨λh=>G5 h,λh=>G5 h,λh=>G5 h,λ_=>⟨_,rfl⟩,trivial⟩ ⟨⟨rfl,.inl rfl,.inl rfl⟩,trivial⟩) (OS K (pv 1)) (λ_ _ _ _=>Gs (i:=0) (show List.Nodup (["place", "marks"]:List Str) by decide +kernel) rfl (Or.inl rfl)) (λ_ _ _ _=>Jo) (λ_ _ _ _=>Gi GIl (hr.mono (by decide)) rfl mIl FIl.kp bIl .nil GT (Ga (G4 (US K) (pv 1) (pv 0) (λ_ _=>rfl)) Ge))) Ge))) (Vb (JE (Js (Gz (Zcb K rfl) rfl mAll Vm (Ga (Jz (own:=["place"]) rfl (Gx (fr:=[("marks", 0)]) [(".0", .local),("place", .local),("is_met", .globalImplicit),("marks", .cell)] rfl rfl (by decide +kernel) rfl (by decide +kernel) ⟨rfl,trivial⟩ ⟨λh=>G5 h,λh=>G5 h,λh=>G5 h,λ_=>⟨_,rfl⟩,trivial⟩ ⟨⟨rfl,.inl rfl,.inl rfl⟩,trivial⟩) (OS K (pv 2)) (λ_ _ _ _=>Gs (i:=0) (show List.Nodup (["place", "marks"]:List Str) by decide +kernel) rfl (Or.inl rfl)) (λ_ _ _ _=>Jo) (λ_ _ _ _=>Gi GIm (hr.mono (by decide)) rfl mIm FIm.kp bIm .nil GT (Ga (G4 (US K) (pv 1) (pv 0) (λ_ _=>rfl)) Ge))) Ge))))))) (Gg (Gp Oa)) Gu)
    (Gc (Gq (i:=4) scLb.nd rfl (Or.inl rfl) (Jh (Ws K) rfl mLst Ol (Ga (pv 0) Ge)))
    (Gc (Jg PassesOwn.never rfl (OS K (pv 1)) (Gs (i:=3) scLb.nd rfl (Or.inl rfl))
    (Gg (JX (GI (v:=.int (-2)) rfl mFREE ⟨_,rfl⟩) (Oz (pv 4) (pv 3) Jn))))
    (Gg (Gp (Jh (WT K) rfl mTup JS (Ga (pv 4) Ge))))))),?_⟩
  refine ⟨_,rfl,!(L.map V.int).isEmpty,.inl ⟨_,SqL.of ha,rfl⟩,?_⟩;show if (!!(L.map V.int).isEmpty)=true then _ else _
  rw [Bool.not_not,W7];unfold UE at qn qs;by_cases h0:L=[]
  ·rw [decide_eq_true h0];refine Jd ⟨_,rfl,?_⟩;rw [if_pos h0] at qs;exact qs m ms H (Same.refl _) hm rfl
  rw [decide_eq_false h0];refine Ji ?_;rw [if_neg h0] at qn qs;dsimp only [YA];refine GK (λσ' H'=>σ'=[some (.ref m),some (.ref a),some (.ref b),none,none]/\Same H H'/\¬ ((L.any λp=>GN (gA ms p))=true\/(N.all λp=>Ox (gA ms p))=false)) ?g2 ?g1
  case g1=>
   intro hk;refine ⟨_,rfl,a,rfl,⟨_,SqL.of ha⟩,λD hD=>?_⟩;refine G9 (K:=K) (a:=a) (xs:=L.map V.int) (λi ys H2=>Same H H2/\H2 D=some (.lst ys)/\ys=((L.take i).map λp=>GN (gA ms p)).map V.bl) ⟨Same.new hD,Gb,rfl⟩ (λi ys H2 _ ⟨s2,_⟩=>SqL.of (s2 _ _ ha)) ?_ ?_
   ·rintro i x ys H2 hxi ⟨s2,hD2,rfl⟩;have hi:i<(L.map V.int).length:=(List.getElem?_eq_some_iff.mp hxi).1;rw [List.length_map] at hi;rw [List.getElem?_map] at hxi;cases y:L[i]? with
    | none=>rw [y] at hxi;cases hxi
    | some p=>
     rw [y] at hxi;cases hxi;obtain ⟨p0,p1⟩:=lr p (List.mem_of_getElem? y);refine ⟨⟨rfl,trivial⟩,?_⟩;unfold YS;refine Jd ?_;refine ⟨_,rfl,_,rfl,m,_,_,_,rfl,rfl,SqT.of (s2 _ _ hm),Jw p0 p1,_,rfl,λH5 s5=>⟨s5 _ _ hD2,by rw [List.length_map,List.length_map,List.length_take];lia,(s2.trans s5).put hD,Gb,?_⟩⟩;rw [List.take_add_one,y,List.map_append,List.map_append]
     rfl
   rintro ys H2 ⟨s2,hD2,rfl⟩;rw [List.length_map,List.take_length] at hD2;refine ⟨D,_,rfl,SqL.of hD2,_,rfl,?_⟩;rw [List.any_map];by_cases z1:(L.any λp=>GN (gA ms p))=true
   ·rw [show L.any (id∘λp=>GN (gA ms p))=true from z1];exact Jd (Jd (qn _ s2 (by rw [if_pos (.inl z1)])))
   rw [show L.any (id∘λp=>GN (gA ms p))=false from by cases y:(L.any λp=>GN (gA ms p));exact y;exact absurd y z1];refine Ji ?_;refine ⟨_,rfl,b,rfl,⟨_,SqL.of (s2 _ _ hb)⟩,λD2 hD'=>?_⟩;refine G9 (K:=K) (a:=b) (xs:=N.map V.int) (λi ys H3=>Same H2 H3/\H3 D2=some (.lst ys)/\ys=((N.take i).map λp=>Ox (gA ms p)).map V.bl) ⟨Same.new hD',Gb,rfl⟩ (λi ys H3 _ ⟨s3,_⟩=>SqL.of (s3 _ _ (s2 _ _ hb))) ?_ ?_
   ·rintro i x ys H3 hxi ⟨s3,hD3,rfl⟩;have hi:i<(N.map V.int).length:=(List.getElem?_eq_some_iff.mp hxi).1;rw [List.length_map] at hi;rw [List.getElem?_map] at hxi;cases y:N[i]? with
    | none=>rw [y] at hxi;cases hxi
    | some p=>
     rw [y] at hxi;cases hxi;obtain ⟨p0,p1⟩:=nr p (List.mem_of_getElem? y);refine ⟨⟨rfl,trivial⟩,?_⟩;unfold YS;refine Jd ?_;refine ⟨_,rfl,_,rfl,m,_,_,_,rfl,rfl,SqT.of (s3 _ _ (s2 _ _ hm)),Jw p0 p1,_,rfl,λH5 s5=>⟨s5 _ _ hD3,by rw [List.length_map,List.length_map,List.length_take];lia,(s3.trans s5).put hD',Gb,?_⟩⟩;rw [List.take_add_one,y,List.map_append,List.map_append]
     rfl
   rintro ys H3 ⟨s3,hD3,rfl⟩;rw [List.length_map,List.take_length] at hD3;refine ⟨D2,_,rfl,SqL.of hD3,_,rfl,?_⟩;rw [List.all_map];cases z2:(N.all λp=>Ox (gA ms p)) with
   | false=>
    rw [show N.all (id∘λp=>Ox (gA ms p))=false from z2];exact Jd (qn _ (s2.trans s3) (by rw [if_pos (.inr z2)]))
   | true=>
    rw [show N.all (id∘λp=>Ox (gA ms p))=true from z2];exact Ji (hk _ _ ⟨rfl,s2.trans s3,λy=>y.elim z1 (λy=>by rw [z2] at y;cases y)⟩)
  rintro σ' H1 ⟨rfl,s1,hno⟩;have hno':¬ ((L.any λp=>GN (gA ms p))=true\/(N.all λp=>Ox (gA ms p))=false):=hno;rw [if_neg hno'] at qs;refine ⟨_,rfl,m,_,rfl,.inr (SqT.of (s1 _ _ hm)),λc hc=>?_⟩;have hc0:H c=none:=s1.free hc;have s2:=s1.put (o:=.lst (ms.map V.int)) hc0;have ha2:=s2 _ _ ha;have hac:a≠c:=Gh (s1 _ _ ha) hc;refine ⟨_,rfl,a,rfl,⟨_,SqL.of ha2⟩,?_⟩;refine J4 (K:=K) (a:=a) (xs:=L.map V.int) (λi σ H3=>∃v3:Option V,σ=[some (.ref m),some (.ref a),some (.ref b),v3,some (.ref c)]/\Same H H3/\H3 c=some (.lst (((L.take i).foldl (λm p=>m.set p.toNat (-2)) ms).map V.int))/\((L.take i).foldl (λm p=>m.set p.toNat (-2)) ms).length=ms.length) ⟨none,rfl,s2,Gb,rfl⟩ (λi σ H3 _ ⟨_,_,s3,_⟩=>SqL.of (s3 _ _ ha)) ?_ ?_
  ·rintro i x σ H3 hxi ⟨v3,rfl,s3,e3,l3⟩;rw [List.getElem?_map] at hxi;cases y:L[i]? with
   | none=>rw [y] at hxi;cases hxi
   | some p=>
    rw [y] at hxi;cases hxi;obtain ⟨p0,p1⟩:=lr p (List.mem_of_getElem? y);refine ⟨_,rfl,_,rfl,c,_,p,_,rfl,rfl,e3,Oq p0 (by rw [List.length_map,l3];lia),?_⟩;rw [map_set];refine ⟨_,rfl,s3.put hc0,?_,?_⟩
    ·rw [Gb,List.take_add_one,y,List.foldl_append]
     rfl
    ·rw [List.take_add_one,y,List.foldl_append];show (List.set _ _ _).length=_;rw [List.length_set,l3]
  ·rintro σ H3 ⟨v3,rfl,s3,e3,l3⟩;rw [List.length_map,List.take_length] at e3;refine ⟨_,rfl,c,_,rfl,.inl ⟨SqL.of e3,λT hT=>?_⟩⟩;exact qs T _ _ (s3.put (s3.free hT)) Gb rfl
structure StepAt (H:Hp)(x:V)(rs:List (Int×Int))(s t:Int)(j:Nat):Prop where
 ex:∃T r lv nd:Addr,x=.ref T/\H T=some (.tup [.ref r,.ref lv,.ref nd])/\H r=some (.tup [.int (rs.getD j (0,0)).1,.int (rs.getD j (0,0)).2])/\H lv=some (.lst ((O5 rs j).map V.int))/\H nd=some (.lst ((Zi s t (O5 rs j)).map V.int))
theorem StepAt.same {H H':Hp}{x:V}{rs:List (Int×Int)}{s t:Int}{j:Nat}(h:StepAt H x rs s t j)(q:Same H H'):StepAt H' x rs s t j:=by
 obtain ⟨T,r,lv,nd,e,h1,h2,h3,h4⟩:=h.ex;exact ⟨T,r,lv,nd,e,q _ _ h1,q _ _ h2,q _ _ h3,q _ _ h4⟩
structure ZbB (rs:List (Int×Int))(j:Nat)(ms:List Int):Prop where
 lt:j<rs.length
 rd:0<=(rs.getD j (0,0)).1/\(rs.getD j (0,0)).1<(rs.getD j (0,0)).2/\(rs.getD j (0,0)).2+1<(ms.length:Int)
 al:∀q∈ms,q+1<(ms.length:Int)
 le:ms.length<=1000
def ZbC:Sp:=λvs H Q _=>∃(m e:Addr)(x:V)(ms:List Int)(rs:List (Int×Int))(s t:Int)(j:Nat)(ch:Bool),vs=[.ref m,x,.ref e,.bl ch]/\H m=some (.tup (ms.map V.int))/\StepAt H x rs s t j/\EndD H e s t/\ZbB rs j ms /\
 (∀H':Hp,Same H H'->W6 rs s t ms j ch=none->Q .non H')/\(∀(T:Addr)(m':List Int)(H':Hp),Same H H'->H' T=some (.tup (m'.map V.int))->W6 rs s t ms j ch=some m'->Q (.ref T) H')
theorem scDe:Go ["marks", "step", "ends", "chosen", "road", "leaving", "needed", "taken"] ["marks", "step", "ends", "chosen"] (Gd sDe):=⟨rfl,rfl,rfl,by decide +kernel,rfl,by decide +kernel,by decide +kernel⟩
theorem X0 {rs:List (Int×Int)}{j:Nat}{n:Int}(h:0<=(rs.getD j (0,0)).1/\(rs.getD j (0,0)).1<(rs.getD j (0,0)).2/\(rs.getD j (0,0)).2+1<n):(∀p∈O5 rs j,0<=p/\p<n)/\(O5 rs j).length<=2:=by
 unfold O5;refine ⟨λp hp=>?_,List.length_filter_le _ _⟩;rcases List.mem_cons.mp (List.mem_filter.mp hp).1 with z | z
 ·lia
 ·rcases List.mem_cons.mp z with z | z
  ·lia
  ·cases z
theorem pC_len {s t:Int}{ms:List Int}{r:Int×Int}:(pC s t ms r).length=ms.length:=by
 unfold pC;split
 ·simp only [List.length_set]
 ·unfold pW1;dsimp only;split <;> split <;> simp only [List.length_set]
theorem X1 {s t:Int}{ms m':List Int}{r:Int×Int}(h:JC s t ms r=some m'):m'.length=ms.length:=by
 unfold JC at h;split at h
 ·cases h
 ·split at h
  ·split at h
   ·cases h
   ·cases h;rw [List.length_set,pC_len]
  ·cases h;exact pC_len
theorem ZaW {f fWr fLb:Addr}{fd fdWr fdLb:FuncData}(F:Fun K "decided" "decided" sDe f fd)(FWr:Fun K "with_road" "with_road" sWr fWr fdWr)(bWr:Binds K fdWr ["marks", "road", "ends"] [])(mWr:mg "with_road" = some (.ref fWr))(GWr:GD P w K mg base CX0 2 fWr fdWr ["marks", "road", "ends"] ZbA)(FLb:Fun K "left_behind" "left_behind" sLb fLb fdLb)(bLb:Binds K fdLb ["marks", "leaving", "needed"] [])(mLb:mg "left_behind" = some (.ref fLb))(GLb:GD P w K mg base CX0 2 fLb fdLb ["marks", "leaving", "needed"] ZaU):GD P w K mg base CX0 3 f fd ["marks", "step", "ends", "chosen"] ZbC:=by
 refine F.ok scDe (λvs H Q E h=>?_) (λcdv A outer s0 H vs Q E hr h=>?_)
 ·obtain ⟨_,_,_,_,_,_,_,_,_,rfl,_⟩:=h
  rfl
 ·obtain ⟨m,e,x,ms,rs,s,t,j,ch,rfl,hm,hs,he,ok,qn,qs⟩:=h;obtain ⟨T,r,lv,nd,rfl,h1,h2,h3,h4⟩:=hs.ex;obtain ⟨lr,ll⟩:=X0 ok.rd;have nr:(Zi s t (O5 rs j)).length<=2:=Nat.le_trans (List.length_filter_le _ _) ll;refine ⟨_,Gc (JX (pv 1) (Zag K (n:=3) rfl (GV (Gs (i:=4) scDe.nd rfl (Or.inl rfl)) (GV (Gs (i:=5) scDe.nd rfl (Or.inl rfl)) (GV (Gs (i:=6) scDe.nd rfl (Or.inl rfl)) OL)))))
    (Gc (Gq (i:=7) scDe.nd rfl (Or.inl rfl) (J3 (Jm (pv 3) (λ_=>rfl)) (Gi GWr (hr.mono (by decide)) rfl mWr FWr.kp bWr .nil GT (Ga (pv 0) (Ga (pv 4) (Ga (pv 2) Ge)))) (pv 0)))
    (Gg (Gp (J3 (Gv Zv (pv 7) Oa (GC _)) Oa (Gi GLb (hr.mono (by decide)) rfl mLb FLb.kp bLb .nil GT (Ga (pv 7) (Ga (pv 5) (Ga (pv 6) Ge)))))))),?_⟩
  refine ⟨_,rfl,T,_,rfl,SqT.of h1,rfl,_,_,rfl,_,_,rfl,_,_,rfl,rfl,?_⟩
  try dsimp only [GQ]
  unfold W6 at qn qs;have last:∀(T2:Addr)(m2:List Int)(H2:Hp),Same H H2->H2 T2=some (.tup (m2.map V.int))->m2.length=ms.length->(if ch=true then JC s t ms (rs.getD j (0,0)) else some ms)=some m2 ->
    ZaU [.ref T2,.ref lv,.ref nd] H2 Q E0:=λT2 m2 H2 s2 e2 l2 em=>by
   rw [em] at qn qs;exact ⟨T2,lv,nd,m2,_,_,rfl,e2,s2 _ _ h3,s2 _ _ h4,by rw [l2];exact lr,λp hp=>by rw [l2];exact lr p (List.mem_filter.mp hp).1,by lia,by lia,by rw [l2];exact ok.le,λH' s' z=>qn H' (s2.trans s') z,λT' m' H' s' e' z=>qs T' m' H' (s2.trans s') e' z⟩
  refine GK (λσ' H'=>∃v:V,σ'=[some (.ref m),some (.ref T),some (.ref e),some (.bl ch),some (.ref r),some (.ref lv),some (.ref nd),some v]/\Same H H'/\((v=.non/\(if ch=true then JC s t ms (rs.getD j (0,0)) else some ms)=none)\/∃(T2:Addr)(m2:List Int),v=.ref T2/\H' T2=some (.tup (m2.map V.int))/\m2.length=ms.length/\(if ch=true then JC s t ms (rs.getD j (0,0)) else some ms)=some m2)) ?g2 ?g1
  case g1=>
   intro hk;refine ⟨_,rfl,_,rfl,?_⟩;cases ch with
   | true=>
    refine Jd ?_;refine ⟨_,rfl,_,rfl,_,rfl,m,r,e,ms,_,_,s,t,rfl,hm,h2,he,ok.rd.1,ok.rd.2.1,ok.rd.2.2,ok.al,ok.le,λH' s' z=>?_,λT2 m2 H' s' _ e2 z=>?_⟩
    ·exact hk _ _ ⟨_,rfl,s',.inl ⟨rfl,by rw [if_pos rfl];exact z⟩⟩
    ·exact hk _ _ ⟨_,rfl,s',.inr ⟨T2,m2,rfl,e2,X1 z,by rw [if_pos rfl];exact z⟩⟩
   | false=>
    refine Ji ?_;exact ⟨_,rfl,hk _ _ ⟨_,rfl,Same.refl _,.inr ⟨m,ms,rfl,hm,rfl,by rw [if_neg Bool.false_ne_true]⟩⟩⟩
  rintro σ' H' ⟨v,rfl,s',⟨rfl,z⟩ | ⟨T2,m2,rfl,e2,l2,z⟩⟩
  ·refine ⟨_,rfl,rfl,_,rfl,Jd ?_⟩;exact qn H' s' (by rw [z];rfl)
  ·refine ⟨_,rfl,rfl,_,rfl,?_⟩;rw [decide_eq_false (by intro z;cases z)];refine Ji ?_;exact ⟨_,rfl,_,rfl,_,rfl,last T2 m2 H' s' e2 l2 z⟩
end
end M
namespace M
open PySem L2
section
variable {P:Program}{w:World}{K:W.Frag}{mg:Str->Option Value}{base:Heap}
def LastD (H:Hp)(d:Addr)(rs:List (Int×Int)):Prop:=∃kvs,H d=some (.dK kvs)/\∀x:Int,JQ kvs (.inl x)=if 0<=JP rs x then some (.int (JP rs x)) else none
theorem LastD.same {H H':Hp}{d:Addr}{rs:List (Int×Int)}(h:LastD H d rs)(q:Same H H'):LastD H' d rs:=h.imp λ_ z=>⟨q _ _ z.1,z.2⟩
def ZbD:Sp:=λvs H Q _=>∃(wb l:Addr)(k:Int)(xs:List V)(rs:List (Int×Int)),vs=[.ref wb]/\WebAt H wb l k xs rs/\rs.length<=100/\∀(d:Addr)(H':Hp),Same H H'->H d=none->LastD H' d rs->Q (.ref d) H'
theorem scLr:Go ["web", "last", "number", "road"] ["web"] (Gd sLr):=⟨rfl,rfl,rfl,by decide +kernel,rfl,by decide +kernel,by decide +kernel⟩
theorem ZaX {f:Addr}{fd:FuncData}(F:Fun K "last_roads" "last_roads" sLr f fd)(mEnum:mg "enumerate" = none):GD P w K mg base CX0 1 f fd ["web"] ZbD:=by
 refine F.ok scLr (λvs H Q E h=>?_) (λcdv A outer s0 H vs Q E hr h=>?_)
 ·obtain ⟨_,_,_,_,_,rfl,_⟩:=h
  rfl
 ·obtain ⟨wb,l,k,xs,rs,rfl,W,hx,q⟩:=h;have hu1:(A.deeper (PyProof.Rows.envOfC "last_roads" (Gd sLr) s0.heap.objs.size f cdv)).units+1<cLine:=by have:=hr.un;lia
  have h16:(16777216:Nat)=sizeLine:=sizeLine_eq.symm;have hxl:=W.p.len;refine ⟨_,Gc (Gq (i:=1) scLr.nd rfl (Or.inl rfl) XD)
    (Gc (Jg PassesOwn.never rfl (ZN K rfl mEnum (Ga (G4 (US K) (pv 0) Gf (λ_ _=>rfl)) Ge)) (Zag K (n:=2) rfl (GV (Gs (i:=2) scLr.nd rfl (Or.inl rfl)) (GV (Gs (i:=3) scLr.nd rfl (Or.inl rfl)) OL)))
    (Gc (OT hu1 (pv 1) (G4 (US K) (pv 3) Gf (λ_ _=>rfl)) (pv 2) rfl)
    (Gg (OT hu1 (pv 1) (G4 (US K) (pv 3) Gf (λ_ _=>rfl)) (pv 2) rfl))))
    (Gg (Gp (pv 1)))),?_⟩
  refine λd hd=>?_;have s1:Same H (upd H d (.dK [])):=Same.new hd;refine ⟨_,rfl,wb,_,_,_,rfl,rfl,SqT.of (s1 _ _ W.w),G3 (j:=1) rfl,l,xs,rfl,SqL.of (s1 _ _ W.l),?_⟩;refine Vs (K:=K) (a:=l) (xs:=xs) (λi σ H2=>∃(v2 v3:Option V)(kvs:List (Key×V)),σ=[some (.ref wb),some (.ref d),v2,v3]/\Same H H2/\H2 d=some (.dK kvs)/\kvs.length<=2 * i/\∀x:Int,JQ kvs (.inl x)=if 0<=J2 rs x i then some (.int (J2 rs x i)) else none)
   ⟨none,none,[],rfl,s1,Gb,Nat.zero_le _,λx=>by unfold J2;rw [if_neg (by decide)];rfl⟩ (λi σ H2 _ ⟨_,_,_,_,s2,_⟩=>SqL.of (s2 _ _ W.l)) ?_ ?_
  ·rintro i x σ H2 T hxi ⟨v2,v3,kvs,rfl,s2,e2,len,val⟩ hT;obtain ⟨t,r,rfl,et,er⟩:=(W.same s2).p.get hxi;have hi:i<xs.length:=(List.getElem?_eq_some_iff.mp hxi).1;have s3:Same H (upd H2 T (.tup [.int (i:Nat),.ref t])):=s2.put (s2.free hT);have s23:Same H2 (upd H2 T (.tup [.int (i:Nat),.ref t])):=Same.new hT;have hdT:d≠T:=Gh e2 hT;have htd:t≠d:=JZ et e2 (λz=>by cases z);refine ⟨T,_,rfl,SqT.of Gb,rfl,_,_,rfl,_,_,rfl,rfl,?_⟩;refine ⟨_,rfl,_,rfl,_,rfl,t,_,_,_,rfl,rfl,SqT.of (s23 _ _ et),G3 (j:=0) rfl,d,_,rfl,DPut.k (k:=Sum.inl r.1) (GG e2 hdT) (by lia),?_⟩;have hl1:=Jc kvs (Sum.inl r.1) (.int (i:Nat));refine ⟨_,rfl,_,rfl,_,rfl,t,_,_,_,rfl,rfl,SqT.of (GG (s23 _ _ et) htd),G3 (j:=1) rfl,d,_,rfl,DPut.k (k:=Sum.inl r.2) Gb (by lia),?_⟩;have hl2:=Jc (Uu kvs (Sum.inl r.1) (.int (i:Nat))) (Sum.inl r.2) (.int (i:Nat));refine ⟨_,_,_,rfl,((s3.put hd).put hd),Gb,by lia,λy=>?_⟩;rw [Vo,Vo,val y];have e:rs.getD i (0,0)=r:=by rw [List.getD_eq_getElem?_getD,er];rfl
   show _=if 0<=(if (rs.getD i (0,0)).1=y\/(rs.getD i (0,0)).2=y then (i:Int) else J2 rs y i) then some (V.int (if (rs.getD i (0,0)).1=y\/(rs.getD i (0,0)).2=y then (i:Int) else J2 rs y i)) else none
   rw [e];by_cases h2:y=r.2
   ·rw [if_pos (by rw [h2]),if_pos (show r.1=y\/r.2=y from .inr h2.symm),if_pos (by lia)]
   ·rw [if_neg (λz=>h2 (Sum.inl.inj z))];by_cases h1:y=r.1
    ·rw [if_pos (by rw [h1]),if_pos (show r.1=y\/r.2=y from .inl h1.symm),if_pos (by lia)]
    ·rw [if_neg (λz=>h1 (Sum.inl.inj z)),if_neg (show ¬ (r.1=y\/r.2=y) from λz=>z.elim (λz=>h1 z.symm) (λz=>h2 z.symm))]
  ·rintro σ H2 ⟨v2,v3,kvs,rfl,s2,e2,len,val⟩;rw [hxl] at val;exact ⟨_,rfl,q d H2 s2 hd ⟨kvs,e2,val⟩⟩
def ZbE:Sp:=λvs H Q _=>∃(wb l e:Addr)(k:Int)(xs:List V)(rs:List (Int×Int))(s t:Int),vs=[.ref wb,.ref e]/\WebAt H wb l k xs rs/\rs.length<=100/\(∀r∈rs,0<=r.1/\r.1<r.2)/\EndD H e s t/\∀(S:Addr)(zs:List V)(H':Hp),Same H H'->H S=none->H' S=some (.lst zs)->zs.length=rs.length->(∀j x,zs[j]?=some x->StepAt H' x rs s t j)->Q (.ref S) H'
theorem scSo:Go ["web", "needed", "last", "steps", "number", "road", "leaving"] ["web", "needed"] (Gd sSo):=⟨rfl,rfl,rfl,by decide +kernel,rfl,by decide +kernel,by decide +kernel⟩
structure StepsAt (H:Hp)(S:Addr)(zs:List V)(rs:List (Int×Int))(s t:Int):Prop where
 st:∀j x,zs[j]?=some x->∃T r lv nd:Addr,x=.ref T/\lv≠S/\nd≠S/\H T=some (.tup [.ref r,.ref lv,.ref nd])/\H r=some (.tup [.int (rs.getD j (0,0)).1,.int (rs.getD j (0,0)).2])/\H lv=some (.lst ((O5 rs j).map V.int))/\H nd=some (.lst ((Zi s t (O5 rs j)).map V.int))
theorem StepsAt.keep {H H':Hp}{S:Addr}{zs ys:List V}{rs:List (Int×Int)}{s t:Int}(h:StepsAt H S zs rs s t)(eS:H S=some (.lst ys))(q:∀b o,b≠S->H b=some o->H' b=some o):StepsAt H' S zs rs s t:=⟨λj x hx=>by
 obtain ⟨T,r,lv,nd,e,n1,n2,h1,h2,h3,h4⟩:=h.st j x hx;exact ⟨T,r,lv,nd,e,n1,n2,q _ _ (JZ h1 eS (λz=>by cases z)) h1,q _ _ (JZ h2 eS (λz=>by cases z)) h2,q _ _ n1 h3,q _ _ n2 h4⟩⟩
theorem W8 {s t p:Int}:(if p=s then some (V.int (-3)) else if p=t then some (V.int (-4)) else none).isSome=decide (p=s\/p=t):=by
 by_cases h1:p=s
 ·rw [if_pos h1,decide_eq_true (.inl h1)];rfl
 ·rw [if_neg h1];by_cases h2:p=t
  ·rw [if_pos h2,decide_eq_true (.inr h2)];rfl
  ·rw [if_neg h2,decide_eq_false (λz=>z.elim h1 h2)];rfl
theorem UF {L:List Int}{i:Nat}{p:Int}(f:Int->Bool)(h:L[i]?=some p):(L.take (i+1)).filter f=(L.take i).filter f++(if f p=true then [p] else []):=by
 rw [List.take_add_one,h,List.filter_append]
 congr 1
 show List.filter f [p]=_;rw [List.filter_cons];split <;> simp_all
theorem ZaY {f fLr:Addr}{fd fdLr:FuncData}(F:Fun K "steps_of" "steps_of" sSo f fd)(FLr:Fun K "last_roads" "last_roads" sLr fLr fdLr)(bLr:Binds K fdLr ["web"] [])(mLr:mg "last_roads" = some (.ref fLr))(GLr:GD P w K mg base CX0 1 fLr fdLr ["web"] ZbD)(mEnum:mg "enumerate" = none):GD P w K mg base CX0 2 f fd ["web", "needed"] ZbE:=by
 refine F.ok scSo (λvs H Q E h=>?_) (λcdv A outer s0 H vs Q E hr h=>?_)
 ·obtain ⟨_,_,_,_,_,_,_,_,rfl,_⟩:=h
  rfl
 ·obtain ⟨wb,l,e,k,xs,rs,s,t,rfl,W,hx,gp,he,q⟩:=h;have hu1:(A.deeper (PyProof.Rows.envOfC "steps_of" (Gd sSo) s0.heap.objs.size f cdv)).units+1<cLine:=by have:=hr.un;lia
  have h16:(16777216:Nat)=sizeLine:=sizeLine_eq.symm;have hxl:=W.p.len;refine ⟨_,Gc (Gq (i:=2) scSo.nd rfl (Or.inr rfl) (Gi GLr (hr.mono (by decide)) rfl mLr FLr.kp bLr .nil GT (Ga (pv 0) Ge)))
    (Gc (Gq (i:=3) scSo.nd rfl (Or.inl rfl) (GH Ge))
    (Gc (Jg PassesOwn.never rfl (ZN K rfl mEnum (Ga (G4 (US K) (pv 0) Gf (λ_ _=>rfl)) Ge)) (Zag K (n:=2) rfl (GV (Gs (i:=4) scSo.nd rfl (Or.inr rfl)) (GV (Gs (i:=5) scSo.nd rfl (Or.inl rfl)) OL)))
    (Gc (Wo (i:=6) scSo.nd rfl (Or.inl rfl) (own:=["place"]) rfl (Gx (fr:=[("last", 2),("number", 4)]) [(".0", .local),("place", .local),("last", .cell),("number", .cell)] rfl rfl (by decide +kernel) rfl (by decide +kernel) ⟨rfl,rfl,trivial⟩ ⟨λh=>G5 h,λh=>G5 h,λ_=>⟨_,rfl⟩,λ_=>⟨_,rfl⟩,trivial⟩ ⟨⟨rfl,.inl rfl,.inl rfl⟩,⟨rfl,.inl rfl,.inl rfl⟩,trivial⟩) (ZY K (pv 5)) (λ_ _ _ _=>Gs (i:=0) (show List.Nodup (["place", "last", "number"]:List Str) by decide +kernel) rfl (Or.inl rfl)) (λ_ _ _ _=>OQ (Gv OM (UX hu1 (pv 1) (pv 0) (λ_ _=>rfl)) (pv 2) (GC _))) (λ_ _ _ _=>pv 0))
    (Gg (UO (Xv PySem.F.plainAttrs_list PySem.F.slot_list_append PySem.F.type_list_append JH (pv 3) (Ga (JF (Ga (pv 5) (Ga (pv 6) (Ga (Jz (own:=["place"]) rfl (Gx (fr:=[("needed", 1)]) [(".0", .local),("place", .local),("needed", .cell)] rfl rfl (by decide +kernel) rfl (by decide +kernel) ⟨rfl,trivial⟩ ⟨λh=>G5 h,λh=>G5 h,λ_=>⟨_,rfl⟩,trivial⟩ ⟨⟨rfl,.inl rfl,.inl rfl⟩,trivial⟩) (OS K (pv 6)) (λ_ _ _ _=>Gs (i:=0) (show List.Nodup (["place", "needed"]:List Str) by decide +kernel) rfl (Or.inl rfl)) (λ_ _ _ _=>OQ (Zo (ZQ hu1 (pv 0) (pv 1)) rfl)) (λ_ _ _ _=>pv 0)) Ge)))) Ge))))))
    (Gg (Gp (pv 3))))),?_⟩
  refine ⟨_,rfl,wb,l,k,xs,rs,rfl,W,hx,λd H1 s1 hd D1=>?_⟩;refine ⟨Nat.zero_le _,λS hS=>?_⟩;have hS0:=s1.free hS;have s2:=s1.put (o:=.lst []) hS0;refine ⟨_,rfl,wb,_,_,_,rfl,rfl,SqT.of (s2 _ _ W.w),G3 (j:=1) rfl,l,xs,rfl,SqL.of (s2 _ _ W.l),?_⟩;refine Vs (K:=K) (a:=l) (xs:=xs) (λi σ H2=>∃(v4 v5 v6:Option V)(zs:List V),σ=[some (.ref wb),some (.ref e),some (.ref d),some (.ref S),v4,v5,v6]/\Same H H2/\LastD H2 d rs/\H2 S=some (.lst zs)/\zs.length=i/\StepsAt H2 S zs rs s t)
   ⟨none,none,none,[],rfl,s2,D1.same (Same.new hS),Gb,rfl,⟨λj x hx=>by simp at hx⟩⟩ (λi σ H2 _ ⟨_,_,_,_,_,s2,_⟩=>SqL.of (s2 _ _ W.l)) ?_ ?_
  ·rintro i x σ H2 T hxi ⟨v4,v5,v6,zs,rfl,s2,D2,e2,len,st⟩ hT;obtain ⟨t0,r,rfl,et,er⟩:=(W.same s2).p.get hxi;have er':rs.getD i (0,0)=r:=by rw [List.getD_eq_getElem?_getD,er];rfl
   have hi:i<xs.length:=(List.getElem?_eq_some_iff.mp hxi).1;have s23:Same H2 (upd H2 T (.tup [.int (i:Nat),.ref t0])):=Same.new hT;refine ⟨T,_,rfl,SqT.of Gb,rfl,_,_,rfl,_,_,rfl,rfl,?_⟩;generalize upd H2 T (.tup [.int (i:Nat),.ref t0])=H3 at s23 ⊢;have et3:=s23 _ _ et;have D3:=D2.same s23;refine ⟨_,rfl,t0,rfl,⟨_,SqT.of et3⟩,λD hD=>?_⟩;refine XT (K:=K) (a:=t0) (xs:=[r.1,r.2].map V.int) (λn ys H4=>Same H3 H4/\H4 D=some (.lst ys)/\ys=(([r.1,r.2].take n).filter λp=>decide (JP rs p=(i:Int))).map V.int) ⟨Same.new hD,Gb,rfl⟩ (λn ys H4 _ ⟨s4,_⟩=>SqT.of (s4 _ _ et3)) ?_ ?_
   ·rintro n x ys H4 hxn ⟨s4,hD4,rfl⟩;rw [List.getElem?_map] at hxn;cases y:[r.1,r.2][n]? with
    | none=>rw [y] at hxn;cases hxn
    | some p=>
     rw [y] at hxn;cases hxn;have hpr:r.1=p\/r.2=p:=by
      rcases List.mem_cons.mp (List.mem_of_getElem? y) with z | z
      ·exact .inl z.symm
      ·rcases List.mem_cons.mp z with z | z
       ·exact .inr z.symm
       ·cases z
     have hge:0<=JP rs p:=by
      have:=O4 (rs:=rs) (j:=i) (by lia) (p:=p) (by rw [er'];exact hpr)
      lia
     obtain ⟨kvs,ek,val⟩:=D3.same s4;have g:DGet H4 d (.int p) (some (.int (JP rs p))):=by
      have:=DGet.k (k:=Sum.inl p) ek;rw [val p,if_pos hge] at this;exact this
     refine ⟨⟨rfl,rfl,trivial⟩,?_⟩;refine ⟨_,rfl,_,rfl,d,_,rfl,g,_,rfl,rfl,_,rfl,?_⟩;rw [G0,UF _ y];refine UJ (λz=>?_) (λz=>?_)
     ·rw [if_pos z];refine ⟨_,rfl,hD4,?_,s4.put hD,Gb,by rw [List.map_append];rfl⟩;rw [List.length_map];have:=List.length_filter_le (λp=>decide (JP rs p=(i:Int))) ([r.1,r.2].take n);rw [List.length_take] at this;simp at this
      lia
     ·rw [if_neg z,List.append_nil];exact ⟨s4,hD4,rfl⟩
   rintro ys H4 ⟨s4,hD4,rfl⟩;have lve:(([r.1,r.2].take ([r.1,r.2].map V.int).length).filter λp=>decide (JP rs p=(i:Int)))=O5 rs i:=by
    unfold O5;rw [er']
    rfl
   rw [lve] at hD4;have ll:(O5 rs i).length<=2:=by unfold O5;exact List.length_filter_le _ _
   have S4:=(s2.trans s23).trans s4;have e4:=(s23.trans s4) _ _ e2;have hDS:D≠S:=λz=>by rw [z] at hD;rw [s23 _ _ e2] at hD;cases hD
   have hD0:H D=none:=(s2.trans s23).free hD;refine ⟨_,rfl,.inl ⟨rfl,_,SqL.of e4⟩,_,rfl,_,rfl,_,rfl,D,rfl,⟨_,SqL.of hD4⟩,λN hN=>?_⟩;have hNS:N≠S:=λz=>by rw [z,e4] at hN;cases hN
   have hN0:H N=none:=S4.free hN;refine G9 (K:=K) (a:=D) (xs:=(O5 rs i).map V.int) (λn ys H5=>Same H4 H5/\H5 N=some (.lst ys)/\ys=(((O5 rs i).take n).filter λp=>decide (p=s\/p=t)).map V.int) ⟨Same.new hN,Gb,rfl⟩ (λn ys H5 _ ⟨s5,_⟩=>SqL.of (s5 _ _ hD4)) ?_ ?_
   ·rintro n x ys H5 hxn ⟨s5,hN5,rfl⟩;rw [List.getElem?_map] at hxn;cases y:(O5 rs i)[n]? with
    | none=>rw [y] at hxn;cases hxn
    | some p=>
     rw [y] at hxn;cases hxn;refine ⟨⟨rfl,trivial⟩,?_⟩;refine ⟨_,rfl,_,rfl,e,_,rfl,(he.same (S4.trans s5)).get p (by
      have hr1:=List.mem_of_getElem? er;have:=gp r hr1;have hp:=(List.mem_filter.mp (List.mem_of_getElem? y)).1;rw [er'] at hp;rcases List.mem_cons.mp hp with z | z
      ·lia
      ·rcases List.mem_cons.mp z with z | z
       ·lia
       ·cases z),_,rfl,?_⟩
     rw [W8,UF _ y];refine UJ (λz=>?_) (λz=>?_)
     ·rw [if_pos z];refine ⟨_,rfl,hN5,?_,s5.put hN,Gb,by rw [List.map_append];rfl⟩;rw [List.length_map];have:=List.length_filter_le (λp=>decide (p=s\/p=t)) ((O5 rs i).take n);rw [List.length_take] at this
      lia
     ·rw [if_neg z,List.append_nil];exact ⟨s5,hN5,rfl⟩
   rintro ys H5 ⟨s5,hN5,rfl⟩;rw [List.length_map,List.take_length] at hN5;refine ⟨(by show 3<=sizeLine;decide),λB hB=>?_⟩;have e5:=s5 _ _ e4;have S5:=S4.trans s5;have hSB:S≠B:=Gh e5 hB;refine ⟨S,_,_,rfl,rfl,GG e5 hSB,by lia,?_⟩;have dS:d≠S:=by
    obtain ⟨kvs,ek,_⟩:=D2;exact JZ ek e2 (λz=>by cases z)
   have up:∀(o:HO)(ys:HO) b u,b≠S->H5 b=some u->upd (upd H5 B o) S ys b=some u:=λo ys b u n z=>GG (GG z (Gh z hB)) n;refine ⟨_,_,_,zs++[.ref B],rfl,(S5.put (S5.free hB)).put hS0,?_,Gb,by rw [List.length_append,List.length_singleton,len],⟨λj x hx=>?_⟩⟩
   ·obtain ⟨kvs,ek,val⟩:=D3.same (s4.trans s5);exact ⟨kvs,up _ _ _ _ dS ek,val⟩
   ·rcases Nat.lt_or_ge j zs.length with hj | hj
    ·rw [List.getElem?_append_left hj] at hx;exact (((st.keep e2 λb o _ z=>(s23.trans (s4.trans s5)) b o z)).keep e5 (up _ _)).st j x hx
    ·rw [List.getElem?_append_right hj] at hx;have:j=zs.length:=by
      rcases Nat.lt_or_ge (j-zs.length) 1 with z | z
      ·lia
      ·rw [List.getElem?_eq_none (by simpa using z)] at hx;cases hx
     subst this;rw [Nat.sub_self] at hx;cases hx;rw [len,er'];refine ⟨B,t0,D,N,rfl,hDS,hNS,GG Gb (Ne.symm hSB),?_,up _ _ _ _ hDS (s5 _ _ hD4),?_⟩
     ·exact up _ _ _ _ (JZ et3 (s23 _ _ e2) (λz=>by cases z)) ((s4.trans s5) _ _ et3)
     ·exact up _ _ _ _ hNS hN5
  ·rintro σ H2 ⟨v4,v5,v6,zs,rfl,s2,D2,e2,len,st⟩;refine ⟨_,rfl,q S zs H2 s2 hS0 e2 (by lia) λj x hx=>?_⟩;obtain ⟨T,r,lv,nd,e,n1,n2,h1,h2,h3,h4⟩:=st.st j x hx;exact ⟨T,r,lv,nd,e,h1,h2,h3,h4⟩
end
end M
namespace M
open PySem L2
section
variable {P:Program}{w:World}{K:W.Frag}{mg:Str->Option Value}{base:Heap}
def ZaZ:Sp:=λ_ _ _ _=>False
theorem W9 {n q:Str}{st:Stmt}{f:Addr}{fd:FuncData}(ps:List Str)(F:Fun K n q st f fd):GD P w K mg base CX0 1 f fd ps ZaZ:=⟨λ_ _ _ _ h=>h.elim,λ_ _ _ _ _ _ _ _ _ _ _ _ _ h=>h.elim⟩
abbrev m0 (k:Nat):List Int:=List.replicate (k+1) (-2)
def ZbF:Sp:=λvs H Q _=>∃(wb l e:Addr)(k:Nat)(xs:List V)(rs:List (Int×Int)),vs=[.ref wb,.ref e]/\WebAt H wb l (k:Int) xs rs/\k<=100/\EndD H e nE nE/\∀(F T:Addr)(H':Hp),Same H H'->H F=none->H' F=some (.lst [.ref T])->H' T=some (.tup ((m0 k).map V.int))->Q (.ref F) H'
theorem Zck:Go ["web", "needed"] ["web", "needed"] (Gd sFm):=⟨rfl,rfl,rfl,by decide +kernel,rfl,by decide +kernel,by decide +kernel⟩
theorem Za0 {f fBe:Addr}{fd fdBe:FuncData}(F:Fun K "first_marks" "first_marks" sFm f fd)(FBe:Fun K "beside" "beside" Z5 fBe fdBe)(bBe:Binds K fdBe ["web", "place"] [])(mBe:mg "beside" = some (.ref fBe))(GBe:GD P w K mg base CX0 1 fBe fdBe ["web", "place"] ZaZ){u2:Tok}(mFREE:mg "FREE" = some (.int (-2) u2))(mAll:mg "all" = none)(mTup:mg "tuple" = none):GD P w K mg base CX0 4 f fd ["web", "needed"] ZbF:=by
 refine F.ok Zck (λvs H Q E h=>?_) (λcdv A outer s0 H vs Q E hr h=>?_)
 ·obtain ⟨_,_,_,_,_,_,rfl,_⟩:=h
  rfl
 ·obtain ⟨wb,l,e,k,xs,rs,rfl,W,gk,he,q⟩:=h;have h16:(16777216:Nat)=sizeLine:=sizeLine_eq.symm;obtain ⟨_,_,o,e1⟩:=id he;refine ⟨_,Gc (GS (JE (Js (Gz (ZaI K rfl) rfl mAll Vm (Ga (Jz (own:=["place"]) rfl (Gx (fr:=[("web", 0)]) [(".0", .local),("place", .local),("beside", .globalImplicit),("web", .cell)] rfl rfl (by decide +kernel) rfl (by decide +kernel) ⟨rfl,trivial⟩ ⟨λh=>G5 h,λh=>G5 h,λh=>G5 h,λ_=>⟨_,rfl⟩,trivial⟩ ⟨⟨rfl,.inl rfl,.inl rfl⟩,trivial⟩) (XV (pv 1)) (λ_ _ _ _=>Gs (i:=0) (show List.Nodup (["place", "web"]:List Str) by decide +kernel) rfl (Or.inl rfl)) (λ_ _ _ _=>Jo) (λ_ _ _ _=>Gi GBe (hr.mono (by decide)) rfl mBe FBe.kp bBe .nil GT (Ga (pv 1) (Ga (pv 0) Ge)))) Ge)))) (Gg (Gp (GH Ge))) Gu)
    (Gg (Gp (GH (Ga (Jh (WT K) rfl mTup JS (Ga (Gk ZG (GH (Ga (GI (v:=.int (-2)) rfl mFREE ⟨_,rfl⟩) Ge)) (Gk GJ (G4 (US K) (pv 0) Gf (λ_ _=>rfl)) Gf)) Ge)) Ge)))),?_⟩
  refine ⟨_,rfl,e,o,[],rfl,e1,λD hD=>?_⟩;refine VY (a:=e) (o:=o) (kvs:=[]) (λi ys H2=>Same H H2/\H2 D=some (.lst ys)/\ys=[]) ⟨Same.new hD,Gb,rfl⟩ (λi ys H2 _ ⟨s2,_⟩=>s2 _ _ e1) (λi key v ys H2 hkv=>by simp at hkv) ?_;rintro ys H2 ⟨s2,hD2,rfl⟩;refine ⟨D,[],rfl,SqL.of hD2,λz hz=>(by cases hz),_,rfl,?_⟩;refine Ji ?_;refine ⟨Nat.le_of_lt (by show 1<sizeLine;lia),λo1 ho1=>?_⟩;have s3:=s2.put (o:=.lst [V.int (-2)]) (s2.free ho1);have W3:=W.same s3;refine ⟨_,rfl,wb,_,_,_,rfl,rfl,SqT.of W3.w,G3 (j:=0) rfl,_,_,rfl,rfl,o1,_,_,rfl,rfl,Gb,by lia,by lia,(by show 1 * _<=_;lia),λl2 hl2=>?_⟩;refine ⟨l2,_,rfl,.inl ⟨SqL.of Gb,λT hT=>?_⟩⟩;refine ⟨Nat.le_of_lt (by show 1<sizeLine;lia),λG hG=>?_⟩;have s4:=s3.put (o:=.lst (List.replicate ((k:Int)+1).toNat [V.int (-2)]).flatten) (s3.free hl2);have s5:=s4.put (o:=.tup (List.replicate ((k:Int)+1).toNat [V.int (-2)]).flatten) (s4.free hT);have hTG:T≠G:=λz=>by rw [<-z,Gb] at hG;cases hG
  refine q G T _ (s5.put (s5.free hG)) (s5.free hG) Gb (GG ?_ hTG);rw [Gb]
  congr 2
  have:∀n:Nat,(List.replicate n [V.int (-2)]).flatten=(List.replicate n (-2:Int)).map V.int:=λn=>by
   induction n with
   | zero=>rfl
   | succ n ih=>rw [List.replicate_succ,List.flatten_cons,ih,List.replicate_succ];rfl
  rw [this,show ((k:Int)+1).toNat=k+1 by lia]
end
end M
namespace M
open PySem L2
abbrev KI:=List (List Int×Int)
def V2 (ks:KI)(m:List Int):Option Int:=(ks.find? λp=>decide (p.1=m)).map (·.2)
def Ys (ks:KI)(m:List Int)(n:Int):KI:=if (ks.any λp=>decide (p.1=m))=true then ks.map (λp=>if p.1=m then (p.1,n) else p) else ks++[(m,n)]
theorem inl_inj {a b:List Int}:a.map (Sum.inl:Int->Key)=b.map Sum.inl↔a=b:=by
 refine ⟨λh=>?_,λh=>by rw [h]⟩;have:=congrArg (List.map λx:Key=>match x with | .inl i=>i | .inr _=>0) h
 rwa [List.map_map,List.map_map,show ((λx:Key=>match x with | .inl i=>i | .inr _=>0)∘(Sum.inl:Int->Key))=id from rfl,List.map_id,List.map_id] at this
theorem Va (ks:KI)(m:List Int):JQ (ks.map kvI) (m.map Sum.inl)=(V2 ks m).map V.int:=by
 induction ks with
 | nil=>rfl
 | cons p ks ih=>
  unfold JQ V2 at *;rw [List.map_cons,List.find?_cons,List.find?_cons];by_cases h:p.1=m
  ·rw [show decide ((kvI p).1=m.map Sum.inl)=true from decide_eq_true (by show p.1.map Sum.inl=_;rw [h]),decide_eq_true h]
   rfl
  ·rw [show decide ((kvI p).1=m.map Sum.inl)=false from decide_eq_false (λz=>h (inl_inj.mp z)),decide_eq_false h];exact ih
theorem Xa (ks:KI)(m:List Int)(n:Int):Uu (ks.map kvI) (m.map Sum.inl) (.int n)=(Ys ks m n).map kvI:=by
 unfold Uu Ys;have e:((ks.map kvI).any λkv=>decide (kv.1=m.map Sum.inl))=ks.any λp=>decide (p.1=m):=by
  rw [List.any_map]
  congr 1
  funext p
  exact decide_eq_decide.mpr inl_inj
 rw [e];by_cases h:(ks.any λp=>decide (p.1=m))=true
 ·rw [if_pos h,if_pos h,List.map_map,List.map_map];refine List.map_congr_left λp _=>?_;show (if p.1.map Sum.inl=m.map Sum.inl then (p.1.map Sum.inl,V.int n) else kvI p)=kvI (if p.1=m then (p.1,n) else p);by_cases z:p.1=m
  ·rw [if_pos z,if_pos (inl_inj.mpr z)]
  ·rw [if_neg z,if_neg (λy=>z (inl_inj.mp y))]
 ·rw [if_neg h,if_neg h,List.map_append]
  rfl
def Xj (ks:KI):List (List Int):=ks.flatMap λp=>List.replicate p.2.toNat p.1
structure Rep (ks:KI)(R:List (List Int)):Prop where
 nd:(ks.map (·.1)).Nodup
 pos:∀p∈ks,0<p.2
 pm:(Xj ks).Perm R
theorem Rep.perm {ks:KI}{R R':List (List Int)}(h:Rep ks R)(p:R.Perm R'):Rep ks R':=⟨h.nd,h.pos,h.pm.trans p⟩
theorem Rep.nil:Rep [] []:=⟨List.nodup_nil,by simp,.refl _⟩
theorem VD (a b:KI):Xj (a++b)=Xj a++Xj b:=List.flatMap_append
theorem Os (p:List Int×Int)(a:KI):Xj (p::a)=List.replicate p.2.toNat p.1++Xj a:=List.flatMap_cons
theorem Rep.put {ks:KI}{R:List (List Int)}(h:Rep ks R){m:List Int}{n:Int}(hn:0<n):Rep (Ys ks m ((V2 ks m).getD 0+n)) (R++List.replicate n.toNat m):=by
 by_cases c:(ks.any λp=>decide (p.1=m))=true
 ·obtain ⟨p,hp,e⟩:=List.any_eq_true.mp c;have e:p.1=m:=of_decide_eq_true e;obtain ⟨a,b,rfl⟩:=List.append_of_mem hp;have nd:=h.nd;rw [List.map_append,List.map_cons,List.nodup_append,List.nodup_cons] at nd;obtain ⟨na,⟨nb,nb2⟩,nab⟩:=nd;have ha:∀q∈a,q.1≠m:=λq hq z=>nab q.1 (List.mem_map.mpr ⟨q,hq,rfl⟩) p.1 (List.mem_cons_self ..) (z.trans e.symm);have hb:∀q∈b,q.1≠m:=λq hq z=>nb (by rw [e,<-z];exact List.mem_map.mpr ⟨q,hq,rfl⟩);have g:V2 (a++p::b) m=some p.2:=by
   unfold V2;rw [List.find?_append,List.find?_eq_none.mpr (λq hq=>by simpa using ha q hq),Option.none_or,List.find?_cons,decide_eq_true e]
   rfl
  have ea:a.map (λq=>if q.1=m then (q.1,p.2+n) else q)=a:=by
   conv=>rhs;rw [<-List.map_id a]
   exact List.map_congr_left λq hq=>if_neg (ha q hq)
  have eb:b.map (λq=>if q.1=m then (q.1,p.2+n) else q)=b:=by
   conv=>rhs;rw [<-List.map_id b]
   exact List.map_congr_left λq hq=>if_neg (hb q hq)
  have pp:=h.pos p hp;rw [g];show Rep (Ys _ m (p.2+n)) _;unfold Ys;rw [if_pos c,List.map_append,List.map_cons,ea,eb,if_pos e];refine ⟨?_,λq hq=>?_,?_⟩
  ·rw [List.map_append,List.map_cons,List.nodup_append,List.nodup_cons];exact ⟨na,⟨nb,nb2⟩,nab⟩
  ·rcases List.mem_append.mp hq with hq | hq
   ·exact h.pos q (List.mem_append_left _ hq)
   ·rcases List.mem_cons.mp hq with rfl | hq
    ·show 0<p.2+n
     lia
    ·exact h.pos q (List.mem_append_right _ (List.mem_cons_of_mem _ hq))
  ·have:=h.pm;rw [VD,Os] at this ⊢;refine List.Perm.trans ?_ (this.append_right _);show (Xj a++(List.replicate (p.2+n).toNat p.1++Xj b)).Perm _;rw [show (p.2+n).toNat=p.2.toNat+n.toNat by lia,<-List.replicate_append_replicate,List.append_assoc,List.append_assoc,List.append_assoc,e];exact List.Perm.append_left _ (List.Perm.append_left _ List.perm_append_comm)
 ·have hm:∀q∈ks,q.1≠m:=λq hq z=>c (List.any_eq_true.mpr ⟨q,hq,decide_eq_true z⟩);have g:V2 ks m=none:=by
   unfold V2;rw [List.find?_eq_none.mpr (λq hq=>by simpa using hm q hq)]
   rfl
  rw [g];show Rep (Ys ks m (0+n)) _;rw [Int.zero_add];unfold Ys;rw [if_neg c];refine ⟨?_,λq hq=>?_,?_⟩
  ·rw [List.map_append,List.nodup_append];refine ⟨h.nd,by simp,λx hx y hy z=>?_⟩;obtain ⟨q,hq,rfl⟩:=List.mem_map.mp hx;have hy:y=m:=by simpa using hy
   exact hm q hq (z.trans hy)
  ·rcases List.mem_append.mp hq with hq | hq
   ·exact h.pos q hq
   ·rw [List.mem_singleton.mp hq];exact hn
  ·rw [VD,Os];exact h.pm.append (by show (List.replicate n.toNat m++[]).Perm _;rw [List.append_nil])
theorem Rep.mem {ks:KI}{R:List (List Int)}(h:Rep ks R){p:List Int×Int}(hp:p∈ks):p.1∈R:=by
 refine h.pm.mem_iff.mp ?_;unfold Xj;have:=h.pos p hp;exact List.mem_flatMap.mpr ⟨p,hp,List.mem_replicate.mpr ⟨by lia,rfl⟩⟩
theorem X2 {α β:Type}(l:List α)(f g:α->List β):(l.flatMap f++l.flatMap g).Perm (l.flatMap λx=>f x++g x):=by
 induction l with
 | nil=>exact .refl _
 | cons x l ih=>
  rw [List.flatMap_cons,List.flatMap_cons,List.flatMap_cons,List.append_assoc,List.append_assoc];refine List.Perm.append_left _ ?_;refine List.Perm.trans ?_ (List.Perm.append_left _ ih);rw [<-List.append_assoc,<-List.append_assoc];exact List.perm_append_comm.append_right _
theorem X3 {α β:Type}(n:Nat)(x:α)(f:α->List β):((List.replicate n x).flatMap f).Perm ((f x).flatMap λy=>List.replicate n y):=by
 induction n with
 | zero=>simp
 | succ n ih=>
  rw [List.replicate_succ,List.flatMap_cons];refine (List.Perm.append_left _ ih).trans ?_;have h:=X2 (f x) (λy=>[y]) (λy=>List.replicate n y);rw [List.flatMap_singleton'] at h;exact h
def fS (rs:List (Int×Int))(s t:Int)(j:Nat)(m:List Int):List (List Int):=(W6 rs s t m j false).toList++(W6 rs s t m j true).toList
def RJ (rs:List (Int×Int))(k:Nat):Nat->List (List Int)
 | 0=>[m0 k]
 | j+1=>(RJ rs k j).flatMap (fS rs nE nE j)
theorem X4 (rs:List (Int×Int))(s t:Int)(j:Nat)(ks:KI):(ks.flatMap λp=>(fS rs s t j p.1).flatMap λm=>List.replicate p.2.toNat m).Perm ((Xj ks).flatMap (fS rs s t j)):=by
 induction ks with
 | nil=>exact .refl _
 | cons p ks ih=>
  rw [Os,List.flatMap_cons,List.flatMap_append];exact (X3 _ _ _).symm.append ih
section
variable {P:Program}{w:World}{K:W.Frag}{mg:Str->Option Value}{base:Heap}
def SameX (d:Addr)(H H':Hp):Prop:=∀a u,a≠d->H a=some u->H' a=some u
theorem SameX.of {d:Addr}{H H':Hp}(s:Same H H'):SameX d H H':=λa u _ e=>s a u e
theorem SameX.trans {d:Addr}{H H' H'':Hp}(a:SameX d H H')(b:SameX d H' H''):SameX d H H'':=λc u n e=>b c u n (a c u n e)
theorem Xb {ks:KI}(nd:(ks.map (·.1)).Nodup){p:List Int×Int}(hp:p∈ks):V2 ks p.1=some p.2:=by
 obtain ⟨a,b,rfl⟩:=List.append_of_mem hp;rw [List.map_append,List.map_cons,List.nodup_append] at nd;unfold V2;rw [List.find?_append,List.find?_eq_none.mpr,Option.none_or,List.find?_cons,decide_eq_true rfl]
 ·rfl
 ·intro q hq;have:=nd.2.2 q.1 (List.mem_map.mpr ⟨q,hq,rfl⟩) p.1 (List.mem_cons_self ..);simpa using this
def ZbG:Sp:=λvs H Q _=>∃(d e:Addr)(x:V)(ks:KI)(rs:List (Int×Int))(s t:Int)(j:Nat)(R:List (List Int)),vs=[.ref d,x,.ref e]/\H d=some (.dT (ks.map kvI))/\StepAt H x rs s t j/\EndD H e s t/\(∀p∈ks,ZbB rs j p.1)/\Rep ks R/\(∃U:List (List Int),U.length<=4194304/\∀m∈R.flatMap (fS rs s t j),m∈U) /\
 ∀(d':Addr)(ks':KI)(H':Hp),SameX d H H'->H d'=none->H' d'=some (.dT (ks'.map kvI))->Rep ks' (R.flatMap (fS rs s t j))->Q (.ref d') H'
theorem scBs:Go ["numbers", "step", "ends", "ahead", "known", "chosen", "marks"] ["numbers", "step", "ends"] (Gd sBs):=⟨rfl,rfl,rfl,by decide +kernel,rfl,by decide +kernel,by decide +kernel⟩
def Xk (rs:List (Int×Int))(s t:Int)(j c:Nat)(p:List Int×Int):List (List Int):=([false,true].take c).flatMap λch=>(W6 rs s t p.1 j ch).toList.flatMap λm=>List.replicate p.2.toNat m
theorem VE (rs:List (Int×Int))(s t:Int)(j:Nat)(p:List Int×Int):Xk rs s t j 2 p=(fS rs s t j p.1).flatMap λm=>List.replicate p.2.toNat m:=by
 unfold Xk fS;rw [List.flatMap_append];simp
def Xc (rs:List (Int×Int))(s t:Int)(j:Nat)(ks:KI):List (List Int):=ks.flatMap λp=>(fS rs s t j p.1).flatMap λm=>List.replicate p.2.toNat m
theorem UG {rs:List (Int×Int)}{s t:Int}{j:Nat}{ks:KI}{R:List (List Int)}(h:Rep ks R):(Xc rs s t j ks).Perm (R.flatMap (fS rs s t j)):=(X4 rs s t j ks).trans (h.pm.flatMap_right _)
theorem Xd (rs:List (Int×Int))(s t:Int)(j:Nat)(ks:KI)(p:List Int×Int):Xc rs s t j (ks++[p])=Xc rs s t j ks++Xk rs s t j 2 p:=by
 unfold Xc;rw [List.flatMap_append,VE];simp
theorem Xe {rs:List (Int×Int)}{s t:Int}{j:Nat}{ks:KI}{R:List (List Int)}(h:Rep ks R)(i:Nat)(c:Nat)(p:List Int×Int)(hp:ks[i]?=some p)(hc:c<=2):∀m∈Xc rs s t j (ks.take i)++Xk rs s t j c p,m∈Xc rs s t j ks:=by
 intro m hm;rcases List.mem_append.mp hm with hm | hm
 ·unfold Xc at hm ⊢;obtain ⟨q,hq,hm⟩:=List.mem_flatMap.mp hm;exact List.mem_flatMap.mpr ⟨q,List.mem_of_mem_take hq,hm⟩
 ·unfold Xc;refine List.mem_flatMap.mpr ⟨p,List.mem_of_getElem? hp,?_⟩;rw [<-VE];unfold Xk at hm ⊢;obtain ⟨q,hq,hm⟩:=List.mem_flatMap.mp hm;refine List.mem_flatMap.mpr ⟨q,?_,hm⟩;exact List.mem_of_mem_take hq
theorem Yt {α:Type}[DecidableEq α]:∀{a b:List α},a.Nodup->(∀x∈a,x∈b)->a.length<=b.length
 | [],_,_,_=>Nat.zero_le _
 | x::a,b,nd,h=>by
  rw [List.nodup_cons] at nd;have hb:=h x (List.mem_cons_self ..);have:=Yt (b:=b.erase x) nd.2 λy hy=>(List.mem_erase_of_ne (λz=>nd.1 (by rw [<-z];exact hy))).mpr (h y (List.mem_cons_of_mem _ hy));rw [List.length_erase_of_mem hb] at this;have:=List.length_pos_of_mem hb;rw [List.length_cons]
  lia
theorem UH {ks:KI}{R U:List (List Int)}(h:Rep ks R)(hU:∀m∈R,m∈U):ks.length<=U.length:=by
 have:=Yt (b:=U) h.nd λx hx=>by
  obtain ⟨p,hp,rfl⟩:=List.mem_map.mp hx;exact hU _ (h.mem hp)
 rwa [List.length_map] at this
theorem Za1 {f fDe:Addr}{fd fdDe:FuncData}(F:Fun K "behind_step" "behind_step" sBs f fd)(FDe:Fun K "decided" "decided" sDe fDe fdDe)(bDe:Binds K fdDe ["marks", "step", "ends", "chosen"] [])(mDe:mg "decided" = some (.ref fDe))(GDe:GD P w K mg base CX0 3 fDe fdDe ["marks", "step", "ends", "chosen"] ZbC) :
  GD P w K mg base CX0 4 f fd ["numbers", "step", "ends"] ZbG:=by
 refine F.ok scBs (λvs H Q E h=>?_) (λcdv A outer s0 H vs Q E hr h=>?_)
 ·obtain ⟨_,_,_,_,_,_,_,_,_,rfl,_⟩:=h
  rfl
 ·obtain ⟨d,e,x,ks,rs,s,t,j,R,rfl,hd,hx,he,hms,rep,hR,q⟩:=h;have hu1:(A.deeper (PyProof.Rows.envOfC "behind_step" (Gd sBs) s0.heap.objs.size f cdv)).units+1<cLine:=by have:=hr.un;lia
  have h16:(16777216:Nat)=sizeLine:=sizeLine_eq.symm;obtain ⟨U,hU,inU⟩:=hR;refine ⟨_,(@Gc _ _ _ _ _ (@Gq _ _ 3 _ _ _ _ scBs.nd rfl (Or.inl rfl) Vq rfl (by first | exact .inl rfl | exact .inr rfl))
    (@Gc _ _ _ _ _ (@Jg _ _ _ _ _ _ _ _ PassesOwn.never rfl (Vy (pv 0)) (Gs (i:=4) scBs.nd rfl (Or.inl rfl))
    (@Gg _ _ _ (@Jg _ _ _ _ _ _ _ _ PassesOwn.never rfl (ZY K (@JF _ _ _ _ _ (@Ga _ _ _ _ _ UN (@Ga _ _ _ _ _ UN Ge rfl) rfl))) (Gs (i:=5) scBs.nd rfl (Or.inl rfl))
    (@Gc _ _ _ _ _ (@Gq _ _ 6 _ _ _ _ scBs.nd rfl (Or.inl rfl) (@Gi _ _ _ _ _ _ _ _ _ _ _ _ _ _ _ _ GDe (hr.mono (by decide)) rfl mDe FDe.kp bDe .nil GT (@Ga _ _ _ _ _ (pv 4) (@Ga _ _ _ _ _ (pv 1) (@Ga _ _ _ _ _ (pv 2) (@Ga _ _ _ _ _ (pv 5) Ge rfl) rfl) rfl) rfl) (by decide) rfl rfl) rfl (by first | exact .inl rfl | exact .inr rfl))
    (@Gg _ _ _ (@GS _ _ _ _ _ _ _ _ (Gv YE (pv 6) Oa (GC _)) (@Gg _ _ _ (OT hu1 (pv 3) (pv 6) (@Gk _ _ _ _ _ _ _ _ GJ (Vr hu1 (pv 3) (pv 6) Gf ⟨rfl,rfl,rfl,rfl⟩) (UX hu1 (pv 0) (pv 4) (λ_ _=>rfl))) rfl)) Gu))) (by intro _;rfl))) (by intro _;rfl))
    (@Gg _ _ _ (@Gp _ _ _ _ (pv 3))))),?_⟩
  refine λa ha=>?_;have nad:a≠d:=λz=>by rw [z,hd] at ha;cases ha
  have s1:Same H (upd H a (.dT [])):=Same.new ha;have e1:upd H a (.dT []) a=some (.dT (([]:KI).map kvI)):=Gb;have hd1:=s1 _ _ hd;generalize upd H a (.dT [])=H1 at s1 e1 hd1 ⊢;dsimp only [GQ];refine ⟨_,rfl,d,_,rfl,.inl ⟨hd1,λo=>?_⟩⟩;have s2:SameX d H1 (upd H1 d (.frz o (.dT (ks.map kvI)))):=λb u n y=>GG y n;have hd2:upd H1 d (.frz o (.dT (ks.map kvI))) d=some (.frz o (.dT (ks.map kvI))):=Gb;have e2:upd H1 d (.frz o (.dT (ks.map kvI))) a=some (.dT (([]:KI).map kvI)):=GG e1 nad;generalize upd H1 d (.frz o (.dT (ks.map kvI)))=H2 at s2 hd2 e2 ⊢;have S2:SameX d H H2:=(SameX.of s1).trans s2;have ked:∀{H':Hp},SameX d H H'->H' d=some (.frz o (.dT (ks.map kvI)))->EndD H' e s t:=λ{H'} sx _=>by
   obtain ⟨ne,ne2,o',eo⟩:=he;exact ⟨ne,ne2,o',sx e _ (λz=>by rw [z,hd] at eo;cases eo) eo⟩
  have kst:∀{H':Hp},SameX d H H'->StepAt H' x rs s t j:=λ{H'} sx=>by
   obtain ⟨T,r,lv,nd,ex,g1,g2,g3,g4⟩:=hx.ex;have n:∀{b u},H b=some u->(∀kvs,u≠.dT kvs)->b≠d:=λ{b u} y z y2=>by rw [y2,hd] at y;cases y;exact z _ rfl
   exact ⟨T,r,lv,nd,ex,sx _ _ (n g1 (λ_ z=>by cases z)) g1,sx _ _ (n g2 (λ_ z=>by cases z)) g2,sx _ _ (n g3 (λ_ z=>by cases z)) g3,sx _ _ (n g4 (λ_ z=>by cases z)) g4⟩
  refine WZ (a:=d) (o:=o) (kvs:=ks.map kvI) (λi σ H3=>∃(v4 v5 v6:Option V)(acc:KI),σ=[some (.ref d),some x,some (.ref e),some (.ref a),v4,v5,v6]/\SameX d H H3/\H3 d=some (.frz o (.dT (ks.map kvI)))/\H3 a=some (.dT (acc.map kvI))/\Rep acc (Xc rs s t j (ks.take i)))
   ⟨none,none,none,[],rfl,S2,hd2,e2,Rep.nil⟩ (λi σ H3 _ ⟨_,_,_,_,_,_,y,_⟩=>y) ?_ ?_
  ·rintro i kk v b σ H3 hkv hb ⟨v4,v5,v6,acc,rfl,s3,hd3,e3,rp⟩;rw [List.getElem?_map] at hkv;obtain ⟨p,hp,ep⟩:=Option.map_eq_some_iff.mp hkv;cases ep;have hpm:=List.mem_of_getElem? hp;rw [UC] at hb;refine ⟨GZ,λT hT=>?_⟩;have s4:Same H3 (upd H3 T (.tup [.bl false,.bl true])):=Same.new hT;have e4:upd H3 T (.tup [.bl false,.bl true]) T=some (.tup [.bl false,.bl true]):=Gb;generalize upd H3 T (.tup [.bl false,.bl true])=H4 at s4 e4 ⊢;refine ⟨T,rfl,⟨_,SqT.of e4⟩,?_⟩;refine YC (K:=K) (a:=T) (xs:=[.bl false,.bl true]) (λc σ H5=>c<=2/\∃(v5 v6:Option V)(acc:KI),σ=[some (.ref d),some x,some (.ref e),some (.ref a),some (.ref b),v5,v6]/\SameX a H4 H5/\SameX d H H5/\H5 d=some (.frz o (.dT (ks.map kvI)))/\H5 a=some (.dT (acc.map kvI))/\Rep acc (Xc rs s t j (ks.take i)++Xk rs s t j c p))
    ⟨by decide,_,_,acc,rfl,λ_ _ _ y=>y,s3.trans (SameX.of s4),s4 _ _ hd3,s4 _ _ e3,by simpa [Xk] using rp⟩ (λc σ H5 _ ⟨_,_,_,_,_,sx,_⟩=>SqT.of (sx _ _ (JZ e4 (s4 _ _ e3) (λz=>by cases z)) e4)) ?_ ?_
   ·rintro c y σ H5 hy ⟨hc2,v5,v6,acc,rfl,sx,s5,hd5,e5,rp⟩;have hcl:c<2:=(List.getElem?_eq_some_iff.mp hy).1;obtain ⟨ch,rfl,hch⟩:∃ch:Bool,y=.bl ch/\[false,true][c]?=some ch:=by
     rcases (by lia:c=0\/c=1) with rfl | rfl
     ·cases hy;exact ⟨_,rfl,rfl⟩
     ·cases hy;exact ⟨_,rfl,rfl⟩
    have hb5:H5 b=some (.tup (p.1.map V.int)):=sx _ _ (JZ (s4 _ _ hb) (s4 _ _ e3) (λz=>by cases z)) (s4 _ _ hb);have one1:Xk rs s t j (c+1) p=Xk rs s t j c p++(W6 rs s t p.1 j ch).toList.flatMap λm=>List.replicate p.2.toNat m:=by
     unfold Xk;rw [List.take_add_one,hch,List.flatMap_append];simp
    refine ⟨_,rfl,_,rfl,_,rfl,_,rfl,b,e,x,p.1,rs,s,t,j,ch,rfl,hb5,kst s5,ked s5 hd5,hms p hpm,λH6 s6 z=>?_,λT2 m' H6 s6 eT z=>?_⟩
    ·refine ⟨_,rfl,rfl,_,rfl,Ji ?_⟩;exact ⟨by lia,_,_,acc,rfl,sx.trans (SameX.of s6),s5.trans (SameX.of s6),s6 _ _ hd5,s6 _ _ e5,by rw [one1,z];simpa using rp⟩
    ·refine ⟨_,rfl,rfl,_,rfl,?_⟩;rw [decide_eq_false (by intro z;cases z)];refine Jd ?_;have pp:=rep.pos p hpm;have hd6:=s6 _ _ hd5;have e6:=s6 _ _ e5;have eTk:H6 T2=some (.tup ((m'.map (Sum.inl:Int->Key)).map kV)):=by rw [UC];exact eT
     have ebk:H6 b=some (.tup ((p.1.map (Sum.inl:Int->Key)).map kV)):=by rw [UC];exact s6 _ _ hb5
     have vb:JQ (ks.map kvI) (p.1.map Sum.inl)=some (.int p.2):=by rw [Va,Xb rep.nd hpm];rfl
     have hal:acc.length<=4194304:=Nat.le_trans (UH rp λm hm=>inU m ((UG rep).mem_iff.mp (Xe rep i c p hp (by lia) m hm))) hU;have ev:(JQ (acc.map kvI) (m'.map Sum.inl)).getD (.int 0)=.int ((V2 acc m').getD 0):=by rw [Va];cases V2 acc m' <;> rfl
     refine ⟨_,rfl,a,rfl,.inr ⟨_,.inl e6⟩,_,rfl,_,DGet.t e6 eTk,?_⟩;rw [ev];have dg:DGet H6 d (.ref b) (some (.int p.2)):=by rw [<-vb];exact Or.inr ⟨_,_,b,.inr ⟨o,hd6⟩,rfl,ebk,rfl⟩
     refine ⟨_,rfl,_,rfl,d,_,rfl,dg,_,_,rfl,rfl,?_⟩;refine ⟨_,rfl,_,rfl,a,_,rfl,DPut.t e6 eTk (by rw [List.length_map];lia),?_⟩;rw [Xa];have nda:d≠a:=Ne.symm nad;refine ⟨by lia,_,_,Ys acc m' ((V2 acc m').getD 0+p.2),rfl,(sx.trans (SameX.of s6)).trans (λc' u n y=>GG y n),?_,GG hd6 nda,Gb,?_⟩
     ·intro c' u n y;have y6:=s6 _ _ (s5 c' u n y);exact GG y6 (λz=>by rw [z] at y;rw [ha] at y;cases y)
     ·have:=rp.put (m:=m') (n:=p.2) pp;rw [one1,z,<-List.append_assoc];simpa using this
   ·rintro σ H5 ⟨_,v5,v6,acc,rfl,sx,s5,hd5,e5,rp⟩;refine ⟨_,_,_,acc,rfl,s5,hd5,e5,?_⟩;rw [List.take_add_one,hp];show Rep acc (Xc rs s t j (ks.take i++[p]));rw [Xd];exact rp
  ·rintro σ H3 ⟨v4,v5,v6,acc,rfl,s3,hd3,e3,rp⟩;rw [List.length_map,List.take_length] at rp;exact ⟨_,rfl,q a acc H3 s3 ha e3 (rp.perm (UG rep))⟩
end
theorem JD {l:List Int}{i:Nat}{v q:Int}(h:q∈l.set i v):q=v\/q∈l:=(List.mem_or_eq_of_mem_set h).symm
def OkM (k:Nat)(m:List Int):Prop:=m.length=k+1/\∀q∈m,q<(k:Int)
theorem Za2 {k:Nat}{m:List Int}(h:OkM k m){p:Int}(p0:0<=p)(pk:p<(k:Int)):gA m p<(k:Int):=h.2 _ (VA (by have:=h.1;lia))
theorem Z9 {k:Nat}{m:List Int}{s t:Int}(h:OkM k m){p:Int}(p0:0<=p)(pk:p<(k:Int))(k1:1<=k):OH s t m p<(k:Int):=by
 unfold OH;split
 ·rcases Op s t p with ⟨_,e⟩ | ⟨_,_,e⟩ | ⟨_,_,e⟩ <;> lia
 ·exact Za2 h p0 pk
theorem Za3 {k:Nat}{m:List Int}{s t:Int}{r:Int×Int}(h:OkM k m)(h1:0<=r.1/\r.1<r.2/\r.2<(k:Int))(k1:1<=k):OkM k (pC s t m r):=by
 refine ⟨pC_len.trans h.1,λq hq=>?_⟩;have fa:=Z9 (s:=s) (t:=t) h h1.1 (by lia) k1;have fb:=Z9 (s:=s) (t:=t) h (show 0<=r.2 by lia) h1.2.2 k1;have base:∀q∈(m.set r.1.toNat (-1)).set r.2.toNat (-1),q<(k:Int):=λq hq=>by
  rcases JD hq with z | hq
  ·lia
  ·rcases JD hq with z | hq
   ·lia
   ·exact h.2 q hq
 unfold pC at hq;split at hq
 ·exact base q hq
 ·unfold pW1 at hq;dsimp only at hq;split at hq
  ·rcases JD hq with z | hq
   ·lia
   ·split at hq
    ·rcases JD hq with z | hq
     ·lia
     ·exact base q hq
    ·exact base q hq
  ·split at hq
   ·rcases JD hq with z | hq
    ·lia
    ·exact base q hq
   ·exact base q hq
theorem Zb {k:Nat}{m m':List Int}{s t:Int}{r:Int×Int}(h:OkM k m)(h1:0<=r.1/\r.1<r.2/\r.2<(k:Int))(k1:1<=k)(e:JC s t m r=some m'):OkM k m':=by
 have c:=Za3 (s:=s) (t:=t) h h1 k1;unfold JC at e;split at e
 ·cases e
 ·split at e
  ·split at e
   ·cases e
   ·cases e;refine ⟨by rw [List.length_set];exact c.1,λq hq=>?_⟩;rcases JD hq with z | hq
    ·lia
    ·exact c.2 q hq
  ·cases e;exact c
theorem Zc {k:Nat}{m m' L N:List Int}(h:OkM k m)(k1:1<=k)(e:UE m L N=some m'):OkM k m':=by
 have key:∀(L:List Int)(m:List Int),OkM k m->OkM k (L.foldl (λm p=>m.set p.toNat (-2)) m):=by
  intro L
  induction L with
  | nil=>intro m h;exact h
  | cons p L ih=>
   intro m h;refine ih _ ⟨by rw [List.length_set];exact h.1,λq hq=>?_⟩;rcases JD hq with z | hq
   ·lia
   ·exact h.2 q hq
 unfold UE at e;split at e
 ·cases e;exact h
 ·split at e
  ·cases e
  ·cases e;exact key L m h
theorem Yu {k:Nat}{m m':List Int}{rs:List (Int×Int)}{s t:Int}{j:Nat}{ch:Bool}(h:OkM k m)(h1:0<=(rs.getD j (0,0)).1/\(rs.getD j (0,0)).1<(rs.getD j (0,0)).2/\(rs.getD j (0,0)).2<(k:Int))(k1:1<=k)(e:W6 rs s t m j ch=some m'):OkM k m':=by
 unfold W6 at e;obtain ⟨m2,e2,e3⟩:=Option.bind_eq_some_iff.mp e;refine Zc ?_ k1 e3;split at e2
 ·exact Zb h h1 k1 e2
 ·cases e2;exact h
theorem Ot {rs:List (Int×Int)}{j:Nat}(h:j<rs.length):rs.getD j (0,0)∈rs:=by
 rw [List.getD_eq_getElem?_getD,List.getElem?_eq_getElem h];exact List.getElem_mem h
theorem Zd {rs:List (Int×Int)}{k:Nat}(k1:1<=k)(gr:∀r∈rs,0<=r.1/\r.1<r.2/\r.2<(k:Int)):∀{j:Nat},j<=rs.length->∀m∈RJ rs k j,OkM k m
 | 0,_,m,h=>by
  rw [List.mem_singleton.mp (show m∈[m0 k] from h)];exact ⟨List.length_replicate,λq hq=>by have:=(List.mem_replicate.mp hq).2;lia⟩
 | j+1,hj,m,h=>by
  obtain ⟨m1,h0,h1⟩:=List.mem_flatMap.mp h;have ih:=Zd k1 gr (show j<=rs.length by lia) m1 h0;have rd:=gr _ (Ot (rs:=rs) (show j<rs.length by lia));rcases List.mem_append.mp h1 with h1 | h1
  ·exact Yu ih rd k1 (Option.mem_toList.mp h1)
  ·exact Yu ih rd k1 (Option.mem_toList.mp h1)
section
variable {P:Program}{w:World}{K:W.Frag}{mg:Str->Option Value}{base:Heap}
def ZbH:Sp:=λvs H Q _=>∃(wb l e e2:Addr)(k n:Nat)(xs:List V)(rs:List (Int×Int)),vs=[.ref wb,.ref e,.ref e2,.int (n:Int)]/\WebAt H wb l (k:Int) xs rs/\(1<=k/\k<=100/\rs.length<=100/\∀r∈rs,0<=r.1/\r.1<r.2/\r.2<(k:Int))/\EndD H e nE nE/\EndD H e2 nE nE/\n<=rs.length/\(∀j,j<=n->∃U:List (List Int),U.length<=4194304/\∀m∈RJ rs k j,m∈U) /\
 ∀(d:Addr)(ks:KI)(H':Hp),Same H H'->H d=none->H' d=some (.dT (ks.map kvI))->Rep ks (RJ rs k n)->Q (.ref d) H'
theorem scNb:Go ["web", "ends", "needed", "i", "numbers", "marks", "step"] ["web", "ends", "needed", "i"] (Gd sNb):=⟨rfl,rfl,rfl,by decide +kernel,rfl,by decide +kernel,by decide +kernel⟩
theorem Za4 {f fFm fSo fBs:Addr}{fd fdFm fdSo fdBs:FuncData}(F:Fun K "numbers_behind" "numbers_behind" sNb f fd)(FFm:Fun K "first_marks" "first_marks" sFm fFm fdFm)(bFm:Binds K fdFm ["web", "needed"] [])(mFm:mg "first_marks" = some (.ref fFm))(GFm:GD P w K mg base CX0 4 fFm fdFm ["web", "needed"] ZbF)(FSo:Fun K "steps_of" "steps_of" sSo fSo fdSo)(bSo:Binds K fdSo ["web", "needed"] [])(mSo:mg "steps_of_marks" = some (.ref fSo))(GSo:GD P w K mg base CX0 2 fSo fdSo ["web", "needed"] ZbE)(FBs:Fun K "behind_step" "behind_step" sBs fBs fdBs)(bBs:Binds K fdBs ["numbers", "step", "ends"] [])(mBs:mg "behind_step" = some (.ref fBs))(GBs:GD P w K mg base CX0 4 fBs fdBs ["numbers", "step", "ends"] ZbG) :
  GD P w K mg base CX0 5 f fd ["web", "ends", "needed", "i"] ZbH:=by
 refine F.ok scNb (λvs H Q E h=>?_) (λcdv A outer s0 H vs Q E hr h=>?_)
 ·obtain ⟨_,_,_,_,_,_,_,_,rfl,_⟩:=h
  rfl
 ·obtain ⟨wb,l,e,e2',k,n,xs,rs,rfl,W,⟨g1,gk,g3,gr⟩,he,he2,hn,hU,q⟩:=h;have hu1:(A.deeper (PyProof.Rows.envOfC "numbers_behind" (Gd sNb) s0.heap.objs.size f cdv)).units+1<cLine:=by have:=hr.un;lia
  have h16:(16777216:Nat)=sizeLine:=sizeLine_eq.symm;have gp:∀r∈rs,0<=r.1/\r.1<r.2:=λr hr=>⟨(gr r hr).1,(gr r hr).2.1⟩;refine ⟨_,(@Gc _ _ _ _ _ (@Gq _ _ 4 _ _ _ _ scNb.nd rfl (Or.inl rfl) Vq rfl (by first | exact .inl rfl | exact .inr rfl))
    (@Gc _ _ _ _ _ (@Jg _ _ _ _ _ _ _ _ PassesOwn.never rfl (OS K (@Gi _ _ _ _ _ _ _ _ _ _ _ _ _ _ _ _ GFm (hr.mono (by decide)) rfl mFm FFm.kp bFm .nil GT (@Ga _ _ _ _ _ (pv 0) (@Ga _ _ _ _ _ (pv 2) Ge rfl) rfl) (by decide) rfl rfl)) (Gs (i:=5) scNb.nd rfl (Or.inl rfl))
    (@Gg _ _ _ (OT hu1 (pv 4) (pv 5) Gf rfl)) (by intro _;rfl))
    (@Gc _ _ _ _ _ (@Jg _ _ _ _ _ _ _ _ PassesOwn.never rfl (OS K (Xs (kSl K) (@Gi _ _ _ _ _ _ _ _ _ _ _ _ _ _ _ _ GSo (hr.mono (by decide)) rfl mSo FSo.kp bSo .nil GT (@Ga _ _ _ _ _ (pv 0) (@Ga _ _ _ _ _ (pv 2) Ge rfl) rfl) (by decide) rfl rfl) YJ (YK (pv 3)))) (Gs (i:=6) scNb.nd rfl (Or.inl rfl))
    (@Gg _ _ _ (@Gq _ _ 4 _ _ _ _ scNb.nd rfl (Or.inl rfl) (@Gi _ _ _ _ _ _ _ _ _ _ _ _ _ _ _ _ GBs (hr.mono (by decide)) rfl mBs FBs.kp bBs .nil GT (@Ga _ _ _ _ _ (pv 4) (@Ga _ _ _ _ _ (pv 6) (@Ga _ _ _ _ _ (pv 1) Ge rfl) rfl) rfl) (by decide) rfl rfl) rfl (by first | exact .inl rfl | exact .inr rfl))) (by intro _;rfl))
    (@Gg _ _ _ (@Gp _ _ _ _ (pv 4)))))),?_⟩
  refine λd0 hd0=>?_;have s1:Same H (upd H d0 (.dT [])):=Same.new hd0;have e1:upd H d0 (.dT []) d0=some (.dT (([]:KI).map kvI)):=Gb;generalize upd H d0 (.dT [])=H1 at s1 e1 ⊢;dsimp only [GQ];refine GK (λσ2 H2=>∃(v5:Option V)(ks:KI),σ2=[some (.ref wb),some (.ref e),some (.ref e2'),some (.int (n:Int)),some (.ref d0),v5,none]/\Same H H2/\H2 d0=some (.dT (ks.map kvI))/\Rep ks (RJ rs k 0)) ?_ (λJ=>?_)
  case _=>
   rintro σ2 H2 ⟨v5,ks,rfl,s2,e2,rp⟩;refine ⟨_,rfl,_,rfl,wb,l,e2',(k:Int),xs,rs,nE,nE,rfl,W.same s2,by lia,gp,he2.same s2,λS zs H3 s3 hS eS zl st=>?_⟩;have S3:=s2.trans s3;refine ⟨_,rfl,(n:Int),rfl,S,_,rfl,SqL.of eS,λc2 hc2=>?_⟩;have s4:Same H3 (upd H3 c2 (.lst (Xu zs none (some (n:Int))))):=Same.new hc2;have e4:upd H3 c2 (.lst (Xu zs none (some (n:Int)))) c2=some (.lst (zs.take n)):=by rw [Gb,ZL]
   generalize upd H3 c2 (.lst (Xu zs none (some (n:Int))))=H4 at s4 e4 ⊢;have S4:=S3.trans s4;have tl:(zs.take n).length=n:=by rw [List.length_take];lia
   refine ⟨c2,rfl,⟨_,SqL.of e4⟩,?_⟩;have kc2:H2 c2=none:=by
    cases y:H2 c2 with
    | none=>rfl
    | some u=>rw [s3 _ _ y] at hc2;cases hc2
   refine J4 (K:=K) (a:=c2) (xs:=zs.take n) (λi σ H5=>∃(v5 v6:Option V)(d:Addr)(ks:KI),σ=[some (.ref wb),some (.ref e),some (.ref e2'),some (.int (n:Int)),some (.ref d),v5,v6]/\Same H H5/\H d=none/\H5 c2=some (.lst (zs.take n))/\(∀j x,j<n->zs[j]?=some x->StepAt H5 x rs nE nE j)/\H5 d=some (.dT (ks.map kvI))/\Rep ks (RJ rs k i))
    ⟨_,_,d0,ks,rfl,S4,hd0,e4,λj x _ y=>(st j x y).same s4,(s3.trans s4) _ _ e2,rp⟩ (λi σ H5 _ ⟨_,_,_,_,_,_,_,y,_⟩=>SqL.of y) ?_ ?_
   ·rintro i x σ H5 hxi ⟨v5,v6,d,ks,rfl,s5,hdn,ec,hst5,ed,rp⟩;have hi:i<n:=by
     have:=(List.getElem?_eq_some_iff.mp hxi).1
     lia
    have hxz:zs[i]?=some x:=by
     rw [List.getElem?_take,if_pos hi] at hxi;exact hxi
    obtain ⟨U,hU1,hU2⟩:=hU (i+1) (by lia);refine ⟨_,rfl,_,rfl,_,rfl,d,e,x,ks,rs,nE,nE,i,RJ rs k i,rfl,ed,hst5 i x hi hxz,he.same s5,λp hp=>?_,rp,⟨U,hU1,hU2⟩,λd' ks' H6 sx hd' ed' rp'=>?_⟩
    ·have om:=Zd (rs:=rs) (k:=k) (by lia) gr (by lia) _ (rp.mem hp);have hrd:=gr _ (Ot (rs:=rs) (show i<rs.length by lia));exact ⟨by lia,⟨hrd.1,hrd.2.1,by rw [om.1];lia⟩,λq hq=>by have:=om.2 q hq;rw [om.1];lia,by rw [om.1];lia⟩
    ·have S6:Same H H6:=λa u y=>sx a u (λz=>by rw [z,hdn] at y;cases y) (s5 a u y);have ncd:c2≠d:=JZ ec ed (λz=>by cases z);refine ⟨_,_,d',ks',rfl,S6,?_,sx _ _ ncd ec,λj y hj hy=>?_,ed',rp'⟩
     ·cases y:H d' with
      | none=>rfl
      | some u=>rw [s5 _ _ y] at hd';cases hd'
     ·obtain ⟨T,r,lv,nd,ex,g1,g2,g3,g4⟩:=(hst5 j y hj hy).ex;have nn:∀{b u},H5 b=some u->(∀kvs,u≠.dT kvs)->b≠d:=λ{b u} y z y2=>by rw [y2,ed] at y;cases y;exact z _ rfl
      exact ⟨T,r,lv,nd,ex,sx _ _ (nn g1 (λ_ z=>by cases z)) g1,sx _ _ (nn g2 (λ_ z=>by cases z)) g2,sx _ _ (nn g3 (λ_ z=>by cases z)) g3,sx _ _ (nn g4 (λ_ z=>by cases z)) g4⟩
   ·rintro σ H5 ⟨v5,v6,d,ks,rfl,s5,hdn,ec,hst5,ed,rp⟩;rw [tl] at rp;exact ⟨_,rfl,q d ks H5 s5 hdn ed rp⟩
  ·refine ⟨_,rfl,_,rfl,wb,l,e2',k,xs,rs,rfl,W.same s1,gk,he2.same s1,λF0 T1 H2 s2 hF0 eys eT=>?_⟩;refine ⟨F0,rfl,⟨_,SqL.of eys⟩,?_⟩;have e2:=s2 _ _ e1;have nF:F0≠d0:=JZ eys e2 (λz=>by cases z);have eTk:H2 T1=some (.tup (((m0 k).map (Sum.inl:Int->Key)).map kV)):=by rw [UC];exact eT
   refine J4 (K:=K) (a:=F0) (xs:=[.ref T1]) (λi σ H3=>∃v5:Option V,σ=[some (.ref wb),some (.ref e),some (.ref e2'),some (.int (n:Int)),some (.ref d0),v5,none]/\H3 F0=some (.lst [.ref T1])/\Same H H3/\(i=0->H3=H2)/\(i=1->H3 d0=some (.dT ([(m0 k,1)].map kvI)))) ⟨_,rfl,eys,s1.trans s2,λ_=>rfl,λz=>by cases z⟩ (λi σ H3 _ ⟨_,_,y,_⟩=>SqL.of y) ?_ ?_
   ·rintro i x σ H3 hx ⟨v5,rfl,y1,y2,y3,_⟩;have i0:i=0:=by
     have:=(List.getElem?_eq_some_iff.mp hx).1;simp at this;exact this
    subst i0;cases hx;obtain rfl:=y3 rfl;refine ⟨_,rfl,_,rfl,d0,_,rfl,DPut.t e2 eTk (by show 0<sizeLine;lia),?_⟩;have pk:=Xa [] (m0 k) 1;refine ⟨_,rfl,GG y1 nF,y2.put hd0,(λz=>by cases z),λ_=>?_⟩;rw [Gb];exact congrArg (λz=>some (HO.dT z)) pk
   ·rintro σ H3 ⟨v5,rfl,y1,y2,_,y4⟩;refine J _ _ ⟨_,[(m0 k,1)],rfl,y2,y4 rfl,?_⟩;show Rep [(m0 k,1)] [m0 k];exact ⟨by simp,by simp,by show (List.replicate 1 (m0 k)++[]).Perm [m0 k];simp⟩
end
end M
namespace M
open PySem L2
section
variable {P:Program}{w:World}{K:W.Frag}{mg:Str->Option Value}{base:Heap}
def OI (C:Addr):Sp:=λvs H Q E=>∃(r c:Int),vs=[.int r,.int c] /\
 ((∃r' c':Nat,r=(r':Int)/\c=(c':Int)/\1<=r'/\1<=c'/\r'<=16/\c'<=16/\∀(p l:Addr)(xs:List V)(H':Hp),Same H H'->H p=none->H l=none->p≠l->H' p=some (.tup [.int (r * c),.ref l])->H' l=some (.lst xs)->Prs H' xs (GE r' c' (r' * c'))->Q (.ref p) H') \/
  ((r<1\/c<1)/\E (.ref C) none H))
theorem scGrid:Go ["rows", "columns", "places", "roads", "place"] ["rows", "columns"] (Gd sGr):=⟨rfl,rfl,rfl,by decide +kernel,rfl,by decide +kernel,by decide +kernel⟩
theorem X5 (r c p:Nat):(UT r c p).length<=2:=by
 unfold UT;rw [List.length_append];split <;> split <;> simp
theorem Ou (r c:Nat):∀i,(GE r c i).length<=2 * i
 | 0=>by simp [GE]
 | i+1=>by
  have h1:=Ou r c i;have h2:=X5 r c i;rw [JA,List.length_append]
  lia
theorem Ze {f C:Addr}{fd:FuncData}(F:Fun K "grid" "grid" sGr f fd)(mC:mg "NoWeb" = some (.ref C))(xC:ExcC K C)(mRange:mg "range" = none):GD P w K mg base (CXr P w) 1 f fd ["rows", "columns"] (OI C):=by
 refine F.okR scGrid (λvs H Q E h=>?_) (λcdv A outer s H vs Q E hr h=>?_)
 ·obtain ⟨r,c,rfl,_⟩:=h
  rfl
 ·obtain ⟨r,c,rfl,h⟩:=h;have mR:=mRange;refine ⟨_,Gc (GS (PW.pt (VJ (Gv UP (pv 0) Gf (GC _)) (Vb (Gv UP (pv 1) Gf (GC _))))) (Gg (Vh (E:=E) rfl JY rfl mC xC (Ga Jf Ge))) Gu)
   (PSs.nox (Gc (Gq (i:=2) scGrid.nd rfl (Or.inl rfl) (Gk G7 (pv 0) (pv 1)))
   (Gc (Gq (i:=3) scGrid.nd rfl (Or.inl rfl) (GH Ge))
   (Gc (Jg PassesOwn.never rfl (Oe rfl mR (Ga (pv 2) Ge)) (Gs (i:=4) scGrid.nd rfl (Or.inl rfl))
    (Gc (GS (Gv Xo (Gk GU (Gk GJ (pv 4) Gf) (pv 1)) Gf (GC _))
     (Gg (UO (Xv PySem.F.plainAttrs_list PySem.F.slot_list_append PySem.F.type_list_append JH (pv 3) (Ga (JF (Ga (pv 4) (Ga (Gk GJ (pv 4) Gf) Ge))) Ge)))) Gu)
    (Gg (GS (Gv UP (Gk GJ (pv 4) (pv 1)) (pv 2) (GC _))
     (Gg (UO (Xv PySem.F.plainAttrs_list PySem.F.slot_list_append PySem.F.type_list_append JH (pv 3) (Ga (JF (Ga (pv 4) (Ga (Gk GJ (pv 4) (pv 1)) Ge))) Ge)))) Gu))))
   (Gg (Gp (JF (Ga (pv 2) (Ga (pv 3) Ge))))))))),?_⟩
  refine ⟨_,rfl,_,_,rfl,rfl,_,rfl,?_⟩;rcases h with ⟨r',c',rfl,rfl,hr1,hc1,hr2,hc2,q⟩ | ⟨hbad,q⟩
  ·rw [decide_eq_false (show ¬ ((r':Int)<1) by lia)];refine Ji ?_;refine ⟨_,rfl,_,_,rfl,rfl,_,rfl,?_⟩;rw [decide_eq_false (show ¬ ((c':Int)<1) by lia)];refine Ji ?_;refine ⟨_,rfl,_,rfl,_,_,rfl,rfl,.inl ⟨by lia,by lia⟩,?_⟩;refine ⟨Nat.zero_le _,λl hl=>?_⟩;have hrc:(r':Int) * (c':Int)=((r' * c':Nat):Int):=by push_cast;rfl
   have hb:r' * c'<=16 * 16:=Nat.mul_le_mul hr2 hc2;refine ⟨_,rfl,_,rfl,(by rw [hrc];lia),(by rw [hrc];lia),?_⟩;have s0:Same H (upd H l (.lst [])):=Same.new hl;refine Of (lo:=0) (λi σ H2=>∃(xs:List V)(v:Option V),σ=[some (.int r'),some (.int c'),some (.int ((r':Int) * (c':Int))),some (.ref l),v]/\Same H H2/\H2 l=some (.lst xs)/\Prs H2 xs (GE r' c' i))
    ⟨[],none,rfl,s0,Gb,.nil⟩ ?_ ?_
   ·rintro i σ H2 hi ⟨xs,v,rfl,s2,h2,p2⟩;have hi':i<r' * c':=by rw [hrc,Int.toNat_natCast] at hi;exact hi
    rw [show (0:Int)+(i:Int)=(i:Int) by lia];have qV:∀{zs:List V}{rs:List (Int×Int)}{H3:Hp},Prs H3 zs rs->rs.length<=2 * i+1->zs.length<sizeLine:=λp hq=>by
     have:=p.len;have h16:(16777216:Nat)=sizeLine:=sizeLine_eq.symm
     lia
    have hgl:=Ou r' c' i;have step2:∀(xs:List V)(H3:Hp),Same H H3->H3 l=some (.lst xs)->Prs H3 xs (GE r' c' i++(if ((i:Int)+1) % (c':Int)=0 then [] else [((i:Int),(i:Int)+1)])) ->
      Zal (YF (tOp (rI0 λi j=>.bl (decide (i<j))) (tOp (rI0 λi j=>.int (i+j)) (Xn 4) (Xn 1)) (Xn 2)))
       (Zp (tBM K "list" Wk (Xn 3) (Xr (Zbp (Xr (Xn 4) (Xr (tOp (rI0 λi j=>.int (i+j)) (Xn 4) (Xn 1)) Zat))) Zat))) YA
       { nx:=λσ H2=>∃(xs:List V)(v:Option V),σ=[some (.int r'),some (.int c'),some (.int ((r':Int) * (c':Int))),some (.ref l),v]/\Same H H2/\H2 l=some (.lst xs)/\Prs H2 xs (GE r' c' (i+1)),rt:=Q }
       [some (.int r'),some (.int c'),some (.int ((r':Int) * (c':Int))),some (.ref l),some (.int (i:Int))] H3:=by
     intro xs H3 s3 h3 p3;refine ⟨_,rfl,_,rfl,_,_,rfl,rfl,_,rfl,_,_,rfl,rfl,_,rfl,?_⟩;refine UJ (λz=>?_) (λz=>?_)
     ·have z':=of_decide_eq_true z;refine ⟨_,rfl,.inl ⟨rfl,_,SqL.of h3⟩,_,rfl,_,rfl,_,rfl,_,_,rfl,rfl,GZ,λt ht=>?_⟩;have hne:l≠t:=λq=>by rw [q,ht] at h3;cases h3
      obtain ⟨a1,a2,a3⟩:=Vl (a:=(i:Int)) (b:=(i:Int)+(c':Int)) s3 hl h3 p3 ht;refine ⟨l,xs,_,rfl,rfl,GG h3 hne,qV p3 (by rw [List.length_append];split <;> simp <;> lia),xs++[.ref t],_,rfl,a1,a2,?_⟩;rw [JA];unfold UT;rw [if_pos z',<-List.append_assoc];exact a3
     ·have z':¬ ((i:Int)+(c':Int)<(r':Int) * (c':Int)):=λq=>z (decide_eq_true q);refine ⟨xs,_,rfl,s3,h3,?_⟩;rw [JA];unfold UT;rw [if_neg z',List.append_nil];exact p3
    refine ⟨_,rfl,_,_,rfl,rfl,_,rfl,_,_,rfl,rfl,(by show (0:Int)<(c':Int);lia),rfl,_,rfl,?_⟩;by_cases z:((i:Int)+1) % (c':Int)=0
    ·have zz:(!decide (V.int (((i:Int)+1) % (c':Int))=V.int 0))=false:=by rw [z];simp
     refine (if_neg (show ¬ ((!decide (V.int (((i:Int)+1) % (c':Int))=V.int 0))=true) by rw [zz];exact Bool.false_ne_true)).mpr ?_;exact step2 xs H2 s2 h2 (by rw [if_pos z,List.append_nil];exact p2)
    ·have zz:(!decide (V.int (((i:Int)+1) % (c':Int))=V.int 0))=true:=by simp [z]
     refine (if_pos zz).mpr ?_;refine ⟨_,rfl,.inl ⟨rfl,_,SqL.of h2⟩,_,rfl,_,rfl,_,_,rfl,rfl,GZ,λt ht=>?_⟩;have hne:l≠t:=λq=>by rw [q,ht] at h2;cases h2
     obtain ⟨a1,a2,a3⟩:=Vl (a:=(i:Int)) (b:=(i:Int)+1) s2 hl h2 p2 ht;exact ⟨l,xs,_,rfl,rfl,GG h2 hne,qV p2 (by lia),step2 _ _ a1 a2 (by rw [if_neg z];exact a3)⟩
   ·rintro σ H2 ⟨xs,v,rfl,s2,h2,p2⟩;refine ⟨_,rfl,_,rfl,GZ,λp hp=>?_⟩;have hne:l≠p:=λq=>by rw [q,hp] at h2;cases h2
    refine q p l xs _ (s2.put (s2.free hp)) (s2.free hp) hl (Ne.symm hne) Gb (GG h2 hne) ?_;have p3:=p2.keep (Vj (o:=.tup [.int ((r':Int) * (c':Int)),.ref l]) hp);rw [hrc,Int.toNat_natCast] at p3;rw [hrc];exact p3
  ·by_cases z:r<1
   ·rw [decide_eq_true z];refine Jd ?_;exact ⟨by decide,q⟩
   ·rw [decide_eq_false z];refine Ji ⟨_,rfl,_,_,rfl,rfl,_,rfl,?_⟩;rw [decide_eq_true (show c<1 from hbad.elim (λy=>absurd y z) id)];refine Jd ?_;exact ⟨by decide,q⟩
def ZbI:Sp:=λvs H Q _=>∃c:Int,vs=[.int c]/\Q (.int (2 * c-1)) H
theorem Zcl:Go ["columns"] ["columns"] (Gd sRr):=⟨rfl,rfl,rfl,by decide +kernel,rfl,by decide +kernel,by decide +kernel⟩
theorem Za5 {f:Addr}{fd:FuncData}(F:Fun K "roads_of_row" "roads_of_row" sRr f fd):GD P w K mg base CX0 1 f fd ["columns"] ZbI:=by
 refine F.ok Zcl (λvs H Q E h=>?_) (λcdv A outer s0 H vs Q E hr h=>?_)
 ·obtain ⟨_,rfl,_⟩:=h
  rfl
 ·obtain ⟨c,rfl,q⟩:=h;refine ⟨_,Gg (Gp (Gk Uc (Gk G7 Gf (pv 0)) Gf)),?_⟩;exact ⟨_,rfl,_,_,rfl,rfl,.inl ⟨by decide,by decide⟩,_,_,rfl,rfl,q⟩
def sgn (m p:Int):Nat:=if m=-2 then 46 else if p<m then 40 else 41
def ZbJ:Sp:=λvs H Q _=>∃m p:Int,vs=[.int m,.int p]/\Q (.str (mkS [sgn m p])) H
theorem Zcm:Go ["mark", "place"] ["mark", "place"] (Gd sSg):=⟨rfl,rfl,rfl,by decide +kernel,rfl,by decide +kernel,by decide +kernel⟩
theorem Za6 {f:Addr}{fd:FuncData}(F:Fun K "sign_of" "sign_of" sSg f fd){u2:Tok}(mFREE:mg "FREE" = some (.int (-2) u2)):GD P w K mg base CX0 1 f fd ["mark", "place"] ZbJ:=by
 refine F.ok Zcm (λvs H Q E h=>?_) (λcdv A outer s0 H vs Q E hr h=>?_)
 ·obtain ⟨_,_,rfl,_⟩:=h
  rfl
 ·obtain ⟨m,p,rfl,q⟩:=h;refine ⟨_,Gc (GS (Gv OM (pv 0) (GI (v:=.int (-2)) rfl mFREE ⟨_,rfl⟩) (GC _)) (Gg (Gp Jf)) Gu)
    (Gg (Gp (J3 (Gv Zu (pv 0) (pv 1) (GC _)) Jf Jf))),?_⟩
  unfold sgn at q;refine ⟨_,rfl,rfl,_,rfl,?_⟩;rw [G0];refine UJ (λz=>?_) (λz=>?_)
  ·rw [if_pos (of_decide_eq_true z)] at q;exact q
  ·rw [if_neg (λy=>z (decide_eq_true y))] at q;refine ⟨_,rfl,_,rfl,_,_,rfl,rfl,_,rfl,?_⟩;refine UJ (λz=>?_) (λz=>?_)
   ·rw [if_pos (show p<m from of_decide_eq_true z)] at q;exact q
   ·rw [if_neg (show ¬ p<m from λy=>z (decide_eq_true y))] at q;exact q
def Za7 (m:List Int)(f:Int)(c:Nat):List Nat:=(List.range c).map λ(j:Nat)=>sgn (gA m (f+(j:Int))) (f+(j:Int))
def ZbK:Sp:=λvs H Q _=>∃(b:Addr)(m:List Int)(i c:Nat),vs=[.ref b,.int (i:Int),.int (c:Int)]/\H b=some (.tup (m.map V.int))/\(i+1) * c<=m.length/\1<=c/\i<=100/\c<=100/\∀H',Same H H'->Q (.str (mkS (Za7 m ((i:Int) * (c:Int)) c))) H'
theorem scWn:Go ["marks", "row", "columns", "first"] ["marks", "row", "columns"] (Gd sWn):=⟨rfl,rfl,rfl,by decide +kernel,rfl,by decide +kernel,by decide +kernel⟩
theorem Za8 {f fSg:Addr}{fd fdSg:FuncData}(F:Fun K "word_in" "word_in" sWn f fd)(FSg:Fun K "sign_of" "sign_of" sSg fSg fdSg)(bSg:Binds K fdSg ["mark", "place"] [])(mSg:mg "sign_of" = some (.ref fSg))(GSg:GD P w K mg base CX0 1 fSg fdSg ["mark", "place"] ZbJ)(mRange:mg "range" = none):GD P w K mg base CX0 2 f fd ["marks", "row", "columns"] ZbK:=by
 refine F.ok scWn (λvs H Q E h=>?_) (λcdv A outer s0 H vs Q E hr h=>?_)
 ·obtain ⟨_,_,_,_,rfl,_⟩:=h
  rfl
 ·obtain ⟨b,m,i,c,rfl,hb,hl,c1,i1,c2,q⟩:=h;have h16:(16777216:Nat)=sizeLine:=sizeLine_eq.symm;refine ⟨_,Gc (Gq (i:=3) scWn.nd rfl (Or.inl rfl) (Gk G7 (pv 1) (pv 2)))
    (Gg (Gp (Xv PySem.F.plainAttrs_str PySem.F.slot_str_join PySem.F.type_str_join (Y2 K) Jf (Ga (Jz (own:=["place"]) rfl (Gx (fr:=[("marks", 0)]) [(".0", .local),("place", .local),("sign_of", .globalImplicit),("marks", .cell)] rfl rfl (by decide +kernel) rfl (by decide +kernel) ⟨rfl,trivial⟩ ⟨λh=>G5 h,λh=>G5 h,λh=>G5 h,λ_=>⟨_,rfl⟩,trivial⟩ ⟨⟨rfl,.inl rfl,.inl rfl⟩,trivial⟩) (V8 rfl mRange (Ga (pv 3) (Ga (Gk GJ (pv 3) (pv 2)) Ge))) (λ_ _ _ _=>Gs (i:=0) (show List.Nodup (["place", "marks"]:List Str) by decide +kernel) rfl (Or.inl rfl)) (λ_ _ _ _=>Jo) (λ_ _ _ _=>Gi GSg (hr.mono (by decide)) rfl mSg FSg.kp bSg .nil GT (Ga (G4 (US K) (pv 1) (pv 0) (λ_ _=>rfl)) (Ga (pv 0) Ge)))) Ge)))),?_⟩
  refine ⟨_,rfl,_,rfl,_,_,rfl,rfl,.inl ⟨by lia,by lia⟩,?_⟩;dsimp only [GQ];have hfc:(i:Int) * (c:Int)=((i * c:Nat):Int):=by push_cast;rfl
  have hic:i * c<=100 * 100:=Nat.mul_le_mul i1 c2;have hic2:(i+1) * c=i * c+c:=Nat.succ_mul i c;rw [hfc] at q ⊢;generalize i * c=f at *;refine ⟨rfl,_,rfl,_,rfl,_,rfl,_,_,rfl,rfl,_,_,rfl,⟨by lia,by lia,by lia,by lia⟩,λD hD=>?_⟩;rw [show ((f:Int)+(c:Int)-(f:Int)).toNat=c by lia];refine VP (lo:=(f:Int)) (n:=c) (λj ys H2=>Same H H2/\H2 D=some (.lst ys)/\ys=(((List.range j).map λ(j:Nat)=>sgn (gA m ((f:Int)+(j:Int))) ((f:Int)+(j:Int))).map λc=>mkS [c]).map V.str) ⟨Same.new hD,Gb,rfl⟩ ?_ ?_
  ·rintro j ys H2 hj ⟨s2,hD2,rfl⟩;refine ⟨⟨rfl,trivial⟩,?_⟩;unfold YS;refine Jd ?_;refine ⟨_,rfl,_,rfl,b,_,_,_,rfl,rfl,SqT.of (s2 _ _ hb),Jw (by lia) (by lia),_,rfl,_,_,rfl,hD2,?_,s2.put hD,Gb,?_⟩
   ·rw [List.length_map,List.length_map,List.length_map,List.length_range]
    lia
   ·rw [List.range_succ,List.map_append,List.map_append,List.map_append]
    rfl
  ·rintro ys H2 ⟨s2,hD2,rfl⟩;refine ⟨_,D,_,rfl,rfl,SqL.of hD2,?_,?_⟩
   ·exact XY _ (by rw [List.length_map,List.length_range];lia)
   ·show Q (.str (Txt.join (mkS []) _)) _;rw [V1];exact q H2 s2
def Yv (c:Nat):List Nat:=List.replicate c 46
def ZbL (ks:KI)(i c:Nat):List (Str×Int):=(ks.map λp=>(mkS (Za7 p.1 ((i:Int) * (c:Int)) c),p.2)).filter λq=>!decide (q.1=mkS (Yv c))
def Za9 (C:Addr):Sp:=λvs H Q E=>∃(r c i:Int),vs=[.int r,.int c,.int i] /\
 (((r<1\/c<1)/\E (.ref C) none H) \/
  (∃r' c':Nat,r=(r':Int)/\c=(c':Int)/\1<=r'/\1<=c'/\r'<=16/\c'<=16/\r' * c'<=40 /\
  ((¬ (1<=i/\i<r)/\∀H',Same H H'->E (.ref C) none H') \/
   (∃i':Nat,i=(i':Int)/\1<=i'/\i'<r'/\i' * (2 * c' - 1)<=(GE r' c' (r' * c')).length/\(∀j,j<=i' * (2 * c' - 1)->∃U:List (List Int),U.length<=4194304/\∀m∈RJ (GE r' c' (r' * c')) (r' * c') j,m∈U) /\
   ∀(l:Addr)(zs:List SIz)(ks:KI)(H':Hp),Same H H'->H l=none->H' l=some (.lst (zs.map λz=>V.ref z.1))->(∀z∈zs,H' z.1=some (.tup [.str z.2.1,.int z.2.2]))->Rep ks (RJ (GE r' c' (r' * c')) (r' * c') (i' * (2 * c' - 1)))->(zs.map (·.2)).Perm (ZbL ks i' c')->(zs.map (·.2)).Pairwise (λa b=>Ow b a=false)->Q (.ref l) H'))))
theorem scWb:Go ["rows", "columns", "i", "web", "numbers", "told"] ["rows", "columns", "i"] (Gd sWb):=⟨rfl,rfl,rfl,by decide +kernel,rfl,by decide +kernel,by decide +kernel⟩
theorem O6 {r c:Nat}(hc:1<=c):∀q∈GE r c (r * c),0<=q.1/\q.1<q.2/\q.2<((r * c:Nat):Int):=by
 intro q hq;unfold GE at hq;obtain ⟨p,hp,hq⟩:=List.mem_flatMap.mp hq;have hp:=List.mem_range.mp hp;unfold UT at hq;have hm:((r * c:Nat):Int)=(r:Int) * (c:Int):=by push_cast;rfl
 rcases List.mem_append.mp hq with hq | hq
 ·split at hq
  ·cases hq
  ·rename_i hz;rw [List.mem_singleton.mp hq];have:p+1≠r * c:=λz=>hz (by
    have:(p:Int)+1=(r:Int) * (c:Int):=by rw [<-hm,<-z];push_cast;rfl
    rw [this];exact Int.mul_emod_left _ _)
   exact ⟨by show 0<=(p:Int);lia,by show (p:Int)<(p:Int)+1;lia,by show (p:Int)+1<_;lia⟩
 ·split at hq
  ·rename_i hz;rw [List.mem_singleton.mp hq];exact ⟨by show 0<=(p:Int);lia,by show (p:Int)<(p:Int)+(c:Int);lia,by show (p:Int)+(c:Int)<_;lia⟩
  ·cases hq
theorem Zba {f fGr fNb fRr fWn C:Addr}{fd fdGr fdNb fdRr fdWn:FuncData}(F:Fun K "words_below" "words_below" sWb f fd)(FGr:Fun K "grid" "grid" sGr fGr fdGr)(bGr:Binds K fdGr ["rows", "columns"] [])(mGr:mg "grid" = some (.ref fGr))(GGr:GD P w K mg base (CXr P w) 1 fGr fdGr ["rows", "columns"] (OI C))(FNb:Fun K "numbers_behind" "numbers_behind" sNb fNb fdNb)(bNb:Binds K fdNb ["web", "ends", "needed", "i"] [])(mNb:mg "numbers_behind" = some (.ref fNb))(GNb:GD P w K mg base CX0 5 fNb fdNb ["web", "ends", "needed", "i"] ZbH)(FRr:Fun K "roads_of_row" "roads_of_row" sRr fRr fdRr)(bRr:Binds K fdRr ["columns"] [])(mRr:mg "roads_of_row" = some (.ref fRr))(GRr:GD P w K mg base CX0 1 fRr fdRr ["columns"] ZbI)(FWn:Fun K "word_in" "word_in" sWn fWn fdWn)(bWn:Binds K fdWn ["marks", "row", "columns"] [])(mWn:mg "word_in" = some (.ref fWn))(GWn:GD P w K mg base CX0 2 fWn fdWn ["marks", "row", "columns"] ZbK)(mC:mg "NoWeb" = some (.ref C))(xC:ExcC K C)(mSor:mg "sorted" = none):GD P w K mg base (CXr P w) 6 f fd ["rows", "columns", "i"] (Za9 C):=by
 refine F.okR scWb (λvs H Q E h=>?_) (λcdv A outer s0 H vs Q E hr h=>?_)
 ·obtain ⟨_,_,_,rfl,_⟩:=h
  rfl
 ·obtain ⟨r,c,i,rfl,h⟩:=h;have hu1:(A.deeper (PyProof.Rows.envOfC "words_below" (Gd sWb) s0.heap.objs.size f cdv)).units+1<cLine:=by have:=hr.un;lia
  have h16:(16777216:Nat)=sizeLine:=sizeLine_eq.symm;refine ⟨_,(@Gc _ _ _ _ _ (@Gq _ _ 3 _ _ _ _ scWb.nd rfl (Or.inl rfl) (@Gi _ _ _ _ _ _ _ _ _ _ _ _ _ _ _ _ GGr (hr.mono (by decide)) rfl mGr FGr.kp bGr .nil Ov (@Ga _ _ _ _ _ (pv 0) (@Ga _ _ _ _ _ (pv 1) Ge rfl) rfl) (by decide) rfl rfl) rfl (by first | exact .inl rfl | exact .inr rfl))
    (@Gc _ _ _ _ _ (@GS _ _ _ _ _ _ _ _ (JE (Xq Zas UP Gf (pv 2) (pv 0))) (@Gg _ _ _ (Vh (E:=E) rfl JY rfl mC xC (@Ga _ _ _ _ _ Jf Ge rfl))) Gu)
    (@Gc _ _ _ _ _ (@Gq _ _ 4 _ _ _ _ scWb.nd rfl (Or.inr rfl) (@Gi _ _ _ _ _ _ _ _ _ _ _ _ _ _ _ _ GNb (hr.mono (by decide)) rfl mNb FNb.kp bNb .nil GT (@Ga _ _ _ _ _ (pv 3) (@Ga _ _ _ _ _ Vz (@Ga _ _ _ _ _ Vz (@Ga _ _ _ _ _ (@Gk _ _ _ _ _ _ _ _ G7 (pv 2) (@Gi _ _ _ _ _ _ _ _ _ _ _ _ _ _ _ _ GRr (hr.mono (by decide)) rfl mRr FRr.kp bRr .nil GT (@Ga _ _ _ _ _ (pv 1) Ge rfl) (by decide) rfl rfl)) Ge rfl) rfl) rfl) rfl) (by decide) rfl rfl) rfl (by first | exact .inl rfl | exact .inr rfl))
    (@Gc _ _ _ _ _ (Wo (i:=5) scWb.nd rfl (Or.inl rfl) (own:=["marks"]) rfl (Gx (fr:=[("columns", 1),("i", 2),("numbers", 4)]) [(".0", .local),("marks", .local),("word_in", .globalImplicit),("columns", .cell),("i", .cell),("numbers", .cell)] rfl rfl (by decide +kernel) rfl (by decide +kernel) ⟨rfl,rfl,rfl,trivial⟩ ⟨λh=>G5 h,λh=>G5 h,λh=>G5 h,λ_=>⟨_,rfl⟩,λ_=>⟨_,rfl⟩,λ_=>⟨_,rfl⟩,trivial⟩ ⟨⟨rfl,.inl rfl,.inl rfl⟩,⟨rfl,.inl rfl,.inl rfl⟩,⟨rfl,.inl rfl,.inl rfl⟩,trivial⟩) (Vy (pv 4)) (λ_ _ _ _=>Gs (i:=0) (show List.Nodup (["marks", "columns", "i", "numbers"]:List Str) by decide +kernel) rfl (Or.inl rfl)) (λ_ _ _ _=>Jo) (λ_ _ _ _=>@JF _ _ _ _ _ (@Ga _ _ _ _ _ (@Gi _ _ _ _ _ _ _ _ _ _ _ _ _ _ _ _ GWn (hr.mono (by decide)) rfl mWn FWn.kp bWn .nil GT (@Ga _ _ _ _ _ (pv 0) (@Ga _ _ _ _ _ (pv 2) (@Ga _ _ _ _ _ (pv 1) Ge rfl) rfl) rfl) (by decide) rfl rfl) (@Ga _ _ _ _ _ (UX hu1 (pv 3) (pv 0) (λ_ _=>rfl)) Ge rfl) rfl)))
    (@Gg _ _ _ (@Gp _ _ _ _ (Gz (Y7 K) rfl mSor PyProof.Rows.boot_sorted (@Ga _ _ _ _ _ (Jz (own:=["pair"]) rfl (Gx (fr:=[("columns", 1)]) [(".0", .local),("pair", .local),("columns", .cell)] rfl rfl (by decide +kernel) rfl (by decide +kernel) ⟨rfl,trivial⟩ ⟨λh=>G5 h,λh=>G5 h,λ_=>⟨_,rfl⟩,trivial⟩ ⟨⟨rfl,.inl rfl,.inl rfl⟩,trivial⟩) (OS K (pv 5)) (λ_ _ _ _=>Gs (i:=0) (show List.Nodup (["pair", "columns"]:List Str) by decide +kernel) rfl (Or.inl rfl)) (λ_ _ _ _=>OQ (Gv Xo (@G4 _ _ _ _ _ _ _ (US K) (pv 0) Gf (λ_ _=>rfl)) (@Gk _ _ _ _ _ _ _ _ Y8 Jf (pv 1)) (GC _))) (λ_ _ _ _=>pv 0)) Ge rfl)))))))),?_⟩
  rcases h with ⟨bad,e⟩ | ⟨r',c',rfl,rfl,r1,c1,r2,c2,rc,h⟩
  ·exact ⟨_,rfl,_,rfl,_,_,rfl,.inr ⟨bad,e⟩⟩
  refine ⟨_,rfl,_,rfl,_,_,rfl,.inl ⟨r',c',rfl,rfl,r1,c1,r2,c2,λwb l xs H1 s1 hwb hl nwl ewb el P1=>?_⟩⟩;have W1:WebAt H1 wb l ((r' * c':Nat):Int) xs (GE r' c' (r' * c')):=⟨by rw [ewb];push_cast;rfl,el,P1⟩;dsimp only [GQ];have hgl:=Ou r' c' (r' * c');rcases h with ⟨bad,e⟩ | ⟨i',rfl,i1,i2,il,hU,q⟩
  ·refine ⟨_,rfl,_,_,rfl,rfl,_,rfl,UJ (λh0=>?_) (λh0=>?_)⟩
   ·have h0':1<=i:=of_decide_eq_true h0;refine ⟨_,rfl,_,_,rfl,rfl,_,rfl,?_⟩;rw [decide_eq_false λz=>bad ⟨h0',z⟩];exact Jd ⟨by decide,e H1 s1⟩
   ·exact ⟨_,rfl,Jd ⟨by decide,e H1 s1⟩⟩
  refine ⟨_,rfl,_,_,rfl,rfl,_,rfl,?_⟩;rw [decide_eq_true (show (1:Int)<=(i':Int) by lia)];refine Jd ⟨_,rfl,_,_,rfl,rfl,_,rfl,?_⟩;rw [decide_eq_true (show (i':Int)<(r':Int) by lia)];refine Ji ?_;have hi16:i' * (2 * c' - 1)<=16 * 31:=Nat.mul_le_mul (by lia) (by lia);refine ⟨_,rfl,λe1 he1 o1=>?_⟩;have s2:Same H1 (upd H1 e1 (.frz o1 (.dK []))):=Same.new he1;have E1:EndD (upd H1 e1 (.frz o1 (.dK []))) e1 nE nE:=⟨rfl,rfl,o1,Gb⟩;generalize upd H1 e1 (.frz o1 (.dK []))=H2 at s2 E1 ⊢;refine λe2 he2 o2=>?_;have s3:Same H2 (upd H2 e2 (.frz o2 (.dK []))):=Same.new he2;have E2:EndD (upd H2 e2 (.frz o2 (.dK []))) e2 nE nE:=⟨rfl,rfl,o2,Gb⟩;have E1':=E1.same s3;generalize upd H2 e2 (.frz o2 (.dK []))=H3 at s3 E2 E1' ⊢;have W3:=W1.same (s2.trans s3);have S3:=s1.trans (s2.trans s3);have hmul:(i':Int) * (2 * (c':Int)-1)=((i' * (2 * c' - 1):Nat):Int):=by
   rw [Int.natCast_mul,Int.natCast_sub (by lia)]
   push_cast
   rfl
  refine ⟨_,rfl,_,rfl,_,rfl,_,_,rfl,rfl,.inl ⟨by lia,by lia⟩,wb,l,e1,e2,r' * c',i' * (2 * c' - 1),xs,GE r' c' (r' * c'),by rw [<-hmul];rfl,W3,⟨Nat.mul_le_mul r1 c1,by lia,by lia,O6 c1⟩,E1',E2,il,hU,λd ks H4 s4 hd ed rp=>?_⟩;have S4:=S3.trans s4;dsimp only [GQ];have hdH:H d=none:=S3.free hd;refine ⟨_,rfl,d,_,rfl,.inl ⟨ed,λo=>?_⟩⟩;have s5:SameX d H4 (upd H4 d (.frz o (.dT (ks.map kvI)))):=λb u n y=>GG y n;have hd5:upd H4 d (.frz o (.dT (ks.map kvI))) d=some (.frz o (.dT (ks.map kvI))):=Gb;generalize upd H4 d (.frz o (.dT (ks.map kvI)))=H5 at s5 hd5 ⊢;have S5:Same H H5:=λa u y=>s5 _ _ (λz=>by rw [z,hdH] at y;cases y) (S4 _ _ y);refine λD hD=>?_;have rl:ks.length<=4194304:=by
   obtain ⟨U,h1,h2⟩:=hU _ (Nat.le_refl _);exact Nat.le_trans (UH rp h2) h1
  have hu1':=hu1
  let wd:List Int×Int->Str×Int:=λp=>(mkS (Za7 p.1 ((i':Int) * (c':Int)) c'),p.2)
  refine V0 (a:=d) (o:=o) (kvs:=ks.map kvI) (λi ys H6=>∃zs:List SIz,ys=zs.map (λz=>V.ref z.1)/\Same H5 H6/\H6 D=some (.lst ys)/\zs.map (·.2)=(ks.take i).map wd/\∀z∈zs,H6 z.1=some (.tup [.str z.2.1,.int z.2.2]))
   ⟨[],rfl,Same.new hD,Gb,rfl,by simp⟩ (λi ys H6 _ ⟨_,_,y,_⟩=>y _ _ hd5) ?_ ?_
  ·rintro i kk v b ys H6 hkv hb ⟨zs,rfl,s6,hD6,hz,hzs⟩;rw [List.getElem?_map] at hkv;obtain ⟨p,hp,ep⟩:=Option.map_eq_some_iff.mp hkv;cases ep;have hpm:=List.mem_of_getElem? hp;have hil:i<ks.length:=(List.getElem?_eq_some_iff.mp hp).1;have ebk:=hb;rw [UC] at hb;have om:=Zd (rs:=GE r' c' (r' * c')) (k:=r' * c') (Nat.mul_le_mul r1 c1) (O6 c1) il _ (rp.mem hpm);have vb:JQ (ks.map kvI) (p.1.map Sum.inl)=some (.int p.2):=by rw [Va,Xb rp.nd hpm];rfl
   refine ⟨⟨rfl,rfl,rfl,trivial⟩,?_⟩;unfold YS;refine Jd ?_;have qV:(i'+1) * c'<=r' * c':=Nat.mul_le_mul_right c' (by lia);refine ⟨_,rfl,_,rfl,_,rfl,b,p.1,i',c',rfl,hb,by rw [om.1];lia,c1,by lia,by lia,λH7 s7=>?_⟩;have dg:DGet H7 d (.ref b) (some (.int p.2)):=by rw [<-vb];exact Or.inr ⟨_,_,b,.inr ⟨o,s7 _ _ (s6 _ _ hd5)⟩,rfl,s7 _ _ ebk,rfl⟩
   refine ⟨_,rfl,_,rfl,d,_,rfl,dg,GZ,λT2 hT2=>?_⟩;have s8:Same H7 (upd H7 T2 (.tup [.str (wd p).1,.int p.2])):=Same.new hT2;have e8:upd H7 T2 (.tup [.str (wd p).1,.int p.2]) T2=some (.tup [.str (wd p).1,.int p.2]):=Gb;change upd H7 T2 (.tup [.str (wd p).1,.int p.2]) D=_/\_;generalize upd H7 T2 (.tup [.str (wd p).1,.int p.2])=H8 at s8 e8 ⊢;have hD8:=s8 _ _ (s7 _ _ hD6);have zl:(zs.map λz=>V.ref z.1).length=i:=by
    rw [List.length_map];have:=congrArg List.length hz;rw [List.length_map,List.length_map,List.length_take] at this
    lia
   have nD:∀{b u},H8 b=some u->(∀ys,u≠.lst ys)->b≠D:=λ{b u} y z y2=>by rw [y2,hD8] at y;cases y;exact z _ rfl
   refine ⟨hD8,by rw [zl];lia,zs++[(T2,wd p)],by rw [List.map_append];rfl,(s6.trans (s7.trans s8)).put hD,Gb,?_,λz hz'=>?_⟩
   ·rw [List.map_append,hz,List.take_add_one,hp,List.map_append]
    rfl
   ·rcases List.mem_append.mp hz' with hz' | hz'
    ·have y1:=s8 _ _ (s7 _ _ (hzs z hz'));exact GG y1 (nD y1 (λ_ z=>by cases z))
    ·rw [List.mem_singleton.mp hz'];exact GG e8 (nD e8 (λ_ z=>by cases z))
  ·rintro ys H6 ⟨zs,rfl,s6,hD6,hz,hzs⟩;rw [List.length_map,List.take_length] at hz;dsimp only [GQ];have zl:zs.length=ks.length:=by
    have:=congrArg List.length hz
    rwa [List.length_map,List.length_map] at this
   refine ⟨_,rfl,D,rfl,⟨_,SqL.of hD6⟩,λD2 hD2=>?_⟩;refine G9 (K:=K) (a:=D) (xs:=zs.map λz=>V.ref z.1) (λi ys H7=>∃us:List SIz,ys=us.map (λz=>V.ref z.1)/\Same H6 H7/\H7 D2=some (.lst ys)/\us=(zs.take i).filter λz=>!decide (z.2.1=mkS (Yv c'))) ⟨[],rfl,Same.new hD2,Gb,rfl⟩ (λi ys H7 _ ⟨_,_,y,_⟩=>SqL.of (y _ _ hD6)) ?_ ?_
   ·rintro i x ys H7 hx ⟨us,rfl,s7,hD7,hus⟩;rw [List.getElem?_map] at hx;obtain ⟨z,hz1,rfl⟩:=Option.map_eq_some_iff.mp hx;have hzm:=List.mem_of_getElem? hz1;have hil:i<zs.length:=(List.getElem?_eq_some_iff.mp hz1).1;have ul:us.length<=i:=by
     rw [hus];refine Nat.le_trans (List.length_filter_le _ _) ?_;rw [List.length_take];lia
    refine ⟨⟨rfl,trivial⟩,?_⟩;refine ⟨_,rfl,z.1,_,_,_,rfl,rfl,SqT.of (s7 _ _ (hzs z hzm)),G3 (j:=0) rfl,_,rfl,46,c',rfl,rfl,c1,by lia,?_⟩;refine ⟨rfl,_,rfl,?_⟩;show if (!decide (V.str z.2.1=V.str (mkS (Yv c'))))=true then _ else _
    have tk:(zs.take (i+1)).filter (λz=>!decide (z.2.1=mkS (Yv c')))=us++(if z.2.1=mkS (Yv c') then [] else [z]):=by
     rw [List.take_add_one,hz1,List.filter_append,<-hus]
     congr 1
     show List.filter _ [z]=_;rw [List.filter_cons];by_cases y:z.2.1=mkS (Yv c')
     ·rw [if_neg (by rw [decide_eq_true y];exact Bool.false_ne_true),if_pos y];rfl
     ·rw [if_pos (by rw [decide_eq_false y];rfl),if_neg y];rfl
    by_cases y:z.2.1=mkS (Yv c')
    ·rw [if_pos y,List.append_nil] at tk;rw [decide_eq_true (by rw [y])];refine Ji ⟨us,rfl,s7,hD7,tk.symm⟩
    ·rw [if_neg y] at tk;rw [decide_eq_false (λq=>y (V.str.inj q))];refine Jd ⟨_,rfl,hD7,by rw [List.length_map];lia,us++[z],by rw [List.map_append];rfl,s7.put hD2,Gb,tk.symm⟩
   ·rintro ys H7 ⟨us,rfl,s7,hD7,hus⟩;rw [List.length_map,List.take_length] at hus;have um:∀z∈us,z∈zs:=λz hz'=>by rw [hus] at hz';exact (List.mem_filter.mp hz').1
    refine ⟨D2,us,rfl,SqL.of hD7,λz hz'=>SqT.of (s7 _ _ (hzs z (um z hz'))),λL zs' hL pm so=>?_⟩;have S7:Same H H7:=S5.trans (s6.trans s7);have s8:Same H7 (upd H7 L (.lst (zs'.map λz=>V.ref z.1))):=Same.new hL;refine q L zs' ks _ (S7.trans s8) (S7.free hL) Gb (λz hz'=>s8 _ _ (s7 _ _ (hzs z (um z (pm.mem_iff.mp hz'))))) rp ?_ so;refine (pm.map _).trans ?_;unfold ZbL;have e1:us.map (·.2)=(zs.map (·.2)).filter λq=>!decide (q.1=mkS (Yv c')):=by
     rw [hus,List.filter_map]
     rfl
    rw [e1,hz]
end
end M
namespace M
open PySem L2
section
variable {P:Program}{w:World}{K:W.Frag}{mg:Str->Option Value}{base:Heap}
def ZbM (C:Addr):Sp:=λvs H Q E=>∃(r c:Int),vs=[.int r,.int c]/\(r<1\/c<1)/\E (.ref C) none H
theorem Zcn:Go ["rows", "columns"] ["rows", "columns"] (Gd sCb):=⟨rfl,rfl,rfl,by decide +kernel,rfl,by decide +kernel,by decide +kernel⟩
theorem Zbb {f fGr C fCw:Addr}{fd fdGr fdCw:FuncData}(F:Fun K "closed_by_words" "closed_by_words" sCb f fd)(FGr:Fun K "grid" "grid" sGr fGr fdGr)(bGr:Binds K fdGr ["rows", "columns"] [])(mGr:mg "grid" = some (.ref fGr))(GGr:GD P w K mg base (CXr P w) 1 fGr fdGr ["rows", "columns"] (OI C))(FCw:Fun K "count_by_words" "count_by_words" sCw fCw fdCw)(bCw:Binds K fdCw ["web", "needed"] [])(mCw:mg "count_by_words" = some (.ref fCw))(GCw:GD P w K mg base CX0 1 fCw fdCw ["web", "needed"] ZaZ):GD P w K mg base (CXr P w) 2 f fd ["rows", "columns"] (ZbM C):=by
 refine F.okR Zcn (λvs H Q E h=>?_) (λcdv A outer s0 H vs Q E hr h=>?_)
 ·obtain ⟨_,_,rfl,_⟩:=h
  rfl
 ·obtain ⟨r,c,rfl,bad,e⟩:=h;exact ⟨_,Gg (Gp (Gi GCw (hr.mono (by decide)) rfl mCw FCw.kp bCw .nil GT (Ga (Gi GGr (hr.mono (by decide)) rfl mGr FGr.kp bGr .nil Ov (Ga (pv 0) (Ga (pv 1) Ge))) (Ga (GH Ge) Ge)))),_,rfl,_,rfl,_,_,rfl,.inr ⟨bad,e⟩⟩
def ZbN (C:Addr):Sp:=λvs H Q E=>∃(r c:Int),vs=[.int r,.int c]/\(r<1\/c<1)/\E (.ref C) none H
theorem scAp:Go ["rows", "columns", "web"] ["rows", "columns"] (Gd sAp):=⟨rfl,rfl,rfl,by decide +kernel,rfl,by decide +kernel,by decide +kernel⟩
theorem Zbc {f fGr C:Addr}{fd fdGr:FuncData}(F:Fun K "all_places_by_words" "all_places_by_words" sAp f fd)(FGr:Fun K "grid" "grid" sGr fGr fdGr)(bGr:Binds K fdGr ["rows", "columns"] [])(mGr:mg "grid" = some (.ref fGr))(GGr:GD P w K mg base (CXr P w) 1 fGr fdGr ["rows", "columns"] (OI C)):GD P w K mg base (CXr P w) 2 f fd ["rows", "columns"] (ZbN C):=by
 refine F.okR scAp (λvs H Q E h=>?_) (λcdv A outer s0 H vs Q E hr h=>?_)
 ·obtain ⟨_,_,rfl,_⟩:=h
  rfl
 ·obtain ⟨r,c,rfl,bad,e⟩:=h;exact ⟨_,Gc (Gq (i:=2) scAp.nd rfl (Or.inl rfl) (Gi GGr (hr.mono (by decide)) rfl mGr FGr.kp bGr .nil Ov (Ga (pv 0) (Ga (pv 1) Ge)))) Od,_,rfl,_,rfl,_,_,rfl,.inr ⟨bad,e⟩⟩
def ZbO (C:Addr):Sp:=λvs H Q E=>∃(r c:Int)(v:V),vs=[.int r,.int c,v]/\(r<1\/c<1)/\E (.ref C) none H
theorem scWf:Go ["rows", "columns", "roads", "web", "words", "marks", "number", "step", "row", "left"] ["rows", "columns", "roads"] (Gd sWf):=⟨rfl,rfl,rfl,by decide +kernel,rfl,by decide +kernel,by decide +kernel⟩
theorem Zbd {f fGr C:Addr}{fd fdGr:FuncData}(F:Fun K "words_of" "words_of" sWf f fd)(FGr:Fun K "grid" "grid" sGr fGr fdGr)(bGr:Binds K fdGr ["rows", "columns"] [])(mGr:mg "grid" = some (.ref fGr))(GGr:GD P w K mg base (CXr P w) 1 fGr fdGr ["rows", "columns"] (OI C)):GD P w K mg base (CXr P w) 2 f fd ["rows", "columns", "roads"] (ZbO C):=by
 refine F.okR scWf (λvs H Q E h=>?_) (λcdv A outer s0 H vs Q E hr h=>?_)
 ·obtain ⟨_,_,_,rfl,_⟩:=h
  rfl
 ·obtain ⟨r,c,v,rfl,bad,e⟩:=h;exact ⟨_,Gc (Gq (i:=3) scWf.nd rfl (Or.inl rfl) (Gi GGr (hr.mono (by decide)) rfl mGr FGr.kp bGr .nil Ov (Ga (pv 0) (Ga (pv 1) Ge)))) Od,_,rfl,_,rfl,_,_,rfl,.inr ⟨bad,e⟩⟩
def ZbP (C:Addr):Sp:=λvs H Q E=>∃(r c:Int)(v:V),vs=[.int r,.int c,v]/\(r<1\/c<1)/\E (.ref C) none H
theorem scSw:Go ["rows", "columns", "words", "web", "points", "framed", "roads"] ["rows", "columns", "words"] (Gd sSw):=⟨rfl,rfl,rfl,by decide +kernel,rfl,by decide +kernel,by decide +kernel⟩
theorem Zbe {f fGr C:Addr}{fd fdGr:FuncData}(F:Fun K "set_by_words" "set_by_words" sSw f fd)(FGr:Fun K "grid" "grid" sGr fGr fdGr)(bGr:Binds K fdGr ["rows", "columns"] [])(mGr:mg "grid" = some (.ref fGr))(GGr:GD P w K mg base (CXr P w) 1 fGr fdGr ["rows", "columns"] (OI C)):GD P w K mg base (CXr P w) 2 f fd ["rows", "columns", "words"] (ZbP C):=by
 refine F.okR scSw (λvs H Q E h=>?_) (λcdv A outer s0 H vs Q E hr h=>?_)
 ·obtain ⟨_,_,_,rfl,_⟩:=h
  rfl
 ·obtain ⟨r,c,v,rfl,bad,e⟩:=h;exact ⟨_,Gc (Gq (i:=3) scSw.nd rfl (Or.inl rfl) (Gi GGr (hr.mono (by decide)) rfl mGr FGr.kp bGr .nil Ov (Ga (pv 0) (Ga (pv 1) Ge)))) Od,_,rfl,_,rfl,_,_,rfl,.inr ⟨bad,e⟩⟩
end
end M
namespace M
open PySem L2
section
variable {P:Program}{w:World}{K:W.Frag}{mg:Str->Option Value}{base:Heap}
def ZbQ:Sp:=λvs H Q _=>∃(c:Int)(k:Nat),vs=[.int c,.int (k:Int)]/\k<=100/\∀z:Int,Q (.int z) H
theorem scMi:Go ["cell", "k", "number"] ["cell", "k"] (Gd sMi):=⟨rfl,rfl,rfl,by decide +kernel,rfl,by decide +kernel,by decide +kernel⟩
theorem Zbf {f:Addr}{fd:FuncData}(F:Fun K "_law_mixed" "_law_mixed" sMi f fd):GD P w K mg base CX0 1 f fd ["cell", "k"] ZbQ:=by
 refine F.ok scMi (λvs H Q E h=>?_) (λcdv A outer s H vs Q E hr h=>?_)
 ·obtain ⟨_,_,rfl,_⟩:=h
  rfl
 ·obtain ⟨c,k,rfl,hk,q⟩:=h;refine ⟨_,Gc (GS (Gv Xp (pv 0) (Gk Yg Gf Gf) (GC _)) (Gg (Gp (pv 0))) Gu)
    (Gc (Gq (i:=2) scMi.nd rfl (Or.inl rfl) (Gk GU (Gk GJ (Gk GJ (Gk GJ (Gk G7 (pv 0) Gf) (Gk G7 (Gk G7 Gf (pv 1)) (pv 1))) (Gk G7 Gf (pv 1))) Gf) Gf))
    (Gc (Gq (i:=2) scMi.nd rfl (Or.inl rfl) (Gk GU (Gk G7 (pv 2) (pv 2)) Gf))
    (Gg (Gp (Gk GJ (Gk GJ (Gk G7 (Gk G7 (pv 2) (pv 2)) (pv 2)) (Gk G7 Gf (pv 2))) (pv 1)))))),?_⟩
  refine ⟨_,rfl,_,_,rfl,rfl,⟨by decide,by decide,by decide⟩,_,_,rfl,rfl,_,rfl,UJ (λ_=>?_) (λ_=>?_)⟩
  ·exact ⟨_,rfl,q _⟩
  have m1:∀a:Int,0<=a % 2147483647/\a % 2147483647<2147483647:=λa=>⟨Int.emod_nonneg _ (by decide),Int.emod_lt_of_pos _ (by decide)⟩;have m2:∀a:Int,0<=a % 2147483629/\a % 2147483629<2147483629:=λa=>⟨Int.emod_nonneg _ (by decide),Int.emod_lt_of_pos _ (by decide)⟩;have c1:∀a b:Int,0<=a->a<4294967296->CMul a b:=λa b h1 h2=>.inl ⟨by lia,by lia⟩;have c2:∀a b:Int,0<=b->b<4294967296->CMul a b:=λa b h1 h2=>.inr ⟨by lia,by lia⟩;refine ⟨_,rfl,_,_,rfl,rfl,c2 _ _ (by decide) (by decide),_,rfl,_,_,rfl,rfl,c1 _ _ (by decide) (by decide),_,rfl,_,_,rfl,rfl,c2 _ _ (by lia) (by lia),_,_,rfl,rfl,_,rfl,_,_,rfl,rfl,c1 _ _ (by decide) (by decide),_,_,rfl,rfl,_,_,rfl,rfl,_,_,rfl,rfl,(by show (0:Int)<2147483647;decide),?_⟩;generalize hx:(c * 48271+7919 * (k:Int) * (k:Int)+104729 * (k:Int)+19) % 2147483647=x;have hx:=hx▸m1 (c * 48271+7919 * (k:Int) * (k:Int)+104729 * (k:Int)+19);refine ⟨_,rfl,_,rfl,_,_,rfl,rfl,c1 _ _ (by lia) (by lia),_,_,rfl,rfl,(by show (0:Int)<2147483629;decide),?_⟩;generalize hy:x * x % 2147483629=y;have hy:=hy▸m2 (x * x);exact ⟨_,rfl,_,rfl,_,_,rfl,rfl,c1 _ _ (by lia) (by lia),_,rfl,_,_,rfl,rfl,c2 _ _ (by lia) (by lia),_,rfl,_,_,rfl,rfl,c1 _ _ (by decide) (by decide),_,_,rfl,rfl,_,rfl,_,_,rfl,rfl,q _⟩
def ZbR (C:Addr):Sp:=λvs H Q E=>∃(y r c i:Int)(ls:Addr)(x0 x1:V),vs=[.int y,.int r,.int c,.int i,.ref ls]/\H ls=some (.lst [x0,x1])/\(0<=y/\y<5) /\
 ((r<1\/c<1)\/(y=0/\(∃r' c':Nat,r=(r':Int)/\c=(c':Int)/\1<=r'/\1<=c'/\r'<=16/\c'<=16/\r' * c'<=40)/\¬ (1<=i/\i<r)))/\∀H',Same H H'->E (.ref C) none H'
theorem Zco:Go ["way", "rows", "columns", "i", "lists"] ["way", "rows", "columns", "i", "lists"] (Gd sAs):=⟨rfl,rfl,rfl,by decide +kernel,rfl,by decide +kernel,by decide +kernel⟩
theorem Zbg {f fWb fCb fAp fWf fSw C:Addr}{fd fdWb fdCb fdAp fdWf fdSw:FuncData}(F:Fun K "_law_asked" "_law_asked" sAs f fd)(FWb:Fun K "words_below" "words_below" sWb fWb fdWb)(bWb:Binds K fdWb ["rows", "columns", "i"] [])(mWb:mg "words_below" = some (.ref fWb))(GWb:GD P w K mg base (CXr P w) 6 fWb fdWb ["rows", "columns", "i"] (Za9 C))(FCb:Fun K "closed_by_words" "closed_by_words" sCb fCb fdCb)(bCb:Binds K fdCb ["rows", "columns"] [])(mCb:mg "closed_by_words" = some (.ref fCb))(GCb:GD P w K mg base (CXr P w) 2 fCb fdCb ["rows", "columns"] (ZbM C))(FAp:Fun K "all_places_by_words" "all_places_by_words" sAp fAp fdAp)(bAp:Binds K fdAp ["rows", "columns"] [])(mAp:mg "all_places_by_words" = some (.ref fAp))(GAp:GD P w K mg base (CXr P w) 2 fAp fdAp ["rows", "columns"] (ZbN C))(FWf:Fun K "words_of" "words_of" sWf fWf fdWf)(bWf:Binds K fdWf ["rows", "columns", "roads"] [])(mWf:mg "words_of" = some (.ref fWf))(GWf:GD P w K mg base (CXr P w) 2 fWf fdWf ["rows", "columns", "roads"] (ZbO C))(FSw:Fun K "set_by_words" "set_by_words" sSw fSw fdSw)(bSw:Binds K fdSw ["rows", "columns", "words"] [])(mSw:mg "set_by_words" = some (.ref fSw))(GSw:GD P w K mg base (CXr P w) 2 fSw fdSw ["rows", "columns", "words"] (ZbP C)):GD P w K mg base (CXr P w) 7 f fd ["way", "rows", "columns", "i", "lists"] (ZbR C):=by
 refine F.okR Zco (λvs H Q E h=>?_) (λcdv A outer s0 H vs Q E hr h=>?_)
 ·obtain ⟨_,_,_,_,_,_,_,rfl,_⟩:=h
  rfl
 ·obtain ⟨y,r,c,i,ls,x0,x1,rfl,hl,hy,hb,e⟩:=h;have bad:¬ y=0->r<1\/c<1:=λz=>hb.elim id λq=>absurd q.1 z;refine ⟨_,Gc (GS (Gv OM (pv 0) Gf (GC _)) (Gg (Gp (Gi GWb (hr.mono (by decide)) rfl mWb FWb.kp bWb .nil Ov (Ga (pv 1) (Ga (pv 2) (Ga (pv 3) Ge)))))) Gu)
    (Gc (GS (Gv OM (pv 0) Gf (GC _)) (Gg (Gp (Gi GCb (hr.mono (by decide)) rfl mCb FCb.kp bCb .nil Ov (Ga (pv 1) (Ga (pv 2) Ge))))) Gu)
    (Gc (GS (Gv OM (pv 0) Gf (GC _)) (Gg (Gp (Gi GAp (hr.mono (by decide)) rfl mAp FAp.kp bAp .nil Ov (Ga (pv 1) (Ga (pv 2) Ge))))) Gu)
    (Gc (GS (Gv OM (pv 0) Gf (GC _)) (Gg (Gp (Gi GWf (hr.mono (by decide)) rfl mWf FWf.kp bWf .nil Ov (Ga (pv 1) (Ga (pv 2) (Ga (G4 (Zh K) (pv 4) Gf (λ_ _=>rfl)) Ge)))))) Gu)
    (Gg (Gp (Gi GSw (hr.mono (by decide)) rfl mSw FSw.kp bSw .nil Ov (Ga (pv 1) (Ga (pv 2) (Ga (G4 (Zh K) (pv 4) Gf (λ_ _=>rfl)) Ge))))))))),?_⟩
  refine ⟨_,rfl,rfl,_,rfl,?_⟩;rw [G0];refine UJ (λz=>?_) (λz=>?_)
  ·refine ⟨_,rfl,_,rfl,_,rfl,r,c,i,rfl,?_⟩;rcases hb with hb | ⟨_,⟨r',c',h1,h2,h3,h4,h5,h6,h7⟩,hi⟩
   ·exact .inl ⟨hb,e H (Same.refl _)⟩
   ·exact .inr ⟨r',c',h1,h2,h3,h4,h5,h6,h7,.inl ⟨hi,e⟩⟩
  have hb':=bad λq=>z (decide_eq_true q);have e':=e H (Same.refl _);refine ⟨_,rfl,rfl,_,rfl,UJ (λ_=>?_) (λ_=>?_)⟩
  ·exact ⟨_,rfl,_,rfl,r,c,rfl,hb',e'⟩
  refine ⟨_,rfl,rfl,_,rfl,UJ (λ_=>?_) (λ_=>?_)⟩
  ·exact ⟨_,rfl,_,rfl,r,c,rfl,hb',e'⟩
  refine ⟨_,rfl,rfl,_,rfl,UJ (λ_=>?_) (λ_=>?_)⟩
  ·exact ⟨_,rfl,_,rfl,_,rfl,ls,_,_,_,rfl,rfl,SqL.of hl,G3 (j:=0) rfl,r,c,_,rfl,hb',e'⟩
  ·exact ⟨_,rfl,_,rfl,_,rfl,ls,_,_,_,rfl,rfl,SqL.of hl,G3 (j:=1) rfl,r,c,_,rfl,hb',e'⟩
structure ClsW (K:W.Frag)(mg:Str->Option Value)(no way a1 a4 a5 a11:Addr):Prop where
 k:Zaf K no
 mno:mg "NoWeb" = some (.ref no)
 mway:mg "WayError" = some (.ref way)
 m1:mg "NoEnds" = some (.ref a1)
 m4:mg "NoOrder" = some (.ref a4)
 m5:mg "NoPlace" = some (.ref a5)
 m11:mg "NoWay" = some (.ref a11)
 wbe:W.subIn K (.ref way) (.type "BaseException")=some true
 cw:W.kitOne K (.ref no) (.ref way)=some true
 ne:no≠way
 t1:W.kitOne K (.ref no) (.ref a1)=some false
 t4:W.kitOne K (.ref no) (.ref a4)=some false
 t5:W.kitOne K (.ref no) (.ref a5)=some false
 t11:W.kitOne K (.ref no) (.ref a11)=some false
 ve:W.kitOne K (.ref no) (.type "ValueError")=some true
 isi:mg "isinstance" = none
 vee:mg "ValueError" = none
theorem ClsW.cls {no way a1 a4 a5 a11:Addr}(T:ClsW K mg no way a1 a4 a5 a11):W.kitCls K (.ref no) (.ref way)=some true:=by
 have h:=T.cw;unfold W.kitOne at h;rw [if_neg (by simpa using T.ne)] at h;exact h
def ZbS:Sp:=λvs H Q _=>∃(y r c i:Int)(ls:Addr)(x0 x1:V),vs=[.int y,.int r,.int c,.int i,.ref ls]/\H ls=some (.lst [x0,x1])/\(0<=y/\y<5) /\
 ((r<1\/c<1)\/(y=0/\(∃r' c':Nat,r=(r':Int)/\c=(c':Int)/\1<=r'/\1<=c'/\r'<=16/\c'<=16/\r' * c'<=40)/\¬ (1<=i/\i<r)))/\∀H',Same H H'->Q (.bl true) H'
theorem scNw:Go ["way", "rows", "columns", "i", "lists", "caught", "e", "others"] ["way", "rows", "columns", "i", "lists"] (Gd sNw):=⟨rfl,rfl,rfl,by decide +kernel,rfl,by decide +kernel,by decide +kernel⟩
theorem Zbh {f fAs no way a1 a4 a5 a11:Addr}{fd fdAs:FuncData}(F:Fun K "_law_no_web" "_law_no_web" sNw f fd)(T:ClsW K mg no way a1 a4 a5 a11)(FAs:Fun K "_law_asked" "_law_asked" sAs fAs fdAs)(bAs:Binds K fdAs ["way", "rows", "columns", "i", "lists"] [])(mAs:mg "_law_asked" = some (.ref fAs))(GAs:GD P w K mg base (CXr P w) 7 fAs fdAs ["way", "rows", "columns", "i", "lists"] (ZbR no)):GD P w K mg base CX0 8 f fd ["way", "rows", "columns", "i", "lists"] ZbS:=by
 refine F.ok scNw (λvs H Q E h=>?_) (λcdv A outer s H vs Q E hr h=>?_)
 ·obtain ⟨_,_,_,_,_,_,_,rfl,_⟩:=h
  rfl
 ·obtain ⟨y,r,c,i,ls,x0,x1,rfl,hl,hy,hb,q⟩:=h;refine ⟨_,Gc (Gq (i:=5) scNw.nd rfl (Or.inl rfl) Oa)
    (Gc (ZK (i:=6) GAs (hr.mono (by decide)) rfl mAs FAs.kp bAs .nil (Ga (pv 0) (Ga (pv 1) (Ga (pv 2) (Ga (pv 3) (Ga (pv 4) Ge))))) rfl rfl rfl rfl scNw.nd rfl rfl rfl T.mway T.wbe (λa=>Gg (Gq (i:=5) scNw.nd rfl (Or.inl rfl) (pv 6))))
    (Gc (Gq (i:=7) scNw.nd rfl (Or.inl rfl) (GH (Ga (Gz Ja rfl T.isi Jb (Ga (pv 5) (Ga (Ut T.m1) Ge))) (Ga (Gz Ja rfl T.isi Jb (Ga (pv 5) (Ga (Ut T.m4) Ge))) Ge))))
    (Gc (Gq (i:=7) scNw.nd rfl (Or.inl rfl) (Gk ZE (pv 7) (GH (Ga (Gz Ja rfl T.isi Jb (Ga (pv 5) (Ga (Ut T.m5) Ge))) (Ga (Gz Ja rfl T.isi Jb (Ga (pv 5) (Ga (Ut T.m11) Ge))) Ge)))))
    (Gg (Gp (Yd (Gz Ja rfl T.isi Jb (Ga (pv 5) (Ga (Ut T.mno) Ge))) (Yd (Gz Ja rfl T.isi Jb (Ga (pv 5) (Ga (Yk T.vee YV) Ge))) (Yc (Jy (Yl K) UN (pv 7) (by with_unfolding_all rfl)))))))))),?_⟩
  refine ⟨_,rfl,_,rfl,_,rfl,_,rfl,_,rfl,y,r,c,i,ls,x0,x1,rfl,hl,hy,hb,λH1 s1=>⟨no,rfl,T.cls,λa ha=>?_⟩⟩;have s2:Same H1 (upd H1 a (Xz a no)):=Same.new ha;have ea:upd H1 a (Xz a no) a=some (Xz a no):=Gb;generalize upd H1 a (Xz a no)=H2 at s2 ea ⊢;refine ⟨_,rfl,?_⟩;refine ⟨_,rfl,_,_,false,rfl,?_,.inr (.inl ⟨a,no,rfl,ea,T.k,rfl,T.t1⟩)⟩;refine ⟨_,rfl,_,_,false,rfl,?_,.inr (.inl ⟨a,no,rfl,ea,T.k,rfl,T.t4⟩)⟩;refine ⟨GZ,λp1 hp1=>?_⟩;have s3:Same H2 (upd H2 p1 (.lst [.bl false,.bl false])):=Same.new hp1;have e3:upd H2 p1 (.lst [.bl false,.bl false]) p1=some (.lst [.bl false,.bl false]):=Gb;have ea3:=s3 _ _ ea;generalize upd H2 p1 (.lst [.bl false,.bl false])=H3 at s3 e3 ea3 ⊢;dsimp only [GQ];refine ⟨_,rfl,_,rfl,_,_,false,rfl,?_,.inr (.inl ⟨a,no,rfl,ea3,T.k,rfl,T.t5⟩)⟩;refine ⟨_,rfl,_,_,false,rfl,?_,.inr (.inl ⟨a,no,rfl,ea3,T.k,rfl,T.t11⟩)⟩;refine ⟨GZ,λp2 hp2=>?_⟩;have s4:Same H3 (upd H3 p2 (.lst [.bl false,.bl false])):=Same.new hp2;have e4:upd H3 p2 (.lst [.bl false,.bl false]) p2=some (.lst [.bl false,.bl false]):=Gb;have e34:=s4 _ _ e3;have ea4:=s4 _ _ ea3;change Zbt _ _ (upd H3 p2 (.lst [.bl false,.bl false])) _;generalize upd H3 p2 (.lst [.bl false,.bl false])=H4 at s4 e4 e34 ea4 ⊢;refine ⟨p1,p2,_,_,rfl,rfl,e34,e4,by show 4<=sizeLine;decide,λp3 hp3=>?_⟩;have s5:Same H4 (upd H4 p3 (.lst [.bl false,.bl false,.bl false,.bl false])):=Same.new hp3;have e5:upd H4 p3 (.lst [.bl false,.bl false,.bl false,.bl false]) p3=some (.lst [.bl false,.bl false,.bl false,.bl false]):=Gb;have ea5:=s5 _ _ ea4;change GQ 7 _ _ (upd H4 p3 (.lst [.bl false,.bl false,.bl false,.bl false])) _;generalize upd H4 p3 (.lst [.bl false,.bl false,.bl false,.bl false])=H5 at s5 e5 ea5 ⊢;dsimp only [GQ];refine ⟨_,rfl,_,_,true,rfl,⟨true,rfl,?_⟩,.inr (.inl ⟨a,no,rfl,ea5,T.k,rfl,Vk⟩)⟩;rw [if_pos rfl];refine ⟨_,rfl,_,_,true,rfl,⟨true,rfl,?_⟩,.inr (.inl ⟨a,no,rfl,ea5,T.k,rfl,T.ve⟩)⟩;rw [if_pos rfl];refine ⟨_,rfl,p3,_,rfl,.inl (SqL.of e5),rfl,rfl,?_⟩;exact q H5 ((((s1.trans s2).trans s3).trans s4).trans s5)
end
end M
namespace M
open PySem L2
structure Fm (F:Int->Prop)(k:Nat)(m:List Int):Prop where
 len:m.length=k+1
 at_:∀p:Int,0<=p->p<(k:Int)->gA m p=-2\/(F p/\(gA m p=-1\/(0<=gA m p/\gA m p<(k:Int)/\gA m (gA m p)=p)))
 dn:gA m (k:Int)=-2\/gA m (k:Int)=0
theorem JW {m:List Int}{k:Nat}(hl:m.length=k+1){i p v:Int}(i0:0<=i)(ik:i<=(k:Int))(p0:0<=p):gA (m.set i.toNat v) p=if p=i then v else gA m p:=by
 unfold gA;rw [List.getD_eq_getElem?_getD,List.getElem?_set];by_cases h:p=i
 ·subst h;rw [if_pos rfl,if_pos (by lia),if_pos rfl]
  rfl
 ·rw [if_neg (by lia),if_neg h,List.getD_eq_getElem?_getD]
theorem Fm.free {F:Int->Prop}{k:Nat}{m:List Int}(h:Fm F k m){p:Int}(p0:0<=p)(pk:p<(k:Int))(n1:gA m p≠-2):F p:=by
 rcases h.at_ p p0 pk with z | z
 ·exact absurd z n1
 ·exact z.1
theorem Yw {m:List Int}{p:Int}(p0:0<=p):OH nE nE m p=if gA m p=-2 then p else gA m p:=by
 unfold OH U8;have:¬ p=nE:=λz=>by have:p=-9:=z;lia
 rw [if_neg this,if_neg this]
theorem Zf {F F':Int->Prop}{k:Nat}{m m':List Int}{a b:Int}(h:Fm F k m)(hF:∀p,F p->F' p)(Fa:F' a)(Fb:F' b)(a0:0<=a)(ab:a<b)(bk:b<(k:Int))(e:JC nE nE m (a,b)=some m'):Fm F' k m':=by
 have hl:=h.len;unfold JC at e;dsimp only at e;split at e
 ·cases e
 rename_i hno;have na:¬ gA m a=-1:=λz=>hno (.inr (.inl (by rw [z];rfl)));have nb:¬ gA m b=-1:=λz=>hno (.inr (.inr (by rw [z];rfl)));have ka:gA m a=-2\/(0<=gA m a/\gA m a<(k:Int)/\gA m (gA m a)=a):=(h.at_ a a0 (by lia)).imp_right λz=>z.2.resolve_left na;have kb:gA m b=-2\/(0<=gA m b/\gA m b<(k:Int)/\gA m (gA m b)=b):=(h.at_ b (by lia) bk).imp_right λz=>z.2.resolve_left nb;have l1:(m.set a.toNat (-1)).length=k+1:=by rw [List.length_set];exact hl
 have l2:((m.set a.toNat (-1)).set b.toNat (-1)).length=k+1:=by rw [List.length_set];exact l1
 have g2:∀p:Int,0<=p->gA ((m.set a.toNat (-1)).set b.toNat (-1)) p=if p=b then -1 else if p=a then -1 else gA m p:=λp p0=>by
  rw [JW l1 (by lia) (by lia) p0,JW hl a0 (by lia) p0]
 by_cases rd:gA m a=b
 ·rw [if_pos (.inl rd)] at e;split at e
  ·cases e
  cases e;have hpc:pC nE nE m (a,b)=(m.set a.toNat (-1)).set b.toNat (-1):=if_pos rd;rw [hpc,hl,Nat.add_sub_cancel];have gb:gA m b=a:=by
   rcases ka with z | ⟨_,_,z⟩
   ·lia
   ·rw [rd] at z;exact z
  have g3:∀p:Int,0<=p->gA (((m.set a.toNat (-1)).set b.toNat (-1)).set k 0) p=if p=(k:Int) then 0 else if p=b then -1 else if p=a then -1 else gA m p:=λp p0=>by
   have:=JW l2 (i:=(k:Int)) (v:=0) (by lia) (by lia) p0;rw [Int.toNat_natCast] at this;rw [this,g2 p p0]
  refine ⟨by rw [List.length_set];exact l2,λp p0 pk=>?_,.inr (by rw [g3 _ (by lia),if_pos rfl])⟩;rw [g3 p p0,if_neg (by lia)];by_cases pb:p=b
  ·rw [if_pos pb,pb];exact .inr ⟨Fb,.inl rfl⟩
  rw [if_neg pb];by_cases pa:p=a
  ·rw [if_pos pa,pa];exact .inr ⟨Fa,.inl rfl⟩
  rw [if_neg pa];rcases h.at_ p p0 pk with z | ⟨z1,z | ⟨z2,z3,z4⟩⟩
  ·exact .inl z
  ·exact .inr ⟨hF p z1,.inl z⟩
  ·refine .inr ⟨hF p z1,.inr ⟨z2,z3,?_⟩⟩;have q1:gA m p≠b:=λy=>by rw [y,gb] at z4;exact pa z4.symm
   have q2:gA m p≠a:=λy=>by rw [y,rd] at z4;exact pb z4.symm
   rw [g3 _ z2,if_neg (by lia),if_neg q1,if_neg q2];exact z4
 ·have fae:=Yw (m:=m) a0;have fbe:=Yw (m:=m) (show 0<=b by lia);have nba:¬ gA m b=a:=λy=>by
   rcases kb with z | ⟨_,_,z⟩
   ·lia
   ·rw [y] at z;exact rd z
  have A:∃fa,OH nE nE m a=fa/\0<=fa/\fa<(k:Int)/\fa≠b/\F' fa/\((gA m a=-2/\fa=a)\/(gA m a=fa/\gA m fa=a)):=by
   rcases ka with z | ⟨z1,z2,z3⟩
   ·exact ⟨a,by rw [fae,if_pos z],a0,by lia,by lia,Fa,.inl ⟨z,rfl⟩⟩
   ·exact ⟨gA m a,by rw [fae,if_neg (by lia)],z1,z2,rd,hF _ (h.free z1 z2 (by rw [z3];lia)),.inr ⟨rfl,z3⟩⟩
  have B:∃fb,OH nE nE m b=fb/\0<=fb/\fb<(k:Int)/\fb≠a/\F' fb/\((gA m b=-2/\fb=b)\/(gA m b=fb/\gA m fb=b)):=by
   rcases kb with z | ⟨z1,z2,z3⟩
   ·exact ⟨b,by rw [fbe,if_pos z],by lia,bk,by lia,Fb,.inl ⟨z,rfl⟩⟩
   ·exact ⟨gA m b,by rw [fbe,if_neg (by lia)],z1,z2,nba,hF _ (h.free z1 z2 (by rw [z3];lia)),.inr ⟨rfl,z3⟩⟩
  obtain ⟨fa,ea,fa0,fak,fab,Ffa,ca⟩:=A;obtain ⟨fb,eb,fb0,fbk,fba,Ffb,cb⟩:=B;have fne:fa≠fb:=λy=>by
   rcases ca with ⟨c1,c2⟩ | ⟨c1,c2⟩ <;> rcases cb with ⟨d1,d2⟩ | ⟨d1,d2⟩
   ·lia
   ·lia
   ·lia
   ·rw [y] at c2;lia
  rw [if_neg (λz=>z.elim rd λz=>by rw [ea] at z;lia)] at e;cases e;have hpc:pC nE nE m (a,b)=(((m.set a.toNat (-1)).set b.toNat (-1)).set fa.toNat fb).set fb.toNat fa:=by
   unfold pC;rw [if_neg rd];dsimp only;rw [ea,eb];unfold pW1;dsimp only;rw [if_pos fb0,if_pos fa0]
  rw [hpc];have l3:(((m.set a.toNat (-1)).set b.toNat (-1)).set fa.toNat fb).length=k+1:=by rw [List.length_set];exact l2
  have g4:∀p:Int,0<=p->gA ((((m.set a.toNat (-1)).set b.toNat (-1)).set fa.toNat fb).set fb.toNat fa) p=if p=fb then fa else if p=fa then fb else if p=b then -1 else if p=a then -1 else gA m p:=λp p0=>by
   rw [JW l3 fb0 (by lia) p0,JW l2 fa0 (by lia) p0,g2 p p0]
  refine ⟨by rw [List.length_set];exact l3,λp p0 pk=>?_,?_⟩
  ·rw [g4 p p0];by_cases p1:p=fb
   ·rw [if_pos p1,p1];refine .inr ⟨Ffb,.inr ⟨fa0,fak,?_⟩⟩;rw [g4 _ fa0,if_neg fne,if_pos rfl]
   rw [if_neg p1];by_cases p2:p=fa
   ·rw [if_pos p2,p2];refine .inr ⟨Ffa,.inr ⟨fb0,fbk,?_⟩⟩;rw [g4 _ fb0,if_pos rfl]
   rw [if_neg p2];by_cases pb:p=b
   ·rw [if_pos pb,pb];exact .inr ⟨Fb,.inl rfl⟩
   rw [if_neg pb];by_cases pa:p=a
   ·rw [if_pos pa,pa];exact .inr ⟨Fa,.inl rfl⟩
   rw [if_neg pa];rcases h.at_ p p0 pk with z | ⟨z1,z | ⟨z2,z3,z4⟩⟩
   ·exact .inl z
   ·exact .inr ⟨hF p z1,.inl z⟩
   ·refine .inr ⟨hF p z1,.inr ⟨z2,z3,?_⟩⟩;have q1:gA m p≠fb:=λy=>by
     rw [y] at z4;rcases cb with ⟨d1,d2⟩ | ⟨d1,d2⟩
     ·rw [d2,d1] at z4;lia
     ·rw [d2] at z4;exact pb z4.symm
    have q2:gA m p≠fa:=λy=>by
     rw [y] at z4;rcases ca with ⟨d1,d2⟩ | ⟨d1,d2⟩
     ·rw [d2,d1] at z4;lia
     ·rw [d2] at z4;exact pa z4.symm
    have q3:gA m p≠b:=λy=>by
     rw [y] at z4;rcases cb with ⟨d1,d2⟩ | ⟨d1,d2⟩
     ·lia
     ·rw [d1] at z4;exact p1 z4.symm
    have q4:gA m p≠a:=λy=>by
     rw [y] at z4;rcases ca with ⟨d1,d2⟩ | ⟨d1,d2⟩
     ·lia
     ·rw [d1] at z4;exact p2 z4.symm
    rw [g4 _ z2,if_neg q1,if_neg q2,if_neg q3,if_neg q4];exact z4
  ·rw [g4 _ (by lia),if_neg (by lia),if_neg (by lia),if_neg (by lia),if_neg (by lia)];exact h.dn
theorem Zg {F F':Int->Prop}{k:Nat}{m m' lv:List Int}(h:Fm F k m)(hlv:∀p∈lv,0<=p/\p<(k:Int))(hF:∀p,F p->p ∉ lv->F' p)(e:UE m lv []=some m'):Fm F' k m':=by
 have key:∀(L:List Int)(m:List Int),m.length=k+1->(∀p∈L,0<=p/\p<(k:Int))->(L.foldl (λm p=>m.set p.toNat (-2)) m).length=k+1/\∀p:Int,0<=p->gA (L.foldl (λm p=>m.set p.toNat (-2)) m) p=if p∈L then -2 else gA m p:=by
  intro L
  induction L with
  | nil=>intro m hm _;exact ⟨hm,λp _=>by rw [if_neg (List.not_mem_nil)];rfl⟩
  | cons x L ih=>
   intro m hm hL;obtain ⟨x0,xk⟩:=hL x (List.mem_cons_self ..);obtain ⟨i1,i2⟩:=ih (m.set x.toNat (-2)) (by rw [List.length_set];exact hm) λp hp=>hL p (List.mem_cons_of_mem _ hp);refine ⟨i1,λp p0=>?_⟩;show gA (L.foldl _ (m.set x.toNat (-2))) p=_;rw [i2 p p0];by_cases y:p∈L
   ·rw [if_pos y,if_pos (List.mem_cons_of_mem _ y)]
   ·rw [if_neg y,JW hm x0 (by lia) p0];by_cases z:p=x
    ·rw [if_pos z,if_pos (by rw [z];exact List.mem_cons_self ..)]
    ·rw [if_neg z,if_neg (λq=>(List.mem_cons.mp q).elim z y)]
 unfold UE at e;split at e
 ·rename_i hz;cases e;refine ⟨h.len,λp p0 pk=>(h.at_ p p0 pk).imp_right λz=>⟨hF p z.1 (by rw [hz];exact List.not_mem_nil),z.2⟩,h.dn⟩
 split at e
 ·cases e
 rename_i hno;cases e;obtain ⟨k1,k2⟩:=key lv m h.len hlv;have nl:∀p∈lv,¬ 0<=gA m p:=λp hp z=>hno (.inl (List.any_eq_true.mpr ⟨p,hp,decide_eq_true (.inl z)⟩));refine ⟨k1,λp p0 pk=>?_,by rw [k2 _ (by lia),if_neg (λy=>by have:=hlv _ y;lia)];exact h.dn⟩;rw [k2 p p0];by_cases y:p∈lv
 ·rw [if_pos y];exact .inl rfl
 rw [if_neg y];rcases h.at_ p p0 pk with z | ⟨z1,z | ⟨z2,z3,z4⟩⟩
 ·exact .inl z
 ·exact .inr ⟨hF p z1 y,.inl z⟩
 ·refine .inr ⟨hF p z1 y,.inr ⟨z2,z3,?_⟩⟩;rw [k2 _ z2,if_neg (λq=>nl _ q (by rw [z4];exact p0))];exact z4
def UI (rs:List (Int×Int))(p:Int):Nat:=rs.findIdx λr=>decide (r.1=p\/r.2=p)
def frp (rs:List (Int×Int))(j:Nat)(p:Int):Prop:=UI rs p<j/\(j:Int)<=JP rs p
theorem VF {rs:List (Int×Int)}{j:Nat}(hj:j<rs.length){p:Int}(h:(rs.getD j (0,0)).1=p\/(rs.getD j (0,0)).2=p):UI rs p<=j:=by
 rw [List.getD_eq_getElem?_getD,List.getElem?_eq_getElem hj] at h;refine Nat.le_of_not_lt λz=>?_;have:=List.not_of_lt_findIdx z;have h:rs[j].1=p\/rs[j].2=p:=h;rw [decide_eq_true h] at this;cases this
theorem Yx {rs:List (Int×Int)}{k j:Nat}{ch:Bool}{m m':List Int}(hj:j<rs.length)(gr:∀r∈rs,0<=r.1/\r.1<r.2/\r.2<(k:Int))(h:Fm (frp rs j) k m)(e:W6 rs nE nE m j ch=some m'):Fm (frp rs (j+1)) k m':=by
 have rd:=gr _ (Ot hj);unfold W6 at e;obtain ⟨m1,e1,e2⟩:=Option.bind_eq_some_iff.mp e;have nd0:Zi nE nE (O5 rs j)=[]:=by
  unfold Zi;refine List.filter_eq_nil_iff.mpr λp hp z=>?_;have hp:=(List.mem_filter.mp hp).1;have z:p=nE\/p=nE:=of_decide_eq_true z;have z:p=-9:=z.elim id id;rcases List.mem_cons.mp hp with y | y
  ·lia
  ·rcases List.mem_cons.mp y with y | y
   ·lia
   ·cases y
 rw [nd0] at e2;have mid:Fm (λp=>UI rs p<j+1/\(j:Int)<=JP rs p) k m1:=by
  split at e1
  ·exact Zf h (λp z=>⟨Nat.lt_succ_of_lt z.1,z.2⟩) ⟨Nat.lt_succ_of_le (VF hj (.inl rfl)),O4 hj (.inl rfl)⟩ ⟨Nat.lt_succ_of_le (VF hj (.inr rfl)),O4 hj (.inr rfl)⟩ rd.1 rd.2.1 rd.2.2 e1
  ·cases e1;exact ⟨h.len,λp p0 pk=>(h.at_ p p0 pk).imp_right λz=>⟨⟨Nat.lt_succ_of_lt z.1.1,z.1.2⟩,z.2⟩,h.dn⟩
 refine Zg mid (λp hp=>?_) (λp z y=>⟨z.1,?_⟩) e2
 ·have hp:=(List.mem_filter.mp hp).1;rcases List.mem_cons.mp hp with y | y
  ·lia
  ·rcases List.mem_cons.mp y with y | y
   ·lia
   ·cases y
 ·have:¬ JP rs p=(j:Int):=λq=>y (by
   refine List.mem_filter.mpr ⟨?_,decide_eq_true q⟩;rcases VC rs p rs.length j q with w | w
   ·rw [w];exact List.mem_cons_self ..
   ·rw [w];exact List.mem_cons_of_mem _ (List.mem_cons_self ..))
  have:=z.2
  lia
theorem Zaa {rs:List (Int×Int)}{k:Nat}(gr:∀r∈rs,0<=r.1/\r.1<r.2/\r.2<(k:Int)):∀{j:Nat},j<=rs.length->∀m∈RJ rs k j,Fm (frp rs j) k m
 | 0,_,m,h=>by
  rw [List.mem_singleton.mp (show m∈[m0 k] from h)];have g:∀p:Int,0<=p->p<=(k:Int)->gA (m0 k) p=-2:=λp p0 pk=>by
   unfold gA;rw [List.getD_eq_getElem?_getD,List.getElem?_replicate,if_pos (by lia)]
   rfl
  exact ⟨List.length_replicate,λp p0 pk=>.inl (g p p0 (by lia)),.inl (g _ (by lia) (by lia))⟩
 | j+1,hj,m,h=>by
  obtain ⟨m1,h0,h1⟩:=List.mem_flatMap.mp h;have ih:=Zaa gr (show j<=rs.length by lia) m1 h0;rcases List.mem_append.mp h1 with h1 | h1
  ·exact Yx (by lia) gr ih (Option.mem_toList.mp h1)
  ·exact Yx (by lia) gr ih (Option.mem_toList.mp h1)
def O7:List (List Int)->List (List Int)
 | []=>[[]]
 | L::Ls=>L.flatMap λx=>(O7 Ls).map (x::·)
theorem VG:∀(Ls:List (List Int))(m:List Int),m.length=Ls.length->(∀i L,Ls[i]?=some L->m.getD i 0∈L)->m∈O7 Ls
 | [],[],_,_=>List.mem_singleton.mpr rfl
 | [],_::_,h,_=>by cases h
 | _::_,[],h,_=>by cases h
 | L::Ls,x::m,h,hx=>by
  refine List.mem_flatMap.mpr ⟨x,hx 0 L rfl,List.mem_map.mpr ⟨m,VG Ls m (by simpa using h) λi L' hL=>?_,rfl⟩⟩;exact hx (i+1) L' hL
theorem O8 (b:Nat)(hb:2<=b):∀(Ls:List (List Int))(f:Nat),(∀L∈Ls,L.length<=b)->(Ls.filter λL=>decide (1<L.length)).length<=f->(O7 Ls).length<=b ^ f
 | [],f,_,_=>Nat.one_le_pow _ _ (by lia)
 | L::Ls,f,h1,h2=>by
  have hl:(O7 (L::Ls)).length=L.length * (O7 Ls).length:=by
   show (L.flatMap λx=>(O7 Ls).map (x::·)).length=_
   induction L with
   | nil=>simp
   | cons x L ih=>
    rw [List.flatMap_cons,List.length_append,List.length_map,List.length_cons,Nat.succ_mul];have hx:=h1 (x::L) (List.mem_cons_self ..);have:(L.flatMap λx=>(O7 Ls).map (x::·)).length=L.length * (O7 Ls).length:=by
     clear ih h1 h2 hx
     induction L with
     | nil=>simp
     | cons y L ih=>rw [List.flatMap_cons,List.length_append,List.length_map,List.length_cons,Nat.succ_mul,ih];lia
    lia
  rw [hl];rw [List.filter_cons] at h2;by_cases z:1<L.length
  ·rw [if_pos (decide_eq_true z),List.length_cons] at h2;obtain ⟨f,rfl⟩:∃g,f=g+1:=⟨f-1,by lia⟩;have ih:=O8 b hb Ls f (λL' hL=>h1 L' (List.mem_cons_of_mem _ hL)) (by lia);rw [Nat.pow_succ,Nat.mul_comm];exact Nat.mul_le_mul ih (h1 L (List.mem_cons_self ..))
  ·rw [if_neg (by simpa using z)] at h2;have ih:=O8 b hb Ls f (λL' hL=>h1 L' (List.mem_cons_of_mem _ hL)) h2;refine Nat.le_trans (Nat.mul_le_mul (show L.length<=1 by lia) ih) ?_
   lia
def frB (rs:List (Int×Int))(j:Nat)(p:Nat):Bool:=decide (UI rs (p:Int)<j) && decide ((j:Int)<=JP rs (p:Int))
def frL (rs:List (Int×Int))(k j:Nat):List Nat:=(List.range k).filter (frB rs j)
theorem X6 {rs:List (Int×Int)}{k j:Nat}(hf:(frL rs k j).length<=5):∃U:List (List Int),U.length<=4194304/\∀m,Fm (frp rs j) k m->m∈U:=by
 let O:List Int:=-1::-2::(frL rs k j).map λ(p:Nat)=>(p:Int)
 let Ls:List (List Int):=((List.range k).map λp=>if frB rs j p=true then O else [-2])++[[-2,0]]
 have ol:O.length<=7:=by show (_::_::List.map _ _).length<=7;rw [List.length_cons,List.length_cons,List.length_map];lia
 refine ⟨O7 Ls,?_,λm h=>VG Ls m ?_ λi L hL=>?_⟩
 ·refine Nat.le_trans (O8 7 (by decide) Ls 6 (λL hL=>?_) ?_) (by decide)
  ·rcases List.mem_append.mp hL with z | z
   ·obtain ⟨p,_,rfl⟩:=List.mem_map.mp z;split
    ·exact ol
    ·decide
   ·rw [List.mem_singleton.mp z];decide
  ·rw [List.filter_append,List.length_append];have h1:(((List.range k).map λp=>if frB rs j p=true then O else [-2]).filter λL=>decide (1<L.length)).length<=(frL rs k j).length:=by
    unfold frL;generalize List.range k=l
    induction l with
    | nil=>exact Nat.le_refl _
    | cons p l ih=>
     rw [List.map_cons,List.filter_cons,List.filter_cons];by_cases z:frB rs j p=true
     ·rw [if_pos z,if_pos z];split
      ·rw [List.length_cons,List.length_cons];lia
      ·rw [List.length_cons];lia
     ·rw [if_neg z,if_neg z,if_neg (by decide)];exact ih
   have h2:([[-2,0]].filter λL:List Int=>decide (1<L.length)).length<=1:=by decide
   lia
 ·rw [h.len];show _=(List.map _ _++[_]).length;rw [List.length_append,List.length_map,List.length_range]
  rfl
 ·have hL:(((List.range k).map λp=>if frB rs j p=true then O else [-2])++[[-2,0]])[i]?=some L:=hL;rcases Nat.lt_or_ge i k with hi | hi
  ·rw [List.getElem?_append_left (by rw [List.length_map,List.length_range];exact hi),List.getElem?_map,List.getElem?_range hi] at hL;cases hL;have at_:=h.at_ (i:Int) (by lia) (by lia);show gA m (i:Int)∈(if frB rs j i=true then O else [-2]);have mf:∀q:Int,0<=q->q<(k:Int)->frp rs j q->∃n∈frL rs k j,(n:Int)=q:=λq q0 qk z=>by
    refine ⟨q.toNat,List.mem_filter.mpr ⟨List.mem_range.mpr (by lia),?_⟩,by lia⟩;unfold frB;rw [show ((q.toNat:Nat):Int)=q by lia,decide_eq_true z.1,decide_eq_true z.2]
    rfl
   rcases at_ with z | ⟨z1,z⟩
   ·rw [z];split
    ·exact List.mem_cons_of_mem _ (List.mem_cons_self ..)
    ·exact List.mem_cons_self ..
   ·rw [if_pos (by unfold frB;rw [decide_eq_true z1.1,decide_eq_true z1.2];rfl)];rcases z with z | ⟨z2,z3,z4⟩
    ·rw [z];exact List.mem_cons_self ..
    ·obtain ⟨n,hn,en⟩:=mf _ z2 z3 (h.free z2 z3 (by rw [z4];lia));exact List.mem_cons_of_mem _ (List.mem_cons_of_mem _ (List.mem_map.mpr ⟨n,hn,en⟩))
  ·have:i=k:=by
    have:=(List.getElem?_eq_some_iff.mp hL).1;rw [List.length_append,List.length_map,List.length_range] at this;have:i<k+1:=this
    lia
   subst this;rw [List.getElem?_append_right (by rw [List.length_map,List.length_range];exact Nat.le_refl _),List.length_map,List.length_range,Nat.sub_self] at hL;cases hL;have e:m.getD i 0=gA m (i:Int):=rfl;rw [e];rcases h.dn with z | z
   ·rw [z];exact List.mem_cons_self ..
   ·rw [z];exact List.mem_cons_of_mem _ (List.mem_cons_self ..)
def Zbi (r c:Nat):Bool:=(List.range 39).all λj=>decide ((((List.range (r * c)).map λ(p:Nat)=>(UI (GE r c (r * c)) (p:Int),JP (GE r c (r * c)) (p:Int))).filter λx=>decide (x.1<j) && decide ((j:Int)<=x.2)).length<=5)
theorem X7:∀r∈List.range 7,∀c∈List.range 5,Zbi r c=true:=by decide +kernel
theorem Zab {r c j:Nat}(hr:r<=6)(hc1:1<=c)(hc:c<=4)(hj:j<=(GE r c (r * c)).length)(hj':j<39):∃U:List (List Int),U.length<=4194304/\∀m∈RJ (GE r c (r * c)) (r * c) j,m∈U:=by
 have h:=List.all_eq_true.mp (X7 r (List.mem_range.mpr (by lia)) c (List.mem_range.mpr (by lia))) j (List.mem_range.mpr hj');have h:=of_decide_eq_true h;rw [List.filter_map,List.length_map] at h;obtain ⟨U,h1,h2⟩:=X6 (rs:=GE r c (r * c)) (k:=r * c) (j:=j) h;exact ⟨U,h1,λm hm=>h2 m (Zaa (O6 hc1) hj m hm)⟩
theorem X8:∀r∈List.range 7,∀c∈List.range 5,∀i∈List.range r,i * (2 * c-1)<=(GE r c (r * c)).length/\i * (2 * c-1)<39:=by decide +kernel
end M
namespace M
open PySem L2
theorem VH:bootBuiltins "max" = some (.builtin "max"):=by first | rfl | decide +kernel
theorem X9:bootBuiltins "min" = some (.builtin "min"):=by first | rfl | decide +kernel
theorem Xf {xs:List V}{j:Int}(h0:0<=j)(h1:j<xs.length):∃v,atI xs j=some v:=by
 obtain ⟨k,rfl⟩:=Int.eq_ofNat_of_zero_le h0;have hk:k<xs.length:=by lia
 exact ⟨_,G3 (List.getElem?_eq_getElem hk)⟩
section
variable {P:Program}{w:World}{K:W.Frag}{mg:Str->Option Value}{base:Heap}
def Yb (K:W.Frag):Sp:=λvs H Q _=>∃(a:Addr)(ns:List Int),vs=[.ref a]/\SqL K H a (ns.map V.int)/\ns.length<=63/\∀H',Q (.bl true) H'
theorem scLaw:Go ["script", "k", "cell", "rows", "columns", "which", "roads", "lists", "way", "far", "i", "good"] ["script"] (Gd XZ):=⟨rfl,rfl,rfl,by decide +kernel,rfl,by decide +kernel,by decide +kernel⟩
theorem Zac {f fCa fMi fNw fWb no way a1 a4 a5 a11:Addr}{fd fdCa fdMi fdNw fdWb:FuncData}(F:Fun K "law" "law" XZ f fd)(T:ClsW K mg no way a1 a4 a5 a11)(FCa:Fun K "_law_cell_at" "_law_cell_at" Y9 fCa fdCa)(bCa:Binds K fdCa ["script", "k"] [])(mCa:mg "_law_cell_at" = some (.ref fCa))(GCa:GD P w K mg base CX0 1 fCa fdCa ["script", "k"] (Z6 K))(FMi:Fun K "_law_mixed" "_law_mixed" sMi fMi fdMi)(bMi:Binds K fdMi ["cell", "k"] [])(mMi:mg "_law_mixed" = some (.ref fMi))(GMi:GD P w K mg base CX0 1 fMi fdMi ["cell", "k"] ZbQ)(FNw:Fun K "_law_no_web" "_law_no_web" sNw fNw fdNw)(bNw:Binds K fdNw ["way", "rows", "columns", "i", "lists"] [])(mNw:mg "_law_no_web" = some (.ref fNw))(GNw:GD P w K mg base CX0 8 fNw fdNw ["way", "rows", "columns", "i", "lists"] ZbS)(FWb:Fun K "words_below" "words_below" sWb fWb fdWb)(bWb:Binds K fdWb ["rows", "columns", "i"] [])(mWb:mg "words_below" = some (.ref fWb))(GWb:GD P w K mg base (CXr P w) 6 fWb fdWb ["rows", "columns", "i"] (Za9 no))(mLen:mg "len" = none)(mRange:mg "range" = none)(mMax:mg "max" = none)(mMin:mg "min" = none)(mLst:mg "list" = none):GD P w K mg base CX0 9 f fd ["script"] (Yb K):=by
 refine F.ok scLaw (λvs H Q E h=>?_) (λcdv A outer s H vs Q E hr h=>?_)
 ·obtain ⟨a,ns,rfl,_⟩:=h
  rfl
 obtain ⟨a,ns,rfl,hS,qV,q⟩:=h;have h16:(16777216:Nat)=sizeLine:=sizeLine_eq.symm;refine ⟨_,(@Gc _ _ _ _ _ (@Jg _ _ _ _ _ _ _ _ PassesOwn.never rfl (Oe rfl mRange (@Ga _ _ _ _ _ (Gz (Ud rfl) rfl mMax VH (@Ga _ _ _ _ _ Gf (@Ga _ _ _ _ _ (Gz (Wd rfl) rfl mMin X9 (@Ga _ _ _ _ _ Gf (@Ga _ _ _ _ _ (Gz (Zbv K) rfl mLen PySem.boot_len (@Ga _ _ _ _ _ (pv 0) Ge rfl)) Ge rfl) rfl)) Ge rfl) rfl)) Ge rfl)) (Gs (i:=1) scLaw.nd rfl (Or.inl rfl))
    (@Gc _ _ _ _ _ (@Gq _ _ 2 _ _ _ _ scLaw.nd rfl (Or.inl rfl) (@Gi _ _ _ _ _ _ _ _ _ _ _ _ _ _ _ _ GMi (hr.mono (by decide)) rfl mMi FMi.kp bMi .nil GT (@Ga _ _ _ _ _ (@Gi _ _ _ _ _ _ _ _ _ _ _ _ _ _ _ _ GCa (hr.mono (by decide)) rfl mCa FCa.kp bCa .nil GT (@Ga _ _ _ _ _ (pv 0) (@Ga _ _ _ _ _ (pv 1) Ge rfl) rfl) (by decide) rfl rfl) (@Ga _ _ _ _ _ (pv 1) Ge rfl) rfl) (by decide) rfl rfl) rfl (by first | exact .inl rfl | exact .inr rfl))
    (@Gc _ _ _ _ _ (@Gq _ _ 3 _ _ _ _ scLaw.nd rfl (Or.inl rfl) (@Gk _ _ _ _ _ _ _ _ GJ Gf (@Gk _ _ _ _ _ _ _ _ GU (@Gk _ _ _ _ _ _ _ _ GP (pv 2) Gf) Gf)) rfl (by first | exact .inl rfl | exact .inr rfl))
    (@Gc _ _ _ _ _ (@Gq _ _ 4 _ _ _ _ scLaw.nd rfl (Or.inl rfl) (@Gk _ _ _ _ _ _ _ _ GJ Gf (@Gk _ _ _ _ _ _ _ _ GU (@Gk _ _ _ _ _ _ _ _ GP (pv 2) Gf) Gf)) rfl (by first | exact .inl rfl | exact .inr rfl))
    (@Gc _ _ _ _ _ (@GS _ _ _ _ _ _ _ _ (Gv Xo (@Gk _ _ _ _ _ _ _ _ GU (pv 2) Gf) Gf (GC _)) (@Gg _ _ _ (@Gq _ _ 3 _ _ _ _ scLaw.nd rfl (Or.inl rfl) (@Gk _ _ _ _ _ _ _ _ Uc Gf (@Gk _ _ _ _ _ _ _ _ G7 (@Gk _ _ _ _ _ _ _ _ GU (@Gk _ _ _ _ _ _ _ _ GP (pv 2) Gf) Gf) (@G4 _ _ _ _ _ _ _ (Zh K) (@GH _ _ _ _ (@Ga _ _ _ _ _ Gf (@Ga _ _ _ _ _ (@Gk _ _ _ _ _ _ _ _ Yg Gf Gf) Ge rfl) rfl)) (@Gk _ _ _ _ _ _ _ _ GU (pv 2) Gf) (λ_ _=>rfl)))) rfl (by first | exact .inl rfl | exact .inr rfl))) Gu)
    (@Gc _ _ _ _ _ (@GS _ _ _ _ _ _ _ _ (Gv Xo (@Gk _ _ _ _ _ _ _ _ GU (pv 2) Gf) Gf (GC _)) (@Gg _ _ _ (@Gq _ _ 4 _ _ _ _ scLaw.nd rfl (Or.inl rfl) (@Gk _ _ _ _ _ _ _ _ Uc Gf (@Gk _ _ _ _ _ _ _ _ GU (@Gk _ _ _ _ _ _ _ _ GP (pv 2) Gf) Gf)) rfl (by first | exact .inl rfl | exact .inr rfl))) Gu)
    (@Gc _ _ _ _ _ (@Gq _ _ 5 _ _ _ _ scLaw.nd rfl (Or.inl rfl) (@Gk _ _ _ _ _ _ _ _ GU (@Gk _ _ _ _ _ _ _ _ GP (pv 2) Gf) Gf) rfl (by first | exact .inl rfl | exact .inr rfl))
    (@Gc _ _ _ _ _ (@Gq _ _ 6 _ _ _ _ scLaw.nd rfl (Or.inl rfl) (@G4 _ _ _ _ _ _ _ (Zh K) (@GH _ _ _ _ (@Ga _ _ _ _ _ (@GH _ _ _ _ Ge) (@Ga _ _ _ _ _ (@GH _ _ _ _ (@Ga _ _ _ _ _ Gf (@Ga _ _ _ _ _ Gf (@Ga _ _ _ _ _ Gf (@Ga _ _ _ _ _ Gf Ge rfl) rfl) rfl) rfl)) (@Ga _ _ _ _ _ (@GH _ _ _ _ (@Ga _ _ _ _ _ Gf (@Ga _ _ _ _ _ Gf Ge rfl) rfl)) (@Ga _ _ _ _ _ (@GH _ _ _ _ (@Ga _ _ _ _ _ (YD UU Gf) Ge rfl)) Ge rfl) rfl) rfl) rfl)) (pv 5) (λ_ _=>rfl)) rfl (by first | exact .inl rfl | exact .inr rfl))
    (@Gc _ _ _ _ _ (@Gq _ _ 7 _ _ _ _ scLaw.nd rfl (Or.inl rfl) (@GH _ _ _ _ (@Ga _ _ _ _ _ (pv 6) (@Ga _ _ _ _ _ (@G4 _ _ _ _ _ _ _ (Zh K) (@GH _ _ _ _ (@Ga _ _ _ _ _ (@GH _ _ _ _ Ge) (@Ga _ _ _ _ _ (@GH _ _ _ _ (@Ga _ _ _ _ _ Jf Ge rfl)) (@Ga _ _ _ _ _ (@GH _ _ _ _ (@Ga _ _ _ _ _ Jf (@Ga _ _ _ _ _ Jf Ge rfl) rfl)) (@Ga _ _ _ _ _ (@GH _ _ _ _ (@Ga _ _ _ _ _ Jf Ge rfl)) Ge rfl) rfl) rfl) rfl)) (pv 5) (λ_ _=>rfl)) Ge rfl) rfl)) rfl (by first | exact .inl rfl | exact .inr rfl))
    (@Gc _ _ _ _ _ (@Jg _ _ _ _ _ _ _ _ PassesOwn.never rfl (Oe rfl mRange (@Ga _ _ _ _ _ Gf Ge rfl)) (Gs (i:=8) scLaw.nd rfl (Or.inl rfl))
    (@Gg _ _ _ (@GS _ _ _ _ _ _ _ _ (JE (Js (@Gi _ _ _ _ _ _ _ _ _ _ _ _ _ _ _ _ GNw (hr.mono (by decide)) rfl mNw FNw.kp bNw .nil GT (@Ga _ _ _ _ _ (pv 8) (@Ga _ _ _ _ _ (pv 3) (@Ga _ _ _ _ _ (pv 4) (@Ga _ _ _ _ _ (@Gk _ _ _ _ _ _ _ _ GJ Gf (@Gk _ _ _ _ _ _ _ _ GU (@Gk _ _ _ _ _ _ _ _ GP (pv 2) Gf) Gf)) (@Ga _ _ _ _ _ (pv 7) Ge rfl) rfl) rfl) rfl) rfl) (by decide) rfl rfl))) (@Gg _ _ _ (@Gp _ _ _ _ UN)) Gu)) (by intro _;rfl))
    (@Gc _ _ _ _ _ (@Gq _ _ 3 _ _ _ _ scLaw.nd rfl (Or.inl rfl) (@Gk _ _ _ _ _ _ _ _ GJ Gf (@Gk _ _ _ _ _ _ _ _ GU (@Gk _ _ _ _ _ _ _ _ GP (pv 2) Gf) Gf)) rfl (by first | exact .inl rfl | exact .inr rfl))
    (@Gc _ _ _ _ _ (@Gq _ _ 4 _ _ _ _ scLaw.nd rfl (Or.inl rfl) (@Gk _ _ _ _ _ _ _ _ GJ Gf (@Gk _ _ _ _ _ _ _ _ GU (@Gk _ _ _ _ _ _ _ _ GP (pv 2) Gf) Gf)) rfl (by first | exact .inl rfl | exact .inr rfl))
    (@Gc _ _ _ _ _ (@Gq _ _ 9 _ _ _ _ scLaw.nd rfl (Or.inl rfl) (@Gk _ _ _ _ _ _ _ _ GJ Gf (@Gk _ _ _ _ _ _ _ _ GU (@Gk _ _ _ _ _ _ _ _ GP (pv 2) Gf) Gf)) rfl (by first | exact .inl rfl | exact .inr rfl))
    (@Gc _ _ _ _ _ (@Jg _ _ _ _ _ _ _ _ PassesOwn.never rfl (OS K (@GH _ _ _ _ (@Ga _ _ _ _ _ Gf (@Ga _ _ _ _ _ (pv 3) (@Ga _ _ _ _ _ (@Gk _ _ _ _ _ _ _ _ Uc Gf (pv 9)) (@Ga _ _ _ _ _ (@Gk _ _ _ _ _ _ _ _ GJ (pv 3) (pv 9)) Ge rfl) rfl) rfl) rfl))) (Gs (i:=10) scLaw.nd rfl (Or.inl rfl))
    (@Gg _ _ _ (@GS _ _ _ _ _ _ _ _ (JE (Js (@Gi _ _ _ _ _ _ _ _ _ _ _ _ _ _ _ _ GNw (hr.mono (by decide)) rfl mNw FNw.kp bNw .nil GT (@Ga _ _ _ _ _ Gf (@Ga _ _ _ _ _ (pv 3) (@Ga _ _ _ _ _ (pv 4) (@Ga _ _ _ _ _ (pv 10) (@Ga _ _ _ _ _ (pv 7) Ge rfl) rfl) rfl) rfl) rfl) (by decide) rfl rfl))) (@Gg _ _ _ (@Gp _ _ _ _ UN)) Gu)) (by intro _;rfl))
    (@Gc _ _ _ _ _ (@Gq _ _ 11 _ _ _ _ scLaw.nd rfl (Or.inl rfl) (@Gk _ _ _ _ _ _ _ _ GJ Gf (@Gk _ _ _ _ _ _ _ _ GU (@Gk _ _ _ _ _ _ _ _ GP (pv 2) Gf) (Gz (Ud rfl) rfl mMax VH (@Ga _ _ _ _ _ Gf (@Ga _ _ _ _ _ (@Gk _ _ _ _ _ _ _ _ Uc (pv 3) Gf) Ge rfl) rfl)))) rfl (by first | exact .inl rfl | exact .inr rfl))
    (@Gg _ _ _ (@GS _ _ _ _ _ _ _ _ (PW.pt (Ua (Gv Zu (pv 3) Gf (GC _)) (Oc (JE (Js (Gz Ja rfl T.isi Jb (@Ga _ _ _ _ _ (@Gi _ _ _ _ _ _ _ _ _ _ _ _ _ _ _ _ GWb (hr.mono (by decide)) rfl mWb FWb.kp bWb .nil ZaC (@Ga _ _ _ _ _ (pv 3) (@Ga _ _ _ _ _ (pv 4) (@Ga _ _ _ _ _ (pv 11) Ge rfl) rfl) rfl) (by decide) rfl rfl) (@Ga _ _ _ _ _ (Yk mLst Ol) Ge rfl) rfl))))))) (@Gg _ _ _ (@Gp _ _ _ _ UN)) Gu)))))))))))))))) (by intro _;rfl))
    (@Gg _ _ _ (@Gp _ _ _ _ UN))),?_⟩
 refine ⟨_,rfl,a,_,rfl,.inl hS,?_⟩;rw [List.length_map];refine ⟨_,_,rfl,?_⟩;refine ⟨_,_,rfl,?_⟩;obtain ⟨n,hn,hn2⟩:∃n:Nat,(if (if ((ns.length:Nat):Int)<20 then ((ns.length:Nat):Int) else 20) > 1 then (if ((ns.length:Nat):Int)<20 then ((ns.length:Nat):Int) else 20) else 1)=(n:Int)/\n<=20:=by
  by_cases z:((ns.length:Nat):Int)<20
  ·rw [if_pos z];by_cases y:((ns.length:Nat):Int) > 1
   ·rw [if_pos y];exact ⟨ns.length,rfl,by lia⟩
   ·rw [if_neg y];exact ⟨1,rfl,by decide⟩
  ·rw [if_neg z];exact ⟨20,rfl,by decide⟩
 rw [hn];refine ⟨_,rfl,by lia,by lia,?_⟩;rw [Int.toNat_natCast];refine Of (lo:=0) (n:=n) (λi σ' H'=>∃v1 v2 v3 v4 v5 v6 v7 v8 v9 v10 v11:Option V,σ'=[some (.ref a),v1,v2,v3,v4,v5,v6,v7,v8,v9,v10,v11]/\Same H H') ⟨none,none,none,none,none,none,none,none,none,none,none,rfl,Same.refl _⟩ ?_ ?_;rotate_left
 ·rintro σ' H1 ⟨v1,v2,v3,v4,v5,v6,v7,v8,v9,v10,v11,rfl,s1⟩;exact q H1
 rintro k σ' H1 hk ⟨v1,v2,v3,v4,v5,v6,v7,v8,v9,v10,v11,rfl,s1⟩;rw [Int.zero_add];dsimp only [GQ];refine ⟨_,rfl,_,rfl,a,ns,k,rfl,s1.seq hS,λz0=>?_⟩;refine ⟨_,rfl,z0,k,rfl,by lia,λz=>?_⟩;dsimp only [GQ];have e3:0<=z % 3/\z % 3<3:=⟨Int.emod_nonneg _ (by decide),Int.emod_lt_of_pos _ (by decide)⟩;refine ⟨_,rfl,_,_,rfl,rfl,⟨by decide,G6⟩,_,_,rfl,rfl,(by show (0:Int)<10;decide),_,_,rfl,rfl,?_⟩;dsimp only [GQ];refine ⟨_,rfl,_,_,rfl,rfl,⟨by decide,G6⟩,_,_,rfl,rfl,(by show (0:Int)<7;decide),_,_,rfl,rfl,?_⟩;dsimp only [GQ];generalize (1:Int)+z / 6 % 10=r0;generalize (1:Int)+z / 60 % 7=c0;refine GK (λσ' H'=>∃r:Int,σ'=[some (.ref a),some (.int (k:Int)),some (.int z),some (.int r),some (.int c0),v5,v6,v7,v8,v9,v10,v11]/\Same H1 H'/\(z % 3≠1->r<1)) ?rest1 ?rows
 case rows=>
  intro J;refine ⟨_,rfl,_,_,rfl,rfl,(by show (0:Int)<3;decide),rfl,_,rfl,UJ (λc=>?_) (λc=>?_)⟩
  ·have f0:0<=z / 6 % 4:=Int.emod_nonneg _ (by decide);have f1:z / 6 % 4<4:=Int.emod_lt_of_pos _ (by decide);have g0:0<=z % 2:=Int.emod_nonneg _ (by decide);have g1:z % 2<2:=Int.emod_lt_of_pos _ (by decide);refine ⟨_,rfl,_,_,rfl,rfl,⟨by decide,G6⟩,_,_,rfl,rfl,(by show (0:Int)<4;decide),_,_,rfl,rfl,⟨by decide,by decide,by decide⟩,GZ,λp hp=>?_⟩;have s2:Same H1 (upd H1 p (.lst (([1,10 ^ 20]:List Int).map V.int))):=Same.new hp;have w0:0<=([1,10 ^ 20]:List Int).getD (z % 2).toNat 0:=by
    rcases (by lia:z % 2=0\/z % 2=1) with y | y <;> rw [y] <;> decide
   refine ⟨_,rfl,_,_,rfl,rfl,(by show (0:Int)<2;decide),p,_,_,_,rfl,rfl,SqL.of (xs:=([1,10 ^ 20]:List Int).map V.int) Gb,Jw g0 g1,_,_,rfl,rfl,.inl ⟨by lia,by lia⟩,_,_,rfl,rfl,?_⟩;refine J _ _ ⟨_,rfl,s2,λ_=>?_⟩;have:=Int.mul_nonneg f0 w0
   lia
  ·refine J _ _ ⟨r0,rfl,Same.refl _,λy=>absurd ?_ c⟩;rw [G0,decide_eq_false y]
   rfl
 rintro σ' H2 ⟨r,rfl,s2,hr1⟩;refine GK (λσ' H'=>∃c:Int,σ'=[some (.ref a),some (.int (k:Int)),some (.int z),some (.int r),some (.int c),v5,v6,v7,v8,v9,v10,v11]/\H'=H2/\(z % 3≠0->c<1)) ?rest2 ?cols
 case cols=>
  intro J;refine ⟨_,rfl,_,_,rfl,rfl,(by show (0:Int)<3;decide),rfl,_,rfl,UJ (λc=>?_) (λc=>?_)⟩
  ·have f0:0<=z / 60 % 3:=Int.emod_nonneg _ (by decide);refine ⟨_,rfl,_,_,rfl,rfl,⟨by decide,G6⟩,_,_,rfl,rfl,(by show (0:Int)<3;decide),_,_,rfl,rfl,?_⟩;exact J _ _ ⟨_,rfl,rfl,λ_=>by lia⟩
  ·refine J _ _ ⟨c0,rfl,rfl,λy=>absurd ?_ c⟩;rw [G0,decide_eq_false y]
   rfl
 rintro σ' H' ⟨c,rfl,rfl,hc1⟩;have bad:r<1\/c<1:=by
  rcases (by lia:z % 3=0\/z % 3=1\/z % 3=2) with y | y | y
  ·exact .inl (hr1 (by lia))
  ·exact .inr (hc1 (by lia))
  ·exact .inl (hr1 (by lia))
 clear hr1 hc1 e3;have w0:0<=z / 420 % 4:=Int.emod_nonneg _ (by decide);have w1:z / 420 % 4<4:=Int.emod_lt_of_pos _ (by decide);refine ⟨_,rfl,_,_,rfl,rfl,⟨by decide,G6⟩,_,_,rfl,rfl,(by show (0:Int)<4;decide),?_⟩;dsimp only [GQ];generalize z / 420 % 4=wh at w0 w1 ⊢;refine GK (λσ' H3=>∃x0:V,σ'=[some (.ref a),some (.int (k:Int)),some (.int z),some (.int r),some (.int c),some (.int wh),some x0,v7,v8,v9,v10,v11]/\Same H' H3) ?rest3 ?roads
 case roads=>
  intro J;refine ⟨Nat.zero_le _,λp1 h1=>?_⟩;refine ⟨(by show 4<=sizeLine;decide),λp2 h2=>?_⟩;refine ⟨GZ,λp3 h3=>?_⟩;refine ⟨_,rfl,(by show 1<=sizeLine;decide),λp4 h4=>?_⟩;refine ⟨(by show 4<=sizeLine;decide),λp5 h5=>?_⟩;obtain ⟨x0,ex⟩:=Xf (xs:=[.ref p1,.ref p2,.ref p3,.ref p4]) w0 w1;refine ⟨_,rfl,p5,_,_,_,rfl,rfl,SqL.of Gb,ex,?_⟩;exact J _ _ ⟨x0,rfl,((((Same.new h1).trans (Same.new h2)).trans (Same.new h3)).trans (Same.new h4)).trans (Same.new h5)⟩
 rintro σ' H3 ⟨x0,rfl,s3⟩;refine GK (λσ' H4=>∃(ls:Addr)(x1:V),σ'=[some (.ref a),some (.int (k:Int)),some (.int z),some (.int r),some (.int c),some (.int wh),some x0,some (.ref ls),v8,v9,v10,v11]/\Same H3 H4/\H4 ls=some (.lst [x0,x1])) ?rest4 ?lists
 case lists=>
  intro J;refine ⟨_,rfl,Nat.zero_le _,λp1 h1=>?_⟩;refine ⟨(by show 1<=sizeLine;decide),λp2 h2=>?_⟩;refine ⟨GZ,λp3 h3=>?_⟩;refine ⟨(by show 1<=sizeLine;decide),λp4 h4=>?_⟩;refine ⟨(by show 4<=sizeLine;decide),λp5 h5=>?_⟩;obtain ⟨x1,ex⟩:=Xf (xs:=[.ref p1,.ref p2,.ref p3,.ref p4]) w0 w1;refine ⟨_,rfl,p5,_,_,_,rfl,rfl,SqL.of Gb,ex,GZ,λp6 h6=>?_⟩;exact J _ _ ⟨p6,x1,rfl,(((((Same.new h1).trans (Same.new h2)).trans (Same.new h3)).trans (Same.new h4)).trans (Same.new h5)).trans (Same.new h6),Gb⟩
 rintro σ' H4 ⟨ls,x1,rfl,s4,els⟩;have S4:=((s1.trans s2).trans s3).trans s4;clear s1 s2 s3 s4;refine GK (λσ' H5=>∃v8:Option V,σ'=[some (.ref a),some (.int (k:Int)),some (.int z),some (.int r),some (.int c),some (.int wh),some x0,some (.ref ls),v8,v9,v10,v11]/\Same H4 H5) ?rest5 ?five
 case five=>
  intro J;refine ⟨_,rfl,by decide,by decide,?_⟩;refine Of (lo:=0) (n:=5) (λi σ' H'=>∃v8:Option V,σ'=[some (.ref a),some (.int (k:Int)),some (.int z),some (.int r),some (.int c),some (.int wh),some x0,some (.ref ls),v8,v9,v10,v11]/\Same H4 H') ⟨v8,rfl,Same.refl _⟩ ?_ (λσ' H5 h=>J _ _ h);rintro i σ' H5 hi ⟨v8,rfl,s5⟩;rw [Int.zero_add];dsimp only [GQ];refine ⟨_,rfl,_,rfl,_,rfl,_,rfl,_,_,rfl,rfl,⟨by decide,G6⟩,_,_,rfl,rfl,(by show (0:Int)<3;decide),_,_,rfl,rfl,_,rfl,(i:Int),r,c,_,ls,x0,x1,rfl,s5 _ _ els,⟨by lia,by lia⟩,.inl bad,λH6 s6=>⟨_,rfl,Ji ?_⟩⟩;exact ⟨_,rfl,s5.trans s6⟩
 rintro σ' H5 ⟨v8,rfl,s5⟩;have els5:=s5 _ _ els;have S5:=S4.trans s5;clear els S4 s5 bad;have r0':0<=z / 6 % 6:=Int.emod_nonneg _ (by decide);have r1':z / 6 % 6<6:=Int.emod_lt_of_pos _ (by decide);have c0':0<=z / 60 % 4:=Int.emod_nonneg _ (by decide);have c1':z / 60 % 4<4:=Int.emod_lt_of_pos _ (by decide);have f0':0<=z / 1680 % 9:=Int.emod_nonneg _ (by decide);refine ⟨_,rfl,_,_,rfl,rfl,⟨by decide,G6⟩,_,_,rfl,rfl,(by show (0:Int)<6;decide),_,_,rfl,rfl,?_⟩;dsimp only [GQ];refine ⟨_,rfl,_,_,rfl,rfl,⟨by decide,G6⟩,_,_,rfl,rfl,(by show (0:Int)<4;decide),_,_,rfl,rfl,?_⟩;dsimp only [GQ];refine ⟨_,rfl,_,_,rfl,rfl,⟨by decide,G6⟩,_,_,rfl,rfl,(by show (0:Int)<9;decide),_,_,rfl,rfl,?_⟩;dsimp only [GQ];obtain ⟨R,hR,R1,R2⟩:∃R:Nat,(1:Int)+z / 6 % 6=(R:Int)/\1<=R/\R<=6:=⟨(1+z / 6 % 6).toNat,by lia,by lia,by lia⟩;obtain ⟨C,hC,C1,C2⟩:∃C:Nat,(1:Int)+z / 60 % 4=(C:Int)/\1<=C/\C<=4:=⟨(1+z / 60 % 4).toNat,by lia,by lia,by lia⟩;have hRC:R * C<=40:=Nat.le_trans (Nat.mul_le_mul R2 C2) (by decide);have G:∃r' c':Nat,(R:Int)=(r':Int)/\(C:Int)=(c':Int)/\1<=r'/\1<=c'/\r'<=16/\c'<=16/\r' * c'<=40:=⟨R,C,rfl,rfl,R1,C1,by lia,by lia,hRC⟩;change Zak _ _ _ [some (.ref a),some (.int (k:Int)),some (.int z),some (.int (1+z / 6 % 6)),some (.int (1+z / 60 % 4)),some (.int wh),some x0,some (.ref ls),v8,some (.int (1+z / 1680 % 9)),v10,v11] H5;rw [hR,hC];generalize hf:(1:Int)+z / 1680 % 9=far;have far1:1<=far:=by lia
 clear hR hC hf r0' r1' c0' c1' f0';refine GK (λσ' H6=>∃v10:Option V,σ'=[some (.ref a),some (.int (k:Int)),some (.int z),some (.int (R:Int)),some (.int (C:Int)),some (.int wh),some x0,some (.ref ls),v8,some (.int far),v10,v11]/\Same H5 H6) ?rest6 ?four
 case four=>
  intro J;refine ⟨_,rfl,_,rfl,_,_,rfl,rfl,_,rfl,_,rfl,_,_,rfl,rfl,(by show 4<=sizeLine;decide),λp hp=>?_⟩;have sp:Same H5 (upd H5 p (.lst (([0,(R:Int),0-far,(R:Int)+far]:List Int).map V.int))):=Same.new hp;have ep:upd H5 p (.lst (([0,(R:Int),0-far,(R:Int)+far]:List Int).map V.int)) p=some (.lst (([0,(R:Int),0-far,(R:Int)+far]:List Int).map V.int)):=Gb;refine ⟨p,rfl,⟨_,SqL.of ep⟩,?_⟩;refine J4 (K:=K) (a:=p) (xs:=([0,(R:Int),0-far,(R:Int)+far]:List Int).map V.int) (λi σ' H'=>∃v10:Option V,σ'=[some (.ref a),some (.int (k:Int)),some (.int z),some (.int (R:Int)),some (.int (C:Int)),some (.int wh),some x0,some (.ref ls),v8,some (.int far),v10,v11]/\Same H5 H'/\H' p=some (.lst (([0,(R:Int),0-far,(R:Int)+far]:List Int).map V.int))) ⟨v10,rfl,sp,ep⟩ (λi σ' H' _ ⟨_,_,_,y⟩=>SqL.of y) ?_ (λσ' H6 ⟨v,e,s,_⟩=>J _ _ ⟨v,e,s⟩);rintro i x σ' H6 hx ⟨v10,rfl,s6,e6⟩;obtain ⟨y,hy,rfl⟩:=List.mem_map.mp (List.mem_of_getElem? hx);have nb:¬ (1<=y/\y<(R:Int)):=by
   simp only [List.mem_cons,List.not_mem_nil,or_false] at hy
   lia
  dsimp only [GQ];refine ⟨_,rfl,_,rfl,_,rfl,_,rfl,(0:Int),(R:Int),(C:Int),y,ls,x0,x1,rfl,s6 _ _ els5,⟨by decide,by decide⟩,.inr ⟨rfl,G,nb⟩,λH7 s7=>⟨_,rfl,Ji ?_⟩⟩;exact ⟨_,rfl,s6.trans s7,s7 _ _ e6⟩
 rintro σ' H6 ⟨v10,rfl,s6⟩;have S6:=S5.trans s6;refine ⟨_,rfl,_,_,rfl,rfl,⟨by decide,G6⟩,_,rfl,_,_,rfl,rfl,_,_,rfl,?_⟩;obtain ⟨M,hM,M1,M2⟩:∃M:Nat,(if (R:Int)-1 > 1 then (R:Int)-1 else 1)=(M:Int)/\1<=M/\(2<=R->M<=R-1):=by
  by_cases y:(R:Int)-1 > 1
  ·rw [if_pos y];exact ⟨R-1,by lia,by lia,λ_=>Nat.le_refl _⟩
  ·rw [if_neg y];exact ⟨1,rfl,Nat.le_refl _,λ_=>by lia⟩
 rw [hM];have g0:0<=z / 1680 % (M:Int):=Int.emod_nonneg _ (by lia);have g1:z / 1680 % (M:Int)<(M:Int):=Int.emod_lt_of_pos _ (by lia);refine ⟨_,_,rfl,rfl,(by show (0:Int)<(M:Int);lia),_,_,rfl,rfl,?_⟩;dsimp only [GQ];obtain ⟨g,hg,gl1,gl2⟩:∃g:Nat,(1:Int)+z / 1680 % (M:Int)=(g:Int)/\1<=g/\g<=M:=⟨(1+z / 1680 % (M:Int)).toNat,by lia,by lia,by lia⟩;change Zal _ _ _ _ [some (.ref a),some (.int (k:Int)),some (.int z),some (.int (R:Int)),some (.int (C:Int)),some (.int wh),some x0,some (.ref ls),v8,some (.int far),v10,some (.int (1+z / 1680 % (M:Int)))] H6;rw [hg];refine ⟨_,rfl,_,_,rfl,rfl,_,rfl,UJ (λy=>?_) (λ_=>Ji ⟨_,_,_,_,_,_,_,_,_,_,_,rfl,S6⟩)⟩;have R2':2<=R:=by
  have:(R:Int) > 1:=of_decide_eq_true y
  lia
 have gR:g<R:=by have:=M2 R2';lia
 have cut:=X8 R (List.mem_range.mpr (by lia)) C (List.mem_range.mpr (by lia)) g (List.mem_range.mpr gR);refine ⟨_,rfl,_,rfl,_,rfl,(R:Int),(C:Int),(g:Int),rfl,.inr ⟨R,C,rfl,rfl,R1,C1,by lia,by lia,hRC,.inr ⟨g,rfl,gl1,gR,cut.1,λj hj=>Zab R2 C1 C2 (by lia) (by lia),λl zs ks H7 s7 hl el _ _ _ _=>?_⟩⟩⟩;refine ⟨_,_,true,rfl,⟨_,rfl,Ji ?_⟩,.inl ⟨_,.lst el,rfl,Vk⟩⟩;exact ⟨_,_,_,_,_,_,_,_,_,_,_,rfl,S6.trans s7⟩
end
end M
section
open PySem PySem.W PyProof.Rows
def M.rowP:Program:=PySem.Challenge.rw_onceways_k74_no_grid.prog
def M.seenP:Program:={ M.rowP with main:={ M.rowP.main with body:=[1,2,3,4,5,6,8,9,10,11,13,14,15,16,17,18,19,21,22,23,24,25,26,27,28,29,30,32,33,34,35,36,38,39,40,42,43,45,46,47,48,49,50,51,52,53,54,56,57,58,59,60].filterMap (λi=>M.rowP.main.body[i]?) } }
def M.loosely:List Str:=[Str.ofString "steps_of_marks", Str.ofString "steps_of_ways", Str.ofString "roads_of"]
def M.hookX (s:Shared):Bool:=xlAt M.seenP [] s && recOk (RowW.records (OpenRow.toRowW PySem.Challenge.rw_onceways_k74_no_grid.row)) s
noncomputable def M.atBoot (w:World)(os:OsState):Shared:=⟨boot_heap w.params,Array.mk [],boot_drawn,boot_toks,os⟩
noncomputable def M.topOf (p:Program)(N:Nat)(w:World)(os:OsState):Option Shared:=topRun treeTable p w (M.atBoot w os).heap.objs.size ((M.atBoot w os).heap.nsMap mainGlobals "__annotations__") N (M.atBoot w os) (topStub p)
theorem M.top_run {p:Program}{N:Nat}{w:World}{os:OsState}{s:Shared}(h:topFrom treeTable p w N (M.atBoot w os)=some s):M.topOf p N w os=some s:=by
 unfold topFrom at h;split at h
 ·obtain ⟨s1,h1,h2⟩:=Option.bind_eq_some_iff.mp h;split at h2
  ·cases h2;exact h1
  ·cases h2
 ·cases h
theorem M.left_boot {p q:Program}{loose:List Str}{Xt:Shared->Bool}{α:Type}{Yf:Shared->α}{Ya:World->α}{N:Nat}(e:opening p=plainProg p.main.scope.names)(hN:Nat.ble 600 N=true)(f:∀s,fenceModules? p s=some s)(hc:∀(w:World)(os:OsState),(topFrom treeTable p w N (M.atBoot w os)).isSome=true)(ha:∀(w:World)(os:OsState),(M.topOf p N w os).map (openSeen q loose (importedModules p.main.body) Xt true)=some (openGood q loose))(hb:∀(w:World)(os:OsState),(M.topOf p N w os).map Yf=some (Ya w)) :
  LeftO p q loose Xt Yf Ya N:=λw=>by
 obtain ⟨⟨a,b,c,d,os⟩,e1,e2⟩:=Option.map_eq_some_iff.mp (boot_open e hN f w);obtain ⟨rfl,rfl,rfl,rfl⟩:a=boot_heap w.params/\b=Array.mk []/\c=boot_drawn/\d=boot_toks:=by simpa using e2
 obtain ⟨s,hs⟩:=Option.isSome_iff_exists.mp (hc w os);have h1:=ha w os;have h2:=hb w os;rw [M.top_run hs] at h1 h2;unfold openEnds;rw [e1];show (topFrom treeTable p w N (M.atBoot w os)).map _=_;rw [hs];simp only [Option.map_some,Option.some.injEq] at h1 h2 ⊢;rw [h1,h2]
set_option maxHeartbeats 0 in
theorem M.topA (w:World)(os:OsState):(M.topOf M.rowP 5380 w os).map (openSeen M.seenP M.loosely (importedModules M.rowP.main.body) M.hookX true)=some (openGood M.seenP M.loosely):=by
 unfold M.topOf;rw [W.Fast.te14082659384304107361,W.Fast.te14364793385576792824,W.Fast.te4187177175401517315];kernel_rfl
set_option maxHeartbeats 0 in
theorem M.topC (w:World)(os:OsState):(topFrom treeTable M.rowP w 5380 (M.atBoot w os)).isSome=true:=by
 unfold topFrom;rw [W.Fast.te14082659384304107361,W.Fast.te14364793385576792824];kernel_rfl
end
namespace M
open PySem L2
theorem all_mk {l:W.OpenLaw}{w:World}{K:W.Frag}{h:Heap}{mg:Str->Option Value}{fa f1 f2 f3 f4 f5 f6 f7 f8 f9 f10 f11 f12 f13 f14 f15 f16 f17 f18 f19 f20 f21 f22 f23 f24 f25 f26 f27 f28 f29 no way a1 a4 a5 a11:Addr}{u0 u1 u2 u3 u4 u5:Tok}(X:K.In h)(G:h.Ns mainGlobals mg)(hfa:mg "law" = some (.ref fa)){od1 an1 od2 an2 od3 an3 od4 an4 od5 an5 od6 an6 od7 an7 od8 an8 od9 an9 od10 an10 od11 an11 od12 an12 od13 an13 od14 an14 od15 an15 od16 an16 od17 an17 od18 an18 od19 an19 od20 an20 od21 an21 od22 an22 od23 an23 od24 an24 od25 an25 od26 an26 od27 an27 od28 an28 od29 an29:Option Addr}{sl1 sl2 sl3 sl4 sl5 sl6 sl7 sl8 sl9 sl10 sl11 sl12 sl13 sl14 sl15 sl16 sl17 sl18 sl19 sl20 sl21 sl22 sl23 sl24 sl25 sl26 sl27 sl28 sl29:Array (Option Value)}{oc1 kV1 dc1 pm1 cd1 ct1 oc2 kV2 dc2 pm2 cd2 ct2 oc3 kV3 dc3 pm3 cd3 ct3 oc4 kV4 dc4 pm4 cd4 ct4 oc5 kV5 dc5 pm5 cd5 ct5 oc6 kV6 dc6 pm6 cd6 ct6 oc7 kV7 dc7 pm7 cd7 ct7 oc8 kV8 dc8 pm8 cd8 ct8 oc9 kV9 dc9 pm9 cd9 ct9 oc10 kV10 dc10 pm10 cd10 ct10 oc11 kV11 dc11 pm11 cd11 ct11 oc12 kV12 dc12 pm12 cd12 ct12 oc13 kV13 dc13 pm13 cd13 ct13 oc14 kV14 dc14 pm14 cd14 ct14 oc15 kV15 dc15 pm15 cd15 ct15 oc16 kV16 dc16 pm16 cd16 ct16 oc17 kV17 dc17 pm17 cd17 ct17 oc18 kV18 dc18 pm18 cd18 ct18 oc19 kV19 dc19 pm19 cd19 ct19 oc20 kV20 dc20 pm20 cd20 ct20 oc21 kV21 dc21 pm21 cd21 ct21 oc22 kV22 dc22 pm22 cd22 ct22 oc23 kV23 dc23 pm23 cd23 ct23 oc24 kV24 dc24 pm24 cd24 ct24 oc25 kV25 dc25 pm25 cd25 ct25 oc26 kV26 dc26 pm26 cd26 ct26 oc27 kV27 dc27 pm27 cd27 ct27 oc28 kV28 dc28 pm28 cd28 ct28 oc29 kV29 dc29 pm29 cd29 ct29:Value}(aF1:W.nsIn K mainGlobals "grid" = some (some (.ref f1)))(lF1:K.lookup f1=some ⟨oc1,od1,.func (W.fnOf "grid" "grid" (Gm sGr) (Gj sGr) (Gd sGr) .none kV1 dc1 pm1 an1 cd1 ct1),sl1⟩)(cF1:W.codeIn K cd1 "grid" = true)(kF1:W.keepIn K (.ref f1)=true)(aF2:W.nsIn K mainGlobals "beside" = some (some (.ref f2)))(lF2:K.lookup f2=some ⟨oc2,od2,.func (W.fnOf "beside" "beside" (Gm Z5) (Gj Z5) (Gd Z5) .none kV2 dc2 pm2 an2 cd2 ct2),sl2⟩)(cF2:W.codeIn K cd2 "beside" = true)(kF2:W.keepIn K (.ref f2)=true)(aF3:W.nsIn K mainGlobals "last_roads" = some (some (.ref f3)))(lF3:K.lookup f3=some ⟨oc3,od3,.func (W.fnOf "last_roads" "last_roads" (Gm sLr) (Gj sLr) (Gd sLr) .none kV3 dc3 pm3 an3 cd3 ct3),sl3⟩)(cF3:W.codeIn K cd3 "last_roads" = true)(kF3:W.keepIn K (.ref f3)=true)(aF4:W.nsIn K mainGlobals "steps_of_marks" = some (some (.ref f4)))(lF4:K.lookup f4=some ⟨oc4,od4,.func (W.fnOf "steps_of" "steps_of" (Gm sSo) (Gj sSo) (Gd sSo) .none kV4 dc4 pm4 an4 cd4 ct4),sl4⟩)(cF4:W.codeIn K cd4 "steps_of" = true)(kF4:W.keepIn K (.ref f4)=true)(aF5:W.nsIn K mainGlobals "first_marks" = some (some (.ref f5)))(lF5:K.lookup f5=some ⟨oc5,od5,.func (W.fnOf "first_marks" "first_marks" (Gm sFm) (Gj sFm) (Gd sFm) .none kV5 dc5 pm5 an5 cd5 ct5),sl5⟩)(cF5:W.codeIn K cd5 "first_marks" = true)(kF5:W.keepIn K (.ref f5)=true)(aF6:W.nsIn K mainGlobals "is_done" = some (some (.ref f6)))(lF6:K.lookup f6=some ⟨oc6,od6,.func (W.fnOf "is_done" "is_done" (Gm sId) (Gj sId) (Gd sId) .none kV6 dc6 pm6 an6 cd6 ct6),sl6⟩)(cF6:W.codeIn K cd6 "is_done" = true)(kF6:W.keepIn K (.ref f6)=true)(aF7:W.nsIn K mainGlobals "is_loose" = some (some (.ref f7)))(lF7:K.lookup f7=some ⟨oc7,od7,.func (W.fnOf "is_loose" "is_loose" (Gm sIl) (Gj sIl) (Gd sIl) .none kV7 dc7 pm7 an7 cd7 ct7),sl7⟩)(cF7:W.codeIn K cd7 "is_loose" = true)(kF7:W.keepIn K (.ref f7)=true)(aF8:W.nsIn K mainGlobals "is_full" = some (some (.ref f8)))(lF8:K.lookup f8=some ⟨oc8,od8,.func (W.fnOf "is_full" "is_full" (Gm sIf) (Gj sIf) (Gd sIf) .none kV8 dc8 pm8 an8 cd8 ct8),sl8⟩)(cF8:W.codeIn K cd8 "is_full" = true)(kF8:W.keepIn K (.ref f8)=true)(aF9:W.nsIn K mainGlobals "is_met" = some (some (.ref f9)))(lF9:K.lookup f9=some ⟨oc9,od9,.func (W.fnOf "is_met" "is_met" (Gm sIm) (Gj sIm) (Gd sIm) .none kV9 dc9 pm9 an9 cd9 ct9),sl9⟩)(cF9:W.codeIn K cd9 "is_met" = true)(kF9:W.keepIn K (.ref f9)=true)(aF10:W.nsIn K mainGlobals "far_end" = some (some (.ref f10)))(lF10:K.lookup f10=some ⟨oc10,od10,.func (W.fnOf "far_end" "far_end" (Gm sFe) (Gj sFe) (Gd sFe) .none kV10 dc10 pm10 an10 cd10 ct10),sl10⟩)(cF10:W.codeIn K cd10 "far_end" = true)(kF10:W.keepIn K (.ref f10)=true)(aF11:W.nsIn K mainGlobals "with_road" = some (some (.ref f11)))(lF11:K.lookup f11=some ⟨oc11,od11,.func (W.fnOf "with_road" "with_road" (Gm sWr) (Gj sWr) (Gd sWr) .none kV11 dc11 pm11 an11 cd11 ct11),sl11⟩)(cF11:W.codeIn K cd11 "with_road" = true)(kF11:W.keepIn K (.ref f11)=true)(aF12:W.nsIn K mainGlobals "left_behind" = some (some (.ref f12)))(lF12:K.lookup f12=some ⟨oc12,od12,.func (W.fnOf "left_behind" "left_behind" (Gm sLb) (Gj sLb) (Gd sLb) .none kV12 dc12 pm12 an12 cd12 ct12),sl12⟩)(cF12:W.codeIn K cd12 "left_behind" = true)(kF12:W.keepIn K (.ref f12)=true)(aF13:W.nsIn K mainGlobals "decided" = some (some (.ref f13)))(lF13:K.lookup f13=some ⟨oc13,od13,.func (W.fnOf "decided" "decided" (Gm sDe) (Gj sDe) (Gd sDe) .none kV13 dc13 pm13 an13 cd13 ct13),sl13⟩)(cF13:W.codeIn K cd13 "decided" = true)(kF13:W.keepIn K (.ref f13)=true)(aF14:W.nsIn K mainGlobals "behind_step" = some (some (.ref f14)))(lF14:K.lookup f14=some ⟨oc14,od14,.func (W.fnOf "behind_step" "behind_step" (Gm sBs) (Gj sBs) (Gd sBs) .none kV14 dc14 pm14 an14 cd14 ct14),sl14⟩)(cF14:W.codeIn K cd14 "behind_step" = true)(kF14:W.keepIn K (.ref f14)=true)(aF15:W.nsIn K mainGlobals "numbers_behind" = some (some (.ref f15)))(lF15:K.lookup f15=some ⟨oc15,od15,.func (W.fnOf "numbers_behind" "numbers_behind" (Gm sNb) (Gj sNb) (Gd sNb) .none kV15 dc15 pm15 an15 cd15 ct15),sl15⟩)(cF15:W.codeIn K cd15 "numbers_behind" = true)(kF15:W.keepIn K (.ref f15)=true)(aF16:W.nsIn K mainGlobals "roads_of_row" = some (some (.ref f16)))(lF16:K.lookup f16=some ⟨oc16,od16,.func (W.fnOf "roads_of_row" "roads_of_row" (Gm sRr) (Gj sRr) (Gd sRr) .none kV16 dc16 pm16 an16 cd16 ct16),sl16⟩)(cF16:W.codeIn K cd16 "roads_of_row" = true)(kF16:W.keepIn K (.ref f16)=true)(aF17:W.nsIn K mainGlobals "sign_of" = some (some (.ref f17)))(lF17:K.lookup f17=some ⟨oc17,od17,.func (W.fnOf "sign_of" "sign_of" (Gm sSg) (Gj sSg) (Gd sSg) .none kV17 dc17 pm17 an17 cd17 ct17),sl17⟩)(cF17:W.codeIn K cd17 "sign_of" = true)(kF17:W.keepIn K (.ref f17)=true)(aF18:W.nsIn K mainGlobals "word_in" = some (some (.ref f18)))(lF18:K.lookup f18=some ⟨oc18,od18,.func (W.fnOf "word_in" "word_in" (Gm sWn) (Gj sWn) (Gd sWn) .none kV18 dc18 pm18 an18 cd18 ct18),sl18⟩)(cF18:W.codeIn K cd18 "word_in" = true)(kF18:W.keepIn K (.ref f18)=true)(aF19:W.nsIn K mainGlobals "words_below" = some (some (.ref f19)))(lF19:K.lookup f19=some ⟨oc19,od19,.func (W.fnOf "words_below" "words_below" (Gm sWb) (Gj sWb) (Gd sWb) .none kV19 dc19 pm19 an19 cd19 ct19),sl19⟩)(cF19:W.codeIn K cd19 "words_below" = true)(kF19:W.keepIn K (.ref f19)=true)(aF20:W.nsIn K mainGlobals "count_by_words" = some (some (.ref f20)))(lF20:K.lookup f20=some ⟨oc20,od20,.func (W.fnOf "count_by_words" "count_by_words" (Gm sCw) (Gj sCw) (Gd sCw) .none kV20 dc20 pm20 an20 cd20 ct20),sl20⟩)(cF20:W.codeIn K cd20 "count_by_words" = true)(kF20:W.keepIn K (.ref f20)=true)(aF21:W.nsIn K mainGlobals "closed_by_words" = some (some (.ref f21)))(lF21:K.lookup f21=some ⟨oc21,od21,.func (W.fnOf "closed_by_words" "closed_by_words" (Gm sCb) (Gj sCb) (Gd sCb) .none kV21 dc21 pm21 an21 cd21 ct21),sl21⟩)(cF21:W.codeIn K cd21 "closed_by_words" = true)(kF21:W.keepIn K (.ref f21)=true)(aF22:W.nsIn K mainGlobals "all_places_by_words" = some (some (.ref f22)))(lF22:K.lookup f22=some ⟨oc22,od22,.func (W.fnOf "all_places_by_words" "all_places_by_words" (Gm sAp) (Gj sAp) (Gd sAp) .none kV22 dc22 pm22 an22 cd22 ct22),sl22⟩)(cF22:W.codeIn K cd22 "all_places_by_words" = true)(kF22:W.keepIn K (.ref f22)=true)(aF23:W.nsIn K mainGlobals "words_of" = some (some (.ref f23)))(lF23:K.lookup f23=some ⟨oc23,od23,.func (W.fnOf "words_of" "words_of" (Gm sWf) (Gj sWf) (Gd sWf) .none kV23 dc23 pm23 an23 cd23 ct23),sl23⟩)(cF23:W.codeIn K cd23 "words_of" = true)(kF23:W.keepIn K (.ref f23)=true)(aF24:W.nsIn K mainGlobals "set_by_words" = some (some (.ref f24)))(lF24:K.lookup f24=some ⟨oc24,od24,.func (W.fnOf "set_by_words" "set_by_words" (Gm sSw) (Gj sSw) (Gd sSw) .none kV24 dc24 pm24 an24 cd24 ct24),sl24⟩)(cF24:W.codeIn K cd24 "set_by_words" = true)(kF24:W.keepIn K (.ref f24)=true)(aF25:W.nsIn K mainGlobals "_law_cell_at" = some (some (.ref f25)))(lF25:K.lookup f25=some ⟨oc25,od25,.func (W.fnOf "_law_cell_at" "_law_cell_at" (Gm Y9) (Gj Y9) (Gd Y9) .none kV25 dc25 pm25 an25 cd25 ct25),sl25⟩)(cF25:W.codeIn K cd25 "_law_cell_at" = true)(kF25:W.keepIn K (.ref f25)=true)(aF26:W.nsIn K mainGlobals "_law_mixed" = some (some (.ref f26)))(lF26:K.lookup f26=some ⟨oc26,od26,.func (W.fnOf "_law_mixed" "_law_mixed" (Gm sMi) (Gj sMi) (Gd sMi) .none kV26 dc26 pm26 an26 cd26 ct26),sl26⟩)(cF26:W.codeIn K cd26 "_law_mixed" = true)(kF26:W.keepIn K (.ref f26)=true)(aF27:W.nsIn K mainGlobals "_law_asked" = some (some (.ref f27)))(lF27:K.lookup f27=some ⟨oc27,od27,.func (W.fnOf "_law_asked" "_law_asked" (Gm sAs) (Gj sAs) (Gd sAs) .none kV27 dc27 pm27 an27 cd27 ct27),sl27⟩)(cF27:W.codeIn K cd27 "_law_asked" = true)(kF27:W.keepIn K (.ref f27)=true)(aF28:W.nsIn K mainGlobals "_law_no_web" = some (some (.ref f28)))(lF28:K.lookup f28=some ⟨oc28,od28,.func (W.fnOf "_law_no_web" "_law_no_web" (Gm sNw) (Gj sNw) (Gd sNw) .none kV28 dc28 pm28 an28 cd28 ct28),sl28⟩)(cF28:W.codeIn K cd28 "_law_no_web" = true)(kF28:W.keepIn K (.ref f28)=true)(aF29:W.nsIn K mainGlobals "law" = some (some (.ref f29)))(lF29:K.lookup f29=some ⟨oc29,od29,.func (W.fnOf "law" "law" (Gm XZ) (Gj XZ) (Gd XZ) .none kV29 dc29 pm29 an29 cd29 ct29),sl29⟩)(cF29:W.codeIn K cd29 "law" = true)(kF29:W.keepIn K (.ref f29)=true)(gW:W.nsIn K mainGlobals "NoWeb" = some (some (.ref no)))(xW:ExcC K no)(gUSED:W.nsIn K mainGlobals "USED" = some (some (.int (-1) u1)))(gFREE:W.nsIn K mainGlobals "FREE" = some (some (.int (-2) u2)))(gFIRST:W.nsIn K mainGlobals "FIRST" = some (some (.int (-3) u3)))(gSECOND:W.nsIn K mainGlobals "SECOND" = some (some (.int (-4) u4)))(gBARRED:W.nsIn K mainGlobals "BARRED" = some (some (.int (-5) u5)))(gDONE:W.nsIn K mainGlobals "DONE" = some (some (.int 0 u0)))(gway:W.nsIn K mainGlobals "WayError" = some (some (.ref way)))(ga1:W.nsIn K mainGlobals "NoEnds" = some (some (.ref a1)))(ga4:W.nsIn K mainGlobals "NoOrder" = some (some (.ref a4)))(ga5:W.nsIn K mainGlobals "NoPlace" = some (some (.ref a5)))(ga11:W.nsIn K mainGlobals "NoWay" = some (some (.ref a11)))(xga:W.findIn K (.ref no) "__getattribute__" = some (some (.builtin "BaseException.__getattribute__")))(xnga:W.findIn K (.ref no) "__getattr__" = some none)(xcl:W.findIn K (.ref no) "__class__" = some (some (.builtin "object.__class__")))(xob:W.mroIn K no (.type "object")=some true)(xbe:W.subIn K (.ref no) (.type "BaseException")=some true)(wbe:W.subIn K (.ref way) (.type "BaseException")=some true)(cw:W.kitOne K (.ref no) (.ref way)=some true)(nne:no≠way)(t1:W.kitOne K (.ref no) (.ref a1)=some false)(t4:W.kitOne K (.ref no) (.ref a4)=some false)(t5:W.kitOne K (.ref no) (.ref a5)=some false)(t11:W.kitOne K (.ref no) (.ref a11)=some false)(ve:W.kitOne K (.ref no) (.type "ValueError")=some true)(nrange:W.nsIn K mainGlobals "range" = some none)(nlist:W.nsIn K mainGlobals "list" = some none)(nlen:W.nsIn K mainGlobals "len" = some none)(nmax:W.nsIn K mainGlobals "max" = some none)(nmin:W.nsIn K mainGlobals "min" = some none)(nsorted:W.nsIn K mainGlobals "sorted" = some none)(nall:W.nsIn K mainGlobals "all" = some none)(nany:W.nsIn K mainGlobals "any" = some none)(nenumerate:W.nsIn K mainGlobals "enumerate" = some none)(ntuple:W.nsIn K mainGlobals "tuple" = some none)(nisinstance:W.nsIn K mainGlobals "isinstance" = some none)(nValueError:W.nsIn K mainGlobals "ValueError" = some none)
  : ∃fd:FuncData,(∀(s:Shared)(v:Value),BindsTo s fd ⟨[v],[]⟩ [("script", v)])/\∀base:Heap,K.In base->base.Ns mainGlobals mg->GD l.prog w K mg base CX0 9 fa fd ["script"] (Yb K):=by
 have e:=hfa.symm.trans (W.mg_of X G aF29);cases e;have FGr:=GA (st:=sGr) lF1 cF1 kF1;have bGr:=FGr.binds (ps:=["rows", "columns"]) λ_ _ _ _ _ _ us hl=>by obtain ⟨_,_,rfl⟩:=Wn hl;rfl
 have mGr:mg "grid" = some (.ref f1):=W.mg_of X G aF1;have FBe:=GA (st:=Z5) lF2 cF2 kF2;have bBe:=FBe.binds (ps:=["web", "place"]) λ_ _ _ _ _ _ us hl=>by obtain ⟨_,_,rfl⟩:=Wn hl;rfl
 have mBe:mg "beside" = some (.ref f2):=W.mg_of X G aF2;have FLr:=GA (st:=sLr) lF3 cF3 kF3;have bLr:=FLr.binds (ps:=["web"]) λ_ _ _ _ _ _ us hl=>by obtain ⟨_,rfl⟩:=YR hl;rfl
 have mLr:mg "last_roads" = some (.ref f3):=W.mg_of X G aF3;have FSo:=GA (st:=sSo) lF4 cF4 kF4;have bSo:=FSo.binds (ps:=["web", "needed"]) λ_ _ _ _ _ _ us hl=>by obtain ⟨_,_,rfl⟩:=Wn hl;rfl
 have mSo:mg "steps_of_marks" = some (.ref f4):=W.mg_of X G aF4;have FFm:=GA (st:=sFm) lF5 cF5 kF5;have bFm:=FFm.binds (ps:=["web", "needed"]) λ_ _ _ _ _ _ us hl=>by obtain ⟨_,_,rfl⟩:=Wn hl;rfl
 have mFm:mg "first_marks" = some (.ref f5):=W.mg_of X G aF5;have FId:=GA (st:=sId) lF6 cF6 kF6;have bId:=FId.binds (ps:=["marks"]) λ_ _ _ _ _ _ us hl=>by obtain ⟨_,rfl⟩:=YR hl;rfl
 have mId:mg "is_done" = some (.ref f6):=W.mg_of X G aF6;have FIl:=GA (st:=sIl) lF7 cF7 kF7;have bIl:=FIl.binds (ps:=["mark"]) λ_ _ _ _ _ _ us hl=>by obtain ⟨_,rfl⟩:=YR hl;rfl
 have mIl:mg "is_loose" = some (.ref f7):=W.mg_of X G aF7;have FIf:=GA (st:=sIf) lF8 cF8 kF8;have bIf:=FIf.binds (ps:=["mark"]) λ_ _ _ _ _ _ us hl=>by obtain ⟨_,rfl⟩:=YR hl;rfl
 have mIf:mg "is_full" = some (.ref f8):=W.mg_of X G aF8;have FIm:=GA (st:=sIm) lF9 cF9 kF9;have bIm:=FIm.binds (ps:=["mark"]) λ_ _ _ _ _ _ us hl=>by obtain ⟨_,rfl⟩:=YR hl;rfl
 have mIm:mg "is_met" = some (.ref f9):=W.mg_of X G aF9;have FFe:=GA (st:=sFe) lF10 cF10 kF10;have bFe:=FFe.binds (ps:=["marks", "place", "ends"]) λ_ _ _ _ _ _ us hl=>by obtain ⟨_,_,_,rfl⟩:=Xy hl;rfl
 have mFe:mg "far_end" = some (.ref f10):=W.mg_of X G aF10;have FWr:=GA (st:=sWr) lF11 cF11 kF11;have bWr:=FWr.binds (ps:=["marks", "road", "ends"]) λ_ _ _ _ _ _ us hl=>by obtain ⟨_,_,_,rfl⟩:=Xy hl;rfl
 have mWr:mg "with_road" = some (.ref f11):=W.mg_of X G aF11;have FLb:=GA (st:=sLb) lF12 cF12 kF12;have bLb:=FLb.binds (ps:=["marks", "leaving", "needed"]) λ_ _ _ _ _ _ us hl=>by obtain ⟨_,_,_,rfl⟩:=Xy hl;rfl
 have mLb:mg "left_behind" = some (.ref f12):=W.mg_of X G aF12;have FDe:=GA (st:=sDe) lF13 cF13 kF13;have bDe:=FDe.binds (ps:=["marks", "step", "ends", "chosen"]) λ_ _ _ _ _ _ us hl=>by obtain ⟨_,_,_,_,rfl⟩:=Zay hl;rfl
 have mDe:mg "decided" = some (.ref f13):=W.mg_of X G aF13;have FBs:=GA (st:=sBs) lF14 cF14 kF14;have bBs:=FBs.binds (ps:=["numbers", "step", "ends"]) λ_ _ _ _ _ _ us hl=>by obtain ⟨_,_,_,rfl⟩:=Xy hl;rfl
 have mBs:mg "behind_step" = some (.ref f14):=W.mg_of X G aF14;have FNb:=GA (st:=sNb) lF15 cF15 kF15;have bNb:=FNb.binds (ps:=["web", "ends", "needed", "i"]) λ_ _ _ _ _ _ us hl=>by obtain ⟨_,_,_,_,rfl⟩:=Zay hl;rfl
 have mNb:mg "numbers_behind" = some (.ref f15):=W.mg_of X G aF15;have FRr:=GA (st:=sRr) lF16 cF16 kF16;have bRr:=FRr.binds (ps:=["columns"]) λ_ _ _ _ _ _ us hl=>by obtain ⟨_,rfl⟩:=YR hl;rfl
 have mRr:mg "roads_of_row" = some (.ref f16):=W.mg_of X G aF16;have FSg:=GA (st:=sSg) lF17 cF17 kF17;have bSg:=FSg.binds (ps:=["mark", "place"]) λ_ _ _ _ _ _ us hl=>by obtain ⟨_,_,rfl⟩:=Wn hl;rfl
 have mSg:mg "sign_of" = some (.ref f17):=W.mg_of X G aF17;have FWn:=GA (st:=sWn) lF18 cF18 kF18;have bWn:=FWn.binds (ps:=["marks", "row", "columns"]) λ_ _ _ _ _ _ us hl=>by obtain ⟨_,_,_,rfl⟩:=Xy hl;rfl
 have mWn:mg "word_in" = some (.ref f18):=W.mg_of X G aF18;have FWb:=GA (st:=sWb) lF19 cF19 kF19;have bWb:=FWb.binds (ps:=["rows", "columns", "i"]) λ_ _ _ _ _ _ us hl=>by obtain ⟨_,_,_,rfl⟩:=Xy hl;rfl
 have mWb:mg "words_below" = some (.ref f19):=W.mg_of X G aF19;have FCw:=GA (st:=sCw) lF20 cF20 kF20;have bCw:=FCw.binds (ps:=["web", "needed"]) λ_ _ _ _ _ _ us hl=>by obtain ⟨_,_,rfl⟩:=Wn hl;rfl
 have mCw:mg "count_by_words" = some (.ref f20):=W.mg_of X G aF20;have FCb:=GA (st:=sCb) lF21 cF21 kF21;have bCb:=FCb.binds (ps:=["rows", "columns"]) λ_ _ _ _ _ _ us hl=>by obtain ⟨_,_,rfl⟩:=Wn hl;rfl
 have mCb:mg "closed_by_words" = some (.ref f21):=W.mg_of X G aF21;have FAp:=GA (st:=sAp) lF22 cF22 kF22;have bAp:=FAp.binds (ps:=["rows", "columns"]) λ_ _ _ _ _ _ us hl=>by obtain ⟨_,_,rfl⟩:=Wn hl;rfl
 have mAp:mg "all_places_by_words" = some (.ref f22):=W.mg_of X G aF22;have FWf:=GA (st:=sWf) lF23 cF23 kF23;have bWf:=FWf.binds (ps:=["rows", "columns", "roads"]) λ_ _ _ _ _ _ us hl=>by obtain ⟨_,_,_,rfl⟩:=Xy hl;rfl
 have mWf:mg "words_of" = some (.ref f23):=W.mg_of X G aF23;have FSw:=GA (st:=sSw) lF24 cF24 kF24;have bSw:=FSw.binds (ps:=["rows", "columns", "words"]) λ_ _ _ _ _ _ us hl=>by obtain ⟨_,_,_,rfl⟩:=Xy hl;rfl
 have mSw:mg "set_by_words" = some (.ref f24):=W.mg_of X G aF24;have FCa:=GA (st:=Y9) lF25 cF25 kF25;have bCa:=FCa.binds (ps:=["script", "k"]) λ_ _ _ _ _ _ us hl=>by obtain ⟨_,_,rfl⟩:=Wn hl;rfl
 have mCa:mg "_law_cell_at" = some (.ref f25):=W.mg_of X G aF25;have FMi:=GA (st:=sMi) lF26 cF26 kF26;have bMi:=FMi.binds (ps:=["cell", "k"]) λ_ _ _ _ _ _ us hl=>by obtain ⟨_,_,rfl⟩:=Wn hl;rfl
 have mMi:mg "_law_mixed" = some (.ref f26):=W.mg_of X G aF26;have FAs:=GA (st:=sAs) lF27 cF27 kF27;have bAs:=FAs.binds (ps:=["way", "rows", "columns", "i", "lists"]) λ_ _ _ _ _ _ us hl=>by obtain ⟨_,_,_,_,_,rfl⟩:=Zaz hl;rfl
 have mAs:mg "_law_asked" = some (.ref f27):=W.mg_of X G aF27;have FNw:=GA (st:=sNw) lF28 cF28 kF28;have bNw:=FNw.binds (ps:=["way", "rows", "columns", "i", "lists"]) λ_ _ _ _ _ _ us hl=>by obtain ⟨_,_,_,_,_,rfl⟩:=Zaz hl;rfl
 have mNw:mg "_law_no_web" = some (.ref f28):=W.mg_of X G aF28;have FL:=GA (st:=XZ) lF29 cF29 kF29;refine ⟨W.fnOf "law" "law" (Gm XZ) (Gj XZ) (Gd XZ) .none kV29 dc29 pm29 an29 cd29 ct29,λs v=>.of_eq rfl,λbase _ _=>?_⟩;have GBe:=W9 (P:=l.prog) (w:=w) (base:=base) (mg:=mg) ["web", "place"] FBe;have GId:=ZaN (P:=l.prog) (w:=w) (base:=base) FId (W.mg_of X G gDONE);have GIl:=ZaP (P:=l.prog) (w:=w) (base:=base) FIl (W.mg_of X G gFIRST) (W.mg_of X G gSECOND);have GIf:=ZaQ (P:=l.prog) (w:=w) (base:=base) FIf (W.mg_of X G gUSED) (W.mg_of X G gBARRED);have GIm:=ZaR (P:=l.prog) (w:=w) (base:=base) FIm (W.mg_of X G gFREE) (W.mg_of X G gBARRED);have GFe:=ZaS (P:=l.prog) (w:=w) (base:=base) FFe (W.mg_of X G gFREE);have GWr:=ZaT (P:=l.prog) (w:=w) (base:=base) FWr FId bId mId GId FIf bIf mIf GIf FFe bFe mFe GFe FIl bIl mIl GIl (W.mg_of X G gDONE) (W.mg_of X G gUSED) (W.mg_none_of X G nlist) (W.mg_none_of X G nany) (W.mg_none_of X G ntuple);have GLb:=ZaV (P:=l.prog) (w:=w) (base:=base) FLb FIl bIl mIl GIl FIm bIm mIm GIm (W.mg_of X G gFREE) (W.mg_none_of X G nlist) (W.mg_none_of X G nany) (W.mg_none_of X G nall) (W.mg_none_of X G ntuple);have GDe:=ZaW (P:=l.prog) (w:=w) (base:=base) FDe FWr bWr mWr GWr FLb bLb mLb GLb;have GLr:=ZaX (P:=l.prog) (w:=w) (base:=base) FLr (W.mg_none_of X G nenumerate);have GSo:=ZaY (P:=l.prog) (w:=w) (base:=base) FSo FLr bLr mLr GLr (W.mg_none_of X G nenumerate);have GFm:=Za0 (P:=l.prog) (w:=w) (base:=base) FFm FBe bBe mBe GBe (W.mg_of X G gFREE) (W.mg_none_of X G nall) (W.mg_none_of X G ntuple);have GBs:=Za1 (P:=l.prog) (w:=w) (base:=base) FBs FDe bDe mDe GDe;have GNb:=Za4 (P:=l.prog) (w:=w) (base:=base) FNb FFm bFm mFm GFm FSo bSo mSo GSo FBs bBs mBs GBs;have GGr:=Ze (P:=l.prog) (w:=w) (base:=base) FGr (W.mg_of X G gW) xW (W.mg_none_of X G nrange);have GRr:=Za5 (P:=l.prog) (w:=w) (base:=base) (mg:=mg) FRr;have GSg:=Za6 (P:=l.prog) (w:=w) (base:=base) FSg (W.mg_of X G gFREE);have GWn:=Za8 (P:=l.prog) (w:=w) (base:=base) FWn FSg bSg mSg GSg (W.mg_none_of X G nrange);have GWb:=Zba (P:=l.prog) (w:=w) (base:=base) FWb FGr bGr mGr GGr FNb bNb mNb GNb FRr bRr mRr GRr FWn bWn mWn GWn (W.mg_of X G gW) xW (W.mg_none_of X G nsorted);have T:ClsW K mg no way a1 a4 a5 a11:=⟨⟨xW,xga,xnga,xcl,xob,xbe⟩,(W.mg_of X G gW),(W.mg_of X G gway),(W.mg_of X G ga1),(W.mg_of X G ga4),(W.mg_of X G ga5),(W.mg_of X G ga11),wbe,cw,nne,t1,t4,t5,t11,ve,(W.mg_none_of X G nisinstance),(W.mg_none_of X G nValueError)⟩;have GCw:=W9 (P:=l.prog) (w:=w) (base:=base) (mg:=mg) ["web", "needed"] FCw;have GCb:=Zbb (P:=l.prog) (w:=w) (base:=base) FCb FGr bGr mGr GGr FCw bCw mCw GCw;have GAp:=Zbc (P:=l.prog) (w:=w) (base:=base) FAp FGr bGr mGr GGr;have GWf:=Zbd (P:=l.prog) (w:=w) (base:=base) FWf FGr bGr mGr GGr;have GSw:=Zbe (P:=l.prog) (w:=w) (base:=base) FSw FGr bGr mGr GGr;have GCa:=Z7 (P:=l.prog) (w:=w) (base:=base) FCa (W.mg_none_of X G nlen);have GMi:=Zbf (P:=l.prog) (w:=w) (base:=base) (mg:=mg) FMi;have GAs:=Zbg (P:=l.prog) (w:=w) (base:=base) FAs FWb bWb mWb GWb FCb bCb mCb GCb FAp bAp mAp GAp FWf bWf mWf GWf FSw bSw mSw GSw;have GNw:=Zbh (P:=l.prog) (w:=w) (base:=base) FNw T FAs bAs mAs GAs;exact Zac FL T FCa bCa mCa GCa FMi bMi mMi GMi FNw bNw mNw GNw FWb bWb mWb GWb (W.mg_none_of X G nlen) (W.mg_none_of X G nrange) (W.mg_none_of X G nmax) (W.mg_none_of X G nmin) (W.mg_none_of X G nlist)
theorem walk {l:W.OpenLaw}{q:Program}{loose:List Str}{XP:(Str->Option Value)->Heap->Prop}{YP:World->Heap->Prop}{d:DefRec}{K:Params->W.Frag}(hn:l.most=some 63)(hdf:d.params.defaults=[])(hY:∀(w:World)(h:Heap),YP w h->(K w.params).In h)(F:∀(w:World)(mg:Str->Option Value)(fa:Addr)(h:Heap),(K w.params).In h->h.Ns mainGlobals mg->mg d.name=some (.ref fa) ->
   ∃fd:FuncData,(∀(s:Shared)(u:Value),BindsTo s fd ⟨[u],[]⟩ [("script", u)])/\∀base:Heap,(K w.params).In base->base.Ns mainGlobals mg->GD l.prog w (K w.params) mg base CX0 9 fa fd ["script"] (Yb (K w.params))) :
  W.WalkO q loose XP YP l.row.toRowW d [] (λf vs=>PySem.call f vs):=
 L2.walk_of (n:=63) (k:=9) (x := "script") (CX:=λ_=>CX0) (sp:=λw=>Yb (K w.params)) hn (by decide) hdf ⟨rfl,by decide,by decide⟩ hY F (λ_ _ a ns hl _ hS=>⟨a,ns,rfl,hS,hl,λ_=>rfl⟩) λ_ _ _ _ _ z=>z
end M
open PySem PySem.W PyProof.Rows
local macro_rules
 | `(tactic| o_head $H)=>`(tactic| (
  refine @holds_open _ M.seenP M.loosely M.hookX (XL M.seenP []) _ (Hook.obs $H) (Hook.val $H) (Hook.says $H) _ _ 5380
   (@M.left_boot M.rowP M.seenP M.loosely M.hookX _ (Hook.obs $H) (Hook.val $H) 5380 ?b1 ?b2 ?b3 M.topC M.topA ?hl)
   (Hook.of $H) (Hook.keeps $H) ?h1 XL.keeps (by rfl) (by rfl) (by rfl) ?h5 ?h6 ?h7 ?h8 ?h9 ?hw ?hc
  (case h1=>exact λs e=>xl_of s (Bool.and_eq_true_iff.mp e).1)
  (case h5=>exact λs e=>recFacts_of (Bool.and_eq_true_iff.mp e).2)
  (case h6=>rfl)
  (case h7=>first | assumption | decide +kernel)
  (case h8=>decide +kernel)
  (case h9=>exact ⟨rfl,rfl,rfl,rfl,rfl,by decide +kernel⟩)
  (case b1=>kernel_rfl)
  (case b2=>decide)
  (case b3=>(intro s;kernel_rfl))
  (case hl=>(intro w os;unfold M.topOf;rw [W.Fast.te14082659384304107361,W.Fast.te14364793385576792824];kernel_rfl))))
set_option maxRecDepth 100000 in
set_option maxHeartbeats 0 in
theorem PySem.Challenge.cw_onceways_k74_no_grid_holds : PySem.Challenge.rw_onceways_k74_no_grid.Holds := by
 w_on;o_law;k_head;(case hw=>w_witness2)
 k_fill
 refine M.walk (l:=PySem.Challenge.rw_onceways_k74_no_grid) rfl rfl (λw h Y=>W.kIn_of Y) ?F
 case F=>
  intro w mg fa h KX G hmg
  refine' M.all_mk KX G hmg ?aF1 ?lF1 ?cF1 ?kF1 ?aF2 ?lF2 ?cF2 ?kF2 ?aF3 ?lF3 ?cF3 ?kF3 ?aF4 ?lF4 ?cF4 ?kF4 ?aF5 ?lF5 ?cF5 ?kF5 ?aF6 ?lF6 ?cF6 ?kF6 ?aF7 ?lF7 ?cF7 ?kF7 ?aF8 ?lF8 ?cF8 ?kF8 ?aF9 ?lF9 ?cF9 ?kF9 ?aF10 ?lF10 ?cF10 ?kF10 ?aF11 ?lF11 ?cF11 ?kF11 ?aF12 ?lF12 ?cF12 ?kF12 ?aF13 ?lF13 ?cF13 ?kF13 ?aF14 ?lF14 ?cF14 ?kF14 ?aF15 ?lF15 ?cF15 ?kF15 ?aF16 ?lF16 ?cF16 ?kF16 ?aF17 ?lF17 ?cF17 ?kF17 ?aF18 ?lF18 ?cF18 ?kF18 ?aF19 ?lF19 ?cF19 ?kF19 ?aF20 ?lF20 ?cF20 ?kF20 ?aF21 ?lF21 ?cF21 ?kF21 ?aF22 ?lF22 ?cF22 ?kF22 ?aF23 ?lF23 ?cF23 ?kF23 ?aF24 ?lF24 ?cF24 ?kF24 ?aF25 ?lF25 ?cF25 ?kF25 ?aF26 ?lF26 ?cF26 ?kF26 ?aF27 ?lF27 ?cF27 ?kF27 ?aF28 ?lF28 ?cF28 ?kF28 ?aF29 ?lF29 ?cF29 ?kF29 ?gW ?xW ?gUSED ?gFREE ?gFIRST ?gSECOND ?gBARRED ?gDONE ?gway ?ga1 ?ga4 ?ga5 ?ga11 ?xga ?xnga ?xcl ?xob ?xbe ?wbe ?cw ?nne ?t1 ?t4 ?t5 ?t11 ?ve ?nrange ?nlist ?nlen ?nmax ?nmin ?nsorted ?nall ?nany ?nenumerate ?ntuple ?nisinstance ?nValueError
  (case aF1=>k_is)
  (case lF1=>k_is)
  (case cF1=>k_is)
  (case kF1=>k_is)
  (case aF2=>k_is)
  (case lF2=>k_is)
  (case cF2=>k_is)
  (case kF2=>k_is)
  (case aF3=>k_is)
  (case lF3=>k_is)
  (case cF3=>k_is)
  (case kF3=>k_is)
  (case aF4=>k_is)
  (case lF4=>k_is)
  (case cF4=>k_is)
  (case kF4=>k_is)
  (case aF5=>k_is)
  (case lF5=>k_is)
  (case cF5=>k_is)
  (case kF5=>k_is)
  (case aF6=>k_is)
  (case lF6=>k_is)
  (case cF6=>k_is)
  (case kF6=>k_is)
  (case aF7=>k_is)
  (case lF7=>k_is)
  (case cF7=>k_is)
  (case kF7=>k_is)
  (case aF8=>k_is)
  (case lF8=>k_is)
  (case cF8=>k_is)
  (case kF8=>k_is)
  (case aF9=>k_is)
  (case lF9=>k_is)
  (case cF9=>k_is)
  (case kF9=>k_is)
  (case aF10=>k_is)
  (case lF10=>k_is)
  (case cF10=>k_is)
  (case kF10=>k_is)
  (case aF11=>k_is)
  (case lF11=>k_is)
  (case cF11=>k_is)
  (case kF11=>k_is)
  (case aF12=>k_is)
  (case lF12=>k_is)
  (case cF12=>k_is)
  (case kF12=>k_is)
  (case aF13=>k_is)
  (case lF13=>k_is)
  (case cF13=>k_is)
  (case kF13=>k_is)
  (case aF14=>k_is)
  (case lF14=>k_is)
  (case cF14=>k_is)
  (case kF14=>k_is)
  (case aF15=>k_is)
  (case lF15=>k_is)
  (case cF15=>k_is)
  (case kF15=>k_is)
  (case aF16=>k_is)
  (case lF16=>k_is)
  (case cF16=>k_is)
  (case kF16=>k_is)
  (case aF17=>k_is)
  (case lF17=>k_is)
  (case cF17=>k_is)
  (case kF17=>k_is)
  (case aF18=>k_is)
  (case lF18=>k_is)
  (case cF18=>k_is)
  (case kF18=>k_is)
  (case aF19=>k_is)
  (case lF19=>k_is)
  (case cF19=>k_is)
  (case kF19=>k_is)
  (case aF20=>k_is)
  (case lF20=>k_is)
  (case cF20=>k_is)
  (case kF20=>k_is)
  (case aF21=>k_is)
  (case lF21=>k_is)
  (case cF21=>k_is)
  (case kF21=>k_is)
  (case aF22=>k_is)
  (case lF22=>k_is)
  (case cF22=>k_is)
  (case kF22=>k_is)
  (case aF23=>k_is)
  (case lF23=>k_is)
  (case cF23=>k_is)
  (case kF23=>k_is)
  (case aF24=>k_is)
  (case lF24=>k_is)
  (case cF24=>k_is)
  (case kF24=>k_is)
  (case aF25=>k_is)
  (case lF25=>k_is)
  (case cF25=>k_is)
  (case kF25=>k_is)
  (case aF26=>k_is)
  (case lF26=>k_is)
  (case cF26=>k_is)
  (case kF26=>k_is)
  (case aF27=>k_is)
  (case lF27=>k_is)
  (case cF27=>k_is)
  (case kF27=>k_is)
  (case aF28=>k_is)
  (case lF28=>k_is)
  (case cF28=>k_is)
  (case kF28=>k_is)
  (case aF29=>k_is)
  (case lF29=>k_is)
  (case cF29=>k_is)
  (case kF29=>k_is)
  (case gW=>k_is)
  (case xW=>(unfold L2.ExcC;k_exc))
  (case gUSED=>k_is)
  (case gFREE=>k_is)
  (case gFIRST=>k_is)
  (case gSECOND=>k_is)
  (case gBARRED=>k_is)
  (case gDONE=>k_is)
  (case gway=>k_is)
  (case ga1=>k_is)
  (case ga4=>k_is)
  (case ga5=>k_is)
  (case ga11=>k_is)
  (case xga=>k_is)
  (case xnga=>k_is)
  (case xcl=>k_is)
  (case xob=>k_is)
  (case xbe=>k_is)
  (case wbe=>k_is)
  (case cw=>kit_is)
  (case nne=>decide)
  (case t1=>kit_is)
  (case t4=>kit_is)
  (case t5=>kit_is)
  (case t11=>kit_is)
  (case ve=>kit_is)
  (case nrange=>k_is)
  (case nlist=>k_is)
  (case nlen=>k_is)
  (case nmax=>k_is)
  (case nmin=>k_is)
  (case nsorted=>k_is)
  (case nall=>k_is)
  (case nany=>k_is)
  (case nenumerate=>k_is)
  (case ntuple=>k_is)
  (case nisinstance=>k_is)
  (case nValueError=>k_is)
#print axioms PySem.Challenge.cw_onceways_k74_no_grid_holds
