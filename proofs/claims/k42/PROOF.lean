import PyProof.Rows.All
import Wide.All
import OpenK.AllK
import Wide.FinOn
import Lean
import PyProof.EqAt
import PyProof.EqKinds
import PyProof.TupleCall
import PyProof.SumAny
import PySem.Challenge.RW_onceways_k42_whole_like_walls_go_on_alik
set_option Elab.async false
set_option linter.all false
set_option maxRecDepth 100000
set_option maxHeartbeats 4000000
abbrev LI:=List Int
abbrev LW:=List PySem.Value
abbrev Aa:=PySem.Value
abbrev SS:=PySem.Shared
abbrev PP:=PySem.Program
abbrev Ab:=PySem.World
abbrev FF:=PySem.W.Frag
abbrev AD:=PySem.Addr
namespace L2
open PySem PySem.Spec PyProof.Rows
abbrev Key:=Sum Int Str
def Xx:Key->Aa->Bool
 | .inl k,v=>Value.isInt k v
 | .inr x,v=>Value.isStrOf x v
def Zhl (w:Ab):Key->Int
 | .inl k=>hashInt k
 | .inr x=>hashStr w x
theorem GO:∀{k:Key}{v:Aa},Xx k v=true->(∃i t,k=Sum.inl i/\v=Value.int i t)\/(∃x t,k=Sum.inr x/\v=Value.str x t)
 | .inl i,v,h=>by
  obtain ⟨t,e⟩:=Value.isInt_shape (k:=i) (v:=v) h;exact .inl ⟨i,t,rfl,e⟩
 | .inr x,v,h=>by
  obtain ⟨t,e⟩:=Value.isStrOf_shape (x:=x) (v:=v) h;exact .inr ⟨x,t,rfl,e⟩
theorem ZJ (i:Int)(t:Tok):Xx (.inl i) (.int i t)=true:=by simp [Xx,Value.isInt]
theorem ZK (x:Str)(t:Tok):Xx (.inr x) (.str x t)=true:=by simp [Xx,Value.isStrOf]
theorem Zej (a b:Int):decide ((Sum.inl a:Key)=Sum.inl b)=(a == b):=by
 by_cases e:a=b
 ·subst e;simp
 ·have h:¬ (Sum.inl a:Key)=Sum.inl b:=λq=>e (Sum.inl.inj q);rw [decide_eq_false h];exact (beq_eq_false_iff_ne.mpr e).symm
theorem Zek (a b:Str):decide ((Sum.inr a:Key)=Sum.inr b)=decide (a=b):=by
 by_cases e:a=b
 ·subst e;simp
 ·have h:¬ (Sum.inr a:Key)=Sum.inr b:=λq=>e (Sum.inr.inj q);rw [decide_eq_false h,decide_eq_false e]
theorem Zel (a:Int)(b:Str):decide ((Sum.inl a:Key)=Sum.inr b)=false:=decide_eq_false (λq=>nomatch q)
theorem Zem (a:Str)(b:Int):decide ((Sum.inr a:Key)=Sum.inl b)=false:=decide_eq_false (λq=>nomatch q)
def GE (prog:PP)(w:Ab):PySem.KeyKind prog w Key where
 is:=Xx
 hash:=Zhl w
 inj:=λv a b ha hb=>by
  rcases GO ha with ⟨i,t,rfl,rfl⟩ | ⟨x,t,rfl,rfl⟩
  ·rcases GO hb with ⟨j,u,rfl,e⟩ | ⟨y,u,rfl,e⟩
   ·injection e with e1 _;rw [e1]
   ·exact nomatch e
  ·rcases GO hb with ⟨j,u,rfl,e⟩ | ⟨y,u,rfl,e⟩
   ·exact nomatch e
   ·injection e with e1 _;rw [e1]
 byValue:=λk v h=>by
  rcases GO h with ⟨i,t,rfl,rfl⟩ | ⟨x,t,rfl,rfl⟩ <;> rfl
 pyHash:=λhv h=>by
  rcases GO hv with ⟨i,t,rfl,rfl⟩ | ⟨x,t,rfl,rfl⟩
  ·exact wpAny_pyHash_int h
  ·exact wpAny_pyHash_str h
 eqBool:=λhu hv h=>by
  rcases GO hu with ⟨i,t,rfl,rfl⟩ | ⟨x,t,rfl,rfl⟩
  ·rcases GO hv with ⟨j,u,rfl,rfl⟩ | ⟨y,u,rfl,rfl⟩
   ·rw [Zej] at h;exact wpAny_eqBool_int h
   ·rw [Zel] at h;exact SeqAt.EqAt.int_str i t y u _ _ _ _ h
  ·rcases GO hv with ⟨j,u,rfl,rfl⟩ | ⟨y,u,rfl,rfl⟩
   ·rw [Zem] at h;exact SeqAt.EqAt.str_int x t j u _ _ _ _ h
   ·rw [Zek] at h;exact wpAny_eqBool_str h
 «strs»:=λk x t v h=>by
  rcases GO h with ⟨i,u,rfl,e⟩ | ⟨y,u,rfl,e⟩
  ·exact nomatch e
  ·injection e with e1 _
   subst e1;cases v <;> rfl
theorem Xy (prog:PP)(w:Ab)(i:Int)(t:Tok):(GE prog w).is (.inl i) (.int i t)=true:=ZJ i t
theorem Xz (prog:PP)(w:Ab)(x:Str)(t:Tok):(GE prog w).is (.inr x) (.str x t)=true:=ZK x t
end L2
namespace L2
open PySem PySem.Spec PyProof.Rows
inductive V where
 | non | bl (b:Bool) | int (i:Int) | str (x:Str) | byt (b:Array UInt8) | flt (b:UInt64) | ref (a:AD) | ty (n:String)
 deriving DecidableEq
def RelV:V->Aa->Prop
 | .non,u=>u=Value.none
 | .bl b,u=>u=Value.bool b
 | .int i,u=>∃t,u=Value.int i t
 | .str x,u=>∃t,u=Value.str x t
 | .byt b,u=>∃t,u=Value.bytes b t
 | .flt b,u=>∃t,u=Value.float b t
 | .ref a,u=>u=Value.ref a
 | .ty n,u=>u=Value.type n
abbrev Vals:List V->LW->Prop:=Paired RelV
theorem Vals.length {xs:List V}{us:LW}(r:Vals xs us):xs.length=us.length:=Paired.length r
theorem Vals.get:∀{xs:List V}{us:LW}{i:Nat}{x:V},Vals xs us->xs[i]?=some x->∃u,us[i]?=some u/\RelV x u
 | _,_,_,_,.nil,e=>by simp at e
 | _,_,0,_,.cons r _,e=>by simp at e;subst e;exact ⟨_,rfl,r⟩
 | _,_,i+1,x,.cons _ t,e=>by
  obtain ⟨u,h1,h2⟩:=Vals.get (i:=i) (x:=x) t (by simpa using e);exact ⟨u,by simpa using h1,h2⟩
theorem Vals.set {x:V}{u:Aa}(r:RelV x u):∀{xs:List V}{us:LW}(i:Nat),Vals xs us->Vals (xs.set i x) (us.set i u)
 | _,_,_,.nil=>.nil
 | _,_,0,.cons _ t=>.cons r t
 | _,_,i+1,.cons q t=>.cons q (Vals.set r i t)
theorem Vals.append:∀{xs ys:List V}{us ws:LW},Vals xs us->Vals ys ws->Vals (xs++ys) (us++ws)
 | _,_,_,_,.nil,s=>s
 | _,_,_,_,.cons r t,s=>.cons r (Vals.append t s)
theorem Vals.take:∀{xs:List V}{us:LW}(n:Nat),Vals xs us->Vals (xs.take n) (us.take n)
 | _,_,0,_=>.nil
 | _,_,_+1,.nil=>.nil
 | _,_,n+1,.cons r t=>.cons r (Vals.take n t)
theorem Vals.drop:∀{xs:List V}{us:LW}(n:Nat),Vals xs us->Vals (xs.drop n) (us.drop n)
 | _,_,0,r=>r
 | _,_,_+1,.nil=>.nil
 | _,_,n+1,.cons _ t=>Vals.drop n t
def RelO:Option V->Option Aa->Prop
 | some v,some u=>RelV v u
 | none,none=>True
 | _,_=>False
def KV {κ:Type}:List (κ×V)->List (κ×Aa)->Prop:=Paired λ(p:κ×V) (q:κ×Aa)=>p.1=q.1/\RelV p.2 q.2
def kV:Key->V
 | .inl i=>.int i
 | .inr x=>.str x
inductive HO where
  | lst (xs:List V)
  | tup (xs:List V)
  | dK (kvs:List (Key×V)) | dT (kvs:List (List Key×V))
  | set (S:Int->Bool) (n:Nat)
  | ins (C dx:AD) (fs:List (Str×V))
  | own (x:AD)
  | xd (fs:List (Str×V))
  | met (f x:AD)
  | rng (lo hi:Int)
  | frz (o:Obj) (u:HO)
  | tbl (ps:Array Aa)
  | ext (φ:Heap->Prop)
abbrev Hp:=AD->Option HO
def upd (H:Hp)(a:AD)(o:HO):Hp:=λb=>if b=a then some o else H b
theorem Gb {H:Hp}{a:AD}{o:HO}:upd H a o a=some o:=by unfold upd;rw [if_pos rfl]
theorem Gu {H:Hp}{a b:AD}{o:HO}(h:b≠a):upd H a o b=H b:=by unfold upd;rw [if_neg h]
theorem Uj {H:Hp}{a:AD}{o u:HO}:upd (upd H a o) a u=upd H a u:=by
 funext b;unfold upd;split <;> rfl
theorem G6 {H:Hp}{a b:AD}{o u:HO}(h:H a=some o)(h':H b=some u)(d:o≠u):a≠b:=by
 intro e;subst e;rw [h] at h';exact d (Option.some.inj h')
theorem Gm {H:Hp}{a b:AD}{o:HO}(h:H a=some o)(h':H b=none):a≠b:=by
 intro e;subst e;rw [h] at h';cases h'
section
variable (P:PP)(w:Ab)
def ObjOk (H:Hp)(h:Heap)(a:AD):HO->Prop
 | .lst xs=>xs.length<=sizeLine/\∃(its:LW)(n:Nat),Vals xs its/\h.get? a=some { cls:=.type "list", data:=.seq its.toArray n }
 | .tup xs=>xs.length<=sizeLine/\∃its:LW,Vals xs its/\IsTup h a its.toArray
 | .dK kvs=>kvs.length<=sizeLine/\(a == sysModules)=false/\∃vs,KV kvs vs/\h.DictOf (GE P w) a vs
 | .dT kvs=>kvs.length<=sizeLine/\(a == sysModules)=false/\∃xs:List (List Key×AD×Aa),
   Paired (λ(p:List Key×V) (q:List Key×AD×Aa)=>p.1=q.1/\H q.2.1=some (.tup (p.1.map kV))/\RelV p.2 q.2.2) kvs xs /\
   ∃o es ep,h.get? a=some o/\o.ExactDict/\o.data=.dict es ep/\es.toList=xs.map (entryOfKey (tupleKind (GE P w)))/\(xs.map (·.1)).Nodup
 | .set S n=>h.SetOf (intKind P w) a S n
 | .ins C dx fs=>H dx=some (.own a)/\fs.length<=1000/\dx≠a/\h.get? a=some (W.instObj C dx) /\
   ∃mA,h.Ns1 dx mA/\(∀f,RelO (fs.lookup f) (mA f))/\PySem.Within mA (fs.map (·.1))
 | .own _=>∃o,h.get? a=some o
 | .xd fs=>∃mA,h.Ns1 a mA/\∀f,RelO (fs.lookup f) (mA f)
 | .rng lo hi=>∃t u v,h.get? a=some { cls:=.type "range", data:=.fields #[.int lo t,.int hi u,.int 1 v] }
 | .frz o u=>h.get? a=some o/\ObjOk H h a u
 | .tbl ps=>h.get? a=some { cls:=.none,data:=.fields ps }
 | .met f x=>h.get? a=some (W.methodObj (.ref f) (.ref x))
 | .ext φ=>φ h/\(∃o,h.get? a=some o)/\∀h1 h2:Heap,φ h1->(∀o,h1.get? a=some o->h2.get? a=some o)->φ h2
def HOk (H:Hp)(h:Heap):Prop:=∀a o,H a=some o->ObjOk P w H h a o
end
section
variable {P:PP}{w:Ab}{H H':Hp}{h h':Heap}{a:AD}{o:HO}
theorem ObjOk.lt (x:ObjOk P w H h a o):a<h.objs.size:=by
 cases o with
 | lst xs=>obtain ⟨_,_,_,_,e⟩:=x;exact Heap.lt_size e
 | tup xs=>obtain ⟨_,_,_,p⟩:=x;exact p.lt
 | dK kvs=>obtain ⟨_,_,_,_,o,_,_,e,_⟩:=x;exact Heap.lt_size e
 | dT kvs=>obtain ⟨_,_,_,_,o,_,_,e,_⟩:=x;exact Heap.lt_size e
 | set S n=>obtain ⟨o,_,_,_,e,_⟩:=x;exact Heap.lt_size e
 | ins C dx fs=>obtain ⟨_,_,_,e,_⟩:=x;exact Heap.lt_size e
 | own y=>obtain ⟨_,e⟩:=x;exact Heap.lt_size e
 | xd fs=>obtain ⟨_,⟨_,_,_,e,_⟩,_⟩:=x;exact Heap.lt_size e
 | rng lo hi=>obtain ⟨_,_,_,e⟩:=x;exact Heap.lt_size e
 | frz ob u=>obtain ⟨e,_⟩:=x;exact Heap.lt_size e
 | tbl ps=>exact Heap.lt_size (show h.get? a=some _ from x)
 | met f y=>exact Heap.lt_size (show h.get? a=some _ from x)
 | ext φ=>obtain ⟨_,⟨_,e⟩,_⟩:=x;exact Heap.lt_size e
theorem Paired.mapP {α β:Type}{F G:α->β->Prop}:∀{l₁:List α}{l₂:List β},Paired F l₁ l₂->(∀a b,F a b->G a b)->Paired G l₁ l₂
 | _,_,.nil,_=>.nil
 | _,_,.cons r t,f=>.cons (f _ _ r) (Paired.mapP t f)
theorem ObjOk.stay (x:ObjOk P w H h a o)(k:∀b u,(b=a\/H b=some (.own a))->h.get? b=some u->h'.get? b=some u)(ho:∀b,H b=some (.own a)->H' b=some (.own a))(ht:∀b xs,H b=some (.tup xs)->H' b=some (.tup xs)):ObjOk P w H' h' a o:=by
 induction o with
 | lst xs=>obtain ⟨z,its,n,r,e⟩:=x;exact ⟨z,its,n,r,k _ _ (.inl rfl) e⟩
 | tup xs=>obtain ⟨z,its,r,ob,e,c⟩:=x;exact ⟨z,its,r,ob,k _ _ (.inl rfl) e,c⟩
 | dK kvs=>obtain ⟨z,y,vs,r,ob,es,ep,e,c⟩:=x;exact ⟨z,y,vs,r,ob,es,ep,k _ _ (.inl rfl) e,c⟩
 | dT kvs=>
  obtain ⟨z,y,xs,r,ob,es,ep,e,c⟩:=x;exact ⟨z,y,xs,Paired.mapP r λp q z=>⟨z.1,ht _ _ z.2.1,z.2.2⟩,ob,es,ep,k _ _ (.inl rfl) e,c⟩
 | set S n=>obtain ⟨ob,es,ep,t,e,c⟩:=x;exact ⟨ob,es,ep,t,k _ _ (.inl rfl) e,c⟩
 | ins C dx fs=>
  obtain ⟨d,z,ne,e,mA,⟨od,es,ep,e2,c⟩,r⟩:=x;exact ⟨ho _ d,z,ne,k _ _ (.inl rfl) e,mA,⟨od,es,ep,k _ _ (.inr d) e2,c⟩,r⟩
 | own y=>obtain ⟨ob,e⟩:=x;exact ⟨ob,k _ _ (.inl rfl) e⟩
 | xd fs=>obtain ⟨mA,⟨od,es,ep,e,c⟩,r⟩:=x;exact ⟨mA,⟨od,es,ep,k _ _ (.inl rfl) e,c⟩,r⟩
 | rng lo hi=>obtain ⟨t,u,v,e⟩:=x;exact ⟨t,u,v,k _ _ (.inl rfl) e⟩
 | frz ob u ih=>obtain ⟨e,q⟩:=x;exact ⟨k _ _ (.inl rfl) e,ih q⟩
 | tbl ps=>
  have e:h.get? a=some { cls:=.none,data:=.fields ps }:=x;show h'.get? a=some { cls:=.none,data:=.fields ps };exact k a _ (.inl rfl) e
 | met f y=>
  have e:h.get? a=some (W.methodObj (.ref f) (.ref y)):=x;show h'.get? a=some (W.methodObj (.ref f) (.ref y));exact k a _ (.inl rfl) e
 | ext φ=>obtain ⟨p,⟨o,e⟩,st⟩:=x;exact ⟨st _ _ p λo q=>k _ _ (.inl rfl) q,⟨o,k _ _ (.inl rfl) e⟩,st⟩
theorem HOk.lt (x:HOk P w H h)(e:H a=some o):a<h.objs.size:=(x a o e).lt
theorem HOk.fresh (x:HOk P w H h)(e:h.objs.size<=a):H a=none:=by
 cases q:H a with
 | none=>rfl
 | some u=>exact absurd (Nat.lt_of_lt_of_le (x.lt q) e) (Nat.lt_irrefl _)
theorem HOk.kept (x:HOk P w H h)(k:∀b u,h.get? b=some u->h'.get? b=some u):HOk P w H h':=λa o e=>
 (x a o e).stay (λb u _ q=>k b u q) (λ_ q=>q) λ_ _ q=>q
theorem HOk.laid (x:HOk P w H h)(k:∀b u,h.get? b=some u->h'.get? b=some u)(hp:h.objs.size<=a)(new:ObjOk P w (upd H a o) h' a o):HOk P w (upd H a o) h':=λb u e=>by
 have hn:=x.fresh hp;by_cases hb:b=a
 ·subst hb;rw [Gb] at e;cases e;exact new
 ·rw [Gu hb] at e;exact (x b u e).stay (λc v _ q=>k c v q) (λc q=>by rw [Gu (Gm q hn)];exact q) λc xs q=>by rw [Gu (Gm q hn)];exact q
end
def Rd (H:Hp)(a:AD)(u:HO):Prop:=H a=some u\/∃o,H a=some (.frz o u)
theorem Rd.ok {P:PP}{w:Ab}{H:Hp}{h:Heap}{a:AD}{u:HO}(r:Rd H a u)(x:HOk P w H h):ObjOk P w H h a u:=by
 rcases r with r | ⟨o,r⟩
 ·exact x a u r
 ·obtain ⟨_,q⟩:=x a _ r;exact q
def Mut:Option HO->Prop
 | some (.lst _)=>True
 | some (.dK _)=>True
 | some (.dT _)=>True
 | some (.set _ _)=>True
 | some (.ins _ _ _)=>True
 | some (.ext _)=>True
 | _=>False
section
variable {P:PP}{w:Ab}{H:Hp}{h h':Heap}{x e:AD}{o':HO}
theorem HOk.write (ok:HOk P w H h)(mu:Mut (H x))(he:e=x\/H e=some (.own x))(k:∀b u,b≠e->h.get? b=some u->h'.get? b=some u)(heo:∃u,h'.get? e=some u)(new:ObjOk P w (upd H x o') h' x o'):HOk P w (upd H x o') h':=λb u q=>by
 have nown:∀c y,H c=some (.own y)->c≠x:=λc y r z=>by subst z;rw [r] at mu;exact mu
 have ntup:∀c xs,H c=some (.tup xs)->c≠x:=λc xs r z=>by subst z;rw [r] at mu;exact mu
 by_cases hb:b=x
 ·subst hb;rw [Gb] at q;cases q;exact new
 ·rw [Gu hb] at q;by_cases hbe:b=e
  ·have q':H b=some (.own x):=by
    rcases he with z | z
    ·exact absurd (hbe.trans z) hb
    ·rw [hbe];exact z
   rw [q] at q';cases q';obtain ⟨v,hv⟩:=heo;exact ⟨v,by rw [hbe];exact hv⟩
  ·refine (ok b u q).stay (λc v hc r=>k c v ?_ r) (λc r=>by rw [Gu (nown c b r)];exact r) λc xs r=>by rw [Gu (ntup c xs r)];exact r
   rcases hc with rfl | hc
   ·exact hbe
   ·rintro rfl;rcases he with z | z
    ·exact nown c b hc z
    ·rw [hc] at z;cases z;exact hb rfl
end
structure Un (fs ex:List AD)(H H':Hp)(h h':Heap):Prop where
 keep:∀b o,h.get? b=some o->H b=none->b ∉ fs->b ∉ ex->h'.get? b=some o
 slot:∀b o,h.get? b=some o->H b=none->b∈fs->b ∉ ex->∃sl,h'.get? b=some { o with slots:=sl }
 free:∀b o,h.get? b=some o->H b=none->b ∉ ex->H' b=none
 there:∀b o,h.get? b=some o->b ∉ ex->∃o',h'.get? b=some o'
 tups:∀b xs,H b=some (.tup xs)->H' b=some (.tup xs)
 frzs:∀b o u,H b=some (.frz o u)->H' b=some (.frz o u)
 tbls:∀b ps,H b=some (.tbl ps)->∃more,H' b=some (.tbl (ps++more))
section
variable {fs fs' ex ex':List AD}{H H1 H2:Hp}{h h1 h2 h':Heap}{a x e:AD}{o:HO}
theorem Un.any (u:Un fs ex H H1 h h1){b:AD}{ob:Obj}(q:h.get? b=some ob)(n:H b=none)(hx:b ∉ ex):∃sl,h1.get? b=some { ob with slots:=sl }:=by
 by_cases hb:b∈fs
 ·exact u.slot b ob q n hb hx
 ·exact ⟨ob.slots,u.keep b ob q n hb hx⟩
theorem Un.trans (a:Un fs ex H H1 h h1)(b:Un fs ex H1 H2 h1 h2):Un fs ex H H2 h h2 where
 keep:=λc ob q n hc hx=>b.keep c ob (a.keep c ob q n hc hx) (a.free c ob q n hx) hc hx
 slot:=λc ob q n hc hx=>by
  obtain ⟨sl,e1⟩:=a.slot c ob q n hc hx;obtain ⟨sl',e2⟩:=b.slot c _ e1 (a.free c ob q n hx) hc hx;exact ⟨sl',e2⟩
 free:=λc ob q n hx=>by
  obtain ⟨o',e1⟩:=a.there c ob q hx;exact b.free c o' e1 (a.free c ob q n hx) hx
 there:=λc ob q hx=>by
  obtain ⟨o',e1⟩:=a.there c ob q hx;exact b.there c o' e1 hx
 tups:=λc xs q=>b.tups c xs (a.tups c xs q)
 frzs:=λc ob xs q=>b.frzs c ob xs (a.frzs c ob xs q)
 tbls:=λc ps q=>by
  obtain ⟨m1,e1⟩:=a.tbls c ps q;obtain ⟨m2,e2⟩:=b.tbls c _ e1;exact ⟨m1++m2,by rw [e2,Array.append_assoc]⟩
theorem Un.kept (k:∀b u,h.get? b=some u->h'.get? b=some u):Un fs ex H H h h':=
 ⟨λb ob q _ _ _=>k b ob q,λb ob q _ _ _=>⟨ob.slots,k b ob q⟩,λ_ _ _ n _=>n,λb ob q _=>⟨ob,k b ob q⟩,λ_ _ q=>q,λ_ _ _ q=>q,λ_ ps q=>⟨#[],by rw [q];simp⟩⟩
theorem Un.refl:Un fs ex H H h h:=Un.kept λ_ _ q=>q
theorem Un.laid (k:∀b u,h.get? b=some u->h'.get? b=some u)(hp:h.objs.size<=a)(hn:H a=none):Un fs ex H (upd H a o) h h' where
 keep:=λb u q _ _ _=>k b u q
 slot:=λb u q _ _ _=>⟨u.slots,k b u q⟩
 free:=λb u q n _=>by rw [Gu (Nat.ne_of_lt (Nat.lt_of_lt_of_le (Heap.lt_size q) hp))];exact n
 there:=λb u q _=>⟨u,k b u q⟩
 tups:=λb xs q=>by rw [Gu (Gm q hn)];exact q
 frzs:=λb u xs q=>by rw [Gu (Gm q hn)];exact q
 tbls:=λb ps q=>⟨#[],by rw [Gu (Gm q hn),q];simp⟩
theorem Un.write (mu:Mut (H x))(he:e=x\/H e=some (.own x))(k:∀b u,b≠e->h.get? b=some u->h'.get? b=some u)(heo:∃u,h'.get? e=some u):Un fs ex H (upd H x o) h h':=by
 have hx:∀b,H b=none->b≠x:=λb n z=>by subst z;rw [n] at mu;exact mu
 have hb:∀b,H b=none->b≠e:=λb n z=>by
  subst z;rcases he with r | r
  ·exact hx b n r
  ·rw [n] at r;cases r
 have hm:∀b u,H b=some u->¬ Mut (some u)->b≠x:=λb u q nm z=>by subst z;rw [q] at mu;exact nm mu
 refine ⟨λb u q n _ _=>k b u (hb b n) q,λb u q n _ _=>⟨u.slots,k b u (hb b n) q⟩,λb u q n _=>by rw [Gu (hx b n)];exact n,λb u q _=>?_,
  λb xs q=>by rw [Gu (hm b _ q λz=>z)];exact q,λb u xs q=>by rw [Gu (hm b _ q λz=>z)];exact q,λb ps q=>⟨#[],by rw [Gu (hm b _ q λz=>z),q];simp⟩⟩
 by_cases hbe:b=e
 ·subst hbe;exact heo
 ·exact ⟨u,k b u hbe q⟩
theorem Un.mono (u:Un fs ex H H1 h h1)(hs:∀b∈fs,b∈fs')(hx:∀b∈ex,b∈ex'):Un fs' ex' H H1 h h1:=
 ⟨λb ob q n hb he=>u.keep b ob q n (λz=>hb (hs b z)) λz=>he (hx b z),λ_ _ q n _ he=>u.any q n λz=>he (hx _ z),λb ob q n he=>u.free b ob q n λz=>he (hx b z),λb ob q he=>u.there b ob q λz=>he (hx b z),u.tups,u.frzs,u.tbls⟩
end
def trk (h:Heap)(H:Hp):List AD:=(List.range h.objs.size).filter λa=>(H a).isSome
def ZbG (h:Heap)(H:Hp):Heap:=W.hideAll h (trk h H)
theorem ZL (h:Heap)(H:Hp):(ZbG h H).objs.size=h.objs.size:=W.hideAll_size _ _
theorem ZbH {h:Heap}{H:Hp}{b:AD}{o:Obj}(e:h.get? b=some o)(n:H b=none):(ZbG h H).get? b=some o:=
 W.hideAll_get _ e λhm=>by
  have q:(H b).isSome=true:=(List.mem_filter.mp hm).2;rw [n] at q;simp at q
theorem Zdo {h:Heap}{H:Hp}{b:AD}{o:Obj}(e:(ZbG h H).get? b=some o):h.get? b=some o/\H b=none:=by
 have e':h.get? b=some o:=W.of_hideAll (trk h H) e;refine ⟨e',?_⟩;cases q:H b with
 | none=>rfl
 | some x=>
  have hm:b∈trk h H:=List.mem_filter.mpr ⟨List.mem_range.mpr (Heap.lt_size e'),by simp [q]⟩;have z:(ZbG h H).get? b=none:=W.hideAll_none (trk h H) hm;rw [z] at e;cases e
end L2
namespace L2
open PySem PySem.Spec PyProof.Rows
structure Mod (K:FF)(mg:Str->Option Aa)(base:Heap):Prop where
 kin:K.In base
 glob:base.Ns mainGlobals mg
 blt:∃mb,base.Ns builtinsNs mb/\∀x:Str,x ≠ "__name__" -> mb x=bootBuiltins x
 nolimit:base.NoLimit
structure Cx where
 prog:PP
 w:Ab
 K:FF
 mg:Str->Option Aa
 base:Heap
 A:Around
 N:List Str
 s₀:SS
 H₀:Hp
 env:Env
 outer:List Env
 stack:List Env
 ex:List AD
 fn:Str->Bool
 calm:Bool
 pn:List (AD×Obj)
 xe:Aa->SS->Prop
def frs (l:List Env):List AD:=l.filterMap (·.frame)
abbrev Cx.fs (X:Cx):List AD:=frs X.outer
def Vis (sc:Scope)(x:Str):Prop:=sc.names.lookup x=some .local\/sc.names.lookup x=some .cell\/sc.names.lookup x=some .free
def Loc (sc:Scope)(x:Str):Prop:=sc.names.lookup x=some .local\/sc.names.lookup x=some .cell
def Zhm (env:Env)(h:Heap)(m:Str->Option Aa)(x:Str)(u:Aa):Prop:=
 (env.kindOf x=some .local/\m x=some u)\/((env.kindOf x=some .cell\/env.kindOf x=some .free)/\∃c,env.cells.lookup x=some c/\h.IsCell c (some u))
structure Cx.Ok (X:Cx):Prop where
 mod:Mod X.K X.mg X.base
 kind:X.env.scope.kind=.function
 glob:X.env.globals=mainGlobals
 blt:X.env.builtins=builtinsNs
 above:X.s₀.heap.objs.size<=X.env.locals
 inj:∀x y c,X.env.cells.lookup x=some c->X.env.cells.lookup y=some c->x=y
 has:∀x,(X.env.kindOf x=some .cell\/X.env.kindOf x=some .free)->∃c,X.env.cells.lookup x=some c
 cab:∀x c,X.fn x=true->X.env.cells.lookup x=some c->X.s₀.heap.objs.size<=c
 hd:X.calm=true->X.A.handled=none
 frames:X.A.frames=some X.stack
 stk:X.stack=X.outer\/(X.stack=X.env::X.outer/\X.env.frame=some X.env.locals)
 exf:∀b∈X.ex,b≠X.env.locals/\∀x c,X.env.cells.lookup x=some c->c≠b
 bs:∀b o,X.base.get? b=some o->X.s₀.heap.get? b=some o/\X.H₀ b=none
 bsz:X.base.objs.size<=X.s₀.heap.objs.size
 noex:∀b o,X.base.get? b=some o->b ∉ X.ex
 exfs:∀b∈X.ex,b ∉ X.fs
 funs:X.s₀.heap.FunFrames X.base X.outer
 frf:∀b∈X.fs,X.H₀ b=none
structure Inv (X:Cx)(qQ:List (AD×Obj))(σ:List (Option V))(H:Hp)(s:SS):Prop where
 ok:X.Ok
 os:s.os=X.s₀.os
 bare:AllBare s.gens
 base:Un X.fs X.ex X.H₀ H X.s₀.heap s.heap
 loc:∃m,s.heap.Ns X.env.locals m/\∀(i:Nat)(x:Str)(v:V),X.N[i]?=some x->σ[i]?=some (some v)->Vis X.env.scope x->∃u,RelV v u/\Zhm X.env s.heap m x u
 cell:∀x c,X.env.cells.lookup x=some c->∃v,s.heap.IsCell c v
 free:H X.env.locals=none
 freeC:∀x c,X.env.cells.lookup x=some c->H c=none
 pin:∀p∈X.pn++qQ,s.heap.get? p.1=some p.2/\H p.1=none/\p.1≠X.env.locals/\p.1 ∉ X.fs/\∀v,p.2.data≠.cell v
 hok:HOk X.prog X.w H s.heap
 len:σ.length=X.N.length
section
variable {X:Cx}{qQ:List (AD×Obj)}{σ:List (Option V)}{H H':Hp}{s:SS}{h':Heap}
theorem Cx.Ok.nofr (ok:X.Ok){b:AD}{o:Obj}(e:X.base.get? b=some o):b ∉ X.fs:=λhb=>by
 have:=(ok.funs.mem hb).1;rw [e] at this;cases this
theorem Inv.bs (I:Inv X qQ σ H s):∀b o,X.base.get? b=some o->s.heap.get? b=some o/\H b=none:=λb o e=>
 ⟨I.base.keep b o (I.ok.bs b o e).1 (I.ok.bs b o e).2 (I.ok.nofr e) (I.ok.noex b o e),I.base.free b o (I.ok.bs b o e).1 (I.ok.bs b o e).2 (I.ok.noex b o e)⟩
theorem Inv.bk (I:Inv X qQ σ H s):∀b o,X.base.get? b=some o->s.heap.get? b=some o:=λb o e=>(I.bs b o e).1
theorem Inv.mod (I:Inv X qQ σ H s):Mod X.K X.mg X.base:=I.ok.mod
theorem Inv.kIn (I:Inv X qQ σ H s):X.K.In s.heap:=I.ok.mod.kin.keeps I.bk
theorem Inv.lt (I:Inv X qQ σ H s):X.env.locals<s.heap.objs.size:=let ⟨_,hn,_⟩:=I.loc;hn.lt
theorem Inv.sz (I:Inv X qQ σ H s):X.s₀.heap.objs.size<=s.heap.objs.size:=Nat.le_trans I.ok.above (Nat.le_of_lt I.lt)
theorem Inv.nofs (I:Inv X qQ σ H s){a:AD}(h:s.heap.objs.size<=a):a ∉ X.fs:=λhb=>by
 obtain ⟨_,o,ho,_⟩:=I.ok.funs.mem hb;exact absurd (Nat.lt_of_lt_of_le (Heap.lt_size ho) (Nat.le_trans I.sz h)) (Nat.lt_irrefl _)
theorem Inv.cne (I:Inv X qQ σ H s):∀x c,X.env.cells.lookup x=some c->c≠X.env.locals:=λx c e z=>by
 obtain ⟨v,o,ho,hd⟩:=I.cell x c e;obtain ⟨m,⟨o',es,ep,ho',hd',_⟩,_⟩:=I.loc;rw [z,ho'] at ho;cases ho;rw [hd'] at hd;cases hd
theorem Inv.funs (I:Inv X qQ σ H s):s.heap.FunFrames X.base X.outer:=by
 have all:∀(l:List Env),(∀b∈frs l,b∈X.fs)->X.s₀.heap.FunFrames X.base l->s.heap.FunFrames X.base l:=by
  intro l
  induction l with
  | nil=>intro _ _;trivial
  | cons env r ih=>
   intro hs hl;obtain ⟨hk,⟨L,o,hf,hn,ho,hd⟩,hr⟩:=hl;have hL:L∈X.fs:=hs L (by unfold frs;rw [List.filterMap_cons,hf];exact List.mem_cons_self);obtain ⟨sl,e⟩:=I.base.slot L o ho (I.ok.frf L hL) hL λz=>I.ok.exfs L z hL;exact ⟨hk,⟨L,_,hf,hn,e,hd⟩,ih (λb hb=>hs b (by unfold frs;rw [List.filterMap_cons,hf];exact List.mem_cons_of_mem _ hb)) hr⟩
 exact all X.outer (λ_ hb=>hb) I.ok.funs
theorem Inv.stack (I:Inv X qQ σ H s):s.heap.FunFrames X.base X.stack:=by
 rcases I.ok.stk with e | ⟨e,hf⟩
 ·rw [e];exact I.funs
 ·rw [e];obtain ⟨m,hn,_⟩:=I.loc;refine .cons (by rw [I.ok.kind];decide) hf hn ?_ I.funs;exact Heap.get?_none_of_le (Nat.le_trans I.ok.bsz I.ok.above)
theorem Inv.stkSub (I:Inv X qQ σ H s):∀b∈frs X.stack,b∈X.env.locals::X.fs:=λb hb=>by
 rcases I.ok.stk with e | ⟨e,hf⟩
 ·rw [e] at hb;exact List.mem_cons_of_mem _ hb
 ·rw [e] at hb;unfold frs at hb;rw [List.filterMap_cons,hf] at hb;exact hb
theorem Inv.stkFree (I:Inv X qQ σ H s):∀b∈frs X.stack,H b=none:=λb hb=>by
 rcases List.mem_cons.mp (I.stkSub b hb) with e | hb
 ·rw [e];exact I.free
 ·obtain ⟨_,o,ho,_⟩:=I.ok.funs.mem hb;exact I.base.free b o ho (I.ok.frf b hb) λz=>I.ok.exfs b z hb
theorem Inv.step {g':Array GenState}{t':Nat}{d':Drawn}{ch:List AD}(I:Inv X qQ σ H s)(hch:∀b∈ch,(b∈X.ex\/X.s₀.heap.objs.size<=b)/\b≠X.env.locals/\(∀x c,X.env.cells.lookup x=some c->c≠b)/\∀p∈X.pn++qQ,p.1≠b)(keep:∀b o,b≠X.env.locals->b ∉ X.fs->b ∉ ch->s.heap.get? b=some o->H b=none->h'.get? b=some o)(slot:∀b o,b≠X.env.locals->b∈X.fs->b ∉ ch->s.heap.get? b=some o->H b=none->∃sl,h'.get? b=some { o with slots:=sl })(free:∀b o,b ∉ ch->s.heap.get? b=some o->H b=none->H' b=none)(there:∀b o,b ∉ ch->s.heap.get? b=some o->∃o',h'.get? b=some o')(tups:∀b xs,H b=some (.tup xs)->H' b=some (.tup xs))(frzs:∀b o u,H b=some (.frz o u)->H' b=some (.frz o u))(tbls:∀b ps,H b=some (.tbl ps)->∃more,H' b=some (.tbl (ps++more)))(ns:∀m,s.heap.Ns X.env.locals m->h'.Ns X.env.locals m)(hok:HOk X.prog X.w H' h')(hg:AllBare g') :
  Inv X qQ σ H' { s with heap:=h',gens:=g',drawn:=d',toks:=t' }:=by
 have neL:∀b o,X.s₀.heap.get? b=some o->b≠X.env.locals:=λb o e=>Nat.ne_of_lt (Nat.lt_of_lt_of_le (Heap.lt_size e) I.ok.above);have neC:∀b o,X.s₀.heap.get? b=some o->b ∉ X.ex->b ∉ ch:=λb o e hx hb=>by
  rcases (hch b hb).1 with z | z
  ·exact hx z
  ·exact absurd (Nat.lt_of_lt_of_le (Heap.lt_size e) z) (Nat.lt_irrefl _)
 have cellK:∀x c,X.env.cells.lookup x=some c->∀v,s.heap.IsCell c v->h'.IsCell c v:=λx c e v ⟨o,ho,hd⟩=>by
  have nch:c ∉ ch:=λz=>(hch c z).2.2.1 x c e rfl;by_cases hc:c∈X.fs
  ·obtain ⟨sl,q⟩:=slot c o (I.cne x c e) hc nch ho (I.freeC x c e);exact ⟨_,q,hd⟩
  ·exact ⟨o,keep c o (I.cne x c e) hc nch ho (I.freeC x c e),hd⟩
 refine ⟨I.ok,I.os,hg,⟨λb o e n hb hx=>?_,λb o e n hb hx=>?_,λb o e n hx=>?_,λb o e hx=>?_,λb xs e=>tups b xs (I.base.tups b xs e),λb o xs e=>frzs b o xs (I.base.frzs b o xs e),λb ps e=>?_⟩,?_,λx c e=>?_,?_,λx c e=>?_,λp hp=>?_,hok,I.len⟩
 ·exact keep b o (neL b o e) hb (neC b o e hx) (I.base.keep b o e n hb hx) (I.base.free b o e n hx)
 ·obtain ⟨sl,e1⟩:=I.base.slot b o e n hb hx;obtain ⟨sl',e2⟩:=slot b _ (neL b o e) hb (neC b o e hx) e1 (I.base.free b o e n hx);exact ⟨sl',e2⟩
 ·obtain ⟨o',e1⟩:=I.base.there b o e hx;exact free b o' (neC b o e hx) e1 (I.base.free b o e n hx)
 ·obtain ⟨o',e1⟩:=I.base.there b o e hx;exact there b o' (neC b o e hx) e1
 ·obtain ⟨m1,e1⟩:=I.base.tbls b ps e;obtain ⟨m2,e2⟩:=tbls b _ e1;exact ⟨m1++m2,by rw [e2,Array.append_assoc]⟩
 ·obtain ⟨m,hn,hl⟩:=I.loc;refine ⟨m,ns m hn,λi x v e1 e2 e3=>?_⟩;obtain ⟨u,r,l⟩:=hl i x v e1 e2 e3;refine ⟨u,r,?_⟩;rcases l with l | ⟨k,c,e,z⟩
  ·exact .inl l
  ·exact .inr ⟨k,c,e,cellK x c e _ z⟩
 ·obtain ⟨v,z⟩:=I.cell x c e;exact ⟨v,cellK x c e v z⟩
 ·obtain ⟨m,⟨o,_,_,ho,_⟩,_⟩:=I.loc;exact free _ o (λz=>(hch _ z).2.1 rfl) ho I.free
 ·obtain ⟨v,o,ho,hd⟩:=I.cell x c e;exact free c o (λz=>(hch c z).2.2.1 x c e rfl) ho (I.freeC x c e)
 ·obtain ⟨e,n,ne,nf,d⟩:=I.pin p hp;have nch:p.1 ∉ ch:=λz=>(hch p.1 z).2.2.2 p hp rfl;exact ⟨keep p.1 p.2 ne nf nch e n,free p.1 p.2 nch e n,ne,nf,d⟩
theorem Inv.un {t':Nat}(I:Inv X qQ σ H s)(u:Un X.fs [] H H' s.heap h')(hok:HOk X.prog X.w H' h'):Inv X qQ σ H' { s with heap:=h',toks:=t' }:=by
 obtain ⟨m,⟨o,es,ep,ho,r⟩,_⟩:=id I.loc;obtain ⟨sl,hL⟩:=u.any ho I.free (by simp);exact I.step (g':=s.gens) (d':=s.drawn) (ch:=[]) (λ_ z=>nomatch z) (λb o _ hb _ e n=>u.keep b o e n hb (by simp)) (λb o _ hb _ e n=>u.slot b o e n hb (by simp)) (λb o _ e n=>u.free b o e n (by simp)) (λb o _ e=>u.there b o e (by simp)) u.tups u.frzs u.tbls (λm' hm=>by
  obtain ⟨o',es',ep',ho',r'⟩:=hm;rw [ho] at ho';cases ho';exact ⟨_,es',ep',hL,r'⟩) hok I.bare
theorem Inv.call {g':Array GenState}{t':Nat}{d':Drawn}{ch:List AD}(I:Inv X qQ σ H s)(u:Un (frs X.stack) ch H H' s.heap h')(hok:HOk X.prog X.w H' h')(hg:AllBare g')(hch:∀b∈ch,(b∈X.ex\/X.s₀.heap.objs.size<=b)/\b≠X.env.locals/\(∀x c,X.env.cells.lookup x=some c->c≠b)/\∀p∈X.pn++qQ,p.1≠b) :
  Inv X qQ σ H' { s with heap:=h',gens:=g',drawn:=d',toks:=t' }:=by
 obtain ⟨m,⟨o,es,ep,ho,r⟩,_⟩:=id I.loc;obtain ⟨sl,hL⟩:=u.any ho I.free λz=>(hch _ z).2.1 rfl;exact I.step (ch:=ch) hch (λb o hL hb hc e n=>u.keep b o e n (λz=>(List.mem_cons.mp (I.stkSub b z)).elim hL hb) hc) (λb o _ _ hc e n=>u.any e n hc) (λb o hc e n=>u.free b o e n hc) (λb o hc e=>u.there b o e hc) u.tups u.frzs u.tbls (λm' hm=>by
  obtain ⟨o',es',ep',ho',r'⟩:=hm;rw [ho] at ho';cases ho';exact ⟨_,es',ep',hL,r'⟩) hok hg
theorem Inv.turned {t':Nat}{it:AD}(I:Inv X qQ σ H s)(k:∀b o,b≠it->s.heap.get? b=some o->h'.get? b=some o)(hn:H it=none)(hL:it≠X.env.locals)(h1:it∈X.ex\/X.s₀.heap.objs.size<=it)(h2:∀x c,X.env.cells.lookup x=some c->c≠it)(h3:∀p∈X.pn++qQ,p.1≠it):Inv X qQ σ H { s with heap:=h',toks:=t' }:=by
 have nit:∀b u,H b=some u->b≠it:=λb u e z=>by rw [z,hn] at e;cases e
 refine I.step (g':=s.gens) (d':=s.drawn) (ch:=[it]) (λb hb=>?_) (λb o _ _ hc e _=>k b o (λz=>hc (by simp [z])) e) (λb o _ _ hc e _=>⟨o.slots,k b o (λz=>hc (by simp [z])) e⟩) (λ_ _ _ _ n=>n)
  (λb o hc e=>⟨o,k b o (λz=>hc (by simp [z])) e⟩) (λ_ _ e=>e) (λ_ _ _ e=>e) (λb ps e=>⟨#[],by rw [e];simp⟩) (λm hm=>?_) (λb u e=>?_) I.bare
 ·have e:b=it:=by simpa using hb
  subst e;exact ⟨h1,hL,h2,h3⟩
 ·obtain ⟨o,es,ep,ho,r⟩:=hm;exact ⟨o,es,ep,k _ o (Ne.symm hL) ho,r⟩
 ·refine (I.hok b u e).stay (λc v hc q=>k c v ?_ q) (λ_ q=>q) λ_ _ q=>q;rcases hc with z | z
  ·rw [z];exact nit b u e
  ·exact nit c _ z
theorem Inv.tok (I:Inv X qQ σ H s)(t:Nat):Inv X qQ σ H { s with toks:=t }:=I.un (h':=s.heap) (t':=t) Un.refl I.hok
theorem Inv.kept {t':Nat}(I:Inv X qQ σ H s)(k:∀b u,s.heap.get? b=some u->h'.get? b=some u):Inv X qQ σ H { s with heap:=h',toks:=t' }:=I.un (Un.kept k) (I.hok.kept k)
theorem Inv.laid {a:AD}{o:HO}{t':Nat}(I:Inv X qQ σ H s)(k:∀b u,s.heap.get? b=some u->h'.get? b=some u)(hp:s.heap.objs.size<=a)(new:ObjOk X.prog X.w (upd H a o) h' a o) :
  Inv X qQ σ (upd H a o) { s with heap:=h',toks:=t' }:=I.un (Un.laid k hp (I.hok.fresh hp)) (I.hok.laid k hp new)
theorem Inv.write {x e:AD}{o:HO}{t':Nat}(I:Inv X qQ σ H s)(mu:Mut (H x))(he:e=x\/H e=some (.own x))(k:∀b u,b≠e->s.heap.get? b=some u->h'.get? b=some u)(heo:∃u,h'.get? e=some u)(new:ObjOk X.prog X.w (upd H x o) h' x o):Inv X qQ σ (upd H x o) { s with heap:=h',toks:=t' }:=I.un (Un.write mu he k heo) (I.hok.write mu he k heo new)
theorem Inv.weak {σ':List (Option V)}(I:Inv X qQ σ H s)(hl:σ'.length=σ.length)(w:∀(i:Nat) v,σ'[i]?=some (some v)->σ[i]?=some (some v)):Inv X qQ σ' H s:=
 ⟨I.ok,I.os,I.bare,I.base,let ⟨m,hn,hl'⟩:=I.loc;⟨m,hn,λi x v e1 e2 e3=>hl' i x v e1 (w i v e2) e3⟩,I.cell,I.free,I.freeC,I.pin,I.hok,hl.trans I.len⟩
theorem Inv.pins_of {pins':List (AD×Obj)}(I:Inv X qQ σ H s)(h:∀p∈pins',s.heap.get? p.1=some p.2/\H p.1=none/\p.1≠X.env.locals/\p.1 ∉ X.fs/\∀v,p.2.data≠.cell v):Inv X pins' σ H s:=
 ⟨I.ok,I.os,I.bare,I.base,I.loc,I.cell,I.free,I.freeC,λp hp=>(List.mem_append.mp hp).elim (λz=>I.pin p (List.mem_append_left _ z)) (h p),I.hok,I.len⟩
theorem Yc {N:List Str}(hN:N.Nodup){i j:Nat}{x:Str}(a:N[i]?=some x)(b:N[j]?=some x):i=j:=by
 obtain ⟨h1,e1⟩:=List.getElem?_eq_some_iff.mp a;obtain ⟨h2,e2⟩:=List.getElem?_eq_some_iff.mp b;exact (List.getElem_inj hN).mp (e1.trans e2.symm)
theorem WH {M:Model}{A:Around}{E:Aa->SS->Prop}{i:Nat}{x:Str}{v:V}{u:Aa}{Q:Unit->SS->Prop}(I:Inv X qQ σ H s)(hN:X.N.Nodup)(hi:X.N[i]?=some x)(hx:Loc X.env.scope x)(r:RelV v u)(h:∀s',Inv X qQ (σ.set i (some v)) H s'->(∃a,Heap.SameBut a s.heap s'.heap/\(a=X.env.locals\/X.env.cells.lookup x=some a))->Q () s')(hf:X.fn x=true\/X.env.scope.names.lookup x=some .local:=by first | exact .inl rfl | exact .inr rfl | assumption):wpAny M A (storeName X.env x u) Q E s:=by
 obtain ⟨m,hn,hl⟩:=id I.loc;have hcls:(X.env.scope.kind == .class || (X.env.scope.kind == .module && X.env.locals != X.env.globals))=false:=by rw [I.ok.kind];rfl
 have hiσ:i<σ.length:=by rw [I.len];exact (List.getElem?_eq_some_iff.mp hi).1
 have cne:=I.cne;have tracked:∀{a:AD}{h':Heap},(∃o,s.heap.get? a=some o/\H a=none)->Heap.SameBut a s.heap h'->HOk X.prog X.w H h':=λ{a h'} ha hs b ob e=>by
  obtain ⟨_,_,hfree⟩:=ha;refine (I.hok b ob e).stay (λc w' hc q=>(hs.2 c ?_).trans q) (λ_ q=>q) λ_ _ q=>q;rintro rfl;rcases hc with rfl | hc
  ·rw [hfree] at e;cases e
  ·rw [hfree] at hc;cases hc
 rcases hx with hk | hk
 ·refine wpAny_storeName_local hk hn (λh' hn' hs=>?_) hcls;obtain ⟨oL,_,_,hoL,_⟩:=id hn;refine h _ ⟨I.ok,I.os,I.bare,⟨λb o e n hb hx=>?_,λb o e n hb hx=>?_,I.base.free,λb o e hx=>?_,I.base.tups,I.base.frzs,I.base.tbls⟩,⟨_,hn',λj y v' e1 e2 e3=>?_⟩,λy c e=>?_,I.free,I.freeC,λp hp=>?_,tracked ⟨oL,hoL,I.free⟩ hs,by simpa using I.len⟩ ⟨_,hs,.inl rfl⟩
  ·exact (hs.2 b (Nat.ne_of_lt (Nat.lt_of_lt_of_le (Heap.lt_size e) I.ok.above))).trans (I.base.keep b o e n hb hx)
  ·obtain ⟨sl,e1⟩:=I.base.slot b o e n hb hx;exact ⟨sl,(hs.2 b (Nat.ne_of_lt (Nat.lt_of_lt_of_le (Heap.lt_size e) I.ok.above))).trans e1⟩
  ·obtain ⟨o',e1⟩:=I.base.there b o e hx;exact ⟨o',(hs.2 b (Nat.ne_of_lt (Nat.lt_of_lt_of_le (Heap.lt_size e) I.ok.above))).trans e1⟩
  ·by_cases hj:j=i
   ·subst hj;rw [hi] at e1;cases e1;rw [List.getElem?_set_self hiσ] at e2;cases e2;exact ⟨u,r,.inl ⟨hk,by simp⟩⟩
   ·rw [List.getElem?_set_ne (Ne.symm hj)] at e2;obtain ⟨u',r',q⟩:=hl j y v' e1 e2 e3;refine ⟨u',r',?_⟩;rcases q with ⟨k,e⟩ | ⟨k,c,e,z⟩
    ·refine .inl ⟨k,?_⟩;have:y≠x:=λe=>hj (Yc hN e1 (e▸hi));simp [this,e]
    ·exact .inr ⟨k,c,e,z.sameBut hs (cne y c e)⟩
  ·obtain ⟨w',z⟩:=I.cell y c e;exact ⟨w',z.sameBut hs (cne y c e)⟩
  ·obtain ⟨e,n,ne,nf,d⟩:=I.pin p hp;exact ⟨(hs.2 p.1 ne).trans e,n,ne,nf,d⟩
 ·have hfn:X.fn x=true:=by
   rcases hf with z | z
   ·exact z
   ·rw [z] at hk;cases hk
  obtain ⟨c,hc⟩:=I.ok.has x (.inl hk);obtain ⟨w',z⟩:=I.cell x c hc;refine wpAny_storeName_cell I.ok.kind hk hc z (λh' hc' hs=>?_);obtain ⟨oc,hoc,hocd⟩:=id z;refine h { s with heap:=h' } ⟨I.ok,I.os,I.bare,⟨λb o e n hb hx=>?_,λb o e n hb hx=>?_,I.base.free,λb o e hx=>?_,I.base.tups,I.base.frzs,I.base.tbls⟩,⟨m,hn.sameBut hs (Ne.symm (cne x c hc)),λj y v' e1 e2 e3=>?_⟩,λy c' e=>?_,I.free,I.freeC,λp hp=>?_,tracked ⟨oc,hoc,I.freeC x c hc⟩ hs,by simpa using I.len⟩ ⟨c,hs,.inr hc⟩
  ·exact (hs.2 b (Nat.ne_of_lt (Nat.lt_of_lt_of_le (Heap.lt_size e) (I.ok.cab x c hfn hc)))).trans (I.base.keep b o e n hb hx)
  ·obtain ⟨sl,e1⟩:=I.base.slot b o e n hb hx;exact ⟨sl,(hs.2 b (Nat.ne_of_lt (Nat.lt_of_lt_of_le (Heap.lt_size e) (I.ok.cab x c hfn hc)))).trans e1⟩
  ·obtain ⟨o',e1⟩:=I.base.there b o e hx;exact ⟨o',(hs.2 b (Nat.ne_of_lt (Nat.lt_of_lt_of_le (Heap.lt_size e) (I.ok.cab x c hfn hc)))).trans e1⟩
  ·by_cases hj:j=i
   ·subst hj;rw [hi] at e1;cases e1;rw [List.getElem?_set_self hiσ] at e2;cases e2;exact ⟨u,r,.inr ⟨.inl hk,c,hc,hc'⟩⟩
   ·rw [List.getElem?_set_ne (Ne.symm hj)] at e2;obtain ⟨u',r',q⟩:=hl j y v' e1 e2 e3;refine ⟨u',r',?_⟩;rcases q with q | ⟨k,c',e,z'⟩
    ·exact .inl q
    ·refine .inr ⟨k,c',e,z'.sameBut hs ?_⟩;rintro rfl;exact hj (Yc hN e1 (I.ok.inj _ _ _ e hc▸hi))
  ·by_cases hcc:c'=c
   ·subst hcc;exact ⟨_,hc'⟩
   ·obtain ⟨w2,z2⟩:=I.cell y c' e;exact ⟨w2,z2.sameBut hs hcc⟩
  ·obtain ⟨e,n,ne,nf,d⟩:=I.pin p hp;refine ⟨(hs.2 p.1 ?_).trans e,n,ne,nf,d⟩;intro q;rw [q,hoc] at e;have q':oc=p.2:=Option.some.inj e;exact d w' (by rw [<-q'];exact hocd)
theorem Yd {M:Model}{A:Around}{E:Aa->SS->Prop}{i:Nat}{x:Str}{v:V}{u:Aa}{Q:Unit->SS->Prop}(I:Inv X qQ σ H s)(hN:X.N.Nodup)(hi:X.N[i]?=some x)(hx:Loc X.env.scope x)(r:RelV v u)(h:∀s',Inv X qQ (σ.set i (some v)) H s'->Q () s')(hf:X.fn x=true\/X.env.scope.names.lookup x=some .local:=by first | exact .inl rfl | exact .inr rfl | assumption):wpAny M A (storeName X.env x u) Q E s:=
 WH I hN hi hx r (λs' I' _=>h s' I') hf
theorem Inv.call' {s':SS}{ch:List AD}(I:Inv X qQ σ H s)(ho:s'.os=s.os)(u:Un (frs X.stack) ch H H' s.heap s'.heap)(hok:HOk X.prog X.w H' s'.heap)(hg:AllBare s'.gens)(hch:∀b∈ch,(b∈X.ex\/X.s₀.heap.objs.size<=b)/\b≠X.env.locals/\(∀x c,X.env.cells.lookup x=some c->c≠b)/\∀p∈X.pn++qQ,p.1≠b):Inv X qQ σ H' s':=by
 obtain ⟨h',g',d',t',o'⟩:=s';have e:o'=s.os:=ho;subst e;exact I.call (g':=g') (t':=t') (d':=d') u hok hg hch
end
abbrev XK:=Aa->Option AD->Hp->Prop
abbrev St:=List (Option V)
abbrev VK:=V->Hp->Prop
abbrev TE:=St->Hp->VK->Prop
abbrev TT:=St->Hp->(Bool->Hp->Prop)->Prop
abbrev TA:=St->Hp->(List V->Hp->Prop)->Prop
structure Ends where
 nx:St->Hp->Prop
 rt:VK
 bk:St->Hp->Prop:=λ_ _=>False
 ct:St->Hp->Prop:=λ_ _=>False
abbrev TS:=Ends->St->Hp->Prop
def EP (X:Cx)(qQ:List (AD×Obj))(σ:St)(Q:VK)(u:Aa)(s':SS):Prop:=∃v H',Inv X qQ σ H' s'/\RelV v u/\Q v H'
def TP (X:Cx)(qQ:List (AD×Obj))(σ:St)(Q:Bool->Hp->Prop)(b:Bool)(s':SS):Prop:=∃H',Inv X qQ σ H' s'/\Q b H'
def AP (X:Cx)(qQ:List (AD×Obj))(σ:St)(Q:List V->Hp->Prop)(us:LW)(s':SS):Prop:=∃vs H',Inv X qQ σ H' s'/\Vals vs us/\Q vs H'
def SP (X:Cx)(qQ:List (AD×Obj))(D:Ends)(f:Flow)(s':SS):Prop:=
 match f with
 | .next=>∃ σ' H',Inv X qQ σ' H' s'/\D.nx σ' H'
 | .brk=>∃ σ' H',Inv X qQ σ' H' s'/\D.bk σ' H'
 | .cont=>∃ σ' H',Inv X qQ σ' H' s'/\D.ct σ' H'
 | .ret u=>∃v σ' H',Inv X qQ σ' H' s'/\RelV v u/\D.rt v H'
def PE (X:Cx)(e:Expr)(t:TE):Prop:=
 ∀(qQ:List (AD×Obj))(s:SS)(σ:St)(H:Hp)(Q:VK),Inv X qQ σ H s->t σ H Q->wpAny (model X.prog X.w) X.A (eval e X.env) (EP X qQ σ Q) X.xe s
def PT (X:Cx)(e:Expr)(t:TT):Prop:=
 ∀(qQ:List (AD×Obj))(s:SS)(σ:St)(H:Hp)(Q:Bool->Hp->Prop),Inv X qQ σ H s->t σ H Q->wpAny (model X.prog X.w) X.A (isTrue e X.env (eval e X.env)) (TP X qQ σ Q) X.xe s
def PW (X:Cx)(e:Expr)(t:TT):Prop:=
 ∀(whole:Sem Aa)(qQ:List (AD×Obj))(s:SS)(σ:St)(H:Hp)(Q:Bool->Hp->Prop),Inv X qQ σ H s->t σ H Q->wpAny (model X.prog X.w) X.A (isTrue e X.env whole) (TP X qQ σ Q) X.xe s
theorem PW.pt {X:Cx}{e:Expr}{t:TT}(h:PW X e t):PT X e t:=h _
def PA (X:Cx)(es:List Expr)(t:TA):Prop:=
 ∀(pos:Pos)(qQ:List (AD×Obj))(s:SS)(σ:St)(H:Hp)(Q:List V->Hp->Prop),Inv X qQ σ H s->t σ H Q->wpAny (model X.prog X.w) X.A (spliced (backTo pos (starEach es X.env))) (AP X qQ σ Q) X.xe s
def PS (X:Cx)(st:Stmt)(t:TS):Prop:=
 ∀(qQ:List (AD×Obj))(s:SS)(σ:St)(H:Hp)(D:Ends),Inv X qQ σ H s->t D σ H->wpAny (model X.prog X.w) X.A (exec st X.env) (SP X qQ D) X.xe s
def PSs (X:Cx)(st:List Stmt)(t:TS):Prop:=
 ∀(qQ:List (AD×Obj))(s:SS)(σ:St)(H:Hp)(D:Ends),Inv X qQ σ H s->t D σ H->wpAny (model X.prog X.w) X.A (execs st X.env) (SP X qQ D) X.xe s
theorem thn {α:Type}{t:Sem α}{Q Q':α->SS->Prop}{M:Model}{A:Around}{E:Aa->SS->Prop}{s:SS}(h:wpAny M A t Q E s)(hQ:∀a s,Q a s->Q' a s):wpAny M A t Q' E s:=wpAny_mono h hQ λ_ _ x=>x
end L2
namespace L2
open PySem PySem.Spec PyProof.Rows
section
variable {X:Cx}
def ZgV (i:Nat):TE:=λσ H Q=>∃v,σ[i]?=some (some v)/\Q v H
def tC (v:V):TE:=λ_ H Q=>Q v H
theorem Zen {i:Nat}{x:Str}{pos:Pos}(hN:X.N[i]?=some x)(hv:Vis X.env.scope x)(hd:(x == ("__debug__" : Str))=false:=by decide)(hcd:(x == ("__classdict__" : Str))=false:=by decide):PE X (.Name x pos) (ZgV i):=by
 intro qQ s σ H Q I h;obtain ⟨v,e,h⟩:=h;obtain ⟨m,hn,hl⟩:=I.loc;obtain ⟨u,r,l⟩:=hl i x v hN e hv;have fin:EP X qQ σ Q u s:=⟨v,H,I,r,h⟩;rcases l with ⟨hk,hm⟩ | ⟨hk,c,hc,jX⟩
 ·exact wpAny_Name (wpAny_loadName_local I.ok.kind hk hn hm fin) hd
 ·rcases hk with hk | hk
  ·exact wpAny_Name (wpAny_loadName_cell I.ok.kind hk hc jX fin) hd
  ·exact wpAny_Name (wpAny_loadName_free I.ok.kind hk hc jX fin hcd) hd
theorem Gg {i j pos}:PE X (.Constant (.int i) j pos) (tC (.int i)):=λ_ _ _ H _ I h=>wpAny_Constant_int ⟨.int i,H,I.tok _,⟨_,rfl⟩,h⟩
theorem WI {b j pos}:PE X (.Constant (.bool b) j pos) (tC (.bl b)):=λ_ _ _ H _ I h=>Constant_bool ⟨.bl b,H,I,rfl,h⟩
theorem JP {j pos}:PE X (.Constant .none j pos) (tC .non):=λ_ _ _ H _ I h=>Constant_none ⟨.non,H,I,rfl,h⟩
theorem Ye {x j pos}:PE X (.Constant (.str x) j pos) (tC (.str x)):=λ_ _ _ H _ I h=>Calls.Constant_str ⟨.str x,H,I.tok _,⟨_,rfl⟩,h⟩
def Gl (X:Cx)(x:Str):Prop:=X.env.kindOf x=some .globalImplicit
theorem XA {E:Aa->SS->Prop}{qQ:List (AD×Obj)}{s:SS}{σ:St}{H:Hp}{x:Str}{u:Aa}{pos:Pos}{Q:Aa->SS->Prop}(I:Inv X qQ σ H s)(hg:Gl X x)(hm:X.mg x=some u)(h:Q u s)(hd:(x == ("__debug__" : Str))=false:=by decide):wpAny (model X.prog X.w) X.A (eval (.Name x pos) X.env) Q E s:=
 Calls.Name_function_global I.ok.kind hg (Calls.loadGlobal_global (by rw [I.ok.glob];exact I.mod.glob.keeps I.bk) hm h) hd
theorem Vt {E:Aa->SS->Prop}{qQ:List (AD×Obj)}{s:SS}{σ:St}{H:Hp}{x:Str}{u:Aa}{pos:Pos}{Q:Aa->SS->Prop}(I:Inv X qQ σ H s)(hg:Gl X x)(hm:X.mg x=none)(hv:bootBuiltins x=some u)(h:Q u s)(hn:x ≠ "__name__" := by decide)(hd:(x == ("__debug__" : Str))=false:=by decide):wpAny (model X.prog X.w) X.A (eval (.Name x pos) X.env) Q E s:=by
 obtain ⟨mb,h1,h2⟩:=I.mod.blt;exact Calls.Name_function_global I.ok.kind hg (Calls.loadGlobal_builtin (by rw [I.ok.glob];exact I.mod.glob.keeps I.bk) hm (by rw [I.ok.blt];exact h1.keeps I.bk) ((h2 x hn).trans hv) h) hd
theorem GZ {x:Str}{v:V}{u:Aa}{pos:Pos}(hg:Gl X x)(hm:X.mg x=some u)(r:RelV v u)(hd:(x == ("__debug__" : Str))=false:=by decide):PE X (.Name x pos) (tC v):=
 λ_ _ _ H _ I h=>XA I hg hm ⟨v,H,I,r,h⟩ hd
variable {a b:Expr}{ta tb:TE}{pos:Pos}
def PC (X:Cx)(op:CmpOp)(a b:Expr)(t:TE):Prop:=
 ∀(qQ:List (AD×Obj))(s:SS)(σ:St)(H:Hp)(Q:VK),Inv X qQ σ H s->t σ H Q ->
  wpAny (model X.prog X.w) X.A (eval a X.env) (λv s₁=>wpAny (model X.prog X.w) X.A (eval b X.env) (λu s₂=>wpAny (model X.prog X.w) X.A (compareOp op v u) (EP X qQ σ Q) X.xe s₂) X.xe s₁) X.xe s
def tB (t:TE):TT:=λσ H Q=>t σ H λx H1=>∃c,x=.bl c/\Q c H1
theorem ZcO {op:CmpOp}{t:TE}(h:PC X op a b t)(h1:behindInMarks op b=false:=by first | exact nobehind _ (by decide) (by decide) | rfl):PT X (.Compare a [op] [b] pos) (tB t):=by
 intro qQ s σ H Q I hw;refine wpAny_isTrue_Compare1 (thn (h qQ s σ H _ I hw) λv s1 h1=>thn h1 λu s2 h2=>thn h2 λc s3 ⟨x,H1,I1,r1,q1⟩=>?_) h1;obtain ⟨d,rfl,q⟩:=q1;cases r1;exact wpAny_truthy_bool ⟨H1,I1,q⟩
theorem Oa {e:Expr}{t:TE}(h:PE X e t)(he:∀whole,isTrue e X.env whole=(do let v <- whole;standAt e.pos;holding [v] (truthy v)):=by intro _;rfl):PT X e (tB t):=by
 intro qQ s σ H Q I hw;refine isTrue_plain (thn (h qQ s σ H _ I hw) λv s1 ⟨x,H1,I1,r1,q1⟩=>?_) (he _);obtain ⟨d,rfl,q⟩:=q1;cases r1;exact wpAny_truthy_bool ⟨H1,I1,q⟩
variable {tA tB':TT}{rest:List Expr}
def Zhn (t u:TT):TT:=λσ H Q=>t σ H λc H1=>if c=true then u σ H1 Q else Q false H1
def tOr (t u:TT):TT:=λσ H Q=>t σ H λc H1=>if c=true then Q true H1 else u σ H1 Q
def Zho (t:TT):TT:=λσ H Q=>t σ H λc H1=>Q (!c) H1
theorem OI (ha:PT X a tA):PW X (.BoolOp .And [a] pos) tA:=by
 intro wh qQ s σ H Q I h;refine isTrue_and (thn (ha qQ s σ H Q I h) λc s1 e=>?_);cases c with
 | true=>exact isTrue_and_nil e
 | false=>exact e
theorem WJ (ha:PT X a tA):PW X (.BoolOp .Or [a] pos) tA:=by
 intro wh qQ s σ H Q I h;refine isTrue_or (thn (ha qQ s σ H Q I h) λc s1 e=>?_);cases c with
 | false=>exact isTrue_or_nil e
 | true=>exact e
theorem UW (ha:PT X a tA)(hb:PW X (.BoolOp .And (b::rest) pos) tB'):PW X (.BoolOp .And (a::b::rest) pos) (Zhn tA tB'):=by
 intro wh qQ s σ H Q I h;refine isTrue_and (thn (ha qQ s σ H _ I h) λc s1 ⟨H1,I1,q1⟩=>?_);cases c with
 | true=>exact hb wh qQ s1 σ H1 Q I1 q1
 | false=>exact ⟨H1,I1,q1⟩
theorem WK (ha:PT X a tA)(hb:PW X (.BoolOp .Or (b::rest) pos) tB'):PW X (.BoolOp .Or (a::b::rest) pos) (tOr tA tB'):=by
 intro wh qQ s σ H Q I h;refine isTrue_or (thn (ha qQ s σ H _ I h) λc s1 ⟨H1,I1,q1⟩=>?_);cases c with
 | true=>exact ⟨H1,I1,q1⟩
 | false=>exact hb wh qQ s1 σ H1 Q I1 q1
theorem ON (ha:PT X a tA):PT X (.UnaryOp .Not a pos) (Zho tA):=by
 intro qQ s σ H Q I h;exact isTrue_not (ha qQ s σ H (λc H1=>Q (!c) H1) I h)
def Zhp (ta tb:TE):TE:=λσ H Q=>ta σ H λx H1=>∃c,x=.bl c/\if c=true then Q (.bl true) H1 else tb σ H1 Q
theorem ZcP {op}{t:TE}(h:PE X a t):PE X (.BoolOp op [a] pos) t:=λqQ s σ H Q I hw=>BoolOp_one (h qQ s σ H Q I hw)
theorem Zeo (ha:PE X a ta)(hb:PE X (.BoolOp .Or (b::rest) pos) tb):PE X (.BoolOp .Or (a::b::rest) pos) (Zhp ta tb):=by
 intro qQ s σ H Q I h;refine BoolOp_or (thn (ha qQ s σ H _ I h) λv s1 ⟨x,H1,I1,r1,q1⟩=>?_);obtain ⟨c,rfl,q1⟩:=q1;cases r1;refine wpAny_truthy_bool ?_;cases c with
 | false=>exact hb qQ s1 σ H1 Q I1 q1
 | true=>exact ⟨.bl true,H1,I1,rfl,q1⟩
def tIf (t:TT)(ta tb:TE):TE:=λσ H Q=>t σ H λc H1=>if c=true then ta σ H1 Q else tb σ H1 Q
theorem JY {c:Expr}(hc:PT X c tA)(ha:PE X a ta)(hb:PE X b tb):PE X (.IfExp c a b pos) (tIf tA ta tb):=by
 intro qQ s σ H Q I h;refine wpAny_IfExp (thn (hc qQ s σ H _ I h) λd s1 ⟨H1,I1,q1⟩=>?_);cases d with
 | true=>exact ha qQ s1 σ H1 Q I1 q1
 | false=>exact hb qQ s1 σ H1 Q I1 q1
end
end L2
namespace L2
open PySem PySem.Spec PyProof.Rows
def SqL (K:FF)(H:Hp)(a:AD)(xs:List V):Prop:=
 Rd H a (.lst xs) \/
  ∃(o:Obj)(its:Array Aa)(n:Nat),K.lookup a=some o/\o.cls=.type "list" /\ o.dict=none/\o.data=.seq its n/\its.size<=sizeLine/\Vals xs its.toList
def SqT (K:FF)(H:Hp)(a:AD)(xs:List V):Prop:=
 Rd H a (.tup xs) \/
  ∃(o:Obj)(its:Array Aa)(n:Nat),K.lookup a=some o/\o.cls=.type "tuple" /\ o.data=.seq its n/\its.size<=sizeLine/\Vals xs its.toList
def Zhq:Aa->Option V
 | .none=>some .non
 | .bool b=>some (.bl b)
 | .int i _=>some (.int i)
 | .str x _=>some (.str x)
 | .bytes b _=>some (.byt b)
 | .float b _=>some (.flt b)
 | .ref a=>some (.ref a)
 | .type n=>some (.ty n)
 | _=>none
theorem RelV.abs {x:V}{u:Aa}(r:RelV x u):Zhq u=some x:=by
 cases x with
 | non=>cases r;rfl
 | bl _=>cases r;rfl
 | int _=>obtain ⟨t,rfl⟩:=r;rfl
 | str _=>obtain ⟨t,rfl⟩:=r;rfl
 | byt _=>obtain ⟨t,rfl⟩:=r;rfl
 | flt _=>obtain ⟨t,rfl⟩:=r;rfl
 | ref _=>cases r;rfl
 | ty _=>cases r;rfl
theorem RelV.inj {x y:V}{u:Aa}(r:RelV x u)(q:RelV y u):x=y:=Option.some.inj (r.abs.symm.trans q.abs)
theorem Vals.inj:∀{xs ys:List V}{us:LW},Vals xs us->Vals ys us->xs=ys
 | _,_,_,.nil,.nil=>rfl
 | _,_,_,.cons r t,.cons r' t'=>by rw [r.inj r',Vals.inj t t']
section
variable {X:Cx}{qQ:List (AD×Obj)}{σ:St}{H:Hp}{s:SS}{a:AD}{xs ys:List V}
theorem SqL.of {K:FF}(h:H a=some (.lst xs)):SqL K H a xs:=.inl (.inl h)
theorem SqT.of {K:FF}(h:H a=some (.tup xs)):SqT K H a xs:=.inl (.inl h)
theorem Inv.list (I:Inv X qQ σ H s)(h:SqL X.K H a xs):∃its:LW,Vals xs its/\PlainL s.heap a its.toArray/\xs.length<=sizeLine:=by
 rcases h with h | ⟨o,its,n,hk,hc,hd,hs,hz,r⟩
 ·obtain ⟨z,its,n,r,e⟩:=h.ok I.hok;exact ⟨its,r,⟨_,n,e,rfl,rfl,rfl⟩,z⟩
 ·refine ⟨its.toList,r,⟨o,n,I.kIn a o hk,hc,hd,by simpa using hs⟩,?_⟩;have e:=r.length;simp only [Array.length_toList] at e
  lia
theorem Inv.tuple (I:Inv X qQ σ H s)(h:SqT X.K H a xs):∃its:LW,Vals xs its/\IsTup s.heap a its.toArray/\xs.length<=sizeLine:=by
 rcases h with h | ⟨o,its,n,hk,hc,hs,hz,r⟩
 ·obtain ⟨z,its,r,p⟩:=h.ok I.hok;exact ⟨its,r,p,z⟩
 ·refine ⟨its.toList,r,⟨o,I.kIn a o hk,hc,n,by simpa using hs⟩,?_⟩;have e:=r.length;simp only [Array.length_toList] at e
  lia
theorem Inv.list_inj (I:Inv X qQ σ H s)(h:SqL X.K H a xs)(h':SqL X.K H a ys):xs=ys:=by
 obtain ⟨its,r,⟨o,n,e,_,_,d⟩,_⟩:=I.list h;obtain ⟨its',r',⟨o',n',e',_,_,d'⟩,_⟩:=I.list h';rw [e] at e';cases e';rw [d] at d';injection d' with d1 _
 have:its=its':=by simpa using congrArg Array.toList d1
 subst this;exact r.inj r'
theorem Inv.tuple_inj (I:Inv X qQ σ H s)(h:SqT X.K H a xs)(h':SqT X.K H a ys):xs=ys:=by
 obtain ⟨its,r,⟨o,e,_,n,d⟩,_⟩:=I.tuple h;obtain ⟨its',r',⟨o',e',_,n',d'⟩,_⟩:=I.tuple h';rw [e] at e';cases e';rw [d] at d';injection d' with d1 _
 have:its=its':=by simpa using congrArg Array.toList d1
 subst this;exact r.inj r'
end
abbrev Cx.wish (X:Cx)(E:Aa->SS->Prop):Cx:={ X with xe:=E }
abbrev Cx.nox (X:Cx):Cx:=X.wish λ_ _=>False
theorem Cx.Ok.wish {X:Cx}(ok:X.Ok)(E:Aa->SS->Prop):(X.wish E).Ok:=
 ⟨ok.mod,ok.kind,ok.glob,ok.blt,ok.above,ok.inj,ok.has,ok.cab,ok.hd,ok.frames,ok.stk,ok.exf,ok.bs,ok.bsz,ok.noex,ok.exfs,ok.funs,ok.frf⟩
theorem Cx.Ok.unwish {X:Cx}{E:Aa->SS->Prop}(ok:(X.wish E).Ok):X.Ok:=
 ⟨ok.mod,ok.kind,ok.glob,ok.blt,ok.above,ok.inj,ok.has,ok.cab,ok.hd,ok.frames,ok.stk,ok.exf,ok.bs,ok.bsz,ok.noex,ok.exfs,ok.funs,ok.frf⟩
section
variable {X:Cx}{qQ:List (AD×Obj)}{σ:St}{H:Hp}{s:SS}{E:Aa->SS->Prop}
theorem Inv.wish (I:Inv X qQ σ H s)(E:Aa->SS->Prop):Inv (X.wish E) qQ σ H s:=⟨I.ok.wish E,I.os,I.bare,I.base,I.loc,I.cell,I.free,I.freeC,I.pin,I.hok,I.len⟩
theorem Inv.unwish (I:Inv (X.wish E) qQ σ H s):Inv X qQ σ H s:=⟨I.ok.unwish,I.os,I.bare,I.base,I.loc,I.cell,I.free,I.freeC,I.pin,I.hok,I.len⟩
theorem SP.unwish {D:Ends}{f:Flow}{s':SS}(h:SP (X.wish E) qQ D f s'):SP X qQ D f s':=by
 cases f with
 | next=>obtain ⟨σ',H',I,q⟩:=h;exact ⟨σ',H',I.unwish,q⟩
 | brk=>obtain ⟨σ',H',I,q⟩:=h;exact ⟨σ',H',I.unwish,q⟩
 | cont=>obtain ⟨σ',H',I,q⟩:=h;exact ⟨σ',H',I.unwish,q⟩
 | ret u=>obtain ⟨v,σ',H',I,r,q⟩:=h;exact ⟨v,σ',H',I.unwish,r,q⟩
theorem PSs.nox {st:List Stmt}{t:TS}(h:PSs X.nox st t):PSs X st t:=λqQ s σ H D I hw=>
 wpAny_mono (h qQ s σ H D (I.wish _) hw) (λ_ _ q=>q.unwish) λ_ _ z=>False.elim z
end
section
variable {X:Cx}{st:Stmt}{rest:List Stmt}{t u:TS}{e:Expr}{te:TE}{pos:Pos}
def ZbI:TS:=λD σ H=>D.nx σ H
def ZgW (t u:TS):TS:=λD σ H=>t { D with nx:=u D } σ H
theorem GA:PSs X [] ZbI:=λ_ _ σ H _ I h=>wpAny_execs_nil ⟨σ,H,I,h⟩
theorem Gc (h1:PS X st t)(h2:PSs X rest u):PSs X (st::rest) (ZgW t u):=by
 intro qQ s σ H D I h;refine wpAny_execs_cons (thn (h1 qQ s σ H { D with nx:=u D } I h) λf s1 q=>?_);cases f with
 | next=>
  obtain ⟨σ',H',I',q⟩:=q;exact h2 qQ s1 σ' H' D I' q
 | ret v=>exact q
 | brk=>exact q
 | cont=>exact q
theorem Ge (h1:PS X st t):PSs X [st] t:=by
 intro qQ s σ H D I h;refine wpAny_execs_cons (thn (h1 qQ s σ H D I h) λf s1 q=>?_);cases f with
 | next=>exact wpAny_execs_nil q
 | ret v=>exact q
 | brk=>exact q
 | cont=>exact q
theorem Inv.quiet {qQ:List (AD×Obj)}{σ:St}{H:Hp}{s:SS}(I:Inv X qQ σ H s):interactive X.env=false:=by simp [interactive,I.ok.kind]
def ZfP (te:TE):TS:=λD σ H=>te σ H λ_ H1=>D.nx σ H1
theorem Jo (he:PE X e te)(hs:swapsWith e none pos.line X.env=pure false:=by rfl):PS X (.Expr e pos) (ZfP te):=by
 intro qQ s σ H D I h;exact wpAny_Expr_any (thn (he qQ s σ H _ I h) λv s1 ⟨x,H1,I1,r1,q1⟩=>⟨σ,H1,I1,q1⟩) I.quiet hs
def Zhr (te:TE):TS:=λD σ H=>te σ H D.rt
theorem Gn (he:PE X e te):PS X (.Return (some e) pos) (Zhr te):=by
 intro qQ s σ H D I h;exact wpAny_Return_some (thn (he qQ s σ H _ I h) λv s1 ⟨x,H1,I1,r1,q1⟩=>⟨x,σ,H1,I1,r1,q1⟩)
def Zhs (c:TT)(t u:TS):TS:=λD σ H=>c σ H λb H1=>if b=true then t D σ H1 else u D σ H1
theorem Jd {c:Expr}{a b:List Stmt}{tc:TT}(hc:PT X c tc)(ha:PSs X a t)(hb:PSs X b u):PS X (.If c a b pos) (Zhs tc t u):=by
 intro qQ s σ H D I h;refine wpAny_If (thn (hc qQ s σ H _ I h) λd s1 ⟨H1,I1,q1⟩=>?_);cases d with
 | true=>exact ha qQ s1 σ H1 D I1 q1
 | false=>exact hb qQ s1 σ H1 D I1 q1
end
abbrev TG:=V->St->Hp->(St->Hp->Prop)->Prop
abbrev TGs:=List V->St->Hp->(St->Hp->Prop)->Prop
def PG (X:Cx)(qU:Expr)(t:TG):Prop:=
 ∀(qQ:List (AD×Obj))(s:SS)(σ:St)(H:Hp)(v:V)(u:Aa)(Q:St->Hp->Prop),Inv X qQ σ H s->RelV v u->t v σ H Q ->
  wpAny (model X.prog X.w) X.A (assign qU X.env u) (λ_ s'=>∃ σ' H',Inv X qQ σ' H' s'/\Q σ' H') X.xe s
def PGs (X:Cx)(ts:List Expr)(t:TGs):Prop:=
 ∀(qQ:List (AD×Obj))(s:SS)(σ:St)(H:Hp)(vs:List V)(us:LW)(Q:St->Hp->Prop),Inv X qQ σ H s->Vals vs us->t vs σ H Q ->
  wpAny (model X.prog X.w) X.A (assignInOrder ((assignEach ts X.env).map (·.2)) us) (λ_ s'=>∃ σ' H',Inv X qQ σ' H' s'/\Q σ' H') X.xe s
abbrev ZfQ:=V->V->V->Hp->(Hp->Prop)->Prop
def ZgX (X:Cx)(t:ZfQ):Prop:=
 ∀(qQ:List (AD×Obj))(s:SS)(σ:St)(H:Hp)(o i v:V)(ov iv u:Aa)(Q:Hp->Prop),Inv X qQ σ H s->RelV o ov->RelV i iv->RelV v u->t o i v H Q ->
  wpAny (model X.prog X.w) X.A (setItem ov iv u) (λ_ s'=>∃H',Inv X qQ σ H' s'/\Q H') X.xe s
section
variable {X:Cx}{pos:Pos}
def GL (i:Nat):TG:=λv σ H Q=>Q (σ.set i (some v)) H
theorem Gi {i:Nat}{x:Str}(hN:X.N.Nodup)(hi:X.N[i]?=some x)(hx:Loc X.env.scope x)(hf:X.fn x=true\/X.env.scope.names.lookup x=some .local:=by first | exact .inl rfl | exact .inr rfl | assumption):PG X (.Name x pos) (GL i):=by
 intro qQ s σ H v u Q I r h;exact wpAny_assign_Name (Yd I hN hi hx r (λs' I'=>⟨_,H,I',h⟩) hf)
def Zht:TGs:=λvs σ H Q=>vs=[]/\Q σ H
def ZfR (t:TG)(u:TGs):TGs:=λvs σ H Q=>∃v r,vs=v::r/\t v σ H λσ' H'=>u r σ' H' Q
theorem Jy:PGs X [] Zht:=by
 intro qQ s σ H vs us Q I r h;obtain ⟨e,h⟩:=h;subst e;cases r;exact assignInOrder_nil ⟨σ,H,I,h⟩
theorem Gv {e:Expr}{es:List Expr}{t:TG}{u:TGs}(h1:PG X e t)(h2:PGs X es u)(hs:(assignEach (e::es) X.env).map (·.2)=assign e X.env::(assignEach es X.env).map (·.2):=by rfl):PGs X (e::es) (ZfR t u):=by
 intro qQ s σ H vs us Q I r h;obtain ⟨v,vr,e1,h⟩:=h;subst e1;cases r with
 | cons r rr=>
  rw [hs];refine assignInOrder_cons (thn (h1 qQ s σ H _ _ _ I r h) λ_ s1 ⟨σ1,H1,I1,q1⟩=>?_);exact h2 qQ s1 σ1 H1 _ _ Q I1 rr q1
def ZgY (K:FF)(n:Nat)(t:TGs):TG:=λv σ H Q=>∃a xs,v=.ref a/\SqT K H a xs/\xs.length=n/\t xs σ H Q
theorem Zep {es:List Expr}{k:Nat}{t:TGs}{n:Nat}(hc:X.calm=true)(h:PGs X es t)(hn:(assignEach es X.env).length=n:=by rfl)(hst:(assignEach es X.env).findIdx? (·.1)=none:=by rfl):PG X (.Tuple es k pos) (ZgY X.K n t):=by
 intro qQ s σ H v u Q I r hw;obtain ⟨a,xs,e1,hq,hl,hw⟩:=hw;subst e1;cases r;obtain ⟨its,rv,ht,hz⟩:=I.tuple hq;refine assign_Tuple_tuple (I.ok.hd hc) ht (by simp [hn,<-hl,rv.length]) hst λh' hx=>?_;have I1:Inv X qQ σ H { s with heap:=h' }:=I.kept (t':=s.toks) λb o e=>hx b o (Nat.ne_of_lt (Heap.lt_size e)) e;exact h qQ _ σ H xs _ Q I1 (by simpa using rv) hw
def Zhu (to ti:TE)(t:ZfQ):TG:=λv σ H Q=>to σ H λo H1=>ti σ H1 λi H2=>t o i v H2 λH3=>Q σ H3
theorem UX {o i:Expr}{to ti:TE}{t:ZfQ}(ho:PE X o to)(hi:PE X i ti)(hs:ZgX X t)(ha:∀v,assign (.Subscript o i pos) X.env v=(do
   let ov <- holding [v] (eval o X.env)
   let iv <- holding [v,ov] (eval i X.env)
   standAt pos
   holding [v,ov,iv] (setItem ov iv v)
   release [v,ov,iv] []):=by intro _;rfl):PG X (.Subscript o i pos) (Zhu to ti t):=by
 intro qQ s σ H v u Q I r h;rw [ha];refine wpAny_bind (wpAny_holding (thn (ho qQ s σ H _ I h) λov s1 ⟨x,H1,I1,r1,q1⟩=>?_));refine wpAny_bind (wpAny_holding (thn (hi qQ s1 σ H1 _ I1 q1) λiv s2 ⟨y,H2,I2,r2,q2⟩=>?_));refine wpAny_bind (wpAny_standAt (wpAny_bind (wpAny_holding (thn (hs qQ s2 σ H2 x y v ov iv u _ I2 r1 r2 r q2) λ_ s3 ⟨H3,I3,q3⟩=>?_))));exact wpAny_release ⟨σ,H3,I3,q3⟩
def ZfS (te:TE)(g:TG):TS:=λD σ H=>te σ H λx H1=>g x σ H1 D.nx
theorem J7 {tg e:Expr}{te:TE}{g:TG}(he:PE X e te)(hg:PG X tg g)(hs:swapsWithSole [tg] e pos.line X.env=pure false:=by rfl)(hw:swappedStores [tg] e X.env=pure none:=by rfl)(h1:(assignEach [tg] X.env).map (·.2)=[assign tg X.env]:=by rfl):PS X (.Assign [tg] e pos) (ZfS te g):=by
 intro qQ s σ H D I h;refine wpAny_Assign_stores (thn (he qQ s σ H _ I h) λv s1 ⟨x,H1,I1,r1,q1⟩=>?_) hs hw;rw [h1];exact thn (hg qQ s1 σ H1 x v _ I1 r1 q1) λ_ s2 q=>q
theorem Gp {i:Nat}{x:Str}{e:Expr}{te:TE}{pos':Pos}(hN:X.N.Nodup)(hi:X.N[i]?=some x)(hx:Loc X.env.scope x)(he:PE X e te)(hs:swapsWith e (some (.Name x pos')) pos.line X.env=pure false:=by rfl)(hf:X.fn x=true\/X.env.scope.names.lookup x=some .local:=by first | exact .inl rfl | exact .inr rfl | assumption) :
  PS X (.Assign [.Name x pos'] e pos) (ZfS te (GL i)):=by
 intro qQ s σ H D I h;refine wpAny_Assign_Name (thn (he qQ s σ H _ I h) λv s1 ⟨y,H1,I1,r1,q1⟩=>?_) hs;exact Yd I1 hN hi hx r1 (λs2 I2=>⟨_,H1,I2,q1⟩) hf
def Zeq (c:TT)(tb:TS):TS:=λD σ H=>∃W:Nat->St->Hp->Prop,(∃m,W m σ H)/\∀m σ H,W m σ H ->
 c σ H λb H1=>if b=true then ∃N:St->Hp->Prop,(∀ σ' H',N σ' H'->∃m',m'<m/\W m' σ' H')/\tb { D with nx:=N,ct:=N,bk:=D.nx } σ H1 else D.nx σ H1
theorem ZbJ {c:Expr}{body:List Stmt}{tc:TT}{tb:TS}(hp:PassesOwn (model X.prog X.w) X.A X.env X.xe)(hc:PT X c tc)(hb:PSs X body tb):PS X (.While c body [] pos) (Zeq tc tb):=by
 intro qQ s σ H D I h;obtain ⟨W,⟨m0,w0⟩,turn⟩:=h;refine wpAny_While (codeAny_whileLoop (λn s'=>∃ σ' H',Inv X qQ σ' H' s'/\W n σ' H') ?_ m0 ⟨σ,H,I,w0⟩);rintro n s1 ⟨σ1,H1,I1,w1⟩;refine wpAny_passesOwn hp (thn (hc qQ s1 σ1 H1 _ I1 (turn n σ1 H1 w1)) λb s2 ⟨H2,I2,q2⟩=>?_);cases b with
 | true=>
  obtain ⟨N,hN,q2⟩:=q2;rw [if_pos rfl];refine wpAny_passesOwn hp (thn (hb qQ s2 σ1 H2 _ I2 q2) λf s3 q3=>?_);cases f with
  | next=>
   obtain ⟨σ3,H3,I3,n3⟩:=q3;obtain ⟨m',hm,w3⟩:=hN σ3 H3 n3;exact ⟨m',hm,σ3,H3,I3,w3⟩
  | cont=>
   obtain ⟨σ3,H3,I3,n3⟩:=q3;obtain ⟨m',hm,w3⟩:=hN σ3 H3 n3;exact ⟨m',hm,σ3,H3,I3,w3⟩
  | brk=>exact q3
  | ret v=>exact q3
 | false=>
  rw [if_neg Bool.false_ne_true];exact wpAny_execs_nil ⟨σ1,H2,I2,q2⟩
end
structure It where
 go:Nat->Hp->Prop
 yld:Nat->Hp->V->Hp->Prop
 stop:Nat->Hp->Prop
def Zby (X:Cx)(qQ:List (AD×Obj))(H:Hp)(b:AD):Prop:=
 H b=none/\b≠X.env.locals/\b ∉ X.fs/\(b∈X.ex\/X.s₀.heap.objs.size<=b)/\(∀x c,X.env.cells.lookup x=some c->c≠b)/\∀p∈X.pn++qQ,p.1≠b
theorem Inv.fpOk {X:Cx}{qQ:List (AD×Obj)}{σ:St}{H H':Hp}{s:SS}{b:AD}(I:Inv X qQ σ H s)(hb:s.heap.objs.size<=b)(hn:H' b=none):Zby X qQ H' b:=by
 refine ⟨hn,Nat.ne_of_gt (Nat.lt_of_lt_of_le I.lt hb),I.nofs hb,.inr (Nat.le_trans I.sz hb),λx c e z=>?_,λp hp z=>?_⟩
 ·obtain ⟨v,q⟩:=I.cell x c e;exact absurd (Nat.lt_of_lt_of_le q.lt (by rw [z];exact hb)) (Nat.lt_irrefl _)
 ·exact absurd (Nat.lt_of_lt_of_le (Heap.lt_size (I.pin p hp).1) (by rw [z];exact hb)) (Nat.lt_irrefl _)
structure ZcQ (P:PP)(w:Ab)(K:FF)(tg:Expr)(J:It)(fp:List AD)(it:AD)(tn:Nat->Heap->Prop):Prop where
 mem:it∈fp
 obj:∀i h,tn i h->∀b∈fp,∃o,h.get? b=some o/\∀v,o.data≠.cell v
 keep:∀i h h',tn i h->(∀b∈fp,∀o,h.get? b=some o->h'.get? b=some o)->tn i h'
 item:∀(X:Cx),X.prog=P->X.w=w->X.K=K->X.calm=true->∀(i:Nat)(qQ:List (AD×Obj))(s:SS)(σ:St)(H:Hp)(E:Aa->SS->Prop),Inv X qQ σ H s->(∀b∈fp,Zby X qQ H b)->tn i s.heap->J.go i H ->
  wpAny (model P w) X.A (pyNext (.ref it)) (λr s1=>∃u,r=some u /\
   wpAny (model P w) X.A (letOwnedTupleGo tg (.ref it) u) (λ_ s2=>∃x H',Inv X qQ σ H' s2/\RelV x u/\J.yld i H x H'/\tn (i+1) s2.heap/\∀b∈fp,H' b=none) E s1) E s
 done:∀(X:Cx),X.prog=P->X.w=w->X.K=K->X.calm=true->∀(i:Nat)(qQ:List (AD×Obj))(s:SS)(σ:St)(H:Hp)(E:Aa->SS->Prop),Inv X qQ σ H s->(∀b∈fp,Zby X qQ H b)->tn i s.heap->J.stop i H ->
  wpAny (model P w) X.A (pyNext (.ref it)) (λr s1=>r=none/\Inv X qQ σ H s1) E s
 self:∀(A:Around)(i:Nat)(s:SS)(Q:Aa->SS->Prop)(E:Aa->SS->Prop),tn i s.heap->Q (.ref it) s->wpAny (model P w) A (pyIter (.ref it)) Q E s
abbrev TI:=St->Hp->(It->Hp->Prop)->Prop
def PIE (X:Cx)(qQ:List (AD×Obj))(σ:St)(tg:Expr)(R:It->Hp->Prop)(itv:Aa)(s2:SS):Prop:=
 ∃(it:AD)(fp:List AD)(tn:Nat->Heap->Prop)(J:It)(H':Hp),itv=.ref it/\Inv X qQ σ H' s2/\ZcQ X.prog X.w X.K tg J fp it tn/\tn 0 s2.heap/\(∀b∈fp,Zby X qQ H' b)/\R J H'
def PI (X:Cx)(tg iter:Expr)(wi:TI):Prop:=
 ∀(qQ:List (AD×Obj))(s:SS)(σ:St)(H:Hp)(R:It->Hp->Prop),Inv X qQ σ H s->wi σ H R ->
  wpAny (model X.prog X.w) X.A (eval iter X.env) (λv s1=>wpAny (model X.prog X.w) X.A (pyIter v) (PIE X qQ σ tg R) X.xe s1) X.xe s
theorem ZM {M:Model}{A:Around}{E:Aa->SS->Prop}{s:SS}{tg:Expr}{it:AD}{u:Aa}{o:Obj}{n:String}{vs:Array Aa}{Q:Unit->SS->Prop}(ho:s.heap.get? it=some o)(hc:o.cls=.type n)(hd:o.data=.fields vs)(hn:["enumerate", "zip", "dict_itemiterator", "dict_reverseitemiterator", "odict_iterator", "itertools.zip_longest", "itertools.pairwise"].contains n=false)(hQ:Q () s):wpAny M A (letOwnedTupleGo tg (.ref it) u) Q E s:=by
 unfold letOwnedTupleGo;cases tg <;> first
  | exact wpAny_pure hQ
  | (cases u <;> first
    | exact wpAny_pure hQ
    | (refine wpAny_bind (wpAny_load ho ?_)
       rw [hc,hd];show wpAny M A (if (["enumerate", "zip", "dict_itemiterator", "dict_reverseitemiterator", "odict_iterator", "itertools.zip_longest", "itertools.pairwise"].contains n && vs[0]? == some (rawInt _))=true then _ else _) Q E s;rw [if_neg (by intro h;rw [hn,Bool.false_and] at h;cases h)];exact wpAny_pure hQ))
def Itl (K:FF)(a:AD):It:=
 ⟨λi H=>∃xs x,SqL K H a xs/\xs[i]?=some x,λi H x H'=>H'=H/\∀xs,SqL K H a xs->xs[i]?=some x,λi H=>∃xs,SqL K H a xs/\xs.length<=i⟩
def Itt (K:FF)(a:AD):It:=
 ⟨λi H=>∃xs x,SqT K H a xs/\xs[i]?=some x,λi H x H'=>H'=H/\∀xs,SqT K H a xs->xs[i]?=some x,λi H=>∃xs,SqT K H a xs/\xs.length<=i⟩
def Itr (lo:Int)(n:Nat):It:=⟨λi _=>i<n,λi H x H'=>H'=H/\x=.int (lo+i),λi _=>n<=i⟩
theorem ZN {P:PP}{w:Ab}{K:FF}{tg:Expr}(a it:AD):ZcQ P w K tg (Itl K a) [it] it (λi h=>h.IsListIter it a i) where
 mem:=by simp
 obj:=λi h st b hb=>by
  have e:b=it:=by simpa using hb
  subst e;obtain ⟨o,e,c,d⟩:=st;exact ⟨o,e,λv z=>by rw [d] at z;cases z⟩
 keep:=λi h h' st k=>st.at λo e=>k it (by simp) o e
 item:=by
  intro X hP hw hK hc i qQ s σ H E I hf st hg;subst hP hw hK;obtain ⟨xs,x,hq,hx⟩:=hg;obtain ⟨its,rv,p,hz⟩:=I.list hq;obtain ⟨u,hu,ru⟩:=rv.get hx;obtain ⟨f0,f1,f2,f3,f4,f5⟩:=hf it (by simp);refine wpAny_pyNext_list_item st p.isList (x:=u) (by simpa using hu) λh' st' sb=>?_;have I1:Inv X qQ σ H { s with heap:=h' }:=I.turned (t':=s.toks) (λb o hb e=>(sb.2 b hb).trans e) f0 f1 f3 f4 f5;obtain ⟨o,e,c,d⟩:=id st';exact ⟨u,rfl,ZM (s:={ s with heap:=h' }) e c d (by decide) ⟨x,H,I1,ru,⟨rfl,λys hy=>by rw [I.list_inj hy hq];exact hx⟩,st',λb hb=>(hf b hb).1⟩⟩
 done:=by
  intro X hP hw hK hc i qQ s σ H E I hf st hg;subst hP hw hK;obtain ⟨xs,hq,hx⟩:=hg;obtain ⟨its,rv,p,hz⟩:=I.list hq;obtain ⟨f0,f1,f2,f3,f4,f5⟩:=hf it (by simp);have hl:=rv.length;exact wpAny_pyNext_list_end (I.ok.hd hc) st p.isList (by simp;lia) λh' eb=>⟨rfl,I.turned (t':=s.toks) (λb o hb e=>eb b o hb e) f0 f1 f3 f4 f5⟩
 self:=λ_ _ _ _ _ st h=>wpAny_pyIter_listiter st h
theorem Y7 {P:PP}{w:Ab}{K:FF}{tg:Expr}(a it:AD):ZcQ P w K tg (Itt K a) [it] it (λi h=>h.IsTupleIter it a i) where
 mem:=by simp
 obj:=λi h st b hb=>by
  have e:b=it:=by simpa using hb
  subst e;obtain ⟨o,e,c,d⟩:=st;exact ⟨o,e,λv z=>by rw [d] at z;cases z⟩
 keep:=λi h h' st k=>st.at λo e=>k it (by simp) o e
 item:=by
  intro X hP hw hK hc i qQ s σ H E I hf st hg;subst hP hw hK;obtain ⟨xs,x,hq,hx⟩:=hg;obtain ⟨its,rv,p,hz⟩:=I.tuple hq;obtain ⟨u,hu,ru⟩:=rv.get hx;obtain ⟨f0,f1,f2,f3,f4,f5⟩:=hf it (by simp);refine wpAny_pyNext_tuple_item st (show s.heap.IsTuple a its.toArray from p) (x:=u) (by simpa using hu) λh' st' sb=>?_;have I1:Inv X qQ σ H { s with heap:=h' }:=I.turned (t':=s.toks) (λb o hb e=>(sb.2 b hb).trans e) f0 f1 f3 f4 f5;obtain ⟨o,e,c,d⟩:=id st';exact ⟨u,rfl,ZM (s:={ s with heap:=h' }) e c d (by decide) ⟨x,H,I1,ru,⟨rfl,λys hy=>by rw [I.tuple_inj hy hq];exact hx⟩,st',λb hb=>(hf b hb).1⟩⟩
 done:=by
  intro X hP hw hK hc i qQ s σ H E I hf st hg;subst hP hw hK;obtain ⟨xs,hq,hx⟩:=hg;obtain ⟨its,rv,p,hz⟩:=I.tuple hq;obtain ⟨f0,f1,f2,f3,f4,f5⟩:=hf it (by simp);have hl:=rv.length;exact wpAny_pyNext_tuple_end (I.ok.hd hc) st (show s.heap.IsTuple a its.toArray from p) (by simp;lia) λh' eb=>⟨rfl,I.turned (t':=s.toks) (λb o hb e=>eb b o hb e) f0 f1 f3 f4 f5⟩
 self:=λ_ _ _ _ _ st h=>wpAny_pyIter_tupleiter st h
theorem Y8 {P:PP}{w:Ab}{K:PySem.W.Frag}{tg:Expr}(it:AD)(lo:Int)(n:Nat):ZcQ P w K tg (Itr lo n) [it] it (λi h=>IsRangeIter h it (lo+(i:Nat) * 1) ((n:Int)-(i:Nat)) 1) where
 mem:=by simp
 obj:=λi h st b hb=>by
  have e:b=it:=by simpa using hb
  subst e;exact ⟨_,st,λv z=>by
   have z':Data.fields _=Data.cell v:=z;cases z'⟩
 keep:=λi h h' st k=>k it (by simp) _ st
 item:=by
  intro X hP hw hK hc i qQ s σ H E I hf st hg;subst hP hw hK;obtain ⟨f0,f1,f2,f3,f4,f5⟩:=hf it (by simp);have W:=Walks.range (prog:=X.prog) (w:=X.w) (I.ok.hd hc) it lo 1 n;refine W.item i s _ _ hg st λv h' tk hv st' kk=>?_;obtain ⟨t,rfl⟩:=hv;have I1:Inv X qQ σ H { s with heap:=h',toks:=tk }:=I.turned (λb o hb e=>kk b o (by simpa using hb) e) f0 f1 f3 f4 f5;refine ⟨_,rfl,ZM (s:={ s with heap:=h',toks:=tk }) (n := "range_iterator") st' rfl rfl (by decide) ⟨.int (lo+i),H,I1,⟨t,?_⟩,⟨rfl,rfl⟩,st',λb hb=>(hf b hb).1⟩⟩;rw [Int.mul_one]
 done:=by
  intro X hP hw hK hc i qQ s σ H E I hf st hg;subst hP hw hK;obtain ⟨f0,f1,f2,f3,f4,f5⟩:=hf it (by simp);exact wpAny_pyNext_range_end (I.ok.hd hc) st (by have:n<=i:=hg;lia) λh' eb=>⟨rfl,I.turned (t':=s.toks) (λb o hb e=>eb b o hb e) f0 f1 f3 f4 f5⟩
 self:=λ_ _ _ _ _ st h=>wpAny_pyIter_rangeiter st h
end L2
namespace L2
open PySem PySem.Spec PyProof.Rows
section
variable {X:Cx}{tg:Expr}
def Zer (K:FF)(tl:TE):TI:=λσ H R=>tl σ H λx H1=>∃a,x=.ref a/\(∃xs,SqL K H1 a xs)/\R (Itl K a) H1
def ZgZ (K:FF)(tl:TE):TI:=λσ H R=>tl σ H λx H1=>∃a,x=.ref a/\(∃xs,SqT K H1 a xs)/\R (Itt K a) H1
theorem Zdp {l:Expr}{tl:TE}(hl:PE X l tl):PI X tg l (Zer X.K tl):=by
 intro qQ s σ H R I h;refine thn (hl qQ s σ H _ I h) λv s1 ⟨x,H1,I1,r1,q1⟩=>?_;obtain ⟨a,e,⟨xs,hq⟩,q⟩:=q1;subst e;cases r1;obtain ⟨its,rv,p,hz⟩:=I1.list hq;refine wpAny_pyIter_list p.isList ?_;refine ⟨s1.heap.objs.size,[s1.heap.objs.size],_,_,H1,rfl,I1.kept (t':=s1.toks) λb o e=>Heap.get?_push_of_some _ e,ZN a _,⟨_,Heap.get?_push_size _ rfl,rfl,rfl⟩,λb hb=>?_,q⟩;have e:b=s1.heap.objs.size:=by simpa using hb
 subst e;exact I1.fpOk (Nat.le_refl _) (I1.hok.fresh (Nat.le_refl _))
theorem Zes {l:Expr}{tl:TE}(hl:PE X l tl):PI X tg l (ZgZ X.K tl):=by
 intro qQ s σ H R I h;refine thn (hl qQ s σ H _ I h) λv s1 ⟨x,H1,I1,r1,q1⟩=>?_;obtain ⟨a,e,⟨xs,hq⟩,q⟩:=q1;subst e;cases r1;obtain ⟨its,rv,p,hz⟩:=I1.tuple hq;refine wpAny_pyIter_tuple (show s1.heap.IsTuple a its.toArray from p) ?_;refine ⟨s1.heap.objs.size,[s1.heap.objs.size],_,_,H1,rfl,I1.kept (t':=s1.toks) λb o e=>Heap.get?_push_of_some _ e,Y7 a _,⟨_,Heap.get?_push_size _ rfl,rfl,rfl⟩,λb hb=>?_,q⟩;have e:b=s1.heap.objs.size:=by simpa using hb
 subst e;exact I1.fpOk (Nat.le_refl _) (I1.hok.fresh (Nat.le_refl _))
theorem Yg {qQ:List (AD×Obj)}{σ:St}{H:Hp}{s:SS}{R:It->Hp->Prop}{E:Aa->SS->Prop}{lo hi:Int}{t u v:Tok}{tk:Nat}(I:Inv X qQ σ H s)(h1:-(2 ^ 62)<=lo)(h2:lo<2 ^ 62)(h3:-(2 ^ 62)<=hi)(h4:hi<2 ^ 62)(q:R (Itr lo (hi-lo).toNat) H):wpAny (model X.prog X.w) X.A (pyIter (.ref s.heap.objs.size)) (PIE X qQ σ tg R) E { s with heap:=s.heap.push { cls:=.type "range", data:=.fields #[.int lo t,.int hi u,.int 1 v] },toks:=tk }:=by
 refine wpAny_pyIter_range (IsRange.new ..) (small_one h1 h2 h3 h4) ?_;have I1:Inv X qQ σ H { s with heap:=s.heap.push { cls:=.type "range", data:=.fields #[.int lo t,.int hi u,.int 1 v] },toks:=tk }:=I.kept λb o e=>Heap.get?_push_of_some _ e;refine ⟨(s.heap.push { cls:=.type "range", data:=.fields #[.int lo t,.int hi u,.int 1 v] }).objs.size,[(s.heap.push { cls:=.type "range", data:=.fields #[.int lo t,.int hi u,.int 1 v] }).objs.size],_,_,H,rfl,
  I1.kept (t':=tk) λb o e=>Heap.get?_push_of_some _ e,Y8 _ lo (hi-lo).toNat,?_,λb hb=>?_,q⟩
 ·have e1:lo+((0:Nat):Int) * 1=lo:=by simp
  have e2:(((hi-lo).toNat:Nat):Int)-((0:Nat):Int)=Builtin.Range.rangeSize lo hi 1:=by rw [rangeSize_one];split <;> lia
  show IsRangeIter _ _ (lo+((0:Nat):Int) * 1) ((((hi-lo).toNat:Nat):Int)-((0:Nat):Int)) 1;rw [e1,e2];exact Heap.get?_push_size _ rfl
 ·have e:b=(s.heap.push { cls:=.type "range", data:=.fields #[.int lo t,.int hi u,.int 1 v] }).objs.size:=by simpa using hb
  subst e;exact I1.fpOk (Nat.le_refl _) (I1.hok.fresh (Nat.le_refl _))
def ZfT (ta:TA):TI:=λσ H R=>ta σ H λvs H1=>∃j:Int,vs=[.int j]/\-(2 ^ 62)<=j/\j<2 ^ 62/\R (Itr 0 j.toNat) H1
def ZfU (ta:TA):TI:=λσ H R=>ta σ H λvs H1=>∃i j:Int,vs=[.int i,.int j]/\(-(2 ^ 62)<=i/\i<2 ^ 62/\-(2 ^ 62)<=j/\j<2 ^ 62)/\R (Itr i (j-i).toNat) H1
theorem OO {a:Expr}{ta:TA}{p pos:Pos}(hg:Gl X "range")(hm:X.mg "range" = none)(ha:PA X [a] ta)(hs:starEach [a] X.env=[(false,eval a X.env)]:=by rfl):PI X tg (.Call (.Name "range" p) [a] [] pos) (ZfT ta):=by
 intro qQ s σ H R I h;refine Call_ (Vt I hg hm boot_range (PyProof.Rows.callWith_type1 (thn (ha pos qQ s σ H _ I h) λus s1 ⟨vs,H1,I1,r1,q1⟩=>?_) hs rfl));obtain ⟨j,e,q1,q2,q⟩:=q1;subst e;cases r1 with
 | cons r rr=>
  cases rr;obtain ⟨t,rfl⟩:=r;exact call_range_1 (Yg I1 (by lia) (by lia) q1 q2 (by simpa using q))
theorem UY {a b:Expr}{ta:TA}{p pos:Pos}(hg:Gl X "range")(hm:X.mg "range" = none)(ha:PA X [a,b] ta)(hs:starEach [a,b] X.env=[(false,eval a X.env),(false,eval b X.env)]:=by rfl)(hs2:starEach [b] X.env=[(false,eval b X.env)]:=by rfl) :
  PI X tg (.Call (.Name "range" p) [a,b] [] pos) (ZfU ta):=by
 intro qQ s σ H R I h;refine Call_ (Vt I hg hm boot_range (PyProof.Rows.callWith_type1 (thn (ha pos qQ s σ H _ I h) λus s1 ⟨vs,H1,I1,r1,q1⟩=>?_) (by rw [hs,hs2]) (by rw [hs2];rfl)));obtain ⟨i,j,e,⟨q1,q2,q3,q4⟩,q⟩:=q1;subst e;cases r1 with
 | cons r rr=>
  cases rr with
  | cons r' rr=>
   cases rr;obtain ⟨t,rfl⟩:=r;obtain ⟨t',rfl⟩:=r';exact call_range_2 (Yg I1 q1 q2 q3 q4 q)
def Zhv (wi:TI)(g:TG)(tb:TS):TS:=λD σ H=>wi σ H λJ H1=>∃W:Nat->Nat->St->Hp->Prop,(∃m,W 0 m σ H1)/\∀i m σ H,W i m σ H ->
 (J.stop i H/\D.nx σ H)\/(J.go i H/\∃N:St->Hp->Prop,(∀ σ' H',N σ' H'->∃m',m'<m/\W (i+1) m' σ' H')/\∀x H',J.yld i H x H'->g x σ H' λσ2 H2=>tb { D with nx:=N,ct:=N,bk:=D.nx } σ2 H2)
def WL (fp:List AD)(h:Heap):List (AD×Obj):=fp.filterMap λb=>(h.get? b).map λo=>(b,o)
theorem Oq {fp:List AD}{h:Heap}{b:AD}{o:Obj}(hb:b∈fp)(e:h.get? b=some o):(b,o)∈WL fp h:=List.mem_filterMap.mpr ⟨b,hb,by rw [e];rfl⟩
theorem ZO {fp:List AD}{h:Heap}{p:AD×Obj}(hp:p∈WL fp h):p.1∈fp/\h.get? p.1=some p.2:=by
 obtain ⟨b,hb,e⟩:=List.mem_filterMap.mp hp;cases q:h.get? b with
 | none=>rw [q] at e;cases e
 | some o=>
  rw [q] at e;have e':(b,o)=p:=Option.some.inj e;subst e';exact ⟨hb,q⟩
theorem Inv.pinned {qQ:List (AD×Obj)}{σ:St}{H:Hp}{s:SS}{fp:List AD}(I:Inv X qQ σ H s)(hf:∀b∈fp,Zby X qQ H b)(ho:∀b∈fp,∃o,s.heap.get? b=some o/\∀v,o.data≠.cell v):Inv X (qQ++WL fp s.heap) σ H s:=
 I.pins_of λp hp=>(List.mem_append.mp hp).elim (λz=>I.pin p (List.mem_append_right _ z)) λz=>by
  obtain ⟨hb,e⟩:=ZO z;obtain ⟨f0,f1,f2,_⟩:=hf p.1 hb;obtain ⟨o,e',d⟩:=ho p.1 hb;rw [e] at e';cases e';exact ⟨e,f0,f1,f2,d⟩
theorem Inv.unpinned {qQ pl:List (AD×Obj)}{σ:St}{H:Hp}{s:SS}(I:Inv X (qQ++pl) σ H s):Inv X qQ σ H s:=I.pins_of λp hp=>I.pin p (List.mem_append_right _ (List.mem_append_left _ hp))
theorem Jj {iter:Expr}{body:List Stmt}{wi:TI}{g:TG}{tb:TS}{pos:Pos}(hp:PassesOwn (model X.prog X.w) X.A X.env X.xe)(hc:X.calm=true)(hi:PI X tg iter wi)(hg:PG X tg g)(hb:PSs X body tb)(hs:∀x,foldedSetIterable iter X.env x=pure x:=by intro _;rfl):PS X (.For tg iter body [] pos) (Zhv wi g tb):=by
 intro qQ s σ H D I h;refine wpAny_For (thn (hi qQ s σ H _ I h) λv s1 h1=>thn h1 λitv s2 h2=>?_) hs;obtain ⟨it,fp,tn,J,H2,e,I2,T,st2,f2,W,⟨m0,w0⟩,turn⟩:=h2;subst e;have stat:∀{H':Hp},(∀b∈fp,H' b=none)->∀b∈fp,Zby X qQ H' b:=λhn b hb=>⟨hn b hb,(f2 b hb).2⟩;refine codeAny_forLoop_any (λn s'=>∃i σ' H',Inv X qQ σ' H' s'/\tn i s'.heap/\(∀b∈fp,H' b=none)/\W i n σ' H') ?_ m0 ⟨0,σ,H2,I2,st2,λb hb=>(f2 b hb).1,w0⟩;rintro n s3 ⟨i,σ3,H3,I3,st3,fr3,w3⟩;rcases turn i n σ3 H3 w3 with ⟨stop,qn⟩ | ⟨go,N,hN,step⟩
 ·refine wpAny_passesOwn hp (thn (T.done X rfl rfl rfl hc i qQ s3 σ3 H3 X.xe I3 (stat fr3) st3 stop) λr s4 ⟨hr,I4⟩=>?_);subst hr;exact wpAny_execs_nil ⟨σ3,H3,I4,qn⟩
 ·refine wpAny_passesOwn hp (thn (T.item X rfl rfl rfl hc i qQ s3 σ3 H3 X.xe I3 (stat fr3) st3 go) λr s4 ⟨u,hr,h4⟩=>?_);subst hr;refine wpAny_passesOwn hp (thn h4 λ_ s5 ⟨x,H5,I5,r5,y5,st5,fr5⟩=>?_);have I5':=I5.pinned (stat fr5) (T.obj _ _ st5);refine wpAny_passesOwn hp (thn (hg _ s5 σ3 H5 x u _ I5' r5 (step x H5 y5)) λ_ s6 ⟨σ6,H6,I6,q6⟩=>?_);refine wpAny_passesOwn hp (thn (hb _ s6 σ6 H6 _ I6 q6) λf s7 q7=>?_);have again:∀{σ7:St}{H7:Hp},Inv X (qQ++WL fp s5.heap) σ7 H7 s7->N σ7 H7->∃m,m<n/\∃i σ' H',Inv X qQ σ' H' s7/\tn i s7.heap/\(∀b∈fp,H' b=none)/\W i m σ' H':=λ{σ7 H7} I7 n7=>by
   obtain ⟨m',hm,w7⟩:=hN σ7 H7 n7;refine ⟨m',hm,i+1,σ7,H7,I7.unpinned,T.keep _ _ _ st5 λb hb o e=>(I7.pin (b,o) (List.mem_append_right _ (List.mem_append_right _ (Oq hb e)))).1,λb hb=>?_,w7⟩;obtain ⟨o,e,d⟩:=T.obj _ _ st5 b hb;exact (I7.pin (b,o) (List.mem_append_right _ (List.mem_append_right _ (Oq hb e)))).2.1
  cases f with
  | next=>obtain ⟨σ7,H7,I7,n7⟩:=q7;exact again I7 n7
  | cont=>obtain ⟨σ7,H7,I7,n7⟩:=q7;exact again I7 n7
  | brk=>obtain ⟨σ7,H7,I7,q7⟩:=q7;exact ⟨σ7,H7,I7.unpinned,q7⟩
  | ret v=>obtain ⟨x7,σ7,H7,I7,r7,q7⟩:=q7;exact ⟨x7,σ7,H7,I7.unpinned,r7,q7⟩
end
theorem JZ {K:PySem.W.Frag}{a:AD}{xs:List V}{g:TG}{tb:TS}{D:Ends}{σ:St}{H:Hp}(Pv:Nat->St->Hp->Prop)(h0:Pv 0 σ H)(hl:∀i σ H,i<=xs.length->Pv i σ H->SqL K H a xs)(hs:∀i x σ H,xs[i]?=some x->Pv i σ H->g x σ H λσ2 H2=>tb { D with nx:=Pv (i+1),ct:=Pv (i+1),bk:=D.nx } σ2 H2)(hd:∀ σ H,Pv xs.length σ H->D.nx σ H) :
  ∃W:Nat->Nat->St->Hp->Prop,(∃m,W 0 m σ H)/\∀i m σ H,W i m σ H ->
   ((Itl K a).stop i H/\D.nx σ H)\/((Itl K a).go i H/\∃N:St->Hp->Prop,(∀ σ' H',N σ' H'->∃m',m'<m/\W (i+1) m' σ' H')/\∀x H',(Itl K a).yld i H x H'->g x σ H' λσ2 H2=>tb { D with nx:=N,ct:=N,bk:=D.nx } σ2 H2):=by
 refine ⟨λi m σ H=>m=xs.length-i/\i<=xs.length/\Pv i σ H,⟨xs.length,by simp,Nat.zero_le _,h0⟩,?_⟩;rintro i m σ H ⟨rfl,hi,p⟩;have q:=hl i σ H hi p;by_cases hlt:i<xs.length
 ·refine .inr ⟨⟨xs,xs[i],q,by simp [hlt]⟩,Pv (i+1),λσ' H' p'=>⟨xs.length-(i+1),by lia,rfl,hlt,p'⟩,λx H' y=>?_⟩;obtain ⟨e,y⟩:=y;subst e;exact hs i x σ _ (y xs q) p
 ·have e:i=xs.length:=by lia
  subst e;exact .inl ⟨⟨xs,q,Nat.le_refl _⟩,hd σ H p⟩
theorem ZP {K:PySem.W.Frag}{a:AD}{xs:List V}{g:TG}{tb:TS}{D:Ends}{σ:St}{H:Hp}(Pv:Nat->St->Hp->Prop)(h0:Pv 0 σ H)(hl:∀i σ H,i<=xs.length->Pv i σ H->SqT K H a xs)(hs:∀i x σ H,xs[i]?=some x->Pv i σ H->g x σ H λσ2 H2=>tb { D with nx:=Pv (i+1),ct:=Pv (i+1),bk:=D.nx } σ2 H2)(hd:∀ σ H,Pv xs.length σ H->D.nx σ H) :
  ∃W:Nat->Nat->St->Hp->Prop,(∃m,W 0 m σ H)/\∀i m σ H,W i m σ H ->
   ((Itt K a).stop i H/\D.nx σ H)\/((Itt K a).go i H/\∃N:St->Hp->Prop,(∀ σ' H',N σ' H'->∃m',m'<m/\W (i+1) m' σ' H')/\∀x H',(Itt K a).yld i H x H'->g x σ H' λσ2 H2=>tb { D with nx:=N,ct:=N,bk:=D.nx } σ2 H2):=by
 refine ⟨λi m σ H=>m=xs.length-i/\i<=xs.length/\Pv i σ H,⟨xs.length,by simp,Nat.zero_le _,h0⟩,?_⟩;rintro i m σ H ⟨rfl,hi,p⟩;have q:=hl i σ H hi p;by_cases hlt:i<xs.length
 ·refine .inr ⟨⟨xs,xs[i],q,by simp [hlt]⟩,Pv (i+1),λσ' H' p'=>⟨xs.length-(i+1),by lia,rfl,hlt,p'⟩,λx H' y=>?_⟩;obtain ⟨e,y⟩:=y;subst e;exact hs i x σ _ (y xs q) p
 ·have e:i=xs.length:=by lia
  subst e;exact .inl ⟨⟨xs,q,Nat.le_refl _⟩,hd σ H p⟩
theorem Ob {lo:Int}{n:Nat}{g:TG}{tb:TS}{D:Ends}{σ:St}{H:Hp}(Pv:Nat->St->Hp->Prop)(h0:Pv 0 σ H)(hs:∀i σ H,i<n->Pv i σ H->g (.int (lo+i)) σ H λσ2 H2=>tb { D with nx:=Pv (i+1),ct:=Pv (i+1),bk:=D.nx } σ2 H2)(hd:∀ σ H,Pv n σ H->D.nx σ H) :
  ∃W:Nat->Nat->St->Hp->Prop,(∃m,W 0 m σ H)/\∀i m σ H,W i m σ H ->
   ((Itr lo n).stop i H/\D.nx σ H)\/((Itr lo n).go i H/\∃N:St->Hp->Prop,(∀ σ' H',N σ' H'->∃m',m'<m/\W (i+1) m' σ' H')/\∀x H',(Itr lo n).yld i H x H'->g x σ H' λσ2 H2=>tb { D with nx:=N,ct:=N,bk:=D.nx } σ2 H2):=by
 refine ⟨λi m σ H=>m=n-i/\i<=n/\Pv i σ H,⟨n,by simp,Nat.zero_le _,h0⟩,?_⟩;rintro i m σ H ⟨rfl,hi,p⟩;by_cases hlt:i<n
 ·refine .inr ⟨hlt,Pv (i+1),λσ' H' p'=>⟨n-(i+1),by lia,rfl,hlt,p'⟩,λx H' y=>?_⟩;obtain ⟨e,y⟩:=y;subst e y;exact hs i σ _ hlt p
 ·have e:i=n:=by lia
  subst e;exact .inl ⟨Nat.le_refl _,hd σ H p⟩
end L2
namespace L2
open PySem PySem.Spec PyProof.Rows
abbrev R2:=V->V->Hp->VK->Prop
def OpR (X:Cx)(f:Aa->Aa->Sem Aa)(r:R2):Prop:=
 ∀(qQ:List (AD×Obj))(s:SS)(σ:St)(H:Hp)(x y:V)(v u:Aa)(Q:VK),Inv X qQ σ H s->RelV x v->RelV y u->r x y H Q ->
  wpAny (model X.prog X.w) X.A (f v u) (EP X qQ σ Q) X.xe s
def UnR (X:Cx)(f:Aa->Sem Aa)(r:V->Hp->VK->Prop):Prop:=
 ∀(qQ:List (AD×Obj))(s:SS)(σ:St)(H:Hp)(x:V)(v:Aa)(Q:VK),Inv X qQ σ H s->RelV x v->r x H Q ->
  wpAny (model X.prog X.w) X.A (f v) (EP X qQ σ Q) X.xe s
def Jt (X:Cx)(f:Aa)(r:List V->Hp->VK->Prop):Prop:=
 ∀(qQ:List (AD×Obj))(s:SS)(σ:St)(H:Hp)(xs:List V)(us:LW)(Q:VK),Inv X qQ σ H s->Vals xs us->r xs H Q ->
  wpAny (model X.prog X.w) X.A (call f us) (EP X qQ σ Q) X.xe s
def Zhw (X:Cx)(r:V->Hp->(Bool->Hp->Prop)->Prop):Prop:=
 ∀(qQ:List (AD×Obj))(s:SS)(σ:St)(H:Hp)(x:V)(v:Aa)(Q:Bool->Hp->Prop),Inv X qQ σ H s->RelV x v->r x H Q ->
  wpAny (model X.prog X.w) X.A (truthy v) (TP X qQ σ Q) X.xe s
def tOp (r:R2)(ta tb:TE):TE:=λσ H Q=>ta σ H λx H1=>tb σ H1 λy H2=>r x y H2 Q
def tUn (r:V->Hp->VK->Prop)(ta:TE):TE:=λσ H Q=>ta σ H λx H1=>r x H1 Q
def rI (C:Int->Int->Prop)(g:Int->Int->V):R2:=λx y H Q=>∃i j,x=.int i/\y=.int j/\C i j/\Q (g i j) H
def rI0 (g:Int->Int->V):R2:=λx y H Q=>∃i j,x=.int i/\y=.int j/\Q (g i j) H
def rU (g:Int->V):V->Hp->VK->Prop:=λx H Q=>∃i,x=.int i/\Q (g i) H
section
variable {X:Cx}{a b c:Expr}{ta tb tc:TE}{pos:Pos}
theorem ZfV (ha:PE X a ta)(hb:PE X b tb){qQ:List (AD×Obj)}{s:SS}{σ:St}{H:Hp}{R:V->V->Hp->Prop}(I:Inv X qQ σ H s)(h:ta σ H λx H1=>tb σ H1 λy H2=>R x y H2){Q:Aa->SS->Prop}{f:Aa->Aa->Sem Aa}(hf:∀v u s2 x y H2,Inv X qQ σ H2 s2->RelV x v->RelV y u->R x y H2->wpAny (model X.prog X.w) X.A (f v u) Q X.xe s2) :
  wpAny (model X.prog X.w) X.A (eval a X.env) (λv s₁=>wpAny (model X.prog X.w) X.A (eval b X.env) (λu s₂=>wpAny (model X.prog X.w) X.A (f v u) Q X.xe s₂) X.xe s₁) X.xe s:=by
 refine thn (ha qQ s σ H _ I h) λv s1 ⟨x,H1,I1,r1,q1⟩=>?_;refine thn (hb qQ s1 σ H1 _ I1 q1) λu s2 ⟨y,H2,I2,r2,q2⟩=>?_;exact hf v u s2 x y H2 I2 r1 r2 q2
theorem GD {op:Operator}{r:R2}(ho:OpR X (binaryOp op) r)(ha:PE X a ta)(hb:PE X b tb):PE X (.BinOp a op b pos) (tOp r ta tb):=by
 intro qQ s σ H Q I h;exact wpAny_BinOp (ZfV ha hb I h λv u s2 x y H2 I2 rx ry q=>ho qQ s2 σ H2 x y v u Q I2 rx ry q)
theorem Zet {op:UnaryOp}{r:V->Hp->VK->Prop}(ho:UnR X (unaryOp op) r)(ha:PE X a ta):PE X (.UnaryOp op a pos) (tUn r ta):=by
 intro qQ s σ H Q I h;exact UnaryOp_ (thn (ha qQ s σ H _ I h) λv s1 ⟨x,H1,I1,r1,q1⟩=>ho qQ s1 σ H1 x v Q I1 r1 q1)
theorem opI {f:Aa->Aa->Sem Aa}{C:Int->Int->Prop}{g:Int->Int->Int}(rule:∀(i j:Int)(t u:Tok)(s:SS)(Q:Aa->SS->Prop)(E:Aa->SS->Prop),C i j->Q (.int (g i j) s.toks) { s with toks:=s.toks+1 }->wpAny (model X.prog X.w) X.A (f (.int i t) (.int j u)) Q E s) :
  OpR X f (rI C λi j=>.int (g i j)):=by
 intro qQ s σ H x y v u Q I rx ry h;obtain ⟨i,j,rfl,rfl,hc,q⟩:=h;obtain ⟨t,rfl⟩:=rx;obtain ⟨t',rfl⟩:=ry;exact rule i j t t' s _ _ hc ⟨.int (g i j),H,I.tok _,⟨_,rfl⟩,q⟩
theorem Zg0 {f:Aa->Aa->Sem Aa}{g:Int->Int->Int}(rule:∀(i j:Int)(t u:Tok)(s:SS)(Q:Aa->SS->Prop)(E:Aa->SS->Prop),Q (.int (g i j) s.toks) { s with toks:=s.toks+1 }->wpAny (model X.prog X.w) X.A (f (.int i t) (.int j u)) Q E s) :
  OpR X f (rI0 λi j=>.int (g i j)):=by
 intro qQ s σ H x y v u Q I rx ry h;obtain ⟨i,j,rfl,rfl,q⟩:=h;obtain ⟨t,rfl⟩:=rx;obtain ⟨t',rfl⟩:=ry;exact rule i j t t' s _ _ ⟨.int (g i j),H,I.tok _,⟨_,rfl⟩,q⟩
theorem Zfz {f:Aa->Aa->Sem Aa}{g:Int->Int->Bool}(rule:∀(i j:Int)(t u:Tok)(s:SS)(Q:Aa->SS->Prop)(E:Aa->SS->Prop),Q (.bool (g i j)) s->wpAny (model X.prog X.w) X.A (f (.int i t) (.int j u)) Q E s) :
  OpR X f (rI0 λi j=>.bl (g i j)):=by
 intro qQ s σ H x y v u Q I rx ry h;obtain ⟨i,j,rfl,rfl,q⟩:=h;obtain ⟨t,rfl⟩:=rx;obtain ⟨t',rfl⟩:=ry;exact rule i j t t' s _ _ ⟨.bl (g i j),H,I,rfl,q⟩
def Zhx (i j:Int):Prop:=0<=j/\j<=1000000/\i.natAbs<2 ^ 64
def CMul (i j:Int):Prop:=(-(2 ^ 64)<i/\i<2 ^ 64)\/(-(2 ^ 64)<j/\j<2 ^ 64)
theorem CMul.ok {i j:Int}(h:CMul i j):IntMulOk i j:=by
 rcases h with ⟨h1,h2⟩ | ⟨h1,h2⟩
 ·exact .of_left (intBits_le_64 h1 h2)
 ·exact .of_right (intBits_le_64 h1 h2)
theorem Y9 (k:Nat):(0:Int)<=2 ^ k:=by
 rw [two_pow_cast];exact Int.natCast_nonneg _
theorem Jk:OpR X (binaryOp .Add) (rI0 λi j=>.int (i+j)):=Zg0 λ_ _ _ _ _ _ _ q=>add_int q
theorem Vu:OpR X (binaryOp .Sub) (rI0 λi j=>.int (i-j)):=Zg0 λ_ _ _ _ _ _ _ q=>sub_int q
theorem ZQ:OpR X (binaryOp .Mult) (rI CMul λi j=>.int (i * j)):=opI λ_ _ _ _ _ _ _ hc q=>mul_int q hc.ok
theorem OP:OpR X (binaryOp .Mod) (rI (λ_ j=>0<j) λi j=>.int (i % j)):=opI λi j _ _ _ _ _ hc q=>by
 have h1:(0:Int)<j:=hc;exact mod_int' (by lia) (by rw [Int.fmod_eq_emod_of_nonneg i (by lia)];exact q)
theorem ZR:OpR X (binaryOp .Pow) (rI Zhx λi j=>.int (i ^ j.toNat)):=opI λ_ _ _ _ _ _ _ hc q=>pow_int_small hc.1 hc.2.1 hc.2.2 q
theorem Zeu:OpR X (binaryOp .RShift) (rI (λ_ j=>0<=j) λi j=>.int (i / 2 ^ j.toNat)):=opI λi j _ _ _ _ _ hc q=>
 rshift_int hc (by rw [Int.fdiv_eq_ediv_of_nonneg i (Y9 _)];exact q)
end
def Zg1:V->V->Bool
 | .non,.non=>true | .non,.int _=>true | .int _,.non=>true | .non,.bl _=>true | .bl _,.non=>true | .non,.str _=>true | .str _,.non=>true
 | .int _,.int _=>true | .bl _,.bl _=>true | .str _,.str _=>true | .byt _,.byt _=>true
 | .int _,.str _=>true | .str _,.int _=>true | .bl _,.str _=>true | .str _,.bl _=>true
 | _,_=>false
def rEq:R2:=λx y H Q=>Zg1 x y=true/\Q (.bl (decide (x=y))) H
def rNe:R2:=λx y H Q=>Zg1 x y=true/\Q (.bl (!decide (x=y))) H
theorem ZS {i j:Int}:decide (V.int i=V.int j)=(i == j):=by
 rw [Bool.eq_iff_iff];simp
theorem ZcR {i j:Bool}:decide (V.bl i=V.bl j)=(i == j):=by
 rw [Bool.eq_iff_iff];simp
theorem ZT {i j:Str}:decide (V.str i=V.str j)=(i == j):=by
 rw [Bool.eq_iff_iff];simp
theorem ZU {i j:Array UInt8}:decide (V.byt i=V.byt j)=(i.toList == j.toList):=by
 rw [Bool.eq_iff_iff];cases i;cases j;simp
section
variable {X:Cx}{a b c:Expr}{ta tb tc:TE}{pos:Pos}
theorem GK {qQ:List (AD×Obj)}{σ:St}{H:Hp}{s:SS}{Q:VK}{k k':Bool}(I:Inv X qQ σ H s)(q:Q (.bl k) H)(e:k=k'):EP X qQ σ Q (.bool k') s:=by
 subst e;exact ⟨.bl k,H,I,rfl,q⟩
theorem UB:OpR X (compareOp .Eq) rEq:=by
 intro qQ s σ H x y v u Q I rx ry h;obtain ⟨hs,q⟩:=h;cases x with
 | non=>
  cases rx;cases y with
  | non=>cases ry;exact PySem.EqNone.eq_none_none (GK I q (by simp))
  | bl j=>cases ry;exact PySem.EqNone.eq_none_bool (GK I q (by simp))
  | int j=>obtain ⟨t',rfl⟩:=ry;exact PySem.EqNone.eq_none_int (GK I q (by simp))
  | str j=>obtain ⟨t',rfl⟩:=ry;exact PySem.EqNone.eq_none_str (GK I q (by simp))
  | _=>exact absurd (show false=true from hs) Bool.false_ne_true
 | bl i=>
  cases rx;cases y with
  | non=>cases ry;exact PySem.EqNone.eq_bool_none (GK I q (by simp))
  | bl j=>cases ry;exact eq_bool (GK I q ZcR)
  | str j=>obtain ⟨t',rfl⟩:=ry;exact PySem.EqMixed.eq_bool_str (GK I q (by simp))
  | _=>exact absurd (show false=true from hs) Bool.false_ne_true
 | int i=>
  obtain ⟨t,rfl⟩:=rx;cases y with
  | non=>cases ry;exact PySem.EqNone.eq_int_none (GK I q (by simp))
  | int j=>obtain ⟨t',rfl⟩:=ry;exact eq_int (GK I q ZS)
  | str j=>obtain ⟨t',rfl⟩:=ry;exact PySem.EqMixed.eq_int_str (GK I q (by simp))
  | _=>exact absurd (show false=true from hs) Bool.false_ne_true
 | str i=>
  obtain ⟨t,rfl⟩:=rx;cases y with
  | non=>cases ry;exact PySem.EqNone.eq_str_none (GK I q (by simp))
  | bl j=>cases ry;exact PySem.EqMixed.eq_str_bool (GK I q (by simp))
  | int j=>obtain ⟨t',rfl⟩:=ry;exact PySem.EqMixed.eq_str_int (GK I q (by simp))
  | str j=>obtain ⟨t',rfl⟩:=ry;exact eq_str (GK I q ZT)
  | _=>exact absurd (show false=true from hs) Bool.false_ne_true
 | byt i=>
  obtain ⟨t,rfl⟩:=rx;cases y with
  | byt j=>obtain ⟨t',rfl⟩:=ry;exact W.eq_bytes (GK I q ZU)
  | _=>exact absurd (show false=true from hs) Bool.false_ne_true
 | _=>cases y <;> exact absurd (show false=true from hs) Bool.false_ne_true
theorem ZfW:OpR X (compareOp .NotEq) rNe:=by
 intro qQ s σ H x y v u Q I rx ry h;obtain ⟨hs,q⟩:=h;cases x with
 | non=>
  cases rx;cases y with
  | non=>cases ry;exact PySem.EqNone.ne_none_none (GK I q (by simp))
  | bl j=>cases ry;exact PySem.EqNone.ne_none_bool (GK I q (by simp))
  | int j=>obtain ⟨t',rfl⟩:=ry;exact PySem.EqNone.ne_none_int (GK I q (by simp))
  | str j=>obtain ⟨t',rfl⟩:=ry;exact PySem.EqNone.ne_none_str (GK I q (by simp))
  | _=>exact absurd (show false=true from hs) Bool.false_ne_true
 | bl i=>
  cases rx;cases y with
  | non=>cases ry;exact PySem.EqNone.ne_bool_none (GK I q (by simp))
  | bl j=>cases ry;exact ne_bool (GK I q (congrArg not ZcR))
  | str j=>obtain ⟨t',rfl⟩:=ry;exact PySem.EqMixed.ne_bool_str (GK I q (by simp))
  | _=>exact absurd (show false=true from hs) Bool.false_ne_true
 | int i=>
  obtain ⟨t,rfl⟩:=rx;cases y with
  | non=>cases ry;exact PySem.EqNone.ne_int_none (GK I q (by simp))
  | int j=>obtain ⟨t',rfl⟩:=ry;exact ne_int (GK I q (congrArg not ZS))
  | str j=>obtain ⟨t',rfl⟩:=ry;exact PySem.EqMixed.ne_int_str (GK I q (by simp))
  | _=>exact absurd (show false=true from hs) Bool.false_ne_true
 | str i=>
  obtain ⟨t,rfl⟩:=rx;cases y with
  | non=>cases ry;exact PySem.EqNone.ne_str_none (GK I q (by simp))
  | bl j=>cases ry;exact PySem.EqMixed.ne_str_bool (GK I q (by simp))
  | int j=>obtain ⟨t',rfl⟩:=ry;exact PySem.EqMixed.ne_str_int (GK I q (by simp))
  | str j=>obtain ⟨t',rfl⟩:=ry;exact ne_str (GK I q (congrArg not ZT))
  | _=>exact absurd (show false=true from hs) Bool.false_ne_true
 | byt i=>
  obtain ⟨t,rfl⟩:=rx;cases y with
  | byt j=>obtain ⟨t',rfl⟩:=ry;exact W.ne_bytes (GK I q (congrArg not ZU))
  | _=>exact absurd (show false=true from hs) Bool.false_ne_true
 | _=>cases y <;> exact absurd (show false=true from hs) Bool.false_ne_true
theorem Za:OpR X (compareOp .Lt) (rI0 λi j=>.bl (decide (i<j))):=Zfz λ_ _ _ _ _ _ _ q=>lt_int q
theorem Zdq:OpR X (compareOp .LtE) (rI0 λi j=>.bl (decide (i<=j))):=Zfz λ_ _ _ _ _ _ _ q=>le_int q
theorem Zev:OpR X (compareOp .Gt) (rI0 λi j=>.bl (decide (j<i))):=Zfz λ_ _ _ _ _ _ _ q=>gt_int q
theorem ZbK:OpR X (compareOp .GtE) (rI0 λi j=>.bl (decide (j<=i))):=Zfz λ_ _ _ _ _ _ _ q=>ge_int q
theorem ZV:OpR X (compareOp .Is) (λx y H Q=>y=.non/\Q (.bl (decide (x=.non))) H):=by
 intro qQ s σ H x y v u Q I rx ry h;obtain ⟨rfl,q⟩:=h;cases ry;refine is_none_gen (GK I q ?_);cases x <;> first
  | (cases rx;rfl)
  | (obtain ⟨t,rfl⟩:=rx;rfl)
theorem XB:OpR X (compareOp .IsNot) (λx y H Q=>y=.non/\Q (.bl (!decide (x=.non))) H):=by
 intro qQ s σ H x y v u Q I rx ry h;obtain ⟨rfl,q⟩:=h;cases ry;refine isnot_none_gen (GK I q ?_);cases x <;> first
  | (cases rx;rfl)
  | (obtain ⟨t,rfl⟩:=rx;rfl)
theorem Gz (b:Expr){op:CmpOp}(h:op≠.In:=by decide)(h2:op≠.NotIn:=by decide):behindInMarks op b=false:=by
 have e1:(op == CmpOp.In)=false:=by cases op <;> first | rfl | exact absurd rfl h
 have e2:(op == CmpOp.NotIn)=false:=by cases op <;> first | rfl | exact absurd rfl h2
 cases b <;> simp [behindInMarks,e1,e2]
theorem Jf {op:CmpOp}{r:R2}(ho:OpR X (compareOp op) r)(ha:PE X a ta)(hb:PE X b tb)(hm:behindInMarks op b=false):PE X (.Compare a [op] [b] pos) (tOp r ta tb):=by
 intro qQ s σ H Q I h;exact wpAny_Compare1 (ZfV ha hb I h λv u s2 x y H2 I2 rx ry q=>ho qQ s2 σ H2 x y v u Q I2 rx ry q) hm
def Zew (t:TE):TT:=λσ H Q=>t σ H λx H'=>∃k,x=.bl k/\Q k H'
theorem Gr {op:CmpOp}{r:R2}(ho:OpR X (compareOp op) r)(ha:PE X a ta)(hb:PE X b tb)(hm:behindInMarks op b=false):PT X (.Compare a [op] [b] pos) (Zew (tOp r ta tb)):=by
 intro qQ s σ H Q I h;refine wpAny_isTrue_Compare1 (thn (ha qQ s σ H _ I h) λv s1 ⟨x,H1,I1,r1,q1⟩=>thn (hb qQ s1 σ H1 _ I1 q1) λu s2 ⟨y,H2,I2,r2,q2⟩=>
  thn (ho qQ s2 σ H2 x y v u _ I2 r1 r2 q2) λc s3 ⟨z,H3,I3,r3,k,e,q3⟩=>?_) hm
 subst e;cases r3;exact wpAny_truthy_bool ⟨H3,I3,q3⟩
def ZcS (r r':R2)(ta tb tc:TE):TE:=λσ H Q=>ta σ H λx H1=>tb σ H1 λy H2=>r x y H2 λz H3=>∃k,z=.bl k /\
 (if k=true then tc σ H3 λw' H4=>r' y w' H4 Q else Q (.bl false) H3)
theorem ZbL {op op':CmpOp}{r r':R2}(ho:OpR X (compareOp op) r)(ho':OpR X (compareOp op') r')(ha:PE X a ta)(hb:PE X b tb)(hc:PE X c tc)(hm:lastMarks [op,op'] [b,c]=false:=by with_unfolding_all rfl):PE X (.Compare a [op,op'] [b,c] pos) (ZcS r r' ta tb tc):=by
 intro qQ s σ H Q I h;refine Compare_chain (thn (ha qQ s σ H _ I h) λv s1 ⟨x,H1,I1,r1,q1⟩=>chain_link (thn (hb qQ s1 σ H1 _ I1 q1) λu s2 ⟨y,H2,I2,r2,q2⟩=>
  thn (ho qQ s2 σ H2 x y v u _ I2 r1 r2 q2) λd s3 ⟨z,H3,I3,r3,k,e,q3⟩=>?_)) hm
 subst e;cases r3;refine wpAny_truthy_bool ?_;cases k with
 | false=>exact ite_ff ⟨.bl false,H3,I3,rfl,q3⟩
 | true=>exact ite_tt (chain_last (thn (hc qQ s3 σ H3 _ I3 q3) λw' s4 ⟨z',H4,I4,r4,q4⟩=>ho' qQ s4 σ H4 y z' u w' Q I4 r2 r4 q4))
theorem ZbM {op op':CmpOp}{r r':R2}(ho:OpR X (compareOp op) r)(ho':OpR X (compareOp op') r')(ha:PE X a ta)(hb:PE X b tb)(hc:PE X c tc)(hm:lastMarks [op,op'] [b,c]=false:=by with_unfolding_all rfl):PT X (.Compare a [op,op'] [b,c] pos) (Zew (ZcS r r' ta tb tc)):=by
 intro qQ s σ H Q I h;refine isTrue_chain (thn (ha qQ s σ H _ I h) λv s1 ⟨x,H1,I1,r1,q1⟩=>test_link (thn (hb qQ s1 σ H1 _ I1 q1) λu s2 ⟨y,H2,I2,r2,q2⟩=>
  thn (ho qQ s2 σ H2 x y v u _ I2 r1 r2 q2) λd s3 ⟨z,H3,I3,r3,k,e,q3⟩=>?_)) hm
 subst e;cases r3;refine wpAny_truthy_bool ?_;cases k with
 | false=>
  obtain ⟨k',e',q'⟩:=q3;cases e';exact ite_ff ⟨H3,I3,q'⟩
 | true=>
  refine ite_tt (test_last (thn (hc qQ s3 σ H3 _ I3 q3) λw' s4 ⟨z',H4,I4,r4,q4⟩=>thn (ho' qQ s4 σ H4 y z' u w' _ I4 r2 r4 q4) λd' s5 ⟨z2,H5,I5,r5,k2,e2,q5⟩=>?_));subst e2;cases r5;exact wpAny_truthy_bool ⟨H5,I5,q5⟩
def Zg2 (K:FF)(x:V)(H:Hp)(k:Bool):Prop:=
 match x with
 | .non=>k=false
 | .bl b=>k=b
 | .int i=>k=(i != 0)
 | .str y=>y.length<=sizeLine/\k=((y.length:Int) != 0)
 | .byt y=>y.size<=sizeLine/\k=((y.size:Int) != 0)
 | .ref p=>(∃xs,SqL K H p xs/\k=!xs.isEmpty)\/(∃xs,SqT K H p xs/\k=!xs.isEmpty)\/∃kvs,H p=some (.dK kvs)/\k=!kvs.isEmpty
 | _=>False
theorem Vv {κ:Type}{kvs:List (κ×V)}{vs:List (κ×Aa)}(r:KV kvs vs):(!vs.isEmpty)=!kvs.isEmpty:=by
 cases r <;> rfl
theorem Uk {xs:List V}{its:LW}(r:Vals xs its):(!its.toArray.isEmpty)=!xs.isEmpty:=by
 cases r <;> simp
theorem UZ:(sizeLine:Nat)<2 ^ 63:=by rw [sizeLine_eq];decide
theorem Zex:Zhw X (λx H Q=>∃k,Zg2 X.K x H k/\Q k H):=by
 intro qQ s σ H x v Q I rx h;obtain ⟨k,e,q⟩:=h;have hl:=UZ;have hs:sizeLine=16777216:=sizeLine_eq;cases x with
 | non=>
  cases rx;have e':k=false:=e;subst e';exact truthy_none ⟨H,I,q⟩
 | bl b=>
  cases rx;have e':k=b:=e;subst e';exact wpAny_truthy_bool ⟨H,I,q⟩
 | int i=>
  obtain ⟨t,rfl⟩:=rx;have e':k=(i != 0):=e;subst e';exact PySem.P.truthy_int ⟨H,I,q⟩
 | str y=>
  obtain ⟨t,rfl⟩:=rx;obtain ⟨hy,e'⟩:y.length<=sizeLine/\k=((y.length:Int) != 0):=e;subst e';exact PySem.P.truthy_str (by lia) ⟨H,I.tok _,q⟩
 | byt y=>
  obtain ⟨t,rfl⟩:=rx;obtain ⟨hy,e'⟩:y.size<=sizeLine/\k=((y.size:Int) != 0):=e;subst e';exact W.truthy_bytes (by lia) ⟨H,I.tok _,q⟩
 | ref p=>
  cases rx;have e':(∃xs,SqL X.K H p xs/\k=!xs.isEmpty)\/(∃xs,SqT X.K H p xs/\k=!xs.isEmpty)\/∃kvs,H p=some (.dK kvs)/\k=!kvs.isEmpty:=e;rcases e' with ⟨xs,hx,e'⟩ | ⟨xs,hx,e'⟩ | ⟨kvs,hx,e'⟩
  ·subst e';obtain ⟨its,r,pl,hz⟩:=I.list hx;have qV:=r.length;exact wpAny_truthy_list pl.isList (by simp only [List.size_toArray];lia) ⟨H,I.tok _,by rw [Uk r];exact q⟩
  ·subst e';obtain ⟨its,r,pl,hz⟩:=I.tuple hx;have qV:=r.length;exact truthy_tuple pl (by simp only [List.size_toArray];lia) ⟨H,I.tok _,by rw [Uk r];exact q⟩
  ·subst e';obtain ⟨hz,hS,vs,r,m⟩:kvs.length<=sizeLine/\(p == sysModules)=false/\∃vs,KV kvs vs/\s.heap.DictOf (GE X.prog X.w) p vs:=I.hok p _ hx;have qV:kvs.length=vs.length:=Paired.length r;exact wpAny_truthy_dict hS m (by lia) ⟨H,I.tok _,by rw [Vv r];exact q⟩
 | _=>exact (show False from e).elim
theorem Ju (ha:PE X a ta)(he:∀whole,isTrue a X.env whole=(do let v <- whole;standAt a.pos;holding [v] (truthy v))) :
  PT X a (λσ H Q=>ta σ H λx H'=>∃k,Zg2 X.K x H' k/\Q k H'):=by
 intro qQ s σ H Q I h;exact isTrue_plain (thn (ha qQ s σ H _ I h) λv s1 ⟨x,H1,I1,r1,q1⟩=>Zex qQ s1 σ H1 x v Q I1 r1 q1) (he _)
theorem ZW {x:V}{us:LW}(r:Vals [x] us):∃u,us=[u]/\RelV x u:=by
 cases r with
 | cons r1 r2=>cases r2;exact ⟨_,rfl,r1⟩
theorem Zey {x y:V}{us:LW}(r:Vals [x,y] us):∃u w',us=[u,w']/\RelV x u/\RelV y w':=by
 cases r with
 | cons r1 r2=>
  cases r2 with
  | cons r3 r4=>cases r4;exact ⟨_,_,rfl,r1,r3⟩
theorem ZX (hc:X.calm=true):Jt X (.builtin "max") (λxs H Q=>∃i j,xs=[.int i,.int j]/\Q (.int (if j > i then j else i)) H):=by
 intro qQ s σ H xs us Q I r h;obtain ⟨i,j,rfl,q⟩:=h;obtain ⟨u,w',rfl,⟨t,rfl⟩,⟨t',rfl⟩⟩:=Zey r;refine max_two_ints (I.ok.hd hc) λh' tk k=>⟨_,H,I.kept k,?_,q⟩;by_cases hj:j > i
 ·rw [if_pos hj,if_pos hj];exact ⟨_,rfl⟩
 ·rw [if_neg hj,if_neg hj];exact ⟨_,rfl⟩
theorem ZY (hc:X.calm=true):Jt X (.builtin "min") (λxs H Q=>∃i j,xs=[.int i,.int j]/\Q (.int (if j<i then j else i)) H):=by
 intro qQ s σ H xs us Q I r h;obtain ⟨i,j,rfl,q⟩:=h;obtain ⟨u,w',rfl,⟨t,rfl⟩,⟨t',rfl⟩⟩:=Zey r;refine min_two_ints (I.ok.hd hc) λh' tk k=>⟨_,H,I.kept k,?_,q⟩;by_cases hj:j<i
 ·rw [if_pos hj,if_pos hj];exact ⟨_,rfl⟩
 ·rw [if_neg hj,if_neg hj];exact ⟨_,rfl⟩
theorem ZZ:Jt X (.type "int") (λxs H Q=>(∃i,xs=[.int i]/\Q (.int i) H)\/∃k,xs=[.bl k]/\Q (.int (if k then 1 else 0)) H):=by
 intro qQ s σ H xs us Q I r h;rcases h with ⟨i,rfl,q⟩ | ⟨k,rfl,q⟩
 ·obtain ⟨u,rfl,t,rfl⟩:=ZW r;exact call_int_int ⟨.int i,H,I,⟨_,rfl⟩,q⟩
 ·obtain ⟨u,rfl,r1⟩:=ZW r;cases r1;exact call_int_bool ⟨.int (if k then 1 else 0),H,I.tok _,⟨_,rfl⟩,q⟩
end
end L2
namespace L2
open PySem PySem.Spec PyProof.Rows
theorem RelO.some_of {v:V}{o:Option Aa}(r:RelO (some v) o):∃u,o=some u/\RelV v u:=by
 cases o with
 | none=>exact (show False from r).elim
 | some u=>exact ⟨u,rfl,r⟩
end L2
namespace L2
open PySem PySem.Spec PyProof.Rows
structure Room (k:Nat)(A:Around):Prop where
 hd:A.handled=none
 dp:A.depth+3 * k+5<recursionLimit
 un:A.units+16 * k+200<cLine
theorem Room.mono {j k:Nat}{A:Around}(r:Room k A)(h:j<=k):Room j A:=⟨r.hd,by have:=r.dp;lia,by have:=r.un;lia⟩
theorem Room.deeper {k:Nat}{A:Around}(r:Room (k+1) A)(env:Env):Room k (A.deeper env):=
 ⟨r.hd,by have:=r.dp;show A.depth+1+3 * k+5<_;lia,by have:=r.un;show A.units+3+16 * k+200<_;lia⟩
theorem Room.depth {k:Nat}{A:Around}(r:Room k A):A.depth<recursionLimit:=by have:=r.dp;lia
theorem Room.units {k:Nat}{A:Around}(r:Room k A):A.units+64<cLine:=by have:=r.un;lia
def Zhy:TA:=λ_ H Q=>Q [] H
def ZfX (ta:TE)(tr:TA):TA:=λσ H Q=>ta σ H λx H1=>tr σ H1 λxs H2=>Q (x::xs) H2
section
variable {X:Cx}{e:Expr}{es:List Expr}{te:TE}{t:TA}{pos:Pos}
theorem Gd:PA X [] Zhy:=λ_ _ _ _ H Q I h=>Calls.spliced_nil ⟨[],H,I,.nil,h⟩
theorem Ga (ha:PE X e te)(hr:PA X es t)(hs:starEach (e::es) X.env=(false,eval e X.env)::starEach es X.env:=by rfl):PA X (e::es) (ZfX te t):=by
 intro pos qQ s σ H Q I h;rw [hs];show wpAny _ _ (spliced ((false,eval e X.env)::backTo pos (starEach es X.env))) _ _ s;refine Calls.spliced_cons (thn (ha qQ s σ H _ I h) λu s1 ⟨x,H1,I1,r1,q1⟩=>?_);exact thn (hr pos qQ s1 σ H1 _ I1 q1) λus s2 ⟨xs,H2,I2,r2,q2⟩=>⟨x::xs,H2,I2,.cons r1 r2,q2⟩
def Zhz (t:TA):TE:=λσ H Q=>t σ H λxs H1=>xs.length<=sizeLine/\∀p,H1 p=none->Q (.ref p) (upd H1 p (.tup xs))
def ZhA (t:TA):TE:=λσ H Q=>t σ H λxs H1=>xs.length<=sizeLine/\∀p,H1 p=none->Q (.ref p) (upd H1 p (.lst xs))
theorem JH {x1}(h:PA X es t):PE X (.Tuple es x1 pos) (Zhz t):=by
 intro qQ s σ H Q I hq;refine wpAny_Tuple_spliced (thn (h pos qQ s σ H _ I hq) λus s1 ⟨xs,H1,I1,r,z,q⟩=>⟨by rw [<-r.length];exact z,?_⟩);have hf:H1 s1.heap.objs.size=none:=I1.hok.fresh (Nat.le_refl _);refine ⟨.ref s1.heap.objs.size,upd H1 s1.heap.objs.size (.tup xs),I1.laid (t':=s1.toks) (λb u e=>Heap.get?_push_of_some _ e) (Nat.le_refl _) ?_,rfl,q _ hf⟩;exact ⟨z,us,r,⟨_,Heap.get?_push_size _ rfl,rfl,_,rfl⟩⟩
theorem GV (h:PA X es t):PE X (.List es pos) (ZhA t):=by
 intro qQ s σ H Q I hq;refine wpAny_List_spliced (thn (h pos qQ s σ H _ I hq) λus s1 ⟨xs,H1,I1,r,z,q⟩=>⟨by rw [<-r.length];exact z,?_⟩);have hf:H1 s1.heap.objs.size=none:=I1.hok.fresh (Nat.le_refl _);refine ⟨.ref s1.heap.objs.size,upd H1 s1.heap.objs.size (.lst xs),I1.laid (t':=s1.toks) (λb u e=>Heap.get?_push_of_some _ e) (Nat.le_refl _) ?_,rfl,q _ hf⟩;exact ⟨z,us,0,r,Heap.get?_push_size _ rfl⟩
end
abbrev Sp:=List V->Hp->VK->XK->Prop
abbrev CXT:=List Env->Hp->SS->XK->Aa->SS->Prop
structure ZfA (P:PP)(w:Ab)(K:FF)(mg:Str->Option Aa)(base:Heap)(A:Around)(outer:List Env)(s:SS)(H:Hp):Prop where
 frames:A.frames=some outer
 mod:Mod K mg base
 bs:∀b o,base.get? b=some o->s.heap.get? b=some o/\H b=none
 bsz:base.objs.size<=s.heap.objs.size
 funs:s.heap.FunFrames base outer
 frf:∀b∈frs outer,H b=none
 hok:HOk P w H s.heap
 bare:AllBare s.gens
def CE (outer:List Env)(P:PP)(w:Ab)(H:Hp)(s:SS)(Q:VK)(u:Aa)(s':SS):Prop:=
 ∃v H',s'.os=s.os/\AllBare s'.gens/\Un (frs outer) [] H H' s.heap s'.heap/\HOk P w H' s'.heap/\RelV v u/\Q v H'
def CR (CX:CXT)(outer:List Env)(P:PP)(w:Ab)(H:Hp)(s:SS)(Q:VK)(E:XK)(r:Result)(s':SS):Prop:=
 match r with
 | .ok (.ret u)=>CE outer P w H s Q u s'
 | .ok _=>False
 | .error e=>CX outer H s E e s'
structure GG (P:PP)(w:Ab)(K:FF)(mg:Str->Option Aa)(base:Heap)(CX:CXT)(k:Nat)(f:AD)(fd:FuncData)(ps:List Str)(sp:Sp):Prop where
 len:∀vs H Q E,sp vs H Q E->vs.length=ps.length
 run:∀(A:Around)(outer:List Env)(s:SS)(H:Hp)(args:Args)(us:LW)(vs:List V)(Q:VK)(E:XK),Room k A->ZfA P w K mg base A outer s H->BindsTo s fd args (ps.zip us)->Vals vs us->sp vs H Q E ->
  codeAny (model P w) A (.call (.ref f) args) (CR CX outer P w H s Q E) s
section
variable {X:Cx}{qQ:List (AD×Obj)}{σ:St}{H:Hp}{s s':SS}
theorem Inv.env0 (I:Inv X qQ σ H s):ZfA X.prog X.w X.K X.mg X.base X.A X.stack s H:=
 ⟨I.ok.frames,I.ok.mod,I.bs,Nat.le_trans I.ok.bsz I.sz,I.stack,I.stkFree,I.hok,I.bare⟩
theorem Inv.after {Q:VK}{u:Aa}(I:Inv X qQ σ H s)(h:CE X.stack X.prog X.w H s Q u s'):EP X qQ σ Q u s':=by
 obtain ⟨v,H',os,bare,un,hok,r,q⟩:=h;obtain ⟨hh,g,d,t,os'⟩:=s';obtain rfl:os'=s.os:=os;exact ⟨v,H',I.call (h':=hh) (g':=g) (d':=d) (t':=t) (ch:=[]) un hok bare (λb z=>absurd z (by simp)),r,q⟩
end
def ZfY (sp:Sp)(dvs:List V)(E:XK)(t:TA):TE:=λσ H Q=>t σ H λvs H1=>sp (vs++dvs) H1 Q E
def Binds (K:FF)(fd:FuncData)(ps:List Str)(ds:LW):Prop:=
 ∀(s:SS)(us:LW),K.In s.heap->(us++ds).length=ps.length->BindsTo s fd ⟨us,[]⟩ (ps.zip (us++ds))
theorem Binds.all {K:FF}{fd:FuncData}{ps:List Str}(h:∀us:LW,us.length=ps.length->bindArgs fd ⟨us,[]⟩=pure (ps.zip us)):Binds K fd ps []:=λs us _ hl=>by
 rw [List.append_nil] at hl ⊢;exact .of_eq (h us hl)
def WM (CX:CXT)(X:Cx)(E:XK):Prop:=∀(qQ:List (AD×Obj))(σ:St)(H:Hp)(s:SS)(e:Aa)(s':SS),Inv X qQ σ H s->CX X.stack H s E e s'->X.xe e s'
section
variable {X:Cx}{CX:CXT}{k:Nat}{f C:AD}{fd:FuncData}{ps:List Str}{sp:Sp}{dvs:List V}{ds:LW}{E:XK}{x m:Str}{p pos apos:Pos}{e o:Expr}{es:List Expr}{ta:TE}{t:TA}
theorem Zez {qQ:List (AD×Obj)}{σ:St}{H:Hp}{s:SS}{Q:VK}{us:LW}{vs:List V}(F:GG X.prog X.w X.K X.mg X.base CX k f fd ps sp)(hr:Room k X.A)(hb:Binds X.K fd ps ds)(hd:Vals dvs ds)(hx:WM CX X E)(I:Inv X qQ σ H s)(r:Vals vs us)(h:sp (vs++dvs) H Q E):wpAny (model X.prog X.w) X.A (call (.ref f) us) (EP X qQ σ Q) X.xe s:=by
 have r2:Vals (vs++dvs) (us++ds):=r.append hd;have hl:(us++ds).length=ps.length:=by rw [<-r2.length];exact F.len _ _ _ _ h
 refine wpAny_call (codeAny_mono (F.run X.A X.stack s H ⟨us,[]⟩ (us++ds) (vs++dvs) Q E hr I.env0 (hb s us I.kIn hl) r2 h) λr s' hq=>?_);cases r with
 | error e=>exact hx qQ σ H s e s' I hq
 | ok fl=>
  cases fl with
  | ret u=>exact I.after hq
  | next=>exact False.elim hq
  | brk=>exact False.elim hq
  | cont=>exact False.elim hq
theorem Gh (F:GG X.prog X.w X.K X.mg X.base CX k f fd ps sp)(hr:Room k X.A)(hg:Gl X x)(hm:X.mg x=some (.ref f))(hk:W.keepIn X.K (.ref f)=true)(hb:Binds X.K fd ps ds)(hd:Vals dvs ds)(hx:WM CX X E)(ha:PA X (e::es) t)(hdb:(x == ("__debug__" : Str))=false:=by decide)(he:starEach (e::es) X.env=(false,eval e X.env)::starEach es X.env:=by rfl)(hpl:(backTo pos (starEach es X.env)).any (·.1)=false:=by rfl) :
  PE X (.Call (.Name x p) (e::es) [] pos) (ZfY sp dvs E t):=by
 intro qQ s σ H Q I h;refine wpAny_Call_Name_kw (XA I hg hm ?_ hdb);refine W.callWith_K (h₀:=X.base) I.ok.mod.kin hk (thn (ha pos qQ s σ H _ I h) λus s1 ⟨vs,H1,I1,r,q⟩=>⟨I1.kIn,?_⟩) he hpl;exact Zez F hr hb hd hx I1 r q
end
structure Gk (N P:List Str)(sc:Scope):Prop where
 kind:sc.kind=.function
 co:sc.isCoroutine=false
 gen:sc.isGenerator=false
 nd:N.Nodup
 pre:N.take P.length=P
 par:∀x∈P,sc.names.lookup x=some .local\/sc.names.lookup x=some .cell
 nofree:∀y∈sc.names,y.2≠.free
theorem WN {kindOf:Str->Option NameKind}{x:Str}:∀{binds:List (Str×Aa)}{m:Str->Option Aa},(∀v,(x,v) ∉ binds)->bindL kindOf binds m x=m x
 | [],_,_=>rfl
 | (n,v)::r,m,h=>by
  unfold bindL;rw [WN λw hw=>h w (List.mem_cons_of_mem _ hw)];split
  ·have:x≠n:=by rintro rfl;exact h v List.mem_cons_self
   simp [this]
  ·rfl
theorem WP {kindOf:Str->Option NameKind}{x:Str}:∀{binds:List (Str×Aa)}{m:Str->Option Aa},(∀v,(x,v) ∉ binds)->bindC kindOf binds m x=m x
 | [],_,_=>rfl
 | (n,v)::r,m,h=>by
  unfold bindC;rw [WP λw hw=>h w (List.mem_cons_of_mem _ hw)];split
  ·rfl
  ·have:x≠n:=by rintro rfl;exact h v List.mem_cons_self
   simp [this]
theorem WQ {kindOf:Str->Option NameKind}{x:Str}{v:Aa}:∀{P:List Str}{vs:LW}{i:Nat}{m:Str->Option Aa},P.Nodup->P[i]?=some x->vs[i]?=some v->kindOf x=some .local ->
  bindL kindOf (P.zip vs) m x=some v
 | [],_,_,_,_,h,_,_=>by simp at h
 | _::_,[],_,_,_,_,h,_=>by simp at h
 | p::P,w::vs,0,m,nd,h1,h2,hk=>by
  simp at h1 h2;subst h1;subst h2;show bindL kindOf ((p,w)::P.zip vs) m p=_;unfold bindL;rw [WN λv hv=>(List.nodup_cons.mp nd).1 (List.of_mem_zip hv).1,if_pos hk];simp
 | p::P,w::vs,i+1,m,nd,h1,h2,hk=>by
  show bindL kindOf ((p,w)::P.zip vs) m x=_;unfold bindL;exact WQ (i:=i) (List.nodup_cons.mp nd).2 (by simpa using h1) (by simpa using h2) hk
theorem WR {kindOf:Str->Option NameKind}{x:Str}{v:Aa}:∀{P:List Str}{vs:LW}{i:Nat}{m:Str->Option Aa},P.Nodup->P[i]?=some x->vs[i]?=some v->kindOf x≠some .local ->
  bindC kindOf (P.zip vs) m x=some v
 | [],_,_,_,_,h,_,_=>by simp at h
 | _::_,[],_,_,_,_,h,_=>by simp at h
 | p::P,w::vs,0,m,nd,h1,h2,hk=>by
  simp at h1 h2;subst h1;subst h2;show bindC kindOf ((p,w)::P.zip vs) m p=_;unfold bindC;rw [WP λv hv=>(List.nodup_cons.mp nd).1 (List.of_mem_zip hv).1,if_neg hk];simp
 | p::P,w::vs,i+1,m,nd,h1,h2,hk=>by
  show bindC kindOf ((p,w)::P.zip vs) m x=_;unfold bindC;exact WR (i:=i) (List.nodup_cons.mp nd).2 (by simpa using h1) (by simpa using h2) hk
def start (N:List Str)(vs:List V):St:=vs.map some++List.replicate (N.length-vs.length) none
def Zbz (CX:CXT)(P:PP)(w:Ab)(K:FF)(mg:Str->Option Aa)(base:Heap)(N:List Str)(qual:Str)(scope:Scope)(f:AD)(cd:Aa)(A:Around)(outer:List Env)(s:SS)(H:Hp)(E:XK):Cx where
 prog:=P
 w:=w
 K:=K
 mg:=mg
 base:=base
 A:=A.deeper (envOfC qual scope s.heap.objs.size f cd)
 N:=N
 s₀:=s
 H₀:=H
 env:=envOfC qual scope s.heap.objs.size f cd
 outer:=outer
 stack:=envOfC qual scope s.heap.objs.size f cd::outer
 ex:=[]
 calm:=true
 fn:=λ_=>true
 pn:=[]
 xe:=λe s'=>wpAny (model P w) (A.deeper (envOfC qual scope s.heap.objs.size f cd)) (leaving (envOfC qual scope s.heap.objs.size f cd) e) (λ_ s''=>CX outer H s E e s'') (λe' s''=>CX outer H s E e' s'') s'
theorem Yh {sc:Scope}{n:Nat}{x:Str}(h:sc.names.lookup x=some .cell):∃c,(cellsFrom n sc.names []).lookup x=some c:=by
 have q:=W.cellsFrom_some sc.names n [] (.inl h);exact Option.isSome_iff_exists.mp q
theorem Z0 {CX:CXT}{P:PP}{w:Ab}{K:FF}{mg:Str->Option Aa}{base:Heap}{N ps:List Str}{qual:Str}{scope:Scope}{f:AD}{cd:Aa}{A:Around}{outer:List Env}{s s1:SS}{H:Hp}{E:XK}{us:LW}{vs:List V}(S:Gk N ps scope)(hd:A.handled=none)(e0:ZfA P w K mg base A outer s H)(hl:vs.length=ps.length)(r:Vals vs us)(x:InCallC s s.heap.objs.size (bindL (envOfC qual scope s.heap.objs.size f cd).kindOf (ps.zip us) λ_=>none) (cellsFrom (s.heap.objs.size+1) scope.names []) (bindC (envOfC qual scope s.heap.objs.size f cd).kindOf (ps.zip us) λ_=>none) s1) :
  Inv (Zbz CX P w K mg base N qual scope f cd A outer s H E) [] (start N vs) H s1:=by
 have hpl:ps.length<=N.length:=by have:=congrArg List.length S.pre;rw [List.length_take] at this;lia
 obtain ⟨h1,tk,rfl,hk⟩:=x.done;have noA:∀b:AD,b ∉ (Zbz CX P w K mg base N qual scope f cd A outer s H E).ex:=λb z=>absurd (show b∈([]:List AD) from z) (by simp);refine ⟨⟨e0.mod,S.kind,rfl,rfl,Nat.le_refl _,λy z c h1 h2=>?_,λy hy=>?_,λy c _ h=>?_,λ_=>hd,Around.frames_deeper e0.frames,.inr ⟨rfl,rfl⟩,λb z=>absurd z (noA b),e0.bs,e0.bsz,λb _ _=>noA b,λb z=>absurd z (noA b),e0.funs,e0.frf⟩,
  rfl,e0.bare,Un.kept hk,⟨_,x.toInCall.ns,λi y v h1 h2 h3=>?_⟩,λy c h=>⟨_,x.cell y c h⟩,e0.hok.fresh (Nat.le_refl _),λy c h=>?_,λp hp=>absurd (show p∈([]:List (AD×Obj)) from hp) (by simp),e0.hok.kept hk,?_⟩
 ·exact name_of_addr x.apart (PySem.mem_of_lookup h1) (PySem.mem_of_lookup h2)
 ·have hy:scope.names.lookup y=some .cell\/scope.names.lookup y=some .free:=hy;rcases hy with hy | hy
  ·exact Yh hy
  ·exact absurd rfl (S.nofree _ (PySem.mem_of_lookup hy))
 ·exact Nat.le_of_lt (x.above y c (PySem.mem_of_lookup h))
 ·have hi:i<vs.length:=by
   unfold start at h2;by_cases hi:i<vs.length
   ·exact hi
   ·rw [List.getElem?_append_right (by simpa using hi)] at h2;rw [List.getElem?_replicate] at h2;split at h2 <;> cases h2
  have ha:vs[i]?=some v:=by
   unfold start at h2;rw [List.getElem?_append_left (by simpa using hi),List.getElem?_map] at h2;cases e:vs[i]? with
   | none=>rw [e] at h2;cases h2
   | some a=>rw [e] at h2;cases h2;rfl
  obtain ⟨u,hu,rv⟩:=r.get ha;have hp:ps[i]?=some y:=by
   rw [<-S.pre,List.getElem?_take_of_lt (by lia)];exact h1
  have ndP:ps.Nodup:=by rw [<-S.pre];exact S.nd.sublist (List.take_sublist _ _)
  refine ⟨u,rv,?_⟩;rcases S.par y (List.mem_of_getElem? hp) with k | k
  ·exact .inl ⟨k,WQ ndP hp hu k⟩
  ·obtain ⟨c,e⟩:=Yh (n:=s.heap.objs.size+1) k;refine .inr ⟨.inl k,c,e,?_⟩;have q:=x.cell y c e;rw [WR ndP hp hu (by show scope.names.lookup y≠_;rw [k];decide)] at q;exact q
 ·exact e0.hok.fresh (Nat.le_of_lt (x.above y c (PySem.mem_of_lookup h)))
 ·unfold start;show _=N.length;rw [List.length_append,List.length_map,List.length_replicate]
  lia
theorem ZeA {CX:CXT}{P:PP}{w:Ab}{K:FF}{mg:Str->Option Aa}{base:Heap}{k:Nat}{f:AD}{name qual:Str}{params:Arguments}{body:List Stmt}{scope:Scope}{dV kV doc pm cdv ct oc:Aa}{an od:Option AD}{osl:Array (Option Aa)}{N ps:List Str}{sp:Sp}(lk:K.lookup f=some ⟨oc,od,.func (W.fnOf name qual params body scope dV kV doc pm an cdv ct),osl⟩)(hcd:W.codeIn K cdv qual=true)(S:Gk N ps scope)(len:∀vs H Q E,sp vs H Q E->vs.length=ps.length)(jZ:∀(A:Around)(outer:List Env)(s:SS)(H:Hp)(vs:List V)(Q:VK)(E:XK),Room k (A.deeper (envOfC qual scope s.heap.objs.size f cdv))->sp vs H Q E ->
   ∃t,PSs (Zbz CX P w K mg base N qual scope f cdv A outer s H E) body t/\t { nx:=λ_ H'=>Q .non H',rt:=Q } (start N vs) H) :
  GG P w K mg base CX (k+1) f (W.fnOf name qual params body scope dV kV doc pm an cdv ct) ps sp:=by
 refine ⟨len,λA outer s H args us vs Q E hr e0 hb r hsp=>?_⟩;have hl:=len _ _ _ _ hsp;have KX:K.In s.heap:=e0.mod.kin.keeps λb o e=>(e0.bs b o e).1;have lim:s.heap.NoLimit:=e0.mod.nolimit.keeps λb o e=>(e0.bs b o e).1;have hkind:∀y∈ps.zip us,scope.names.lookup y.1=some .local\/(scope.names.lookup y.1=some .cell/\((cellsFrom (s.heap.objs.size+1) scope.names []).lookup y.1).isSome=true):=λ⟨n,v⟩ hy=>by
  rcases S.par n (List.of_mem_zip hy).1 with q | q
  ·exact .inl q
  ·exact .inr ⟨q,W.cellsFrom_some _ _ _ (.inl q)⟩
 refine codeAny_call_function hr.depth (KX _ _ lk) rfl S.co S.gen rfl (W.codeRec_of KX hcd) (hb _ _ _ _ ?_);refine wpAny_newFunctionEnv_cells S.kind hkind λenv he s1 x=>?_;subst he;refine ⟨lim.keeps x.toInCall.keep,codeAny_func ?_⟩;obtain ⟨t,ht,hq⟩:=jZ A outer s H vs Q E (hr.deeper _) hsp;have I:Inv (Zbz CX P w K mg base N qual scope f cdv A outer s H E) [] (start N vs) H s1:=Z0 S hr.hd e0 hl r x;refine wpAny_mono (ht [] s1 (start N vs) H _ I hq) (λfl s' hs=>?_) λe s' hs=>hs;have fin:∀{σ':St}{H':Hp}{v:V}{u:Aa},Inv (Zbz CX P w K mg base N qual scope f cdv A outer s H E) [] σ' H' s'->RelV v u->Q v H'->CE outer P w H s Q u s':=
  λ{σ' H' v u} J rv q=>⟨v,H',J.os,J.bare,J.base,J.hok,rv,q⟩
 cases fl with
 | ret u=>
  obtain ⟨v,σ',H',J,rv,q⟩:=hs;exact fin J rv q
 | next=>
  obtain ⟨σ',H',J,q⟩:=hs;exact fin (v:=V.non) (u:=Value.none) J rfl q
 | brk=>
  obtain ⟨_,_,_,q⟩:=hs;exact False.elim q
 | cont=>
  obtain ⟨_,_,_,q⟩:=hs;exact False.elim q
end L2
namespace L2
open PySem PySem.Spec PyProof.Rows
section
variable {X:Cx}{x:Str}{p pos:Pos}{e:Expr}{es:List Expr}{t:TA}{id T:String}{r:List V->Hp->VK->Prop}
def tCB (r:List V->Hp->VK->Prop)(t:TA):TE:=λσ H Q=>t σ H λvs H1=>r vs H1 Q
theorem Gw (hc:Jt X (.builtin id) r)(hg:Gl X x)(hm:X.mg x=none)(hv:bootBuiltins x=some (.builtin id))(ha:PA X (e::es) t)(hn:x ≠ "__name__" := by decide)(hdb:(x == ("__debug__" : Str))=false:=by decide)(he:starEach (e::es) X.env=(false,eval e X.env)::starEach es X.env:=by rfl)(hpl:(backTo pos (starEach es X.env)).any (·.1)=false:=by rfl):PE X (.Call (.Name x p) (e::es) [] pos) (tCB r t):=by
 intro qQ s σ H Q I h;refine wpAny_Call_Name_kw (Vt I hg hm hv ?_ hn hdb);exact PyProof.Rows.callWith_builtin1 (thn (ha pos qQ s σ H _ I h) λus s1 ⟨vs,H1,I1,r1,q1⟩=>hc qQ s1 σ H1 vs us Q I1 r1 q1) he hpl
theorem GR (hc:Jt X (.type T) r)(hg:Gl X x)(hm:X.mg x=none)(hv:bootBuiltins x=some (.type T))(ha:PA X (e::es) t)(hn:x ≠ "__name__" := by decide)(hdb:(x == ("__debug__" : Str))=false:=by decide)(he:starEach (e::es) X.env=(false,eval e X.env)::starEach es X.env:=by rfl)(hpl:(backTo pos (starEach es X.env)).any (·.1)=false:=by rfl):PE X (.Call (.Name x p) (e::es) [] pos) (tCB r t):=by
 intro qQ s σ H Q I h;refine wpAny_Call_Name_kw (Vt I hg hm hv ?_ hn hdb);exact PyProof.Rows.callWith_type1 (thn (ha pos qQ s σ H _ I h) λus s1 ⟨vs,H1,I1,r1,q1⟩=>hc qQ s1 σ H1 vs us Q I1 r1 q1) he hpl
end
end L2
namespace HT
open PySem PyProof.Rows
section
variable {prog:PP}{w:Ab}{A:Around}{E:Aa->SS->Prop}{s:SS}
def sIx (n d:Nat):Option Int->Nat
 | none=>d
 | some v=>if v<0 then (v+(n:Int)).toNat else min v.toNat n
theorem sIx_none (n d:Nat):sIx n d none=d:=rfl
theorem sIx_nat (n d k:Nat):sIx n d (some (k:Int))=min k n:=by
 show (if (k:Int)<0 then ((k:Int)+(n:Int)).toNat else min (k:Int).toNat n)=min k n;rw [if_neg (by lia),Int.toNat_natCast]
end
end HT
namespace L2
open PySem PySem.Spec PyProof.Rows
abbrev TO:=St->Hp->(Option Int->Hp->Prop)->Prop
def PO (X:Cx)(e:Option Expr)(t:TO):Prop:=
 ∀(qQ:List (AD×Obj))(s:SS)(σ:St)(H:Hp)(Q:Option Int->Hp->Prop),Inv X qQ σ H s->t σ H Q ->
  wpAny (model X.prog X.w) X.A (evalPart e X.env) (λu s'=>∃o H',Inv X qQ σ H' s'/\IsPart u o/\Q o H') X.xe s
def Zdr:TO:=λ_ H Q=>Q none H
def ZfZ (t:TE):TO:=λσ H Q=>t σ H λx H1=>∃i,x=.int i/\Q (some i) H1
theorem Jv {ns:LI}:∀{us:LW},Vals (ns.map V.int) us->IntsAre us ns:=by
 induction ns with
 | nil=>intro us r;rw [List.map_nil] at r;cases r;exact .nil
 | cons n ns ih=>
  intro us r;rw [List.map_cons] at r;cases r with
  | cons r1 r2=>
   obtain ⟨t,e⟩:=r1;subst e;exact .cons n t (ih r2)
section
variable {X:Cx}{e:Expr}{te:TE}{lo hi:Option Expr}{tl th:TO}{pos p2:Pos}
theorem U0:PO X none Zdr:=by
 intro qQ s σ H Q I h;rw [evalPart_none];exact wpAny_pure ⟨none,H,I,.none,h⟩
theorem U1 (h:PE X e te):PO X (some e) (ZfZ te):=by
 intro qQ s σ H Q I hw;rw [evalPart_some];refine thn (h qQ s σ H _ I hw) λu s1 ⟨x,H1,I1,r1,q1⟩=>?_;obtain ⟨i,rfl,q⟩:=q1;obtain ⟨t,rfl⟩:=r1;exact ⟨some i,H1,I1,.int i t,q⟩
def SlR (X:Cx)(r:V->Option Int->Option Int->Hp->VK->Prop):Prop:=
 ∀(qQ:List (AD×Obj))(s:SS)(σ:St)(H:Hp)(x:V)(v vl vu:Aa)(lo hi:Option Int)(sl:AD)(Q:VK),Inv X qQ σ H s->RelV x v->s.heap.IsSliceOf sl vl vu .none->IsPart vl lo->IsPart vu hi->r x lo hi H Q ->
  ∃T id,typeLookup (.type T) "__getitem__" = pure (some (.builtin id))/\s.TypeIs v T/\wpAny (model X.prog X.w) X.A (getItem v (.ref sl)) (EP X qQ σ Q) X.xe s
def tSl (r:V->Option Int->Option Int->Hp->VK->Prop)(te:TE)(tl th:TO):TE:=λσ H Q=>te σ H λx H1=>tl σ H1 λl H2=>th σ H2 λu H3=>r x l u H3 Q
theorem OQ {r:V->Option Int->Option Int->Hp->VK->Prop}(hr:SlR X r)(he:PE X e te)(hl:PO X lo tl)(hu:PO X hi th):PE X (.Subscript e (.Slice lo hi none p2) pos) (tSl r te tl th):=by
 intro qQ s σ H Q I h;refine Subscript_ (thn (he qQ s σ H _ I h) λv s1 ⟨x,H1,I1,r1,q1⟩=>?_);refine wpAny_Slice (thn (hl qQ s1 σ H1 _ I1 q1) λvl s2 ⟨l,H2,I2,pl,q2⟩=>thn (hu qQ s2 σ H2 _ I2 q2) λvu s3 ⟨u,H3,I3,pu,q3⟩=>?_);rw [evalPart_none];refine wpAny_pure ?_;have I4:Inv X qQ σ H3 { s3 with heap:=s3.heap.push { cls:=.type "slice", data:=.fields #[vl,vu,.none] } }:=I3.kept (t':=s3.toks) λb ob q=>Heap.get?_push_of_some _ q;obtain ⟨T,id,hT,ht,hg⟩:=hr qQ { s3 with heap:=s3.heap.push { cls:=.type "slice", data:=.fields #[vl,vu,.none] } } σ H3 x v vl vu l u s3.heap.objs.size Q I4 r1 (Heap.IsSliceOf.new ..) pl pu q3;show wpAny (model X.prog X.w) X.A (subscriptTail e (.Slice lo hi none p2) v (.ref s3.heap.objs.size)) (EP X qQ σ Q) X.xe { s3 with heap:=s3.heap.push { cls:=.type "slice", data:=.fields #[vl,vu,.none] } };exact tail_any (ops:=[.ref s3.heap.objs.size,v]) ht hT hg (by with_unfolding_all rfl)
def UC (xs:List V)(lo hi:Option Int):List V:=(xs.drop (HT.sIx xs.length 0 lo)).take (HT.sIx xs.length xs.length hi-HT.sIx xs.length 0 lo)
theorem XC (xs:List V)(lo hi:Option Int):(UC xs lo hi).length<=xs.length:=by
 unfold UC;rw [List.length_take,List.length_drop]
 lia
end
end L2
namespace L2
open PySem PySem.Spec PyProof.Rows
def ixN (n:Nat)(i:Int):Option Nat:=if 0<=i then (if i<n then some i.toNat else none) else if -(n:Int)<=i then some (i+n).toNat else none
def atI {α:Type}(xs:List α)(i:Int):Option α:=(ixN xs.length i).bind λj=>xs[j]?
theorem Z1 {n:Nat}{i:Int}{j:Nat}(h:ixN n i=some j):seqIndex? i n=some j/\j<n/\-(n:Int)<=i/\i<n:=by
 unfold ixN at h;by_cases h0:0<=i
 ·rw [if_pos h0] at h;by_cases h1:i<n
  ·rw [if_pos h1] at h;have e:i.toNat=j:=Option.some.inj h;exact ⟨by rw [seqIndex_of h0 h1,e],by lia,by lia,h1⟩
  ·rw [if_neg h1] at h;cases h
 ·rw [if_neg h0] at h;by_cases h1:-(n:Int)<=i
  ·rw [if_pos h1] at h;have e:(i+n).toNat=j:=Option.some.inj h;exact ⟨by rw [seqIndex_neg (by lia) h1,e],by lia,h1,by lia⟩
  ·rw [if_neg h1] at h;cases h
theorem Z2 {α:Type}{xs:List α}{i:Int}{v:α}(h:atI xs i=some v):∃j,seqIndex? i xs.length=some j/\xs[j]?=some v/\j<xs.length/\-(xs.length:Int)<=i/\i<xs.length:=by
 unfold atI at h;cases e:ixN xs.length i with
 | none=>rw [e] at h;cases h
 | some j=>
  rw [e] at h;obtain ⟨h1,h2,h3,h4⟩:=Z1 e;exact ⟨j,h1,h,h2,h3,h4⟩
theorem Go {α:Type}{xs:List α}{j:Nat}{v:α}(h:xs[j]?=some v):atI xs (j:Int)=some v:=by
 have hj:j<xs.length:=(List.getElem?_eq_some_iff.mp h).1;have e:ixN xs.length (j:Int)=some j:=by
  unfold ixN;rw [if_pos (by lia),if_pos (by lia)];simp
 unfold atI;rw [e];exact h
def Zds (b:Expr):Prop:=∀o i,subscripted b false o i=operate [o,i] (getItem o i)
def IxR (X:Cx)(r:R2):Prop:=
 ∀(value slice:Expr)(qQ:List (AD×Obj))(s:SS)(σ:St)(H:Hp)(x y:V)(v u:Aa)(Q:VK),Inv X qQ σ H s->RelV x v->RelV y u->r x y H Q ->
  subscripted slice false v u=operate [v,u] (getItem v u)->wpAny (model X.prog X.w) X.A (subscriptTail value slice v u) (EP X qQ σ Q) X.xe s
def MtR (X:Cx)(id:String)(r:V->List V->Hp->VK->Prop):Prop:=
 ∀(qQ:List (AD×Obj))(s:SS)(σ:St)(H:Hp)(x:V)(xs:List V)(v:Aa)(us:LW)(Q:VK),Inv X qQ σ H s->RelV x v->Vals xs us->r x xs H Q ->
  wpAny (model X.prog X.w) X.A (call (.builtin id) (v::us)) (EP X qQ σ Q) X.xe s
section
variable {X:Cx}{a b:Expr}{ta tb:TE}{pos:Pos}
theorem Gx {r:R2}(hr:IxR X r)(ha:PE X a ta)(hb:PE X b tb)(hs:Zds b):PE X (.Subscript a b pos) (tOp r ta tb):=by
 intro qQ s σ H Q I h;exact Subscript_ (ZfV ha hb I h λv u s2 x y H2 I2 rx ry q=>hr a b qQ s2 σ H2 x y v u Q I2 rx ry q (hs _ _))
def Zg3 (K:FF):R2:=λx y H Q=>∃p xs i v,x=.ref p/\y=.int i/\SqL K H p xs/\atI xs i=some v/\Q v H
def Zg4 (K:FF):R2:=λx y H Q=>∃p xs i v,x=.ref p/\y=.int i/\SqT K H p xs/\atI xs i=some v/\Q v H
theorem Zdt:IxR X (Zg3 X.K):=by
 intro value slice qQ s σ H x y v u Q I rx ry h hs;obtain ⟨p,xs,i,z,rfl,rfl,hq,he,q⟩:=h;cases rx;obtain ⟨t,rfl⟩:=ry;obtain ⟨its,r,pl,hz⟩:=I.list hq;obtain ⟨j,h1,h2,h3,h4,h5⟩:=Z2 he;obtain ⟨w,ew,rw'⟩:=r.get h2;have hl:=r.length;have hn:=UZ;have fin:EP X qQ σ Q w s:=⟨z,H,I,rw',q⟩;by_cases h0:0<=i
 ·have hj:i.toNat=j:=by
   rw [seqIndex_of h0 h5] at h1;exact Option.some.inj h1
  exact item_listR pl.isList h0 (by lia) (by rw [hj];simpa using ew) fin hs
 ·have hj:(i+(its.toArray.size:Int)).toNat=j:=by
   rw [seqIndex_neg (by lia) h4] at h1;rw [List.size_toArray,<-hl];exact Option.some.inj h1
  exact subscriptTail_builtinR (x:=w) pl.isList.typeIs slot_list_getitem.lookup
   (wpAny_getItem_list_neg (Q:=λr s'=>r=w/\EP X qQ σ Q r s') pl.isList (by lia) (by rw [List.size_toArray] <;> lia) (by lia) (by rw [hj];simpa using ew) ⟨rfl,fin⟩) hs
theorem ZeB:IxR X (Zg4 X.K):=by
 intro value slice qQ s σ H x y v u Q I rx ry h hs;obtain ⟨p,xs,i,z,rfl,rfl,hq,he,q⟩:=h;cases rx;obtain ⟨t,rfl⟩:=ry;obtain ⟨its,r,pl,hz⟩:=I.tuple hq;obtain ⟨j,h1,h2,h3,h4,h5⟩:=Z2 he;obtain ⟨w,ew,rw'⟩:=r.get h2;have hl:=r.length;have hn:=UZ;have fin:EP X qQ σ Q w s:=⟨z,H,I,rw',q⟩;exact subscriptTail_builtinR (x:=w) pl.typeIs slot_tuple_getitem.lookup
  (getItem_tuple (j:=j) (Q:=λr s'=>r=w/\EP X qQ σ Q r s') pl (by lia) (by lia) (by rw [List.size_toArray,<-hl];exact h1) (by simpa using ew) ⟨rfl,fin⟩) hs
theorem Zb (its:LW)(n j:Nat)(u:Aa):Obj.mapSeq (·.setIfInBounds j u) { cls:=.type "list", data:=.seq its.toArray n }={ cls:=.type "list", data:=.seq (its.set j u).toArray n }:=by
 simp [Obj.mapSeq]
theorem Inv.lst {qQ:List (AD×Obj)}{σ:St}{H:Hp}{s:SS}{p:AD}{xs:List V}(I:Inv X qQ σ H s)(h:H p=some (.lst xs)) :
  ∃(its:LW)(n:Nat),Vals xs its/\s.heap.get? p=some { cls:=.type "list", data:=.seq its.toArray n }/\xs.length<=sizeLine:=by
 obtain ⟨z,its,n,r,e⟩:=I.hok p _ h;exact ⟨its,n,r,e,z⟩
theorem Inv.lstUpd {qQ:List (AD×Obj)}{σ:St}{H:Hp}{s:SS}{p:AD}{xs ys:List V}{its its':LW}{n n':Nat}{f:Obj->Obj}(I:Inv X qQ σ H s)(h:H p=some (.lst xs))(ho:s.heap.get? p=some { cls:=.type "list", data:=.seq its.toArray n })(hf:f { cls:=.type "list", data:=.seq its.toArray n }={ cls:=.type "list", data:=.seq its'.toArray n' })(r:Vals ys its')(hz:ys.length<=sizeLine)(t:Nat) :
  Inv X qQ σ (upd H p (.lst ys)) { s with heap:=s.heap.update p f,toks:=t }:=by
 have e:(s.heap.update p f).get? p=some { cls:=.type "list", data:=.seq its'.toArray n' }:=by
  rw [Heap.get?_update_self f ho (by rw [hf] <;> rfl),hf]
 refine I.write (x:=p) (e:=p) (by rw [h];trivial) (.inl rfl) (λb u hb q=>(Heap.get?_update_other _ _ (Ne.symm hb)).trans q) ⟨_,e⟩ ?_;exact ⟨hz,its',n',r,e⟩
def Zf0:V->V->V->Hp->(Hp->Prop)->Prop:=λo i v H Q=>∃p xs k j,o=.ref p/\i=.int k/\H p=some (.lst xs)/\ixN xs.length k=some j/\Q (upd H p (.lst (xs.set j v)))
theorem J0:ZgX X Zf0:=by
 intro qQ s σ H o i v ov iv u Q I ro ri rv h;obtain ⟨p,xs,k,j,rfl,rfl,hp,hj,q⟩:=h;cases ro;obtain ⟨t,rfl⟩:=ri;obtain ⟨its,n,r,ho,hz⟩:=I.lst hp;obtain ⟨h1,h2,h3,h4⟩:=Z1 hj;have hl:=r.length;have hn:=UZ;have I':Inv X qQ σ (upd H p (.lst (xs.set j v))) { s with heap:=s.heap.update p (Obj.mapSeq (·.setIfInBounds j u)) }:=
  I.lstUpd hp ho (Zb its n j u) (r.set rv j) (by rw [List.length_set];exact hz) s.toks
 by_cases h0:0<=k
 ·have hk:k.toNat=j:=by
   rw [seqIndex_of h0 h4] at h1;exact Option.some.inj h1
  exact W.ki_setAt ho h0 (by lia) (by rw [List.size_toArray,<-hl];exact h4) (by rw [hk];exact ⟨_,I',q⟩)
 ·have hk:(k+(its.toArray.size:Int)).toNat=j:=by
   rw [seqIndex_neg (by lia) h3] at h1;rw [List.size_toArray,<-hl];exact Option.some.inj h1
  exact W.ki_setBack ho (by lia) (by rw [List.size_toArray,<-hl];exact h3) (by lia) (by rw [hk];exact ⟨_,I',q⟩)
theorem WS (lo hi:Option Int)(n:Nat):(sliceBounds lo hi none n).1=((HT.sIx n 0 lo:Nat):Int)/\(sliceBounds lo hi none n).2.1=((HT.sIx n n hi:Nat):Int)/\(sliceBounds lo hi none n).2.2=1:=by
 refine ⟨?_,?_,rfl⟩
 ·cases lo with
  | none=>simp [sliceBounds,HT.sIx]
  | some i=>
   simp only [sliceBounds,HT.sIx,Option.getD_none,show (1:Int) > 0 by decide,if_true];by_cases h:i<0
   ·simp only [h,if_true] <;> lia
   ·simp only [h,if_false] <;> lia
 ·cases hi with
  | none=>simp [sliceBounds,HT.sIx]
  | some i=>
   simp only [sliceBounds,HT.sIx,Option.getD_none,show (1:Int) > 0 by decide,if_true];by_cases h:i<0
   ·simp only [h,if_true] <;> lia
   ·simp only [h,if_false] <;> lia
theorem VQ (its:LW)(lo hi:Option Int):slicePick its.toArray lo hi none=((its.drop (HT.sIx its.length 0 lo)).take (HT.sIx its.length its.length hi-HT.sIx its.length 0 lo)).toArray:=by
 obtain ⟨h1,h2,h3⟩:=WS lo hi its.toArray.size;unfold slicePick;rw [h1,h2,h3];simp only [sliceRange_one,pick_run,List.size_toArray] <;> rfl
def Zg5 (K:FF):V->Option Int->Option Int->Hp->VK->Prop:=λx lo hi H Q=>∃a xs,x=.ref a/\SqL K H a xs/\∀p,H p=none->Q (.ref p) (upd H p (.lst (UC xs lo hi)))
theorem Zdu:SlR X (Zg5 X.K):=by
 intro qQ s σ H x v vl vu lo hi sl Q I rx hs pl pu h;obtain ⟨a,xs,rfl,hx,q⟩:=h;cases rx;obtain ⟨its,r,ht,hz⟩:=I.list hx;have qV:=r.length;refine ⟨"list", _,slot_list_getitem.lookup,ht.isList.typeIs,?_⟩;refine wpAny_getItem_list_slice ht.isList hs pl pu .none (by simp) ?_ (by rw [List.size_toArray] <;> lia);rw [VQ,<-qV];refine ⟨.ref s.heap.objs.size,_,I.laid (t':=s.toks) (o:=.lst (UC xs lo hi)) (λb ob q=>Heap.get?_push_of_some _ q) (Nat.le_refl _) ?_,rfl,q _ (I.hok.fresh (Nat.le_refl _))⟩;exact ⟨Nat.le_trans (XC xs lo hi) hz,_,0,(r.drop (HT.sIx xs.length 0 lo)).take (HT.sIx xs.length xs.length hi-HT.sIx xs.length 0 lo),Heap.get?_push_size _ rfl⟩
def VR:V->Bool
 | .non=>true
 | .bl _=>true
 | .int _=>true
 | .str _=>true
 | _=>false
def eqV:V->V->Bool
 | .non,.non=>true
 | .bl a,.bl b=>a == b
 | .bl a,.int b=>(if a then 1 else 0) == b
 | .int a,.bl b=>a == (if b then 1 else 0)
 | .int a,.int b=>a == b
 | .str a,.str b=>a == b
 | _,_=>false
theorem ZeC {A:Around}{s:SS}{y x:V}{u v:Aa}(ry:RelV y u)(rx:RelV x v)(fy:VR y=true)(fx:VR x=true):SeqAt.EqAt A s u v (eqV y x):=by
 cases y with
 | non=>
  cases ry;cases x with
  | non=>cases rx;exact SeqAt.EqAt.same _
  | bl b=>cases rx;exact SeqAt.EqAt.none_bool b
  | int b=>obtain ⟨t,rfl⟩:=rx;exact SeqAt.EqAt.none_int b t
  | str b=>obtain ⟨t,rfl⟩:=rx;exact SeqAt.EqAt.none_str b t
  | _=>exact absurd (show false=true from fx) Bool.false_ne_true
 | bl a=>
  cases ry;cases x with
  | non=>cases rx;exact SeqAt.EqAt.bool_none a
  | bl b=>cases rx;exact SeqAt.EqAt.bool_bool a b
  | int b=>obtain ⟨t,rfl⟩:=rx;exact SeqAt.EqAt.bool_int a b t
  | str b=>obtain ⟨t,rfl⟩:=rx;exact SeqAt.EqAt.bool_str a b t
  | _=>exact absurd (show false=true from fx) Bool.false_ne_true
 | int a=>
  obtain ⟨t',rfl⟩:=ry;cases x with
  | non=>cases rx;exact SeqAt.EqAt.int_none a t'
  | bl b=>cases rx;exact SeqAt.EqAt.int_bool a t' b
  | int b=>obtain ⟨t,rfl⟩:=rx;exact SeqAt.EqAt.int_int a t' b t
  | str b=>obtain ⟨t,rfl⟩:=rx;exact SeqAt.EqAt.int_str a t' b t
  | _=>exact absurd (show false=true from fx) Bool.false_ne_true
 | str a=>
  obtain ⟨t',rfl⟩:=ry;cases x with
  | non=>cases rx;exact SeqAt.EqAt.str_none a t'
  | bl b=>cases rx;exact SeqAt.EqAt.str_bool a t' b
  | int b=>obtain ⟨t,rfl⟩:=rx;exact SeqAt.EqAt.str_int a t' b t
  | str b=>obtain ⟨t,rfl⟩:=rx;exact SeqAt.EqAt.str_str a t' b t
  | _=>exact absurd (show false=true from fx) Bool.false_ne_true
 | _=>exact absurd (show false=true from fy) Bool.false_ne_true
def eqU (x:V)(u:Aa):Bool:=match u with
 | .none=>eqV .non x
 | .bool b=>eqV (.bl b) x
 | .int i _=>eqV (.int i) x
 | .str z _=>eqV (.str z) x
 | _=>false
theorem ZcT {x y:V}{u:Aa}(r:RelV y u)(f:VR y=true):eqU x u=eqV y x:=by
 cases y with
 | non=>cases r;rfl
 | bl b=>cases r;rfl
 | int i=>obtain ⟨t,rfl⟩:=r;rfl
 | str z=>obtain ⟨t,rfl⟩:=r;rfl
 | _=>exact absurd (show false=true from f) Bool.false_ne_true
theorem U2 {x:V}:∀{xs:List V}{us:LW},Vals xs us->xs.all VR=true->us.any (eqU x)=xs.any λy=>eqV y x
 | _,_,.nil,_=>rfl
 | y::xs,u::us,.cons r t,f=>by
  rw [List.all_cons,Bool.and_eq_true] at f;rw [List.any_cons,List.any_cons,ZcT r f.1,U2 t f.2]
theorem OR {A:Around}{s:SS}{x:V}{v:Aa}(rx:RelV x v)(fx:VR x=true):∀{xs:List V}{us:LW},Vals xs us->xs.all VR=true->∀u∈us,SeqAt.EqAt A s u v (eqU x u)
 | _,_,.nil,_=>λu hu=>by cases hu
 | y::xs,u::us,.cons r t,f=>λu' hu=>by
  rw [List.all_cons,Bool.and_eq_true] at f;rcases List.mem_cons.mp hu with rfl | hu
  ·rw [ZcT r f.1];exact ZeC r rx f.1 fx
  ·exact OR rx fx t f.2 u' hu
def inV (x:V)(xs:List V):Bool:=xs.any λy=>eqV y x
def rIn (K:FF)(neg:Bool):R2:=λx y H Q=>∃p xs,y=.ref p/\(SqL K H p xs\/SqT K H p xs)/\VR x=true/\xs.all VR=true/\Q (.bl (if neg then !inV x xs else inV x xs)) H
theorem Z3:OpR X (compareOp .In) (rIn X.K false):=by
 intro qQ s σ H x y v u Q I rx ry h;obtain ⟨p,xs,rfl,hq,fx,fs,q⟩:=h;cases ry;rcases hq with hq | hq
 ·obtain ⟨its,r,pl,hz⟩:=I.list hq;refine SeqAt.in_listAt (eqU x) pl.isList (λw hw=>OR rx fx r fs w (by simpa using hw)) ⟨.bl _,H,I,rfl,?_⟩;rw [show its.toArray.any (eqU x)=its.any (eqU x) by simp,U2 r fs];exact q
 ·obtain ⟨its,r,pl,hz⟩:=I.tuple hq;refine SeqAt.in_tupleAt (eqU x) pl (λw hw=>OR rx fx r fs w (by simpa using hw)) ⟨.bl _,H,I,rfl,?_⟩;rw [show its.toArray.any (eqU x)=its.any (eqU x) by simp,U2 r fs];exact q
theorem WT:OpR X (compareOp .NotIn) (rIn X.K true):=by
 intro qQ s σ H x y v u Q I rx ry h;obtain ⟨p,xs,rfl,hq,fx,fs,q⟩:=h;cases ry;rcases hq with hq | hq
 ·obtain ⟨its,r,pl,hz⟩:=I.list hq;refine SeqAt.notIn_listAt (eqU x) pl.isList (λw hw=>OR rx fx r fs w (by simpa using hw)) ⟨.bl _,H,I,rfl,?_⟩;rw [show its.toArray.any (eqU x)=its.any (eqU x) by simp,U2 r fs];exact q
 ·obtain ⟨its,r,pl,hz⟩:=I.tuple hq;refine SeqAt.notIn_tupleAt (eqU x) pl (λw hw=>OR rx fx r fs w (by simpa using hw)) ⟨.bl _,H,I,rfl,?_⟩;rw [show its.toArray.any (eqU x)=its.any (eqU x) by simp,U2 r fs];exact q
theorem WU:Jt X (.builtin "len") (λxs H Q=>∃p ys,xs=[.ref p]/\(SqL X.K H p ys\/SqT X.K H p ys)/\Q (.int ys.length) H):=by
 intro qQ s σ H xs us Q I r h;obtain ⟨p,ys,rfl,hq,q⟩:=h;obtain ⟨u,rfl,rx⟩:=ZW r;cases rx;have hn:=UZ;rcases hq with hq | hq
 ·obtain ⟨its,r',pl,hz⟩:=I.list hq;have qV:=r'.length;exact Calls.call_len_list pl.isList (by simp only [List.size_toArray] <;> lia) ⟨.int ys.length,H,I.tok _,⟨s.toks+1,by rw [List.size_toArray,qV]⟩,q⟩
 ·obtain ⟨its,r',pl,hz⟩:=I.tuple hq;have qV:=r'.length;exact len_tuple pl (by simp only [List.size_toArray] <;> lia) ⟨.int ys.length,H,I.tok _,⟨s.toks+1,by rw [List.size_toArray,qV]⟩,q⟩
theorem WV:Jt X (.type "list") (λxs H Q=>∃p ys,xs=[.ref p]/\(SqL X.K H p ys\/SqT X.K H p ys)/\∀l,H l=none->Q (.ref l) (upd H l (.lst ys))):=by
 intro qQ s σ H xs us Q I r h;obtain ⟨p,ys,rfl,hq,q⟩:=h;obtain ⟨u,rfl,rx⟩:=ZW r;cases rx;have fin:∀(its:LW),Vals ys its->ys.length<=sizeLine->∀(h':Heap)(c':Nat),(∀b o',s.heap.get? b=some o'->h'.get? b=some o') ->
   h'.get? s.heap.objs.size=some { cls:=.type "list", dict:=none,data:=.seq its.toArray c',slots:=#[] }->EP X qQ σ Q (.ref s.heap.objs.size) { s with heap:=h' }:=λits r' hz h' c' kp e=>
  ⟨.ref s.heap.objs.size,_,I.laid (t':=s.toks) kp (Nat.le_refl _) (show ObjOk X.prog X.w _ h' _ (.lst ys) from ⟨hz,its,c',r',e⟩),rfl,q _ (I.hok.fresh (Nat.le_refl _))⟩
 rcases hq with hq | hq
 ·obtain ⟨its,r',pl,hz⟩:=I.list hq;have qV:=r'.length;obtain ⟨o,ho,hc,n,hd⟩:=pl.isList;exact call_list_seq p (.inl rfl) ho hc hd (λh' c' kp e=>fin its r' hz h' c' kp e) (by simp only [List.size_toArray] <;> lia)
 ·obtain ⟨its,r',pl,hz⟩:=I.tuple hq;have qV:=r'.length;obtain ⟨o,ho,hc,n,hd⟩:=pl;exact call_list_seq p (.inr rfl) ho hc hd (λh' c' kp e=>fin its r' hz h' c' kp e) (by simp only [List.size_toArray] <;> lia)
theorem VS:Jt X (.type "tuple") (λxs H Q=>∃p ys,xs=[.ref p]/\((SqL X.K H p ys/\∀l,H l=none->Q (.ref l) (upd H l (.tup ys)))\/(SqT X.K H p ys/\Q (.ref p) H))):=by
 intro qQ s σ H xs us Q I r h;obtain ⟨p,ys,rfl,h⟩:=h;obtain ⟨u,rfl,rx⟩:=ZW r;cases rx;rcases h with ⟨hq,q⟩ | ⟨hq,q⟩
 ·obtain ⟨its,r',pl,hz⟩:=I.list hq;have qV:=r'.length;refine call_tuple_list pl.isList (λh' kp=>?_) (by simp only [List.size_toArray] <;> lia);have I1:Inv X qQ σ H { s with heap:=h' }:=I.kept (t':=s.toks) kp;have I2:Inv X qQ σ (upd H h'.objs.size (.tup ys)) { s with heap:=h'.push { cls:=.type "tuple", data:=.seq its.toArray } }:=
   I1.laid (t':=s.toks) (λb o e=>Heap.get?_push_of_some _ e) (Nat.le_refl _) (show ObjOk X.prog X.w _ _ _ (.tup ys) from ⟨hz,its,r',IsTup.new _ _⟩)
  exact ⟨.ref h'.objs.size,_,I2,rfl,q _ (I1.hok.fresh (Nat.le_refl _))⟩
 ·obtain ⟨its,r',pl,hz⟩:=I.tuple hq;exact call_tuple_same pl ⟨.ref p,H,I,rfl,q⟩
def tyV (K:FF)(T:String)(x:V)(H:Hp):Prop:=match x with
 | .str _=>T = "str"
 | .int _=>T = "int"
 | .ref p=>(T = "list" /\ ∃xs,SqL K H p xs)\/(T = "tuple" /\ ∃o,K.lookup p=some o/\o.cls=.type "tuple" /\ o.dict=none) \/
   (T = "dict" /\ ((∃kvs,H p=some (.dK kvs))\/∃kvs,H p=some (.dT kvs)))\/(T = "set" /\ ∃S n,H p=some (.set S n))
 | _=>False
theorem ZcU {qQ:List (AD×Obj)}{σ:St}{H:Hp}{s:SS}{T:String}{x:V}{v:Aa}(I:Inv X qQ σ H s)(r:RelV x v)(ty:tyV X.K T x H) :
  s.TypeIs v T/\∀a,v=.ref a->∃ob,s.heap.get? a=some ob/\ob.dict=none:=by
 cases x with
 | str z=>
  obtain ⟨t,rfl⟩:=r;cases (show T = "str" from ty);exact ⟨typeIs_str s z t,λ_ e=>nomatch e⟩
 | int i=>
  obtain ⟨t,rfl⟩:=r;cases (show T = "int" from ty);exact ⟨typeIs_int s i t,λ_ e=>nomatch e⟩
 | ref p=>
  cases r;rcases ty with ⟨rfl,xs,hq⟩ | ⟨rfl,o,hk,hc,hd⟩ | ⟨rfl,hk⟩ | ⟨rfl,S,n,hk⟩
  ·obtain ⟨its,_,pl,_⟩:=I.list hq;refine ⟨pl.isList.typeIs,λa e=>?_⟩;cases e;obtain ⟨o,n,e,c,hd,_⟩:=pl;exact ⟨o,e,hd⟩
  ·refine ⟨⟨o,I.kIn p o hk,hc⟩,λa e=>?_⟩;cases e;exact ⟨o,I.kIn _ o hk,hd⟩
  ·have z:∃o,s.heap.get? p=some o/\o.ExactDict:=by
    rcases hk with ⟨kvs,hk⟩ | ⟨kvs,hk⟩
    ·obtain ⟨_,_,_,_,o,_,_,e,ex,_⟩:=I.hok p _ hk;exact ⟨o,e,ex⟩
    ·obtain ⟨_,_,_,_,o,_,_,e,ex,_⟩:=I.hok p _ hk;exact ⟨o,e,ex⟩
   obtain ⟨o,e,ex⟩:=z;refine ⟨⟨o,e,ex.1⟩,λa e2=>?_⟩;cases e2;exact ⟨o,e,ex.2.1⟩
  ·obtain ⟨o,_,_,_,e,ex,_⟩:=I.hok p _ hk;refine ⟨⟨o,e,ex.1⟩,λa e2=>?_⟩;cases e2;exact ⟨o,e,ex.2.1⟩
 | _=>exact False.elim ty
def ZhB (K:FF)(T:String)(r:V->List V->Hp->VK->Prop)(to:TE):TE:=λσ H Q=>to σ H λx H1=>tyV K T x H1/\r x [] H1 Q
def tBM (K:FF)(T:String)(r:V->List V->Hp->VK->Prop)(to:TE)(t:TA):TE:=λσ H Q=>to σ H λx H1=>tyV K T x H1/\t σ H1 λxs H2=>r x xs H2 Q
variable {o e:Expr}{es:List Expr}{to:TE}{t:TA}{name:Str}{apos qG:Pos}{T id:String}{r:V->List V->Hp->VK->Prop}
theorem ZcV (pa:PlainAttrs T)(slot:Slot T name id)(hty:typeOf (.builtin id)=pure (.type "method_descriptor"))(hm:MtR X id r)(ho:PE X o to)(hbase:attributeBase o name X.env (eval o X.env)=eval o X.env:=by rfl)(hline:(apos.endLine == qG.line)=true:=by rfl):PE X (.Call (.Attribute o name apos) [] [] qG) (ZhB X.K T r to):=by
 intro qQ s σ H Q I h;refine wpAny_Call_method0_late hbase hline (thn (ho qQ s σ H _ I h) λv s1 ⟨x,H1,I1,r1,ty,q1⟩=>?_);obtain ⟨h1,h2⟩:=ZcU I1 r1 ty;exact ⟨T,id,pa,slot,hty,h1,h2,Calls.callWith_builtin rfl (PySem.evalArgs_none (hm qQ s1 σ H1 x [] v [] Q I1 r1 .nil q1))⟩
theorem ZbN (pa:PlainAttrs T)(slot:Slot T name id)(hty:typeOf (.builtin id)=pure (.type "method_descriptor"))(hm:MtR X id r)(ho:PE X o to)(ha:PA X (e::es) t)(hbase:attributeBase o name X.env (eval o X.env)=eval o X.env:=by rfl)(hfew:((backTo qG (starEach (e::es) X.env)).all (λx=>!x.1) && (backToKw qG (keywordEach [] X.env)).all (λx=>x.1.isSome)
   && decide ((e::es).length+([]:List Keyword).length+(if ([]:List Keyword).isEmpty then 0 else 1)<30))=true:=by rfl)(hline:(apos.endLine == qG.line)=true:=by rfl)(hs:starEach (e::es) X.env=(false,eval e X.env)::starEach es X.env:=by rfl)(hplain:(backTo qG (starEach es X.env)).any (·.1)=false:=by rfl) :
  PE X (.Call (.Attribute o name apos) (e::es) [] qG) (tBM X.K T r to t):=by
 intro qQ s σ H Q I h;refine wpAny_Call_method_late hbase hfew hline rfl (thn (ho qQ s σ H _ I h) λv s1 ⟨x,H1,I1,r1,ty,q1⟩=>?_);obtain ⟨h1,h2⟩:=ZcU I1 r1 ty;refine ⟨T,id,pa,slot,hty,h1,h2,?_⟩;have hA:=ha qG qQ s1 σ H1 _ I1 q1;rw [hs] at hA ⊢;refine Calls.callWith_builtin (by show (false || (backTo qG (starEach es X.env)).any (·.1))=false;rw [hplain] <;> rfl) (Calls.evalArgs_plain ?_);exact thn hA λus s2 ⟨vs,H2,I2,r2,q2⟩=>hm qQ s2 σ H2 x vs v us Q I2 r1 r2 q2
/- xs.append(e),list.index on a module's tuple .. are MtR facts of 06m -/
end
end L2
namespace L2
open PySem PySem.Spec PyProof.Rows
def MtM (X:Cx)(id:String)(r:V->List V->Hp->VK->Prop):Prop:=
 ∀(qQ:List (AD×Obj))(s:SS)(σ:St)(H:Hp)(x:V)(xs:List V)(v:Aa)(us:LW)(Q:VK),Inv X qQ σ H s->RelV x v->Vals xs us->r x xs H Q ->
  wpAny (model X.prog X.w) X.A (call (.builtin id) (v::us)) (EP X qQ σ Q) X.xe s
theorem Vals.one:∀{x:V}{us:LW},Vals [x] us->∃u,us=[u]/\RelV x u
 | _,_,.cons r .nil=>⟨_,rfl,r⟩
theorem Vals.two:∀{x y:V}{us:LW},Vals [x,y] us->∃u v,us=[u,v]/\RelV x u/\RelV y v
 | _,_,_,.cons r (.cons q .nil)=>⟨_,_,rfl,r,q⟩
theorem Vals.zero:∀{us:LW},Vals [] us->us=[]
 | _,.nil=>rfl
theorem Vals.dropLast {xs:List V}{us:LW}(h:Vals xs us):Vals xs.dropLast us.dropLast:=by
 induction h with
 | nil=>exact .nil
 | cons r t ih=>
  cases t with
  | nil=>exact .nil
  | cons q t'=>exact .cons r ih
theorem Vals.rep {xs:List V}{us:LW}(h:Vals xs us):∀k:Nat,Vals (List.replicate k xs).flatten (List.replicate k us).flatten
 | 0=>.nil
 | k+1=>by
  rw [List.replicate_succ,List.replicate_succ,List.flatten_cons,List.flatten_cons];exact Vals.append h (Vals.rep h k)
theorem Zc {α:Type}(l:List α):l.eraseIdx (l.length-1)=l.dropLast:=by
 induction l with
 | nil=>rfl
 | cons a r ih=>
  cases r with
  | nil=>rfl
  | cons b r=>
   have e:(a::b::r).length-1=((b::r).length-1)+1:=by
    have h1:(a::b::r).length=r.length+2:=rfl;have h2:(b::r).length=r.length+1:=rfl
    lia
   rw [e,List.eraseIdx_cons_succ,ih]
   all_goals rfl
theorem WW (its:LW):∀(k:Nat)(acc:LW),
  List.foldl (λx1 x2=>x1++x2) acc.toArray (List.replicate k its.toArray)=(acc++(List.replicate k its).flatten).toArray
 | 0,acc=>by simp
 | k+1,acc=>by
  have e:acc.toArray++its.toArray=(acc++its).toArray:=by simp
  have e2:(acc++its)++(List.replicate k its).flatten=acc++(List.replicate (k+1) its).flatten:=by
   rw [List.replicate_succ,List.flatten_cons,List.append_assoc]
  rw [<-e2,<-WW its k (acc++its),<-e,List.replicate_succ,List.foldl_cons]
section
variable {X:Cx}{qQ:List (AD×Obj)}{σ:St}{H:Hp}{s:SS}{l b:AD}{xs ys zs:List V}
theorem Inv.lset {its its':LW}{n:Nat}{f:Array Aa->Array Aa}{t':Nat}(I:Inv X qQ σ H s)(hH:H l=some (.lst xs))(e:s.heap.get? l=some { cls:=.type "list", data:=.seq its.toArray n })(hf:f its.toArray=its'.toArray)(hv:Vals ys its')(hz:ys.length<=sizeLine) :
  Inv X qQ σ (upd H l (.lst ys)) { s with heap:=s.heap.update l (Obj.mapSeq f),toks:=t' }:=by
 have q:=PySem.IsL.update e f;rw [hf] at q;refine I.write (x:=l) (e:=l) (by rw [hH];exact trivial) (.inl rfl) (λb' u hb hu=>(Heap.get?_update_other s.heap (Obj.mapSeq f) (Ne.symm hb)).trans hu) ⟨_,q⟩ ?_;exact ⟨hz,its',_,hv,q⟩
theorem Inv.lnew {its:LW}{t':Nat}(I:Inv X qQ σ H s)(hv:Vals ys its)(hz:ys.length<=sizeLine) :
  Inv X qQ σ (upd H s.heap.objs.size (.lst ys)) { s with heap:=s.heap.push { cls:=.type "list", data:=.seq its.toArray },toks:=t' }:=
 I.laid (λ_ _ q=>Heap.get?_push_of_some _ q) (Nat.le_refl _) ⟨hz,its,0,hv,Heap.get?_push_size _ rfl⟩
theorem Inv.fresh (I:Inv X qQ σ H s):H s.heap.objs.size=none:=I.hok.fresh (Nat.le_refl _)
theorem Inv.lstM (I:Inv X qQ σ H s)(hH:H l=some (.lst xs)):xs.length<=sizeLine/\∃(its:LW)(n:Nat),Vals xs its/\xs.length=its.length/\s.heap.get? l=some { cls:=.type "list", data:=.seq its.toArray n }:=by
 obtain ⟨z,its,n,r,e⟩:=I.hok l _ hH;exact ⟨z,its,n,r,r.length,e⟩
theorem ZbO {n:Nat}(h:n<=sizeLine):Builtin.List.listTooLong n=false:=by
 unfold Builtin.List.listTooLong;exact decide_eq_false (by lia)
end
section
variable {X:Cx}
def Zdv:V->List V->Hp->VK->Prop:=λx vs H Q=>∃l xs y,x=.ref l/\vs=[y]/\H l=some (.lst xs)/\xs.length<sizeLine/\Q .non (upd H l (.lst (xs++[y])))
theorem OS:MtM X "list.append" Zdv:=by
 intro qQ s σ H x vs v us Q I rx rv h;obtain ⟨l,xs,y,rfl,rfl,hH,hz,q⟩:=h;cases rx;obtain ⟨u,rfl,ru⟩:=rv.one;obtain ⟨z,its,n,r,hl,e⟩:=I.lstM hH;refine call_meets F.slot_list_append ⟨_,e,rfl⟩ F.entry_list_append (F.args_list_append_2 _ _) (PySem.list_append l its.toArray n u (by rw [List.size_toArray];lia)) ⟨e,?_⟩;refine ⟨.non,_,I.lset (its':=its++[u]) hH e (by simp) (r.append (.cons ru .nil)) ?_,rfl,q⟩;rw [List.length_append,List.length_singleton]
 lia
def ZhC:V->List V->Hp->VK->Prop:=λx vs H Q=>∃l xs y,x=.ref l/\vs=[]/\H l=some (.lst xs)/\xs[xs.length-1]?=some y/\Q y (upd H l (.lst xs.dropLast))
theorem ZeD:MtM X "list.pop" ZhC:=by
 intro qQ s σ H x vs v us Q I rx rv h;obtain ⟨l,xs,y,rfl,rfl,hH,hy,q⟩:=h;cases rx;have hus:=rv.zero;subst hus;obtain ⟨z,its,n,r,hl,e⟩:=I.lstM hH;obtain ⟨u,hu,ru⟩:=r.get hy;have hy':its.toArray[its.toArray.size-1]?=some u:=by
  show its.toArray[its.length-1]?=some u;rw [<-Array.getElem?_toList,<-hl];exact hu
 refine call_meets F.slot_list_pop ⟨_,e,rfl⟩ F.entry_list_pop (F.args_list_pop_1 _) (MeetsSeq.list_pop_last l its.toArray n u hy' (by rw [List.size_toArray];lia)) ⟨e,?_⟩;refine ⟨y,_,I.lset (its':=its.dropLast) hH e ?_ r.dropLast ?_,ru,q⟩
 ·show its.toArray.eraseIdxIfInBounds (its.toArray.size-1)=its.dropLast.toArray;rw [List.size_toArray,List.eraseIdxIfInBounds_toArray,Zc]
 ·rw [List.length_dropLast]
  lia
def ZhD:R2:=λx y H Q=>∃l b xs zs,x=.ref l/\y=.ref b/\H l=some (.lst xs)/\H b=some (.lst zs)/\xs.length+zs.length<=sizeLine/\∀p,H p=none->Q (.ref p) (upd H p (.lst (xs++zs)))
theorem Vw:OpR X (binaryOp .Add) ZhD:=by
 intro qQ s σ H x y v u Q I rx ry h;obtain ⟨l,b,xs,zs,rfl,rfl,hH,hB,hz,q⟩:=h;cases rx;cases ry;obtain ⟨z,its,n,r,hl,e⟩:=I.lstM hH;obtain ⟨z2,its2,n2,r2,hl2,e2⟩:=I.lstM hB;refine PySem.P.add_list e e2 ?_ (by rw [List.size_toArray,List.size_toArray];lia);have ea:its.toArray++its2.toArray=(its++its2).toArray:=by simp
 rw [ea];exact ⟨.ref _,_,I.lnew (t':=s.toks) (r.append r2) (by rw [List.length_append];lia),rfl,q _ I.fresh⟩
def ZhE:R2:=λx y H Q=>∃l k xs,x=.ref l/\y=.int k/\H l=some (.lst xs)/\-(2 ^ 63)<=k/\k<2 ^ 63/\xs.length * k.toNat<=sizeLine /\
 ∀p,H p=none->Q (.ref p) (upd H p (.lst (List.replicate k.toNat xs).flatten))
theorem Zdw {α:Type}(xs:List α)(k:Nat):(List.replicate k xs).flatten.length=k * xs.length:=by
 induction k with
 | zero=>simp
 | succ k ih=>rw [List.replicate_succ,List.flatten_cons,List.length_append,ih,Nat.succ_mul,Nat.add_comm]
theorem ZcW:OpR X (binaryOp .Mult) ZhE:=by
 intro qQ s σ H x y v u Q I rx ry h;obtain ⟨l,k,xs,rfl,rfl,hH,h1,h2,hz,q⟩:=h;cases rx;obtain ⟨t,rfl⟩:=ry;obtain ⟨z,its,n,r,hl,e⟩:=I.lstM hH;have qV:its.toArray.size * k.toNat<=sizeLine:=by rw [List.size_toArray,<-hl];exact hz
 have hcap:¬ its.toArray.size * k.toNat > (2 ^ 63-1) / 8:=by
  have:(sizeLine:Nat)<=(2 ^ 63-1) / 8:=by decide
  lia
 have hfit:¬ (!Builtin.List.listFitsIndex k)=true:=by
  rw [fitsIndex_both h1 h2];exact Bool.false_ne_true
 have hlong:¬ Builtin.List.listTooLong (its.toArray.size * k.toNat)=true:=by
  rw [ZbO qV];exact Bool.false_ne_true
 have hnew:List.foldl (λx1 x2=>x1++x2) #[] (List.replicate (if its.toArray.isEmpty=true then 0 else k.toNat) its.toArray)=(List.replicate k.toNat its).flatten.toArray:=by
  have f0:∀m:Nat,List.foldl (λx1 x2=>x1++x2) #[] (List.replicate m its.toArray)=(List.replicate m its).flatten.toArray:=λm=>by
   have:=WW its m [];rw [List.nil_append] at this;exact this
  rw [f0];cases its with
  | nil=>simp
  | cons a r'=>rw [if_neg (by simp)]
 refine wpAny_binaryOp_repeat_ref (T := "list") (U := "int") (by decide) ⟨_,e,rfl⟩ (λs'=>typeIs_int s' k t) noFill_list_mul F.fills_int_mul F.slot_int_rmul repeat_list F.slot_int_index.lookup
  (call_meets F.slot_int_rmul (typeIs_int s k t) F.entry_int_rmul (F.args_int_rmul_2 _ _) (int___rmul___int_list k t l its.toArray n)
   ⟨e,rfl,⟨_,e,rfl⟩,call_meets F.slot_list_mul ⟨_,e,rfl⟩ F.entry_list_mul (F.args_list_mul_2 _ _) (AutoListH.list___mul___list_int_3 l its.toArray n k t hfit hcap hlong) ⟨e,?_⟩⟩)
 rw [hnew];exact ⟨.ref _,_,I.lnew (t':=s.toks) (r.rep k.toNat) (by rw [Zdw,Nat.mul_comm];exact hz),rfl,q _ I.fresh⟩
end
end L2
namespace Att
open PySem PySem.W PySem.Calls PyProof.Rows
theorem U3 {P:Params}{h:Heap}:∀(ns:LI)(vs:LW),WellAll P h vs (ns.map WData.int)->IntsAre vs ns:=by
 intro ns
 induction ns with
 | nil=>
  intro vs w;rw [List.map_nil] at w;cases w;exact .nil
 | cons n ns ih=>
  intro vs w;rw [List.map_cons] at w;cases w with
  | cons a b=>
   cases a;exact .cons _ _ (ih _ b)
theorem Z4 {l:OpenLaw}{n:Nat}(hn:l.most=some n){P:Params}{h:Heap}{args:List WData}{vals:LW}(hpre:l.row.toRowW.claim.pre args=true)(hwl:WellAll P h vals args) :
  ∃a vs ns,vals=[Value.ref a]/\args=[WData.list (ns.map WData.int)]/\h.get? a=some { cls:=.type "list", data:=.seq vs.toArray }/\IntsAre vs ns/\ns.length<=n:=by
 have hsh:WShape.hasAll [] args [.list .int]=true:=(pre_splitW hpre).1;have hc:l.pre.holds [] { args:=args }=true:=(pre_splitW hpre).2;obtain ⟨d,r,rfl,h1,h2⟩:=hasAllW_cons hsh;obtain rfl:=hasAllW_nil h2;obtain ⟨xs,rfl,h3⟩:=hasW_list h1;obtain ⟨ns,rfl⟩:=items_int h3;have qV:ns.length<=n:=by
  unfold OpenLaw.pre at hc;have h4:(WTm.not (.lt (.lit (.int (n:Int))) (.len (.arg 0)))).holds [] { args:=[.list (ns.map .int)] }=true:=by
   have h4:=(holds_andW hc).1;rw [hn] at h4;exact h4
  have h5:=condW_of h4 (w_not (w_lt w_lit (w_len_list (w_arg rfl))));rw [List.length_map] at h5;refine Nat.le_of_not_lt λq=>?_;have q':(n:Int)<((ns.length:Nat):Int):=by lia
  first
   | (rw [decide_eq_true q'] at h5;exact absurd h5 (by decide))
   | (simp at h5;lia)
 cases hwl with
 | cons w1 w2=>
  cases w2;cases w1 with
  | list ho qK=>exact ⟨_,_,ns,rfl,rfl,ho,U3 ns _ qK,qV⟩
theorem Z5 (l:OpenLaw)(args:List WData):l.row.toRowW.claim.post args (.bool true) args=true:=
 postW_of (r:=l.row.toRowW) (X:=(true == true))
  (show WShape.has [] (.bool true) .bool=true by first | rfl | decide | simp [WShape.has,WShape.arms,WShape.armsAll])
  (show (WTm.eq .res (.lit (.bool true))).value [] { args:=args,res:=some (.bool true),after:=args }=some (.bool (true == true)) from w_eq_bool (w_res rfl) w_lit) rfl
theorem attach_call {l:OpenLaw}{n:Nat}{q:PP}{loose:List Str}{XP:(Str->Option Aa)->Heap->Prop}{YP:Ab->Heap->Prop}{d:DefRec}(hn:l.most=some n)(hdf:d.params.defaults=[])(call:∀(w:Ab)(s₀ s₁:SS)(mg mb:Str->Option Aa)(fa:AD)(o:Obj)(pm cd doc:Aa)(a:AD)(vs:LW)(ns:LI),
   Ground q loose [] XP w s₀ mg mb s₁.heap->YP w s₁.heap ->
   s₁.heap.get? fa=some o->o.data=.func (docDef d.name d.params d.body d.scope pm cd doc)->s₁.heap.CodeRec cd d.name->mg d.name=some (.ref fa) ->
   s₁.heap.get? a=some { cls:=.type "list", data:=.seq vs.toArray }->IntsAre vs ns->ns.length<=n->s₁.gens=#[] ->
   codeAny (model l.prog w) callerA (.call (.ref fa) ⟨[.ref a],[]⟩) (λr s'=>r=.ok (.ret (.bool true))/\OldK s₁.heap s'.heap/\s'.os=s₁.os/\AllBare s'.gens) s₁) :
  WalkO q loose XP YP l.row.toRowW d [] (λf vs=>PySem.call f vs):=by
 intro w s₀ s₁ mg mb G Y fa o pm cd doc dV kV ho hd hcd hD hmg hg args vals as hpre hlay hrd hwl hlo;obtain rfl:dV=.none:=Dflts.none hD hdf;obtain rfl:kV=.none:=Dflts.noKw hD;obtain ⟨a,vs,ns,rfl,rfl,hobj,hints,qV⟩:=Z4 hn hpre hwl;refine enter_call (codeAny_mono (call w s₀ s₁ mg mb fa o pm cd doc a vs ns G Y ho (fd_plain hd) hcd hmg hobj hints qV hg) λr s' hq=>?_);obtain ⟨rfl,h2,h3,h4⟩:=hq;exact ⟨.inl ⟨.bool true,.bool true,[],rfl,λ_=>rfl,.bool true,Z5 l _,λ_=>⟨List.Pairwise.nil,λ_ hm=>(nomatch hm)⟩⟩,h2,h3,h4⟩
end Att
namespace L2
open PySem PySem.Spec PyProof.Rows
theorem OT:∀{vs:LW}{ns:LI},IntsAre vs ns->Vals (ns.map V.int) vs
 | _,_,.nil=>.nil
 | _,_,.cons n t h=>.cons ⟨t,rfl⟩ (OT h)
def Zf1 (H:Hp):Prop:=∀b,H b=none\/∃o xs,H b=some (.frz o (.lst xs))
theorem ZbP {P:PP}{w:Ab}{K:FF}{mg mb:Str->Option Aa}{CX:CXT}{k:Nat}{fa a:AD}{fd:FuncData}{x:Str}{sp:Sp}{s₁:SS}{vs:LW}{ns:LI}(KX:K.In s₁.heap)(hns:s₁.heap.Ns mainGlobals mg)(hb:s₁.heap.Ns builtinsNs mb)(hbb:∀x:Str,x ≠ "__name__" -> mb x=bootBuiltins x)(hlim:s₁.heap.NoLimit)(hg:s₁.gens=#[])(ha:s₁.heap.get? a=some { cls:=.type "list", data:=.seq vs.toArray })(hi:IntsAre vs ns)(hl:ns.length<=sizeLine)(hr:Room k callerA)(F:∀base:Heap,K.In base->base.Ns mainGlobals mg->GG P w K mg base CX k fa fd [x] sp)(hbind:∀(s:SS)(u:Aa),BindsTo s fd ⟨[u],[]⟩ [(x,u)])(hsp:∀H:Hp,Zf1 H->SqL K H a (ns.map V.int)->sp [.ref a] H (λv _=>v=.bl true) λ_ _ _=>False)(hCX:∀H e s',CX [] H s₁ (λ_ _ _=>False) e s'->False) :
  codeAny (model P w) callerA (.call (.ref fa) ⟨[.ref a],[]⟩) (λr s'=>r=.ok (.ret (.bool true))/\OldK s₁.heap s'.heap/\s'.os=s₁.os/\AllBare s'.gens) s₁:=by
 have rv:=OT hi;have lenV:=hi.length;have core:∀H:Hp,Zf1 H->SqL K H a (ns.map V.int)->HOk P w H s₁.heap->(∀b,H b≠none->b=a)->(H a≠none->K.lookup a=none) ->
   codeAny (model P w) callerA (.call (.ref fa) ⟨[.ref a],[]⟩) (λr s'=>r=.ok (.ret (.bool true))/\OldK s₁.heap s'.heap/\s'.os=s₁.os/\AllBare s'.gens) s₁:=by
  intro H hO hS hok hA hK;have base_of:∀{b:AD}{o:Obj},s₁.heap.get? b=some o->H b=none->(ZbG s₁.heap H).get? b=some o:=λe n=>ZbH e n;have noA:∀{b:AD}{o:Obj}{es:Array DictEntry}{ep:Nat},s₁.heap.get? b=some o->o.data=.dict es ep->H b=none:=λ{b o es ep} e d=>by
   cases q:H b with
   | none=>rfl
   | some u=>
    have e':b=a:=hA b (by rw [q];simp);subst e';rw [ha] at e;cases e;have d':Data.seq vs.toArray _=Data.dict es ep:=d;cases d'
  have nsK:∀{b:AD}{m:Str->Option Aa},s₁.heap.Ns b m->(ZbG s₁.heap H).Ns b m:=λ{b m} ⟨o,es,ep,e,d,r⟩=>⟨o,es,ep,base_of e (noA e d),d,r⟩;have hKb:K.In (ZbG s₁.heap H):=λb o e=>base_of (KX b o e) (by
   cases q:H b with
   | none=>rfl
   | some u=>
    have e':b=a:=hA b (by rw [q];simp);subst e';rw [hK (by rw [q];simp)] at e;cases e)
  have hM:Mod K mg (ZbG s₁.heap H):=⟨hKb,nsK hns,⟨mb,nsK hb,hbb⟩,let ⟨mc,h1,h2⟩:=hlim;⟨mc,nsK h1,h2⟩⟩;have e0:ZfA P w K mg (ZbG s₁.heap H) callerA [] s₁ H:=⟨rfl,hM,λb o e=>Zdo e,Nat.le_of_eq (ZL _ _),trivial,λb hb=>absurd (show b∈([]:List AD) from hb) (by simp),hok,.of_eq hg⟩;refine codeAny_mono ((F _ hKb (nsK hns)).run callerA [] s₁ H ⟨[.ref a],[]⟩ [.ref a] [.ref a] _ _ hr e0 (hbind s₁ (.ref a)) (.cons rfl .nil) (hsp H hO hS)) λr s' h=>?_;cases r with
  | error e=>exact (hCX H e s' h).elim
  | ok fl=>
   cases fl with
   | next=>exact False.elim h
   | brk=>exact False.elim h
   | cont=>exact False.elim h
   | ret u=>
    obtain ⟨v,H',os,bare,un,hok',r',q⟩:=h;have q':v=.bl true:=q;subst q';obtain rfl:u=Value.bool true:=r';refine ⟨rfl,OldK.of_keep λb o e=>?_,os,bare⟩;cases q:H b with
    | none=>exact un.keep b o e q (by intro z;exact absurd (show b∈([]:List AD) from z) (by simp)) (by simp)
    | some u=>
     rcases hO b with z | ⟨ob,xs,z⟩
     ·rw [q] at z;cases z
     ·have z2:=un.frzs b ob _ z;obtain ⟨e1,_⟩:=hok b _ z;obtain ⟨e2,_⟩:=hok' b _ z2;rw [e] at e1;cases e1;exact e2
 cases hk:K.lookup a with
 | some o=>
  have e:=KX a o hk;rw [ha] at e;cases e;refine core (λ_=>none) (λ_=>.inl rfl) (.inr ⟨_,vs.toArray,_,hk,rfl,rfl,rfl,by rw [List.size_toArray,lenV];exact hl,by simpa using rv⟩) (λb u z=>by have z':(none:Option HO)=some u:=z;cases z') (λb z=>absurd rfl z) λz=>absurd rfl z
 | none=>
  refine core (λb=>if b=a then some (.frz { cls:=.type "list", data:=.seq vs.toArray } (.lst (ns.map V.int))) else none) (λb=>?_) (.inl (.inr ⟨{ cls:=.type "list", data:=.seq vs.toArray },if_pos rfl⟩)) (λb u z=>?_) (λb z=>?_) λ_=>hk
  ·by_cases hb:b=a
   ·exact .inr ⟨_,_,if_pos hb⟩
   ·exact .inl (if_neg hb)
  ·by_cases hb:b=a
   ·have z':=(if_pos hb).symm.trans z;cases z';subst hb;exact ⟨ha,by rw [List.length_map];exact hl,vs,_,rv,ha⟩
   ·have z':=(if_neg hb).symm.trans z;cases z'
  ·by_cases hb:b=a
   ·exact hb
   ·exact absurd (if_neg hb) z
end L2
namespace L2
open PySem PySem.Spec PyProof.Rows
theorem walk_of {l:W.OpenLaw}{n k:Nat}{q:PP}{loose:List Str}{XP:(Str->Option Aa)->Heap->Prop}{YP:Ab->Heap->Prop}{d:DefRec}{K:Params->FF}{CX:Ab->CXT}{sp:Ab->Sp}{x:Str}(hn:l.most=some n)(hn2:n<=sizeLine)(hdf:d.params.defaults=[])(hr:Room k callerA)(hY:∀(w:Ab)(h:Heap),YP w h->(K w.params).In h)(F:∀(w:Ab)(mg:Str->Option Aa)(fa:AD)(h:Heap),(K w.params).In h->h.Ns mainGlobals mg->mg d.name=some (.ref fa) ->
   ∃fd:FuncData,(∀(s:SS)(u:Aa),BindsTo s fd ⟨[u],[]⟩ [(x,u)]) /\
    ∀base:Heap,(K w.params).In base->base.Ns mainGlobals mg->GG l.prog w (K w.params) mg base (CX w) k fa fd [x] (sp w))(hsp:∀(w:Ab)(H:Hp)(a:AD)(ns:LI),ns.length<=n->Zf1 H->SqL (K w.params) H a (ns.map V.int)->sp w [.ref a] H (λv _=>v=.bl true) λ_ _ _=>False)(hCX:∀(w:Ab)(H:Hp)(s:SS)(e:Aa)(s':SS),CX w [] H s (λ_ _ _=>False) e s'->False) :
  W.WalkO q loose XP YP l.row.toRowW d [] (λf vs=>PySem.call f vs):=by
 refine Att.attach_call hn hdf λw s₀ s₁ mg mb fa o pm cd doc a vs ns G Y ho hd hcd hmg hobj hints qV hg=>?_;have KX:=hY w _ Y;obtain ⟨fd,hb,hF⟩:=F w mg fa _ KX G.T.g hmg;exact ZbP KX G.T.g G.T.b G.T.builtins G.T.nolimit hg hobj hints (Nat.le_trans qV hn2) hr hF hb (λH hO hS=>hsp w H a ns qV hO hS) λH e s'=>hCX w H s₁ e s'
end L2
/- THE LAST THEOREM (shape;LID,My.* are yours):
  My.Adr: a structure of the addresses that your layer names (classes,functions);My.Txt K t: a structure (Prop) of the equations over K;
  My.txt_mk:{K} {implicit addresses ..} (e1:nsIn K mainGlobals "law" = some (some (.ref f))) (e2:K.lookup f=some ⟨oc,od,.func (fnOf "law" "law" params body scope dV kV doc pm an cdv ct),sl⟩) (e3:codeIn K cdv "law" = true) ..:∃t,My.Txt K t
set_option maxRecDepth 100000 in
set_option maxHeartbeats 0 in
theorem PySem.Challenge.cw_LID_holds:PySem.Challenge.rw_LID.Holds:=by
 w_on;o_law;k_head;(case hw=>w_witness2)
 k_fill
 refine L2.walk_of (l:=PySem.Challenge.rw_LID) (n:=63) (k:=40) (x := "script") (CX:=λw=>..) (sp:=λ_=>My.sp_law) rfl (by decide) rfl ⟨rfl,by decide,by decide⟩ (λw h Y=>W.kIn_of Y) ?F ?S ?C
 case F=>
  intro w mg fa h KX G hmg;have T:∃t,My.Txt (L2.KOf KX) t:=by
   dsimp only [L2.KOf]                          -- K must stand as «<heap const> w.params» for k_is
   refine' My.txt_mk ?e1 ?e2 ?e3 ..
   (case e1=>W.k_is)                    -- in the order: a name->its address->its object->its parts
   (case e2=>W.k_is)
   ..
  obtain ⟨t,T⟩:=T;have e0:=hmg.symm.trans (W.mg_of KX G T.law);cases e0                                       -- fa is the law's own address;exact ⟨_,λs u=>.of_eq rfl,λbase kb nb=>My.law_fn T kb nb⟩     -- if «.of_eq rfl» comes too early: refine' ⟨_,?b,λbase kb nb=>My.law_fn T kb nb⟩;exact λs u=>.of_eq rfl
 case S=>exact λw H a ns hl hO hS=>..
 case C=>exact ..
(the tactic k_is has no namespace: write k_is) -/
namespace L2
open PySem PySem.Spec PyProof.Rows
def J1 (s:Stmt):Arguments:=match s with
 | .FunctionDef _ a _ _ _ _ _ _ _ _=>a
 | _=>{ posonlyargs:=[],args:=[],vararg:=none,kwonlyargs:=[],kw_defaults:=[],kwarg:=none,defaults:=[] }
def Jz (s:Stmt):List Stmt:=match s with
 | .FunctionDef _ _ b _ _ _ _ _ _ _=>b
 | _=>[]
def Gf (s:Stmt):Scope:=match s with
 | .FunctionDef _ _ _ _ _ _ sc _ _ _=>sc
 | _=>{ kind:=.function,names:=[],isGenerator:=false,isCoroutine:=false }
abbrev CX0:CXT:=λ_ _ _ _ _ _=>False
abbrev E0:XK:=λ_ _ _=>False
theorem GN {X:Cx}:WM CX0 X E0:=λ_ _ _ _ _ _ _ h=>h.elim
structure Fun (K:FF)(x qual:Str)(st:Stmt)(f:AD)(fd:FuncData):Prop where
 ex:∃(oc:Aa)(od:Option AD)(kV doc pm:Aa)(an:Option AD)(cdv ct:Aa)(osl:Array (Option Aa)),
  fd=W.fnOf x qual (J1 st) (Jz st) (Gf st) .none kV doc pm an cdv ct/\K.lookup f=some ⟨oc,od,.func fd,osl⟩/\W.codeIn K cdv qual=true
 kp:W.keepIn K (.ref f)=true
section
variable {P:PP}{w:Ab}{K:FF}{mg:Str->Option Aa}{base:Heap}
theorem ZhF {α:Type}{l:List α}(h:l.length=0):l=[]:=List.length_eq_zero_iff.mp h
theorem Zdx {α:Type}{l:List α}{n:Nat}(h:l.length=n+1):∃a t,l=a::t/\t.length=n:=by
 cases l with
 | nil=>cases h
 | cons a t=>exact ⟨a,t,rfl,by simpa using h⟩
theorem len1 {α:Type}{l:List α}(h:l.length=1):∃a,l=[a]:=by
 obtain ⟨a,t,rfl,g⟩:=Zdx h;exact ⟨a,by rw [ZhF g]⟩
theorem Xv {α:Type}{l:List α}(h:l.length=2):∃x0 x1,l=[x0,x1]:=by
 obtain ⟨a,t,rfl,g⟩:=Zdx h;obtain ⟨x1,rfl⟩:=len1 g;exact ⟨a,x1,rfl⟩
theorem ZbQ {α:Type}{l:List α}(h:l.length=3):∃x0 x1 x2,l=[x0,x1,x2]:=by
 obtain ⟨a,t,rfl,g⟩:=Zdx h;obtain ⟨x1,x2,rfl⟩:=Xv g;exact ⟨a,x1,x2,rfl⟩
theorem ZeE {α:Type}{l:List α}(h:l.length=4):∃x0 x1 x2 x3,l=[x0,x1,x2,x3]:=by
 obtain ⟨a,t,rfl,g⟩:=Zdx h;obtain ⟨x1,x2,x3,rfl⟩:=ZbQ g;exact ⟨a,x1,x2,x3,rfl⟩
theorem ZfB {α:Type}{l:List α}(h:l.length=5):∃x0 x1 x2 x3 x4,l=[x0,x1,x2,x3,x4]:=by
 obtain ⟨a,t,rfl,g⟩:=Zdx h;obtain ⟨x1,x2,x3,x4,rfl⟩:=ZeE g;exact ⟨a,x1,x2,x3,x4,rfl⟩
theorem ZhG {α:Type}{l:List α}(h:l.length=6):∃x0 x1 x2 x3 x4 x5,l=[x0,x1,x2,x3,x4,x5]:=by
 obtain ⟨a,t,rfl,g⟩:=Zdx h;obtain ⟨x1,x2,x3,x4,x5,rfl⟩:=ZfB g;exact ⟨a,x1,x2,x3,x4,x5,rfl⟩
theorem ZhV {α:Type}{l:List α}(h:l.length=7):∃x0 x1 x2 x3 x4 x5 x6,l=[x0,x1,x2,x3,x4,x5,x6]:=by
 obtain ⟨a,t,rfl,g⟩:=Zdx h;obtain ⟨x1,x2,x3,x4,x5,x6,rfl⟩:=ZhG g;exact ⟨a,x1,x2,x3,x4,x5,x6,rfl⟩
theorem Fun.ok {x qual:Str}{st:Stmt}{f:AD}{fd:FuncData}{N ps:List Str}{k:Nat}{sp:Sp}(F:Fun K x qual st f fd)(S:Gk N ps (Gf st))(len:∀vs H Q E,sp vs H Q E->vs.length=ps.length)(jZ:∀(cdv:Aa)(A:Around)(outer:List Env)(s:SS)(H:Hp)(vs:List V)(Q:VK)(E:XK),Room k (A.deeper (envOfC qual (Gf st) s.heap.objs.size f cdv))->sp vs H Q E ->
   ∃t,PSs (Zbz CX0 P w K mg base N qual (Gf st) f cdv A outer s H E).nox (Jz st) t/\t { nx:=λ_ H'=>Q .non H',rt:=Q } (start N vs) H):GG P w K mg base CX0 (k+1) f fd ps sp:=by
 obtain ⟨oc,od,kV,doc,pm,an,cdv,ct,osl,rfl,lk,hcd⟩:=F.ex;refine ZeA lk hcd S len λA outer s H vs Q E hr hsp=>?_;obtain ⟨t,h,q⟩:=jZ cdv A outer s H vs Q E hr hsp;exact ⟨t,h.nox,q⟩
theorem Fun.binds {x qual:Str}{st:Stmt}{f:AD}{fd:FuncData}{ps:List Str}(F:Fun K x qual st f fd)(h:∀(kV doc pm:Aa)(an:Option AD)(cdv ct:Aa)(us:LW),us.length=ps.length->bindArgs (W.fnOf x qual (J1 st) (Jz st) (Gf st) .none kV doc pm an cdv ct) ⟨us,[]⟩=pure (ps.zip us)):Binds K fd ps []:=by
 obtain ⟨oc,od,kV,doc,pm,an,cdv,ct,osl,rfl,lk,hcd⟩:=F.ex;exact .all (h kV doc pm an cdv ct)
theorem ZcX {x qual:Str}{st:Stmt}{f:AD}{oc:Aa}{od an:Option AD}{osl:Array (Option Aa)}{kV doc pm cdv ct:Aa}(l:K.lookup f=some ⟨oc,od,.func (W.fnOf x qual (J1 st) (Jz st) (Gf st) .none kV doc pm an cdv ct),osl⟩)(c:W.codeIn K cdv qual=true)(k:W.keepIn K (.ref f)=true):Fun K x qual st f (W.fnOf x qual (J1 st) (Jz st) (Gf st) .none kV doc pm an cdv ct):=⟨⟨oc,od,kV,doc,pm,an,cdv,ct,osl,rfl,l,c⟩,k⟩
end
section
variable {X:Cx}
theorem pv (i:Nat){x:Str}{pos:Pos}(hN:X.N[i]?=some x:=by rfl)(hv:Vis X.env.scope x:=by first | exact Or.inl rfl | exact Or.inr (Or.inl rfl) | exact Or.inr (Or.inr rfl))(hd:(x == ("__debug__" : Str))=false:=by decide)(hcd:(x == ("__classdict__" : Str))=false:=by decide):PE X (.Name x pos) (ZgV i):=Zen hN hv hd hcd
end
theorem Jw {A B:Prop}(h:B):if false=true then A else B:=by
 rw [if_neg Bool.false_ne_true];exact h
theorem G5 {A B:Prop}(h:A):if true=true then A else B:=by
 rw [if_pos rfl];exact h
theorem WX {c A B:Prop}[Decidable c](h1:c->A)(h2:¬ c->B):if c then A else B:=by
 by_cases h:c
 ·rw [if_pos h];exact h1 h
 ·rw [if_neg h];exact h2 h
def Same (H H':Hp):Prop:=∀b o,H b=some o->H' b=some o
theorem Same.refl (H:Hp):Same H H:=λ_ _ h=>h
theorem Same.trans {H H1 H2:Hp}(a:Same H H1)(b:Same H1 H2):Same H H2:=λc o h=>b c o (a c o h)
theorem Same.free {H H':Hp}(e:Same H H'){l:AD}(h:H' l=Option.none):H l=Option.none:=by
 cases q:H l with
 | none=>rfl
 | some o=>
  rw [e l o q] at h;cases h
theorem Same.seq {K:FF}{H H':Hp}{a:AD}{xs:List V}(e:Same H H')(h:SqL K H a xs):SqL K H' a xs:=by
 rcases h with (h | ⟨o,h⟩) | h
 ·exact .inl (.inl (e _ _ h))
 ·exact .inl (.inr ⟨o,e _ _ h⟩)
 ·exact .inr h
end L2
namespace L2
open PySem PySem.Spec PyProof.Rows
section
variable {prog:PP}{w:Ab}{A:Around}{R:Result->SS->Prop}{s:SS}
theorem WY {elt qU iter:Expr}{ifs:List Expr}{scope:Scope}{pos:Pos}{it acc:Aa}{env:Env}(I:Nat->SS->Prop)(turn:∀n s,I n s->wpAny (model prog w) A (pyNext it) (λr s1=>match r with
   | none=>R (.ok .next) s1
   | some v=>wpAny (model prog w) A (letOwnedTupleGo qU it v) (λ_ s1'=>wpAny (model prog w) A (assign qU env v) (λ_ s2=>
     wpAny (model prog w) A (forIn ifs true λc r=>if r=true then do let ok <- isTrue c env (eval c env);pure (ForInStep.yield ok) else pure (ForInStep.yield r)) (λok s3=>
      if ok=true then wpAny (model prog w) A (eval elt env) (λx s4=>
       wpAny (model prog w) A (call (.builtin "list.append") [acc,x]) (λ_ s5=>∃m,m<n/\I m s5) (λ_ _=>False) s4) (λ_ _=>False) s3
      else ∃m,m<n/\I m s3) (λ_ _=>False) s2) (λ_ _=>False) s1') (λ_ _=>False) s1) (λ_ _=>False) s)(n:Nat)(h:I n s) :
  codeAny (model prog w) A (.compLoop (.ListComp elt [⟨qU,iter,ifs,0⟩] scope pos) 0 it acc env) R s:=by
 have ff:∀{E:Aa->SS->Prop},∀(x:Aa)(s:SS),(λ(_:Aa) (_:SS)=>False) x s->E x s:=λ_ _ z=>False.elim z;refine codeAny_loop rfl I (λn s hI=>?_) n h;show wpAny _ A ((compTurn (.ListComp elt [⟨qU,iter,ifs,0⟩] scope pos) 0 it acc env).onRaise (λx=>do noteFrame x env;theTreesLotGoes x)) _ _ s;refine wpAny_noted ?_;rw [compTurn_list];refine wpAny_bind (wpAny_standAt (wpAny_bind (wpAny_mono (turn n s hI) (λr s1 h1=>?_) ff)));cases r with
 | none=>exact wpAny_pure h1
 | some v=>
  refine wpAny_bind (wpAny_mono h1 (λ_ s1' h1'=>?_) ff);refine wpAny_bind (wpAny_mono h1' (λ_ s2 h2=>wpAny_bind (wpAny_mono h2 (λok s3 h3=>?_) ff)) ff);cases ok with
  | false=>exact wpAny_pure ⟨rfl,h3⟩
  | true=>
   exact wpAny_bind (wpAny_bind (wpAny_mono h3 (λx s4 h4=>wpAny_bind (wpAny_mono h4 (λ_ s5 h5=>wpAny_pure (wpAny_pure ⟨rfl,h5⟩)) ff)) ff))
end
def Cx.comp (X:Cx)(scope:Scope)(cl:List (Str×AD))(N:List Str)(C:AD)(s:SS)(H:Hp)(fp:List AD):Cx:=
 { X with N:=N,s₀:=s,H₀:=H,env:=compEnvC scope cl C X.env,outer:=X.stack,ex:=fp,fn:=λ_=>false,pn:=[],xe:=λ_ _=>False }
def ZeF (X:Cx)(ifs:List Expr)(t:TT):Prop:=
 ∀(qQ:List (AD×Obj))(s:SS)(σ:St)(H:Hp)(Q:Bool->Hp->Prop),Inv X qQ σ H s->t σ H Q ->
  wpAny (model X.prog X.w) X.A (forIn ifs true λc r=>if r=true then do let ok <- isTrue c X.env (eval c X.env);pure (ForInStep.yield ok) else pure (ForInStep.yield r)) (TP X qQ σ Q) X.xe s
def Yi:TT:=λ_ H Q=>Q true H
theorem GW {X:Cx}:ZeF X [] Yi:=λ_ _ _ H _ I h=>wpAny_tests_nil ⟨H,I,h⟩
theorem J2 {X:Cx}{c:Expr}{t:TT}(h:PT X c t):ZeF X [c] t:=λqQ s σ H Q I hw=>wpAny_tests_one (h qQ s σ H Q I hw)
structure JQ (X:Cx)(scope:Scope)(cl:List (Str×AD))(own:List Str)(fr:List (Str×Nat)):Prop where
 clos:closureFor scope X.env=pure cl
 nocell:∀y∈scope.names,y.2≠.cell
 kind:scope.kind=.function
 names:∀y∈scope.names,y.2=.local->scope.names.lookup y.1=some .local
 cls:∀y c,cl.lookup y=some c->X.env.cells.lookup y=some c
 has:∀y,((relabel scope X.env).names.lookup y=some .cell\/(relabel scope X.env).names.lookup y=some .free)->∃c,cl.lookup y=some c
 free:∀p∈fr,X.N[p.2]?=some p.1/\(X.env.kindOf p.1=some .cell\/X.env.kindOf p.1=some .free)/\((relabel scope X.env).names.lookup p.1=some .cell\/(relabel scope X.env).names.lookup p.1=some .free)
def OD (own:List Str)(fr:List (Str×Nat))(σ:St):St:=own.map (λ_=>none)++fr.map λp=>(σ[p.2]?).join
def OU:St->St->Prop
 | [],[]=>True
 | none::r,_::r'=>OU r r'
 | some v::r,some v'::r'=>v=v'/\OU r r'
 | _,_=>False
theorem Os:∀{a b:St},OU a b->∀(i:Nat)(v:V),a[i]?=some (some v)->b[i]?=some (some v)
 | [],[],_,i,v,h=>by simp at h
 | [],_::_,z,_,_,_=>z.elim
 | none::r,[],z,_,_,_=>z.elim
 | some _::r,[],z,_,_,_=>z.elim
 | some _::r,none::_,z,_,_,_=>z.elim
 | none::r,_::r',z,0,v,h=>by simp at h
 | none::r,_::r',z,i+1,v,h=>by
  have:=Os (a:=r) (b:=r') z i v (by simpa using h);simpa using this
 | some x::r,some x'::r',z,0,v,h=>by
  obtain ⟨e,_⟩:=z;subst e;simpa using h
 | some x::r,some x'::r',z,i+1,v,h=>by
  have:=Os (a:=r) (b:=r') z.2 i v (by simpa using h);simpa using this
def JA (J:It)(D:AD)(g:TG)(tc:TT)(te:TE)(σ0:St)(W:Nat->Nat->List V->Hp->Prop)(R:Hp->Prop):Prop:=
 ∀i m ys H2,W i m ys H2->(J.stop i H2/\R H2)\/(J.go i H2/\∃N:List V->Hp->Prop,(∀ys' H',N ys' H'->∃m',m'<m/\W (i+1) m' ys' H')/\∀x H3,J.yld i H2 x H3->g x σ0 H3 λσ4 H4=>OU σ0 σ4/\tc σ4 H4 λb H5=>
  if b=true then te σ4 H5 λy H6=>H6 D=some (.lst ys)/\ys.length<sizeLine/\N (ys++[y]) (upd H6 D (.lst (ys++[y])))
  else N ys H5)
def ZeG (wi:TI)(g:TG)(tc:TT)(te:TE)(own:List Str)(fr:List (Str×Nat)):TE:=λσ H Q=>wi σ H λJ H1=>∀D,H1 D=none ->
 ∃W:Nat->Nat->List V->Hp->Prop,(∃m,W 0 m [] (upd H1 D (.lst [])))/\JA J D g tc te (OD own fr σ) W λH2=>Q (.ref D) H2
section
variable {X:Cx}{qU iter elt:Expr}{ifs:List Expr}{scope:Scope}{cl:List (Str×AD)}{own:List Str}{fr:List (Str×Nat)}{pos:Pos}{wi:TI}{g:TG}{tc:TT}{te:TE}
theorem Inv.sub_pins {qQ pins':List (AD×Obj)}{σ:St}{H:Hp}{s:SS}(I:Inv X qQ σ H s)(h:∀p∈pins',p∈qQ):Inv X pins' σ H s:=I.pins_of λp hp=>I.pin p (List.mem_append_right _ (h p hp))
theorem Zdy {qQ:List (AD×Obj)}{σ:St}{H:Hp}{s:SS}{C:AD}{fp:List AD}(S:JQ X scope cl own fr)(I:Inv X qQ σ H s)(hf:∀b∈fp,Zby X qQ H b)(hC:s.heap.objs.size<=C)(hfl:∀b∈fp,b<s.heap.objs.size) :
  (X.comp scope cl (own++fr.map (·.1)) C s H fp).Ok:=by
 refine ⟨I.ok.mod,?_,I.ok.glob,I.ok.blt,hC,λx y c h1 h2=>I.ok.inj x y c (S.cls x c h1) (S.cls y c h2),S.has,λx c z=>absurd z (by simp [Cx.comp]),I.ok.hd,I.ok.frames,.inl rfl,
  λb hb=>⟨Nat.ne_of_lt (Nat.lt_of_lt_of_le (hfl b hb) hC),λx c h=>(hf b hb).2.2.2.2.1 x c (S.cls x c h)⟩,I.bs,Nat.le_trans I.ok.bsz I.sz,λb o e hb=>?_,λb hb z=>?_,I.stack,I.stkFree⟩
 ·show (relabel scope X.env).kind=.function;exact S.kind
 ·rcases (hf b hb).2.2.2.1 with z | z
  ·exact I.ok.noex b o e z
  ·exact absurd (Nat.lt_of_lt_of_le (Heap.lt_size e) (Nat.le_trans I.ok.bsz z)) (Nat.lt_irrefl _)
 ·rcases List.mem_cons.mp (I.stkSub b z) with q | q
  ·exact (hf b hb).2.1 q
  ·exact (hf b hb).2.2.1 q
theorem Vx (own:List Str)(fr:List (Str×Nat))(σ:St):(OD own fr σ).length=(own++fr.map (·.1)).length:=by
 unfold OD;simp
theorem Vy {qQ:List (AD×Obj)}{σ:St}{H:Hp}{s:SS}{it:AD}{fp:List AD}{tn:Nat->Heap->Prop}{J:It}{E:Aa->SS->Prop}{RR:Aa->AD->Result->SS->Prop}{Rf:AD->Hp->Prop}(hc:X.calm=true)(S:JQ X scope cl own fr)(I:Inv X qQ σ H s)(T:ZcQ X.prog X.w X.K qU J fp it tn)(st:tn 0 s.heap)(hf:∀b∈fp,Zby X qQ H b)(hg:∀C s H fp,PG (X.comp scope cl (own++fr.map (·.1)) C s H fp) qU g)(ht:∀C s H fp,ZeF (X.comp scope cl (own++fr.map (·.1)) C s H fp) ifs tc)(he:∀C s H fp,PE (X.comp scope cl (own++fr.map (·.1)) C s H fp) elt te)(hw:∀D,H D=none->∃W:Nat->Nat->List V->Hp->Prop,(∃m,W 0 m [] (upd H D (.lst [])))/\JA J D g tc te (OD own fr σ) W (Rf D))(hRR:∀D C s' H',s.heap.objs.size<=C->C≠D->(∃m,s'.heap.Ns C m)->H' C=none->Un (frs X.stack) fp H H' s.heap s'.heap->HOk X.prog X.w H' s'.heap->AllBare s'.gens->s'.os=s.os->Rf D H'->RR (.ref D) C (.ok .next) s') :
  wpAny (model X.prog X.w) X.A (newList []) (λacc s3=>wpAny (model X.prog X.w) X.A (newFunctionEnv scope X.env.globals cl [] X.env.qual none .none (some X.env)) (λcenv s4=>
   codeAny (model X.prog X.w) X.A (.compStart (.ListComp elt [⟨qU,iter,ifs,0⟩] scope pos) 0 (.ref it) acc { cenv with scope:=relabel scope X.env }) (RR acc cenv.locals) s4) E s3) E s:=by
 have hfl:∀b∈fp,b<s.heap.objs.size:=λb hb=>by
  obtain ⟨o,e,_⟩:=T.obj 0 s.heap st b hb;exact Heap.lt_size e
 have hD:H s.heap.objs.size=none:=I.fresh;obtain ⟨W,⟨m0,w0⟩,turns⟩:=hw s.heap.objs.size hD;have I1:Inv X qQ σ (upd H s.heap.objs.size (.lst [])) { s with heap:=s.heap.push { cls:=.type "list", data:=.seq ([]:LW).toArray },toks:=s.toks }:=I.lnew .nil (Nat.zero_le _);refine wpAny_newObj_type (wpAny_newFunctionEnv S.nocell (by intro y hy;simp at hy) (λh1 hns1 hsb1=>?_) S.kind);dsimp only at hns1 hsb1 ⊢;generalize hH2:s.heap.push { cls:=.type "list", dict:=none,data:=.seq ([]:LW).toArray }=H2 at hns1 hsb1 ⊢ I1;have hCs:H2.objs.size=s.heap.objs.size+1:=by rw [<-hH2,Heap.size_push]
 have hCle:s.heap.objs.size<=H2.objs.size:=by lia
 have hDC:s.heap.objs.size≠H2.objs.size:=by lia
 have up1:∀b o,H2.get? b=some o->h1.get? b=some o:=λb o e=>hsb1.extBut b o (Nat.ne_of_lt (Heap.lt_size e)) (Heap.get?_push_of_some _ e);have up:∀b o,s.heap.get? b=some o->h1.get? b=some o:=λb o e=>up1 b o (hH2▸Heap.get?_push_of_some _ e);have okY:=Zdy (C:=H2.objs.size) S I hf hCle hfl;have I0:∀tk,Inv (X.comp scope cl (own++fr.map (·.1)) H2.objs.size s H fp) [] (OD own fr σ) (upd H s.heap.objs.size (.lst [])) { s with heap:=h1,toks:=tk }:=by
  intro tk;have hok1:HOk X.prog X.w (upd H s.heap.objs.size (.lst [])) h1:=I1.hok.kept up1;refine ⟨okY,rfl,I.bare,⟨λb o e n _ _=>up b o e,λb o e n _ _=>⟨o.slots,up b o e⟩,λb o e n _=>?_,λb o e _=>⟨o,up b o e⟩,λb xs q=>?_,λb o u q=>?_,λb ps q=>⟨#[],?_⟩⟩,
   ⟨_,hns1,λi x v e1 e2 e3=>?_⟩,λx c e=>?_,?_,λx c e=>?_,λp hp=>?_,hok1,Vx own fr σ⟩
  ·have e':s.heap.get? b=some o:=e;show upd H s.heap.objs.size (.lst []) b=none;rw [Gu (Nat.ne_of_lt (Heap.lt_size e'))];exact n
  ·rw [Gu (Gm q hD)];exact q
  ·rw [Gu (Gm q hD)];exact q
  ·have q':H b=some (.tbl ps):=q;rw [Gu (Gm q' hD),q'];simp
  ·-- the free names
   have e2':(OD own fr σ)[i]?=some (some v):=e2;have e1':(own++fr.map (·.1))[i]?=some x:=e1;unfold OD at e2';by_cases hi:i<own.length
   ·rw [List.getElem?_append_left (by simpa using hi),List.getElem?_map] at e2';cases q:own[i]? with
    | none=>rw [q] at e2';cases e2'
    | some y=>rw [q] at e2';cases e2'
   ·rw [List.getElem?_append_right (by simpa using hi),List.length_map,List.getElem?_map] at e2';rw [List.getElem?_append_right (by lia),List.getElem?_map] at e1';cases q:fr[i-own.length]? with
    | none=>rw [q] at e2';cases e2'
    | some p=>
     rw [q] at e1' e2';have ex:p.1=x:=Option.some.inj e1';have ev:(σ[p.2]?).join=some v:=Option.some.inj e2';have ev':σ[p.2]?=some (some v):=by
      cases z:σ[p.2]? with
      | none=>rw [z] at ev;cases ev
      | some o=>rw [z] at ev;cases o with
       | none=>cases ev
       | some v'=>have:v'=v:=Option.some.inj ev;rw [this]
     obtain ⟨f1,f2,f3⟩:=S.free p (List.mem_of_getElem? q);subst ex;obtain ⟨m,hn,hl⟩:=I.loc;have vis:Vis X.env.scope p.1:=by
      rcases f2 with f2 | f2
      ·exact .inr (.inl f2)
      ·exact .inr (.inr f2)
     obtain ⟨u,ru,lk⟩:=hl p.2 p.1 v f1 ev' vis;refine ⟨u,ru,?_⟩;rcases lk with ⟨k,_⟩ | ⟨k,c,e,z⟩
     ·rcases f2 with f2 | f2 <;> (rw [f2] at k;cases k)
     ·obtain ⟨c',hc'⟩:=S.has p.1 f3;have e':=S.cls _ _ hc';rw [e] at e';cases e';obtain ⟨oc,ho,hd⟩:=z;exact .inr ⟨f3,c,hc',⟨oc,up _ _ ho,hd⟩⟩
  ·obtain ⟨v,oc,ho,hd⟩:=I.cell x c (S.cls x c e);exact ⟨v,oc,up _ _ ho,hd⟩
  ·show upd H s.heap.objs.size (.lst []) H2.objs.size=none;rw [Gu (Ne.symm hDC)];exact I.hok.fresh hCle
  ·obtain ⟨v,z⟩:=I.cell x c (S.cls x c e);show upd H s.heap.objs.size (.lst []) c=none;rw [Gu (Nat.ne_of_lt z.lt)];exact I.freeC x c (S.cls x c e)
  ·exact absurd (show p∈([]:List (AD×Obj)) from hp) (by simp)
 have fpf:∀b∈fp,upd H s.heap.objs.size (.lst []) b=none:=λb hb=>by rw [Gu (Nat.ne_of_lt (hfl b hb))];exact (hf b hb).1
 have st1:tn 0 h1:=T.keep 0 _ _ st λb hb o e=>up b o e;have stat:∀{H':Hp},(∀b∈fp,H' b=none)->∀b∈fp,Zby (X.comp scope cl (own++fr.map (·.1)) H2.objs.size s H fp) [] H' b:=λhn b hb=>
  ⟨hn b hb,(okY.exf b hb).1,okY.exfs b hb,.inl hb,(okY.exf b hb).2,λp hp=>absurd (show p∈([]:List (AD×Obj)) from hp) (by simp)⟩
 have loop:∀s3:SS,(∃tk,s3={ s with heap:=h1,toks:=tk }) ->
   codeAny (model X.prog X.w) X.A (.compLoop (.ListComp elt [⟨qU,iter,ifs,0⟩] scope pos) 0 (.ref it) (.ref s.heap.objs.size) (compEnvC scope cl H2.objs.size X.env)) (RR (.ref s.heap.objs.size) H2.objs.size) s3:=by
  rintro s3 ⟨tk,rfl⟩;refine WY (λn s'=>∃i ys H',Inv (X.comp scope cl (own++fr.map (·.1)) H2.objs.size s H fp) [] (OD own fr σ) H' s'/\tn i s'.heap/\(∀b∈fp,H' b=none)/\W i n ys H') ?_ m0 ⟨0,[],_,I0 tk,st1,fpf,w0⟩;rintro n s4 ⟨i,ys,H4,I4,st4,fr4,w4⟩;rcases turns i n ys H4 w4 with ⟨stop,q⟩ | ⟨go,N,hN,step⟩
  ·refine thn (T.done (X.comp scope cl (own++fr.map (·.1)) H2.objs.size s H fp) rfl rfl rfl hc i [] s4 _ H4 _ I4 (stat fr4) st4 stop) λr s5 ⟨hr,I5⟩=>?_;subst hr;exact hRR _ _ s5 H4 hCle (Ne.symm hDC) ⟨_,I5.loc.choose_spec.1⟩ I5.free I5.base I5.hok I5.bare I5.os q
  ·refine thn (T.item (X.comp scope cl (own++fr.map (·.1)) H2.objs.size s H fp) rfl rfl rfl hc i [] s4 _ H4 _ I4 (stat fr4) st4 go) λr s5 ⟨u,hr,h5⟩=>?_;subst hr;refine thn h5 λ_ s6 ⟨x,H6,I6,r6,y6,st6,fr6⟩=>?_;have I6':=I6.pinned (stat fr6) (T.obj _ _ st6);refine thn (hg H2.objs.size s H fp _ s6 _ H6 x u _ I6' r6 (step x H6 y6)) λ_ s7 ⟨σ7,H7,I7,k7,q7⟩=>?_;refine thn (ht H2.objs.size s H fp _ s7 σ7 H7 _ I7 q7) λok s8 ⟨H8,I8,q8⟩=>?_;have again:∀{s9:SS}{σ9:St}{H9:Hp}{zs:List V},Inv (X.comp scope cl (own++fr.map (·.1)) H2.objs.size s H fp) ([]++WL fp s6.heap) σ9 H9 s9->(∀(i:Nat) v,(OD own fr σ)[i]?=some (some v)->σ9[i]?=some (some v))->(∃m',m'<n/\W (i+1) m' zs H9) ->
     ∃m,m<n/\∃i ys H',Inv (X.comp scope cl (own++fr.map (·.1)) H2.objs.size s H fp) [] (OD own fr σ) H' s9/\tn i s9.heap/\(∀b∈fp,H' b=none)/\W i m ys H':=by
    intro s9 σ9 H9 zs I9 hσ ⟨m',hm,w9⟩;refine ⟨m',hm,i+1,zs,H9,(I9.sub_pins (λp hp=>absurd (show p∈([]:List (AD×Obj)) from hp) (by simp))).weak ?_ hσ,T.keep _ _ _ st6 λb hb o e=>(I9.pin (b,o) (List.mem_append_right _ (List.mem_append_right _ (Oq hb e)))).1,λb hb=>?_,w9⟩
    ·rw [I9.len];exact Vx own fr σ
    ·obtain ⟨o,e,d⟩:=T.obj _ _ st6 b hb;exact (I9.pin (b,o) (List.mem_append_right _ (List.mem_append_right _ (Oq hb e)))).2.1
   cases ok with
   | false=>exact (if_neg Bool.false_ne_true).mpr (again I8 (Os k7) (hN _ _ ((if_neg Bool.false_ne_true).mp q8)))
   | true=>
    refine (if_pos rfl).mpr ?_;have q8':=(if_pos rfl).mp q8;refine thn (he H2.objs.size s H fp _ s8 σ7 H8 _ I8 q8') λy s9 ⟨yv,H9,I9,r9,hD9,hz,q9⟩=>?_;refine thn (OS _ s9 σ7 H9 (.ref s.heap.objs.size) [yv] (.ref s.heap.objs.size) [y] (λ_ H'=>H'=upd H9 s.heap.objs.size (.lst (ys++[yv]))) I9 rfl (.cons r9 .nil) ⟨_,ys,yv,rfl,rfl,hD9,hz,rfl⟩) λ_ s10 ⟨_,H10,I10,_,e10⟩=>?_;subst e10;exact again I10 (Os k7) (hN _ _ q9)
 exact codeAny_compStart_list (loop _ ⟨_,rfl⟩) (T.self _ 0 _ _ _ st1 (loop _ ⟨_,rfl⟩))
theorem Vz {qQ:List (AD×Obj)}{σ:St}{H H':Hp}{s s':SS}{fp:List AD}(I:Inv X qQ σ H s)(hf:∀b∈fp,Zby X qQ H b)(un:Un (frs X.stack) fp H H' s.heap s'.heap)(hok:HOk X.prog X.w H' s'.heap)(bare:AllBare s'.gens)(os:s'.os=s.os):Inv X qQ σ H' s':=
 I.call' os un hok bare λb hb=>⟨(hf b hb).2.2.2.1,(hf b hb).2.1,(hf b hb).2.2.2.2.1,(hf b hb).2.2.2.2.2⟩
theorem Yj {qQ:List (AD×Obj)}{σ σ':St}{H H':Hp}{s s':SS}{C:AD}{h':Heap}(I:Inv X qQ σ H s)(hC:s.heap.objs.size<=C)(hn:H' C=none)(I':Inv X qQ σ' H' s')(sb:Heap.SameBut C s'.heap h') :
  Inv X qQ σ' H' { s' with heap:=h' }:=by
 obtain ⟨f0,f1,f2,f3,f4,f5⟩:=I.fpOk hC hn;exact I'.turned (t':=s'.toks) (λb o hb e=>(sb.2 b hb).trans e) f0 f1 f3 f4 f5
theorem G7 (hc:X.calm=true)(S:JQ X scope cl own fr)(hi:PI X qU iter wi)(hg:∀C s H fp,PG (X.comp scope cl (own++fr.map (·.1)) C s H fp) qU g)(ht:∀C s H fp,ZeF (X.comp scope cl (own++fr.map (·.1)) C s H fp) ifs tc)(he:∀C s H fp,PE (X.comp scope cl (own++fr.map (·.1)) C s H fp) elt te)(hs:∀x,foldedSetIterable iter X.env x=pure x:=by intro _;rfl):PE X (.ListComp elt [⟨qU,iter,ifs,0⟩] scope pos) (ZeG wi g tc te own fr):=by
 intro qQ s σ H Q I h;rw [eval_ListComp];refine wpAny_comprehension_free (use:=none) rfl hs S.clos S.kind S.names (thn (hi qQ s σ H _ I h) λv s1 h1=>thn h1 λitv s2 h2=>?_);obtain ⟨it,fp,tn,J,H2,e,I2,T,st2,f2,hw⟩:=h2;subst e;refine Vy (RR:=λacc C=>compPost (model X.prog X.w) X.A X.xe none (EP X qQ σ Q) acc C) hc S I2 T st2 f2 hg ht he hw ?_;rintro D C s' H' hC hDC ⟨m,hn⟩ hCf un hok bare os q;refine ⟨m,hn,λh' hs'=>⟨.ref D,H',?_,rfl,q⟩⟩;exact Yj (C:=C) (σ:=σ) I2 hC hCf (Vz I2 f2 un hok bare os) hs'
theorem Ul {i:Nat}{y:Str}{py spos:Pos}(hN:X.N.Nodup)(hi':X.N[i]?=some y)(hx:Loc X.env.scope y)(hc:X.calm=true)(S:JQ X scope cl own fr)(hi:PI X qU iter wi)(hg:∀C s H fp,PG (X.comp scope cl (own++fr.map (·.1)) C s H fp) qU g)(ht:∀C s H fp,ZeF (X.comp scope cl (own++fr.map (·.1)) C s H fp) ifs tc)(he:∀C s H fp,PE (X.comp scope cl (own++fr.map (·.1)) C s H fp) elt te)(hf:X.fn y=true\/X.env.scope.names.lookup y=some .local:=by first | exact .inl rfl | exact .inr rfl | assumption)(hsw:swapsWith (.ListComp elt [⟨qU,iter,ifs,0⟩] scope pos) (some (.Name y py)) spos.line X.env=pure true:=by rfl)(hs:∀x,foldedSetIterable iter X.env x=pure x:=by intro _;rfl):PS X (.Assign [.Name y py] (.ListComp elt [⟨qU,iter,ifs,0⟩] scope pos) spos) (ZfS (ZeG wi g tc te own fr) (GL i)):=by
 intro qQ s σ H Dn I h;rw [exec_Assign_Name_used _ _ _ _ hsw];refine wpAny_bind (wpAny_standAt (wpAny_bind ?_));show wpAny _ X.A (do let _ <- comprehension (.ListComp elt [⟨qU,iter,ifs,0⟩] scope pos) scope X.env _ (newList []) false (eval iter X.env) (some (assign (.Name y py) X.env))) _ _ s;refine wpAny_bind (wpAny_mono (wpAny_comprehension_free (use:=some (assign (.Name y py) X.env)) (Q:=λ_ s'=>SP X qQ Dn .next s') rfl hs S.clos S.kind S.names (thn (hi qQ s σ H _ I h) λv s1 h1=>thn h1 λitv s2 h2=>?_))
  (λ_ s' hq=>wpAny_pure (wpAny_pure hq)) λ_ _ e=>e)
 obtain ⟨it,fp,tn,J,H2,e,I2,T,st2,f2,hw⟩:=h2;subst e;refine Vy (RR:=λacc C=>compPost (model X.prog X.w) X.A X.xe (some (assign (.Name y py) X.env)) (λ_ s'=>SP X qQ Dn .next s') acc C) hc S I2 T st2 f2 hg ht he hw ?_;rintro D C s' H' hC hDC ⟨m,hn⟩ hCf un hok bare os q;have I3:Inv X qQ σ H' s':=Vz I2 f2 un hok bare os;show wpAny _ X.A (assign (.Name y py) X.env (.ref D)) _ _ s';refine wpAny_assign_Name (WH I3 hN hi' hx (v:=.ref D) rfl (λs4 I4 ⟨a,hsa,ha⟩=>?_) hf);have hCa:C≠a:=by
  rcases ha with z | z
  ·rw [z];exact Nat.ne_of_gt (Nat.lt_of_lt_of_le I2.lt hC)
  ·obtain ⟨v,q⟩:=I2.cell y a z;exact Nat.ne_of_gt (Nat.lt_of_lt_of_le q.lt hC)
 refine ⟨m,hn.sameBut hsa hCa,λh' hs'=>⟨_,H',Yj (C:=C) (σ:=σ) I2 hC hCf I4 hs',q⟩⟩
end
theorem GM {K:PySem.W.Frag}{a D:AD}{xs:List V}{g:TG}{tc:TT}{te:TE}{σ0:St}{R:Hp->Prop}{H1:Hp}(Pv:Nat->List V->Hp->Prop)(h0:Pv 0 [] (upd H1 D (.lst [])))(hl:∀i ys H,i<=xs.length->Pv i ys H->SqL K H a xs)(hs:∀i x ys H,xs[i]?=some x->Pv i ys H->g x σ0 H λσ4 H4=>OU σ0 σ4/\tc σ4 H4 λb H5=>if b=true then te σ4 H5 λy H6=>H6 D=some (.lst ys)/\ys.length<sizeLine/\Pv (i+1) (ys++[y]) (upd H6 D (.lst (ys++[y]))) else Pv (i+1) ys H5)(hd:∀ys H,Pv xs.length ys H->R H):∃W:Nat->Nat->List V->Hp->Prop,(∃m,W 0 m [] (upd H1 D (.lst [])))/\JA (Itl K a) D g tc te σ0 W R:=by
 refine ⟨λi m ys H=>m=xs.length-i/\i<=xs.length/\Pv i ys H,⟨_,rfl,Nat.zero_le _,h0⟩,?_⟩;rintro i m ys H ⟨rfl,hi,p⟩;have q:=hl i ys H hi p;by_cases hlt:i<xs.length
 ·refine .inr ⟨⟨xs,xs[i],q,by simp [hlt]⟩,Pv (i+1),λys' H' p'=>⟨xs.length-(i+1),by lia,rfl,hlt,p'⟩,λx H' y=>?_⟩;obtain ⟨e,y⟩:=y;subst e;exact hs i x ys _ (y xs q) p
 ·have e:i=xs.length:=by lia
  subst e;exact .inl ⟨⟨xs,q,Nat.le_refl _⟩,hd ys H p⟩
theorem VA {lo:Int}{n:Nat}{D:AD}{g:TG}{tc:TT}{te:TE}{σ0:St}{R:Hp->Prop}{H1:Hp}(Pv:Nat->List V->Hp->Prop)(h0:Pv 0 [] (upd H1 D (.lst [])))(hs:∀i ys H,i<n->Pv i ys H->g (.int (lo+i)) σ0 H λσ4 H4=>OU σ0 σ4/\tc σ4 H4 λb H5=>if b=true then te σ4 H5 λy H6=>H6 D=some (.lst ys)/\ys.length<sizeLine/\Pv (i+1) (ys++[y]) (upd H6 D (.lst (ys++[y]))) else Pv (i+1) ys H5)(hd:∀ys H,Pv n ys H->R H):∃W:Nat->Nat->List V->Hp->Prop,(∃m,W 0 m [] (upd H1 D (.lst [])))/\JA (Itr lo n) D g tc te σ0 W R:=by
 refine ⟨λi m ys H=>m=n-i/\i<=n/\Pv i ys H,⟨_,rfl,Nat.zero_le _,h0⟩,?_⟩;rintro i m ys H ⟨rfl,hi,p⟩;by_cases hlt:i<n
 ·refine .inr ⟨hlt,Pv (i+1),λys' H' p'=>⟨n-(i+1),by lia,rfl,hlt,p'⟩,λx H' y=>?_⟩;obtain ⟨e,y⟩:=y;subst e y;exact hs i ys _ hlt p
 ·have e:i=n:=by lia
  subst e;exact .inl ⟨Nat.le_refl _,hd ys H p⟩
theorem G8 {X:Cx}{scope:Scope}{own:List Str}(hf:∀y∈scope.names,y.2≠.free)(hc:∀y∈scope.names,y.2≠.cell)(hk:scope.kind=.function)(hn:∀y∈scope.names,y.2=.local->scope.names.lookup y.1=some .local):JQ X scope [] own []:=by
 have rel:(relabel scope X.env).names=scope.names:=by
  unfold relabel;dsimp only;refine (List.map_congr_left λp hp=>?_).trans (List.map_id _);obtain ⟨n,k⟩:=p;have:(k == NameKind.free)=false:=by
   have:=hf _ hp;cases k <;> first | rfl | exact absurd rfl this
  simp [this]
 refine ⟨closureFor_none hf,hc,hk,hn,λy c h=>by simp at h,λy h=>?_,λp hp=>by simp at hp⟩;rw [rel] at h;rcases h with h | h
 ·exact absurd rfl (hc _ (PySem.mem_of_lookup h))
 ·exact absurd rfl (hf _ (PySem.mem_of_lookup h))
end L2
namespace L2
open PySem PySem.Spec PyProof.Rows
theorem ObjOk.there {P:PP}{w:Ab}{H:Hp}{h:Heap}{a:AD}{u:HO}(ok:ObjOk P w H h a u):∃v,h.get? a=some v:=by
 cases u with
 | lst xs=>obtain ⟨_,_,_,_,e⟩:=ok;exact ⟨_,e⟩
 | tup xs=>obtain ⟨_,_,_,o,e,_⟩:=ok;exact ⟨_,e⟩
 | dK kvs=>obtain ⟨_,_,_,_,o,_,_,e,_⟩:=ok;exact ⟨_,e⟩
 | dT kvs=>obtain ⟨_,_,_,_,o,_,_,e,_⟩:=ok;exact ⟨_,e⟩
 | set S n=>obtain ⟨o,_,_,_,e,_⟩:=ok;exact ⟨_,e⟩
 | ins C dx fs=>obtain ⟨_,_,_,e,_⟩:=ok;exact ⟨_,e⟩
 | own y=>obtain ⟨_,e⟩:=ok;exact ⟨_,e⟩
 | xd fs=>obtain ⟨_,⟨_,_,_,e,_⟩,_⟩:=ok;exact ⟨_,e⟩
 | rng lo hi=>obtain ⟨_,_,_,e⟩:=ok;exact ⟨_,e⟩
 | frz ob u=>obtain ⟨e,_⟩:=ok;exact ⟨_,e⟩
 | tbl ps=>exact ⟨_,show h.get? a=some _ from ok⟩
 | met f y=>exact ⟨_,show h.get? a=some _ from ok⟩
 | ext φ=>obtain ⟨_,⟨_,e⟩,_⟩:=ok;exact ⟨_,e⟩
def Zf2 (P:PP)(w:Ab)(outer:List Env)(H H':Hp)(s:SS)(a C:AD)(s':SS):Prop:=
 ∃(t:AD)(B:Heap),s'.os=s.os/\AllBare s'.gens/\Un (frs outer) [] H H' s.heap s'.heap/\HOk P w H' s'.heap/\Heap.FlyingW B outer a (.ref C) (.ref t) s'.heap /\
  (∀b o,s'.heap.get? b=some o->H' b≠none->B.get? b=some o)/\(∀b o0 o,s.heap.get? b=some o0->s'.heap.get? b=some o->b ∉ frs outer->B.get? b=some o)
def CXr (P:PP)(w:Ab):CXT:=λouter H s E e s'=>∃(a C:AD)(H':Hp),e=.ref a/\Zf2 P w outer H H' s a C s'/\E (.ref C) none H'
section
variable {X:Cx}{qQ:List (AD×Obj)}{σ:St}{H:Hp}{s:SS}
def Yk (X:Cx)(E:XK):Prop:=∀(qQ:List (AD×Obj))(σ:St)(H:Hp)(s:SS)(h':Heap)(a C:AD)(vs:LW),Inv X qQ σ H s->Heap.MadeExcOf s.heap h' a (.ref C) vs->E (.ref C) none H->X.xe (.ref a) { s with heap:=h' }
theorem JI {P:PP}{w:Ab}{K:FF}{mg:Str->Option Aa}{base:Heap}{N:List Str}{qual:Str}{scope:Scope}{f:AD}{cd:Aa}{A:Around}{outer:List Env}{s:SS}{H:Hp}{E:XK} :
  Yk (Zbz (CXr P w) P w K mg base N qual scope f cd A outer s H E) E:=by
 intro qQ σ H1 s1 h' a C vs I hx hE;have hfr:=I.ok.frames;have hst:s1.heap.FunFrames base (envOfC qual scope s.heap.objs.size f cd::outer):=I.stack;have hin:∀env∈(envOfC qual scope s.heap.objs.size f cd::outer),∀b,env.frame=some b->b∈frs (envOfC qual scope s.heap.objs.size f cd::outer):=λenv he b hb=>List.mem_filterMap.mpr ⟨env,he,hb⟩;have inB:∀b o,s1.heap.get? b=some o->b ∉ frs (envOfC qual scope s.heap.objs.size f cd::outer)->(W.hideAll s1.heap (frs (envOfC qual scope s.heap.objs.size f cd::outer))).get? b=some o:=λb o e n=>W.hideAll_get _ e n;refine wpAny_leaves_madeW (base:=W.hideAll s1.heap (frs (envOfC qual scope s.heap.objs.size f cd::outer))) hfr rfl (λb o q=>W.of_hideAll _ q) (W.funFrames_hide hst hin) hx λh2 t fl tu tn sm=>?_;refine ⟨a,C,H1,rfl,⟨t,_,I.os,I.bare,⟨λb o e n hb _=>?_,λb o e n hb _=>?_,λb o e n _=>?_,λb o e _=>?_,I.base.tups,I.base.frzs,I.base.tbls⟩,λb u e=>?_,fl,λb o e n=>?_,λb o0 o e0 e nb=>?_⟩,hE⟩
 ·have e1:s1.heap.get? b=some o:=I.base.keep b o e n hb (by intro z;exact absurd (show b∈([]:List AD) from z) (by simp));refine fl.1 b o (inB b o e1 λz=>?_);rcases List.mem_cons.mp (I.stkSub b z) with q | q
  ·exact absurd (Nat.lt_of_lt_of_le (Heap.lt_size e) I.ok.above) (by rw [q];exact Nat.lt_irrefl _)
  ·exact hb q
 ·obtain ⟨sl,e1⟩:=I.base.slot b o e n hb (by intro z;exact absurd (show b∈([]:List AD) from z) (by simp));have nf:∀vs,o.data≠.fields vs:=by
   obtain ⟨_,o',ho',hnf⟩:=I.funs.mem (show b∈(outer.filterMap (·.frame)) from hb);rw [e1] at ho';cases ho';exact hnf
  obtain ⟨sl',e2⟩:=sm b { o with slots:=sl } (hx.keeps b _ e1) nf;exact ⟨sl',e2⟩
 ·exact I.base.free b o e n (by intro z;exact absurd (show b∈([]:List AD) from z) (by simp))
 ·obtain ⟨o1,e1⟩:=I.base.there b o e (by intro z;exact absurd (show b∈([]:List AD) from z) (by simp));by_cases hb:b∈frs (envOfC qual scope s.heap.objs.size f cd::outer)
  ·obtain ⟨_,o',ho',hnf⟩:=hst.mem hb;rw [e1] at ho';cases ho';obtain ⟨sl',e2⟩:=sm b o1 (hx.keeps b _ e1) hnf;exact ⟨_,e2⟩
  ·exact ⟨o1,fl.1 b o1 (inB b o1 e1 hb)⟩
 ·have trk:∀c v,s1.heap.get? c=some v->H1 c≠none->h2.get? c=some v:=λc v q hc=>fl.1 c v (inB c v q λz=>hc (I.stkFree c z));refine (I.hok b u e).stay (λc v hc q=>trk c v q ?_) (λ_ q=>q) λ_ _ q=>q;rcases hc with z | z
  ·rw [z,e];simp
  ·rw [z];simp
 ·cases q':H1 b with
  | none=>exact absurd q' n
  | some u=>
   obtain ⟨v,q⟩:=(I.hok b u q').there;have nb:b ∉ frs (envOfC qual scope s.heap.objs.size f cd::outer):=λz=>n (I.stkFree b z);have e2:=fl.1 b v (inB b v q nb);rw [e] at e2;cases e2;exact inB b _ q nb
 ·obtain ⟨o1,e1⟩:=I.base.there b o0 e0 (by intro z;exact absurd (show b∈([]:List AD) from z) (by simp));have nb':b ∉ frs (envOfC qual scope s.heap.objs.size f cd::outer):=λz=>by
   rcases List.mem_cons.mp (I.stkSub b z) with q | q
   ·exact absurd (Nat.lt_of_lt_of_le (Heap.lt_size e0) I.ok.above) (by rw [q];exact Nat.lt_irrefl _)
   ·exact nb q
  have e2:=fl.1 b o1 (inB b o1 e1 nb');have e':h2.get? b=some o:=e;rw [e'] at e2;cases e2;exact inB b _ e1 nb'
theorem ZbR {P:PP}{w:Ab}{outer:List Env}{H H':Hp}{s s':SS}{a C t:AD}{B h2:Heap}(un:Un (frs outer) [] H H' s.heap s'.heap)(hok:HOk P w H' s'.heap)(fr:s'.heap.FunFrames B outer)(trk:∀b o,s'.heap.get? b=some o->H' b≠none->B.get? b=some o)(old:∀b o0 o,s.heap.get? b=some o0->s'.heap.get? b=some o->b ∉ frs outer->B.get? b=some o)(st:B.StaysIn h2)(sm:s'.heap.UpToSlots h2) :
  Un (frs outer) [] H H' s.heap h2/\HOk P w H' h2:=by
 refine ⟨⟨λb o e n hb hx=>st b o (old b o o e (un.keep b o e n hb hx) hb),λb o e n hb hx=>?_,un.free,λb o e hx=>?_,un.tups,un.frzs,un.tbls⟩,λb u e=>?_⟩
 ·obtain ⟨sl,e1⟩:=un.slot b o e n hb hx;obtain ⟨_,o',ho',hnf⟩:=fr.mem hb;rw [e1] at ho';cases ho';obtain ⟨sl',e2⟩:=sm b _ e1 hnf;exact ⟨sl',e2⟩
 ·obtain ⟨o1,e1⟩:=un.there b o e hx;by_cases hb:b∈frs outer
  ·obtain ⟨_,o',ho',hnf⟩:=fr.mem hb;rw [e1] at ho';cases ho';obtain ⟨sl',e2⟩:=sm b _ e1 hnf;exact ⟨_,e2⟩
  ·exact ⟨o1,st b o1 (old b o o1 e e1 hb)⟩
 ·refine (hok b u e).stay (λc v hc q=>st c v (trk c v q ?_)) (λ_ q=>q) λ_ _ q=>q;rcases hc with z | z
  ·rw [z,e];simp
  ·rw [z];simp
end
end L2
namespace L2
open PySem PySem.Spec PyProof.Rows
abbrev Zg6:LW:=[.type "ValueError", .type "Exception", .type "BaseException", .type "object"]
abbrev ExcC (K:FF)(C:AD):Prop:=W.excIn K C Zg6 "ValueError.__new__" = true
theorem Zdz {K:FF}{h:Heap}{C:AD}(KX:K.In h)(ex:ExcC K C):∃mro' ns' mN',(∃nm' qn' bs' hd' sn' sub' ab' col' dd' j0 j1 j2 j3 j5,
  h.get? C=some (excClassObj nm' qn' C ns' bs' mro' hd' sn' sub' ab' col' dd' j0 j1 j2 j3 j5 "ValueError.__new__"))/\h.Ns ns' mN'/\mN' "__init__" = none/\OwnTail h Zg6 mro':=by
 have ex':=ex;unfold ExcC W.excIn at ex';split at ex'
 ·rename_i dd' cd' sl' lk;have lk':=KX _ _ lk;split at ex'
  ·rename_i C' rest' j0 j1 j2 j3 n' j5 hm hs;rw [Bool.and_eq_true,Bool.and_eq_true,Bool.and_eq_true,Bool.and_eq_true,Bool.and_eq_true,beq_iff_eq,beq_iff_eq,beq_iff_eq] at ex';obtain ⟨⟨⟨⟨⟨z1,z2⟩,z3⟩,z4⟩,z5⟩,z6⟩:=ex';have z3':cd'.hasDel=false:=by simpa using z3
   subst z1 z2;cases cd' with
   | mk a1 a2 a3 a4 a5 a6 a7 a8 a9 a10 a11=>
    have hm':a3=.ref C'::rest':=hm;have h11:a11=false:=z3';subst hm' h11;have es:sl'=#[j0,j1,j2,j3,some (.builtin "ValueError.__new__"),j5]:=by
     cases sl' with
     | mk l=>exact congrArg Array.mk hs
    subst es;exact ⟨rest',a4,_,⟨_,_,_,_,_,_,_,_,_,_,_,_,_,_,lk'⟩,.of_isNs (W.isNs_of_in KX z5),W.nsMap_none_of_in KX z5 z6,W.tail_of_in KX z4⟩
  ·cases ex'
 ·cases ex'
section
variable {X:Cx}
def ZeH (C:AD)(E:XK)(t:TA):TS:=λ_ σ H=>t σ H λvs H1=>vs.length<=sizeLine/\E (.ref C) none H1
theorem UG {C:AD}{E:XK}{x:Str}{np qG pos:Pos}{e:Expr}{es:List Expr}{t:TA}(hc:X.calm=true)(hR:Yk X E)(hg:Gl X x)(hm:X.mg x=some (.ref C))(ex:ExcC X.K C)(ha:PA X (e::es) t)(hdb:(x == ("__debug__" : Str))=false:=by decide)(he:starEach (e::es) X.env=(false,eval e X.env)::starEach es X.env:=by rfl)(hpl:(backTo qG (starEach es X.env)).any (·.1)=false:=by rfl) :
  PS X (.Raise (some (.Call (.Name x np) (e::es) [] qG)) none pos) (ZeH C E t):=by
 intro qQ s σ H D I h;obtain ⟨mro',ns',mN',⟨nm',qn',bs',hd',sn',sub',ab',col',dd',j0,j1,j2,j3,j5,hC⟩,hN,hni,T⟩:=Zdz I.mod.kin ex;refine wpAny_Raise_call_subT (C:=C) (nm:=nm') (q:=qn') (N:=ns') (bs:=bs') (bm:=mro') (hdct:=hd') (sn:=sn') (sub:=sub') (ab:=ab') (col:=col') (dd:=dd') (k0:=j0) (k1:=j1) (k2:=j2) (k3:=j3) (k5:=j5)
  PySem.F.excBase_ValueError (mN:=mN') (T.hasType PySem.F.excBase_ValueError.hasBase) (I.ok.hd hc) (by rw [he];show (false || (backTo qG (starEach es X.env)).any (·.1))=false;rw [hpl];rfl) hni (XA I hg hm ⟨rfl,?_⟩ hdb)
 have hA:=ha qG qQ s σ H _ I h;rw [he] at hA ⊢;refine Calls.evalArgs_plain (thn hA λus s2 ⟨vs,H2,I2,r2,hl,q2⟩=>?_);exact ⟨rfl,by rw [<-r2.length];exact hl,I2.bk _ _ hC,hN.keeps I2.bk,T.keeps I2.bk,λh' a hm=>hR qQ σ H2 s2 h' a C us I2 hm q2⟩
variable {qQ:List (AD×Obj)}{σ:St}{H:Hp}{s:SS}
end
end L2
namespace L2
open PySem PySem.Spec PyProof.Rows
mutual
inductive DatV (K:FF)(H:Hp):V->PyData->Prop
 | non:DatV K H .non .none
 | bl (b:Bool):DatV K H (.bl b) (.bool b)
 | int (i:Int):DatV K H (.int i) (.int i)
 | str (x:Str):DatV K H (.str x) (.str x)
 | lst {a:AD} {xs:List V} {ds:List PyData}:SqL K H a xs->DatVs K H xs ds->DatV K H (.ref a) (.list ds)
 | tup {a:AD} {xs:List V} {ds:List PyData}:SqT K H a xs->DatVs K H xs ds->DatV K H (.ref a) (.tuple ds)
inductive DatVs (K:FF)(H:Hp):List V->List PyData->Prop
 | nil:DatVs K H [] []
 | cons {x:V} {d:PyData} {xs:List V} {ds:List PyData}:DatV K H x d->DatVs K H xs ds->DatVs K H (x::xs) (d::ds)
end
section
variable {X:Cx}{qQ:List (AD×Obj)}{σ:St}{H:Hp}{s:SS}
mutual
theorem DatV.reads (I:Inv X qQ σ H s):∀{x:V}{d:PyData}{u:Aa},DatV X.K H x d->RelV x u->∃as,Reads s.heap u d as
 | _,_,_,.non,r=>by cases r;exact ⟨_,.none⟩
 | _,_,_,.bl b,r=>by cases r;exact ⟨_,.bool b⟩
 | _,_,_,.int i,r=>by obtain ⟨t,rfl⟩:=r;exact ⟨_,.int i t⟩
 | _,_,_,.str x,r=>by obtain ⟨t,rfl⟩:=r;exact ⟨_,.str x t⟩
 | _,_,_,.lst hq hs,r=>by
  cases r;obtain ⟨its,rv,⟨o,n,e,c,dd,dt⟩,_⟩:=I.list hq;obtain ⟨as,ra⟩:=DatVs.reads I hs rv;exact ⟨_,.list e c dt (by simpa using ra)⟩
 | _,_,_,.tup hq hs,r=>by
  cases r;obtain ⟨its,rv,⟨o,e,c,n,dt⟩,_⟩:=I.tuple hq;obtain ⟨as,ra⟩:=DatVs.reads I hs rv;exact ⟨_,.tuple e c dt (by simpa using ra)⟩
theorem DatVs.reads (I:Inv X qQ σ H s):∀{xs:List V}{ds:List PyData}{us:LW},DatVs X.K H xs ds->Vals xs us->∃as,ReadsAll s.heap us ds as
 | _,_,_,.nil,.nil=>⟨_,.nil⟩
 | _,_,_,.cons h hs,.cons r rs=>by
  obtain ⟨as,ra⟩:=DatV.reads I h r;obtain ⟨bs,rb⟩:=DatVs.reads I hs rs;exact ⟨_,.cons ra rb⟩
end
end
def ZfC (K:FF)(neg:Bool):R2:=λx y H Q=>∃d1 d2,DatV K H x d1/\DatV K H y d2/\SeqAt.shaped d1=true/\SeqAt.shaped d2=true/\Q (.bl (neg != PyData.eqv d1 d2)) H
theorem ZeI {X:Cx}(hu:X.A.units+64<cLine):OpR X (compareOp .Eq) (ZfC X.K false):=by
 intro qQ s σ H x y v u Q I rx ry h;obtain ⟨d1,d2,h1,h2,s1,s2,q⟩:=h;obtain ⟨as,r1⟩:=h1.reads I rx;obtain ⟨bs,r2⟩:=h2.reads I ry;exact eq_dataH r1 r2 s1 s2 hu ⟨.bl _,H,I,by cases PyData.eqv d1 d2 <;> rfl,q⟩
theorem ZeJ {X:Cx}(hu:X.A.units+64<cLine):OpR X (compareOp .NotEq) (ZfC X.K true):=by
 intro qQ s σ H x y v u Q I rx ry h;obtain ⟨d1,d2,h1,h2,s1,s2,q⟩:=h;obtain ⟨as,r1⟩:=h1.reads I rx;obtain ⟨bs,r2⟩:=h2.reads I ry;exact ne_dataH r1 r2 s1 s2 hu ⟨.bl _,H,I,by cases PyData.eqv d1 d2 <;> rfl,q⟩
def Lt2 (p:Nat)(a:Int):Prop:=a.natAbs<2 ^ p
theorem Lt2.bits {a:Int}{n:Nat}(h:Lt2 n a):Builtin.Int.intBits a<=n:=by
 unfold Builtin.Int.intBits;by_cases z:a=0
 ·subst z;exact Nat.zero_le _
 ·have hp:a.natAbs≠0:=by lia
  have hz:¬ ((a == 0)=true):=by simpa using z
  rw [if_neg hz];exact Nat.succ_le_of_lt ((Nat.log2_lt hp).mpr h)
theorem Lt2.mul {a b:Int}{p q:Nat}(h1:Lt2 p a)(h2:Lt2 q b):Lt2 (p+q) (a * b):=by
 show (a * b).natAbs<2 ^ (p+q);rw [Int.natAbs_mul,Nat.pow_add];exact Nat.mul_lt_mul_of_lt_of_lt h1 h2
theorem Lt2.add {a b:Int}{p:Nat}(h1:Lt2 p a)(h2:Lt2 p b):Lt2 (p+1) (a+b):=by
 have h1':a.natAbs<2 ^ p:=h1;have h2':b.natAbs<2 ^ p:=h2;show (a+b).natAbs<2 ^ (p+1);rw [Nat.pow_succ]
 lia
theorem Lt2.mod {a b:Int}{p:Nat}(hb:0<b)(h:Lt2 p b):Lt2 p (a % b):=by
 have h1:=Int.emod_nonneg a (Int.ne_of_gt hb);have h2:=Int.emod_lt_of_pos a hb;have h':b.natAbs<2 ^ p:=h;show (a % b).natAbs<2 ^ p
 lia
def Zf3 (i j:Int):Prop:=∃p q,Lt2 p i/\Lt2 q j/\p<=100000/\q<=100000
theorem Z6 {X:Cx}:OpR X (binaryOp .Mult) (rI Zf3 λi j=>.int (i * j)):=opI λi j _ _ _ _ _ hc q=>by
 obtain ⟨p,r,h1,h2,hp,hr⟩:=hc;have e:(2:Nat) ^ 20=1048576:=by decide
 exact mul_int q (.of_bits (by have:=h1.bits;lia) (by have:=h2.bits;lia))
def Zf4 (i j:Int):Prop:=0<j/\Lt2 9000 j
theorem UH {X:Cx}:OpR X (binaryOp .FloorDiv) (rI Zf4 λi j=>.int (i / j)):=opI λi j _ _ _ _ _ hc q=>by
 have h1:(0:Int)<j:=hc.1;have h2:j.natAbs<2 ^ 9000:=hc.2;refine floordiv_int (by lia) (by rw [Int.fdiv_eq_ediv_of_nonneg i (by lia)];exact q) (.inl (PyProof.noPylong_of_log2 ?_));exact (Nat.log2_lt (by lia)).mpr h2
theorem Same.new {H:Hp}{p:AD}{o:HO}(h:H p=none):Same H (upd H p o):=λb u e=>by rw [Gu (Gm e h)];exact e
theorem Same.put {H H1:Hp}{p:AD}{o:HO}(s:Same H H1)(h:H p=none):Same H (upd H1 p o):=λb u e=>by rw [Gu (Gm e h)];exact s b u e
theorem Gs {H:Hp}{p b:AD}{o u:HO}(h:H b=some u)(n:b≠p):upd H p o b=some u:=by rw [Gu n];exact h
inductive Prs (H:Hp):List V->List (Int×Int)->Prop
 | nil:Prs H [] []
 | cons {p:AD} {a b:Int} {xs:List V} {rs:List (Int×Int)}:H p=some (.tup [.int a,.int b])->Prs H xs rs->Prs H (.ref p::xs) ((a,b)::rs)
theorem Prs.len {H:Hp}{xs:List V}{rs:List (Int×Int)}(h:Prs H xs rs):xs.length=rs.length:=by
 induction h with
 | nil=>rfl
 | cons _ _ ih=>rw [List.length_cons,List.length_cons,ih]
theorem Prs.keep {H H':Hp}{xs:List V}{rs:List (Int×Int)}(h:Prs H xs rs)(k:∀p ys,H p=some (.tup ys)->H' p=some (.tup ys)):Prs H' xs rs:=by
 induction h with
 | nil=>exact .nil
 | cons e1 _ ih=>exact .cons (k _ _ e1) ih
theorem Prs.same {H H':Hp}{xs:List V}{rs:List (Int×Int)}(h:Prs H xs rs)(k:Same H H'):Prs H' xs rs:=h.keep λp ys e=>k p _ e
theorem ZbS {H:Hp}{l:AD}{zs:List V}{o:HO}(h:H l=some (.lst zs)):∀p ys,H p=some (.tup ys)->upd H l o p=some (.tup ys):=λp ys e=>Gs e (G6 e h (λz=>by cases z))
end L2
namespace L2
open PySem PySem.Spec PyProof.Rows
section
variable {P:PP}{w:Ab}{K:FF}{mg:Str->Option Aa}{base:Heap}
theorem Fun.okR {x qual:Str}{st:Stmt}{f:AD}{fd:FuncData}{N ps:List Str}{k:Nat}{sp:Sp}(F:Fun K x qual st f fd)(S:Gk N ps (Gf st))(len:∀vs H Q E,sp vs H Q E->vs.length=ps.length)(jZ:∀(cdv:Aa)(A:Around)(outer:List Env)(s:SS)(H:Hp)(vs:List V)(Q:VK)(E:XK),Room k (A.deeper (envOfC qual (Gf st) s.heap.objs.size f cdv))->sp vs H Q E ->
   ∃t,PSs (Zbz (CXr P w) P w K mg base N qual (Gf st) f cdv A outer s H E) (Jz st) t/\t { nx:=λ_ H'=>Q .non H',rt:=Q } (start N vs) H):GG P w K mg base (CXr P w) (k+1) f fd ps sp:=by
 obtain ⟨oc,od,kV,doc,pm,an,cdv,ct,osl,rfl,lk,hcd⟩:=F.ex;refine ZeA lk hcd S len λA outer s H vs Q E hr hsp=>?_;obtain ⟨t,h,q⟩:=jZ cdv A outer s H vs Q E hr hsp;exact ⟨t,h,q⟩
theorem Zd {X:Cx}:WM (CXr X.prog X.w) X E0:=λ_ _ _ _ _ _ _ ⟨_,_,_,_,_,h⟩=>h.elim
end
theorem Ot:bootBuiltins "tuple" = some (.type "tuple"):=by first | rfl | decide +kernel
theorem Oc:bootBuiltins "list" = some (.type "list"):=by first | rfl | decide +kernel
theorem ZbT:bootBuiltins "int" = some (.type "int"):=by first | rfl | decide +kernel
section
variable {X:Cx}(K:FF)
theorem U4 (h:X.K=K:=by rfl):IxR X (Zg3 K):=h▸Zdt
theorem J9 (h:X.K=K:=by rfl):IxR X (Zg4 K):=h▸ZeB
theorem kIn (h:X.K=K:=by rfl):OpR X (compareOp .In) (rIn K false):=h▸Z3
theorem Yl (h:X.K=K:=by rfl):OpR X (compareOp .NotIn) (rIn K true):=h▸WT
theorem ZbA (h:X.K=K:=by rfl):Jt X (.builtin "len") (λxs H Q=>∃p ys,xs=[.ref p]/\(SqL K H p ys\/SqT K H p ys)/\Q (.int ys.length) H):=h▸WU
theorem VT (h:X.K=K:=by rfl):Jt X (.type "list") (λxs H Q=>∃p ys,xs=[.ref p]/\(SqL K H p ys\/SqT K H p ys)/\∀l,H l=none->Q (.ref l) (upd H l (.lst ys))):=h▸WV
theorem Zf5 (hu:X.A.units+64<cLine)(h:X.K=K:=by rfl):OpR X (compareOp .Eq) (ZfC K false):=h▸ZeI hu
theorem ZfD (hu:X.A.units+64<cLine)(h:X.K=K:=by rfl):OpR X (compareOp .NotEq) (ZfC K true):=h▸ZeJ hu
theorem kSl (h:X.K=K:=by rfl):SlR X (Zg5 K):=h▸Zdu
theorem Z7 {es:List Expr}{k:Nat}{t:TGs}{n:Nat}{pos:Pos}(hc:X.calm=true)(h:PGs X es t)(hK:X.K=K:=by rfl)(hn:(assignEach es X.env).length=n:=by rfl)(hst:(assignEach es X.env).findIdx? (·.1)=none:=by rfl):PG X (.Tuple es k pos) (ZgY K n t):=hK▸Zep hc h hn hst
theorem JL {tg l:Expr}{tl:TE}(hl:PE X l tl)(h:X.K=K:=by rfl):PI X tg l (Zer K tl):=h▸Zdp hl
end
end L2
namespace L2
open PySem PySem.Spec PyProof.Rows
def AllP {α:Type}(P:α->Prop):List α->Prop
 | []=>True
 | x::r=>P x/\AllP P r
theorem AllP.mem {α:Type}{P:α->Prop}:∀{l:List α},AllP P l->∀x∈l,P x
 | _::_,h,_,.head _=>h.1
 | _::_,h,x,.tail _ m=>AllP.mem h.2 x m
theorem Gj {X:Cx}{scope:Scope}{cl:List (Str×AD)}{own:List Str}{fr:List (Str×Nat)}(L:List (Str×NameKind))(hcl:closureFor scope X.env=pure cl)(hL:(relabel scope X.env).names=L)(hc:∀y∈scope.names,y.2≠.cell)(hk:scope.kind=.function)(hn:∀y∈scope.names,y.2=.local->scope.names.lookup y.1=some .local)(hcs:AllP (λp=>X.env.cells.lookup p.1=some p.2) cl)(qK:AllP (λp=>(p.2=.cell\/p.2=.free)->∃c,cl.lookup p.1=some c) L)(hfr:AllP (λp=>X.N[p.2]?=some p.1/\(X.env.kindOf p.1=some .cell\/X.env.kindOf p.1=some .free)/\(L.lookup p.1=some .cell\/L.lookup p.1=some .free)) fr):JQ X scope cl own fr:=
 ⟨hcl,hc,hk,hn,λy c h=>hcs.mem (y,c) (PySem.mem_of_lookup h),λy h=>by
  rw [hL] at h;rcases h with h | h
  ·exact qK.mem _ (PySem.mem_of_lookup h) (.inl rfl)
  ·exact qK.mem _ (PySem.mem_of_lookup h) (.inr rfl),λp hp=>by
  rw [hL];exact hfr.mem p hp⟩
theorem GQ {k:NameKind}{P:Prop}(h:k=.cell\/k=.free)(h1:(k == .cell)=false:=by rfl)(h2:(k == .free)=false:=by rfl):P:=by
 rcases h with z | z
 ·subst z;exact absurd h1 (by decide)
 ·subst z;exact absurd h2 (by decide)
theorem ZbU:bootBuiltins "min" = some (.builtin "min"):=by first | rfl | decide +kernel
def GS (n:Int)(rs:List (Int×Int)):Prop:=1<=n/\n<=16/\rs.length<=30/\(∀p∈rs,0<=p.1/\p.1<p.2/\p.2<n)/\rs.Nodup
instance (n:Int) (rs:List (Int×Int)):Decidable (GS n rs):=by unfold GS;infer_instance
theorem Prs.get {H:Hp}:∀{xs:List V}{rs:List (Int×Int)},Prs H xs rs->∀{i:Nat}{x:V},xs[i]?=some x->∃t r,x=.ref t/\H t=some (.tup [.int r.1,.int r.2])/\rs[i]?=some r
 | _,_,.nil,_,_,h=>by simp at h
 | _,_,.cons (a:=a) (b:=b) e _,0,_,h=>by
  simp at h;subst h;exact ⟨_,(a,b),rfl,e,rfl⟩
 | _,_,.cons _ r,i+1,x,h=>by
  obtain ⟨t,q,h1,h2,h3⟩:=Prs.get r (i:=i) (x:=x) (by simpa using h);exact ⟨t,q,h1,h2,by simpa using h3⟩
theorem Jg {t u:TS}{D:Ends}{σ:St}{H:Hp}(Pm:St->Hp->Prop)(h2:∀ σ' H',Pm σ' H'->u D σ' H')(h1:(∀ σ' H',Pm σ' H'->u D σ' H')->t { D with nx:=u D } σ H):ZgW t u D σ H:=h1 h2
theorem Ym {α:Type}:∀(ps rs:List α)(k:Nat)(y:α),ps[k]?=some y->((rs++[y])++ps.eraseIdx k).Perm (rs++ps)
 | [],_,k,y,h=>by simp at h
 | x::r,rs,0,y,h=>by
  simp at h;subst h;rw [List.append_assoc];exact List.Perm.refl _
 | x::r,rs,k+1,y,h=>by
  have ih:=Ym r [] k y (by simpa using h);rw [List.eraseIdx_cons_succ,List.append_assoc];refine List.Perm.append_left rs ?_;have ih':(y::r.eraseIdx k).Perm r:=by simpa using ih
  exact (List.Perm.swap x y _).trans (ih'.cons x)
end L2
namespace L2
open PySem PySem.Spec PyProof.Rows
theorem VU:∀{xs:List V}{us:LW},xs.length=us.length->(∀(i:Nat) x u,xs[i]?=some x->us[i]?=some u->RelV x u)->Vals xs us
 | [],[],_,_=>.nil
 | [],_::_,h,_=>by simp at h
 | _::_,[],h,_=>by simp at h
 | x::xs,u::us,h,k=>.cons (k 0 x u rfl rfl) (VU (by simpa using h) λi y v e1 e2=>k (i+1) y v (by simpa using e1) (by simpa using e2))
section
variable {X:Cx}(K:FF)
def ZdA:List V->Hp->VK->Prop:=λxs H Q=>∃(p:AD)(ns:LI),xs=[.ref p]/\SqL K H p (ns.map V.int)/\ns.length<64/\∀(l:AD)(ns':LI),H l=none->ns'.Perm ns->ns'.Pairwise (· <= ·)->Q (.ref l) (upd H l (.lst (ns'.map V.int)))
theorem ZdB (h:X.K=K:=by rfl):Jt X (.builtin "sorted") (ZdA K):=by
 subst h;intro qQ s σ H xs us Q I rv h;obtain ⟨p,ns,rfl,hq,h64,q⟩:=h;obtain ⟨u,rfl,ru⟩:=rv.one;cases ru;obtain ⟨its,r,pl,hz⟩:=I.list hq;have hl:=r.length;rw [List.length_map] at hl;refine sorted_ints pl.isList (Jv r) (by lia) λout ns' h1 h2 h3=>?_;obtain ⟨e,he⟩:=sortedAll_at s.heap its out;have rv':=OT h1;have qV:(ns'.map V.int).length<=sizeLine:=by
  have:=h2.length_eq;rw [List.length_map] at hz ⊢
  lia
 refine ⟨.ref _,_,I.laid (a:=s.heap.objs.size+1) (t':=s.toks) (o:=.lst (ns'.map V.int)) (λb o e=>sortedAll_old e) (Nat.le_succ _) ⟨qV,out.toList,e,rv',he⟩,rfl,q _ ns' (I.hok.fresh (Nat.le_succ _)) h2 h3⟩
end
section
variable {X:Cx}
theorem ZdC {a:Expr}{ta:TA}{p pos:Pos}(hg:Gl X "range")(hm:X.mg "range" = none)(ha:PA X [a] ta)(hs:starEach [a] X.env=[(false,eval a X.env)]:=by rfl) :
  PE X (.Call (.Name "range" p) [a] [] pos) (λσ H Q=>ta σ H λvs H1=>∃j:Int,vs=[.int j]/\∀r,H1 r=none->Q (.ref r) (upd H1 r (.rng 0 j))):=by
 intro qQ s σ H Q I h;refine Call_ (Vt I hg hm boot_range (PyProof.Rows.callWith_type1 (thn (ha pos qQ s σ H _ I h) λus s1 ⟨vs,H1,I1,r1,q1⟩=>?_) hs rfl));obtain ⟨j,rfl,q⟩:=q1;obtain ⟨u,rfl,ru⟩:=r1.one;obtain ⟨t,rfl⟩:=ru;refine call_range_1 ?_;exact ⟨.ref _,_,I1.laid (o:=.rng 0 j) (λb o e=>Heap.get?_push_of_some _ e) (Nat.le_refl _) ⟨_,_,_,Heap.get?_push_size _ rfl⟩,rfl,q _ I1.fresh⟩
theorem VW (hc:X.calm=true):Jt X (.type "list") (λxs H Q=>∃r n,xs=[.ref r]/\H r=some (.rng 0 (n:Nat))/\n<=1000/\∀l,H l=none->Q (.ref l) (upd H l (.lst ((List.range n).map λi=>V.int ((i:Nat):Int))))):=by
 intro qQ s σ H xs us Q I rv h;obtain ⟨r,n,rfl,hr,hn,q⟩:=h;obtain ⟨u,rfl,ru⟩:=rv.one;cases ru;obtain ⟨t,u,v,e⟩:=I.hok r _ hr;have h16:(16777216:Nat)=sizeLine:=sizeLine_eq.symm;refine call_list_range (n:=n) (I.ok.hd hc) e (small_one (by lia) (by lia) (by lia) (by lia)) (by rw [rangeSize_one];split <;> lia) (by lia) λh' tk acc' c' hk hS hit=>?_;refine ⟨.ref _,_,I.laid (o:=.lst ((List.range n).map λi=>V.int ((i:Nat):Int))) hk (Nat.le_refl _) ⟨by rw [List.length_map,List.length_range];lia,acc'.toList,c',?_,hS⟩,rfl,q _ I.fresh⟩;refine VU (by rw [List.length_map,List.length_range,Array.length_toList];exact hit.1.symm) λi x u e1 e2=>?_;rw [Array.getElem?_toList] at e2;obtain ⟨tk',rfl⟩:=hit.2 i u e2;rw [List.getElem?_map] at e1;cases z:(List.range n)[i]? with
 | none=>rw [z] at e1;cases e1
 | some k=>
  rw [z] at e1;have hk:k=i:=by
   obtain ⟨h1,h2⟩:=List.getElem?_eq_some_iff.mp z;rw [List.getElem_range] at h2;exact h2.symm
  subst hk;cases e1;exact ⟨tk',by rw [Int.mul_one,Int.zero_add]⟩
theorem Z8:UnR X (unaryOp .USub) (rU λi=>.int (-i)):=by
 intro qQ s σ H x v Q I rx h;obtain ⟨i,rfl,q⟩:=h;obtain ⟨t,rfl⟩:=rx;exact neg_int ⟨.int (-i),H,I.tok _,⟨_,rfl⟩,q⟩
end
theorem Z9 {xs:List V}{k:Nat}:UC xs none (some (k:Int))=xs.take k:=by
 unfold UC;rw [HT.sIx_none,HT.sIx_nat,List.drop_zero,Nat.sub_zero];by_cases h:k<=xs.length
 ·rw [Nat.min_eq_left h]
 ·rw [Nat.min_eq_right (by lia),List.take_length,List.take_of_length_le (by lia)]
theorem ZbV {xs:List V}{k:Nat}:UC xs (some (k:Int)) none=xs.drop k:=by
 unfold UC;rw [HT.sIx_none,HT.sIx_nat];by_cases h:k<=xs.length
 ·rw [Nat.min_eq_left h,List.take_of_length_le (by rw [List.length_drop];exact Nat.le_refl _)]
 ·rw [Nat.min_eq_right (by lia),List.drop_length,List.drop_of_length_le (by lia),List.take_nil]
theorem G9 {K:FF}{H:Hp}:∀ns:LI,DatVs K H (ns.map V.int) (ns.map PyData.int)
 | []=>.nil
 | n::ns=>.cons (.int n) (G9 ns)
theorem UI:∀ns:LI,PyData.canLayAll0 (ns.map PyData.int)=true
 | []=>by simp [PyData.canLayAll0]
 | n::ns=>by
  rw [List.map_cons];simp [PyData.canLayAll0,PyData.canLay0,UI ns]
theorem Ou:∀ns:LI,PyData.depthAll (ns.map PyData.int)<=1
 | []=>by simp [PyData.depthAll]
 | n::ns=>by
  have ih:=Ou ns;rw [List.map_cons];simp only [PyData.depthAll,PyData.depth]
  lia
theorem JB (ns:LI):SeqAt.shaped (.list (ns.map PyData.int))=true:=by
 unfold SeqAt.shaped;rw [Bool.and_eq_true];have:=Ou ns;refine ⟨by simp only [PyData.canLay0];exact UI ns,decide_eq_true ?_⟩;simp only [PyData.depth]
 lia
theorem OV (ns ms:LI):PyData.eqv (.list (ns.map PyData.int)) (.list (ms.map PyData.int))=decide (ns=ms):=by
 rw [<-W.ked_eqvAll];simp only [PyData.eqv]
end L2
namespace L2
open PySem PySem.Spec PyProof.Rows
theorem VX {P:PP}{w:Ab}{K:FF}{mg:Str->Option Aa}{base:Heap}{N:List Str}{qual:Str}{scope:Scope}{f:AD}{cd:Aa}{A:Around}{outer:List Env}{s:SS}{H:Hp}{E:XK} :
  WM (CXr P w) (Zbz (CXr P w) P w K mg base N qual scope f cd A outer s H E) E:=by
 intro qQ σ H1 s1 ev s' I h;obtain ⟨a,C,H',rfl,⟨t,B,os,bare,un,hok,fl,trk,old⟩,hE⟩:=h;have hfr:=I.ok.frames;have nox:∀b:AD,b ∉ (Zbz (CXr P w) P w K mg base N qual scope f cd A outer s H E).ex:=λb z=>absurd (show b∈([]:List AD) from z) (by simp);refine wpAny_leaves_onW hfr rfl fl λh2 fl2 sm=>?_;obtain ⟨u2,k2⟩:=ZbR (t:=t) (a:=a) (C:=C) un hok fl.2.2.1 trk old fl2.1 sm;have u1:Un (frs (envOfC qual scope s.heap.objs.size f cd::outer)) [] H H1 s.heap s1.heap:=Un.mono I.base (λb hb=>by
  have hb':b∈frs outer:=hb;obtain ⟨env,he,q⟩:=List.mem_filterMap.mp hb';exact List.mem_filterMap.mpr ⟨env,List.mem_cons_of_mem _ he,q⟩) (λb hb=>absurd hb (nox b))
 have u3:=u1.trans u2;have nst:∀b o,s.heap.get? b=some o->b ∉ frs outer->b ∉ frs (envOfC qual scope s.heap.objs.size f cd::outer):=λb o e hb z=>by
  rcases List.mem_cons.mp (I.stkSub b z) with q | q
  ·exact absurd (Nat.lt_of_lt_of_le (Heap.lt_size e) I.ok.above) (by rw [q];exact Nat.lt_irrefl _)
  ·exact hb q
 have inst:∀b,b∈frs outer->b∈frs (envOfC qual scope s.heap.objs.size f cd::outer):=λb hb=>by
  obtain ⟨env,he,q⟩:=List.mem_filterMap.mp hb;exact List.mem_filterMap.mpr ⟨env,List.mem_cons_of_mem _ he,q⟩
 refine ⟨a,C,H',rfl,⟨t,B,os.trans I.os,bare,⟨λb o e n hb hx=>u3.keep b o e n (nst b o e hb) hx,λb o e n hb hx=>u3.slot b o e n (inst b hb) hx,u3.free,u3.there,u3.tups,u3.frzs,u3.tbls⟩,k2,fl2,λb o e n=>?_,λb o0 o e0 e nb=>?_⟩,hE⟩
 ·cases q':H' b with
  | none=>exact absurd q' n
  | some u=>
   obtain ⟨v,q⟩:=(hok b u q').there;have e1:=trk b v q n;have e2:=fl2.1 b v e1;have e':h2.get? b=some o:=e;rw [e'] at e2;cases e2;exact e1
 ·obtain ⟨o1,e1⟩:=u1.there b o0 e0 (by simp);obtain ⟨o2,e2⟩:=un.there b o1 e1 (by simp);have e3:=old b o1 o2 e1 e2 (nst b o0 e0 nb);have e4:=fl2.1 b o2 e3;have e':h2.get? b=some o:=e;rw [e'] at e4;cases e4;exact e3
end L2
namespace L2
open PySem PySem.Spec PyProof.Rows
section
variable {X:Cx}
def ZdD:V->List V->Hp->VK->Prop:=λx vs H Q=>∃l xs i y,x=.ref l/\vs=[.int i,y]/\H l=some (.lst xs)/\0<=i/\i<=xs.length/\xs.length<sizeLine/\Q .non (upd H l (.lst (xs.take i.toNat++y::xs.drop i.toNat)))
theorem Vals.take' {xs:List V}{us:LW}(h:Vals xs us):∀k:Nat,Vals (xs.take k) (us.take k):=by
 induction h with
 | nil=>intro k;rw [List.take_nil,List.take_nil];exact .nil
 | cons r _ ih=>
  intro k;cases k with
  | zero=>exact .nil
  | succ k=>rw [List.take_succ_cons,List.take_succ_cons];exact .cons r (ih k)
theorem Vals.drop' {xs:List V}{us:LW}(h:Vals xs us):∀k:Nat,Vals (xs.drop k) (us.drop k):=by
 induction h with
 | nil=>intro k;rw [List.drop_nil,List.drop_nil];exact .nil
 | cons r t ih=>
  intro k;cases k with
  | zero=>exact .cons r t
  | succ k=>rw [List.drop_succ_cons,List.drop_succ_cons];exact ih k
theorem Zaa:MtM X "list.insert" ZdD:=by
 intro qQ s σ H x vs v us Q I rx rv h;obtain ⟨l,xs,i,y,rfl,rfl,hH,hi,hk,hz,q⟩:=h;cases rx;obtain ⟨u0,u,rfl,ru0,ru⟩:=rv.two;obtain ⟨t,rfl⟩:=ru0;obtain ⟨z,its,n,r,hl,e⟩:=I.lstM hH;have h16:(16777216:Nat)=sizeLine:=sizeLine_eq.symm;have hfit:=fitsIndex_both (k:=i) (by lia) (by lia);have hsz:its.toArray.size<=sizeLine:=by rw [List.size_toArray];lia
 have hM:=AutoListH.list_insert_list_int_val_1 l its.toArray n i t u (by rw [hfit];decide) hsz;have hA:=F.args_list_insert_3 (.ref l) (.int i t) u;refine call_meets F.slot_list_insert ⟨_,e,rfl⟩ F.entry_list_insert hA hM ⟨e,?_⟩;refine ⟨.non,_,I.lset (its':=its.take i.toNat++u::its.drop i.toNat) hH e ?_ ((Vals.take' r _).append (.cons ru (Vals.drop' r _))) ?_,rfl,q⟩
 ·have h0:¬ i<0:=by lia
  have h1:min i.toNat its.toArray.size=i.toNat:=by
   rw [List.size_toArray];lia
  dsimp only;rw [if_neg h0,h1];simp only [List.extract_toArray,List.push_toArray,List.append_toArray,List.size_toArray,List.extract_eq_drop_take,List.drop_zero,Nat.sub_zero,List.append_assoc,List.singleton_append];rw [List.take_of_length_le (l:=its.drop i.toNat) (by rw [List.length_drop];exact Nat.le_refl _)]
 ·rw [List.length_append,List.length_take,List.length_cons,List.length_drop]
  lia
def Ite (K:FF)(a:AD):It:=
 ⟨λi H=>∃xs x,SqL K H a xs/\xs[i]?=some x,λi H x H'=>∃T y,x=.ref T/\H T=none/\H'=upd H T (.tup [.int (i:Nat),y])/\∀xs,SqL K H a xs->xs[i]?=some y,λi H=>∃xs,SqL K H a xs/\xs.length<=i⟩
theorem Zab {P:PP}{w:Ab}{K:FF}{elts:List Expr}{k:Nat}{pos:Pos}(a e it:AD)(hne:e≠it) :
  ZcQ P w K (.Tuple elts k pos) (Ite K a) [e,it] e (λi h=>(∃old,IsEnum h e it ((i:Nat):Int) old)/\h.IsListIter it a i) where
 mem:=by simp
 obj:=λi h st b hb=>by
  obtain ⟨⟨old,he⟩,⟨o,ei,c,d⟩⟩:=st;rcases List.mem_cons.mp hb with rfl | hb
  ·exact ⟨_,he,λv z=>by
    have z':Data.fields _=Data.cell v:=z;cases z'⟩
  ·have eb:b=it:=by simpa using hb
   subst eb;exact ⟨o,ei,λv z=>by rw [d] at z;cases z⟩
 keep:=λi h h' st q=>by
  obtain ⟨⟨old,he⟩,hi⟩:=st;exact ⟨⟨old,q e (by simp) _ he⟩,hi.at λo ho=>q it (by simp) o ho⟩
 item:=by
  intro X hP hw hK hc i qQ s σ H E I hf st hg;subst hP hw hK;obtain ⟨xs,x,hq,hx⟩:=hg;obtain ⟨its,rv,p,hz⟩:=I.list hq;obtain ⟨u,hu,ru⟩:=rv.get hx;obtain ⟨⟨old,he⟩,hit⟩:=st;refine wpAny_pyNext_enum_item he hit p.isList (x:=u) (by simpa using hu) hne λh1 heo hit1 ht1 hz1 hk1=>?_;refine ⟨_,rfl,wpAny_letOwnedTupleGo_enum (s:={ s with heap:=h1,toks:=s.toks+1 }) heo λh2 he2 hs2=>?_⟩;have hs2':Heap.SameBut e h1 h2:=hs2;have hfr:H s.heap.objs.size=none:=I.fresh;have hel:e<s.heap.objs.size:=Heap.lt_size he;have kk:∀b o,b ∉ [e,it]->s.heap.get? b=some o->h2.get? b=some o:=λb o hb q=>by
   have n1:b≠e:=λz=>hb (by simp [z]);have n2:b≠it:=λz=>hb (by simp [z]);exact (hs2'.2 b n1).trans (hk1 b o n1 n2 q)
  have nT:∀b o,s.heap.get? b=some o->b≠s.heap.objs.size:=λb o q=>Nat.ne_of_lt (Heap.lt_size q);have trk:∀c u,H c=some u->c ∉ [e,it]:=λc u q z=>by
   rw [(hf c z).1] at q;cases q
  refine ⟨.ref s.heap.objs.size,upd H s.heap.objs.size (.tup [.int (i:Nat),x]),I.call' (ch:=[e,it]) rfl ⟨λb o q _ _ hb=>kk b o hb q,λb o q _ _ hb=>⟨o.slots,kk b o hb q⟩,λb o q n _=>by rw [Gu (nT b o q)];exact n,
   λb o q hb=>⟨o,kk b o hb q⟩,λb ys q=>by rw [Gu (Gm q hfr)];exact q,λb o u q=>by rw [Gu (Gm q hfr)];exact q,λb ps q=>⟨#[],by rw [Gu (Gm q hfr),q];simp⟩⟩ (λb v q=>?_) I.bare (λb hb=>?_),
   rfl,⟨_,x,rfl,hfr,rfl,λys hy=>by rw [I.list_inj hy hq];exact hx⟩,⟨⟨_,by rw [Int.natCast_add];exact he2⟩,hit1.extBut hs2'.extBut (Ne.symm hne)⟩,λb hb=>?_⟩
  ·by_cases hb:b=s.heap.objs.size
   ·subst hb;rw [Gb] at q;cases q;refine ⟨by have h16:(16777216:Nat)=sizeLine:=sizeLine_eq.symm;rw [<-h16];show 2<=16777216;lia,[.int (i:Nat) s.toks,u],.cons ⟨_,rfl⟩ (.cons ru .nil),⟨_,(hs2'.2 _ (Nat.ne_of_gt hel)).trans ht1,rfl,_,rfl⟩⟩
   ·rw [Gu hb] at q;refine (I.hok b v q).stay (λc v' hc z=>kk c v' ?_ z) (λc z=>by rw [Gu (Gm z hfr)];exact z) λc ys z=>by rw [Gu (Gm z hfr)];exact z
    rcases hc with rfl | hc
    ·exact trk _ _ q
    ·exact trk _ _ hc
  ·obtain ⟨f0,f1,f2,f3,f4,f5⟩:=hf b hb;exact ⟨f3,f1,f4,f5⟩
  ·have ho:∃o,s.heap.get? b=some o:=by
    rcases List.mem_cons.mp hb with rfl | hb
    ·exact ⟨_,he⟩
    ·have eb:b=it:=by simpa using hb
     subst eb;obtain ⟨o,ei,_⟩:=hit;exact ⟨o,ei⟩
   obtain ⟨o,ho⟩:=ho;rw [Gu (nT b o ho)];exact (hf b hb).1
 done:=by
  intro X hP hw hK hc i qQ s σ H E I hf st hg;subst hP hw hK;obtain ⟨xs,hq,hx⟩:=hg;obtain ⟨its,rv,p,hz⟩:=I.list hq;obtain ⟨⟨old,he⟩,hit⟩:=st;obtain ⟨f0,f1,f2,f3,f4,f5⟩:=hf it (by simp);have hl:=rv.length;exact wpAny_pyNext_enum_end (I.ok.hd hc) he hit p.isList (by simp;lia) λh' eb=>⟨rfl,I.turned (t':=s.toks) (λb o hb q=>eb b o hb q) f0 f1 f3 f4 f5⟩
 self:=λ_ _ _ _ _ ⟨⟨_,he⟩,_⟩ h=>wpAny_pyIter_enum he h
def ZeK (K:FF)(ta:TA):TI:=λσ H R=>ta σ H λvs H1=>∃a xs,vs=[.ref a]/\SqL K H1 a xs/\R (Ite K a) H1
theorem ZdE {elts:List Expr}{k:Nat}{p0:Pos}{l:Expr}{ta:TA}{p pos:Pos}(hg:Gl X "enumerate")(hm:X.mg "enumerate" = none)(ha:PA X [l] ta)(hs:starEach [l] X.env=[(false,eval l X.env)]:=by rfl) :
  PI X (.Tuple elts k p0) (.Call (.Name "enumerate" p) [l] [] pos) (ZeK X.K ta):=by
 intro qQ s σ H R I h;refine Call_ (Vt I hg hm boot_enumerate (PyProof.Rows.callWith_type1 (thn (ha pos qQ s σ H _ I h) λus s1 ⟨vs,H1,I1,r1,q1⟩=>?_) hs rfl));obtain ⟨a,xs,e,hq,q⟩:=q1;subst e;obtain ⟨u,rfl,ru⟩:=r1.one;cases ru;obtain ⟨its,rv,pl,hz⟩:=I1.list hq;refine call_enumerate_list pl.isList λh' hE hI hsz hk=>?_;refine wpAny_pyIter_enum hE ?_;refine ⟨s1.heap.objs.size+1,[s1.heap.objs.size+1,s1.heap.objs.size],_,_,H1,rfl,I1.kept (t':=s1.toks) hk,Zab a _ _ (Nat.succ_ne_self _),⟨⟨_,hE⟩,hI⟩,λb hb=>?_,q⟩;have e:s1.heap.objs.size<=b:=by
  rcases List.mem_cons.mp hb with rfl | hb
  ·exact Nat.le_succ _
  ·have eb:b=s1.heap.objs.size:=by simpa using hb
   rw [eb];exact Nat.le_refl _
 exact I1.fpOk e (I1.hok.fresh e)
theorem ZdF (K:FF){elts:List Expr}{k:Nat}{p0:Pos}{l:Expr}{ta:TA}{p pos:Pos}(hg:Gl X "enumerate")(hm:X.mg "enumerate" = none)(ha:PA X [l] ta)(h:X.K=K:=by rfl)(hs:starEach [l] X.env=[(false,eval l X.env)]:=by rfl) :
  PI X (.Tuple elts k p0) (.Call (.Name "enumerate" p) [l] [] pos) (ZeK K ta):=h▸ZdE hg hm ha hs
end
end L2
namespace L2
open PySem PySem.Spec PyProof.Rows
section
variable {X:Cx}{a b c d:Expr}{ta tb tc td:TE}{pos:Pos}
theorem UJ:bootBuiltins "all" = some (.builtin "all"):=by first | rfl | decide +kernel
theorem Yn:bootBuiltins "set" = some (.type "set"):=by first | rfl | decide +kernel
theorem U5:∀{bs:List Bool}{us:LW},Vals (bs.map V.bl) us->us=bs.map Value.bool
 | [],_,.nil=>rfl
 | b::bs,_,.cons r t=>by rw [List.map_cons,<-U5 t];cases r;rfl
theorem Zac (bs:List Bool):(List.range bs.length).all (λi=>bs.getD i false)=bs.all id:=by
 induction bs with
 | nil=>rfl
 | cons b bs ih=>
  rw [List.length_cons,List.range_succ_eq_map,List.all_cons,List.all_map,List.all_cons];show (b && _)=(b && _)
  congr 1
theorem Zf6 (K:FF)(hc:X.calm=true)(h:X.K=K:=by rfl):Jt X (.builtin "all") (λxs H Q=>∃(p:AD)(bs:List Bool),xs=[.ref p]/\SqL K H p (bs.map V.bl)/\Q (.bl (bs.all id)) H):=by
 subst h;intro qQ s σ H xs us Q I rv h;obtain ⟨p,bs,rfl,hq,q⟩:=h;obtain ⟨u,rfl,ru⟩:=rv.one;cases ru;obtain ⟨its,r,pl,hz⟩:=I.list hq;have e:=U5 r;have hh:X.A.in1.handled=none:=I.ok.hd hc;obtain ⟨o,eo,_⟩:=id pl.isList;have hlt:p<s.heap.objs.size:=Heap.lt_size eo;refine call_all_walk (wpAny_pyIter_list pl.isList ?_);refine ⟨s.heap.objs.size,_,_,_,_,_,λi=>bs.getD i false,rfl,Walks.list hh s.heap.objs.size p (Nat.ne_of_lt hlt) its.toArray,⟨⟨_,Heap.get?_push_size _ rfl,rfl,rfl⟩,pl.isList.at λo e=>Heap.get?_push_of_some _ e⟩,?_,λh' tk hk=>?_⟩
 ·intro i v s' Q' E' hv hq';have hv':its[i]?=some v:=by simpa using hv
  rw [e,List.getElem?_map] at hv';cases z:bs[i]? with
  | none=>rw [z] at hv';cases hv'
  | some b=>
   rw [z] at hv';cases hv';have eb:bs.getD i false=b:=by rw [List.getD_eq_getElem?_getD,z];rfl
   exact wpAny_truthy_bool (by rw [<-eb];exact hq')
 ·have hl:its.toArray.size=bs.length:=by rw [List.size_toArray,e,List.length_map]
  have I1:Inv X qQ σ H { s with heap:=s.heap.push { cls:=.type "list_iterator", data:=.fields #[.ref p,.int 0 0] } }:=I.kept (t':=s.toks) λb o e=>Heap.get?_push_of_some _ e;refine ⟨.bl _,H,I.kept λb o e'=>hk b o ?_ (Heap.get?_push_of_some _ e'),?_,q⟩
  ·intro z;have:b=s.heap.objs.size:=by simpa using z
   exact absurd (Heap.lt_size e') (by rw [this];exact Nat.lt_irrefl _)
  ·show Value.bool _=Value.bool _;rw [hl,Zac]
end
end L2
namespace L2
open PySem PySem.Spec PyProof.Rows
section
variable {κ:Type}[DecidableEq κ]
def Od (kvs:List (κ×V))(k:κ):Option V:=(kvs.find? λkv=>decide (kv.1=k)).map (·.2)
def putK (kvs:List (κ×V))(k:κ)(v:V):List (κ×V):=
 if (kvs.any λkv=>decide (kv.1=k))=true then kvs.map (λkv=>if kv.1=k then (kv.1,v) else kv) else kvs++[(k,v)]
theorem VY {k:κ}:Od ([]:List (κ×V)) k=none:=rfl
theorem GX {p:κ×V}{r:List (κ×V)}{k:κ}(e:p.1=k):Od (p::r) k=some p.2:=by simp [Od,List.find?_cons,e]
theorem GT {p:κ×V}{r:List (κ×V)}{k:κ}(e:¬ p.1=k):Od (p::r) k=Od r k:=by simp [Od,List.find?_cons,e]
theorem OW (k:κ):∀kvs:List (κ×V),(kvs.any λkv=>decide (kv.1=k))=(Od kvs k).isSome
 | []=>rfl
 | p::r=>by
  rw [List.any_cons];by_cases e:p.1=k
  ·simp only [GX e,decide_eq_true e,Bool.true_or,Option.isSome_some]
  ·rw [GT e,decide_eq_false e,Bool.false_or];exact OW k r
theorem Yo (k j:κ)(y:V):∀kvs:List (κ×V),Od (kvs.map λkv=>if kv.1=k then (kv.1,y) else kv) j=(Od kvs j).map λx=>if j=k then y else x
 | []=>rfl
 | p::r=>by
  have ih:=Yo k j y r;rw [List.map_cons];by_cases h:p.1=k
  ·rw [if_pos h];by_cases e:p.1=j
   ·rw [GX (p:=(p.1,y)) e,GX e,Option.map_some,if_pos (e.symm.trans h)]
   ·rw [GT (p:=(p.1,y)) e,GT e,ih]
  ·rw [if_neg h];by_cases e:p.1=j
   ·rw [GX (p:=p) e,GX e,Option.map_some,if_neg (λz=>h (e.trans z))]
   ·rw [GT (p:=p) e,GT e,ih]
theorem WZ (k j:κ)(y:V):∀kvs:List (κ×V),Od kvs k=none->Od (kvs++[(k,y)]) j=if j=k then some y else Od kvs j
 | [],_=>by
  by_cases e:k=j
  ·rw [if_pos e.symm];exact GX (p:=(k,y)) e
  ·rw [if_neg (λz=>e z.symm)];exact GT (p:=(k,y)) e
 | p::r,hn=>by
  rw [List.cons_append];have hk:¬ p.1=k:=λz=>by rw [GX z] at hn;cases hn
  rw [GT hk] at hn;have ih:=WZ k j y r hn;by_cases e:p.1=j
  ·rw [GX e,GX e,if_neg (λz=>hk (e.trans z))]
  ·rw [GT e,GT e,ih]
theorem Yp (kvs:List (κ×V))(k j:κ)(y:V):Od (putK kvs k y) j=if j=k then some y else Od kvs j:=by
 unfold putK;by_cases a:(kvs.any λkv=>decide (kv.1=k))=true
 ·rw [if_pos a,Yo];rw [OW] at a;by_cases e:j=k
  ·obtain ⟨x,hx⟩:=Option.isSome_iff_exists.mp a;rw [if_pos e,e,hx,Option.map_some,if_pos rfl]
  ·rw [if_neg e];cases Od kvs j with
   | none=>rfl
   | some x=>rw [Option.map_some,if_neg e]
 ·rw [if_neg a];refine WZ k j y kvs ?_;rw [OW] at a;cases q:Od kvs k with
  | none=>rfl
  | some x=>rw [q] at a;exact (a rfl).elim
theorem JC (kvs:List (κ×V))(k:κ)(v:V):(putK kvs k v).length<=kvs.length+1:=by
 unfold putK;split
 ·rw [List.length_map];lia
 ·rw [List.length_append,List.length_cons,List.length_nil];lia
theorem Yq {kvs:List (κ×V)}{k:κ}(v:V)(h:Od kvs k=none):putK kvs k v=kvs++[(k,v)]:=by
 unfold putK;rw [OW,h];exact if_neg (by decide)
theorem RelO.isSome_eq {o:Option V}{u:Option Aa}(r:RelO o u):o.isSome=u.isSome:=by
 cases o with
 | none=>cases u with
  | none=>rfl
  | some _=>exact (show False from r).elim
 | some _=>cases u with
  | none=>exact (show False from r).elim
  | some _=>rfl
theorem RelO.getD {o:Option V}{u:Option Aa}{d:V}{d':Aa}(r:RelO o u)(rd:RelV d d'):RelV (o.getD d) (u.getD d'):=by
 cases o with
 | none=>cases u with
  | none=>exact rd
  | some _=>exact (show False from r).elim
 | some _=>cases u with
  | none=>exact (show False from r).elim
  | some _=>exact r
theorem KV.val {kvs:List (κ×V)}{vs:List (κ×Aa)}(r:KV kvs vs)(k:κ):RelO (Od kvs k) (valueAt vs k):=by
 unfold KV at r
 induction r with
 | nil=>exact True.intro
 | @cons p q ps qs h t ih=>
  obtain ⟨h1,h2⟩:=h;by_cases e:p.1=k
  ·have e':q.1=k:=h1.symm.trans e;have b:valueAt (q::qs) k=some q.2:=by simp [valueAt,List.find?_cons,e']
   rw [GX e,b];exact h2
  ·have e':¬ q.1=k:=λz=>e (h1.trans z);have b:valueAt (q::qs) k=valueAt qs k:=by simp [valueAt,List.find?_cons,e']
   rw [GT e,b];exact ih
theorem KV.any {kvs:List (κ×V)}{vs:List (κ×Aa)}(r:KV kvs vs)(k:κ):(kvs.any λkv=>decide (kv.1=k))=vs.any λkv=>decide (kv.1=k):=by
 unfold KV at r
 induction r with
 | nil=>rfl
 | cons h t ih=>rw [List.any_cons,List.any_cons,ih,h.1]
theorem KV.repl {kvs:List (κ×V)}{vs:List (κ×Aa)}(r:KV kvs vs)(k:κ){y:V}{u:Aa}(ry:RelV y u) :
  KV (kvs.map λkv=>if kv.1=k then (kv.1,y) else kv) (vs.map λkv=>if kv.1=k then (kv.1,u) else kv):=by
 unfold KV at r ⊢
 induction r with
 | nil=>exact .nil
 | @cons p q ps qs h t ih=>
  rw [List.map_cons,List.map_cons];refine .cons ?_ ih;obtain ⟨h1,h2⟩:=h;by_cases e:p.1=k
  ·rw [if_pos e,if_pos (h1.symm.trans e)];exact ⟨h1,ry⟩
  ·rw [if_neg e,if_neg (λz=>e (h1.trans z))];exact ⟨h1,h2⟩
theorem KV.put {kvs:List (κ×V)}{vs:List (κ×Aa)}(r:KV kvs vs)(k:κ){y:V}{u:Aa}(ry:RelV y u):KV (putK kvs k y) (stored vs k u):=by
 unfold putK stored;rw [r.any k];by_cases e:(vs.any λkv=>decide (kv.1=k))=true
 ·rw [if_pos e,if_pos e];exact r.repl k ry
 ·rw [if_neg e,if_neg e];exact Paired.snoc r ⟨rfl,ry⟩
theorem KV.length {kvs:List (κ×V)}{vs:List (κ×Aa)}(r:KV kvs vs):kvs.length=vs.length:=Paired.length r
end
theorem Ze {P:PP}{w:Ab}{k:Key}{u:Aa}(r:RelV (kV k) u):(GE P w).is k u=true:=by
 cases k with
 | inl i=>obtain ⟨t,e⟩:=(show ∃t,u=Value.int i t from r);subst e;exact Xy P w i t
 | inr x=>obtain ⟨t,e⟩:=(show ∃t,u=Value.str x t from r);subst e;exact Xz P w x t
theorem W0 {P:PP}{w:Ab}:∀{ks:List Key}{us:LW},Vals (ks.map kV) us->ItemsAre (GE P w) ks us
 | [],_,r=>by rw [List.map_nil] at r;cases r;exact .nil
 | k::ks,_,r=>by
  rw [List.map_cons] at r;cases r with
  | cons h t=>exact .cons (Ze h) (W0 t)
abbrev KT (H:Hp):List (List Key×V)->List (List Key×AD×Aa)->Prop:=Paired λp q=>p.1=q.1/\H q.2.1=some (.tup (p.1.map kV))/\RelV p.2 q.2.2
theorem KT.val {H:Hp}{kvs:List (List Key×V)}{xs:List (List Key×AD×Aa)}(r:KT H kvs xs)(k:List Key):RelO (Od kvs k) ((atKey xs k).map (·.2)):=by
 induction r with
 | nil=>exact True.intro
 | @cons p q ps qs h t ih=>
  obtain ⟨h1,_,h2⟩:=h;by_cases e:p.1=k
  ·have e':q.1=k:=h1.symm.trans e;have b:atKey (q::qs) k=some q.2:=by simp [atKey,List.find?_cons,e']
   rw [GX e,b];exact h2
  ·have e':¬ q.1=k:=λz=>e (h1.trans z);have b:atKey (q::qs) k=atKey qs k:=by simp [atKey,List.find?_cons,e']
   rw [GT e,b];exact ih
theorem KT.repl {H:Hp}{kvs:List (List Key×V)}{xs:List (List Key×AD×Aa)}(r:KT H kvs xs)(k:List Key){y:V}{u:Aa}(ry:RelV y u) :
  KT H (kvs.map λkv=>if kv.1=k then (kv.1,y) else kv) (xs.map (putAt k u)):=by
 induction r with
 | nil=>exact .nil
 | @cons p q ps qs h t ih=>
  rw [List.map_cons,List.map_cons];refine .cons ?_ ih;obtain ⟨h1,h2,h3⟩:=h;unfold putAt;by_cases e:p.1=k
  ·rw [if_pos e,if_pos (h1.symm.trans e)];exact ⟨h1,h2,ry⟩
  ·rw [if_neg e,if_neg (λz=>e (h1.trans z))];exact ⟨h1,h2,h3⟩
theorem KT.put {H:Hp}{kvs:List (List Key×V)}{xs:List (List Key×AD×Aa)}(r:KT H kvs xs)(k:List Key){b:AD}{y:V}{u:Aa}(hb:H b=some (.tup (k.map kV)))(ry:RelV y u) :
  KT H (putK kvs k y) (storedH xs k b u):=by
 have e:(kvs.any λkv=>decide (kv.1=k))=(atKey xs k).isSome:=by
  rw [OW,(r.val k).isSome_eq,Option.isSome_map]
 unfold putK storedH;rw [e];by_cases q:(atKey xs k).isSome=true
 ·rw [if_pos q,if_pos q];exact r.repl k ry
 ·rw [if_neg q,if_neg q];exact Paired.snoc r ⟨rfl,hb,ry⟩
theorem KT.keeps {H H':Hp}{kvs:List (List Key×V)}{xs:List (List Key×AD×Aa)}(r:KT H kvs xs)(ht:∀b ys,H b=some (.tup ys)->H' b=some (.tup ys)):KT H' kvs xs:=
 Paired.mapP r λ_ _ z=>⟨z.1,ht _ _ z.2.1,z.2.2⟩
section
variable {P:PP}{w:Ab}{H:Hp}{h:Heap}{a:AD}
theorem ZeL {u:HO}(ok:HOk P w H h)(e:Rd H a u):ObjOk P w H h a u:=e.ok ok
theorem XD {kvs:List (Key×V)}(ok:HOk P w H h)(e:Rd H a (.dK kvs)):kvs.length<=sizeLine/\(a == sysModules)=false/\∃vs,KV kvs vs/\h.DictOf (GE P w) a vs:=
 show ObjOk P w H h a (.dK kvs) from ZeL ok e
theorem ZeM {kvs:List (Key×V)}(ok:HOk P w H h)(e:H a=some (.dK kvs)):kvs.length<=sizeLine/\(a == sysModules)=false/\∃vs,KV kvs vs/\h.DictOf (GE P w) a vs:=XD ok (.inl e)
theorem W1 {ks:List Key}(ok:HOk P w H h)(e:H a=some (.tup (ks.map kV))):(tupleKind (GE P w)).is h ks a:=by
 obtain ⟨_,its,r,o,h1,h2,n,h3⟩:=(show ObjOk P w H h a (.tup (ks.map kV)) from ok a _ e);exact ⟨o,its.toArray,n,h1,h2,h3,by simpa using W0 r⟩
theorem Zf {kvs:List (List Key×V)}(ok:HOk P w H h)(e:Rd H a (.dT kvs)):kvs.length<=sizeLine/\(a == sysModules)=false /\
  ∃xs,KT H kvs xs/\h.DictOfH (tupleKind (GE P w)) a xs:=by
 obtain ⟨z,y,xs,r,o,es,ep,h1,h2,h3,h4,h5⟩:=(show ObjOk P w H h a (.dT kvs) from ZeL ok e);refine ⟨z,y,xs,r,o,es,ep,h1,h2,h3,h4,λx hx=>?_,h5⟩;have all:∀{l:List (List Key×V)}{m:List (List Key×AD×Aa)},KT H l m->∀x∈m,(tupleKind (GE P w)).is h x.1 x.2.1:=by
  intro l m q
  induction q with
  | nil=>intro x hx;exact nomatch hx
  | @cons p q ps qs hq t ih=>
   intro x hx;rcases List.mem_cons.mp hx with e | hx
   ·subst e;exact W1 ok (by rw [<-hq.1];exact hq.2.1)
   ·exact ih x hx
 exact all r x hx
theorem Zf7 {kvs:List (List Key×V)}(ok:HOk P w H h)(e:H a=some (.dT kvs)):kvs.length<=sizeLine/\(a == sysModules)=false /\
  ∃xs,KT H kvs xs/\h.DictOfH (tupleKind (GE P w)) a xs:=Zf ok (.inl e)
end
def DGet (H:Hp)(a:AD)(y:V)(r:Option V):Prop:=
 (∃kvs k,Rd H a (.dK kvs)/\y=kV k/\r=Od kvs k)\/∃kvs k b,Rd H a (.dT kvs)/\y=.ref b/\H b=some (.tup (k.map kV))/\r=Od kvs k
def DPut (H:Hp)(a:AD)(y v:V)(H':Hp):Prop:=
 (∃kvs k,H a=some (.dK kvs)/\y=kV k/\kvs.length<sizeLine/\H'=upd H a (.dK (putK kvs k v))) \/
 ∃kvs k b,H a=some (.dT kvs)/\y=.ref b/\H b=some (.tup (k.map kV))/\kvs.length<sizeLine/\H'=upd H a (.dT (putK kvs k v))
theorem DGet.k {H:Hp}{a:AD}{kvs:List (Key×V)}{k:Key}(e:H a=some (.dK kvs)):DGet H a (kV k) (Od kvs k):=.inl ⟨kvs,k,.inl e,rfl,rfl⟩
theorem DGet.t {H:Hp}{a b:AD}{kvs:List (List Key×V)}{k:List Key}(e:H a=some (.dT kvs))(eb:H b=some (.tup (k.map kV))):DGet H a (.ref b) (Od kvs k):=.inr ⟨kvs,k,b,.inl e,rfl,eb,rfl⟩
theorem DPut.k {H:Hp}{a:AD}{kvs:List (Key×V)}{k:Key}{v:V}(e:H a=some (.dK kvs))(hl:kvs.length<sizeLine):DPut H a (kV k) v (upd H a (.dK (putK kvs k v))):=.inl ⟨kvs,k,e,rfl,hl,rfl⟩
theorem DPut.t {H:Hp}{a b:AD}{kvs:List (List Key×V)}{k:List Key}{v:V}(e:H a=some (.dT kvs))(eb:H b=some (.tup (k.map kV)))(hl:kvs.length<sizeLine) :
  DPut H a (.ref b) v (upd H a (.dT (putK kvs k v))):=.inr ⟨kvs,k,b,e,rfl,eb,hl,rfl⟩
section
variable {X:Cx}{qQ:List (AD×Obj)}{σ:St}{H:Hp}{s:SS}{a:AD}{y v:V}{u r:Aa}{o:Option V}{A:Around}{E:Aa->SS->Prop}
theorem Inv.big (I:Inv X qQ σ H s):sysModules<s.heap.objs.size:=by
 have h:mainGlobals<s.heap.objs.size:=(I.mod.glob.keeps I.bk).lt;exact Nat.lt_trans (by decide) h
theorem Zad {Q:Aa->SS->Prop}(hu:A.units+1<cLine)(I:Inv X qQ σ H s)(g:DGet H a y (some v))(ry:RelV y u)(h:∀w' s',Inv X qQ σ H s'->RelV v w'->Q w' s') :
  wpAny (model X.prog X.w) A (getItem (.ref a) u) Q E s:=by
 rcases g with ⟨kvs,k,e,ey,l⟩ | ⟨kvs,k,b,e,ey,eb,l⟩
 ·subst ey;obtain ⟨z,hd,vs,rel,dd⟩:=XD I.hok e;obtain ⟨w',hw,rw'⟩:=RelO.some_of (v:=v) (o:=valueAt vs k) (by rw [l];exact rel.val k);exact wpAny_getItem_of (Ze ry) dd.mapOf hw (h w' _ (I.tok _) rw')
 ·subst ey;cases (show u=Value.ref b from ry);obtain ⟨z,hd,xs,rel,dd⟩:=Zf I.hok e;obtain ⟨w',hw,rw'⟩:=RelO.some_of (v:=v) (o:=(atKey xs k).map (·.2)) (by rw [l];exact rel.val k);obtain ⟨p,hp,hp2⟩:=Option.map_eq_some_iff.mp hw;refine wpAny_getItem_heap (tupleKind_room_in1 hu) (W1 I.hok eb) dd hp ?_;rw [hp2];exact h w' _ (I.tok _) rw'
theorem ZhH {Q:Aa->SS->Prop}(hu:A.units+1<cLine)(I:Inv X qQ σ H s)(g:DGet H a y o)(ry:RelV y u)(h:∀s',Inv X qQ σ H s'->Q (.bool o.isSome) s') :
  wpAny (model X.prog X.w) A (compareOp .In u (.ref a)) Q E s:=by
 rcases g with ⟨kvs,k,e,ey,l⟩ | ⟨kvs,k,b,e,ey,eb,l⟩
 ·subst ey;obtain ⟨z,hd,vs,rel,dd⟩:=XD I.hok e;refine wpAny_in_of (Ze ry) hd dd.mapOf ?_;rw [<-(rel.val k).isSome_eq,<-l];exact h _ (I.tok _)
 ·subst ey;cases (show u=Value.ref b from ry);obtain ⟨z,hd,xs,rel,dd⟩:=Zf I.hok e;refine wpAny_in_heap (tupleKind_room_in1 hu) (W1 I.hok eb) hd dd ?_;have q:=(rel.val k).isSome_eq;rw [Option.isSome_map] at q;rw [<-q,<-l];exact h _ (I.tok _)
theorem XE {h':Heap}{t':Nat}{ob:HO}(I:Inv X qQ σ H s)(mu:Mut (H a))(hs:Heap.SameBut a s.heap h')(he:∃q,h'.get? a=some q)(new:ObjOk X.prog X.w (upd H a ob) h' a ob) :
  Inv X qQ σ (upd H a ob) { s with heap:=h',toks:=t' }:=
 I.write (x:=a) (e:=a) mu (.inl rfl) (λb q hb z=>(hs.2 b hb).trans z) he new
theorem ZcY {P:PP}{w:Ab}{H':Hp}{h':Heap}{kvs:List (Key×V)}{vs:List (Key×Aa)}(z:kvs.length<=sizeLine)(hd:(a == sysModules)=false)(rel:KV kvs vs)(dd:h'.DictOf (GE P w) a vs) :
  ObjOk P w H' h' a (.dK kvs):=⟨z,hd,vs,rel,dd⟩
theorem Zae {H':Hp}{Q:Unit->SS->Prop}(hu:A.units+1<cLine)(I:Inv X qQ σ H s)(g:DPut H a y v H')(ry:RelV y u)(rv:RelV v r)(h:∀s',Inv X qQ σ H' s'->Q () s') :
  wpAny (model X.prog X.w) A (setItem (.ref a) u r) Q E s:=by
 rcases g with ⟨kvs,k,e,ey,l,eH⟩ | ⟨kvs,k,b,e,ey,eb,l,eH⟩
 ·subst ey eH;obtain ⟨z,hd,vs,rel,dd⟩:=ZeM I.hok e;have hz:vs.length<=sizeLine:=by rw [<-rel.length];exact z
  have hl:(putK kvs k v).length<=sizeLine:=by have:=JC kvs k v;lia
  refine wpAny_setItem_pairs (hsz:=hz) (Ze ry) dd λh' dd' hs=>h _ ?_;have he:∃q,h'.get? a=some q:=let ⟨q,_,_,hq,_⟩:=dd';⟨q,hq⟩;exact XE I (by rw [e];exact True.intro) hs he (ZcY hl hd (rel.put k rv) dd')
 ·subst ey eH;cases (show u=Value.ref b from ry);obtain ⟨z,hd,xs,rel,dd⟩:=Zf7 I.hok e;have hz:xs.length<=sizeLine:=by rw [<-Paired.length rel];exact z
  have hl:(putK kvs k v).length<=sizeLine:=by have:=JC kvs k v;lia
  refine wpAny_setItem_heap (hsz:=hz) (tupleKind_room_in1 hu) (W1 I.hok eb) dd λh' dd' hs=>h _ ?_;obtain ⟨q,es,ep,hq,h2,h3,h4,_,h5⟩:=dd';refine XE I (by rw [e];exact True.intro) hs ⟨q,hq⟩ ⟨hl,hd,_,(rel.put k eb rv).keeps λc ys ec=>?_,q,es,ep,hq,h2,h3,h4,h5⟩;rw [Gu (G6 ec e (λz=>nomatch z))];exact ec
end
def Zg7 (i:Expr):Prop:=∀ov iv,subscripted i false ov iv=operate [ov,iv] (getItem ov iv)
theorem ZdG {prog:PP}{w:Ab}{A:Around}{E:Aa->SS->Prop}{s:SS}{env:Env}{value slice:Expr}{pos:Pos}{T id:String}{Q:Aa->SS->Prop}(hl:typeLookup (.type T) "__getitem__" = pure (some (.builtin id)))(hs:Zg7 slice)(h:wpAny (model prog w) A (eval value env) (λo s₁=>wpAny (model prog w) A (eval slice env) (λi s₂=>s₂.TypeIs o T/\wpAny (model prog w) A (getItem o i) Q E s₂) E s₁) E s) :
  wpAny (model prog w) A (eval (.Subscript value slice pos) env) Q E s:=by
 refine Subscript_ (wpAny_mono h (λo s₁ h₁=>wpAny_mono h₁ (λi s₂ h₂=>?_) λ_ _ x=>x) λ_ _ x=>x);obtain ⟨hT,h₂⟩:=h₂;unfold subscriptTail;refine wpAny_bind ?_;rw [getitemInPython_of_ne hT.not_modules];refine wpAny_bind (wpAny_specialOf hT hl ?_);have fin:wpAny (model prog w) A (subscripted slice false o i) (λr s₃=>wpAny (model prog w) A (letTemporaryGo value o r >>= λ_=>pure r) Q E s₃) E s₂:=by
  rw [hs o i];exact wpAny_operating (wpAny_mono h₂ (λr s₃ h₃=>wpAny_bind (wpAny_letTemporaryGo (wpAny_pure h₃))) λ_ _ x=>x)
 first
  | exact wpAny_pure (wpAny_bind fin)
  | exact wpAny_bind (wpAny_pure (wpAny_bind fin))
  | exact wpAny_bind fin
theorem XF {X:Cx}{qQ:List (AD×Obj)}{σ:St}{H:Hp}{s:SS}{a:AD}{y:V}{o:Option V}(I:Inv X qQ σ H s)(g:DGet H a y o):s.TypeIs (.ref a) "dict" := by
 rcases g with ⟨kvs,k,e,_,_⟩ | ⟨kvs,k,b,e,_,_,_⟩
 ·obtain ⟨_,_,vs,_,dd⟩:=XD I.hok e;exact dd.typeIs
 ·obtain ⟨_,_,xs,_,dd⟩:=Zf I.hok e;exact dd.typeIs
def Zf8 (td ty:TE):TE:=λσ H Q=>td σ H λx H1=>ty σ H1 λy H2=>∃a v,x=.ref a/\DGet H2 a y (some v)/\Q v H2
def ZhI (ty td:TE):TE:=λσ H Q=>ty σ H λy H1=>td σ H1 λx H2=>∃a o,x=.ref a/\DGet H2 a y o/\Q (.bl o.isSome) H2
def Zf9 (td ty tv:TE):TS:=λD σ H=>tv σ H λv H1=>td σ H1 λx H2=>ty σ H2 λy H3=>∃a H4,x=.ref a/\DPut H3 a y v H4/\D.nx σ H4
section
variable {X:Cx}{o i e value:Expr}{pos pos' tpos:Pos}{td ty tv:TE}
theorem VZ (hu:X.A.units+1<cLine)(ho:PE X o td)(hi:PE X i ty)(hs:Zg7 i):PE X (.Subscript o i pos) (Zf8 td ty):=by
 intro qQ s σ H Q I h;refine ZdG PySem.F.slot_dict_getitem.lookup hs (thn (ho qQ s σ H _ I h) λu s1 ⟨x,H1,I1,rx,q1⟩=>thn (hi qQ s1 σ H1 _ I1 q1) λiv s2 ⟨y,H2,I2,ry,a,v,ex,g,q2⟩=>?_);subst ex;obtain rfl:u=Value.ref a:=rx;exact ⟨XF I2 g,Zad hu I2 g ry λw' s3 I3 rw'=>⟨v,H2,I3,rw',q2⟩⟩
theorem ZcZ (hu:X.A.units+1<cLine)(hi:PE X i ty)(ho:PE X o td):PC X .In i o (ZhI ty td):=by
 intro qQ s σ H Q I h;refine thn (hi qQ s σ H _ I h) λiv s1 ⟨y,H1,I1,ry,q1⟩=>thn (ho qQ s1 σ H1 _ I1 q1) λu s2 ⟨x,H2,I2,rx,a,ov,ex,g,q2⟩=>?_;subst ex;obtain rfl:u=Value.ref a:=rx;exact ZhH hu I2 g ry λs3 I3=>⟨.bl ov.isSome,H2,I3,rfl,q2⟩
theorem Um (hu:X.A.units+1<cLine)(ho:PE X o td)(hi:PE X i ty)(hv:PE X value tv)(hs:swapsWith value (some (.Subscript o i pos')) pos.line X.env=pure false) :
  PS X (.Assign [.Subscript o i pos'] value pos) (Zf9 td ty tv):=by
 intro qQ s σ H D I h;refine wpAny_Assign_Subscript (thn (hv qQ s σ H _ I h) λr s1 ⟨v,H1,I1,rv,q1⟩=>thn (ho qQ s1 σ H1 _ I1 q1) λu s2 ⟨x,H2,I2,rx,q2⟩=>thn (hi qQ s2 σ H2 _ I2 q2) λiv s3 ⟨y,H3,I3,ry,a,H4,ex,g,q3⟩=>?_) hs;subst ex;obtain rfl:u=Value.ref a:=rx;exact Zae hu I3 g ry rv λs4 I4=>⟨σ,H4,I4,q3⟩
end
theorem Yr {P:PP}{w:Ab}{H:Hp}(h:Heap)(hb:sysModules<h.objs.size):ObjOk P w H (h.push { cls:=.type "dict", data:=.dict #[] }) h.objs.size (.dK []):=
 ⟨Nat.zero_le _,beq_eq_false_iff_ne.mpr (Ne.symm (Nat.ne_of_lt hb)),[],.nil,Heap.DictOf.new h⟩
theorem ZbW {P:PP}{w:Ab}{H:Hp}(h:Heap)(hb:sysModules<h.objs.size):ObjOk P w H (h.push { cls:=.type "dict", data:=.dict #[] }) h.objs.size (.dT []):=
 ⟨Nat.zero_le _,beq_eq_false_iff_ne.mpr (Ne.symm (Nat.ne_of_lt hb)),[],.nil,_,#[],0,Heap.get?_push_size _ rfl,⟨rfl,rfl,rfl⟩,rfl,rfl,List.nodup_nil⟩
def ZeN:TE:=λ_ H Q=>∀p,H p=none->Q (.ref p) (upd H p (.dK []))
def ZeO:TE:=λ_ H Q=>∀p,H p=none->Q (.ref p) (upd H p (.dT []))
section
variable {X:Cx}{pos:Pos}
theorem ZbX:PE X (.Dict [] [] pos) ZeN:=λqQ s σ H Q I h=>
 wpAny_Dict_empty ⟨.ref s.heap.objs.size,_,I.laid (a:=s.heap.objs.size) (o:=.dK []) (t':=s.toks) (λ_ _ q=>Heap.get?_push_of_some _ q) (Nat.le_refl _) (Yr s.heap I.big),rfl,h _ (I.hok.fresh (Nat.le_refl _))⟩
theorem UK:PE X (.Dict [] [] pos) ZeO:=λqQ s σ H Q I h=>
 wpAny_Dict_empty ⟨.ref s.heap.objs.size,_,I.laid (a:=s.heap.objs.size) (o:=.dT []) (t':=s.toks) (λ_ _ q=>Heap.get?_push_of_some _ q) (Nat.le_refl _) (ZbW s.heap I.big),rfl,h _ (I.hok.fresh (Nat.le_refl _))⟩
end
def Zaf:List (TE×TE)->St->Hp->(List (V×V)->Hp->Prop)->Prop
 | [],_,H,Q=>Q [] H
 | (tk,tv)::r,σ,H,Q=>tk σ H λx H1=>tv σ H1 λy H2=>Zaf r σ H2 λps H3=>Q ((x,y)::ps) H3
abbrev VV:List (V×V)->List (Aa×Aa)->Prop:=Paired λp q=>RelV p.1 q.1/\RelV p.2 q.2
def PPs (X:Cx)(pos:Pos)(keys:List (Option Expr))(values:List Expr)(trs:List (TE×TE)):Prop:=
 ∀(qQ:List (AD×Obj))(s:SS)(σ:St)(H:Hp)(Q:List (V×V)->Hp->Prop),Inv X qQ σ H s->Zaf trs σ H Q ->
  wpAny (model X.prog X.w) X.A (evalPairs (pairTrees keys values X.env pos)) (λvs s'=>∃ps H',Inv X qQ σ H' s'/\VV ps vs/\Q ps H') X.xe s
theorem ZdH {X:Cx}{pos:Pos}:PPs X pos [] [] []:=λqQ s σ H Q I h=>pairTrees_nil_walk ⟨[],H,I,.nil,h⟩
theorem Ys {X:Cx}{pos:Pos}{k v:Expr}{ks:List (Option Expr)}{vs:List Expr}{tk tv:TE}{trs:List (TE×TE)}(hk:PE X k tk)(hv:PE X v tv)(hr:PPs X pos ks vs trs) :
  PPs X pos (some k::ks) (v::vs) ((tk,tv)::trs):=λqQ s σ H Q I h=>
 pairTrees_cons_walk (thn (hk qQ s σ H _ I h) λu s1 ⟨x,H1,I1,rx,q1⟩=>thn (hv qQ s1 σ H1 _ I1 q1) λw2 s2 ⟨y,H2,I2,ry,q2⟩=>
  thn (hr qQ s2 σ H2 _ I2 q2) λws s3 ⟨ps,H3,I3,rel,q3⟩=>⟨(x,y)::ps,H3,I3,.cons ⟨rx,ry⟩ rel,q3⟩)
def U6 (kvs more:List (Key×V)):List (Key×V):=more.foldl (λacc kv=>putK acc kv.1 kv.2) kvs
theorem KV.merge:∀{more:List (Key×V)}{rs:List (Key×Aa)}{kvs:List (Key×V)}{vs:List (Key×Aa)},KV more rs->KV kvs vs->KV (U6 kvs more) (merged vs rs):=by
 intro more rs kvs vs r;unfold KV at r
 induction r generalizing kvs vs with
 | nil=>intro q;exact q
 | @cons p q ps qs h t ih=>
  intro r0;have e:KV (putK kvs p.1 p.2) (stored vs q.1 q.2):=by
   have:=r0.put p.1 h.2;rw [<-h.1];exact this
  exact ih e
theorem OX:∀(more kvs:List (Key×V)),(U6 kvs more).length<=kvs.length+more.length
 | [],kvs=>by show kvs.length<=kvs.length+0;lia
 | p::r,kvs=>by
  have h1:=OX r (putK kvs p.1 p.2);have h2:=JC kvs p.1 p.2;show (U6 (putK kvs p.1 p.2) r).length<=_;rw [List.length_cons];lia
theorem VB {P:PP}{w:Ab}:∀{kvs:List (Key×V)}{ws:List (Aa×Aa)},VV (kvs.map λkv=>(kV kv.1,kv.2)) ws->∃rs,Carries (GE P w) ws rs/\KV kvs rs
 | [],_,r=>by rw [List.map_nil] at r;cases r;exact ⟨[],True.intro,.nil⟩
 | p::kvs,_,r=>by
  rw [List.map_cons] at r;cases r with
  | @cons a b as bs h t=>
   obtain ⟨rs,c,q⟩:=VB (P:=P) (w:=w) t;obtain ⟨b1,b2⟩:=b;exact ⟨(p.1,b2)::rs,⟨Ze h.1,rfl,c⟩,.cons ⟨rfl,h.2⟩ q⟩
structure M2 (X:Cx)(o:Expr)(m:Str)(apos:Pos)(e f:Expr)(qG:Pos):Prop where
 base:attributeBase o m X.env (eval o X.env)=eval o X.env
 few:((backTo qG (starEach [e,f] X.env)).all (λx=>!x.1) && (backToKw qG (keywordEach [] X.env)).all (λx=>x.1.isSome)
  && decide (([e,f]:List Expr).length+([]:List Keyword).length+(if ([]:List Keyword).isEmpty then 0 else 1)<30))=true
 line:(apos.endLine == qG.line)=true
 trees:backTo qG (starEach [e,f] X.env)=[(false,eval e X.env),(false,eval f X.env)]
def IsD (H:Hp)(a:AD):Prop:=(∃kvs,Rd H a (.dK kvs))\/∃kvs,Rd H a (.dT kvs)
theorem ZeP {X:Cx}{qQ:List (AD×Obj)}{σ:St}{H:Hp}{s:SS}{a:AD}(I:Inv X qQ σ H s)(d:IsD H a) :
  s.TypeIs (.ref a) "dict" /\ (∀b,Value.ref a=.ref b->∃ob,s.heap.get? b=some ob/\ob.dict=none)/\(a == sysModules)=false:=by
 rcases d with ⟨kvs,e⟩ | ⟨kvs,e⟩
 ·obtain ⟨_,hd,vs,_,dd⟩:=XD I.hok e;refine ⟨dd.typeIs,λb q=>?_,hd⟩;cases q;obtain ⟨ob,_,_,h1,h2,_⟩:=dd;exact ⟨ob,h1,h2.2.1⟩
 ·obtain ⟨_,hd,xs,_,dd⟩:=Zf I.hok e;refine ⟨dd.typeIs,λb q=>?_,hd⟩;cases q;obtain ⟨ob,_,_,h1,h2,_⟩:=dd;exact ⟨ob,h1,h2.2.1⟩
section
variable {X:Cx}{qQ:List (AD×Obj)}{σ:St}{H:Hp}{s:SS}{a:AD}{y d:V}{u r:Aa}{o:Option V}{A:Around}{E:Aa->SS->Prop}
theorem ZeQ {Q:Aa->SS->Prop}(hu:A.units+1<cLine)(I:Inv X qQ σ H s)(g:DGet H a y o)(ry:RelV y u)(rd:RelV d r)(h:∀w' s',Inv X qQ σ H s'->RelV (o.getD d) w'->Q w' s') :
  wpAny (model X.prog X.w) A (call (.builtin "dict.get") [.ref a,u,r]) Q E s:=by
 rcases g with ⟨kvs,k,e,ey,l⟩ | ⟨kvs,k,b,e,ey,eb,l⟩
 ·subst ey;obtain ⟨z,hd,vs,rel,dd⟩:=XD I.hok e;refine call_meetsIn PySem.F.slot_dict_get dd.typeIs PySem.F.entry_dict_get (PySem.F.args_dict_get_3 _ _ _) (meets_dict_get_default (GE X.prog X.w) a (Ze ry) hd r) ⟨_,dd.mapOf,h _ _ (I.tok _) ?_⟩;rw [l];exact (rel.val k).getD rd
 ·subst ey;cases (show u=Value.ref b from ry);obtain ⟨z,hd,xs,rel,dd⟩:=Zf I.hok e;refine call_meetsIn PySem.F.slot_dict_get dd.typeIs PySem.F.entry_dict_get (PySem.F.args_dict_get_3 _ _ _) (meetsH_dict_get_default (tupleKind (GE X.prog X.w)) a b hd r) ⟨tupleKind_room_in1 hu,k,xs,W1 I.hok eb,dd,h _ _ (I.tok _) ?_⟩;rw [l];exact (rel.val k).getD rd
end
def ZeR (td ty tx:TE):TE:=λσ H Q=>td σ H λx H1=>∃a,x=.ref a/\IsD H1 a/\ty σ H1 λy H2=>tx σ H2 λz H3=>∃o,DGet H3 a y o/\Q (o.getD z) H3
section
variable {X:Cx}{o e f:Expr}{apos qG:Pos}{td ty tx:TE}
theorem V1 (hu:X.A.units+1<cLine)(ho:PE X o td)(he:PE X e ty)(hf:PE X f tx)(m:M2 X o "get" apos e f qG):PE X (.Call (.Attribute o "get" apos) [e,f] [] qG) (ZeR td ty tx):=by
 intro qQ s σ H Q I h;refine wpAny_Call_method m.base m.few m.line PySem.F.plainAttrs_dict PySem.F.slot_dict_get PySem.F.type_dict_get (thn (ho qQ s σ H _ I h) λu s1 ⟨x,H1,I1,rx,a,ex,d,q1⟩=>?_);subst ex;obtain rfl:u=Value.ref a:=rx;obtain ⟨t1,t2,_⟩:=ZeP I1 d;refine ⟨t1,t2,?_⟩;rw [m.trees];refine Calls.callWith_builtin rfl (Calls.evalArgs_plain (Calls.spliced_cons (thn (he qQ s1 σ H1 _ I1 q1) λiv s2 ⟨y,H2,I2,ry,q2⟩=>
  Calls.spliced_cons (thn (hf qQ s2 σ H2 _ I2 q2) λfv s3 ⟨z,H3,I3,rz,ov,g,q3⟩=>Calls.spliced_nil ?_))))
 exact ZeQ hu I3 g ry rz λw' s4 I4 rw'=>⟨_,H3,I4,rw',q3⟩
end
end L2
namespace L2
open PySem PySem.Spec PyProof.Rows
abbrev ZbY (h:Heap)(S:AD)(acc:Array Aa)(c:Nat):Prop:=h.get? S=some { cls:=.type "list", dict:=none,data:=.seq acc c,slots:=#[] }
structure Fed (prog:PP)(w:Ab)(A:Around)(I S:AD)(n:Nat)(St:Nat->Heap->Array Aa->Prop)(Fi:Heap->Array Aa->Prop):Prop where
 give:∀i (s:SS) acc (Q:Option Aa->SS->Prop) E,i<n->St i s.heap acc ->
  (∀v h',(∀o,s.heap.get? S=some o->h'.get? S=some o)->St (i+1) h' (acc.push v)->Q (some v) { s with heap:=h' })->wpAny (model prog w) A (pyNext (.ref I)) Q E s
 stop:∀(s:SS) acc (o:Obj) (Q:Option Aa->SS->Prop) E,s.heap.get? S=some o->St n s.heap acc->(∀h',(∀o,s.heap.get? S=some o->h'.get? S=some o)->Fi h' acc->Q none { s with heap:=h' })->wpAny (model prog w) A (pyNext (.ref I)) Q E s
 aside:∀i h f acc,St i h acc->St i (h.update S f) acc
section
variable {prog:PP}{w:Ab}{A:Around}{I S:AD}{n:Nat}{St:Nat->Heap->Array Aa->Prop}{Fi:Heap->Array Aa->Prop}
theorem Fed.loop (W:Fed prog w A.in1 I S n St Fi)(hn:n<=1000)(res:Aa){R:Result->SS->Prop}:∀(k:Nat)(s:SS)(acc:Array Aa)(c:Nat),acc.size+k=n->St acc.size s.heap acc->ZbY s.heap S acc c ->
  (∀h' acc' c',acc'.size=n->Fi h' acc'->ZbY h' S acc' c'->R (.ok (.ret res)) { s with heap:=h' })->codeAny (model prog w) A (.builtin "list.extend.loop" ⟨[.ref S,.ref I,res],[]⟩) R s
 | 0,s,acc,c,e,st,hS,hR=>codeAny_builtin F.entry_extend_loop <| (Around.under_plainId F.plain_extend_loop _)▸wpAny_bind (W.stop s acc _ _ _ hS (by rw [Nat.add_zero] at e;exact e▸st) λh' k1 f=>wpAny_pure (hR h' acc c e f (k1 _ hS)))
 | k+1,s,acc,c,e,st,hS,hR=>codeAny_builtin F.entry_extend_loop <| (Around.under_plainId F.plain_extend_loop _)▸wpAny_bind (W.give _ s acc _ _ (by lia) st λv h' k1 st1=>by
   have h16:=sizeLine_eq;have hS1:=k1 _ hS;refine wpAny_bind (wpAny_updateSeq (s:={ s with heap:=h' }) (f:=(·.push v)) hS1 rfl (wpAny_pure ⟨plainId_quiet F.plain_extend_loop _,?_⟩) (by lia) (by rw [Array.size_push];lia));have es:acc.size+1=(acc.push v).size:=(Array.size_push ..).symm;exact W.loop hn res k _ (acc.push v) _ (by lia) (W.aside _ _ _ _ (es▸st1)) (Heap.get?_update_self _ hS1 rfl) hR)
end
end L2
namespace L2
open PySem PySem.Spec PyProof.Rows
theorem V2 {K:PySem.W.Frag}{a:AD}{xs:List V}{g:TG}{tb:TS}{D:Ends}{σ:St}{H:Hp}(Pv:Nat->St->Hp->Prop)(h0:Pv 0 σ H)(hl:∀i σ H,i<=xs.length->Pv i σ H->SqL K H a xs)(hs:∀i x σ H T,xs[i]?=some x->Pv i σ H->H T=none->g (.ref T) σ (upd H T (.tup [.int (i:Nat),x])) λσ2 H2=>tb { D with nx:=Pv (i+1),ct:=Pv (i+1),bk:=D.nx } σ2 H2)(hd:∀ σ H,Pv xs.length σ H->D.nx σ H) :
  ∃W:Nat->Nat->St->Hp->Prop,(∃m,W 0 m σ H)/\∀i m σ H,W i m σ H ->
   ((Ite K a).stop i H/\D.nx σ H)\/((Ite K a).go i H/\∃N:St->Hp->Prop,(∀ σ' H',N σ' H'->∃m',m'<m/\W (i+1) m' σ' H')/\∀x H',(Ite K a).yld i H x H'->g x σ H' λσ2 H2=>tb { D with nx:=N,ct:=N,bk:=D.nx } σ2 H2):=by
 refine ⟨λi m σ H=>m=xs.length-i/\i<=xs.length/\Pv i σ H,⟨xs.length,by simp,Nat.zero_le _,h0⟩,?_⟩;rintro i m σ H ⟨rfl,hi,p⟩;have q:=hl i σ H hi p;by_cases hlt:i<xs.length
 ·refine .inr ⟨⟨xs,xs[i],q,by simp [hlt]⟩,Pv (i+1),λσ' H' p'=>⟨xs.length-(i+1),by lia,rfl,hlt,p'⟩,λx H' y=>?_⟩;obtain ⟨T,y',rfl,hT,rfl,hy⟩:=y;exact hs i y' σ H T (hy xs q) p hT
 ·have e:i=xs.length:=by lia
  subst e;exact .inl ⟨⟨xs,q,Nat.le_refl _⟩,hd σ H p⟩
end L2
namespace L2
open PySem
def itf (M:Nat):Nat->Nat->Nat
 | 0,x=>x
 | k+1,x=>itf M k ((x * 5+1) % M)
theorem V3 (M:Nat):∀(a b x:Nat),itf M (a+b) x=itf M b (itf M a x)
 | 0,b,x=>by rw [Nat.zero_add];rfl
 | a+1,b,x=>by rw [Nat.add_right_comm];exact V3 M a b _
def ZfE (M:Nat):Nat->Nat->Nat->Nat
 | 0,_,m=>m
 | n+1,x,m=>ZfE M n ((x * 5+1) % M) (m ||| 2 ^ x)
theorem Yt {M j:Nat}:∀{n x m:Nat},(ZfE M n x m).testBit j=true->m.testBit j=true\/∃k,k<n/\itf M k x=j
 | 0,x,m,h=>.inl h
 | n+1,x,m,h=>by
  rcases Yt (n:=n) h with z | ⟨k,h1,h2⟩
  ·rw [Nat.testBit_or,Bool.or_eq_true] at z;rcases z with z | z
   ·exact .inl z
   ·rw [Nat.testBit_two_pow,decide_eq_true_eq] at z;exact .inr ⟨0,by lia,z⟩
  ·exact .inr ⟨k+1,by lia,h2⟩
def Yu (M:Nat):Bool:=ZfE M M 0 0 == 2 ^ M-1 && itf M M 0 == 0
theorem ZhJ:Yu 8=true:=by decide +kernel
theorem ZeS:Yu 32=true:=by decide +kernel
theorem Zc0:Yu 128=true:=by decide +kernel
theorem Zc1:Yu 512=true:=by decide +kernel
theorem Zag:Yu 2048=true:=by decide +kernel
theorem ZdI {M i j:Nat}(h:Yu M=true)(hi:i<M)(hj:j<M):∃k,k<M/\itf M k i=j:=by
 unfold Yu at h;rw [Bool.and_eq_true,beq_iff_eq,beq_iff_eq] at h;obtain ⟨h1,h2⟩:=h;have all:∀j,j<M->∃k,k<M/\itf M k 0=j:=λj hj=>by
  have z:(ZfE M M 0 0).testBit j=true:=by rw [h1,Nat.testBit_two_pow_sub_one];exact decide_eq_true hj
  rcases Yt z with z | z
  ·simp at z
  ·exact z
 obtain ⟨a,ha,ea⟩:=all i hi;obtain ⟨b,hb,eb⟩:=all j hj;by_cases hab:a<=b
 ·refine ⟨b-a,by lia,?_⟩;rw [<-ea,<-V3,Nat.add_sub_cancel' hab];exact eb
 ·refine ⟨b+M-a,by lia,?_⟩;rw [<-ea,<-V3,show a+(b+M-a)=M+b by lia,V3,h2];exact eb
def adv (mask:Nat)(p:SetTable.Probe):SetTable.Probe:=
 if p.more > 0 then { p with j:=p.j+1,more:=p.more-1 }
 else { p with j:=(SetTable.leap mask p.i p.perturb).1,more:=SetTable.runEnd mask (SetTable.leap mask p.i p.perturb).1-(SetTable.leap mask p.i p.perturb).1,i:=(SetTable.leap mask p.i p.perturb).1,perturb:=(SetTable.leap mask p.i p.perturb).2 }
theorem Zc2 (t:SetTable)(p:SetTable.Probe):t.advance p=adv t.mask p:=rfl
def Jp (mask:Nat):Nat->SetTable.Probe->SetTable.Probe
 | 0,p=>p
 | n+1,p=>Jp mask n (adv mask p)
theorem Ov (mask:Nat):∀(a b:Nat)(p:SetTable.Probe),Jp mask (a+b) p=Jp mask b (Jp mask a p)
 | 0,b,p=>by rw [Nat.zero_add];rfl
 | a+1,b,p=>by rw [Nat.add_right_comm];exact Ov mask a b _
theorem Xa (mask n:Nat)(p:SetTable.Probe):Jp mask (n+1) p=adv mask (Jp mask n p):=Ov mask n 1 p
theorem Zah (mask:Nat)(p:SetTable.Probe):(adv mask p).dummy=p.dummy:=by
 unfold adv;split <;> rfl
def rs (mask i pt:Nat):SetTable.Probe:={ j:=i,more:=SetTable.runEnd mask i-i,i:=i,perturb:=pt,dummy:=none }
def st0 (mask:Nat)(h:Int):SetTable.Probe:=rs mask (SetTable.bits h % (mask+1)) (SetTable.bits h)
theorem ZeT (t:SetTable)(h:Int):t.probeStart h=st0 t.mask h:=rfl
theorem U7 {mask i:Nat}(h:i<=mask):SetTable.runEnd mask i<=mask:=by
 unfold SetTable.runEnd;split <;> lia
theorem Zg (mask i:Nat):SetTable.runEnd mask i-i<=9:=by
 unfold SetTable.runEnd;split <;> lia
theorem U8 (mask i:Nat):i<=SetTable.runEnd mask i:=by
 unfold SetTable.runEnd;split <;> lia
theorem Ow (mask i pt:Nat):∀k,k<=SetTable.runEnd mask i-i->Jp mask k (rs mask i pt)={ j:=i+k,more:=SetTable.runEnd mask i-i-k,i:=i,perturb:=pt,dummy:=none }
 | 0,_=>rfl
 | k+1,h=>by
  rw [Xa,Ow mask i pt k (by lia)];unfold adv;rw [if_pos (by show SetTable.runEnd mask i-i-k > 0;lia)];show SetTable.Probe.mk _ _ _ _ _=_
  congr 1
theorem OY (mask i pt:Nat):Jp mask (SetTable.runEnd mask i-i+1) (rs mask i pt)=rs mask (SetTable.leap mask i pt).1 (SetTable.leap mask i pt).2:=by
 rw [Xa,Ow mask i pt _ (Nat.le_refl _)];unfold adv;rw [if_neg (by show ¬ (SetTable.runEnd mask i-i-(SetTable.runEnd mask i-i) > 0);lia)]
 rfl
theorem VC (x mask:Nat):x % (mask+1)<=mask:=Nat.le_of_lt_succ (Nat.mod_lt _ (Nat.succ_pos _))
def lps (mask:Nat):Nat->Nat×Nat->Nat×Nat
 | 0,x=>x
 | m+1,x=>lps mask m (SetTable.leap mask x.1 x.2)
theorem Zai (mask:Nat):∀(a b:Nat)(x:Nat×Nat),lps mask (a+b) x=lps mask b (lps mask a x)
 | 0,b,x=>by rw [Nat.zero_add];rfl
 | a+1,b,x=>by rw [Nat.add_right_comm];exact Zai mask a b _
theorem Yv (mask:Nat):∀(m:Nat)(x:Nat×Nat),∃n,n<=10 * m/\Jp mask n (rs mask x.1 x.2)=rs mask (lps mask m x).1 (lps mask m x).2
 | 0,x=>⟨0,Nat.le_refl _,rfl⟩
 | m+1,x=>by
  obtain ⟨n,h1,h2⟩:=Yv mask m (SetTable.leap mask x.1 x.2);refine ⟨SetTable.runEnd mask x.1-x.1+1+n,?_,?_⟩
  ·have:=Zg mask x.1
   lia
  ·rw [Ov,OY];exact h2
theorem Yw (mask:Nat):∀(m i:Nat),lps mask m (i,0)=(itf (mask+1) m i,0)
 | 0,i=>rfl
 | m+1,i=>by
  show lps mask m (SetTable.leap mask i 0)=_;have e:SetTable.leap mask i 0=((i * 5+1) % (mask+1),0):=by unfold SetTable.leap;simp
  rw [e];exact Yw mask m _
theorem Yx (mask:Nat):∀(m i b:Nat),(lps mask m (i,b)).2=b / 32 ^ m
 | 0,i,b=>by simp [lps]
 | m+1,i,b=>by
  show (lps mask m (SetTable.leap mask i b)).2=_;have e:SetTable.leap mask i b=((SetTable.leap mask i b).1,b / 32):=rfl;rw [e,Yx mask m _ _,Nat.div_div_eq_div_mul,Nat.pow_succ,Nat.mul_comm]
theorem Zc3 (mask:Nat):∀(m i b:Nat),i<=mask->(lps mask m (i,b)).1<=mask
 | 0,i,b,h=>h
 | m+1,i,b,h=>Zc3 mask m _ _ (VC _ _)
theorem ZdJ (h:Int):SetTable.bits h<2 ^ 64:=by
 unfold SetTable.bits;have h1:=Int.emod_nonneg h (show (2 ^ 64:Int)≠0 by decide);have h2:=Int.emod_lt_of_pos h (show (0:Int)<2 ^ 64 by decide)
 lia
theorem Xb {mask j:Nat}(hc:Yu (mask+1)=true)(h:Int)(hj:j<=mask):∃m,m<mask+14/\(lps mask m (SetTable.bits h % (mask+1),SetTable.bits h)).1=j:=by
 have hb:=ZdJ h;generalize SetTable.bits h=b at hb ⊢;have h13:(lps mask 13 (b % (mask+1),b)).2=0:=by
  rw [Yx];exact Nat.div_eq_of_lt (Nat.lt_trans hb (by decide))
 have hi:(lps mask 13 (b % (mask+1),b)).1<=mask:=Zc3 mask 13 _ _ (VC _ _);obtain ⟨k,hk,ek⟩:=ZdI hc (Nat.lt_succ_of_le hi) (Nat.lt_succ_of_le hj);refine ⟨13+k,by lia,?_⟩;rw [Zai];have e:lps mask 13 (b % (mask+1),b)=((lps mask 13 (b % (mask+1),b)).1,0):=by rw [<-h13]
 rw [e,Yw];exact ek
theorem Zaj {mask j:Nat}(hc:Yu (mask+1)=true)(h:Int)(hj:j<=mask):∃n,n+10<10 * SetTable.turns mask/\(Jp mask n (st0 mask h)).j=j:=by
 obtain ⟨m,hm,em⟩:=Xb hc h hj;obtain ⟨n,hn,en⟩:=Yv mask m (SetTable.bits h % (mask+1),SetTable.bits h);refine ⟨n,by unfold SetTable.turns;lia,?_⟩;show (Jp mask n (rs mask _ _)).j=j;rw [en];exact em
theorem ZeU {mask:Nat}{p:SetTable.Probe}(h:p.j+p.more<=mask):(adv mask p).j+(adv mask p).more<=mask:=by
 unfold adv;split
 ·show p.j+1+(p.more-1)<=mask
  lia
 ·have h1:(SetTable.leap mask p.i p.perturb).1<=mask:=VC _ _;have h2:=U7 h1;have h3:=U8 mask (SetTable.leap mask p.i p.perturb).1;show (SetTable.leap mask p.i p.perturb).1+(SetTable.runEnd mask (SetTable.leap mask p.i p.perturb).1-(SetTable.leap mask p.i p.perturb).1)<=mask
  lia
theorem Zak {mask:Nat}:∀{n:Nat}{p:SetTable.Probe},p.j+p.more<=mask->(Jp mask n p).j+(Jp mask n p).more<=mask
 | 0,_,h=>h
 | n+1,p,h=>Zak (n:=n) (ZeU h)
theorem ZeV (mask:Nat)(h:Int):(st0 mask h).j+(st0 mask h).more<=mask:=by
 have h1:SetTable.bits h % (mask+1)<=mask:=VC _ _;have h2:=U7 h1;have h3:=U8 mask (SetTable.bits h % (mask+1));show SetTable.bits h % (mask+1)+(SetTable.runEnd mask (SetTable.bits h % (mask+1))-SetTable.bits h % (mask+1))<=mask
 lia
theorem Zal (mask n:Nat)(h:Int):(Jp mask n (st0 mask h)).j<=mask:=by
 have:=Zak (n:=n) (ZeV mask h)
 lia
def Rise (xs:Array Nat):Prop:=xs.toList.Pairwise (· < ·)
theorem Rise.lt {xs:Array Nat}(h:Rise xs){q r a b:Nat}(hqr:q<r)(ha:xs[q]?=some a)(hb:xs[r]?=some b):a<b:=by
 rw [<-Array.getElem?_toList] at ha hb;obtain ⟨h1,e1⟩:=List.getElem?_eq_some_iff.mp ha;obtain ⟨h2,e2⟩:=List.getElem?_eq_some_iff.mp hb;have:=List.pairwise_iff_getElem.mp h q r h1 h2 hqr;rw [e1,e2] at this;exact this
theorem V4 {xs:Array Nat}{j:Nat}(hr:Rise xs):∀(jQ lo hi:Nat),hi-lo<=jQ->lo<=hi->hi<=xs.size ->
  (∀q a,q<lo->xs[q]?=some a->a<j)->(∀q a,hi<=q->xs[q]?=some a->j<=a) ->
  SetTable.below.go xs j jQ lo hi<=xs.size/\(∀q a,q<SetTable.below.go xs j jQ lo hi->xs[q]?=some a->a<j)/\(∀q a,SetTable.below.go xs j jQ lo hi<=q->xs[q]?=some a->j<=a)
 | 0,lo,hi,h0,h1,h2,hl,hh=>by
  have e:hi=lo:=by lia
  subst e;exact ⟨h2,hl,hh⟩
 | jQ+1,lo,hi,h0,h1,h2,hl,hh=>by
  unfold SetTable.below.go;by_cases hlt:lo<hi
  ·rw [if_pos hlt];have hm:(lo+hi) / 2<xs.size:=by lia
   have em:xs[(lo+hi) / 2]?=some xs[(lo+hi) / 2]:=Array.getElem?_eq_getElem hm;have ed:xs.getD ((lo+hi) / 2) j=xs[(lo+hi) / 2]:=by
    rw [Array.getD_eq_getD_getElem?,em];rfl
   dsimp only;rw [ed];by_cases hc:xs[(lo+hi) / 2]<j
   ·rw [if_pos hc];refine V4 hr jQ _ _ (by lia) (by lia) h2 (λq a hq ha=>?_) hh;by_cases hq':q=(lo+hi) / 2
    ·rw [hq',em] at ha;cases ha;exact hc
    ·exact Nat.lt_trans (hr.lt (by lia) ha em) hc
   ·rw [if_neg hc];refine V4 hr jQ _ _ (by lia) (by lia) (by lia) hl (λq a hq ha=>?_);by_cases hq':q=(lo+hi) / 2
    ·rw [hq',em] at ha;cases ha;lia
    ·have:=hr.lt (show (lo+hi) / 2<q by lia) em ha
     lia
  ·rw [if_neg hlt];have e:hi=lo:=by lia
   subst e;exact ⟨h2,hl,hh⟩
theorem Uo {xs:Array Nat}{j:Nat}(hr:Rise xs):SetTable.below xs j<=xs.size/\(∀q a,q<SetTable.below xs j->xs[q]?=some a->a<j)/\(∀q a,SetTable.below xs j<=q->xs[q]?=some a->j<=a):=by
 unfold SetTable.below;refine V4 hr xs.size 0 xs.size (by lia) (by lia) (Nat.le_refl _) (λq a hq=>absurd hq (Nat.not_lt_zero _)) λq a hq ha=>?_;rw [Array.getElem?_eq_none hq] at ha;cases ha
theorem ZbZ {xs:Array Nat}{i j:Nat}(hr:Rise xs)(h:xs[i]?=some j):SetTable.below xs j=i:=by
 obtain ⟨h1,h2,h3⟩:=Uo (j:=j) hr;rcases Nat.lt_trichotomy (SetTable.below xs j) i with z | z | z
 ·have hs:SetTable.below xs j<xs.size:=by
   have:=(Array.getElem?_eq_some_iff.mp h).1
   lia
  have:=hr.lt z (Array.getElem?_eq_getElem hs) h;have:=h3 _ _ (Nat.le_refl _) (Array.getElem?_eq_getElem hs)
  lia
 ·exact z
 ·have:=h2 i j z h
  lia
theorem Zh (t:SetTable)(hr:Rise t.place)(hd:t.dummies=#[])(j:Nat):(t.slot j=.empty/\j ∉ t.place.toList)\/∃i,t.slot j=.live i/\t.place[i]?=some j:=by
 unfold SetTable.slot;dsimp only;by_cases h:t.place[SetTable.below t.place j]?=some j
 ·refine .inr ⟨SetTable.below t.place j,?_,h⟩;rw [if_pos (by rw [h];exact beq_self_eq_true _)]
 ·refine .inl ⟨?_,λhm=>?_⟩
  ·rw [if_neg (by rw [beq_iff_eq];exact h),hd];have e:SetTable.has #[] j=false:=by unfold SetTable.has;simp
   rw [e]
   rfl
  ·obtain ⟨i,hi,e⟩:=List.getElem_of_mem hm;have e':t.place[i]?=some j:=by
    rw [<-Array.getElem?_toList,List.getElem?_eq_getElem hi,e]
   rw [ZbZ hr e'] at h;exact h e'
theorem U9 {xs:Array Nat}{i j:Nat}(h:xs[i]?=some j):j∈xs.toList:=by
 rw [<-Array.getElem?_toList] at h;exact List.mem_of_getElem? h
section
variable {t:SetTable}{ha:Nat->Int}{h:Int}
theorem Zam (hr:Rise t.place)(hd:t.dummies=#[]):∀(F:Nat)(p:SetTable.Probe),(∃n,n<F/\(Jp t.mask n p).j ∉ t.place.toList) ->
  (∃n,SetTable.probe.go t ha h F p=some (.empty (Jp t.mask n p).j p.dummy)/\(Jp t.mask n p).j ∉ t.place.toList/\∀q,q<n->∃i,t.place[i]?=some (Jp t.mask q p).j/\ha i≠h) \/
  (∃n i,SetTable.probe.go t ha h F p=some (.candidate (Jp t.mask n p).j i (Jp t.mask (n+1) p))/\t.place[i]?=some (Jp t.mask n p).j/\ha i=h/\∀q,q<n->∃i,t.place[i]?=some (Jp t.mask q p).j/\ha i≠h)
 | 0,p,⟨n,hn,_⟩=>absurd hn (Nat.not_lt_zero _)
 | F+1,p,⟨n,hn,hf⟩=>by
  rcases Zh t hr hd p.j with ⟨e,hm⟩ | ⟨i,e,hi⟩
  ·refine .inl ⟨0,?_,hm,λq hq=>absurd hq (Nat.not_lt_zero _)⟩;unfold SetTable.probe.go;rw [e]
   rfl
  ·by_cases hh:ha i=h
   ·refine .inr ⟨0,i,?_,hi,hh,λq hq=>absurd hq (Nat.not_lt_zero _)⟩;unfold SetTable.probe.go;rw [e];dsimp only;rw [if_pos (by rw [hh];exact beq_self_eq_true _),Zc2]
    rfl
   ·have hs:SetTable.probe.go t ha h (F+1) p=SetTable.probe.go t ha h F (adv t.mask p):=by
     rw [SetTable.probe.go,e];dsimp only;rw [if_neg (by rw [beq_iff_eq];exact hh),Zc2]
    cases n with
    | zero=>exact absurd (U9 hi) hf
    | succ n=>
     rw [hs];rcases Zam hr hd F (adv t.mask p) ⟨n,by lia,hf⟩ with ⟨m,g1,g2,g3⟩ | ⟨m,i',g1,g2,g3,g4⟩
     ·refine .inl ⟨m+1,?_,g2,λq hq=>?_⟩
      ·rw [g1,Zah];rfl
      ·cases q with
       | zero=>exact ⟨i,hi,hh⟩
       | succ q=>exact g3 q (by lia)
     ·refine .inr ⟨m+1,i',g1,g2,g3,λq hq=>?_⟩;cases q with
      | zero=>exact ⟨i,hi,hh⟩
      | succ q=>exact g4 q (by lia)
theorem VD {mask:Nat}{l:List Nat}(h:l.length<=mask):∃j,j<=mask/\j ∉ l:=by
 apply Classical.byContradiction;intro hn;have hs:List.range (mask+1) ⊆ l:=λj hj=>Classical.byContradiction λhm=>hn ⟨j,by have:=List.mem_range.mp hj;lia,hm⟩;have:=List.Nodup.length_le_of_subset List.nodup_range hs;rw [List.length_range] at this
 lia
end
end L2
namespace L2
open PySem
theorem isN {ow:Array (Option Nat)}{x:Nat}(hx:x<ow.size):(ow.getD x (some 0)).isNone=true↔ow[x]?=some none:=by
 rw [Array.getD_eq_getD_getElem?,Array.getElem?_eq_getElem hx];show ow[x].isNone=true↔some ow[x]=some none;cases ow[x] <;> simp
theorem Xc {mask:Nat}{ow:Array (Option Nat)}(hz:ow.size=mask+1):∀(F i pt:Nat),i<=mask ->
  (∃m,m<F/\ow[(lps mask m (i,pt)).1]?=some none) ->
  ∃n,SetTable.layClean.free mask ow F i pt=some (Jp mask n (rs mask i pt)).j/\ow[(Jp mask n (rs mask i pt)).j]?=some none/\∀q,q<n->ow[(Jp mask q (rs mask i pt)).j]?≠some none
 | 0,i,pt,_,⟨m,hm,_⟩=>absurd hm (Nat.not_lt_zero _)
 | F+1,i,pt,hi,⟨m,hm,em⟩=>by
  have hre:=U7 hi;have hrg:=U8 mask i;unfold SetTable.layClean.free;cases hf:List.find? (λk=>(ow.getD (i+k) (some 0)).isNone) (List.range (SetTable.runEnd mask i+1-i)) with
  | some k=>
   obtain ⟨p1,p2,p3⟩:=List.find?_range_eq_some.mp hf;have hk:=List.mem_range.mp p2;refine ⟨k,?_,?_,λq hq=>?_⟩
   ·rw [Ow mask i pt k (by lia)]
   ·rw [Ow mask i pt k (by lia)];show ow[i+k]?=some none;exact (isN (by lia)).mp p1
   ·rw [Ow mask i pt q (by lia)];show ow[i+q]?≠some none;intro z;have h1:=p3 q hq;rw [(isN (by lia)).mpr z] at h1;cases h1
  | none=>
   have qK:=List.find?_eq_none.mp hf;have hno:∀q,q<=SetTable.runEnd mask i-i->ow[i+q]?≠some none:=λq hq z=>qK q (List.mem_range.mpr (by lia)) ((isN (by lia)).mpr z);cases m with
   | zero=>exact absurd em (hno 0 (Nat.zero_le _))
   | succ m=>
    obtain ⟨n,g1,g2,g3⟩:=Xc hz F (SetTable.leap mask i pt).1 (SetTable.leap mask i pt).2 (VC _ _) ⟨m,by lia,em⟩;refine ⟨SetTable.runEnd mask i-i+1+n,?_,?_,λq hq=>?_⟩
    ·rw [Ov,OY];exact g1
    ·rw [Ov,OY];exact g2
    ·by_cases hq':q<=SetTable.runEnd mask i-i
     ·rw [Ow mask i pt q hq'];exact hno q hq'
     ·have e:q=SetTable.runEnd mask i-i+1+(q-(SetTable.runEnd mask i-i+1)):=by lia
      rw [e,Ov,OY];exact g3 _ (by lia)
def Yy (mask:Nat)(acc:Option (Array (Option Nat)×Nat))(h:Int):Option (Array (Option Nat)×Nat):=
 acc.bind λx=>(SetTable.layClean.free mask x.1 (SetTable.turns mask) (SetTable.bits h % (mask+1)) (SetTable.bits h)).bind λj=>some (x.1.setIfInBounds j (some x.2),x.2+1)
theorem V5 (mask:Nat)(qY:Array Int):SetTable.layClean mask qY=(qY.toList.foldl (Yy mask) (some (Array.replicate (mask+1) none,0))).map (·.1):=by
 unfold SetTable.layClean;rw [Array.foldl_toList]
 rfl
structure Lc (mask:Nat)(ow:Array (Option Nat))(js:List Nat)(hs:LI):Prop where
 sz:ow.size=mask+1
 len:js.length=hs.length
 at_:∀(q j:Nat),js[q]?=some j↔ow[j]?=some (some q)
 rch:∀(q:Nat)(h:Int)(j:Nat),hs[q]?=some h->js[q]?=some j->∃n,(Jp mask n (st0 mask h)).j=j/\∀r,r<n->ow[(Jp mask r (st0 mask h)).j]?≠some none
theorem Lc.nil (mask:Nat):Lc mask (Array.replicate (mask+1) none) [] []:=
 ⟨Array.size_replicate,rfl,λq j=>⟨λz=>by simp at z,λz=>by
  rw [Array.getElem?_replicate] at z;split at z <;> simp at z⟩,λq h j z=>by simp at z⟩
theorem Lc.step {mask:Nat}{ow:Array (Option Nat)}{js:List Nat}{hs:LI}(L:Lc mask ow js hs)(hc:Yu (mask+1)=true)(hl:hs.length<=mask)(h:Int) :
  ∃j,Yy mask (some (ow,hs.length)) h=some (ow.setIfInBounds j (some hs.length),hs.length+1)/\Lc mask (ow.setIfInBounds j (some hs.length)) (js++[j]) (hs++[h]):=by
 have hjl:=L.len;obtain ⟨j0,hj0,hn0⟩:=VD (mask:=mask) (l:=js) (by lia);have e0:ow[j0]?=some none:=by
  have hs0:j0<ow.size:=by rw [L.sz];lia
  rw [Array.getElem?_eq_getElem hs0];cases q:ow[j0] with
  | none=>rfl
  | some k=>
   exact absurd (List.mem_of_getElem? ((L.at_ k j0).mpr (by rw [Array.getElem?_eq_getElem hs0,q]))) hn0
 obtain ⟨m,hm,em⟩:=Xb hc h hj0;obtain ⟨n,g1,g2,g3⟩:=Xc L.sz (SetTable.turns mask) (SetTable.bits h % (mask+1)) (SetTable.bits h) (VC _ _) ⟨m,by unfold SetTable.turns;lia,by rw [em];exact e0⟩;have est:rs mask (SetTable.bits h % (mask+1)) (SetTable.bits h)=st0 mask h:=rfl;rw [est] at g1 g2 g3;have hjlt:(Jp mask n (st0 mask h)).j<ow.size:=by rw [L.sz];have:=Zal mask n h;lia
 refine ⟨(Jp mask n (st0 mask h)).j,?_,?_⟩
 ·unfold Yy;rw [Option.bind_some,g1]
  rfl
 ·generalize hj:(Jp mask n (st0 mask h)).j=j at g2 hjlt ⊢;have hget:∀x,(ow.setIfInBounds j (some hs.length))[x]?=if j=x then some (some hs.length) else ow[x]?:=λx=>by
   rw [Array.getElem?_setIfInBounds,if_pos hjlt]
  have hjs:j ∉ js:=λhm=>by
   obtain ⟨q,hq,e⟩:=List.getElem_of_mem hm;have:=(L.at_ q j).mp (by rw [List.getElem?_eq_getElem hq,e]);rw [g2] at this;cases this
  have occ:∀x,ow[x]?≠some none->(ow.setIfInBounds j (some hs.length))[x]?≠some none:=λx hx=>by
   rw [hget];split
   ·simp
   ·exact hx
  refine ⟨by rw [Array.size_setIfInBounds];exact L.sz,by simp [hjl],λq x=>?_,λq g x e1 e2=>?_⟩
  ·rw [hget];by_cases hq:q<js.length
   ·rw [List.getElem?_append_left hq];by_cases hx:j=x
    ·rw [if_pos hx];constructor
     ·intro z;exact absurd (hx▸List.mem_of_getElem? z) hjs
     ·intro z;have:hs.length=q:=by simpa using z
      lia
    ·rw [if_neg hx];exact L.at_ q x
   ·rw [List.getElem?_append_right (by lia)];by_cases hx:j=x
    ·rw [if_pos hx];by_cases hq':q=js.length
     ·subst hq';simp [hx,hjl]
     ·constructor
      ·intro z;have:([j]:List Nat)[q-js.length]?=none:=List.getElem?_eq_none (by simp;lia);rw [this] at z;cases z
      ·intro z;have:hs.length=q:=by simpa using z
       lia
    ·rw [if_neg hx];constructor
     ·intro z;have:=List.mem_of_getElem? z;simp at this;exact absurd this.symm hx
     ·intro z;have:=(L.at_ q x).mpr z;rw [List.getElem?_eq_none (by lia)] at this;cases this
  ·by_cases hq:q<hs.length
   ·rw [List.getElem?_append_left hq] at e1;rw [List.getElem?_append_left (by lia)] at e2;obtain ⟨n',r1,r2⟩:=L.rch q g x e1 e2;exact ⟨n',r1,λr hr=>occ _ (r2 r hr)⟩
   ·rw [List.getElem?_append_right (by lia)] at e1 e2;have h1:=List.mem_of_getElem? e1;have h2:=List.mem_of_getElem? e2;simp at h1 h2;subst h1 h2;exact ⟨n,hj,λr hr=>occ _ (g3 r hr)⟩
theorem Zan {mask:Nat}(hc:Yu (mask+1)=true):∀(rest:LI)(ow:Array (Option Nat))(js:List Nat)(hs:LI),Lc mask ow js hs->hs.length+rest.length<=mask ->
  ∃ow' js',rest.foldl (Yy mask) (some (ow,hs.length))=some (ow',(hs++rest).length)/\Lc mask ow' js' (hs++rest)
 | [],ow,js,hs,L,_=>⟨ow,js,by simp,by simpa using L⟩
 | h::rest,ow,js,hs,L,hl=>by
  rw [List.length_cons] at hl;obtain ⟨j,e,L'⟩:=L.step hc (by lia) h;obtain ⟨ow',js',e',L''⟩:=Zan hc rest _ _ (hs++[h]) L' (by simp;lia);refine ⟨ow',js',?_,by simpa using L''⟩;rw [List.foldl_cons,e];have qV:(hs++[h]).length=hs.length+1:=by simp
  rw [qV] at e';rw [e'];simp
theorem Uz {α β:Type}(f:α->Option β):∀(l:List α),(∀x∈l,(f x).isSome=true)->∀r:Nat,(l.filterMap f)[r]?=(l[r]?).bind f
 | [],_,r=>by simp
 | x::l,h,r=>by
  obtain ⟨y,hy⟩:=Option.isSome_iff_exists.mp (h x (List.mem_cons_self));rw [List.filterMap_cons_some hy];cases r with
  | zero=>simp [hy]
  | succ r=>
   rw [List.getElem?_cons_succ,List.getElem?_cons_succ];exact Uz f l (λz hz=>h z (List.mem_cons_of_mem _ hz)) r
structure ZhK (t:SetTable)(od:Array Nat)(mask finger moves:Nat)(led plain:Bool)(qY:Array Int):Prop where
 tm:t.mask=mask
 tl:t.led=led
 tp:t.plain=plain
 td:t.dummies=#[]
 rise:Rise t.place
 le:∀j∈t.place.toList,j<=mask
 perm:od.toList.Perm (List.range qY.size)
 sz:t.place.size=qY.size
 rch:∀(r q j:Nat)(h:Int),od[r]?=some q->t.place[r]?=some j->qY[q]?=some h->∃n,(Jp mask n (st0 mask h)).j=j/\∀r',r'<n->(Jp mask r' (st0 mask h)).j∈t.place.toList
theorem Zao {mask:Nat}(hc:Yu (mask+1)=true)(finger moves:Nat)(led plain:Bool)(qY:Array Int)(hz:qY.size<=mask) :
  ∃t od,SetTable.laid mask finger moves led plain qY=some (t,od)/\ZhK t od mask finger moves led plain qY:=by
 obtain ⟨ow,js,e,L⟩:=Zan hc qY.toList _ [] [] (Lc.nil mask) (by simpa using hz);simp only [List.nil_append,List.length_nil] at e L;have hn:js.length=qY.size:=by rw [L.len,Array.length_toList]
 have e':SetTable.layClean mask qY=some ow:=by rw [V5,e];rfl
 generalize hlive:(List.range (mask+1)).filterMap (λj=>(ow.getD j none).map (j,·))=live;have mem:∀j q,(j,q)∈live↔j<=mask/\ow[j]?=some (some q):=by
  intro j q;rw [<-hlive,List.mem_filterMap];constructor
  ·rintro ⟨a,ha,hb⟩;have ha':=List.mem_range.mp ha;have hs':a<ow.size:=by rw [L.sz];lia
   rw [Array.getD_eq_getD_getElem?,Array.getElem?_eq_getElem hs'] at hb;cases hq:ow[a] with
   | none=>rw [hq] at hb;cases hb
   | some k=>
    rw [hq] at hb;have hb':(a,k)=(j,q):=Option.some.inj hb;cases hb';exact ⟨by lia,by rw [Array.getElem?_eq_getElem hs',hq]⟩
  ·rintro ⟨h1,h2⟩;refine ⟨j,List.mem_range.mpr (by lia),?_⟩;rw [Array.getD_eq_getD_getElem?,h2]
   rfl
 have pw1:(live.map (·.1)).Pairwise (· < ·):=by
  rw [List.pairwise_map,<-hlive];refine List.Pairwise.filterMap (R:=(· < ·)) _ (λa a' haa b hb b' hb'=>?_) List.pairwise_lt_range;obtain ⟨x,_,rfl⟩:=Option.map_eq_some_iff.mp hb;obtain ⟨x',_,rfl⟩:=Option.map_eq_some_iff.mp hb';exact haa
 have pw2:(live.map (·.2)).Nodup:=by
  unfold List.Nodup;rw [List.pairwise_map];have:=List.Pairwise.and_mem.mp (List.pairwise_map.mp pw1);refine this.imp λ{a b} hab z=>?_;obtain ⟨ha,hb,hlt⟩:=hab;have h1:=(L.at_ a.2 a.1).mpr ((mem a.1 a.2).mp ha).2;have h2:=(L.at_ b.2 b.1).mpr ((mem b.1 b.2).mp hb).2;rw [z,h2] at h1;have:=Option.some.inj h1
  lia
 have hperm:(live.map (·.2)).Perm (List.range qY.size):=by
  refine (List.perm_ext_iff_of_nodup pw2 List.nodup_range).mpr λq=>?_;rw [List.mem_range,List.mem_map];constructor
  ·rintro ⟨⟨j,q'⟩,hm,rfl⟩;have h1:=(L.at_ q' j).mpr ((mem j q').mp hm).2;have:=(List.getElem?_eq_some_iff.mp h1).1;show q'<_
   lia
  ·intro hq;have hq':q<js.length:=by lia
   have h1:=(L.at_ q js[q]).mp (List.getElem?_eq_getElem hq');have h2:=(Array.getElem?_eq_some_iff.mp h1).1;rw [L.sz] at h2;exact ⟨(js[q],q),(mem _ _).mpr ⟨by lia,h1⟩,rfl⟩
 refine ⟨_,_,by unfold SetTable.laid;rw [e'];rfl,rfl,rfl,rfl,rfl,?_,?_,?_,?_,?_⟩
 ·unfold Rise;dsimp only;rw [hlive];exact pw1
 ·dsimp only;rw [hlive];intro j hj;obtain ⟨⟨a,q⟩,hm,rfl⟩:=List.mem_map.mp (show j∈live.map (·.1) from hj);exact ((mem a q).mp hm).1
 ·dsimp only;rw [hlive];exact hperm
 ·dsimp only;rw [hlive,List.size_toArray,List.length_map];have:=hperm.length_eq;rw [List.length_map,List.length_range] at this;exact this
 ·dsimp only;rw [hlive];intro r q j h e1 e2 e3;rw [List.getElem?_toArray,List.getElem?_map] at e1 e2;cases hl:live[r]? with
  | none=>rw [hl] at e1;cases e1
  | some x=>
   rw [hl] at e1 e2;have e1':x.2=q:=Option.some.inj e1;have e2':x.1=j:=Option.some.inj e2;subst e1' e2';have h1:=(L.at_ x.2 x.1).mpr ((mem x.1 x.2).mp (List.mem_of_getElem? hl)).2;obtain ⟨n,r1,r2⟩:=L.rch x.2 h x.1 (by rw [Array.getElem?_toList];exact e3) h1;refine ⟨n,r1,λr' hr'=>?_⟩;have h2:=r2 r' hr';have hle:=Zal mask r' h;have hs':(Jp mask r' (st0 mask h)).j<ow.size:=by rw [L.sz];lia
   rw [Array.getElem?_eq_getElem hs'] at h2;cases hq:ow[(Jp mask r' (st0 mask h)).j] with
   | none=>rw [hq] at h2;exact absurd rfl h2
   | some k=>
    show _∈live.map (·.1);exact List.mem_map.mpr ⟨(_,k),(mem _ _).mpr ⟨hle,by rw [Array.getElem?_eq_getElem hs',hq]⟩,rfl⟩
end L2
namespace L2
open PySem
def ins {α:Type}(l:List α)(p:Nat)(x:α):List α:=l.take p++x::l.drop p
theorem Yz {α:Type}{l:List α}{p:Nat}{x:α}(hp:p<=l.length)(i:Nat):(ins l p x)[i]?=if i<p then l[i]? else if i=p then some x else l[i-1]?:=by
 unfold ins;have hl:(l.take p).length=p:=by rw [List.length_take];lia
 by_cases h:i<p
 ·rw [if_pos h,List.getElem?_append_left (by lia),List.getElem?_take,if_pos h]
 ·rw [if_neg h,List.getElem?_append_right (by lia),hl];by_cases h':i=p
  ·subst h';simp
  ·rw [if_neg h'];have e:i-p=(i-p-1)+1:=by lia
   rw [e,List.getElem?_cons_succ,List.getElem?_drop]
   congr 1
   lia
theorem V6 {α:Type}{l:List α}{p:Nat}{x:α}(hp:p<=l.length):(ins l p x).length=l.length+1:=by
 unfold ins;simp
 lia
theorem ZdK {α β:Type}(f:α->β)(l:List α)(p:Nat)(x:α):(ins l p x).map f=ins (l.map f) p (f x):=by
 unfold ins;simp
theorem ins_mem {α:Type}{l:List α}{p:Nat}{x y:α}:y∈ins l p x↔y=x\/y∈l:=by
 unfold ins;rw [List.mem_append,List.mem_cons];constructor
 ·rintro (h | h | h)
  ·exact .inr (List.mem_of_mem_take h)
  ·exact .inl h
  ·exact .inr (List.mem_of_mem_drop h)
 ·rintro (h | h)
  ·exact .inr (.inl h)
  ·rw [<-List.take_append_drop p l,List.mem_append] at h;rcases h with h | h
   ·exact .inl h
   ·exact .inr (.inr h)
structure TOk (t:SetTable)(hs:LI):Prop where
 mask:t.mask=7\/t.mask=31\/t.mask=127\/t.mask=511\/t.mask=2047
 dum:t.dummies=#[]
 len:t.place.size=hs.length
 rise:Rise t.place
 le:∀j∈t.place.toList,j<=t.mask
 rch:∀(i:Nat)(h:Int)(j:Nat),hs[i]?=some h->t.place[i]?=some j->∃n,(Jp t.mask n (st0 t.mask h)).j=j/\∀q,q<n->(Jp t.mask q (st0 t.mask h)).j∈t.place.toList
theorem TOk.cov {t:SetTable}{hs:LI}(T:TOk t hs):Yu (t.mask+1)=true:=by
 rcases T.mask with e | e | e | e | e <;> rw [e]
 ·exact ZhJ
 ·exact ZeS
 ·exact Zc0
 ·exact Zc1
 ·exact Zag
theorem TOk.fill {t:SetTable}{hs:LI}(T:TOk t hs):t.fill=hs.length:=by
 unfold SetTable.fill;rw [T.dum,T.len]
 rfl
theorem TOk.fits {t:SetTable}{hs:LI}(T:TOk t hs)(h:hs.length<=t.mask):t.fits hs.length=true:=by
 unfold SetTable.fits;rw [Bool.and_eq_true,beq_iff_eq,decide_eq_true_eq,T.fill];exact ⟨T.len,h⟩
theorem TOk.fresh (f m:Nat)(led:Bool):TOk (SetTable.fresh f m led) []:=
 ⟨.inl rfl,rfl,rfl,List.Pairwise.nil,λj hj=>by simp [SetTable.fresh] at hj,λi h j e=>by simp at e⟩
theorem TOk.empty {t:SetTable}{hs:LI}(T:TOk t hs)(hl:hs.length<=t.mask)(h:Int):∃n,n+10<10 * SetTable.turns t.mask/\(Jp t.mask n (st0 t.mask h)).j ∉ t.place.toList:=by
 obtain ⟨j,h1,h2⟩:=VD (mask:=t.mask) (l:=t.place.toList) (by rw [Array.length_toList,T.len];exact hl);obtain ⟨n,h3,h4⟩:=Zaj T.cov h h1;exact ⟨n,h3,by rw [h4];exact h2⟩
theorem Zga {t:SetTable}{j:Nat}:(t.put j).2=SetTable.below t.place j:=rfl
theorem Oe {t:SetTable}{j:Nat}:(t.put j).1.place.toList=ins t.place.toList (SetTable.below t.place j) j:=by
 show (SetTable.insertAt t.place (SetTable.below t.place j) j).toList=_;rw [SetTable.toList_insertAt]
 rfl
theorem TOk.put {t:SetTable}{hs:LI}(T:TOk t hs){h:Int}{n:Nat}(hn:(Jp t.mask n (st0 t.mask h)).j ∉ t.place.toList)(hr:∀q,q<n->(Jp t.mask q (st0 t.mask h)).j∈t.place.toList) :
  SetTable.below t.place (Jp t.mask n (st0 t.mask h)).j<=hs.length/\TOk (t.put (Jp t.mask n (st0 t.mask h)).j).1 (ins hs (SetTable.below t.place (Jp t.mask n (st0 t.mask h)).j) h):=by
 have hle:=Zal t.mask n h;generalize hj:(Jp t.mask n (st0 t.mask h)).j=j at hn hle ⊢;obtain ⟨b1,b2,b3⟩:=Uo (j:=j) T.rise;have hb:SetTable.below t.place j<=hs.length:=by rw [<-T.len];exact b1
 have hb':SetTable.below t.place j<=t.place.toList.length:=by rw [Array.length_toList];exact b1
 have pm:∀x,x∈t.place.toList->x∈(t.put j).1.place.toList:=λx hx=>by rw [Oe];exact ins_mem.mpr (.inr hx)
 refine ⟨hb,T.mask,?_,?_,?_,λx hx=>?_,λi g x e1 e2=>?_⟩
 ·show (if SetTable.has t.dummies j=true then SetTable.eraseAt t.dummies (SetTable.below t.dummies j) else t.dummies)=#[];rw [T.dum];have e:SetTable.has #[] j=false:=by unfold SetTable.has;simp
  rw [e]
  rfl
 ·rw [V6 hb,<-Array.length_toList,Oe,V6 hb',Array.length_toList,T.len]
 ·unfold Rise;rw [Oe];unfold ins;rw [List.pairwise_append];refine ⟨List.Pairwise.sublist (List.take_sublist _ _) T.rise,?_,λa ha b hb2=>?_⟩
  ·refine List.pairwise_cons.mpr ⟨λb hb2=>?_,List.Pairwise.sublist (List.drop_sublist _ _) T.rise⟩;obtain ⟨k,hk,e⟩:=List.getElem_of_mem hb2;rw [List.getElem_drop] at e;rw [List.length_drop] at hk;have e':t.place[SetTable.below t.place j+k]?=some b:=by
    rw [<-Array.getElem?_toList,List.getElem?_eq_getElem (by lia),e]
   have h1:=b3 _ _ (Nat.le_add_right _ _) e';have h2:j≠b:=λz=>hn (z▸U9 e')
   lia
  ·have hlt:a<j:=by
    obtain ⟨k,hk,e⟩:=List.getElem_of_mem ha;rw [List.getElem_take] at e;rw [List.length_take] at hk;have e':t.place[k]?=some a:=by rw [<-Array.getElem?_toList,List.getElem?_eq_getElem (by lia),e]
    exact b2 k a (by lia) e'
   rcases List.mem_cons.mp hb2 with rfl | hb2
   ·exact hlt
   ·obtain ⟨k,hk,e⟩:=List.getElem_of_mem hb2;rw [List.getElem_drop] at e;rw [List.length_drop] at hk;have e':t.place[SetTable.below t.place j+k]?=some b:=by
     rw [<-Array.getElem?_toList,List.getElem?_eq_getElem (by lia),e]
    have h1:=b3 _ _ (Nat.le_add_right _ _) e'
    lia
 ·rw [Oe] at hx;rcases ins_mem.mp hx with rfl | hx
  ·exact hle
  ·exact T.le x hx
 ·rw [<-Array.getElem?_toList,Oe,Yz hb'] at e2;rw [Yz hb] at e1;by_cases c1:i<SetTable.below t.place j
  ·rw [if_pos c1] at e1 e2;obtain ⟨m,r1,r2⟩:=T.rch i g x e1 (by rw [<-Array.getElem?_toList];exact e2);exact ⟨m,r1,λq hq=>pm _ (r2 q hq)⟩
  ·rw [if_neg c1] at e1 e2;by_cases c2:i=SetTable.below t.place j
   ·rw [if_pos c2] at e1 e2;cases e1;cases e2;exact ⟨n,hj,λq hq=>pm _ (hr q hq)⟩
   ·rw [if_neg c2] at e1 e2;obtain ⟨m,r1,r2⟩:=T.rch (i-1) g x e1 (by rw [<-Array.getElem?_toList];exact e2);exact ⟨m,r1,λq hq=>pm _ (r2 q hq)⟩
abbrev ZbB (es:Array (Int×Aa)):LI:=es.toList.map (·.1)
structure SOk (t:SetTable)(es:Array (Int×Aa)):Prop where
 T:TOk t (ZbB es)
 room:es.size * 5<t.mask * 3
theorem J3 (es:Array (Int×Aa)):(ZbB es).length=es.size:=by rw [List.length_map,Array.length_toList]
theorem SOk.le {t:SetTable}{es:Array (Int×Aa)}(S:SOk t es):(ZbB es).length<=t.mask:=by
 have:=S.room;rw [J3]
 lia
theorem SOk.fits {t:SetTable}{es:Array (Int×Aa)}(S:SOk t es):t.fits es.size=true:=by
 have:=S.T.fits S.le;rw [J3] at this;exact this
theorem SOk.fresh (f m:Nat)(led:Bool):SOk (SetTable.fresh f m led) #[]:=⟨TOk.fresh f m led,by show 0 * 5<7 * 3;decide⟩
theorem XG (es:Array (Int×Aa))(p:Nat)(h:Int)(x:Aa):ZbB (SetTable.insertAt es p (h,x))=ins (ZbB es) p h:=by
 unfold ZbB;rw [SetTable.toList_insertAt];exact ZdK (·.1) es.toList p (h,x)
theorem V7 (es:Array (Int×Aa))(p:Nat)(x:Int×Aa):(SetTable.insertAt es p x).size=es.size+1:=by
 rw [<-Array.length_toList,(SetTable.insertAt_perm es p x).length_eq,Array.length_toList,Array.size_push]
theorem SOk.put {t:SetTable}{es:Array (Int×Aa)}(S:SOk t es){h:Int}{n:Nat}(x:Aa)(hn:(Jp t.mask n (st0 t.mask h)).j ∉ t.place.toList)(hr:∀q,q<n->(Jp t.mask q (st0 t.mask h)).j∈t.place.toList) :
  TOk (t.put (Jp t.mask n (st0 t.mask h)).j).1 (ZbB (SetTable.insertAt es (t.put (Jp t.mask n (st0 t.mask h)).j).2 (h,x)))/\(t.put (Jp t.mask n (st0 t.mask h)).j).1.fits (es.size+1)=true:=by
 obtain ⟨h1,h2⟩:=S.T.put hn hr;rw [Zga,XG];refine ⟨h2,?_⟩;have h3:=h2.fits (by rw [V6 h1,J3];show es.size+1<=t.mask;have:=S.room;rcases S.T.mask with e | e | e | e | e <;> lia);rw [V6 h1,J3] at h3;exact h3
theorem Xd {es:Array (Int×Aa)}{od:Array Nat}(h:od.toList.Perm (List.range es.size))(r:Nat):(od.filterMap (es[·]?))[r]?=(od[r]?).bind (es[·]?):=by
 rw [<-Array.getElem?_toList,Array.toList_filterMap,Uz _ _ (λx hx=>?_),Array.getElem?_toList];have:=List.mem_range.mp (h.mem_iff.mp hx);rw [Array.getElem?_eq_getElem this]
 rfl
theorem JM {es:Array (Int×Aa)}{od:Array Nat}(h:od.toList.Perm (List.range es.size)):(od.filterMap (es[·]?)).toList.Perm es.toList:=by
 rw [Array.toList_filterMap];exact (h.filterMap _).trans (by rw [PySem.filterMap_getElem?_range])
theorem Zb0 {t:SetTable}{es:Array (Int×Aa)}(T:TOk t (ZbB es))(hn:es.size=5/\t.mask=7\/es.size=19/\t.mask=31\/es.size=77/\t.mask=127\/es.size=307/\t.mask=511) :
  ∃t2 od,t.relaid (es.map (·.1)) (SetTable.grown es.size)=some (t2,od)/\od.toList.Perm (List.range es.size)/\SOk t2 (od.filterMap (es[·]?))/\t2.led=t.led/\t2.plain=t.plain/\SetTable.sizeAbove (SetTable.grown es.size)<=2048:=by
 have hsz:(es.map (·.1)).size=es.size:=Array.size_map;have hm:∃m,SetTable.sizeAbove (SetTable.grown es.size)-1=m/\(m=31\/m=127\/m=511\/m=2047)/\es.size * 5<m * 3/\SetTable.sizeAbove (SetTable.grown es.size)<=2048:=by
  rcases hn with ⟨e,_⟩ | ⟨e,_⟩ | ⟨e,_⟩ | ⟨e,_⟩ <;> rw [e]
  ·exact ⟨31,by decide,.inl rfl,by decide,by decide⟩
  ·exact ⟨127,by decide,.inr (.inl rfl),by decide,by decide⟩
  ·exact ⟨511,by decide,.inr (.inr (.inl rfl)),by decide,by decide⟩
  ·exact ⟨2047,by decide,.inr (.inr (.inr rfl)),by decide,by decide⟩
 obtain ⟨m,e,hmm,jJ,h128⟩:=hm;have hc:Yu (m+1)=true:=by
  rcases hmm with rfl | rfl | rfl | rfl
  ·exact ZeS
  ·exact Zc0
  ·exact Zc1
  ·exact Zag
 obtain ⟨t2,od,e2,L⟩:=Zao hc t.finger (t.movedTo m) t.led t.plain (es.map (·.1)) (by rw [hsz];lia);have hp:=L.perm;rw [hsz] at hp;refine ⟨t2,od,by unfold SetTable.relaid;rw [e];exact e2,hp,⟨⟨by rw [L.tm];exact .inr hmm,L.td,?_,L.rise,by rw [L.tm];exact L.le,λi h j e1 e3=>?_⟩,?_⟩,L.tl,L.tp,h128⟩
 ·rw [L.sz,hsz,J3];have:=(JM hp).length_eq;rw [Array.length_toList,Array.length_toList] at this;exact this.symm
 ·rw [L.tm];have e1':((od[i]?).bind (es[·]?)).map (·.1)=some h:=by
   rw [<-Xd hp,<-Array.getElem?_toList,<-List.getElem?_map];exact e1
  cases hq:od[i]? with
  | none=>rw [hq] at e1';cases e1'
  | some q=>
   rw [hq] at e1';exact L.rch i q j h hq e3 (by rw [Array.getElem?_map];exact e1')
 ·rw [L.tm];have:=(JM hp).length_eq;rw [Array.length_toList,Array.length_toList] at this;rw [this];exact jJ
theorem Zap {t:SetTable}{es:Array (Int×Aa)}(S:SOk t es)(h76:es.size+1<=1228){t1:SetTable}{hs1:LI}(T1:TOk t1 hs1)(hl:hs1.length=es.size+1)(hm:t1.mask=t.mask) :
  (t1.tooFull=true/\(es.size+1=5/\t1.mask=7\/es.size+1=19/\t1.mask=31\/es.size+1=77/\t1.mask=127\/es.size+1=307/\t1.mask=511))\/(t1.tooFull=false/\(es.size+1) * 5<t1.mask * 3):=by
 have hr:=S.room;have e:t1.tooFull=decide ((es.size+1) * 5>=t1.mask * 3):=by
  unfold SetTable.tooFull;rw [T1.fill,hl]
 rw [e];by_cases h:(es.size+1) * 5>=t1.mask * 3
 ·refine .inl ⟨decide_eq_true h,?_⟩;rcases T1.mask with q | q | q | q | q
  ·left;lia
  ·right;left;lia
  ·right;right;left;lia
  ·right;right;right;lia
  ·lia
 ·exact .inr ⟨decide_eq_false h,by lia⟩
theorem Zaq {t:SetTable}{es:Array (Int×Aa)}(S:SOk t es)(h:Int)(x:Aa) :
  ∃es1 t1,layNew t es h x=(es1,t1,false,false)/\TOk t1 (ZbB es1)/\t1.fits es1.size=true/\es1.size=es.size+1/\t1.mask=t.mask/\t1.led=t.led/\t1.plain=t.plain:=by
 obtain ⟨n0,h0,f0⟩:=S.T.empty S.le h;rcases Zam (t:=t) (ha:=λ_=>h+1) (h:=h) S.T.rise S.T.dum (10 * SetTable.turns t.mask) (st0 t.mask h) ⟨n0,by lia,f0⟩ with ⟨n,g1,g2,g3⟩ | ⟨n,i,_,_,g3,_⟩
 ·obtain ⟨p1,p2⟩:=S.put x g2 λq hq=>by obtain ⟨i,hi,_⟩:=g3 q hq;exact U9 hi
  have ef:t.freeSlot h=some ((Jp t.mask n (st0 t.mask h)).j,false):=by
   unfold SetTable.freeSlot SetTable.probe;rw [ZeT,g1]
   rfl
  have hsz:(SetTable.insertAt es (t.put (Jp t.mask n (st0 t.mask h)).j).2 (h,x)).size=es.size+1:=V7 _ _ _;refine ⟨_,_,?_,p1,by rw [hsz];exact p2,hsz,rfl,rfl,rfl⟩;unfold layNew;rw [ef];dsimp only;unfold SetTable.orStandIn;rw [hsz,if_pos p2,p2]
  rfl
 ·lia
theorem XH {t:SetTable}{es:Array (Int×Aa)}(T:TOk t (ZbB es))(hn:es.size=5/\t.mask=7\/es.size=19/\t.mask=31\/es.size=77/\t.mask=127\/es.size=307/\t.mask=511) :
  ∃es2 t2,relayAll t es (SetTable.grown es.size)=(es2,t2,false)/\es2.toList.Perm es.toList/\SOk t2 es2/\t2.led=t.led/\t2.plain=t.plain:=by
 obtain ⟨t2,od,e,hp,S,h1,h2,_⟩:=Zb0 T hn;refine ⟨_,t2,?_,JM hp,S,h1,h2⟩;unfold relayAll;rw [e];dsimp only;have hc:coversAll od es.size=true:=by unfold coversAll;exact List.isPerm_iff.mpr hp
 rw [hc,S.fits]
 rfl
end L2
namespace L2
open PySem PySem.Spec PyProof.Rows
theorem sit_slot_next:Slot "set_iterator" "__next__" "set_iterator.__next__" := by
 refine .of (owner := "set_iterator") (n := "__next__") ?_ (by decide +kernel) (by decide +kernel) (by decide +kernel) ?_ ?_
 ·rw [typeLookup_type,builtinLookup_eq_fast];kernel_rfl
 ·first | exact .inl (by decide +kernel) | exact .inr (by decide +kernel)
 ·rw [isSubtype_type];kernel_rfl
theorem OZ:Slot "set_iterator" "__iter__" "set_iterator.__iter__" := by
 refine .of (owner := "set_iterator") (n := "__iter__") ?_ (by decide +kernel) (by decide +kernel) (by decide +kernel) ?_ ?_
 ·rw [typeLookup_type,builtinLookup_eq_fast];kernel_rfl
 ·first | exact .inl (by decide +kernel) | exact .inr (by decide +kernel)
 ·rw [isSubtype_type];kernel_rfl
theorem OE:entryFor table "set_iterator.__next__" = some Builtin.«set_iterator.__next__»:=by
 first | exact entryFor_of_tree (by kernel_rfl) | exact entryFor_of_fast (by kernel_rfl)
theorem O0 (a:Aa):argsOk "set_iterator.__next__" ⟨[a],[]⟩:=by
 unfold argsOk;kernel_rfl
theorem Vs:entryFor table "set.__iter__" = some Builtin.«frozenset.__iter__»:=by
 first | exact entryFor_alias (id' := "frozenset.__iter__") (by kernel_rfl) (by decide +kernel) (by decide +kernel) (by kernel_rfl) | exact entryFor_alias (id' := "frozenset.__iter__") (by kernel_rfl) rfl (by decide +kernel) (by kernel_rfl)
theorem V8:entryFor table "set.__and__" = some Builtin.«frozenset.__and__»:=by
 first | exact entryFor_alias (id' := "frozenset.__and__") (by kernel_rfl) (by decide +kernel) (by decide +kernel) (by kernel_rfl) | exact entryFor_alias (id' := "frozenset.__and__") (by kernel_rfl) rfl (by decide +kernel) (by kernel_rfl)
end L2
namespace L2
open PySem PySem.Spec PyProof.Rows
def JR (w:Ab):Bool:=w.params.followText "set-order"
section
variable {P:PP}{w:Ab}{A:Around}{E:Aa->SS->Prop}{s:SS}
theorem Of {Q:Bool->SS->Prop}(h:Q (JR w) s):wpAny (model P w) A setsByText Q E s:=by
 unfold setsByText;exact wpAny_bind (wpAny_askSetting (wpAny_pure h))
def Xw (P:PP)(w:Ab)(e:Int×Aa)(n:Int):Prop:=e.1=(intKind P w).hash n/\∃tk,e.2=Value.int n tk
def SetI (P:PP)(w:Ab)(o:Obj)(σ:LI):Prop:=∃es ep t,o.ExactSet/\o.data=.set es ep t/\Paired (Xw P w) es.toList σ/\σ.Nodup/\SOk t es/\t.plain=true/\t.led=!JR w
theorem Zc4 {e:Int×Aa}{n m:Int}(h:Xw P w e n):(intKind P w).is m e.2=decide (m=n):=by
 obtain ⟨_,tk,e2⟩:=h;rw [e2];exact KeyKind.is_eq_decide (intKind_is _ _ _ _) m
theorem Up:∀{l:List (Int×Aa)}{σ:LI},Paired (Xw P w) l σ->ElemsOf (intKind P w) l
 | _,_,.nil=>λe he=>by simp at he
 | _,_,.cons h t=>λe he=>by
  rcases List.mem_cons.mp he with rfl | he
  ·obtain ⟨h1,tk,h2⟩:=h;exact ⟨⟨_,by rw [h2];exact intKind_is _ _ _ _,h1⟩,by rw [h2];rfl⟩
  ·exact Up t e he
theorem UL:∀{l:List (Int×Aa)}{σ:LI},Paired (Xw P w) l σ->∀n:Int,n∈σ↔∃e∈l,(intKind P w).is n e.2=true
 | _,_,.nil,n=>by simp
 | _,_,.cons (a:=a) (b:=b) h t,n=>by
  rw [List.mem_cons,UL t n];constructor
  ·rintro (rfl | ⟨e,he,hq⟩)
   ·exact ⟨a,List.mem_cons_self,by rw [Zc4 h];exact decide_eq_true rfl⟩
   ·exact ⟨e,List.mem_cons_of_mem _ he,hq⟩
  ·rintro ⟨e,he,hq⟩;rcases List.mem_cons.mp he with rfl | he
   ·rw [Zc4 h] at hq;exact .inl (of_decide_eq_true hq)
   ·exact .inr ⟨e,he,hq⟩
theorem O1 {l l':List (Int×Aa)}(p:l'.Perm l):∀{σ:LI},Paired (Xw P w) l σ->∃ σ',Paired (Xw P w) l' σ'/\σ'.Perm σ:=by
 induction p with
 | nil=>intro σ h;cases h;exact ⟨[],.nil,.refl _⟩
 | cons x _ ih=>
  intro σ h;cases h with
  | cons h t=>
   obtain ⟨σ',h1,h2⟩:=ih t;exact ⟨_,.cons h h1,h2.cons _⟩
 | swap x y l=>
  intro σ h;cases h with
  | cons h t=>
   cases t with
   | cons h' t=>exact ⟨_,.cons h' (.cons h t),.swap _ _ _⟩
 | trans _ _ ih1 ih2=>
  intro σ h;obtain ⟨σ1,h1,p1⟩:=ih2 h;obtain ⟨σ2,h2,p2⟩:=ih1 h1;exact ⟨σ2,h2,p2.trans p1⟩
theorem YA:∀{l k:List (Int×Aa)}{σ τ:LI},Paired (Xw P w) l σ->Paired (Xw P w) k τ->Paired (Xw P w) (l++k) (σ++τ)
 | _,_,_,_,.nil,h=>h
 | _,_,_,_,.cons h t,k=>.cons h (YA t k)
theorem Xe {h:Heap}{a:AD}{o:Obj}{es:Array (Int×Aa)}{ep:Nat}{t:SetTable}(ho:h.get? a=some o)(hd:o.data=.set es ep t)(es':Array (Int×Aa))(t':SetTable) :
  (h.update a (Obj.putSet es' t')).get? a=some { o with data:=.set es' (ep+1) t' }:=by
 have:=Heap.get?_update_self (Obj.putSet es' t') ho (by rw [putSet_of es' t' hd];rfl);rw [putSet_of es' t' hd] at this;exact this
theorem Zar {a:AD}{o:Obj}{σ:LI}{n:Int}{tk:Tok}{Q:Bool->SS->Prop}(ho:s.heap.get? a=some o)(hS:SetI P w o σ)(h76:σ.length+1<=1228)(h:∀(b:Bool)(h':Heap)(o':Obj)(σ':LI),Heap.SameBut a s.heap h'->h'.get? a=some o'->SetI P w o' σ'->σ'.Perm (if n∈σ then σ else σ++[n])->Q b { s with heap:=h' }) :
  wpAny (model P w) A (setAddHashed a (.int n tk) ((intKind P w).hash n)) Q E s:=by
 obtain ⟨es,ep,t,hx,hd,hE,hnd,S,hpl,hled⟩:=id hS;have hel:=Up hE;have qV:=Paired.length hE;rw [Array.length_toList] at qV;have hf:=S.fits;have h4096:scanBound=4096:=rfl;unfold setAddHashed setAddHashedIn;refine wpAny_holding (wpAny_bind (wpAny_setState_of ho hd hf ?_));dsimp only;rw [byScan_of (knd:=intKind P w) (x:=.int n tk) rfl (by lia) hel,if_pos rfl];unfold setAddByScan;refine wpAny_bind (wpAny_bind (wpAny_rule (wpAny_bind (wpAny_setScan_of (intKind_is P w n tk) ho hd hf hel ?_))));cases hr:List.findIdx? (λe=>(intKind P w).is n e.2) es.toList with
 | some j=>
  obtain ⟨hj,hpj,_⟩:=List.findIdx?_eq_some_iff_getElem.mp hr;have hin:n∈σ:=(UL hE n).mpr ⟨_,List.getElem_mem hj,hpj⟩;refine wpAny_pure (wpAny_pure ?_);exact h false s.heap o σ (Heap.SameBut.refl a s.heap) ho hS (by rw [if_pos hin])
 | none=>
  have hnot:n ∉ σ:=λhin=>by
   obtain ⟨e,he,hq⟩:=(UL hE n).mp hin;have:=List.findIdx?_eq_none_iff.mp hr e he;rw [hq] at this;cases this
  obtain ⟨es1,t1,eL,T1,hf1,hz1,hm1,hl1,hp1⟩:=Zaq S ((intKind P w).hash n) (.int n tk);have hperm:=layNew_perm t es ((intKind P w).hash n) (.int n tk);dsimp only;rw [eL] at hperm ⊢;dsimp only at hperm ⊢;rw [Array.toList_push] at hperm;have hE1:Paired (Xw P w) (es.toList++[((intKind P w).hash n,Value.int n tk)]) (σ++[n]):=YA hE (.cons ⟨rfl,tk,rfl⟩ .nil);obtain ⟨σ1,hE2,hp2⟩:=O1 hperm hE1;have hnd1:(σ++[n]).Nodup:=List.nodup_append.mpr ⟨hnd,by simp,λa ha b hb=>by
   rw [List.mem_singleton] at hb;subst hb;intro z;exact hnot (z▸ha)⟩
  refine wpAny_bind (wpAny_pure ?_);rw [hp1,hpl,if_pos rfl];refine wpAny_bind ?_;rw [hashByValue_scannable 8 (x:=.int n tk) rfl];refine wpAny_pure ?_;dsimp only [plainKind];rw [if_pos rfl];have hz:es1.size<=sizeLine:=by rw [sizeLine_eq];lia
  refine wpAny_bind (wpAny_storeSet_of ho hd ?_ hz);have ho1:=Xe ho hd es1 t1;have sb1:=Heap.SameBut.update s.heap a (Obj.putSet es1 t1);rcases Zap S (by lia) T1 (by rw [J3];exact hz1) hm1 with ⟨hfull,hwhen⟩ | ⟨hfull,jJ⟩
  ·rw [hfull,if_pos (show (!false && true)=true from rfl)];rw [<-hz1] at hwhen;obtain ⟨es2,t2,eR,hp3,S2,hl2,hpl2⟩:=XH T1 hwhen;rw [eR];obtain ⟨σ2,hE3,hp4⟩:=O1 hp3 hE2;have hz2:es2.size=es1.size:=by
    have:=hp3.length_eq;rw [Array.length_toList,Array.length_toList] at this;exact this
   refine wpAny_bind (wpAny_pure ?_);refine wpAny_bind (wpAny_storeSet_of ho1 rfl ?_ (by rw [hz2];exact hz));refine wpAny_pure (wpAny_pure (h true _ _ σ2 (sb1.trans (Heap.SameBut.update _ a _)) (Xe ho1 rfl es2 t2) ⟨es2,_,t2,hx,rfl,hE3,(hp4.trans hp2).nodup_iff.mpr hnd1,S2,by rw [hpl2,hp1,hpl],by rw [hl2,hl1,hled]⟩ ?_));rw [if_neg hnot];exact hp4.trans hp2
  ·rw [hfull,if_neg (show ¬ ((!false && false)=true) from Bool.false_ne_true)];refine wpAny_pure (wpAny_pure (h true _ _ σ1 sb1 ho1 ⟨es1,_,t1,hx,rfl,hE2,hp2.nodup_iff.mpr hnd1,⟨T1,by rw [hz1];exact jJ⟩,by rw [hp1,hpl],by rw [hl1,hled]⟩ ?_));rw [if_neg hnot];exact hp2
end
end L2
namespace L2
open PySem PySem.Spec PyProof.Rows
def GB (w:Ab):Obj:={ cls:=.type "set", dict:=none,data:=.set #[] 0 (.fresh 0 0 (!JR w)) }
theorem YB (P:PP)(w:Ab):SetI P w (GB w) []:=⟨#[],0,_,⟨rfl,rfl,rfl⟩,rfl,.nil,List.nodup_nil,SOk.fresh 0 0 _,rfl,rfl⟩
section
variable {P:PP}{w:Ab}{A:Around}{E:Aa->SS->Prop}{s:SS}
theorem Zb1 (a:Aa){Q1:Aa->SS->Prop}(h:Q1 (.ref s.heap.objs.size) { s with heap:=s.heap.push (GB w) }) :
  codeAny (model P w) A (.call (.builtin "set.__new__") ⟨[.type "set", a],[]⟩) (wants Q1 E) s:=by
 apply codeAny_of_tree;show wpAny _ A.in1 (checkBuiltinCall "set.__new__" ⟨[.type "set", a],[]⟩ >>= λ_=>again (.builtin "set.__new__" ⟨[.type "set", a],[]⟩)) _ _ s;apply wpAny_bind;apply wpAny_of_eq (F.newCall_set_1 a);refine wpAny_pure ⟨plainId_quiet F.plain_set_new _,?_⟩;apply codeAny_builtin F.entry_set_new;rw [Around.under_plainId F.plain_set_new _];unfold Builtin.«set.__new__» Builtin.Frozenset.newClass;have hsb:=sub_set_self;obtain ⟨hp,g,d,tk,os⟩:=s;dsimp only
 wp_walk
 apply wpAny_askSetting;apply wpAny_pure;dsimp only;simp only [newObj];apply wpAny_bind;apply wpAny_alloc;apply wpAny_pure;apply wpAny_pure;exact h
theorem Zb2 {I:AD}{fp wr:List AD}{G:Array GenState->Array GenState->Prop}{n:Nat}{Pv:Nat->Aa->Prop}{St:Nat->SS->Prop}{R:Result->SS->Prop}(W:WalksS P w A.in1 I fp wr G n Pv St)(S:AD)(hSf:S ∉ fp)(J:Nat->Obj->Prop)(Kp:Heap->Prop)(hK:∀h h':Heap,Kp h->(∀b o,b ∉ S::wr->h.get? b=some o->h'.get? b=some o)->Kp h')(hadd:∀(i:Nat)(v:Aa)(s1:SS)(o:Obj)(Q:Bool->SS->Prop)(E1:Aa->SS->Prop),i<n->Pv i v->Kp s1.heap->s1.heap.get? S=some o->J i o ->
   (∀(b:Bool)(h':Heap)(tk:Nat)(o':Obj),s1.toks<=tk->Heap.SameBut S s1.heap h'->h'.get? S=some o'->J (i+1) o'->Q b { s1 with heap:=h',toks:=tk })->wpAny (model P w) A.in1 (setAdd S v) Q E1 s1) :
  ∀(k i:Nat)(s:SS)(o:Obj),n-i=k->i<=n->St i s->Kp s.heap->s.heap.get? S=some o->J i o ->
   (∀(s':SS)(o':Obj),Moved (S::wr) G s s'->s'.heap.get? S=some o'->J n o'->R (.ok (.ret .none)) s') ->
   codeAny (model P w) A (.builtin "set.update.loop" ⟨[.ref S,.ref I],[]⟩) R s:=by
 have hSw:S ∉ wr:=λz=>hSf (W.sub _ z);have up:∀b∈wr,b∈S::wr:=λb z=>List.mem_cons_of_mem _ z;intro k
 induction k with
 | zero=>
  intro i s o hk hi st kp ho hj hR;have e:i=n:=by lia
  subst e;apply codeAny_builtin PyProof.Rows.F.entry_set_update_loop;rw [Around.under_plainId PyProof.Rows.F.plain_set_update_loop _];apply wpAny_bind;refine W.done s _ _ st λs1 hm=>?_;apply wpAny_pure;exact hR s1 o (hm.mono up) (hm.heap S _ hSw ho) hj
 | succ k ih=>
  intro i s o hk hi st kp ho hj hR;have hlt:i<n:=by lia
  apply codeAny_builtin PyProof.Rows.F.entry_set_update_loop;rw [Around.under_plainId PyProof.Rows.F.plain_set_update_loop _];apply wpAny_bind;refine W.item i s _ _ hlt st λv s1 hv st1 hm=>?_;have ho1:=hm.heap S _ hSw ho;have kp1:Kp s1.heap:=hK _ _ kp λb o' hb e=>hm.heap b o' (λz=>hb (up _ z)) e;apply wpAny_bind;apply wpAny_holding;refine hadd i v s1 o _ _ hlt hv kp1 ho1 hj λb h' tk o' htk sb ho' hj'=>?_;refine wpAny_pure ⟨plainId_quiet PyProof.Rows.F.plain_set_update_loop _,ih (i+1) _ o' (by lia) hlt (W.frame _ s1 _ _ st1 htk λb hb o2 e=>?_) (hK _ _ kp1 λb o2 hb e=>?_) ho' hj' λs2 o2 hm2 ho2 hj2=>?_⟩
  ·rw [sb.2 b (λz:b=S=>hSf (z▸hb))];exact e
  ·show h'.get? b=some o2;rw [sb.2 b (λz:b=S=>hb (by rw [z];exact List.mem_cons_self))];exact e
  ·refine hR s2 o2 (Moved.trans W.gtrans ((hm.mono up).then_heap htk λb o3 hb e=>?_) hm2) ho2 hj2;rw [sb.2 b (λz:b=S=>hb (by rw [z];exact List.mem_cons_self))];exact e
theorem Zas {l:AD}{items:Array Aa}{Q:Aa->SS->Prop}(hh:A.handled=none)(hl:s.heap.IsList l items)(J:Nat->Obj->Prop)(Kp:Heap->Prop)(h0:J 0 (GB w))(hK0:∀h':Heap,(∀b o,b<s.heap.objs.size->s.heap.get? b=some o->h'.get? b=some o)->Kp h')(hadd:∀(i:Nat)(v:Aa)(s1:SS)(o:Obj)(Q:Bool->SS->Prop)(E1:Aa->SS->Prop),i<items.size->items[i]?=some v->Kp s1.heap->s1.heap.get? s.heap.objs.size=some o->J i o ->
   (∀(b:Bool)(h':Heap)(tk:Nat)(o':Obj),s1.toks<=tk->Heap.SameBut s.heap.objs.size s1.heap h'->h'.get? s.heap.objs.size=some o'->J (i+1) o'->Q b { s1 with heap:=h',toks:=tk })->wpAny (model P w) A.in1.in1.in1 (setAdd s.heap.objs.size v) Q E1 s1)(h:∀(h':Heap)(tk:Nat)(o':Obj),h'.get? s.heap.objs.size=some o'->J items.size o'->(∀b o,b<s.heap.objs.size->s.heap.get? b=some o->h'.get? b=some o)->Q (.ref s.heap.objs.size) { s with heap:=h',toks:=tk }) :
  wpAny (model P w) A (call (.type "set") [.ref l]) Q E s:=by
 obtain ⟨c,tl,hmro⟩:=F.called_set.mro;have hmade:=F.called_set.made;have hsub:=F.called_set.sub;apply wpAny_call;apply codeAny_of_tree;show wpAny _ _ (callAny (.type "set") _) _ _ _;refine wpAny_pure ⟨Code.quiet_builtin _ (by decide +kernel),?_⟩;apply codeAny_builtin F.entry_type_call;rw [Around.under_plain (weight_type_call_type "set" [.ref l] []) rfl];have h1:=F.called_set.notType;have h2:=F.called_set.canCreate;have hct:=F.typeCall_set_1 (.ref l)
 repeat (any_goals (first | assumption | wp_step))
 refine codeAny_mono (Zb1 (.ref l) (E:=E) (Q1:=λobj s1=>obj=.ref s.heap.objs.size/\s1={ s with heap:=s.heap.push (GB w) }) ⟨rfl,rfl⟩) λr s1 hr=>?_;cases r with
 | error e=>exact hr
 | ok fl=>
  cases fl with
  | ret obj=>
   obtain ⟨rfl,rfl⟩:=hr;have hS:(s.heap.push (GB w)).get? s.heap.objs.size=some (GB w):=Heap.get?_push_size _ rfl;have hT:Shared.TypeIs { s with heap:=s.heap.push (GB w) } (.ref s.heap.objs.size) "set" := ⟨_,hS,rfl⟩;have hli:=F.called_set.init.lookup;have hbi:=F.called_set.init.bind (.ref s.heap.objs.size)
   repeat (any_goals (first | assumption | wp_step))
   refine codeAny_mono (codeAny_call_builtin (R:=wants (λr s2=>r=.none/\∃(h':Heap)(tk:Nat)(o':Obj),s2={ s with heap:=h',toks:=tk }/\h'.get? s.heap.objs.size=some o'/\J items.size o' /\
     (∀b o,b<s.heap.objs.size->s.heap.get? b=some o->h'.get? b=some o)) E) F.called_set.init.plain F.entry_set_init (check_set_init_1 hT ?_)) λr2 s2 hr2=>?_
   ·obtain ⟨ol,hol,hcl,nl,hdl⟩:=hl;obtain ⟨ocls,odict,odata,oslots⟩:=ol;simp only at hcl hdl;subst hcl;subst hdl;have hol':(s.heap.push (GB w)).get? l=some { cls:=.type "list", dict:=odict,data:=.seq items nl,slots:=oslots }:=Heap.get?_push_of_some _ hol;have hsls:=F.sub_list_set;have hslf:=F.sub_list_frozenset;have hne:(Value.type "list" == Value.type "dict")=false:=by decide
    have hl1:(s.heap.push (GB w)).IsList l items:=⟨_,hol',rfl,nl,rfl⟩;have hS':(s.heap.push (GB w)).get? s.heap.objs.size=some { cls:=.type "set", dict:=none,data:=.set #[] 0 (.fresh 0 0 (!JR w)) }:=hS;unfold Builtin.«set.__init__» noKeywords Builtin.Frozenset.updateFrom;generalize hPI:pyIter=PI
    wp_walk
    subst hPI;apply wpAny_pyIter_list hl1;apply wpAny_bind;apply wpAny_runValue;have hlS:l<s.heap.objs.size:=Heap.lt_size hol;have hh3:A.in1.in1.in1.handled=none:=by simp [hh]
    have hz:(s.heap.push (GB w)).objs.size=s.heap.objs.size+1:=Heap.size_push ..;have hneI:l≠(s.heap.push (GB w)).objs.size:=by rw [hz];exact Nat.ne_of_lt (Nat.lt_succ_of_lt hlS)
    have hSf:s.heap.objs.size ∉ [(s.heap.push (GB w)).objs.size,l]:=by
     rw [hz];intro z;rcases List.mem_cons.mp z with z | z
     ·exact Nat.ne_of_lt (Nat.lt_succ_self _) z
     ·exact Nat.ne_of_gt hlS (List.mem_singleton.mp z)
    have kold:∀b o,b<s.heap.objs.size->s.heap.get? b=some o->((s.heap.push (GB w)).push { cls:=.type "list_iterator", data:=.fields #[.ref l,.int 0 0] }).get? b=some o:=
     λb o _ e=>Heap.get?_push_of_some _ (Heap.get?_push_of_some _ e)
    refine Zb2 ((Walks.list hh3 _ l hneI items).toS) s.heap.objs.size hSf J (λh'=>∀b o,b<s.heap.objs.size->s.heap.get? b=some o->h'.get? b=some o) ?_ ?_ (items.size-0) 0 _ (GB w) (by lia) (Nat.zero_le _)
     ⟨⟨_,Heap.get?_push_size _ rfl,rfl,rfl⟩,(hl1.push _)⟩ kold (Heap.get?_push_of_some _ hS) h0 ?_
    ·intro ha hb hab hst b o hlt e;refine hst b o ?_ (hab b o hlt e);intro z;rcases List.mem_cons.mp z with z | z
     ·exact Nat.ne_of_lt hlt z
     ·exact Nat.ne_of_lt (Nat.lt_succ_of_lt hlt) ((List.mem_singleton.mp z).trans hz)
    ·intro i v s1 o Q1 E1 hi hv kp ho hj hq;exact hadd i v s1 o Q1 E1 hi hv (hK0 _ kp) ho hj hq
    ·intro s' o' hm ho' hj';obtain ⟨h',g',d',tk',os'⟩:=s';have eg:g'=s.gens:=hm.gens;have ed:d'=s.drawn:=hm.drawn;have eo:os'=s.os:=hm.os;subst eg;subst ed;subst eo;apply wpAny_pure;refine wpAny_pure ⟨rfl,h',tk',o',rfl,ho',hj',λb o hb e=>?_⟩;refine hm.heap b o ?_ (Heap.get?_push_of_some _ (Heap.get?_push_of_some _ e));intro z;rcases List.mem_cons.mp z with z | z
     ·exact Nat.ne_of_lt hb z
     ·exact Nat.ne_of_lt (Nat.lt_succ_of_lt hb) ((List.mem_singleton.mp z).trans hz)
   ·cases r2 with
    | error e=>exact hr2
    | ok fl2=>
     cases fl2 with
     | ret r=>
      obtain ⟨rfl,h',tk,o',rfl,ho',hj',hk'⟩:=hr2
      repeat (any_goals (first | assumption | wp_step))
      exact h _ _ _ ho' hj' hk'
     | _=>exact hr2.elim
  | _=>exact hr.elim
end
end L2
namespace L2
open PySem PySem.Spec PyProof.Rows
theorem Zat {α:Type}(next:Nat->Nat):∀(jQ k:Nat)(left:List α)(out:Array α),left.length=jQ->(pickOrder.go next jQ k left out).toList.Perm (out.toList++left)
 | 0,k,left,out,h=>by
  have:left=[]:=List.length_eq_zero_iff.mp h;subst this;unfold pickOrder.go;simp
 | jQ+1,k,left,out,h=>by
  have hlt:next k % left.length<left.length:=Nat.mod_lt _ (by lia)
  unfold pickOrder.go;rw [List.getElem?_eq_getElem hlt];dsimp only;refine (Zat next jQ (k+1) _ _ (by rw [List.length_eraseIdx,if_pos hlt];lia)).trans ?_;rw [Array.toList_push];exact Ym left out.toList _ _ (List.getElem?_eq_getElem hlt)
theorem Zau {α:Type}(next:Nat->Nat)(xs:Array α):(pickOrder next xs).toList.Perm xs.toList:=by
 unfold pickOrder;have:=Zat next xs.size 0 xs.toList #[] (by simp)
 simpa using this
def O2 (t:SetTable):Nat->Nat
 | 0=>0
 | i+1=>t.place.getD i 0+1
theorem Zi {t:SetTable}(hr:Rise t.place){i:Nat}(hi:i<=t.place.size):SetTable.below t.place (O2 t i)=i:=by
 obtain ⟨b1,b2,b3⟩:=Uo (j:=O2 t i) hr;have lo:∀q a,q<i->t.place[q]?=some a->a<O2 t i:=λq a hq ha=>by
  cases i with
  | zero=>lia
  | succ i=>
   have hi':i<t.place.size:=by lia
   have e:t.place.getD i 0=t.place[i]:=by rw [Array.getD_eq_getD_getElem?,Array.getElem?_eq_getElem hi'];rfl
   show a<t.place.getD i 0+1;rw [e];by_cases hq':q=i
   ·subst hq';rw [Array.getElem?_eq_getElem hi'] at ha;cases ha;exact Nat.lt_succ_self _
   ·have:=hr.lt (show q<i by lia) ha (Array.getElem?_eq_getElem hi')
    lia
 have hi2:∀q a,i<=q->t.place[q]?=some a->O2 t i<=a:=λq a hq ha=>by
  cases i with
  | zero=>exact Nat.zero_le _
  | succ i=>
   have hi':i<t.place.size:=by lia
   have e:t.place.getD i 0=t.place[i]:=by rw [Array.getD_eq_getD_getElem?,Array.getElem?_eq_getElem hi'];rfl
   show t.place.getD i 0+1<=a;rw [e];exact hr.lt (show i<q by lia) (Array.getElem?_eq_getElem hi') ha
 rcases Nat.lt_trichotomy (SetTable.below t.place (O2 t i)) i with z | z | z
 ·have hs:SetTable.below t.place (O2 t i)<t.place.size:=by lia
  have h1:=lo _ _ z (Array.getElem?_eq_getElem hs);have h2:=b3 _ _ (Nat.le_refl _) (Array.getElem?_eq_getElem hs)
  lia
 ·exact z
 ·have hs:i<t.place.size:=by lia
  have h1:=hi2 _ _ (Nat.le_refl _) (Array.getElem?_eq_getElem hs);have h2:=b2 _ _ z (Array.getElem?_eq_getElem hs)
  lia
section
variable {P:PP}{w:Ab}{A:Around}{E:Aa->SS->Prop}{s:SS}
def SAt (w:Ab)(h:Heap)(a:AD)(es:Array (Int×Aa))(ep:Nat)(t:SetTable):Prop:=
 (∃o,h.get? a=some o/\o.ExactSet/\o.data=.set es ep t)/\SOk t es/\t.plain=true/\t.led=!JR w
def JD (w:Ab)(a:AD)(es:Array (Int×Aa))(ep:Nat):List (Int×Aa):=if JR w then (pickOrder (w.params.setOrder a ep) es).toList else es.toList
theorem Jh (a:AD)(es:Array (Int×Aa))(ep:Nat):(JD w a es ep).Perm es.toList:=by
 unfold JD;split
 ·exact Zau _ _
 ·exact .refl _
def UD (w:Ab)(t:SetTable)(i:Nat):Nat:=if JR w then 0 else O2 t i
def IsSetIter (w:Ab)(h:Heap)(it a:AD)(t:SetTable)(i n ep:Nat):Prop:=
 ∃o,h.get? it=some o/\o.cls=.type "set_iterator" /\ o.data=.fields #[.int (UD w t i) 0,.int i 0,.ref a,.int n 0,.int ep 0]
theorem IsSetIter.typeIs {it a:AD}{t:SetTable}{i n ep:Nat}(h:IsSetIter w s.heap it a t i n ep):s.TypeIs (.ref it) "set_iterator" := let ⟨o,h1,h2,_⟩:=h;⟨o,h1,h2⟩
theorem SAt.typeIs {a:AD}{es:Array (Int×Aa)}{ep:Nat}{t:SetTable}(h:SAt w s.heap a es ep t):s.TypeIs (.ref a) "set" := let ⟨⟨o,h1,h2,_⟩,_⟩:=h;⟨o,h1,h2.1⟩
theorem VE {a:AD}{es:Array (Int×Aa)}{ep:Nat}{t:SetTable}{Q:Array (Int×Aa)->SS->Prop}(h:SAt w s.heap a es ep t)(hq:∀r:Array (Int×Aa),r.toList=JD w a es ep->Q r s) :
  wpAny (model P w) A (setWalk a) Q E s:=by
 obtain ⟨⟨o,ho,hx,hd⟩,S,hpl,hled⟩:=h;unfold setWalk;apply wpAny_bind;apply wpAny_setState_of ho hd S.fits;dsimp only;apply wpAny_bind;apply Of;unfold JD at hq;cases hb:JR w with
 | true=>
  rw [hb] at hq;rw [if_pos rfl];apply wpAny_bind;apply wpAny_askSetting;exact wpAny_pure (hq _ rfl)
 | false=>
  rw [hb] at hq hled;rw [if_neg Bool.false_ne_true];have e1:(!t.plain && decide (es.size > 1))=false:=by rw [hpl];rfl
  show wpAny _ _ (if (!t.plain && decide (es.size > 1))=true then _ else _) _ _ s;rw [e1,if_neg Bool.false_ne_true];apply wpAny_bind;show wpAny _ _ (if (!t.led && decide (es.size > 1))=true then _ else _) _ _ s;have e2:(!t.led && decide (es.size > 1))=false:=by rw [hled];rfl
  rw [e2,if_neg Bool.false_ne_true];apply wpAny_pure;exact wpAny_pure (hq es rfl)
theorem VF {a:AD}{es:Array (Int×Aa)}{ep i:Nat}{t:SetTable}{Q:Option (Aa×Nat)->SS->Prop}(h:SAt w s.heap a es ep t)(hi:i<=es.size)(hq:Q (((JD w a es ep)[i]?).map λe=>(e.2,UD w t (i+1))) s):wpAny (model P w) A (setNext a (UD w t i) i ep) Q E s:=by
 obtain ⟨⟨o,ho,hx,hd⟩,S,hpl,hled⟩:=id h;have qV:t.place.size=es.size:=by rw [S.T.len,J3]
 unfold setNext;apply wpAny_bind;apply wpAny_setState_of ho hd S.fits;dsimp only;apply wpAny_bind;apply Of;cases hb:JR w with
 | true=>
  rw [if_pos rfl,if_neg (by simp)];apply wpAny_bind;refine VE h λr hr=>?_;refine wpAny_pure ?_;have e0:∀k,UD w t k=0:=λk=>by unfold UD;rw [hb];rfl
  rw [e0] at hq ⊢;rw [<-Array.getElem?_toList,hr];exact hq
 | false=>
  rw [hb] at hled;rw [if_neg Bool.false_ne_true];have e1:(!t.plain && decide (es.size > 1))=false:=by rw [hpl];rfl
  show wpAny _ _ (if (!t.plain && decide (es.size > 1))=true then _ else _) _ _ s;rw [e1,if_neg Bool.false_ne_true];apply wpAny_bind;show wpAny _ _ (if (!t.led && !es.isEmpty)=true then _ else _) _ _ s;have e2:(!t.led && !es.isEmpty)=false:=by rw [hled];rfl
  rw [e2,if_neg Bool.false_ne_true];apply wpAny_pure;have e3:∀k,UD w t k=O2 t k:=λk=>by unfold UD;rw [hb];rfl
  rw [e3] at hq ⊢;rw [Zi S.T.rise (by lia)];have e4:JD w a es ep=es.toList:=by unfold JD;rw [hb];rfl
  rw [e4,Array.getElem?_toList] at hq;by_cases hlt:i<es.size
  ·rw [Array.getElem?_eq_getElem hlt] at hq ⊢;have hp:i<t.place.size:=by lia
   rw [Array.getElem?_eq_getElem hp];have e5:O2 t (i+1)=t.place[i]+1:=by
    show t.place.getD i 0+1=_;rw [Array.getD_eq_getD_getElem?,Array.getElem?_eq_getElem hp]
    rfl
   rw [e5] at hq;exact wpAny_pure hq
  ·rw [Array.getElem?_eq_none (by lia)] at hq ⊢;exact wpAny_pure hq
theorem SAt.ext {h h':Heap}{a:AD}{es:Array (Int×Aa)}{ep:Nat}{t:SetTable}(x:SAt w h a es ep t)(k:∀o,h.get? a=some o->h'.get? a=some o):SAt w h' a es ep t:=
 let ⟨⟨o,h1,h2⟩,r⟩:=x;⟨⟨o,k _ h1,h2⟩,r⟩
theorem IsSetIter.ext {h h':Heap}{it a:AD}{t:SetTable}{i n ep:Nat}(x:IsSetIter w h it a t i n ep)(k:∀o,h.get? it=some o->h'.get? it=some o):IsSetIter w h' it a t i n ep:=
 let ⟨o,h1,h2⟩:=x;⟨o,k _ h1,h2⟩
theorem XI {it a:AD}{es:Array (Int×Aa)}{ep i:Nat}{t:SetTable}{e:Int×Aa}{Q:Option Aa->SS->Prop}(hit:IsSetIter w s.heap it a t i es.size ep)(hs:SAt w s.heap a es ep t)(he:(JD w a es ep)[i]?=some e)(hne:a≠it)(hq:∀h':Heap,IsSetIter w h' it a t (i+1) es.size ep->Heap.SameBut it s.heap h'->Q (some e.2) { s with heap:=h' }) :
  wpAny (model P w) A (pyNext (.ref it)) Q E s:=by
 obtain ⟨o,ho,hc,hd⟩:=id hit;obtain ⟨⟨oa,hoa,hxa,hda⟩,S,hpl,hled⟩:=id hs;have hwl:(JD w a es ep).length=es.size:=by rw [(Jh a es ep).length_eq,Array.length_toList]
 have hi:i<es.size:=by
  have:=(List.getElem?_eq_some_iff.mp he).1
  lia
 unfold pyNext;apply wpAny_bind;apply wpAny_attempt;refine wpAny_callSpecial?_slot (name:=Str.ofString "__next__") hit.typeIs sit_slot_next (wpAny_call_entry sit_slot_next hit.typeIs OE ?_ (O0 _));unfold Builtin.«set_iterator.__next__»;apply wpAny_bind;apply wpAny_pure;apply wpAny_bind;apply wpAny_fieldsOf ho hd;dsimp only;apply wpAny_bind;apply wpAny_setEntries_of hoa hda S.fits;rw [if_neg (by simp)];apply wpAny_bind;have hn:=λE1=>VF (P:=P) (A:=A.in1) (E:=E1) (s:=s) (i:=i) hs (Nat.le_of_lt hi) (Q:=λr s1=>r=some (e.2,UD w t (i+1))/\s1=s) ⟨by rw [he];rfl,rfl⟩;refine wpAny_mono (by simpa using hn _) (λr s1 hr=>?_) λ_ _ x=>x;obtain ⟨rfl,rfl⟩:=hr;dsimp only;apply wpAny_bind;apply wpAny_setField ho hd (by simp);have ho2:=Heap.get?_update_self (Obj.mapFields (·.setIfInBounds 0 (rawInt ((UD w t (i+1):Nat):Int)))) ho (Obj.isFreed_of_fields (Obj.data_mapFields hd _));have hd2:=Obj.data_mapFields hd (·.setIfInBounds 0 (rawInt ((UD w t (i+1):Nat):Int)));apply wpAny_bind;apply wpAny_setField ho2 hd2 (by simp);refine wpAny_pure ⟨_,rfl,wpAny_pure (hq _ ⟨_,Heap.get?_update_self _ ho2 (Obj.isFreed_of_fields (Obj.data_mapFields hd2 _)),?_,?_⟩ ((Heap.SameBut.update ..).trans (Heap.SameBut.update ..)))⟩
 ·rw [Obj.cls_mapFields,Obj.cls_mapFields];exact hc
 ·rw [Obj.data_mapFields hd2];simp [rawInt]
theorem Zj {it a:AD}{es:Array (Int×Aa)}{ep:Nat}{t:SetTable}{Q:Option Aa->SS->Prop}(hh:A.handled=none)(hit:IsSetIter w s.heap it a t es.size es.size ep)(hs:SAt w s.heap a es ep t)(hq:∀h':Heap,Heap.ExtBut it s.heap h'->Q none { s with heap:=h' }):wpAny (model P w) A (pyNext (.ref it)) Q E s:=by
 obtain ⟨o,ho,hc,hd⟩:=id hit;obtain ⟨⟨oa,hoa,hxa,hda⟩,S,hpl,hled⟩:=id hs;have hwl:(JD w a es ep).length=es.size:=by rw [(Jh a es ep).length_eq,Array.length_toList]
 unfold pyNext;apply wpAny_bind;apply wpAny_attempt;refine wpAny_callSpecial?_slot (name:=Str.ofString "__next__") hit.typeIs sit_slot_next (wpAny_call_entry sit_slot_next hit.typeIs OE ?_ (O0 _));unfold Builtin.«set_iterator.__next__»;apply wpAny_bind;apply wpAny_pure;apply wpAny_bind;apply wpAny_fieldsOf ho hd;dsimp only;apply wpAny_bind;apply wpAny_setEntries_of hoa hda S.fits;rw [if_neg (by simp)];apply wpAny_bind;have hn:=λE1=>VF (P:=P) (A:=A.in1) (E:=E1) (s:=s) (i:=es.size) hs (Nat.le_refl _) (Q:=λr s1=>r=none/\s1=s) ⟨by rw [List.getElem?_eq_none (by lia)];rfl,rfl⟩;refine wpAny_mono (by simpa using hn _) (λr s1 hr=>?_) λ_ _ x=>x;obtain ⟨rfl,rfl⟩:=hr;dsimp only;apply wpAny_bind;apply wpAny_setField ho hd (by simp);apply wpAny_bind;simp only [newExc,newTuple];apply wpAny_bind;refine wpAny_newObj_type ?_ (by size_fits);refine wpAny_bind (m:=firstArgMember _ _) (wpAny_of_eq (a:=Value.none) (by first | (simp only [firstArgMember];rfl) | rfl) ?_);refine wpAny_newObj_type ?_ (by size_fits);simp only [raiseNew];apply wpAny_bind;apply wpAny_handled;rw [show A.in1.handled=none from hh];refine wpAny_throw ?_;apply wpAny_bind;refine wpAny_isInstance (b:=true) (T := "StopIteration") ⟨_,Heap.get?_push_size _ rfl,rfl⟩ isSubtype_stop ?_;exact wpAny_pure (hq _ (((Heap.SameBut.update ..).extBut.push _).push _))
end
end L2
namespace L2
open PySem PySem.Spec PyProof.Rows
section
variable {P:PP}{w:Ab}{A:Around}{E:Aa->SS->Prop}{s:SS}
theorem Zk {a:AD}{es:Array (Int×Aa)}{ep:Nat}{t:SetTable}{Q:Aa->SS->Prop}(h:SAt w s.heap a es ep t)(hq:Q (.ref s.heap.objs.size) { s with heap:=s.heap.push { cls:=.type "set_iterator", data:=.fields #[.int 0 0,.int 0 0,.ref a,.int es.size 0,.int ep 0] } }):wpAny (model P w) A (pyIter (.ref a)) Q E s:=by
 obtain ⟨⟨o,ho,hx,hd⟩,S,hpl,hled⟩:=id h;refine wpAny_pyIter_slot h.typeIs F.slot_set_iter (wpAny_call_entry F.slot_set_iter h.typeIs Vs ?_ (F.args_set_iter_1 _));unfold Builtin.«frozenset.__iter__»;apply wpAny_bind;refine wpAny_pure ?_;apply wpAny_bind;unfold Builtin.Frozenset.sizeOf;apply wpAny_bind;apply wpAny_setEntries_of ho hd S.fits;apply wpAny_pure;apply wpAny_bind;apply wpAny_bind;apply wpAny_setState_of ho hd S.fits;dsimp only;apply wpAny_bind;apply Of;apply wpAny_pure;have e1:(!JR w && (!t.plain && decide (es.size > 1)))=false:=by rw [hpl];simp
 show wpAny _ _ (if (!JR w && (!t.plain && decide (es.size > 1)))=true then _ else _) _ _ _;rw [e1,if_neg Bool.false_ne_true];apply wpAny_bind;apply wpAny_pure;apply wpAny_bind;apply wpAny_setEpoch_of ho hd S.fits;apply wpAny_bind;refine wpAny_newObj_type (wpAny_pure ⟨_,rfl, "set_iterator", _,⟨_,Heap.get?_push_size _ rfl,rfl⟩,sit_slot_next.lookup,?_⟩);simpa [rawInt] using hq
theorem Zb3 {r:AD}{Q:Bool->SS->Prop}(hT:s.TypeIs (.ref r) "set")(h:Q false s):wpAny (model P w) A (Builtin.List.listLengthHint (.ref r)) Q E s:=by
 unfold Builtin.List.listLengthHint;apply wpAny_bind;refine wpAny_specialOf hT F.slot_set_len.lookup ?_;generalize hid:("set.__len__" : String)=nm
 wp_delta
 rw [show splitId nm=some ("set", "__len__") from by subst hid;decide +kernel];subst hid;apply wpAny_bind;refine wpAny_isInstance (T := "set") (b:=true) hT (by rw [isSubtype_type];kernel_rfl) ?_;refine wpAny_ite_split (λz=>absurd z (by decide)) λ_=>?_;refine wpAny_ite_split (λ_=>?_) λz=>absurd (by decide +kernel) z;apply wpAny_bind;apply wpAny_typeOf hT;exact wpAny_pure h
theorem ZdL {a:AD}{es:Array (Int×Aa)}{ep:Nat}{t:SetTable}:W.KdlSrc P w "set" a a es.size (λi v=>∃e,(JD w a es ep)[i]?=some e/\v=e.2) (λh=>SAt w h a es ep t) where
 type:=λ_ h=>h.typeIs
 there:=λ_ h=>by
  obtain ⟨⟨o,ho,_⟩,_⟩:=h;exact ⟨Heap.lt_size ho,Heap.lt_size ho⟩
 keep:=λ_ _ h k=>h.ext λo e=>k a (.inl rfl) o e
 notList:=by decide
 notTuple:=by decide
 hint:=λ_ _ _ _ h q=>Zb3 h.typeIs q
 iter:=λA s hh h=>by
  have hlt:a<s.heap.objs.size:=by
   obtain ⟨⟨o,ho,_⟩,_⟩:=h;exact Heap.lt_size ho
  have hwl:(JD w a es ep).length=es.size:=by rw [(Jh a es ep).length_eq,Array.length_toList]
  refine ⟨{ cls:=.type "set_iterator", data:=.fields #[.int 0 0,.int 0 0,.ref a,.int es.size 0,.int ep 0] },λi h'=>IsSetIter w h' s.heap.objs.size a t i es.size ep/\SAt w h' a es ep t,λ_ _ q=>Zk h q,?_,?_⟩
  ·refine ⟨λb hb=>?_,λi h1 h2 st k=>⟨st.1.ext λo e=>k _ (by simp) o e,st.2.ext λo e=>k a (by simp) o e⟩,λi s1 Q E hi st hq=>?_,λs1 Q E st hq=>?_,λi s1 Q E st hq=>?_⟩
   ·rw [List.mem_singleton.mp hb];exact List.mem_cons_self
   ·have he:(JD w a es ep)[i]?=some (JD w a es ep)[i]:=List.getElem?_eq_getElem (by lia);refine XI st.1 st.2 he (Nat.ne_of_lt hlt) λh' hi' sb=>?_;refine hq _ h' s1.toks ⟨_,he,rfl⟩ ⟨hi',st.2.ext λo e=>?_⟩ λb o hb e=>?_
    ·rw [sb.2 a (Nat.ne_of_lt hlt)];exact e
    ·rw [sb.2 b (λz=>hb (by rw [z];exact List.mem_cons_self))];exact e
   ·refine Zj hh st.1 st.2 λh' he=>hq h' s1.toks λb o hb e=>he b o (λz=>hb (by rw [z];exact List.mem_cons_self)) e
   ·refine wpAny_pyIter_slot st.1.typeIs OZ (wpAny_call_entry OZ st.1.typeIs (b:=Builtin.«dict_keyiterator.__iter__») ?_ ?_ ?_)
    ·exact entryFor_alias (id' := "dict_keyiterator.__iter__") (by kernel_rfl) rfl (by decide +kernel) (by kernel_rfl)
    ·show wpAny _ _ (ret (Value.ref s.heap.objs.size)) _ _ s1;exact wpAny_pure ⟨_,rfl, "set_iterator", _,st.1.typeIs,sit_slot_next.lookup,hq⟩
    ·unfold argsOk;kernel_rfl
  ·refine ⟨⟨_,Heap.get?_push_size _ rfl,rfl,?_⟩,h.ext λo e=>Heap.get?_push_of_some _ e⟩;have:UD w t 0=0:=by unfold UD;split <;> rfl
   rw [this]
   rfl
end
def V9 (P:PP)(w:Ab)(a:AD)(ms:LI):HO:=.ext λh=>∃o σ,h.get? a=some o/\SetI P w o σ/\σ.Perm ms
theorem Zav {P:PP}{w:Ab}{H:Hp}{h:Heap}{a:AD}{ms σ:LI}{o:Obj}(ho:h.get? a=some o)(hs:SetI P w o σ)(hp:σ.Perm ms):ObjOk P w H h a (V9 P w a ms):=
 ⟨⟨o,σ,ho,hs,hp⟩,⟨o,ho⟩,λh1 h2 ⟨o',σ',e,s',p'⟩ k=>⟨o',σ',k _ e,s',p'⟩⟩
theorem SetI.at_ {P:PP}{w:Ab}{o:Obj}{σ:LI}(h:SetI P w o σ){a:AD}{hp:Heap}(ho:hp.get? a=some o):∃es ep t,SAt w hp a es ep t/\Paired (Xw P w) es.toList σ/\σ.Nodup:=by
 obtain ⟨es,ep,t,h1,h2,h3,h4,h5,h6,h7⟩:=h;exact ⟨es,ep,t,⟨⟨o,ho,h1,h2⟩,h5,h6,h7⟩,h3,h4⟩
theorem Wa {α:Type}{l:List α}{i:Nat}{x y:α}(h:l[i]?=some x):y∈l.take (i+1)↔y∈l.take i\/y=x:=by
 rw [List.take_succ,h];simp
section
variable {X:Cx}(K:FF)
theorem Zgb (hc:X.calm=true)(h:X.K=K:=by rfl):Jt X (.type "set") (λxs H Q=>∃(p:AD)(ns:LI),xs=[.ref p]/\SqL K H p (ns.map V.int)/\ns.length<=1228 /\
  ∀(l:AD)(ms:LI),H l=none->ms.Nodup->(∀k,k∈ms↔k∈ns)->Q (.ref l) (upd H l (V9 X.prog X.w l ms))):=by
 subst h;intro qQ s σ H xs us Q I rv h;obtain ⟨p,ns,rfl,hq,hn,q⟩:=h;obtain ⟨u,rfl,ru⟩:=rv.one;cases ru;obtain ⟨its,r,pl,hz⟩:=I.list hq;have hl:=r.length;rw [List.length_map] at hl;have es:its.toArray.size=ns.length:=by rw [List.size_toArray];exact hl.symm
 refine Zas (I.ok.hd hc) pl.isList (λi o=>∃ τ,SetI X.prog X.w o τ/\τ.length<=i/\∀k,k∈τ↔k∈ns.take i) (λ_=>True) ⟨[],YB _ _,Nat.le_refl _,λk=>by simp⟩ (λ_ _=>trivial) ?_ ?_
 ·intro i v s1 o Q1 E1 hi hv _ ho ⟨τ,hτ,hle,hm⟩ hq1;have hi':i<ns.length:=by lia
  have hv':its[i]?=some v:=by rw [List.getElem?_toArray] at hv;exact hv
  obtain ⟨u,eu,ru⟩:=r.get (i:=i) (x:=.int ns[i]) (by rw [List.getElem?_map,List.getElem?_eq_getElem hi'];rfl);rw [hv'] at eu;cases eu;obtain ⟨tk,rfl⟩:=ru;unfold setAdd;apply wpAny_holding;apply wpAny_bind;refine (intKind X.prog X.w).pyHash (k:=ns[i]) (intKind_is _ _ _ _) ?_;refine Zar (s:={ s1 with toks:=s1.toks+1 }) ho hτ (by lia) λb h' o' τ' sb ho' hτ' hp=>?_;refine hq1 b h' _ o' (Nat.le_succ _) sb ho' ⟨τ',hτ',?_,λk=>?_⟩
  ·rw [hp.length_eq];split
   ·lia
   ·rw [List.length_append,List.length_singleton];lia
  ·rw [hp.mem_iff,Wa (List.getElem?_eq_getElem hi')];split
   ·rename_i hin;rw [hm k];constructor
    ·exact .inl
    ·rintro (z | rfl)
     ·exact z
     ·exact (hm _).mp hin
   ·rw [List.mem_append,hm k,List.mem_singleton]
 ·intro h' tk o' ho' ⟨τ,hτ,hle,hm⟩ hk;rw [es] at hm;have hnd:τ.Nodup:=by obtain ⟨_,_,_,_,_,_,z,_⟩:=hτ;exact z
  exact ⟨.ref _,_,I.laid (o:=V9 X.prog X.w s.heap.objs.size τ) (λb o e=>hk b o (Heap.lt_size e) e) (Nat.le_refl _) (Zav ho' hτ (.refl _)),rfl,q _ τ I.fresh hnd (λk=>by rw [hm k,List.take_length])⟩
theorem Zb4 (hc:X.calm=true):Jt X (.builtin "sorted") (λxs H Q=>∃(p:AD)(ms:LI),xs=[.ref p]/\H p=some (V9 X.prog X.w p ms)/\ms.length<64 /\
  ∀(l:AD)(ns':LI),H l=none->ns'.Perm ms->ns'.Pairwise (· <= ·)->Q (.ref l) (upd H l (.lst (ns'.map V.int)))):=by
 intro qQ s σ H xs us Q I rv h;obtain ⟨p,ms,rfl,hp,h64,q⟩:=h;obtain ⟨u,rfl,ru⟩:=rv.one;cases ru;obtain ⟨⟨o,τ,ho,hτ,hperm⟩,_⟩:=I.hok p _ hp;obtain ⟨es,ep,t,hat,hE,hnd⟩:=hτ.at_ ho;have h16:(16777216:Nat)=sizeLine:=sizeLine_eq.symm;have qV:=Paired.length hE;rw [Array.length_toList] at qV;have hml:=hperm.length_eq;have hh:X.A.in1.handled=none:=I.ok.hd hc;obtain ⟨ρ,hE2,hp2⟩:=O1 (Jh (w:=X.w) p es ep) hE;refine Calls.call_function_entry kind_sorted plain_sorted entry_sorted (args_sorted1 _) ?_;unfold Builtin.«sorted»;apply wpAny_bind (m:=checkCount "sorted" 1 1 _);apply wpAny_pure;apply wpAny_bind;refine W.kdu_collect (ZdL (P:=X.prog) (es:=es) (ep:=ep) (t:=t)) hh hat (by lia) λh' tk acc hk' hacc=>?_;have hal:acc.toList.length=es.size:=by rw [Array.length_toList];exact hacc.1
 have hI:IntsAre acc.toList ρ:=by
  have hρ:=Paired.length hE2;rw [(Jh (w:=X.w) p es ep).length_eq,Array.length_toList] at hρ;refine Jv (VU (by rw [List.length_map];lia) λi x u e1 e2=>?_);rw [Array.getElem?_toList] at e2;obtain ⟨e,e3,e4⟩:=hacc.2 i u e2;rw [List.getElem?_map] at e1;have pg:∀{l:List (Int×Aa)}{τ:LI},Paired (Xw X.prog X.w) l τ->∀(i:Nat)(e:Int×Aa),l[i]?=some e->∃n,τ[i]?=some n/\Xw X.prog X.w e n:=by
   intro l τ hh'
   induction hh' with
   | nil=>intro i e z;simp at z
   | cons h0 _ ih=>
    intro i e z;cases i with
    | zero=>simp at z;subst z;exact ⟨_,rfl,h0⟩
    | succ i=>exact ih i e (by simpa using z)
  obtain ⟨n,e5,_,tk',e6⟩:=pg hE2 i e e3;rw [e5] at e1;cases e1;exact ⟨tk',by rw [e4,e6]⟩
 apply wpAny_bind;refine wpAny_newList ?_ (by rw [hal];lia);have hoL:(h'.push (seqObj "list" acc.toList.toArray 0)).get? h'.objs.size=some (seqObj "list" acc.toList.toArray 0):=Heap.get?_push_size _ rfl;apply wpAny_bind;apply wpAny_holding;refine wpAny_call_entry slot_list_sort ⟨_,hoL,rfl⟩ entry_list_sort (list_sort_tree hoL hI (by lia) λout ns' a1 a2 a3=>⟨_,rfl,?_⟩) (args_list_sort _);refine wpAny_pure ⟨_,rfl,?_⟩;obtain ⟨e,he⟩:=sortedHeap_at (out:=out) hoL;have hkeep:∀b o,s.heap.get? b=some o->(sortedHeap (h'.push (seqObj "list" acc.toList.toArray 0)) h'.objs.size acc.toList out).get? b=some o:=λb o e=>by
  have e':=hk' b o e;have hb:=Heap.lt_size e';rw [sortedHeap_old (Nat.ne_of_lt hb) (by rw [Heap.size_push];exact Nat.lt_succ_of_lt hb)];exact Heap.get?_push_of_some _ e'
 have hpm:ns'.Perm ms:=a2.trans (hp2.trans hperm);have hl':(ns'.map V.int).length<=sizeLine:=by rw [List.length_map,hpm.length_eq];lia
 have hn:H h'.objs.size=none:=by
  cases zz:H h'.objs.size with
  | none=>rfl
  | some o=>
   obtain ⟨x,ex⟩:∃x,s.heap.get? h'.objs.size=some x:=(I.hok _ _ zz).there;exact absurd (Heap.lt_size (hk' _ _ ex)) (Nat.lt_irrefl _)
 have sm:Same H (upd H h'.objs.size (.lst (ns'.map V.int))):=Same.new hn;refine ⟨.ref h'.objs.size,upd H h'.objs.size (.lst (ns'.map V.int)),I.un (t':=tk) ⟨λb o e _ _ _=>hkeep b o e,λb o e _ _ _=>⟨o.slots,hkeep b o e⟩,λb o e n _=>?_,λb o e _=>⟨o,hkeep b o e⟩,λb ys e=>sm _ _ e,λb o u e=>sm _ _ e,λb ps e=>⟨#[],by rw [sm _ _ e];simp⟩⟩ (λb o e'=>?_),rfl,q _ ns' hn hpm a3⟩
 ·rw [Gu (Nat.ne_of_lt (Heap.lt_size (hk' b o e)))];exact n
 ·by_cases hb:b=h'.objs.size
  ·subst hb;rw [Gb] at e';cases e';exact ⟨hl',out.toList,e,OT a1,he⟩
  ·rw [Gu hb] at e';exact (I.hok b o e').stay (λc v _ x=>hkeep c v x) (λd x=>sm _ _ x) λd ys x=>sm _ _ x
end
end L2
namespace L2
open PySem PySem.Spec PyProof.Rows
section
variable {P:PP}{w:Ab}{A:Around}{E:Aa->SS->Prop}{s:SS}
theorem SetI.setOf {o:Obj}{σ:LI}(h:SetI P w o σ){a:AD}{hp:Heap}(ho:hp.get? a=some o):hp.SetOf (intKind P w) a (λk=>decide (k∈σ)) σ.length:=by
 obtain ⟨es,ep,t,h1,h2,h3,h4,h5,h6,h7⟩:=h;have qV:=Paired.length h3;rw [Array.length_toList] at qV;have hsm:es.size<=1228:=by
  have:=h5.room;rcases h5.T.mask with z | z | z | z | z <;> lia
 have h4096:scanBound=4096:=rfl;exact ⟨o,es,ep,t,ho,h1,h2,Up h3,λk=>by rw [decide_eq_true_eq];exact UL h3 k,by lia,h5.fits,qV⟩
theorem Wb {a:AD}{Q:Bool->SS->Prop}(hT:s.TypeIs (.ref a) "set")(h:Q true s):wpAny (model P w) A (Builtin.Frozenset.isAnySet (.ref a)) Q E s:=by
 unfold Builtin.Frozenset.isAnySet;show wpAny _ _ (isInstance (.ref a) (.type "set") >>= _) _ _ s;apply wpAny_bind;refine wpAny_isInstance (b:=true) hT sub_set_self ?_;exact wpAny_pure h
theorem Wd {a:AD}{es:Array (Int×Aa)}{ep:Nat}{t:SetTable}{oth:List AD}{fl:Option AD}{Q:Array (Int×Aa)->SS->Prop}(h:SAt w s.heap a es ep t)(hq:∀r:Array (Int×Aa),r.toList=JD w a es ep->Q r s) :
  wpAny (model P w) A (setWalkUnseen a oth fl) Q E s:=by
 obtain ⟨⟨o,ho,hx,hd⟩,S,hpl,hled⟩:=id h;unfold setWalkUnseen;apply wpAny_bind;apply wpAny_setState_of ho hd S.fits;dsimp only;apply wpAny_bind;apply Of;have e1:(JR w || (t.led && t.plain) || decide (es.size<=1))=true:=by rw [hpl,hled];cases JR w <;> rfl
 rw [e1,if_pos rfl];exact VE h hq
theorem Zb5 {a b:AD}{oa ob:Obj}{σ τ:LI}{nm:String}{Q:Aa->SS->Prop}(hab:b≠a)(ha:s.heap.get? a=some oa)(hσ:SetI P w oa σ)(hb:s.heap.get? b=some ob)(hτ:SetI P w ob τ)(hq:∀(h':Heap)(o':Obj)(ρ:LI),(∀c o,c<s.heap.objs.size->s.heap.get? c=some o->h'.get? c=some o)->h'.get? s.heap.objs.size=some o'->SetI P w o' ρ->(∀k,k∈ρ↔k∈σ/\k∈τ)->Q (.ref s.heap.objs.size) { s with heap:=h' }) :
  wpAny (model P w) A (Builtin.Frozenset.intersection nm a (.ref b)) Q E s:=by
 have hTa:s.TypeIs (.ref a) "set" := (hσ.at_ ha).elim λes h=>h.elim λep h=>h.elim λt h=>h.1.typeIs;have hbn:(Value.ref b == Value.ref a)=false:=by
  cases q:(Value.ref b == Value.ref a) with
  | false=>rfl
  | true=>have:=eq_of_beq q;injection this with z;exact absurd z hab
 unfold Builtin.Frozenset.intersection;rw [hbn,if_neg Bool.false_ne_true];apply wpAny_bind;unfold Builtin.Frozenset.baseOf;apply wpAny_bind;refine wpAny_isInstance (b:=true) hTa sub_set_self ?_;rw [if_pos rfl];apply wpAny_pure;apply wpAny_bind;unfold newSet;apply wpAny_bind;apply Of;dsimp only;simp only [newObj];apply wpAny_bind;apply wpAny_alloc;apply wpAny_pure;show wpAny _ _ _ _ _ { s with heap:=s.heap.push (GB w) };apply wpAny_bind;apply wpAny_pure;have hS:(s.heap.push (GB w)).get? s.heap.objs.size=some (GB w):=Heap.get?_push_size _ rfl;have ka:(s.heap.push (GB w)).get? a=some oa:=Heap.get?_push_of_some _ ha;have kb:(s.heap.push (GB w)).get? b=some ob:=Heap.get?_push_of_some _ hb;have hla:=Heap.lt_size ha;have hlb:=Heap.lt_size hb;apply wpAny_bind;apply wpAny_holding;apply wpAny_bind;apply Wb ((hτ.at_ kb).elim λes h=>h.elim λep h=>h.elim λt h=>h.1.typeIs);rw [if_pos rfl];apply wpAny_bind;apply wpAny_pure;apply wpAny_bind;obtain ⟨es2,ep2,t2,at2,hE2,hn2⟩:=hτ.at_ kb;obtain ⟨es1,ep1,t1,at1,hE1,hn1⟩:=hσ.at_ ka;obtain ⟨⟨o2,ho2,hx2,hd2⟩,S2,_⟩:=id at2;obtain ⟨⟨o1,ho1,hx1,hd1⟩,S1,_⟩:=id at1;unfold Builtin.Frozenset.sizeOf;apply wpAny_bind;apply wpAny_setEntries_of ho2 hd2 S2.fits;apply wpAny_pure;apply wpAny_bind;apply wpAny_bind;apply wpAny_setEntries_of ho1 hd1 S1.fits;apply wpAny_pure;have key:∀(c d:AD)(oc:Obj)(γ δ:LI)(esd:Array (Int×Aa))(epd:Nat)(td:SetTable),c<s.heap.objs.size->d<s.heap.objs.size->(s.heap.push (GB w)).get? c=some oc->SetI P w oc γ ->
   SAt w (s.heap.push (GB w)) d esd epd td->Paired (Xw P w) esd.toList δ->(∀k,k∈δ/\k∈γ↔k∈σ/\k∈τ) ->
   wpAny (model P w) A (do
    let was <- setEpoch d
    let l <- setWalkUnseen d [c,s.heap.objs.size] (some s.heap.objs.size)
    forIn l PUnit.unit λx _=>do
     holding [x.snd] do
      let f <- setFind c x.snd x.fst
      if f.isSome=true then do
       let _ <- setAddHashed s.heap.objs.size x.snd x.fst
       pure ()
      else pure ()
     Builtin.Frozenset.unchanged nm d was
     pure (ForInStep.yield PUnit.unit)
    pure ()) (λ_ s'=>wpAny (model P w) A (pure (Value.ref s.heap.objs.size)) Q E s') E { s with heap:=s.heap.push (GB w) }:=by
  intro c d oc γ δ esd epd td hlc hld hoc hγ hatd hEd hmem;obtain ⟨⟨od,hod,hxd,hdd⟩,Sd,_⟩:=id hatd;apply wpAny_bind;refine wpAny_setEpoch_of hod hdd Sd.fits ?_;apply wpAny_bind;refine Wd hatd λl hl=>?_;apply wpAny_bind;rw [<-Array.forIn_toList,hl];obtain ⟨ε,hEε,hpε⟩:=O1 (Jh (w:=w) d esd epd) hEd;have hεl:ε.length<=1228:=by
   have h1:=Paired.length hEd;have h2:=hpε.length_eq;have h3:=Sd.room;rw [Array.length_toList] at h1;rcases Sd.T.mask with z | z | z | z | z <;> lia
  refine wpAny_forIn_list _ (λrest _ s1=>∃(h1:Heap)(o1:Obj)(ρ dn rs:LI),s1={ s with heap:=h1 }/\(∀e o,e<s.heap.objs.size->s.heap.get? e=some o->h1.get? e=some o)/\h1.get? s.heap.objs.size=some o1/\SetI P w o1 ρ /\
   Paired (Xw P w) rest rs/\dn++rs=ε/\ρ.length<=dn.length/\∀k,k∈ρ↔k∈dn/\k∈γ) _ ?_ ?_ _ _ ⟨s.heap.push (GB w),GB w,[],[],ε,rfl,λe o _ z=>Heap.get?_push_of_some _ z,hS,YB _ _,hEε,rfl,Nat.le_refl _,λk=>by simp⟩
  ·rintro x rest _ s1 ⟨h1,o1,ρ,dn,rs,rfl,keep,hS1,hρ,hEr,hdn,hle,hm⟩;cases hEr with
   | @cons _ n _ rs' hx hEr'=>
    obtain ⟨hx1,tk,hx2⟩:=hx;have hln:dn.length+1<=1228:=by
     have:=congrArg List.length hdn;rw [List.length_append,List.length_cons] at this
     lia
    have hoc1:h1.get? c=some oc:=by
     cases q:s.heap.get? c with
     | none=>
      have hne:c≠s.heap.objs.size:=Nat.ne_of_lt hlc;rw [Heap.get?_push_ne _ _ _ hne,q] at hoc;cases hoc
     | some o'=>
      have e1:=Heap.get?_push_of_some (GB w) q;rw [hoc] at e1;cases e1;exact keep c oc hlc q
    have hod1:h1.get? d=some od:=by
     cases q:s.heap.get? d with
     | none=>
      have hne:d≠s.heap.objs.size:=Nat.ne_of_lt hld;rw [Heap.get?_push_ne _ _ _ hne,q] at hod;cases hod
     | some o'=>
      have e1:=Heap.get?_push_of_some (GB w) q;rw [hod] at e1;cases e1;exact keep d od hld q
    have fin:∀(h2:Heap)(o2:Obj)(ρ2:LI),Heap.SameBut s.heap.objs.size h1 h2->h2.get? s.heap.objs.size=some o2->SetI P w o2 ρ2->ρ2.length<=dn.length+1->(∀k,k∈ρ2↔k∈dn++[n]/\k∈γ) ->
      wpAny (model P w) A (do Builtin.Frozenset.unchanged nm d epd;pure (ForInStep.yield PUnit.unit)) (λr s'=>match r with
       | .yield _=>∃(h1:Heap)(o1:Obj)(ρ dn rs:LI),s'={ s with heap:=h1 }/\(∀e o,e<s.heap.objs.size->s.heap.get? e=some o->h1.get? e=some o)/\h1.get? s.heap.objs.size=some o1/\SetI P w o1 ρ/\Paired (Xw P w) rest rs/\dn++rs=ε/\ρ.length<=dn.length/\∀k,k∈ρ↔k∈dn/\k∈γ
       | .done _=>wpAny (model P w) A (pure ()) (λ_ s'=>wpAny (model P w) A (pure (Value.ref s.heap.objs.size)) Q E s') E s') E { s with heap:=h2 }:=by
     intro h2 o2 ρ2 sb hS2 hρ2 hle2 hm2;have hod2:h2.get? d=some od:=by rw [sb.2 d (Nat.ne_of_lt hld)];exact hod1
     apply wpAny_bind;unfold Builtin.Frozenset.unchanged;apply wpAny_bind;refine wpAny_setEpoch_of hod2 hdd Sd.fits ?_;rw [if_neg (by simp)];apply wpAny_pure;refine wpAny_pure ⟨h2,o2,ρ2,dn++[n],rs',rfl,λe o he z=>?_,hS2,hρ2,hEr',by rw [List.append_assoc];exact hdn,by rw [List.length_append,List.length_singleton];exact hle2,hm2⟩;rw [sb.2 e (Nat.ne_of_lt he)];exact keep e o he z
    obtain ⟨xh,xv⟩:=x;dsimp only at hx1 hx2;subst hx1 hx2;apply wpAny_bind;apply wpAny_holding;apply wpAny_bind;refine wpAny_setFind_of (knd:=intKind P w) (k:=n) (intKind_is _ _ _ _) rfl (hγ.setOf hoc1) λr hr=>?_;by_cases hin:n∈γ
    ·rw [hr,if_pos (decide_eq_true hin)];apply wpAny_bind;refine Zar (s:={ s with heap:=h1 }) hS1 hρ (by lia) λ_ h2 o2 ρ2 sb hS2 hρ2 hp=>?_;apply wpAny_pure;refine wpAny_mono (fin h2 o2 ρ2 sb hS2 hρ2 ?_ λk=>?_) (λr s' hr=>by cases r <;> exact hr) λ_ _ x=>x
     ·rw [hp.length_eq];split
      ·lia
      ·rw [List.length_append,List.length_singleton];lia
     ·rw [hp.mem_iff,List.mem_append,List.mem_singleton];split
      ·rename_i hnρ;rw [hm k];constructor
       ·rintro ⟨z1,z2⟩;exact ⟨.inl z1,z2⟩
       ·rintro ⟨z1 | rfl,z2⟩
        ·exact ⟨z1,z2⟩
        ·exact (hm _).mp hnρ
      ·rw [List.mem_append,List.mem_singleton,hm k];constructor
       ·rintro (⟨z1,z2⟩ | rfl)
        ·exact ⟨.inl z1,z2⟩
        ·exact ⟨.inr rfl,hin⟩
       ·rintro ⟨z1 | rfl,z2⟩
        ·exact .inl ⟨z1,z2⟩
        ·exact .inr rfl
    ·rw [hr,if_neg (by rw [decide_eq_false hin];exact Bool.false_ne_true)];apply wpAny_pure;refine wpAny_mono (fin h1 o1 ρ (Heap.SameBut.refl _ _) hS1 hρ (by lia) λk=>?_) (λr s' hr=>by cases r <;> exact hr) λ_ _ x=>x;rw [hm k,List.mem_append,List.mem_singleton];constructor
     ·rintro ⟨z1,z2⟩;exact ⟨.inl z1,z2⟩
     ·rintro ⟨z1 | rfl,z2⟩
      ·exact ⟨z1,z2⟩
      ·exact absurd z2 hin
  ·rintro _ s1 ⟨h1,o1,ρ,dn,rs,rfl,keep,hS1,hρ,hEr,hdn,hle,hm⟩;cases hEr;rw [List.append_nil] at hdn;subst hdn;apply wpAny_pure;apply wpAny_pure;exact hq h1 o1 ρ keep hS1 hρ λk=>by rw [hm k,<-hmem k,hpε.mem_iff]
 by_cases hsz:es2.size > es1.size
 ·rw [if_pos hsz];exact key b a ob τ σ es1 ep1 t1 hlb hla kb hτ at1 hE1 λk=>Iff.rfl
 ·rw [if_neg hsz];exact key a b oa σ τ es2 ep2 t2 hla hlb ka hσ at2 hE2 λk=>And.comm
end
section
variable {X:Cx}
theorem Zgc:OpR X (binaryOp .BitAnd) (λx y H Q=>∃(a b:AD)(ms ns:LI),x=.ref a/\y=.ref b/\b≠a/\H a=some (V9 X.prog X.w a ms)/\H b=some (V9 X.prog X.w b ns) /\
  ∀(l:AD)(ks:LI),H l=none->ks.Nodup->(∀k,k∈ks↔k∈ms/\k∈ns)->Q (.ref l) (upd H l (V9 X.prog X.w l ks))):=by
 intro qQ s σ H x y v u Q I rx ry h;obtain ⟨a,b,ms,ns,rfl,rfl,hab,hpa,hpb,q⟩:=h;cases rx;cases ry;obtain ⟨⟨oa,σa,hoa,hσa,hpma⟩,_⟩:=I.hok a _ hpa;obtain ⟨⟨ob,σb,hob,hσb,hpmb⟩,_⟩:=I.hok b _ hpb;have hTa:s.TypeIs (.ref a) "set" := (hσa.at_ hoa).elim λes h=>h.elim λep h=>h.elim λt h=>h.1.typeIs;have hTb:s.TypeIs (.ref b) "set" := (hσb.at_ hob).elim λes h=>h.elim λep h=>h.elim λt h=>h.1.typeIs;refine wpAny_binaryOp_same (op:=.BitAnd) (T := "set") hTa hTb F.fills_set_and F.slot_set_and ?_;refine wpAny_call_entry F.slot_set_and hTa V8 ?_ (F.args_set_and_2 _ _);show wpAny _ _ (pure (Value.ref a,Value.ref b) >>= _) _ _ s;apply wpAny_bind;apply wpAny_pure;show wpAny _ _ ((Builtin.Frozenset.isAnySet (.ref a) <&&> Builtin.Frozenset.isAnySet (.ref b)) >>= _) _ _ s;apply wpAny_bind;show wpAny _ _ (Builtin.Frozenset.isAnySet (.ref a) >>= _) _ _ s;apply wpAny_bind;apply Wb hTa;apply Wb hTb;rw [if_neg (by decide)];apply wpAny_bind;apply wpAny_pure;apply wpAny_bind;refine Zb5 hab hoa hσa hob hσb λh' o' ρ hk ho' hρ hm=>?_;have hnd:ρ.Nodup:=by obtain ⟨_,_,_,_,_,_,z,_⟩:=hρ;exact z
 exact wpAny_pure ⟨_,rfl,(by intro z;cases z),.ref _,_,I.laid (t':=s.toks) (o:=V9 X.prog X.w s.heap.objs.size ρ) (λb o e=>hk b o (Heap.lt_size e) e) (Nat.le_refl _) (Zav ho' hρ (.refl _)),rfl,q _ ρ I.fresh hnd (λk=>by rw [hm k,hpma.mem_iff,hpmb.mem_iff])⟩
end
end L2
namespace L2
open PySem PySem.Spec PyProof.Rows
section
variable {X:Cx}(P:PP)(w:Ab)(K:FF)
theorem Zc5 (hc:X.calm=true)(h:X.K=K:=by rfl)(hP:X.prog=P:=by rfl)(hw:X.w=w:=by rfl):Jt X (.type "set") (λxs H Q=>∃(p:AD)(ns:LI),xs=[.ref p]/\SqL K H p (ns.map V.int)/\ns.length<=1228 /\
  ∀(l:AD)(ms:LI),H l=none->ms.Nodup->(∀k,k∈ms↔k∈ns)->Q (.ref l) (upd H l (V9 P w l ms))):=by
 subst hP hw;exact Zgb K hc h
theorem ZeW (hP:X.prog=P:=by rfl)(hw:X.w=w:=by rfl):OpR X (binaryOp .BitAnd) (λx y H Q=>∃(a b:AD)(ms ns:LI),x=.ref a/\y=.ref b/\b≠a/\H a=some (V9 P w a ms)/\H b=some (V9 P w b ns) /\
  ∀(l:AD)(ks:LI),H l=none->ks.Nodup->(∀k,k∈ks↔k∈ms/\k∈ns)->Q (.ref l) (upd H l (V9 P w l ks))):=by
 subst hP hw;exact Zgc
theorem Zaw (hc:X.calm=true)(hP:X.prog=P:=by rfl)(hw:X.w=w:=by rfl):Jt X (.builtin "sorted") (λxs H Q=>∃(p:AD)(ms:LI),xs=[.ref p]/\H p=some (V9 P w p ms)/\ms.length<64 /\
  ∀(l:AD)(ns':LI),H l=none->ns'.Perm ms->ns'.Pairwise (· <= ·)->Q (.ref l) (upd H l (.lst (ns'.map V.int)))):=by
 subst hP hw;exact Zb4 hc
end
end L2
namespace L2
open PySem PySem.Spec PyProof.Rows
def Og:Bool->Keyed->Array Keyed->Nat->Nat->Nat->StateT SortSt Sem (Option Nat):=sortPriv% PySem.Builtin.gallop
def We:Array Keyed->Array Keyed->StateT SortSt Sem (Array Keyed):=sortPriv% PySem.Builtin.mergeLo
def Wf:Array Keyed->Array Keyed->StateT SortSt Sem (Array Keyed):=sortPriv% PySem.Builtin.mergeHi
def Vb:Nat->StateT SortSt Sem Unit:=sortPriv% PySem.Builtin.setMinGallop
def Uq (left:Bool)(key:Keyed)(arr:Array Keyed)(base i:Nat):StateT SortSt Sem (Option Bool):=do
 let x <- elem' arr (base+i)
 if left then lt' x key else return (<- lt' key x).map (!·)
def O3 (left:Bool)(key:Keyed)(arr:Array Keyed)(base n lo hi:Nat):StateT SortSt Sem (Option Nat):=do
 let mut lo:=lo
 let mut hi:=hi
 for _ in [:n] do
  if lo>=hi then break
  let m:=lo+(hi-lo) / 2
  let some more <- Uq left key arr base m | return none
  if more then lo:=m+1
  else hi:=m
 return some hi
def Wg (left:Bool)(key:Keyed)(arr:Array Keyed)(base n hint:Nat):StateT SortSt Sem (Option Nat):=do
 let mut lastofs:=0
 let mut ofs:=1
 let maxofs:=n-hint
 for _ in [:n] do
  if ofs>=maxofs then break
  let some more <- Uq left key arr base (hint+ofs) | return none
  if !more then break
  lastofs:=ofs
  ofs:=2 * ofs+1
 O3 left key arr base n (hint+lastofs+1) (hint+min ofs maxofs)
def Ur (left:Bool)(key:Keyed)(arr:Array Keyed)(base n hint:Nat):StateT SortSt Sem (Option Nat):=do
 let mut lastofs:=0
 let mut ofs:=1
 let maxofs:=hint+1
 for _ in [:n] do
  if ofs>=maxofs then break
  let some found <- Uq left key arr base (hint-ofs) | return none
  if found then break
  lastofs:=ofs
  ofs:=2 * ofs+1
 O3 left key arr base n (hint+1-min ofs maxofs) (hint-lastofs)
theorem Zl (left:Bool)(key:Keyed)(arr:Array Keyed)(base n hint:Nat):Og left key arr base n hint=(do
  let some right <- Uq left key arr base hint | return none
  if right then Wg left key arr base n hint else Ur left key arr base n hint):=rfl
section
variable {M:Model}{A:Around}{E:Aa->SS->Prop}{s:SS}{kd:SortKind}{b:Keyed->Keyed->Bool}{good:Keyed->Prop}
structure WO (b:Keyed->Keyed->Bool):Prop where
 irr:∀x,b x x=false
 tr:∀x y z,b x y=true->b y z=true->b x z=true
 neg:∀x y z,b x z=true->b x y=true\/b y z=true
def LtOk (M:Model)(A:Around)(E:Aa->SS->Prop)(s:SS)(kd:SortKind)(b:Keyed->Keyed->Bool)(good:Keyed->Prop):Prop:=
 ∀(x y:Keyed)(st:SortSt)(Q:Option Bool->SortSt->Prop),good x->good y->kindOf st=kd->Q (some (b x y)) st->wpS M A E s (lt' x y) Q st
theorem Gy {arr:Array Keyed}{i:Nat}{x:Keyed}{st:SortSt}{Q:Keyed->SortSt->Prop}(h:arr[i]?=some x)(q:Q x st):wpS M A E s (elem' arr i) Q st:=by
 rw [elem'_eq,h];exact wpS_pure q
def byd (b:Keyed->Keyed->Bool)(left:Bool)(key:Keyed)(arr:Array Keyed)(base i:Nat):Bool:=match arr[base+i]? with
 | some x=>if left then b x key else !b key x
 | none=>false
theorem Ox {left:Bool}{key:Keyed}{arr:Array Keyed}{base i:Nat}{x:Keyed}{st:SortSt}{Q:Option Bool->SortSt->Prop}(L:LtOk M A E s kd b good)(hk:good key)(hx:arr[base+i]?=some x)(gx:good x)(hs:kindOf st=kd)(q:Q (some (byd b left key arr base i)) st):wpS M A E s (Uq left key arr base i) Q st:=by
 unfold Uq;refine wpS_bind (Gy hx ?_);unfold byd at q;rw [hx] at q;cases left with
 | true=>exact L x key st Q gx hk hs q
 | false=>exact wpS_bind (L key x st _ hk gx hs (wpS_pure q))
section
variable {left:Bool}{key:Keyed}{arr:Array Keyed}{base n hint:Nat}{st:SortSt}{Q:Option Nat->SortSt->Prop}
structure Gal (b:Keyed->Keyed->Bool)(good:Keyed->Prop)(left:Bool)(key:Keyed)(arr:Array Keyed)(base n:Nat):Prop where
 gk:good key
 it:∀i,i<n->∃x,arr[base+i]?=some x/\good x
 mono:∀i j,i<=j->j<n->byd b left key arr base j=true->byd b left key arr base i=true
theorem GY {lo hi:Nat}(L:LtOk M A E s kd b good)(G:Gal b good left key arr base n)(hs:kindOf st=kd)(h1:lo<=hi)(h2:hi<=n)(h3:∀i,i<lo->byd b left key arr base i=true)(h4:∀i,hi<=i->i<n->byd b left key arr base i=false)(q:∀k,k<=n->(∀i,i<k->byd b left key arr base i=true)->(∀i,k<=i->i<n->byd b left key arr base i=false)->Q (some k) st):wpS M A E s (O3 left key arr base n lo hi) Q st:=by
 unfold O3;refine wpS_bind (wpS_forRange (λk c st'=>st'=st/\∃lo hi,c=(none,lo,hi)/\lo<=hi/\hi<=n/\hi-lo<=n-k/\(∀i,i<lo->byd b left key arr base i=true)/\(∀i,hi<=i->i<n->byd b left key arr base i=false)) ?_ ?_ ⟨rfl,lo,hi,rfl,h1,h2,by lia,h3,h4⟩)
 ·rintro k c st' _ hk ⟨rfl,lo,hi,rfl,h1,h2,h5,h3,h4⟩;dsimp only;split
  ·rename_i h6;have:lo=hi:=by lia
   subst this;refine wpS_pure ?_;dsimp only;exact wpS_pure (q lo h2 h3 h4)
  ·rename_i h6;obtain ⟨x,hx,gx⟩:=G.it (lo+(hi-lo) / 2) (by lia);refine wpS_bind (Ox L G.gk hx gx hs ?_);dsimp only;cases hb:byd b left key arr base (lo+(hi-lo) / 2) with
   | true=>
    refine wpS_pure ⟨rfl,_,_,rfl,by lia,h2,by lia,λi hi'=>G.mono i (lo+(hi-lo) / 2) (by lia) (by lia) hb,h4⟩
   | false=>
    refine wpS_pure ⟨rfl,_,_,rfl,by lia,by lia,by lia,h3,λi h8 h9=>?_⟩;cases hc:byd b left key arr base i with
    | false=>rfl
    | true=>rw [G.mono _ i h8 h9 hc] at hb;cases hb
 ·rintro c st' ⟨rfl,lo,hi,rfl,h1,h2,h5,h3,h4⟩;have:lo=hi:=by simp at h5;lia
  subst this;exact wpS_pure (q lo h2 h3 h4)
theorem Jx (L:LtOk M A E s kd b good)(G:Gal b good left key arr base n)(hs:kindOf st=kd)(hn:hint<n)(q:∀k,k<=n->(∀i,i<k->byd b left key arr base i=true)->(∀i,k<=i->i<n->byd b left key arr base i=false)->Q (some k) st):wpS M A E s (Og left key arr base n hint) Q st:=by
 rw [Zl];obtain ⟨x,hx,gx⟩:=G.it hint hn;have anti:∀i j,byd b left key arr base i=false->i<=j->j<n->byd b left key arr base j=false:=λi j h1 h2 h3=>by
  cases hc:byd b left key arr base j with
  | false=>rfl
  | true=>rw [G.mono _ j h2 h3 hc] at h1;cases h1
 refine wpS_bind (Ox L G.gk hx gx hs ?_);cases hb:byd b left key arr base hint with
 | true=>
  show wpS M A E s (Wg left key arr base n hint) Q st;unfold Wg;refine wpS_bind (wpS_forRange (λk c st'=>st'=st/\∃last ofs,c=(none,last,ofs)/\last<ofs/\k+1<=ofs/\hint+last<n/\byd b left key arr base (hint+last)=true) ?_ ?_ ⟨rfl,0,1,rfl,by lia,by lia,hn,hb⟩)
  ·rintro k c st' _ hk ⟨rfl,last,ofs,rfl,h1,h2,h3,h4⟩;dsimp only;split
   ·rename_i h5;refine wpS_pure ?_;dsimp only;rw [Nat.min_eq_right h5];exact GY L G hs (by lia) (by lia) (λi hi=>G.mono i _ (show i<=hint+last by lia) h3 h4) (λi h6 h7=>by lia) q
   ·rename_i h5;obtain ⟨y,hy,gy⟩:=G.it (hint+ofs) (by lia);refine wpS_bind (Ox L G.gk hy gy hs ?_);dsimp only;cases hb2:byd b left key arr base (hint+ofs) with
    | true=>exact wpS_pure ⟨rfl,_,_,rfl,by lia,by lia,by lia,hb2⟩
    | false=>
     refine wpS_pure ?_;dsimp only;rw [Nat.min_eq_left (by lia)];exact GY L G hs (by lia) (by lia) (λi hi=>G.mono i _ (show i<=hint+last by lia) h3 h4) (λi h6 h7=>anti _ i hb2 h6 h7) q
  ·rintro c st' ⟨rfl,last,ofs,rfl,h1,h2,h3,h4⟩;dsimp only;have h5:n-hint<=ofs:=by simp at h2;lia
   rw [Nat.min_eq_right h5];exact GY L G hs (by lia) (by lia) (λi hi=>G.mono i _ (show i<=hint+last by lia) h3 h4) (λi h6 h7=>by lia) q
 | false=>
  show wpS M A E s (Ur left key arr base n hint) Q st;unfold Ur;refine wpS_bind (wpS_forRange (λk c st'=>st'=st/\∃last ofs,c=(none,last,ofs)/\last<ofs/\k+1<=ofs/\last<=hint/\byd b left key arr base (hint-last)=false) ?_ ?_ ⟨rfl,0,1,rfl,by lia,by lia,by lia,hb⟩)
  ·rintro k c st' _ hk ⟨rfl,last,ofs,rfl,h1,h2,h3,h4⟩;dsimp only;split
   ·rename_i h5;refine wpS_pure ?_;dsimp only;rw [Nat.min_eq_right h5];exact GY L G hs (by lia) (by lia) (λi hi=>by lia) (λi h6 h7=>anti _ i h4 h6 h7) q
   ·rename_i h5;obtain ⟨y,hy,gy⟩:=G.it (hint-ofs) (by lia);refine wpS_bind (Ox L G.gk hy gy hs ?_);dsimp only;cases hb2:byd b left key arr base (hint-ofs) with
    | false=>exact wpS_pure ⟨rfl,_,_,rfl,by lia,by lia,by lia,hb2⟩
    | true=>
     refine wpS_pure ?_;dsimp only;rw [Nat.min_eq_left (by lia)];exact GY L G hs (by lia) (by lia) (λi hi=>G.mono i (hint-ofs) (by lia) (by lia) hb2) (λi h6 h7=>anti _ i h4 h6 h7) q
  ·rintro c st' ⟨rfl,last,ofs,rfl,h1,h2,h3,h4⟩;dsimp only;have h5:hint+1<=ofs:=by simp at h2;lia
   rw [Nat.min_eq_right h5];exact GY L G hs (by lia) (by lia) (λi hi=>by lia) (λi h6 h7=>anti _ i h4 h6 h7) q
end
end
end L2
namespace L2
open PySem PySem.Spec PyProof.Rows
abbrev MLs:=Option (Array Keyed)×Array Keyed×Nat×Nat×Nat×Nat
abbrev MLt:=Option (Array Keyed)×Array Keyed×Nat×Nat×Nat×Nat×Nat
def OF (a b out:Array Keyed)(ia ib:Nat):Array Keyed:=out++a.extract ia++b.extract ib
def VG (a b out:Array Keyed)(ia ib:Nat):Array Keyed:=out++b.extract ib++a.extract ia
def Zb6 (a b:Array Keyed)(mg:Nat):Nat->MLs->StateT SortSt Sem (ForInStep MLs):=λ_ r=>
 let out:=r.2.1;let ia:=r.2.2.1;let ib:=r.2.2.2.1;let qZ:=r.2.2.2.2.1;let qX:=r.2.2.2.2.2
 do
 let x <- elem' b ib
 let y <- elem' a ia
 match <- lt' x y with
 | some bWins=>
  if bWins=true then do
   let z <- elem' b ib
   let out:=out.push z
   let ib:=ib+1
   let qX:=qX+1
   let qZ:=0
   if (ib == b.size)=true then pure (.done (some (OF a b out ia ib),out,ia,ib,qZ,qX))
   else if qX>=mg then pure (.done (none,out,ia,ib,qZ,qX))
   else pure (.yield (none,out,ia,ib,qZ,qX))
  else do
   let z <- elem' a ia
   let out:=out.push z
   let ia:=ia+1
   let qZ:=qZ+1
   let qX:=0
   if (ia+1 == a.size)=true then pure (.done (some (VG a b out ia ib),out,ia,ib,qZ,qX))
   else if qZ>=mg then pure (.done (none,out,ia,ib,qZ,qX))
   else pure (.yield (none,out,ia,ib,qZ,qX))
 | _=>pure (.done (some (OF a b out ia ib),out,ia,ib,qZ,qX))
def mlD (a b:Array Keyed)(qJ qZ k:Nat)(out:Array Keyed)(ia ib:Nat):StateT SortSt Sem (ForInStep MLt):=do
 let qX:=k
 let z <- elem' a ia
 let out:=out.push z
 let ia:=ia+1
 if (ia+1 == a.size)=true then pure (.done (some (VG a b out ia ib),out,ia,ib,qJ,qZ,qX))
 else if (decide (qZ<7) && decide (qX<7))=true then pure (.done (none,out,ia,ib,qJ,qZ,qX))
 else pure (.yield (none,out,ia,ib,qJ,qZ,qX))
def mlC (a b:Array Keyed)(qJ qZ qX:Nat)(out:Array Keyed)(ia ib:Nat):StateT SortSt Sem (ForInStep MLt):=do
 let z <- elem' b ib
 let out:=out.push z
 let ib:=ib+1
 if (ib == b.size)=true then pure (.done (some (OF a b out ia ib),out,ia,ib,qJ,qZ,qX))
 else do
  let y <- elem' a ia
  match <- Og true y b ib (b.size-ib) 0 with
  | some k=>
   let qX:=k
   if k > 0 then
    let out:=out++b.extract ib (ib+k)
    let ib:=ib+k
    if (ib == b.size)=true then pure (.done (some (OF a b out ia ib),out,ia,ib,qJ,qZ,qX))
    else mlD a b qJ qZ k out ia ib
   else mlD a b qJ qZ k out ia ib
  | _=>pure (.done (some (OF a b out ia ib),out,ia,ib,qJ,qZ,qX))
def mlB (a b:Array Keyed)(qJ qZ qX:Nat)(out:Array Keyed)(ia ib:Nat):StateT SortSt Sem (ForInStep MLt):=do
 Vb qJ
 let x <- elem' b ib
 match <- Og false x a ia (a.size-ia) 0 with
 | some k=>
  let qZ:=k
  if k > 0 then
   let out:=out++a.extract ia (ia+k)
   let ia:=ia+k
   if (ia+1 == a.size)=true then pure (.done (some (VG a b out ia ib),out,ia,ib,qJ,qZ,qX))
   else if (ia == a.size)=true then pure (.done (some (OF a b out ia ib),out,ia,ib,qJ,qZ,qX))
   else mlC a b qJ qZ qX out ia ib
  else mlC a b qJ qZ qX out ia ib
 | _=>pure (.done (some (OF a b out ia ib),out,ia,ib,qJ,qZ,qX))
def Zb7 (a b:Array Keyed):Nat->MLt->StateT SortSt Sem (ForInStep MLt):=λ_ r=>
 let out:=r.2.1;let ia:=r.2.2.1;let ib:=r.2.2.2.1;let qJ:=r.2.2.2.2.1;let qZ:=r.2.2.2.2.2.1;let qX:=r.2.2.2.2.2.2
 if qJ > 1 then mlB a b (qJ-1) qZ qX out ia ib else mlB a b qJ qZ qX out ia ib
abbrev MLo:=Option (Array Keyed)×Array Keyed×Nat×Nat×Nat
def Zb8 (a b:Array Keyed):Nat->MLo->StateT SortSt Sem (ForInStep MLo):=λ_ r=>
 let out:=r.2.1;let ia:=r.2.2.1;let ib:=r.2.2.2.1;let qJ:=r.2.2.2.2
 do
 let r <- forIn [:a.size+b.size] ((none,out,ia,ib,0,0):MLs) (Zb6 a b qJ)
 match r.1 with
 | some x=>pure (.done (some x,r.2.1,r.2.2.1,r.2.2.2.1,qJ))
 | none=>do
  liftM (rule "list.sort.gallop")
  let r <- forIn [:a.size+b.size] ((none,r.2.1,r.2.2.1,r.2.2.2.1,qJ+1,r.2.2.2.2.1,r.2.2.2.2.2):MLt) (Zb7 a b)
  match r.1 with
  | some x=>pure (.done (some x,r.2.1,r.2.2.1,r.2.2.2.1,r.2.2.2.2.1))
  | none=>do
   Vb (r.2.2.2.2.1+1)
   pure (.yield (none,r.2.1,r.2.2.1,r.2.2.2.1,r.2.2.2.2.1+1))
theorem Je {α β:Type}{m:StateT SortSt Sem α}{f g:α->StateT SortSt Sem β}(h:∀x,f x=g x):m >>= f=m >>= g:=by rw [funext h]
theorem Wh {α:Type}{c:Prop}[Decidable c]{x y u v:α}(h1:x=y)(h2:u=v):(if c then x else u)=if c then y else v:=by rw [h1,h2]
theorem Vc {β:Type}{r:Std.Legacy.Range}{c:β}{f g:Nat->β->StateT SortSt Sem (ForInStep β)}(h:∀i x,f i x=g i x):forIn r c f=forIn r c g:=by rw [funext λi=>funext (h i)]
theorem XJ (a b:Array Keyed):We a b=(do
  liftM (rule "list.sort.merge-lo")
  let x <- elem' b 0
  let out:=#[x]
  if (1 == b.size)=true then pure (OF a b out 0 1)
  else if (0+1 == a.size)=true then pure (VG a b out 0 1)
  else do
   let st <- get
   let r <- forIn [:a.size+b.size] ((none,out,0,1,gallopOf st):MLo) (Zb8 a b)
   match r.1 with
   | some r=>pure r
   | none=>liftM (unsupported "internal:list.sort.merge-bound")):=by
 refine Je (m:=liftM (rule "list.sort.merge-lo")) λ_=>?_;refine Je (m:=elem' b 0) λx=>?_;refine Wh (c:=(1 == b.size)=true) rfl ?_;refine Wh (c:=(0+1 == a.size)=true) rfl ?_;refine Je (m:=get) λst=>?_;refine (congrArg (λm:StateT SortSt Sem MLo=>m >>= _) (Vc (r:=[:a.size+b.size]) (c:=((none,#[x],0,1,gallopOf st):MLo)) (g:=Zb8 a b) λi r=>?_)).trans ?_;rotate_left
 ·refine Je λr=>?_;obtain ⟨r1,r2⟩:=r;cases r1 <;> rfl
 unfold Zb8;refine (congrArg (λm:StateT SortSt Sem MLs=>m >>= _) (Vc (r:=[:a.size+b.size]) (g:=Zb6 a b r.2.2.2.2) λi r=>rfl)).trans ?_;refine Je λq=>?_;obtain ⟨q1,q2⟩:=q;cases q1 with
 | some z=>rfl
 | none=>
  refine Je (m:=liftM (rule "list.sort.gallop")) λ_=>?_;refine (congrArg (λm:StateT SortSt Sem MLt=>m >>= _) (Vc (r:=[:a.size+b.size]) (g:=Zb7 a b) λi r=>rfl)).trans ?_;refine Je λq=>?_;obtain ⟨q1,q2⟩:=q;cases q1 <;> rfl
end L2
namespace L2
open PySem PySem.Spec PyProof.Rows
section
variable {b:Keyed->Keyed->Bool}
abbrev kle (b:Keyed->Keyed->Bool)(x y:Keyed):Prop:=b y x=false
theorem WO.le_trans (W:WO b){x y z:Keyed}(h1:kle b x y)(h2:kle b y z):kle b x z:=by
 cases h:b z x with
 | false=>exact h
 | true=>
  rcases W.neg z y x h with q | q
  ·rw [show b z y=false from h2] at q;cases q
  ·rw [show b y x=false from h1] at q;cases q
theorem WO.le_of_lt (W:WO b){x y:Keyed}(h:b x y=true):kle b x y:=by
 cases q:b y x with
 | false=>exact q
 | true=>
  have:=W.tr _ _ _ h q;rw [W.irr] at this;cases this
theorem WO.le_refl (W:WO b)(x:Keyed):kle b x x:=W.irr x
structure Mrg (b:Keyed->Keyed->Bool)(all out ra rb:List Keyed):Prop where
 perm:(out++ra++rb).Perm all
 so:out.Pairwise (kle b)
 le:∀x∈out,∀y∈ra++rb,kle b x y
 sa:ra.Pairwise (kle b)
 sb:rb.Pairwise (kle b)
theorem Mrg.len {all out ra rb:List Keyed}(h:Mrg b all out ra rb):out.length+ra.length+rb.length=all.length:=by
 have:=h.perm.length_eq;rw [List.length_append,List.length_append] at this;exact this
theorem Mrg.moveA {all out u ra rb:List Keyed}(h:Mrg b all out (u++ra) rb)(hu:∀x∈u,∀y∈rb,kle b x y):Mrg b all (out++u) ra rb:=by
 have sa:=List.pairwise_append.mp h.sa;refine ⟨by rw [List.append_assoc out u ra];exact h.perm,List.pairwise_append.mpr ⟨h.so,sa.1,λx hx y hy=>h.le x hx y (by simp [hy])⟩,λx hx y hy=>?_,sa.2.1,h.sb⟩;rcases List.mem_append.mp hx with hx | hx
 ·refine h.le x hx y ?_;rcases List.mem_append.mp hy with hy | hy
  ·simp [hy]
  ·simp [hy]
 ·rcases List.mem_append.mp hy with hy | hy
  ·exact sa.2.2 x hx y hy
  ·exact hu x hx y hy
theorem Mrg.moveB {all out u ra rb:List Keyed}(h:Mrg b all out ra (u++rb))(hu:∀x∈u,∀y∈ra,kle b x y):Mrg b all (out++u) ra rb:=by
 have sb:=List.pairwise_append.mp h.sb;refine ⟨?_,List.pairwise_append.mpr ⟨h.so,sb.1,λx hx y hy=>h.le x hx y (by simp [hy])⟩,λx hx y hy=>?_,h.sa,sb.2.1⟩
 ·refine List.Perm.trans ?_ h.perm;simp only [List.append_assoc];refine List.Perm.append_left _ ?_;rw [<-List.append_assoc,<-List.append_assoc];exact List.Perm.append_right _ List.perm_append_comm
 ·rcases List.mem_append.mp hx with hx | hx
  ·refine h.le x hx y ?_;rcases List.mem_append.mp hy with hy | hy
   ·simp [hy]
   ·simp [hy]
  ·rcases List.mem_append.mp hy with hy | hy
   ·exact hu x hx y hy
   ·exact sb.2.2 x hx y hy
def Jl (b:Keyed->Keyed->Bool)(all r:List Keyed):Prop:=r.Perm all/\r.Pairwise (kle b)
theorem Mrg.endA {all out ra rb:List Keyed}(h:Mrg b all out ra rb)(hz:∀x∈ra,∀y∈rb,kle b x y):Jl b all (out++ra++rb):=by
 refine ⟨h.perm,?_⟩;rw [List.append_assoc];exact List.pairwise_append.mpr ⟨h.so,List.pairwise_append.mpr ⟨h.sa,h.sb,hz⟩,h.le⟩
theorem Mrg.endB {all out ra rb:List Keyed}(h:Mrg b all out ra rb)(hz:∀x∈rb,∀y∈ra,kle b x y):Jl b all (out++rb++ra):=by
 refine ⟨?_,?_⟩
 ·refine List.Perm.trans ?_ h.perm;rw [List.append_assoc,List.append_assoc];exact List.Perm.append_left _ List.perm_append_comm
 ·rw [List.append_assoc];exact List.pairwise_append.mpr ⟨h.so,List.pairwise_append.mpr ⟨h.sb,h.sa,hz⟩,λx hx y hy=>h.le x hx y (by
   rcases List.mem_append.mp hy with hy | hy <;> simp [hy])⟩
end
theorem UM (a:Array Keyed)(i:Nat):(a.extract i).toList=a.toList.drop i:=by
 rw [Array.toList_extract,List.extract_eq_take_drop,List.take_of_length_le];rw [List.length_drop];exact Nat.le_refl _
theorem YC (a:Array Keyed)(i k:Nat):(a.extract i (i+k)).toList=(a.toList.drop i).take k:=by
 rw [Array.toList_extract,List.extract_eq_take_drop,Nat.add_sub_cancel_left]
theorem JE {a:Array Keyed}{i:Nat}{x:Keyed}(h:a[i]?=some x):a.toList.drop i=x::a.toList.drop (i+1):=by
 rw [<-Array.getElem?_toList] at h;obtain ⟨h1,h2⟩:=List.getElem?_eq_some_iff.mp h;rw [List.drop_eq_getElem_cons h1,h2]
def SameG (st st':SortSt):Prop:=kindOf st'=kindOf st/\arrOf st'=arrOf st/\pendingOf st'=pendingOf st/\failedOf st'=failedOf st
theorem SameG.refl (st:SortSt):SameG st st:=⟨rfl,rfl,rfl,rfl⟩
theorem SameG.trans {st st' st'':SortSt}(h:SameG st st')(k:SameG st' st''):SameG st st'':=⟨k.1.trans h.1,k.2.1.trans h.2.1,k.2.2.1.trans h.2.2.1,k.2.2.2.trans h.2.2.2⟩
section
variable {M:Model}{A:Around}{E:Aa->SS->Prop}{s:SS}{kd:SortKind}{b:Keyed->Keyed->Bool}{good:Keyed->Prop}
theorem Oy {g:Nat}{st:SortSt}{Q:Unit->SortSt->Prop}(q:∀st',SameG st st'->Q () st'):wpS M A E s (Vb g) Q st:=by
 refine wpS_modify (f:=λs=>SortSt.mk' (kindOf s) (arrOf s) (pendingOf s) g (failedOf s)) (q _ ⟨rfl,rfl,rfl,rfl⟩)
structure Two (b:Keyed->Keyed->Bool)(good:Keyed->Prop)(a c:Array Keyed):Prop where
 ga:∀x∈a.toList,good x
 gc:∀x∈c.toList,good x
 sa:a.toList.Pairwise (kle b)
 sc:c.toList.Pairwise (kle b)
 na:0<a.size
 nc:0<c.size
 first:∀x,c[0]?=some x->∀y∈a.toList,kle b x y
 last:∀z,a[a.size-1]?=some z->∀y∈c.toList,kle b y z
variable {a c:Array Keyed}
theorem Two.at (T:Two b good a c){i:Nat}(h:i<a.size):∃x,a[i]?=some x/\good x:=⟨a[i],by simp [h],T.ga _ (by simp)⟩
theorem Two.ct (T:Two b good a c){i:Nat}(h:i<c.size):∃x,c[i]?=some x/\good x:=⟨c[i],by simp [h],T.gc _ (by simp)⟩
def ML (b:Keyed->Keyed->Bool)(a c out:Array Keyed)(ia ib:Nat):Prop:=Mrg b (a.toList++c.toList) out.toList (a.toList.drop ia) (c.toList.drop ib)
theorem ML.done {out:Array Keyed}{ia ib:Nat}(h:ML b a c out ia ib)(e:ib=c.size\/ia=a.size):Jl b (a.toList++c.toList) (OF a c out ia ib).toList:=by
 unfold OF;rw [Array.toList_append,Array.toList_append,UM,UM];refine Mrg.endA h λx hx y hy=>?_;rcases e with e | e
 ·rw [List.drop_of_length_le (by rw [e,Array.length_toList];exact Nat.le_refl _)] at hy;cases hy
 ·rw [List.drop_of_length_le (by rw [e,Array.length_toList];exact Nat.le_refl _)] at hx;cases hx
theorem ML.last {out:Array Keyed}{ia ib:Nat}(T:Two b good a c)(h:ML b a c out ia ib)(e:ia+1=a.size):Jl b (a.toList++c.toList) (VG a c out ia ib).toList:=by
 unfold VG;rw [Array.toList_append,Array.toList_append,UM,UM];refine Mrg.endB h λx hx y hy=>?_;obtain ⟨z,hz,_⟩:=T.at (i:=ia) (by lia);rw [JE hz,List.drop_of_length_le (by rw [Array.length_toList];lia)] at hy;have:y=z:=by simpa using hy
 subst this;exact T.last y (by rw [<-e];exact hz) x (List.mem_of_mem_drop hx)
theorem ML.pushB {out:Array Keyed}{ia ib:Nat}{x:Keyed}(h:ML b a c out ia ib)(hx:c[ib]?=some x)(hl:∀y∈a.toList.drop ia,kle b x y):ML b a c (out.push x) ia (ib+1):=by
 unfold ML at h ⊢;rw [Array.toList_push];rw [JE hx] at h;exact Mrg.moveB (u:=[x]) h λz hz y hy=>by
  have:z=x:=by simpa using hz
  subst this;exact hl y hy
theorem ML.pushA {out:Array Keyed}{ia ib:Nat}{x:Keyed}(h:ML b a c out ia ib)(hx:a[ia]?=some x)(hl:∀y∈c.toList.drop ib,kle b x y):ML b a c (out.push x) (ia+1) ib:=by
 unfold ML at h ⊢;rw [Array.toList_push];rw [JE hx] at h;exact Mrg.moveA (u:=[x]) h λz hz y hy=>by
  have:z=x:=by simpa using hz
  subst this;exact hl y hy
theorem ML.takeA {out:Array Keyed}{ia ib k:Nat}(h:ML b a c out ia ib)(hl:∀x∈(a.toList.drop ia).take k,∀y∈c.toList.drop ib,kle b x y):ML b a c (out++a.extract ia (ia+k)) (ia+k) ib:=by
 unfold ML at h ⊢;rw [Array.toList_append,YC];rw [<-List.take_append_drop k (a.toList.drop ia),List.drop_drop] at h;exact Mrg.moveA h hl
theorem ML.takeB {out:Array Keyed}{ia ib k:Nat}(h:ML b a c out ia ib)(hl:∀x∈(c.toList.drop ib).take k,∀y∈a.toList.drop ia,kle b x y):ML b a c (out++c.extract ib (ib+k)) ia (ib+k):=by
 unfold ML at h ⊢;rw [Array.toList_append,YC];rw [<-List.take_append_drop k (c.toList.drop ib),List.drop_drop] at h;exact Mrg.moveB h hl
theorem Wi {l:List Keyed}{x:Keyed}(W:WO b)(h:(x::l).Pairwise (kle b)):∀y∈x::l,kle b x y:=λy hy=>by
 rcases List.mem_cons.mp hy with rfl | hy
 ·exact W.le_refl _
 ·exact (List.pairwise_cons.mp h).1 y hy
theorem Zax (W:WO b)(L:LtOk M A E s kd b good)(T:Two b good a c){out:Array Keyed}{ia ib mg:Nat}{st:SortSt}(hs:kindOf st=kd)(h:ML b a c out ia ib)(h1:ia+1<a.size)(h2:ib<c.size){Q:MLs->SortSt->Prop}(q1:∀r y st',SameG st st'->Jl b (a.toList++c.toList) r.toList->Q (some r,y) st')(q2:∀out' ia' ib' ac bc st',SameG st st'->ML b a c out' ia' ib'->ia'+1<a.size->ib'<c.size->out.size<out'.size->Q (none,out',ia',ib',ac,bc) st') :
  wpS M A E s (forIn [:a.size+c.size] ((none,out,ia,ib,0,0):MLs) (Zb6 a c mg)) Q st:=by
 refine wpS_forRange (λk r st'=>SameG st st'/\∃out' ia' ib' ac bc,r=(none,out',ia',ib',ac,bc)/\ML b a c out' ia' ib'/\ia'+1<a.size/\ib'<c.size/\out.size+k<=out'.size) ?_ ?_ ⟨SameG.refl _,_,_,_,_,_,rfl,h,h1,h2,Nat.le_refl _⟩
 ·rintro k r st1 _ hk ⟨sg,out',ia',ib',ac,bc,rfl,h,h1,h2,h3⟩;have hs1:kindOf st1=kd:=sg.1.trans hs;unfold Zb6;dsimp only;obtain ⟨x,hx,gx⟩:=T.ct h2;obtain ⟨y,hy,gy⟩:=T.at (i:=ia') (by lia);refine wpS_bind (Gy hx (wpS_bind (Gy hy (wpS_bind (L x y st1 _ gx gy hs1 ?_)))));have sA:(a.toList.drop ia').Pairwise (kle b):=h.sa;have sB:(c.toList.drop ib').Pairwise (kle b):=h.sb;rw [JE hy] at sA;rw [JE hx] at sB;dsimp only;cases hb:b x y with
  | true=>
   rw [if_pos rfl];refine wpS_bind (Gy hx ?_);have h':=h.pushB hx λz hz=>by
    rw [JE hy] at hz;exact W.le_trans (W.le_of_lt hb) (Wi W sA z hz)
   split
   ·rename_i e;exact wpS_pure (q1 _ _ _ sg (h'.done (.inl (eq_of_beq e))))
   ·rename_i e;have e:ib'+1<c.size:=by
     have:ib'+1≠c.size:=λz=>e (beq_iff_eq.mpr z)
     lia
    split
    ·exact wpS_pure (q2 _ _ _ _ _ _ sg h' h1 e (by rw [Array.size_push];lia))
    ·exact wpS_pure ⟨sg,_,_,_,_,_,rfl,h',h1,e,by rw [Array.size_push];lia⟩
  | false=>
   rw [if_neg Bool.false_ne_true];refine wpS_bind (Gy hy ?_);have h':=h.pushA hy λz hz=>by
    rw [JE hx] at hz;exact W.le_trans hb (Wi W sB z hz)
   split
   ·rename_i e;exact wpS_pure (q1 _ _ _ sg (h'.last T (eq_of_beq e)))
   ·rename_i e;have e:ia'+1+1<a.size:=by
     have:ia'+1+1≠a.size:=λz=>e (beq_iff_eq.mpr z)
     lia
    split
    ·exact wpS_pure (q2 _ _ _ _ _ _ sg h' e h2 (by rw [Array.size_push];lia))
    ·exact wpS_pure ⟨sg,_,_,_,_,_,rfl,h',e,h2,by rw [Array.size_push];lia⟩
 ·rintro r st1 ⟨sg,out',ia',ib',ac,bc,rfl,h,h1,h2,h3⟩;exact q2 _ _ _ _ _ _ sg h h1 h2 (by have:=T.na;simp at h3;lia)
end
end L2
namespace L2
open PySem PySem.Spec PyProof.Rows
def Rng (b:Keyed->Keyed->Bool)(arr:Array Keyed)(lo hi:Nat):Prop:=∀i j x y,lo<=i->i<=j->j<hi->arr[i]?=some x->arr[j]?=some y->kle b x y
section
variable {M:Model}{A:Around}{E:Aa->SS->Prop}{s:SS}{kd:SortKind}{b:Keyed->Keyed->Bool}{good:Keyed->Prop}
theorem Zb9 (W:WO b):∀{l:List Keyed}{i j:Nat}{x y:Keyed},l.Pairwise (kle b)->i<=j->l[i]?=some x->l[j]?=some y->kle b x y
 | [],_,_,_,_,_,_,h,_=>by simp at h
 | z::l,0,0,x,y,_,_,h1,h2=>by
  simp at h1 h2;subst h1 h2;exact W.le_refl _
 | z::l,0,j+1,x,y,h,_,h1,h2=>by
  simp at h1 h2;subst h1;exact (List.pairwise_cons.mp h).1 y (List.mem_of_getElem? h2)
 | z::l,i+1,0,_,_,_,h,_,_=>by lia
 | z::l,i+1,j+1,x,y,h,hij,h1,h2=>by
  simp at h1 h2;exact Zb9 W (List.pairwise_cons.mp h).2 (by lia) h1 h2
theorem Zc6 (W:WO b){arr:Array Keyed}{lo:Nat}(h:(arr.toList.drop lo).Pairwise (kle b)):Rng b arr lo arr.size:=λi j x y h1 h2 h3 e1 e2=>by
 refine Zb9 (i:=i-lo) (j:=j-lo) W h (by lia) ?_ ?_
 ·rw [List.getElem?_drop,Nat.add_sub_cancel' h1,Array.getElem?_toList];exact e1
 ·rw [List.getElem?_drop,Nat.add_sub_cancel' (Nat.le_trans h1 h2),Array.getElem?_toList];exact e2
theorem VH (W:WO b){left:Bool}{key:Keyed}{arr:Array Keyed}{base n:Nat}(hk:good key)(hg:∀i,i<n->∃x,arr[base+i]?=some x/\good x)(h:Rng b arr base (base+n)):Gal b good left key arr base n:=by
 refine ⟨hk,hg,λi j h1 h2 h3=>?_⟩;obtain ⟨x,hx,_⟩:=hg i (by lia);obtain ⟨y,hy,_⟩:=hg j h2;have hxy:=h (base+i) (base+j) x y (by lia) (by lia) (by lia) hx hy;unfold byd at h3 ⊢;rw [hy] at h3;rw [hx];dsimp only at h3 ⊢;cases left with
 | true=>
  rw [if_pos rfl] at h3 ⊢;rcases W.neg y x key h3 with z | z
  ·rw [show b y x=false from hxy] at z;cases z
  ·exact z
 | false=>
  rw [if_neg Bool.false_ne_true] at h3 ⊢;rw [Bool.not_eq_true'] at h3 ⊢;exact W.le_trans (x:=x) (y:=y) (z:=key) hxy h3
variable {a c:Array Keyed}
theorem YD {arr:Array Keyed}{base k:Nat}{x:Keyed}(h:x∈(arr.toList.drop base).take k):∃i,i<k/\arr[base+i]?=some x:=by
 obtain ⟨i,hi⟩:=List.mem_iff_getElem?.mp h;rw [List.getElem?_take] at hi;split at hi
 ·rw [List.getElem?_drop,Array.getElem?_toList] at hi;exact ⟨i,by assumption,hi⟩
 ·cases hi
theorem YE {arr:Array Keyed}{base:Nat}{x:Keyed}(h:x∈arr.toList.drop base):∃i,base+i<arr.size/\arr[base+i]?=some x:=by
 obtain ⟨i,hi⟩:=List.mem_iff_getElem?.mp h;rw [List.getElem?_drop,Array.getElem?_toList] at hi;exact ⟨i,(Array.getElem?_eq_some_iff.mp hi).1,hi⟩
section
variable {out:Array Keyed}{ia ib:Nat}{st:SortSt}{Q:ForInStep MLt->SortSt->Prop}
structure Zca (b:Keyed->Keyed->Bool)(a c:Array Keyed)(n:Nat)(st:SortSt)(Q:ForInStep MLt->SortSt->Prop):Prop where
 fin:∀r y st',SameG st st'->Jl b (a.toList++c.toList) r.toList->Q (.done (some r,y)) st'
 brk:∀out' ia' ib' y st',SameG st st'->ML b a c out' ia' ib'->ia'+1<a.size->ib'<c.size->n<=out'.size->Q (.done (none,out',ia',ib',y)) st'
 go:∀out' ia' ib' y st',SameG st st'->ML b a c out' ia' ib'->ia'+1<a.size->ib'<c.size->n<=out'.size->Q (.yield (none,out',ia',ib',y)) st'
theorem Zay (T:Two b good a c){mg ac k n:Nat}(R:Zca b a c n st Q)(h:ML b a c out ia ib)(h1:ia+1<a.size)(h2:ib<c.size)(hn:n<=out.size)(hl:∀x,a[ia]?=some x->∀y∈c.toList.drop ib,kle b x y) :
  wpS M A E s (mlD a c mg ac k out ia ib) Q st:=by
 unfold mlD;obtain ⟨x,hx,gx⟩:=T.at (i:=ia) (by lia);refine wpS_bind (Gy hx ?_);have h':=h.pushA hx (hl x hx);have hn':n<=(out.push x).size:=by rw [Array.size_push];lia
 dsimp only;split
 ·rename_i e;exact wpS_pure (R.fin _ _ _ (SameG.refl _) (h'.last T (eq_of_beq e)))
 ·rename_i e;have e:ia+1+1<a.size:=by
   have:ia+1+1≠a.size:=λz=>e (beq_iff_eq.mpr z)
   lia
  split
  ·exact wpS_pure (R.brk _ _ _ _ _ (SameG.refl _) h' e h2 hn')
  ·exact wpS_pure (R.go _ _ _ _ _ (SameG.refl _) h' e h2 hn')
theorem Zaz (W:WO b)(L:LtOk M A E s kd b good)(T:Two b good a c){mg ac bc n:Nat}(R:Zca b a c n st Q)(hs:kindOf st=kd)(h:ML b a c out ia ib)(h1:ia+1<a.size)(h2:ib<c.size)(hn:n<=out.size)(hl:∀x,c[ib]?=some x->∀y∈a.toList.drop ia,kle b x y):wpS M A E s (mlC a c mg ac bc out ia ib) Q st:=by
 unfold mlC;obtain ⟨x,hx,gx⟩:=T.ct h2;obtain ⟨y,hy,gy⟩:=T.at (i:=ia) (by lia);refine wpS_bind (Gy hx ?_);have h':=h.pushB hx (hl x hx);have hn':n<=(out.push x).size:=by rw [Array.size_push];lia
 generalize out.push x=out1 at h' hn';dsimp only;split
 ·rename_i e;exact wpS_pure (R.fin _ _ _ (SameG.refl _) (h'.done (.inl (eq_of_beq e))))
 ·rename_i e;have e:ib+1<c.size:=by
   have:ib+1≠c.size:=λz=>e (beq_iff_eq.mpr z)
   lia
  refine wpS_bind (Gy hy ?_);have sB:Rng b c (ib+1) c.size:=Zc6 W h'.sb;have sA:(a.toList.drop ia).Pairwise (kle b):=h'.sa;rw [JE hy] at sA;have G:Gal b good true y c (ib+1) (c.size-(ib+1)):=VH W gy (λi hi=>T.ct (by lia)) (by rw [Nat.add_sub_cancel' (by lia)];exact sB);refine wpS_bind (Jx L G hs (by lia) λk hk k1 k2=>?_);dsimp only;have tk:∀z∈(c.toList.drop (ib+1)).take k,∀v∈a.toList.drop ia,kle b z v:=λz hz v hv=>by
   obtain ⟨i,hi,ez⟩:=YD hz;have:=k1 i hi;unfold byd at this;rw [ez] at this;dsimp only at this;rw [if_pos rfl] at this;rw [JE hy] at hv;exact W.le_trans (W.le_of_lt this) (Wi W sA v hv)
  have tr:∀v∈c.toList.drop (ib+1+k),kle b y v:=λv hv=>by
   obtain ⟨i,hi,ev⟩:=YE hv;have:=k2 (k+i) (by lia) (by lia);unfold byd at this;rw [show ib+1+(k+i)=ib+1+k+i by lia,ev] at this;dsimp only at this;rw [if_pos rfl] at this;exact this
  split
  ·have h3:=h'.takeB tk;have hn3:n<=(out1++c.extract (ib+1) (ib+1+k)).size:=by rw [Array.size_append];lia
   split
   ·rename_i e2;exact wpS_pure (R.fin _ _ _ (SameG.refl _) (h3.done (.inl (eq_of_beq e2))))
   ·rename_i e2;have e2:ib+1+k<c.size:=by
     have:ib+1+k≠c.size:=λz=>e2 (beq_iff_eq.mpr z)
     lia
    exact Zay T R h3 h1 e2 hn3 λx' hx' v hv=>by
     rw [hy] at hx';cases hx';exact tr v hv
  ·rename_i hk0;have:k=0:=by lia
   subst this;exact Zay T R h' h1 e hn' λx' hx' v hv=>by
    rw [hy] at hx';cases hx';exact tr v hv
theorem ZdM (W:WO b)(L:LtOk M A E s kd b good)(T:Two b good a c){mg ac bc n:Nat}(R:∀st',SameG st st'->Zca b a c n st' Q)(hs:kindOf st=kd)(h:ML b a c out ia ib)(h1:ia+1<a.size)(h2:ib<c.size)(hn:n<=out.size) :
  wpS M A E s (mlB a c mg ac bc out ia ib) Q st:=by
 unfold mlB;refine wpS_bind (Oy λst1 sg=>?_);have R:=R st1 sg;have hs1:kindOf st1=kd:=sg.1.trans hs;obtain ⟨x,hx,gx⟩:=T.ct h2;refine wpS_bind (Gy hx ?_);have sA:Rng b a ia a.size:=Zc6 W h.sa;have sB:(c.toList.drop ib).Pairwise (kle b):=h.sb;rw [JE hx] at sB;have G:Gal b good false x a ia (a.size-ia):=VH W gx (λi hi=>T.at (by lia)) (by rw [Nat.add_sub_cancel' (by lia)];exact sA);refine wpS_bind (Jx L G hs1 (by lia) λk hk k1 k2=>?_);dsimp only;have tk:∀z∈(a.toList.drop ia).take k,∀v∈c.toList.drop ib,kle b z v:=λz hz v hv=>by
  obtain ⟨i,hi,ez⟩:=YD hz;have:=k1 i hi;unfold byd at this;rw [ez] at this;dsimp only at this;rw [if_neg Bool.false_ne_true,Bool.not_eq_true'] at this;rw [JE hx] at hv;exact W.le_trans this (Wi W sB v hv)
 have tr:∀v∈a.toList.drop (ia+k),kle b x v:=λv hv=>by
  obtain ⟨i,hi,ev⟩:=YE hv;have:=k2 (k+i) (by lia) (by lia);unfold byd at this;rw [show ia+(k+i)=ia+k+i by lia,ev] at this;dsimp only at this;rw [if_neg Bool.false_ne_true,Bool.not_eq_false'] at this;exact W.le_of_lt this
 split
 ·have h3:=h.takeA tk;have hn3:n<=(out++a.extract ia (ia+k)).size:=by rw [Array.size_append];lia
  split
  ·rename_i e2;exact wpS_pure (R.fin _ _ _ (SameG.refl _) (h3.last T (eq_of_beq e2)))
  ·rename_i e2;split
   ·rename_i e3;exact wpS_pure (R.fin _ _ _ (SameG.refl _) (h3.done (.inr (eq_of_beq e3))))
   ·rename_i e3;have e4:ia+k+1<a.size:=by
     have:ia+k+1≠a.size:=λz=>e2 (beq_iff_eq.mpr z);have:ia+k≠a.size:=λz=>e3 (beq_iff_eq.mpr z)
     lia
    exact Zaz W L T R hs1 h3 e4 h2 hn3 λx' hx' v hv=>by
     rw [hx] at hx';cases hx';exact tr v hv
 ·have:k=0:=by lia
  subst this;exact Zaz W L T R hs1 h h1 h2 hn λx' hx' v hv=>by
   rw [hx] at hx';cases hx';exact tr v hv
end
theorem ZaA (W:WO b)(L:LtOk M A E s kd b good)(T:Two b good a c){out:Array Keyed}{ia ib n:Nat}{y:Nat×Nat×Nat}{st:SortSt}(hs:kindOf st=kd)(h:ML b a c out ia ib)(h1:ia+1<a.size)(h2:ib<c.size){Q:MLt->SortSt->Prop}(q1:∀r y st',SameG st st'->Jl b (a.toList++c.toList) r.toList->Q (some r,y) st')(q2:∀out' ia' ib' y st',SameG st st'->ML b a c out' ia' ib'->ia'+1<a.size->ib'<c.size->out.size<=out'.size->Q (none,out',ia',ib',y) st') :
  wpS M A E s (forIn [:n] ((none,out,ia,ib,y):MLt) (Zb7 a c)) Q st:=by
 refine wpS_forRange (λk r st'=>SameG st st'/\∃out' ia' ib' y,r=(none,out',ia',ib',y)/\ML b a c out' ia' ib'/\ia'+1<a.size/\ib'<c.size/\out.size<=out'.size) ?_ ?_ ⟨SameG.refl _,_,_,_,_,rfl,h,h1,h2,Nat.le_refl _⟩
 ·rintro k r st1 _ hk ⟨sg,out',ia',ib',y,rfl,h,h1,h2,h3⟩;have hs1:kindOf st1=kd:=sg.1.trans hs;have R:∀st',SameG st1 st'->Zca b a c out.size st' (λr st'=>match r with
   | .done c'=>Q c' st'
   | .yield c'=>SameG st st'/\∃out' ia' ib' y,c'=(none,out',ia',ib',y)/\ML b a c out' ia' ib'/\ia'+1<a.size/\ib'<c.size/\out.size<=out'.size):=λst' sg'=>
   ⟨λr y st2 g m=>q1 r y st2 ((sg.trans sg').trans g) m,λo i j y st2 g m p1 p2 p3=>q2 o i j y st2 ((sg.trans sg').trans g) m p1 p2 p3,λo i j y st2 g m p1 p2 p3=>⟨(sg.trans sg').trans g,o,i,j,y,rfl,m,p1,p2,p3⟩⟩
  unfold Zb7;dsimp only;have mono:∀mg,wpS M A E s (mlB a c mg y.2.1 y.2.2 out' ia' ib') _ st1:=λmg=>ZdM W L T R hs1 h h1 h2 h3;split
  ·exact wpS_mono (mono _) λr st' hr=>by cases r <;> exact hr
  ·exact wpS_mono (mono _) λr st' hr=>by cases r <;> exact hr
 ·rintro r st1 ⟨sg,out',ia',ib',y,rfl,h,h1,h2,h3⟩;exact q2 _ _ _ _ _ sg h h1 h2 h3
theorem XM (W:WO b)(L:LtOk M A E s kd b good)(T:Two b good a c){st:SortSt}(hs:kindOf st=kd){Q:Array Keyed->SortSt->Prop}(q:∀r st',SameG st st'->Jl b (a.toList++c.toList) r.toList->Q r st'):wpS M A E s (We a c) Q st:=by
 rw [XJ];refine wpS_bind (wpS_lift (wpAny_rule ⟨rfl,?_⟩));obtain ⟨x,hx,gx⟩:=T.ct T.nc;refine wpS_bind (Gy hx ?_);have h0:ML b a c #[x] 0 1:=by
  have z:ML b a c #[] 0 0:=⟨by simp,by simp,by simp,by simpa using T.sa,by simpa using T.sc⟩;exact z.pushB hx λy hy=>T.first x hx y (by simpa using hy)
 have hc:=T.nc;have ha:=T.na;dsimp only;split
 ·rename_i e;exact wpS_pure (q _ _ (SameG.refl _) (h0.done (.inl (eq_of_beq e))))
 ·rename_i e;have e:1<c.size:=by
   have:1≠c.size:=λz=>e (beq_iff_eq.mpr z)
   lia
  split
  ·rename_i e2;exact wpS_pure (q _ _ (SameG.refl _) (h0.last T (eq_of_beq e2)))
  ·rename_i e2;have e2:0+1<a.size:=by
    have:0+1≠a.size:=λz=>e2 (beq_iff_eq.mpr z)
    lia
   refine wpS_bind (wpS_get ?_);refine wpS_bind (wpS_forRange (λk r st'=>SameG st st'/\∃out' ia' ib' mg,r=(none,out',ia',ib',mg)/\ML b a c out' ia' ib'/\ia'+1<a.size/\ib'<c.size/\k<out'.size) ?_ ?_ ⟨SameG.refl _,_,_,_,_,rfl,h0,e2,e,by simp⟩)
   ·rintro k r st1 _ hk ⟨sg,out',ia',ib',mg,rfl,h,h1,h2,h3⟩;have hs1:kindOf st1=kd:=sg.1.trans hs;unfold Zb8;dsimp only;refine wpS_bind (Zax W L T hs1 h h1 h2 (λr y st2 g m=>?_) (λo i j ac bc st2 g m p1 p2 p3=>?_))
    ·refine wpS_pure ?_;dsimp only;exact wpS_pure (q r st2 (sg.trans g) m)
    ·dsimp only;refine wpS_bind (wpS_lift (wpAny_rule ⟨rfl,?_⟩));refine wpS_bind (ZaA W L T (g.1.trans hs1) m p1 p2 (λr y st3 g3 m3=>?_) (λo3 i3 j3 y3 st3 g3 m3 r1 r2 r3=>?_))
     ·refine wpS_pure ?_;dsimp only;exact wpS_pure (q r st3 ((sg.trans g).trans g3) m3)
     ·dsimp only;refine wpS_bind (Oy λst4 g4=>?_);exact wpS_pure ⟨((sg.trans g).trans g3).trans g4,_,_,_,_,rfl,m3,r1,r2,by lia⟩
   ·rintro r st1 ⟨sg,out',ia',ib',mg,rfl,h,h1,h2,h3⟩;exfalso;have:=Mrg.len h;rw [List.length_append,List.length_drop,List.length_drop,Array.length_toList,Array.length_toList,Array.length_toList] at this;simp at h3
    lia
end
end L2
namespace L2
open PySem PySem.Spec PyProof.Rows
abbrev MHs:=Option (Array Keyed)×Nat×Nat×Array Keyed×Nat×Nat
abbrev MHt:=Option (Array Keyed)×Nat×Nat×Array Keyed×Nat×Nat×Nat
abbrev MHo:=Option (Array Keyed)×Nat×Nat×Array Keyed×Nat
def OG (a b out:Array Keyed)(na nb:Nat):Array Keyed:=a.extract 0 na++b.extract 0 nb++out.reverse
def Us (a b out:Array Keyed)(na nb:Nat):Array Keyed:=b.extract 0 nb++a.extract 0 na++out.reverse
def Zcb (a b:Array Keyed)(mg:Nat):Nat->MHs->StateT SortSt Sem (ForInStep MHs):=λ_ r=>
 let na:=r.2.1;let nb:=r.2.2.1;let out:=r.2.2.2.1;let qZ:=r.2.2.2.2.1;let qX:=r.2.2.2.2.2
 do
 let x <- elem' b (nb-1)
 let y <- elem' a (na-1)
 match <- lt' x y with
 | some aWins=>
  if aWins=true then do
   let na:=na-1
   let z <- elem' a na
   let out:=out.push z
   let qZ:=qZ+1
   let qX:=0
   if (na == 0)=true then pure (.done (some (OG a b out na nb),na,nb,out,qZ,qX))
   else if qZ>=mg then pure (.done (none,na,nb,out,qZ,qX))
   else pure (.yield (none,na,nb,out,qZ,qX))
  else do
   let nb:=nb-1
   let z <- elem' b nb
   let out:=out.push z
   let qX:=qX+1
   let qZ:=0
   if (nb == 1)=true then pure (.done (some (Us a b out na nb),na,nb,out,qZ,qX))
   else if qX>=mg then pure (.done (none,na,nb,out,qZ,qX))
   else pure (.yield (none,na,nb,out,qZ,qX))
 | _=>pure (.done (some (OG a b out na nb),na,nb,out,qZ,qX))
def mhD (a b:Array Keyed)(qJ qZ qX:Nat)(na nb:Nat)(out:Array Keyed):StateT SortSt Sem (ForInStep MHt):=do
 let na:=na-1
 let z <- elem' a na
 let out:=out.push z
 if (na == 0)=true then pure (.done (some (OG a b out na nb),na,nb,out,qJ,qZ,qX))
 else if (decide (qZ<7) && decide (qX<7))=true then pure (.done (none,na,nb,out,qJ,qZ,qX))
 else pure (.yield (none,na,nb,out,qJ,qZ,qX))
def mhC (a b:Array Keyed)(qJ qZ qX:Nat)(na nb:Nat)(out:Array Keyed):StateT SortSt Sem (ForInStep MHt):=do
 let nb:=nb-1
 let z <- elem' b nb
 let out:=out.push z
 if (nb == 1)=true then pure (.done (some (Us a b out na nb),na,nb,out,qJ,qZ,qX))
 else do
  let y <- elem' a (na-1)
  match <- Og true y b 0 nb (nb-1) with
  | some at_=>
   let k:=nb-at_
   let qX:=k
   if k > 0 then
    let out:=out++(b.extract at_ nb).reverse
    let nb:=at_
    if (nb == 1)=true then pure (.done (some (Us a b out na nb),na,nb,out,qJ,qZ,qX))
    else if (nb == 0)=true then pure (.done (some (OG a b out na nb),na,nb,out,qJ,qZ,qX))
    else mhD a b qJ qZ qX na nb out
   else mhD a b qJ qZ qX na nb out
  | _=>pure (.done (some (OG a b out na nb),na,nb,out,qJ,qZ,qX))
def mhB (a b:Array Keyed)(qJ qZ qX:Nat)(na nb:Nat)(out:Array Keyed):StateT SortSt Sem (ForInStep MHt):=do
 Vb qJ
 let x <- elem' b (nb-1)
 match <- Og false x a 0 na (na-1) with
 | some at_=>
  let k:=na-at_
  let qZ:=k
  if k > 0 then
   let out:=out++(a.extract at_ na).reverse
   let na:=at_
   if (na == 0)=true then pure (.done (some (OG a b out na nb),na,nb,out,qJ,qZ,qX))
   else mhC a b qJ qZ qX na nb out
  else mhC a b qJ qZ qX na nb out
 | _=>pure (.done (some (OG a b out na nb),na,nb,out,qJ,qZ,qX))
def Zcc (a b:Array Keyed):Nat->MHt->StateT SortSt Sem (ForInStep MHt):=λ_ r=>
 let na:=r.2.1;let nb:=r.2.2.1;let out:=r.2.2.2.1;let qJ:=r.2.2.2.2.1;let qZ:=r.2.2.2.2.2.1;let qX:=r.2.2.2.2.2.2
 if qJ > 1 then mhB a b (qJ-1) qZ qX na nb out else mhB a b qJ qZ qX na nb out
def Zcd (a b:Array Keyed):Nat->MHo->StateT SortSt Sem (ForInStep MHo):=λ_ r=>
 let na:=r.2.1;let nb:=r.2.2.1;let out:=r.2.2.2.1;let qJ:=r.2.2.2.2
 do
 let r <- forIn [:a.size+b.size] ((none,na,nb,out,0,0):MHs) (Zcb a b qJ)
 match r.1 with
 | some x=>pure (.done (some x,r.2.1,r.2.2.1,r.2.2.2.1,qJ))
 | none=>do
  liftM (rule "list.sort.gallop")
  let r <- forIn [:a.size+b.size] ((none,r.2.1,r.2.2.1,r.2.2.2.1,qJ+1,r.2.2.2.2.1,r.2.2.2.2.2):MHt) (Zcc a b)
  match r.1 with
  | some x=>pure (.done (some x,r.2.1,r.2.2.1,r.2.2.2.1,r.2.2.2.2.1))
  | none=>do
   Vb (r.2.2.2.2.1+1)
   pure (.yield (none,r.2.1,r.2.2.1,r.2.2.2.1,r.2.2.2.2.1+1))
theorem XN (a b:Array Keyed):Wf a b=(do
  liftM (rule "list.sort.merge-hi")
  let x <- elem' a (a.size-1)
  let out:=#[x]
  if (a.size-1 == 0)=true then pure (OG a b out (a.size-1) b.size)
  else if (b.size == 1)=true then pure (Us a b out (a.size-1) b.size)
  else do
   let st <- get
   let r <- forIn [:a.size+b.size] ((none,a.size-1,b.size,out,gallopOf st):MHo) (Zcd a b)
   match r.1 with
   | some r=>pure r
   | none=>liftM (unsupported "internal:list.sort.merge-bound")):=by
 refine Je (m:=liftM (rule "list.sort.merge-hi")) λ_=>?_;refine Je (m:=elem' a (a.size-1)) λx=>?_;refine Wh (c:=(a.size-1 == 0)=true) rfl ?_;refine Wh (c:=(b.size == 1)=true) rfl ?_;refine Je (m:=get) λst=>?_;refine (congrArg (λm:StateT SortSt Sem MHo=>m >>= _) (Vc (r:=[:a.size+b.size]) (c:=((none,a.size-1,b.size,#[x],gallopOf st):MHo)) (g:=Zcd a b) λi r=>?_)).trans ?_;rotate_left
 ·refine Je λr=>?_;obtain ⟨r1,r2⟩:=r;cases r1 <;> rfl
 unfold Zcd;refine (congrArg (λm:StateT SortSt Sem MHs=>m >>= _) (Vc (r:=[:a.size+b.size]) (g:=Zcb a b r.2.2.2.2) λi r=>rfl)).trans ?_;refine Je λq=>?_;obtain ⟨q1,q2⟩:=q;cases q1 with
 | some z=>rfl
 | none=>
  refine Je (m:=liftM (rule "list.sort.gallop")) λ_=>?_;refine (congrArg (λm:StateT SortSt Sem MHt=>m >>= _) (Vc (r:=[:a.size+b.size]) (g:=Zcc a b) λi r=>rfl)).trans ?_;refine Je λq=>?_;obtain ⟨q1,q2⟩:=q;cases q1 <;> rfl
end L2
namespace L2
open PySem PySem.Spec PyProof.Rows
section
variable {b:Keyed->Keyed->Bool}
structure MrgH (b:Keyed->Keyed->Bool)(all out ra rb:List Keyed):Prop where
 perm:(ra++rb++out).Perm all
 so:out.Pairwise (kle b)
 le:∀x∈ra++rb,∀y∈out,kle b x y
 sa:ra.Pairwise (kle b)
 sb:rb.Pairwise (kle b)
theorem MrgH.len {all out ra rb:List Keyed}(h:MrgH b all out ra rb):ra.length+rb.length+out.length=all.length:=by
 have:=h.perm.length_eq;rw [List.length_append,List.length_append] at this;exact this
theorem MrgH.moveB {all out u ra rb:List Keyed}(h:MrgH b all out ra (rb++u))(hu:∀x∈u,∀y∈ra,kle b y x):MrgH b all (u++out) ra rb:=by
 have sb:=List.pairwise_append.mp h.sb;refine ⟨?_,List.pairwise_append.mpr ⟨sb.2.1,h.so,λx hx y hy=>h.le x (by simp [hx]) y hy⟩,λx hx y hy=>?_,h.sa,sb.1⟩
 ·have:=h.perm;simp only [List.append_assoc] at this ⊢;exact this
 ·rcases List.mem_append.mp hy with hy | hy
  ·rcases List.mem_append.mp hx with hx | hx
   ·exact hu y hy x hx
   ·exact sb.2.2 x hx y hy
  ·refine h.le x ?_ y hy;rcases List.mem_append.mp hx with hx | hx <;> simp [hx]
theorem MrgH.moveA {all out u ra rb:List Keyed}(h:MrgH b all out (ra++u) rb)(hu:∀x∈u,∀y∈rb,kle b y x):MrgH b all (u++out) ra rb:=by
 have sa:=List.pairwise_append.mp h.sa;refine ⟨?_,List.pairwise_append.mpr ⟨sa.2.1,h.so,λx hx y hy=>h.le x (by simp [hx]) y hy⟩,λx hx y hy=>?_,sa.1,h.sb⟩
 ·refine List.Perm.trans ?_ h.perm;simp only [List.append_assoc];refine List.Perm.append_left _ ?_;rw [<-List.append_assoc,<-List.append_assoc];exact List.Perm.append_right _ List.perm_append_comm
 ·rcases List.mem_append.mp hy with hy | hy
  ·rcases List.mem_append.mp hx with hx | hx
   ·exact sa.2.2 x hx y hy
   ·exact hu y hy x hx
  ·refine h.le x ?_ y hy;rcases List.mem_append.mp hx with hx | hx <;> simp [hx]
theorem MrgH.endA {all out ra rb:List Keyed}(h:MrgH b all out ra rb)(hz:∀x∈ra,∀y∈rb,kle b x y):Jl b all (ra++rb++out):=
 ⟨h.perm,List.pairwise_append.mpr ⟨List.pairwise_append.mpr ⟨h.sa,h.sb,hz⟩,h.so,h.le⟩⟩
theorem MrgH.endB {all out ra rb:List Keyed}(h:MrgH b all out ra rb)(hz:∀x∈rb,∀y∈ra,kle b x y):Jl b all (rb++ra++out):=by
 refine ⟨List.Perm.trans (List.Perm.append_right _ List.perm_append_comm) h.perm,List.pairwise_append.mpr ⟨List.pairwise_append.mpr ⟨h.sb,h.sa,hz⟩,h.so,λx hx y hy=>h.le x ?_ y hy⟩⟩;rcases List.mem_append.mp hx with hx | hx <;> simp [hx]
end
theorem YF (a:Array Keyed)(k:Nat):(a.extract 0 k).toList=a.toList.take k:=by
 rw [Array.toList_extract,List.extract_eq_take_drop,List.drop_zero,Nat.sub_zero]
theorem ZaB (a:Array Keyed){i j:Nat}(h:i<=j):a.toList.take j=a.toList.take i++(a.extract i j).toList:=by
 rw [Array.toList_extract,List.extract_eq_take_drop];have:=List.take_append_drop i (a.toList.take j);rw [List.take_take,Nat.min_eq_left h,List.drop_take] at this;exact this.symm
theorem ZaC {a:Array Keyed}{i:Nat}{x:Keyed}(h:a[i]?=some x):a.toList.take (i+1)=a.toList.take i++[x]:=by
 rw [<-Array.getElem?_toList] at h;rw [List.take_add_one,h]
 rfl
theorem taken {arr:Array Keyed}{k:Nat}{x:Keyed}(h:x∈arr.toList.take k):∃i,i<k/\arr[i]?=some x:=by
 obtain ⟨i,hi⟩:=List.mem_iff_getElem?.mp h;rw [List.getElem?_take] at hi;split at hi
 ·rw [Array.getElem?_toList] at hi;exact ⟨i,by assumption,hi⟩
 ·cases hi
theorem XO {arr:Array Keyed}{i j:Nat}{x:Keyed}(h:x∈(arr.extract i j).toList):∃k,i<=k/\k<j/\arr[k]?=some x:=by
 rw [Array.toList_extract,List.extract_eq_take_drop] at h;obtain ⟨k,hk⟩:=List.mem_iff_getElem?.mp h;rw [List.getElem?_take] at hk;split at hk
 ·rw [List.getElem?_drop,Array.getElem?_toList] at hk;exact ⟨i+k,by lia,by lia,hk⟩
 ·cases hk
section
variable {M:Model}{A:Around}{E:Aa->SS->Prop}{s:SS}{kd:SortKind}{b:Keyed->Keyed->Bool}{good:Keyed->Prop}{a c:Array Keyed}
def MH (b:Keyed->Keyed->Bool)(a c:Array Keyed)(na nb:Nat)(out:Array Keyed):Prop:=MrgH b (a.toList++c.toList) out.toList.reverse (a.toList.take na) (c.toList.take nb)
theorem ZaD (W:WO b){arr:Array Keyed}{hi:Nat}(h:(arr.toList.take hi).Pairwise (kle b)):Rng b arr 0 (0+hi):=λi j x y h1 h2 h3 e1 e2=>by
 refine Zb9 (i:=i) (j:=j) W h h2 ?_ ?_
 ·rw [List.getElem?_take,if_pos (by lia),Array.getElem?_toList];exact e1
 ·rw [List.getElem?_take,if_pos (by lia),Array.getElem?_toList];exact e2
theorem MH.done {out:Array Keyed}{na nb:Nat}(h:MH b a c na nb out)(e:na=0\/nb=0):Jl b (a.toList++c.toList) (OG a c out na nb).toList:=by
 unfold OG;rw [Array.toList_append,Array.toList_append,YF,YF,Array.toList_reverse];refine MrgH.endA h λx hx y hy=>?_;rcases e with e | e
 ·rw [e] at hx;simp at hx
 ·rw [e] at hy;simp at hy
theorem MH.first {out:Array Keyed}{na nb:Nat}(T:Two b good a c)(h:MH b a c na nb out)(e:nb=1):Jl b (a.toList++c.toList) (Us a c out na nb).toList:=by
 unfold Us;rw [Array.toList_append,Array.toList_append,YF,YF,Array.toList_reverse];refine MrgH.endB h λx hx y hy=>?_;obtain ⟨i,hi,ex⟩:=taken hx;have:i=0:=by lia
 subst this;exact T.first x ex y (List.mem_of_mem_take hy)
theorem MH.pushB {out:Array Keyed}{na nb:Nat}{x:Keyed}(h:MH b a c na (nb+1) out)(hx:c[nb]?=some x)(hl:∀y∈a.toList.take na,kle b y x):MH b a c na nb (out.push x):=by
 unfold MH at h ⊢;rw [Array.toList_push,List.reverse_append];rw [ZaC hx] at h;exact MrgH.moveB (u:=[x]) h λz hz y hy=>by
  have:z=x:=by simpa using hz
  subst this;exact hl y hy
theorem MH.pushA {out:Array Keyed}{na nb:Nat}{x:Keyed}(h:MH b a c (na+1) nb out)(hx:a[na]?=some x)(hl:∀y∈c.toList.take nb,kle b y x):MH b a c na nb (out.push x):=by
 unfold MH at h ⊢;rw [Array.toList_push,List.reverse_append];rw [ZaC hx] at h;exact MrgH.moveA (u:=[x]) h λz hz y hy=>by
  have:z=x:=by simpa using hz
  subst this;exact hl y hy
theorem MH.takeA {out:Array Keyed}{na nb k:Nat}(h:MH b a c na nb out)(hk:k<=na)(hl:∀x∈(a.extract k na).toList,∀y∈c.toList.take nb,kle b y x):MH b a c k nb (out++(a.extract k na).reverse):=by
 unfold MH at h ⊢;rw [Array.toList_append,Array.toList_reverse,List.reverse_append,List.reverse_reverse];rw [ZaB a hk] at h;exact MrgH.moveA h hl
theorem MH.takeB {out:Array Keyed}{na nb k:Nat}(h:MH b a c na nb out)(hk:k<=nb)(hl:∀x∈(c.extract k nb).toList,∀y∈a.toList.take na,kle b y x):MH b a c na k (out++(c.extract k nb).reverse):=by
 unfold MH at h ⊢;rw [Array.toList_append,Array.toList_reverse,List.reverse_append,List.reverse_reverse];rw [ZaB c hk] at h;exact MrgH.moveB h hl
theorem Wj (W:WO b){arr:Array Keyed}{k:Nat}{x:Keyed}(h:(arr.toList.take (k+1)).Pairwise (kle b))(hx:arr[k]?=some x):∀y∈arr.toList.take (k+1),kle b y x:=λy hy=>by
 obtain ⟨i,hi,ey⟩:=taken hy;exact ZaD W h i k y x (Nat.zero_le _) (by lia) (by lia) ey hx
theorem ZaE (W:WO b)(L:LtOk M A E s kd b good)(T:Two b good a c){out:Array Keyed}{na nb mg:Nat}{st:SortSt}(hs:kindOf st=kd)(h:MH b a c na nb out)(h1:0<na/\na<=a.size)(h2:1<nb/\nb<=c.size){Q:MHs->SortSt->Prop}(q1:∀r y st',SameG st st'->Jl b (a.toList++c.toList) r.toList->Q (some r,y) st')(q2:∀na' nb' out' ac bc st',SameG st st'->MH b a c na' nb' out'->(0<na'/\na'<=a.size)->(1<nb'/\nb'<=c.size)->out.size<out'.size->Q (none,na',nb',out',ac,bc) st') :
  wpS M A E s (forIn [:a.size+c.size] ((none,na,nb,out,0,0):MHs) (Zcb a c mg)) Q st:=by
 refine wpS_forRange (λk r st'=>SameG st st'/\∃na' nb' out' ac bc,r=(none,na',nb',out',ac,bc)/\MH b a c na' nb' out'/\(0<na'/\na'<=a.size)/\(1<nb'/\nb'<=c.size)/\out.size+k<=out'.size) ?_ ?_ ⟨SameG.refl _,_,_,_,_,_,rfl,h,h1,h2,Nat.le_refl _⟩
 ·rintro k r st1 _ hk ⟨sg,na',nb',out',ac,bc,rfl,h,h1,h2,h3⟩;have hs1:kindOf st1=kd:=sg.1.trans hs;obtain ⟨na',rfl⟩:∃n,na'=n+1:=⟨na' - 1,by lia⟩;obtain ⟨nb',rfl⟩:∃n,nb'=n+1:=⟨nb' - 1,by lia⟩;unfold Zcb;dsimp only [Nat.add_sub_cancel];obtain ⟨x,hx,gx⟩:=T.ct (i:=nb') (by lia);obtain ⟨y,hy,gy⟩:=T.at (i:=na') (by lia);refine wpS_bind (Gy hx (wpS_bind (Gy hy (wpS_bind (L x y st1 _ gx gy hs1 ?_)))));dsimp only;cases hb:b x y with
  | true=>
   rw [if_pos rfl];refine wpS_bind (Gy hy ?_);have h':=h.pushA hy λz hz=>W.le_trans (Wj W h.sb hx z hz) (W.le_of_lt hb);split
   ·rename_i e;exact wpS_pure (q1 _ _ _ sg (h'.done (.inl (eq_of_beq e))))
   ·rename_i e;have e:0<na':=by
     have:na'≠0:=λz=>e (beq_iff_eq.mpr z)
     lia
    split
    ·exact wpS_pure (q2 _ _ _ _ _ _ sg h' ⟨e,by lia⟩ h2 (by rw [Array.size_push];lia))
    ·exact wpS_pure ⟨sg,_,_,_,_,_,rfl,h',⟨e,by lia⟩,h2,by rw [Array.size_push];lia⟩
  | false=>
   rw [if_neg Bool.false_ne_true];refine wpS_bind (Gy hx ?_);have h':=h.pushB hx λz hz=>W.le_trans (Wj W h.sa hy z hz) hb;split
   ·rename_i e;exact wpS_pure (q1 _ _ _ sg (h'.first T (eq_of_beq e)))
   ·rename_i e;have e:1<nb':=by
     have:nb'≠1:=λz=>e (beq_iff_eq.mpr z)
     lia
    split
    ·exact wpS_pure (q2 _ _ _ _ _ _ sg h' h1 ⟨e,by lia⟩ (by rw [Array.size_push];lia))
    ·exact wpS_pure ⟨sg,_,_,_,_,_,rfl,h',h1,⟨e,by lia⟩,by rw [Array.size_push];lia⟩
 ·rintro r st1 ⟨sg,na',nb',out',ac,bc,rfl,h,h1,h2,h3⟩;exact q2 _ _ _ _ _ _ sg h h1 h2 (by have:=T.na;simp at h3;lia)
section
variable {out:Array Keyed}{na nb:Nat}{st:SortSt}{Q:ForInStep MHt->SortSt->Prop}
structure Zce (b:Keyed->Keyed->Bool)(a c:Array Keyed)(n:Nat)(st:SortSt)(Q:ForInStep MHt->SortSt->Prop):Prop where
 fin:∀r y st',SameG st st'->Jl b (a.toList++c.toList) r.toList->Q (.done (some r,y)) st'
 brk:∀na' nb' out' y st',SameG st st'->MH b a c na' nb' out'->(0<na'/\na'<=a.size)->(1<nb'/\nb'<=c.size)->n<=out'.size->Q (.done (none,na',nb',out',y)) st'
 go:∀na' nb' out' y st',SameG st st'->MH b a c na' nb' out'->(0<na'/\na'<=a.size)->(1<nb'/\nb'<=c.size)->n<=out'.size->Q (.yield (none,na',nb',out',y)) st'
theorem ZaF (T:Two b good a c){mg ac bc n:Nat}(R:Zce b a c n st Q)(h:MH b a c (na+1) nb out)(h1:na+1<=a.size)(h2:1<nb/\nb<=c.size)(hn:n<=out.size)(hl:∀x,a[na]?=some x->∀y∈c.toList.take nb,kle b y x) :
  wpS M A E s (mhD a c mg ac bc (na+1) nb out) Q st:=by
 unfold mhD;dsimp only [Nat.add_sub_cancel];obtain ⟨x,hx,gx⟩:=T.at (i:=na) (by lia);refine wpS_bind (Gy hx ?_);have h':=h.pushA hx (hl x hx);have hn':n<=(out.push x).size:=by rw [Array.size_push];lia
 split
 ·rename_i e;exact wpS_pure (R.fin _ _ _ (SameG.refl _) (h'.done (.inl (eq_of_beq e))))
 ·rename_i e;have e:0<na:=by
   have:na≠0:=λz=>e (beq_iff_eq.mpr z)
   lia
  split
  ·exact wpS_pure (R.brk _ _ _ _ _ (SameG.refl _) h' ⟨e,by lia⟩ h2 hn')
  ·exact wpS_pure (R.go _ _ _ _ _ (SameG.refl _) h' ⟨e,by lia⟩ h2 hn')
theorem ZaG (W:WO b)(L:LtOk M A E s kd b good)(T:Two b good a c){mg ac bc n:Nat}(R:Zce b a c n st Q)(hs:kindOf st=kd)(h:MH b a c (na+1) (nb+1) out)(h1:na+1<=a.size)(h2:0<nb/\nb+1<=c.size)(hn:n<=out.size)(hl:∀x,c[nb]?=some x->∀y∈a.toList.take (na+1),kle b y x):wpS M A E s (mhC a c mg ac bc (na+1) (nb+1) out) Q st:=by
 unfold mhC;dsimp only [Nat.add_sub_cancel];obtain ⟨x,hx,gx⟩:=T.ct (i:=nb) (by lia);obtain ⟨y,hy,gy⟩:=T.at (i:=na) (by lia);refine wpS_bind (Gy hx ?_);have h':=h.pushB hx (hl x hx);have hn':n<=(out.push x).size:=by rw [Array.size_push];lia
 generalize out.push x=out1 at h' hn';split
 ·rename_i e;exact wpS_pure (R.fin _ _ _ (SameG.refl _) (h'.first T (eq_of_beq e)))
 ·rename_i e;have e:1<nb:=by
   have:nb≠1:=λz=>e (beq_iff_eq.mpr z)
   lia
  refine wpS_bind (Gy hy ?_);have G:Gal b good true y c 0 nb:=VH W gy (λi hi=>by rw [Nat.zero_add];exact T.ct (by lia)) (ZaD W h'.sb);refine wpS_bind (Jx L G hs (by lia) λk hk k1 k2=>?_);dsimp only;have tk:∀z∈(c.extract k nb).toList,∀v∈a.toList.take (na+1),kle b v z:=λz hz v hv=>by
   obtain ⟨i,hi,hj,ez⟩:=XO hz;have:=k2 i hi hj;unfold byd at this;rw [Nat.zero_add,ez] at this;dsimp only at this;rw [if_pos rfl] at this;exact W.le_trans (Wj W h'.sa hy v hv) this
  have tr:∀v∈c.toList.take k,kle b v y:=λv hv=>by
   obtain ⟨i,hi,ev⟩:=taken hv;have:=k1 i hi;unfold byd at this;rw [Nat.zero_add,ev] at this;dsimp only at this;rw [if_pos rfl] at this;exact W.le_of_lt this
  split
  ·have h3:=h'.takeB hk tk;have hn3:n<=(out1++(c.extract k nb).reverse).size:=by rw [Array.size_append];lia
   split
   ·rename_i e2;exact wpS_pure (R.fin _ _ _ (SameG.refl _) (h3.first T (eq_of_beq e2)))
   ·rename_i e2;split
    ·rename_i e3;exact wpS_pure (R.fin _ _ _ (SameG.refl _) (h3.done (.inr (eq_of_beq e3))))
    ·rename_i e3;have e4:1<k:=by
      have:k≠1:=λz=>e2 (beq_iff_eq.mpr z);have:k≠0:=λz=>e3 (beq_iff_eq.mpr z)
      lia
     exact ZaF T R h3 h1 ⟨e4,by lia⟩ hn3 λx' hx' v hv=>by
      rw [hy] at hx';cases hx';exact tr v hv
  ·have:k=nb:=by lia
   subst this;exact ZaF T R h' h1 ⟨e,by lia⟩ hn' λx' hx' v hv=>by
    rw [hy] at hx';cases hx';exact tr v hv
theorem ZdN (W:WO b)(L:LtOk M A E s kd b good)(T:Two b good a c){mg ac bc n:Nat}(R:∀st',SameG st st'->Zce b a c n st' Q)(hs:kindOf st=kd)(h:MH b a c na (nb+1) out)(h1:0<na/\na<=a.size)(h2:0<nb/\nb+1<=c.size)(hn:n<=out.size) :
  wpS M A E s (mhB a c mg ac bc na (nb+1) out) Q st:=by
 unfold mhB;refine wpS_bind (Oy λst1 sg=>?_);have R:=R st1 sg;have hs1:kindOf st1=kd:=sg.1.trans hs;dsimp only [Nat.add_sub_cancel];obtain ⟨x,hx,gx⟩:=T.ct (i:=nb) (by lia);refine wpS_bind (Gy hx ?_);have G:Gal b good false x a 0 na:=VH W gx (λi hi=>by rw [Nat.zero_add];exact T.at (by lia)) (ZaD W h.sa);refine wpS_bind (Jx L G hs1 (by lia) λk hk k1 k2=>?_);dsimp only;have tk:∀z∈(a.extract k na).toList,∀v∈c.toList.take (nb+1),kle b v z:=λz hz v hv=>by
  obtain ⟨i,hi,hj,ez⟩:=XO hz;have:=k2 i hi hj;unfold byd at this;rw [Nat.zero_add,ez] at this;dsimp only at this;rw [if_neg Bool.false_ne_true,Bool.not_eq_false'] at this;exact W.le_trans (Wj W h.sb hx v hv) (W.le_of_lt this)
 have tr:∀v∈a.toList.take k,kle b v x:=λv hv=>by
  obtain ⟨i,hi,ev⟩:=taken hv;have:=k1 i hi;unfold byd at this;rw [Nat.zero_add,ev] at this;dsimp only at this;rw [if_neg Bool.false_ne_true,Bool.not_eq_true'] at this;exact this
 split
 ·have h3:=h.takeA hk tk;have hn3:n<=(out++(a.extract k na).reverse).size:=by rw [Array.size_append];lia
  split
  ·rename_i e2;exact wpS_pure (R.fin _ _ _ (SameG.refl _) (h3.done (.inl (eq_of_beq e2))))
  ·rename_i e2;have:k≠0:=λz=>e2 (beq_iff_eq.mpr z);obtain ⟨k,rfl⟩:∃n,k=n+1:=⟨k-1,by lia⟩;exact ZaG W L T R hs1 h3 (by lia) h2 hn3 λx' hx' v hv=>by
    rw [hx] at hx';cases hx';exact tr v hv
 ·have:k=na:=by lia
  subst this;obtain ⟨k,rfl⟩:∃n,k=n+1:=⟨k-1,by lia⟩;exact ZaG W L T R hs1 h (by lia) h2 hn λx' hx' v hv=>by
   rw [hx] at hx';cases hx';exact tr v hv
end
theorem ZaH (W:WO b)(L:LtOk M A E s kd b good)(T:Two b good a c){out:Array Keyed}{na nb n:Nat}{y:Nat×Nat×Nat}{st:SortSt}(hs:kindOf st=kd)(h:MH b a c na nb out)(h1:0<na/\na<=a.size)(h2:1<nb/\nb<=c.size){Q:MHt->SortSt->Prop}(q1:∀r y st',SameG st st'->Jl b (a.toList++c.toList) r.toList->Q (some r,y) st')(q2:∀na' nb' out' y st',SameG st st'->MH b a c na' nb' out'->(0<na'/\na'<=a.size)->(1<nb'/\nb'<=c.size)->out.size<=out'.size->Q (none,na',nb',out',y) st') :
  wpS M A E s (forIn [:n] ((none,na,nb,out,y):MHt) (Zcc a c)) Q st:=by
 refine wpS_forRange (λk r st'=>SameG st st'/\∃na' nb' out' y,r=(none,na',nb',out',y)/\MH b a c na' nb' out'/\(0<na'/\na'<=a.size)/\(1<nb'/\nb'<=c.size)/\out.size<=out'.size) ?_ ?_ ⟨SameG.refl _,_,_,_,_,rfl,h,h1,h2,Nat.le_refl _⟩
 ·rintro k r st1 _ hk ⟨sg,na',nb',out',y,rfl,h,h1,h2,h3⟩;have hs1:kindOf st1=kd:=sg.1.trans hs;have R:∀st',SameG st1 st'->Zce b a c out.size st' (λr st'=>match r with
   | .done c'=>Q c' st'
   | .yield c'=>SameG st st'/\∃na' nb' out' y,c'=(none,na',nb',out',y)/\MH b a c na' nb' out'/\(0<na'/\na'<=a.size)/\(1<nb'/\nb'<=c.size)/\out.size<=out'.size):=λst' sg'=>
   ⟨λr y st2 g m=>q1 r y st2 ((sg.trans sg').trans g) m,λo i j y st2 g m p1 p2 p3=>q2 o i j y st2 ((sg.trans sg').trans g) m p1 p2 p3,λo i j y st2 g m p1 p2 p3=>⟨(sg.trans sg').trans g,o,i,j,y,rfl,m,p1,p2,p3⟩⟩
  unfold Zcc;dsimp only;obtain ⟨nb',rfl⟩:∃n,nb'=n+1:=⟨nb' - 1,by lia⟩;have mono:∀mg,wpS M A E s (mhB a c mg y.2.1 y.2.2 na' (nb'+1) out') _ st1:=λmg=>ZdN W L T R hs1 h h1 ⟨by lia,h2.2⟩ h3;split
  ·exact wpS_mono (mono _) λr st' hr=>by cases r <;> exact hr
  ·exact wpS_mono (mono _) λr st' hr=>by cases r <;> exact hr
 ·rintro r st1 ⟨sg,na',nb',out',y,rfl,h,h1,h2,h3⟩;exact q2 _ _ _ _ _ sg h h1 h2 h3
theorem XQ (W:WO b)(L:LtOk M A E s kd b good)(T:Two b good a c){st:SortSt}(hs:kindOf st=kd){Q:Array Keyed->SortSt->Prop}(q:∀r st',SameG st st'->Jl b (a.toList++c.toList) r.toList->Q r st'):wpS M A E s (Wf a c) Q st:=by
 rw [XN];refine wpS_bind (wpS_lift (wpAny_rule ⟨rfl,?_⟩));have hc:=T.nc;have ha:=T.na;obtain ⟨x,hx,gx⟩:=T.at (i:=a.size-1) (by lia);refine wpS_bind (Gy hx ?_);have h0:MH b a c (a.size-1) c.size #[x]:=by
  have z:MH b a c (a.size-1+1) c.size #[]:=by
   unfold MH;rw [Nat.sub_add_cancel (by lia),List.take_of_length_le (by simp),List.take_of_length_le (by simp)];exact ⟨by simp,by simp,by simp,T.sa,T.sc⟩
  exact z.pushA hx λy hy=>T.last x hx y (List.mem_of_mem_take hy)
 dsimp only;split
 ·rename_i e;exact wpS_pure (q _ _ (SameG.refl _) (h0.done (.inl (eq_of_beq e))))
 ·rename_i e;have e:0<a.size-1:=by
   have:a.size-1≠0:=λz=>e (beq_iff_eq.mpr z)
   lia
  split
  ·rename_i e2;exact wpS_pure (q _ _ (SameG.refl _) (h0.first T (eq_of_beq e2)))
  ·rename_i e2;have e2:1<c.size:=by
    have:c.size≠1:=λz=>e2 (beq_iff_eq.mpr z)
    lia
   refine wpS_bind (wpS_get ?_);refine wpS_bind (wpS_forRange (λk r st'=>SameG st st'/\∃na' nb' out' mg,r=(none,na',nb',out',mg)/\MH b a c na' nb' out'/\(0<na'/\na'<=a.size)/\(1<nb'/\nb'<=c.size)/\k<out'.size) ?_ ?_ ⟨SameG.refl _,_,_,_,_,rfl,h0,⟨e,by lia⟩,⟨e2,Nat.le_refl _⟩,by simp⟩)
   ·rintro k r st1 _ hk ⟨sg,na',nb',out',mg,rfl,h,h1,h2,h3⟩;have hs1:kindOf st1=kd:=sg.1.trans hs;unfold Zcd;dsimp only;refine wpS_bind (ZaE W L T hs1 h h1 h2 (λr y st2 g m=>?_) (λo i j ac bc st2 g m p1 p2 p3=>?_))
    ·refine wpS_pure ?_;dsimp only;exact wpS_pure (q r st2 (sg.trans g) m)
    ·dsimp only;refine wpS_bind (wpS_lift (wpAny_rule ⟨rfl,?_⟩));refine wpS_bind (ZaH W L T (g.1.trans hs1) m p1 p2 (λr y st3 g3 m3=>?_) (λo3 i3 j3 y3 st3 g3 m3 r1 r2 r3=>?_))
     ·refine wpS_pure ?_;dsimp only;exact wpS_pure (q r st3 ((sg.trans g).trans g3) m3)
     ·dsimp only;refine wpS_bind (Oy λst4 g4=>?_);exact wpS_pure ⟨((sg.trans g).trans g3).trans g4,_,_,_,_,rfl,m3,r1,r2,by lia⟩
   ·rintro r st1 ⟨sg,na',nb',out',mg,rfl,h,h1,h2,h3⟩;exfalso;have:=MrgH.len h;rw [List.length_append,List.length_take,List.length_take,List.length_reverse,Array.length_toList,Array.length_toList,Array.length_toList] at this;simp at h3
    lia
end
end L2
namespace L2
open PySem PySem.Spec PyProof.Rows
abbrev Asc:=Option (Option Nat)×Nat
abbrev Dsc:=Option (Option Nat)×Nat×Nat
def ZdO (lo:Nat):Nat->Asc->StateT SortSt Sem (ForInStep Asc):=λ_ r=>do
 match <- ltAt' (lo+r.2) (lo+r.2-1) with
 | some smaller=>if smaller=true then pure (.done (none,r.2)) else pure (.yield (none,r.2+1))
 | _=>pure (.done (some none,r.2))
def ZfF (lo:Nat):Nat->Dsc->StateT SortSt Sem (ForInStep Dsc):=λ_ r=>do
 match <- ltAt' (lo+r.2.1) (lo+r.2.1-1) with
 | some smaller=>
  if smaller=true then
   if r.2.2 > 0 then do
    reverseSlice' (lo+r.2.1-(r.2.2+1)) (lo+r.2.1)
    pure (.yield (none,r.2.1+1,0))
   else pure (.yield (none,r.2.1+1,0))
  else do
   match <- ltAt' (lo+r.2.1-1) (lo+r.2.1) with
   | some larger=>if larger=true then pure (.done (none,r.2.1,r.2.2)) else pure (.yield (none,r.2.1+1,r.2.2+1))
   | _=>pure (.done (some none,r.2.1,r.2.2))
 | _=>pure (.done (some none,r.2.1,r.2.2))
def Xf (lo n qW:Nat):StateT SortSt Sem (Option Nat):=do
 reverseSlice' lo (lo+n)
 let r <- forIn [n:qW] ((none,n):Asc) (ZdO lo)
 match r.1 with
 | some x=>pure x
 | none=>pure (some r.2)
def Zm (lo n qW:Nat):StateT SortSt Sem (Option Nat):=do
 liftM (rule "list.sort.descending-run")
 let r <- forIn [n+1:qW] ((none,n+1,0):Dsc) (ZfF lo)
 match r.1 with
 | some x=>pure x
 | none=>(if r.2.2 > 0 then (do
   reverseSlice' (lo+r.2.1-(r.2.2+1)) (lo+r.2.1)
   Xf lo r.2.1 qW) else Xf lo r.2.1 qW)
theorem XR (lo qW:Nat):countRun' lo qW=(do
  let r <- forIn [1:qW] ((none,1):Asc) (ZdO lo)
  match r.1 with
  | some x=>pure x
  | none=>(if (r.2 == qW)=true then pure (some r.2) else (if r.2 > 1 then (do
    match <- ltAt' lo (lo+r.2-1) with
    | some rose=>(if rose=true then pure (some r.2) else (do
      reverseSlice' lo (lo+r.2)
      Zm lo r.2 qW))
    | _=>pure none)
   else Zm lo r.2 qW))):=by
 rw [countRun'_eq];refine (congrArg (λm:StateT SortSt Sem Asc=>m >>= _) (Vc (r:=[1:qW]) (c:=((none,1):Asc)) (g:=ZdO lo) λi r=>rfl)).trans ?_;refine Je λr=>?_;obtain ⟨r1,r2⟩:=r;cases r1 with
 | some z=>rfl
 | none=>
  refine Wh (c:=(r2 == qW)=true) rfl ?_;refine Wh (c:=r2 > 1) ?_ ?_
  ·refine Je λz=>?_;cases z with
   | none=>rfl
   | some z=>
    refine Wh (c:=z=true) rfl ?_;refine Je λ_=>?_;unfold Zm;refine Je λ_=>?_;refine (congrArg (λm:StateT SortSt Sem Dsc=>m >>= _) (Vc (r:=[r2+1:qW]) (c:=((none,r2+1,0):Dsc)) (g:=ZfF lo) λi r=>rfl)).trans ?_;refine Je λr=>?_;obtain ⟨r1,r2,r3⟩:=r;cases r1 with
    | some z=>rfl
    | none=>
     refine Wh (c:=r3 > 0) (Je λ_=>?_) ?_
     all_goals
      unfold Xf;refine Je λ_=>?_;refine (congrArg (λm:StateT SortSt Sem Asc=>m >>= _) (Vc (r:=[r2:qW]) (c:=((none,r2):Asc)) (g:=ZdO lo) λi r=>rfl)).trans ?_;refine Je λr=>?_;obtain ⟨r1,r2⟩:=r;cases r1 <;> rfl
  ·unfold Zm;refine Je λ_=>?_;refine (congrArg (λm:StateT SortSt Sem Dsc=>m >>= _) (Vc (r:=[r2+1:qW]) (c:=((none,r2+1,0):Dsc)) (g:=ZfF lo) λi r=>rfl)).trans ?_;refine Je λr=>?_;obtain ⟨r1,r2,r3⟩:=r;cases r1 with
   | some z=>rfl
   | none=>
    refine Wh (c:=r3 > 0) (Je λ_=>?_) ?_
    all_goals
     unfold Xf;refine Je λ_=>?_;refine (congrArg (λm:StateT SortSt Sem Asc=>m >>= _) (Vc (r:=[r2:qW]) (c:=((none,r2):Asc)) (g:=ZdO lo) λi r=>rfl)).trans ?_;refine Je λr=>?_;obtain ⟨r1,r2⟩:=r;cases r1 <;> rfl
end L2
namespace L2
open PySem PySem.Spec PyProof.Rows
structure Ah (lo:Nat)(st st':SortSt):Prop where
 kd:kindOf st'=kindOf st
 pe:pendingOf st'=pendingOf st
 fa:failedOf st'=failedOf st
 pm:(arrOf st').Perm (arrOf st)
 lw:∀i,i<lo->(arrOf st')[i]?=(arrOf st)[i]?
theorem Ah.refl (lo:Nat)(st:SortSt):Ah lo st st:=⟨rfl,rfl,rfl,.refl _,λ_ _=>rfl⟩
theorem Ah.trans {lo:Nat}{st st' st'':SortSt}(h:Ah lo st st')(k:Ah lo st' st''):Ah lo st st'':=
 ⟨k.kd.trans h.kd,k.pe.trans h.pe,k.fa.trans h.fa,k.pm.trans h.pm,λi hi=>(k.lw i hi).trans (h.lw i hi)⟩
theorem Ah.size {lo:Nat}{st st':SortSt}(h:Ah lo st st'):(arrOf st').size=(arrOf st).size:=h.pm.size_eq
def AllG (good:Keyed->Prop)(arr:Array Keyed):Prop:=∀x∈arr.toList,good x
theorem AllG.perm {good:Keyed->Prop}{a c:Array Keyed}(h:AllG good a)(p:c.Perm a):AllG good c:=λx hx=>h x (p.toList.mem_iff.mp hx)
theorem AllG.at {good:Keyed->Prop}{a:Array Keyed}(h:AllG good a){i:Nat}(hi:i<a.size):∃x,a[i]?=some x/\good x:=⟨a[i],by simp [hi],h _ (by simp)⟩
def ZbC (b:Keyed->Keyed->Bool)(arr:Array Keyed)(lo hi:Nat):Prop:=∀i j x y,lo<=i->i<=j->j<hi->arr[i]?=some x->arr[j]?=some y->kle b y x
section
variable {M:Model}{A:Around}{E:Aa->SS->Prop}{s:SS}{kd:SortKind}{b:Keyed->Keyed->Bool}{good:Keyed->Prop}
theorem O4 {st:SortSt}{i j:Nat}{Q:Option Bool->SortSt->Prop}(L:LtOk M A E s kd b good)(hs:kindOf st=kd)(G:AllG good (arrOf st))(hi:i<(arrOf st).size)(hj:j<(arrOf st).size)(q:∀x y,(arrOf st)[i]?=some x->(arrOf st)[j]?=some y->Q (some (b x y)) st):wpS M A E s (ltAt' i j) Q st:=by
 obtain ⟨x,hx,gx⟩:=G.at hi;obtain ⟨y,hy,gy⟩:=G.at hj;rw [ltAt'_eq];refine wpS_bind (wpS_get ?_);exact wpS_bind (Gy hx (wpS_bind (Gy hy (L x y st Q gx gy hs (q x y hx hy)))))
theorem ZdP (arr:Array Keyed)(W:WO b)(lo:Nat):Rng b arr lo (lo+1):=λi j x y h1 h2 h3 e1 e2=>by
 have:i=j:=by lia
 subst this;rw [e1] at e2;cases e2;exact W.le_refl _
theorem Zcf {arr:Array Keyed}(W:WO b){lo n:Nat}{x y:Keyed}(h:Rng b arr lo (lo+n))(hn:0<n)(hx:arr[lo+n-1]?=some x)(hy:arr[lo+n]?=some y)(hxy:kle b x y):Rng b arr lo (lo+n+1):=λi j u v h1 h2 h3 e1 e2=>by
 by_cases hj:j<lo+n
 ·exact h i j u v h1 h2 hj e1 e2
 ·have:j=lo+n:=by lia
  subst this;rw [hy] at e2;cases e2;by_cases hi:i=lo+n
  ·subst hi;rw [hy] at e1;cases e1;exact W.le_refl _
  ·exact W.le_trans (h i (lo+n-1) u x h1 (by lia) (by lia) e1 hx) hxy
theorem Oh {arr:Array Keyed}(W:WO b){lo n:Nat}{x y:Keyed}(h:ZbC b arr lo (lo+n))(hn:0<n)(hx:arr[lo+n-1]?=some x)(hy:arr[lo+n]?=some y)(hxy:kle b y x):ZbC b arr lo (lo+n+1):=λi j u v h1 h2 h3 e1 e2=>by
 by_cases hj:j<lo+n
 ·exact h i j u v h1 h2 hj e1 e2
 ·have:j=lo+n:=by lia
  subst this;rw [hy] at e2;cases e2;by_cases hi:i=lo+n
  ·subst hi;rw [hy] at e1;cases e1;exact W.le_refl _
  ·exact W.le_trans hxy (h i (lo+n-1) u x h1 (by lia) (by lia) e1 hx)
theorem ZaI (W:WO b)(L:LtOk M A E s kd b good){st:SortSt}{lo a qW:Nat}{Q:Asc->SortSt->Prop}(hs:kindOf st=kd)(G:AllG good (arrOf st))(hn:lo+qW<=(arrOf st).size)(h1:1<=a)(h2:a<=qW)(h3:Rng b (arrOf st) lo (lo+a))(q:∀n,a<=n->n<=qW->Rng b (arrOf st) lo (lo+n)->(n=qW\/∃x y,(arrOf st)[lo+n-1]?=some x/\(arrOf st)[lo+n]?=some y/\b y x=true)->Q (none,n) st):wpS M A E s (forIn [a:qW] ((none,a):Asc) (ZdO lo)) Q st:=by
 refine wpS_forRange (λk r st'=>st'=st/\r=(none,k)/\a<=k/\k<=qW/\Rng b (arrOf st) lo (lo+k)) ?_ ?_ ⟨rfl,rfl,Nat.le_refl _,h2,h3⟩
 ·rintro k r st' _ hk ⟨rfl,rfl,h4,h5,h6⟩;unfold ZdO;refine wpS_bind (O4 L hs G (by show lo+k<_;lia) (by show lo+k-1<_;lia) λy x hy hx=>?_);dsimp only;split
  ·rename_i hb;exact wpS_pure (q k h4 h5 h6 (.inr ⟨x,y,hx,hy,hb⟩))
  ·rename_i hb;exact wpS_pure ⟨rfl,rfl,by lia,by lia,Zcf W h6 (by lia) hx hy (Bool.eq_false_iff.mpr hb)⟩
 ·rintro r st' ⟨rfl,rfl,h4,h5,h6⟩;rw [Nat.max_eq_right h2] at h6 ⊢;exact q qW h2 (Nat.le_refl _) h6 (.inl rfl)
def ZaJ (b:Keyed->Keyed->Bool)(arr:Array Keyed)(lo hi:Nat):Prop:=∀i j x y,lo<=i->i<hi->lo<=j->j<hi->arr[i]?=some x->arr[j]?=some y->kle b x y
theorem O5 {st:SortSt}{lo i j:Nat}(h:lo<=i)(hj:j<=(arrOf st).size):Ah lo st (setArr st (mirror (arrOf st) i j ((j-i) / 2))):=by
 refine ⟨rfl,rfl,rfl,mirror_perm _ _ _ _,λk hk=>?_⟩;show (mirror (arrOf st) i j ((j-i) / 2))[k]?=_;rw [getElem?_mirror_all hj,if_neg (by lia)]
theorem Zn {arr:Array Keyed}{lo hi:Nat}(hj:hi<=arr.size)(h:ZbC b arr lo hi):Rng b (mirror arr lo hi ((hi-lo) / 2)) lo hi:=λi j x y h1 h2 h3 e1 e2=>by
 rw [getElem?_mirror_all hj,if_pos (by lia)] at e1 e2;exact h (lo+hi-1-j) (lo+hi-1-i) y x (by lia) (by lia) (by lia) e2 e1
theorem OJ {arr:Array Keyed}{lo hi i j:Nat}(hj:j<=arr.size)(h1:lo<=i)(h2:i<=j)(h3:j<=hi)(hA:ZaJ b arr i j)(h:ZbC b arr lo hi):ZbC b (mirror arr i j ((j-i) / 2)) lo hi:=λp q x y k1 k2 k3 e1 e2=>by
 rw [getElem?_mirror_all hj] at e1 e2;by_cases hp:i<=p/\p<j
 ·rw [if_pos hp] at e1;by_cases hq:i<=q/\q<j
  ·rw [if_pos hq] at e2;exact hA (i+j-1-q) (i+j-1-p) y x (by lia) (by lia) (by lia) (by lia) e2 e1
  ·rw [if_neg hq] at e2;exact h _ q x y (by lia) (by lia) k3 e1 e2
 ·rw [if_neg hp] at e1;by_cases hq:i<=q/\q<j
  ·rw [if_pos hq] at e2;exact h p _ x y k1 (by lia) (by lia) e1 e2
  ·rw [if_neg hq] at e2;exact h p q x y k1 k2 k3 e1 e2
def Zgd (b:Keyed->Keyed->Bool)(lo qW:Nat)(st:SortSt)(Q:Option Nat->SortSt->Prop):Prop:=∀m st',Ah lo st st'->1<=m->m<=qW->Rng b (arrOf st') lo (lo+m)->Q (some m) st'
theorem Xg (W:WO b)(L:LtOk M A E s kd b good){st:SortSt}{lo n qW:Nat}{Q:Option Nat->SortSt->Prop}(hs:kindOf st=kd)(G:AllG good (arrOf st))(hn:lo+qW<=(arrOf st).size)(h1:1<=n)(h2:n<=qW)(h3:ZbC b (arrOf st) lo (lo+n))(q:Zgd b lo qW st Q):wpS M A E s (Xf lo n qW) Q st:=by
 unfold Xf;rw [reverseSlice'_eq];refine wpS_bind (wpS_modify ?_);have ah:=O5 (st:=st) (lo:=lo) (i:=lo) (j:=lo+n) (Nat.le_refl _) (by lia);have r:=Zn (arr:=arrOf st) (lo:=lo) (hi:=lo+n) (by lia) h3;generalize hst:setArr st (mirror (arrOf st) lo (lo+n) ((lo+n-lo) / 2))=st1 at ah;have e1:arrOf st1=mirror (arrOf st) lo (lo+n) ((lo+n-lo) / 2):=by rw [<-hst]
 rw [<-e1] at r;refine wpS_bind (ZaI W L (ah.kd.trans hs) (G.perm ah.pm) (by rw [ah.size];exact hn) h1 h2 r λm k1 k2 k3 _=>?_);dsimp only;exact wpS_pure (q m st1 ah (by lia) k2 k3)
theorem Xh (W:WO b)(L:LtOk M A E s kd b good){st:SortSt}{lo n qW:Nat}{Q:Option Nat->SortSt->Prop}(hs:kindOf st=kd)(G:AllG good (arrOf st))(hn:lo+qW<=(arrOf st).size)(h2:n+1<=qW)(h3:ZbC b (arrOf st) lo (lo+(n+1)))(q:Zgd b lo qW st Q):wpS M A E s (Zm lo n qW) Q st:=by
 unfold Zm;refine wpS_bind (wpS_lift (wpAny_rule ⟨rfl,?_⟩));have fin:∀m neq st1,Ah lo st st1->n+1<=m->m<=qW->ZbC b (arrOf st1) lo (lo+m)->neq+1<=m->ZaJ b (arrOf st1) (lo+m-(neq+1)) (lo+m) ->
   wpS M A E s (if neq > 0 then (do reverseSlice' (lo+m-(neq+1)) (lo+m);Xf lo m qW) else Xf lo m qW) Q st1:=by
  intro m neq st1 ah k1 k2 k3 k4 k5;have G1:=G.perm ah.pm;have hn1:lo+qW<=(arrOf st1).size:=by rw [ah.size];exact hn
  split
  ·rw [reverseSlice'_eq];refine wpS_bind (wpS_modify ?_);have ah2:=O5 (st:=st1) (lo:=lo) (i:=lo+m-(neq+1)) (j:=lo+m) (by lia) (by lia);have r:=OJ (arr:=arrOf st1) (lo:=lo) (hi:=lo+m) (i:=lo+m-(neq+1)) (j:=lo+m) (by lia) (by lia) (by lia) (Nat.le_refl _) k5 k3;generalize hst:setArr st1 (mirror (arrOf st1) (lo+m-(neq+1)) (lo+m) ((lo+m-(lo+m-(neq+1))) / 2))=st2 at ah2;have e1:arrOf st2=mirror (arrOf st1) (lo+m-(neq+1)) (lo+m) ((lo+m-(lo+m-(neq+1))) / 2):=by rw [<-hst]
   rw [<-e1] at r;have ah3:=ah.trans ah2;exact Xg W L (ah3.kd.trans hs) (G.perm ah3.pm) (by rw [ah3.size];exact hn) (by lia) k2 r λm' st' a'=>q m' st' (ah3.trans a')
  ·exact Xg W L (ah.kd.trans hs) G1 hn1 (by lia) k2 k3 λm' st' a'=>q m' st' (ah.trans a')
 have al0:∀(arr:Array Keyed) m,ZaJ b arr (lo+m-(0+1)) (lo+m):=λarr m i j x y i1 i2 i3 i4 e1 e2=>by
  have:i=j:=by lia
  subst this;rw [e1] at e2;cases e2;exact W.le_refl _
 refine wpS_bind (wpS_forRange (λk r st1=>Ah lo st st1/\∃neq,r=(none,k,neq)/\n+1<=k/\k<=qW/\ZbC b (arrOf st1) lo (lo+k)/\neq+1<=k/\ZaJ b (arrOf st1) (lo+k-(neq+1)) (lo+k)) ?_ ?_ ⟨Ah.refl _ _,0,rfl,Nat.le_refl _,h2,h3,by lia,al0 _ _⟩)
 ·rintro k r st1 _ hk ⟨ah,neq,rfl,k1,k2,k3,k4,k5⟩;have G1:=G.perm ah.pm;have hn1:lo+qW<=(arrOf st1).size:=by rw [ah.size];exact hn
  have hs1:=ah.kd.trans hs;unfold ZfF;refine wpS_bind (O4 L hs1 G1 (by show lo+k<_;lia) (by show lo+k-1<_;lia) λy x hy hx=>?_);dsimp only;split
  ·rename_i hb;have hyx:=W.le_of_lt hb;split
   ·rw [reverseSlice'_eq];refine wpS_bind (wpS_modify ?_);have ah2:=O5 (st:=st1) (lo:=lo) (i:=lo+k-(neq+1)) (j:=lo+k) (by lia) (by lia);have r:=OJ (arr:=arrOf st1) (lo:=lo) (hi:=lo+k) (i:=lo+k-(neq+1)) (j:=lo+k) (by lia) (by lia) (by lia) (Nat.le_refl _) k5 k3;have e3:(mirror (arrOf st1) (lo+k-(neq+1)) (lo+k) ((lo+k-(lo+k-(neq+1))) / 2))[lo+k]?=some y:=by rw [getElem?_mirror_all (by lia),if_neg (by lia)];exact hy
    have e4:∃z,(mirror (arrOf st1) (lo+k-(neq+1)) (lo+k) ((lo+k-(lo+k-(neq+1))) / 2))[lo+k-1]?=some z/\kle b y z:=by
     obtain ⟨z,hz,_⟩:=G1.at (i:=lo+k-(neq+1)) (by lia);refine ⟨z,?_,W.le_trans hyx (k3 (lo+k-(neq+1)) (lo+k-1) z x (by lia) (by lia) (by lia) hz hx)⟩;rw [getElem?_mirror_all (by lia),if_pos (by lia),<-hz]
     congr 1
     lia
    generalize hst:setArr st1 (mirror (arrOf st1) (lo+k-(neq+1)) (lo+k) ((lo+k-(lo+k-(neq+1))) / 2))=st2 at ah2;have e1:arrOf st2=mirror (arrOf st1) (lo+k-(neq+1)) (lo+k) ((lo+k-(lo+k-(neq+1))) / 2):=by rw [<-hst]
    rw [<-e1] at r e3 e4;obtain ⟨z,hz,hyz⟩:=e4;exact wpS_pure ⟨ah.trans ah2,0,rfl,by lia,by lia,Oh W r (by lia) hz e3 hyz,by lia,al0 _ _⟩
   ·exact wpS_pure ⟨ah,0,rfl,by lia,by lia,Oh W k3 (by lia) hx hy hyx,by lia,al0 _ _⟩
  ·rename_i hb;have hxy:kle b x y:=Bool.eq_false_iff.mpr hb;refine wpS_bind (O4 L hs1 G1 (by show lo+k-1<_;lia) (by show lo+k<_;lia) λx' y' hx' hy'=>?_);rw [hx] at hx';cases hx';rw [hy] at hy';cases hy';dsimp only;split
   ·refine wpS_pure ?_;dsimp only;exact fin k neq st1 ah k1 k2 k3 k4 k5
   ·rename_i hb2;have hyx:kle b y x:=Bool.eq_false_iff.mpr hb2;refine wpS_pure ⟨ah,neq+1,rfl,by lia,by lia,Oh W k3 (by lia) hx hy hyx,by lia,λi j u v i1 i2 i3 i4 e1 e2=>?_⟩;have toX:∀i u,lo+k-(neq+1)<=i->i<lo+(k+1)->(arrOf st1)[i]?=some u->kle b u x/\kle b x u:=λi u p1 p2 e=>by
     by_cases hi:i<lo+k
     ·exact ⟨k5 i (lo+k-1) u x p1 hi (by lia) (by lia) e hx,k5 (lo+k-1) i x u (by lia) (by lia) p1 hi hx e⟩
     ·have:i=lo+k:=by lia
      subst this;rw [hy] at e;cases e;exact ⟨hyx,hxy⟩
    exact W.le_trans (toX i u (by lia) i2 e1).1 (toX j v (by lia) i4 e2).2
 ·rintro r st1 ⟨ah,neq,rfl,k1,k2,k3,k4,k5⟩;dsimp only;rw [Nat.max_eq_right h2] at *;exact fin qW neq st1 ah k1 k2 k3 k4 k5
theorem Wk (W:WO b)(L:LtOk M A E s kd b good){st:SortSt}{lo qW:Nat}{Q:Option Nat->SortSt->Prop}(hs:kindOf st=kd)(G:AllG good (arrOf st))(hn:lo+qW<=(arrOf st).size)(h1:1<=qW)(q:Zgd b lo qW st Q):wpS M A E s (countRun' lo qW) Q st:=by
 rw [XR];refine wpS_bind (ZaI W L hs G hn (Nat.le_refl _) h1 (ZdP _ W _) λn k1 k2 k3 k4=>?_);dsimp only;split
 ·exact wpS_pure (q n st (Ah.refl _ _) k1 k2 k3)
 ·rename_i e;have e:n≠qW:=λz=>e (beq_iff_eq.mpr z);obtain ⟨x,y,hx,hy,hb⟩:=k4.resolve_left e;have hyx:=W.le_of_lt hb;split
  ·rename_i e1;refine wpS_bind (O4 L hs G (by lia) (by lia) λu v hu hv=>?_);rw [hx] at hv;cases hv;dsimp only;split
   ·exact wpS_pure (q n st (Ah.refl _ _) k1 k2 k3)
   ·rename_i hb2;have hxu:kle b x u:=Bool.eq_false_iff.mpr hb2;have al:ZaJ b (arrOf st) lo (lo+n):=λi j p r i1 i2 i3 i4 e1 e2=>
     W.le_trans (k3 i (lo+n-1) p x i1 (by lia) (by lia) e1 hx) (W.le_trans hxu (k3 lo j u r (Nat.le_refl _) i3 i4 hu e2))
    have ni:ZbC b (arrOf st) lo (lo+n):=λi j p r i1 i2 i3 e1 e2=>al j i r p (by lia) i3 i1 (by lia) e2 e1;rw [reverseSlice'_eq];refine wpS_bind (wpS_modify ?_);have ah:=O5 (st:=st) (lo:=lo) (i:=lo) (j:=lo+n) (Nat.le_refl _) (by lia);have r:=OJ (arr:=arrOf st) (lo:=lo) (hi:=lo+n) (i:=lo) (j:=lo+n) (by lia) (Nat.le_refl _) (by lia) (Nat.le_refl _) al ni;have e3:(mirror (arrOf st) lo (lo+n) ((lo+n-lo) / 2))[lo+n]?=some y:=by rw [getElem?_mirror_all (by lia),if_neg (by lia)];exact hy
    have e4:(mirror (arrOf st) lo (lo+n) ((lo+n-lo) / 2))[lo+n-1]?=some u:=by
     rw [getElem?_mirror_all (by lia),if_pos (by lia),<-hu]
     congr 1
     lia
    generalize hst:setArr st (mirror (arrOf st) lo (lo+n) ((lo+n-lo) / 2))=st2 at ah;have e1:arrOf st2=mirror (arrOf st) lo (lo+n) ((lo+n-lo) / 2):=by rw [<-hst]
    rw [<-e1] at r e3 e4;exact Xh W L (ah.kd.trans hs) (G.perm ah.pm) (by rw [ah.size];exact hn) (by lia) (Oh W r (by lia) e4 e3 (W.le_trans hyx hxu)) λm' st' a'=>q m' st' (ah.trans a')
  ·have:n=1:=by lia
   subst this;refine Xh W L hs G hn (by lia) (Oh W (λi j p r i1 i2 i3 e1 e2=>?_) (by lia) hx hy hyx) q;have:i=j:=by lia
   subst this;rw [e1] at e2;cases e2;exact W.le_refl _
end
end L2
namespace L2
open PySem PySem.Spec PyProof.Rows
section
variable {M:Model}{A:Around}{E:Aa->SS->Prop}{s:SS}{kd:SortKind}{b:Keyed->Keyed->Bool}{good:Keyed->Prop}
theorem Zo (W:WO b){arr:Array Keyed}{lo k l:Nat}{p:Keyed}(hk:lo+k<arr.size)(hl:l<=k)(h:Rng b arr lo (lo+k))(hp:arr[lo+k]?=some p)(h1:∀i x,i<l->arr[lo+i]?=some x->kle b x p)(h2:∀i x,l<=i->i<k->arr[lo+i]?=some x->kle b p x) :
  Rng b (bubble arr (lo+k) (lo+k-(lo+l))) lo (lo+(k+1)):=by
 have e0:lo+k-(lo+k-(lo+l))=lo+l:=by lia
 have at_:∀q,(bubble arr (lo+k) (lo+k-(lo+l)))[q]?=if q=lo+l then some p else if lo+l<q/\q<=lo+k then arr[q-1]? else arr[q]?:=λq=>by
  rw [getElem?_bubble hk _ (by lia),e0,hp]
 intro i j x y i1 i2 i3 e1 e2;rw [at_] at e1 e2;have low:∀q z,lo<=q->q<lo+l->arr[q]?=some z->kle b z p:=λq z q1 q2 e=>h1 (q-lo) z (by lia) (by rw [Nat.add_sub_cancel' q1];exact e);have high:∀q z,lo+l<=q->q<lo+k->arr[q]?=some z->kle b p z:=λq z q1 q2 e=>h2 (q-lo) z (by lia) (by lia) (by rw [Nat.add_sub_cancel' (by lia)];exact e);by_cases ci:i=lo+l
 ·rw [if_pos ci] at e1;cases e1;by_cases cj:j=lo+l
  ·rw [if_pos cj] at e2;cases e2;exact W.le_refl _
  ·rw [if_neg cj,if_pos (by lia)] at e2;exact high (j-1) y (by lia) (by lia) e2
 ·rw [if_neg ci] at e1;by_cases di:lo+l<i/\i<=lo+k
  ·rw [if_pos di] at e1;rw [if_neg (by lia),if_pos (by lia)] at e2;exact h (i-1) (j-1) x y (by lia) (by lia) (by lia) e1 e2
  ·rw [if_neg di] at e1;by_cases cj:j=lo+l
   ·rw [if_pos cj] at e2;cases e2;exact low i x i1 (by lia) e1
   ·rw [if_neg cj] at e2;by_cases dj:lo+l<j/\j<=lo+k
    ·rw [if_pos dj] at e2;exact h i (j-1) x y i1 (by lia) (by lia) e1 e2
    ·rw [if_neg dj] at e2;exact h i j x y i1 i2 (by lia) e1 e2
theorem ZaK {st:SortSt}{lo src d:Nat}(h1:src<(arrOf st).size)(h2:d<=src)(h3:lo<=src-d):Ah lo st (setArr st (bubble (arrOf st) src d)):=by
 refine ⟨rfl,rfl,rfl,bubble_perm _ _ _,λk hk=>?_⟩;show (bubble (arrOf st) src d)[k]?=_;rw [getElem?_bubble h1 _ h2,if_neg (by lia),if_neg (by lia)]
theorem Zp (W:WO b)(L:LtOk M A E s kd b good){st:SortSt}{lo n ok:Nat}{Q:Bool->SortSt->Prop}(hs:kindOf st=kd)(G:AllG good (arrOf st))(hn:lo+n<=(arrOf st).size)(h1:1<=ok)(h2:ok<=n)(h3:Rng b (arrOf st) lo (lo+ok))(q:∀st',Ah lo st st'->Rng b (arrOf st') lo (lo+n)->Q true st'):wpS M A E s (binarySort' lo n ok) Q st:=by
 rw [binarySort'_eq,Nat.max_eq_left h1];refine wpS_bind (wpS_forRange (λk r st1=>Ah lo st st1/\r=(none,())/\ok<=k/\k<=n/\Rng b (arrOf st1) lo (lo+k)) ?_ ?_ ⟨Ah.refl _ _,rfl,Nat.le_refl _,h2,h3⟩)
 ·rintro k r st1 _ hk ⟨ah,rfl,k1,k2,k3⟩;have G1:=G.perm ah.pm;have hn1:lo+n<=(arrOf st1).size:=by rw [ah.size];exact hn
  have hs1:=ah.kd.trans hs;obtain ⟨p,hp,gp⟩:=G1.at (i:=lo+k) (by lia);have fin:∀l,l<=k->(∀i x,i<l->(arrOf st1)[lo+i]?=some x->kle b x p)->(∀i x,l<=i->i<k->(arrOf st1)[lo+i]?=some x->kle b p x) ->
    wpS M A E s (do moveDown' (lo+k) (lo+l);pure (ForInStep.yield ((none,()):Option Bool×Unit))) (λr st'=>match r with
     | .done c'=>False
     | .yield c'=>Ah lo st st'/\c'=(none,())/\ok<=k+1/\k+1<=n/\Rng b (arrOf st') lo (lo+(k+1))) st1:=by
   intro l hl g1 g2;rw [moveDown'_eq];refine wpS_bind (wpS_modify ?_);have ah2:=ZaK (st:=st1) (lo:=lo) (src:=lo+k) (d:=lo+k-(lo+l)) (by lia) (by lia) (by lia);exact wpS_pure ⟨ah.trans ah2,rfl,by lia,by lia,Zo W (by lia) hl k3 hp g1 g2⟩
  dsimp only;refine wpS_bind (wpS_forRange (λi c st'=>st'=st1/\∃l r,c=(none,l,r)/\l<=r/\r<=k/\r-l<=k-i/\(∀i x,i<l->(arrOf st1)[lo+i]?=some x->kle b x p)/\(∀i x,r<=i->i<k->(arrOf st1)[lo+i]?=some x->kle b p x)) ?_ ?_ ⟨rfl,0,k,rfl,by lia,by lia,by lia,λi x hi=>by lia,λi x h1 h2=>by lia⟩)
  ·rintro i c st' _ hi ⟨rfl,l,r,rfl,g1,g2,g3,g4,g5⟩;dsimp only;split
   ·have:l=r:=by lia
    subst this;refine wpS_pure ?_;dsimp only;exact wpS_mono (fin l g2 g4 g5) λr st' hr=>by
     cases r with
     | done z=>exact False.elim hr
     | yield z=>exact hr
   ·refine wpS_bind (O4 L hs1 G1 (by lia) (by lia) λp' m hp' hm=>?_);rw [hp] at hp';cases hp';dsimp only;split
    ·rename_i hb;refine wpS_pure ⟨rfl,_,_,rfl,by lia,by lia,by lia,g4,λj x j1 j2 e=>?_⟩;exact W.le_trans (W.le_of_lt hb) (k3 _ (lo+j) m x (by lia) (by lia) (by lia) hm e)
    ·rename_i hb;refine wpS_pure ⟨rfl,_,_,rfl,by lia,by lia,by lia,λj x j1 e=>?_,g5⟩;exact W.le_trans (k3 (lo+j) _ x m (by lia) (by lia) (by lia) e hm) (Bool.eq_false_iff.mpr hb)
  ·rintro c st' ⟨rfl,l,r,rfl,g1,g2,g3,g4,g5⟩;have:l=r:=by simp at g3;lia
   subst this;dsimp only;exact wpS_mono (fin l g2 g4 g5) λr st' hr=>by
     cases r with
     | done z=>exact False.elim hr
     | yield z=>exact hr
 ·rintro r st1 ⟨ah,rfl,k1,k2,k3⟩;dsimp only;rw [Nat.max_eq_right h2] at k3;exact wpS_pure (q st1 ah k3)
end
end L2
namespace L2
open PySem PySem.Spec PyProof.Rows
def O6 (arr:Array Keyed)(base:Nat)(l:List Keyed):Array Keyed:=List.foldl (λa (x:Keyed×Nat)=>a.setIfInBounds (base+x.2) x.1) arr l.zipIdx
def Zcg (sa:Nat)(merged:Array Keyed):StateT SortSt Sem Bool:=do
 modify λs=>setArr s (O6 (arrOf s) sa merged.toList)
 let s <- get
 pure (failedOf s).isNone
def ZeX (st:SortSt)(sa na sb nb:Nat):StateT SortSt Sem Bool:=(if (nb == 0)=true then pure true else (if na<=nb then (do
  let m <- We ((arrOf st).extract sa sb) ((arrOf st).extract sb (sb+nb))
  Zcg sa m) else (do
  let m <- Wf ((arrOf st).extract sa sb) ((arrOf st).extract sb (sb+nb))
  Zcg sa m)))
def ZeY (st:SortSt)(sa na sb nb:Nat):StateT SortSt Sem Bool:=(if (na == 0)=true then pure true else (do
  let y <- elem' (arrOf st) (sa+na-1)
  match <- Og true y (arrOf st) sb nb (nb-1) with
  | some nb=>ZeX st sa na sb nb
  | _=>pure false))
theorem XS (i:Nat):mergeAt' i=(do
  let st <- get
  match (pendingOf st)[i]?,(pendingOf st)[i+1]? with
  | some (sa,na,power),some (sb,nb,_)=>do
   set (setPending st (((pendingOf st).setIfInBounds i (sa,na+nb,power)).eraseIdxIfInBounds (i+1)))
   let x <- elem' (arrOf st) sb
   match <- Og false x (arrOf st) sa na 0 with
   | some k=>ZeY st (sa+k) (na-k) sb nb
   | _=>pure false
  | _,_=>liftM (unsupported "internal:list.sort.pending")):=by
 refine Je (m:=get) λst=>?_;cases (pendingOf st)[i]? with
 | none=>rfl
 | some p=>
  cases (pendingOf st)[i+1]? with
  | none=>rfl
  | some q=>
   obtain ⟨sa,na,pw⟩:=p;obtain ⟨sb,nb,pw'⟩:=q
   rfl
end L2
namespace L2
open PySem PySem.Spec PyProof.Rows
theorem Zc7:∀(l:List Keyed)(arr:Array Keyed)(base n i:Nat),base+n+l.length<=arr.size ->
  (List.foldl (λa (x:Keyed×Nat)=>a.setIfInBounds (base+x.2) x.1) arr (l.zipIdx n))[i]?=if base+n<=i/\i<base+n+l.length then l[i-(base+n)]? else arr[i]?
 | [],arr,base,n,i,_=>by
  rw [if_neg (by simp)]
  rfl
 | x::l,arr,base,n,i,h=>by
  rw [List.zipIdx_cons,List.foldl_cons];rw [List.length_cons] at h;have ih:=Zc7 l (arr.setIfInBounds (base+n) x) base (n+1) i (by rw [Array.size_setIfInBounds];lia);refine ih.trans ?_;rw [List.length_cons];by_cases h1:base+(n+1)<=i/\i<base+(n+1)+l.length
  ·rw [if_pos h1,if_pos (by lia)];rw [show i-(base+n)=(i-(base+(n+1)))+1 by lia,List.getElem?_cons_succ]
  ·rw [if_neg h1,Array.getElem?_setIfInBounds];by_cases h2:base+n=i
   ·subst h2;rw [if_pos rfl,if_pos (by lia),if_pos (by lia),Nat.sub_self]
    rfl
   ·rw [if_neg h2,if_neg (by lia)]
theorem Zc8 {arr:Array Keyed}{base:Nat}{l:List Keyed}(h:base+l.length<=arr.size)(i:Nat):(O6 arr base l)[i]?=if base<=i/\i<base+l.length then l[i-base]? else arr[i]?:=Zc7 l arr base 0 i h
theorem Zch {arr:Array Keyed}{base:Nat}{l:List Keyed}(h:base+l.length<=arr.size)(p:l.Perm ((arr.toList.drop base).take l.length)):(O6 arr base l).Perm arr:=by
 have e:(O6 arr base l).toList=arr.toList.take base++l++arr.toList.drop (base+l.length):=by
  refine List.ext_getElem? λi=>?_;have hl:arr.toList.length=arr.size:=Array.length_toList;rw [Array.getElem?_toList,Zc8 h];rw [List.append_assoc,List.getElem?_append,List.length_take,hl,Nat.min_eq_left (by lia)];by_cases h1:i<base
  ·rw [if_neg (by lia),if_pos h1,List.getElem?_take,if_pos h1,Array.getElem?_toList]
  ·rw [if_neg h1,List.getElem?_append];by_cases h2:i<base+l.length
   ·rw [if_pos (by lia),if_pos (by lia)]
   ·rw [if_neg (by lia),if_neg (by lia),List.getElem?_drop,Array.getElem?_toList]
    congr 1
    lia
 have e2:arr.toList=arr.toList.take base++(arr.toList.drop base).take l.length++arr.toList.drop (base+l.length):=by
  rw [List.append_assoc,<-List.drop_drop,List.take_append_drop,List.take_append_drop]
 rw [Array.perm_iff_toList_perm,e];exact ((List.Perm.append_left _ p).append_right _).trans (.of_eq e2.symm)
section
variable {M:Model}{A:Around}{E:Aa->SS->Prop}{s:SS}{kd:SortKind}{b:Keyed->Keyed->Bool}{good:Keyed->Prop}
theorem UN {arr:Array Keyed}{lo mid hi:Nat}(h1:Rng b arr lo mid)(h2:Rng b arr mid hi)(h3:∀i j x y,lo<=i->i<mid->mid<=j->j<hi->arr[i]?=some x->arr[j]?=some y->kle b x y):Rng b arr lo hi:=λi j x y i1 i2 i3 e1 e2=>by
 by_cases c1:j<mid
 ·exact h1 i j x y i1 i2 c1 e1 e2
 ·by_cases c2:i<mid
  ·exact h3 i j x y i1 c2 (by lia) i3 e1 e2
  ·exact h2 i j x y (by lia) i2 i3 e1 e2
theorem Zc9 {arr:Array Keyed}{lo hi:Nat}(hh:hi<=arr.size)(h:Rng b arr lo hi):(arr.extract lo hi).toList.Pairwise (kle b):=by
 rw [List.pairwise_iff_getElem];intro i j hi' hj' hij;have sz:(arr.extract lo hi).toList.length=hi-lo:=by rw [Array.length_toList,Array.size_extract,Nat.min_eq_left hh]
 refine h (lo+i) (lo+j) _ _ (by lia) (by lia) (by lia) ?_ ?_
 ·simp [Array.getElem_extract]
 ·simp [Array.getElem_extract]
end
end L2
namespace L2
open PySem PySem.Spec PyProof.Rows
section
variable {M:Model}{A:Around}{E:Aa->SS->Prop}{s:SS}{kd:SortKind}{b:Keyed->Keyed->Bool}{good:Keyed->Prop}
def MgQ (b:Keyed->Keyed->Bool)(st:SortSt)(lo hi:Nat)(Q:Bool->SortSt->Prop):Prop:=∀st',kindOf st'=kindOf st->pendingOf st'=pendingOf st->failedOf st'=failedOf st->(arrOf st').Perm (arrOf st) ->
 (∀i,i<lo\/hi<=i->(arrOf st')[i]?=(arrOf st)[i]?)->Rng b (arrOf st') lo hi->Q true st'
structure GalF (b:Keyed->Keyed->Bool)(arr:Array Keyed)(sa k sb nb hi:Nat):Prop where
 k0:sa<=k
 k1:k<sb
 n0:0<nb
 n1:sb+nb<=hi
 ra:Rng b arr sa sb
 rb:Rng b arr sb hi
 lowA:∀i x y,sa<=i->i<k->arr[i]?=some x->arr[sb]?=some y->kle b x y
 highA:∀i x y,k<=i->i<sb->arr[i]?=some x->arr[sb]?=some y->kle b y x
 lowB:∀i x y,sb<=i->i<sb+nb->arr[i]?=some x->arr[sb-1]?=some y->kle b x y
 highB:∀i x y,sb+nb<=i->i<hi->arr[i]?=some x->arr[sb-1]?=some y->kle b y x
theorem GalF.two {arr:Array Keyed}{sa k sb nb hi:Nat}(F:GalF b arr sa k sb nb hi)(hh:hi<=arr.size)(G:AllG good arr):Two b good (arr.extract k sb) (arr.extract sb (sb+nb)):=by
 have h0:=F.k0;have h1:=F.k1;have h2:=F.n0;have h3:=F.n1;have memG:∀{i j x},x∈(arr.extract i j).toList->good x:=λ{i j x} hx=>by
  obtain ⟨q,_,_,e⟩:=XO hx;rw [<-Array.getElem?_toList] at e;exact G x (List.mem_of_getElem? e)
 refine ⟨λx=>memG,λx=>memG,Zc9 (by lia) λi j x y i1 i2 i3=>F.ra i j x y (by lia) i2 i3,Zc9 (by lia) λi j x y i1 i2 i3=>F.rb i j x y i1 i2 (by lia),by rw [Array.size_extract];lia,by rw [Array.size_extract];lia,λx hx y hy=>?_,λz hz y hy=>?_⟩
 ·have hx:arr[sb]?=some x:=by
   rw [Array.getElem?_extract,if_pos (by lia)] at hx;exact hx
  obtain ⟨q,q1,q2,e⟩:=XO hy;exact F.highA q y x q1 q2 e hx
 ·have hz:arr[sb-1]?=some z:=by
   rw [Array.size_extract,Array.getElem?_extract,if_pos (by lia)] at hz;rw [<-hz]
   congr 1
   lia
  obtain ⟨q,q1,q2,e⟩:=XO hy;exact F.lowB q y z q1 (by lia) e hz
theorem GalF.fin (W:WO b){st:SortSt}{sa k sb nb hi:Nat}{Q:Bool->SortSt->Prop}(F:GalF b (arrOf st) sa k sb nb hi)(hh:hi<=(arrOf st).size)(q:MgQ b st sa hi Q)(hf:failedOf st=none){m:Array Keyed}{st1:SortSt}(sg:SameG st st1)(hm:Jl b (((arrOf st).extract k sb).toList++((arrOf st).extract sb (sb+nb)).toList) m.toList):wpS M A E s (Zcg k m) Q st1:=by
 have h0:=F.k0;have h1:=F.k1;have h2:=F.n0;have h3:=F.n1;unfold Zcg;refine wpS_bind (wpS_modify (wpS_bind (wpS_get (wpS_pure ?_))));show Q (failedOf st1).isNone _;rw [sg.2.2.2,hf];have hl:m.toList.length=sb+nb-k:=by
  have:=hm.1.length_eq;rw [List.length_append,Array.length_toList,Array.length_toList,Array.length_toList,Array.size_extract,Array.size_extract] at this;rw [Array.length_toList]
  lia
 have hb:k+m.toList.length<=(arrOf st).size:=by lia
 have e1:((arrOf st).toList.drop k).take m.toList.length=((arrOf st).extract k sb).toList++((arrOf st).extract sb (sb+nb)).toList:=by
  have x1:((arrOf st).extract k (sb+nb)).toList=((arrOf st).toList.drop k).take m.toList.length:=by
   rw [hl,Array.toList_extract,List.extract_eq_take_drop]
  rw [<-x1,<-Array.toList_append,Array.extract_append_extract]
  congr 2 <;> lia
 have at_:=Zc8 (arr:=arrOf st) (base:=k) (l:=m.toList) hb;have mem:∀i x,k<=i->i<sb+nb->(O6 (arrOf st) k m.toList)[i]?=some x->(∃j,k<=j/\j<sb/\(arrOf st)[j]?=some x)\/(∃j,sb<=j/\j<sb+nb/\(arrOf st)[j]?=some x):=λi x i1 i2 e=>by
  rw [at_,if_pos (by lia)] at e;have hx:=hm.1.mem_iff.mp (List.mem_of_getElem? e);rcases List.mem_append.mp hx with hx | hx
  ·exact .inl (XO hx)
  ·exact .inr (XO hx)
 obtain ⟨b0,hb0⟩:∃x,(arrOf st)[sb]?=some x:=⟨_,Array.getElem?_eq_getElem (by lia)⟩;obtain ⟨aL,haL⟩:∃x,(arrOf st)[sb-1]?=some x:=⟨_,Array.getElem?_eq_getElem (by lia)⟩;refine q _ sg.1 sg.2.2.1 ?_ ?_ (λi hi'=>?_) ?_
 ·show failedOf st1=failedOf st;exact sg.2.2.2
 ·show (O6 (arrOf st1) k m.toList).Perm (arrOf st);rw [sg.2.1];exact Zch hb (hm.1.trans (.of_eq e1.symm))
 ·show (O6 (arrOf st1) k m.toList)[i]?=_;rw [sg.2.1,at_,if_neg (by lia)]
 ·show Rng b (O6 (arrOf st1) k m.toList) sa hi;rw [sg.2.1];have old:∀i,i<k\/sb+nb<=i->(O6 (arrOf st) k m.toList)[i]?=(arrOf st)[i]?:=λi hi'=>by rw [at_,if_neg (by lia)]
  refine UN (mid:=k) (λi j x y i1 i2 i3 e1 e2=>?_) (UN (mid:=sb+nb) (λi j x y i1 i2 i3 e1 e2=>?_) (λi j x y i1 i2 i3 e1 e2=>?_) (λi j x y i1 i2 i3 i4 e1 e2=>?_)) (λi j x y i1 i2 i3 i4 e1 e2=>?_)
  ·rw [old i (by lia)] at e1;rw [old j (by lia)] at e2;exact F.ra i j x y i1 i2 (by lia) e1 e2
  ·rw [at_,if_pos (by lia)] at e1 e2;exact Zb9 W hm.2 (by lia) e1 e2
  ·rw [old i (by lia)] at e1;rw [old j (by lia)] at e2;exact F.rb i j x y (by lia) i2 i3 e1 e2
  ·rw [old j (by lia)] at e2;rcases mem i x i1 i2 e1 with ⟨p,p1,p2,e⟩ | ⟨p,p1,p2,e⟩
   ·exact W.le_trans (F.ra p (sb-1) x aL (by lia) (by lia) (by lia) e haL) (F.highB j y aL i3 i4 e2 haL)
   ·exact F.rb p j x y p1 (by lia) i4 e e2
  ·rw [old i (by lia)] at e1;have xb:=F.lowA i x b0 i1 i2 e1 hb0;by_cases cj:j<sb+nb
   ·rcases mem j y i3 cj e2 with ⟨p,p1,p2,e⟩ | ⟨p,p1,p2,e⟩
    ·exact F.ra i p x y i1 (by lia) p2 e1 e
    ·exact W.le_trans xb (F.rb sb p b0 y (Nat.le_refl _) p1 (by lia) hb0 e)
   ·rw [old j (by lia)] at e2;exact W.le_trans xb (F.rb sb j b0 y (Nat.le_refl _) (by lia) i4 hb0 e2)
theorem XT (W:WO b)(L:LtOk M A E s kd b good){st:SortSt}{i sa na sb nb pw pw':Nat}{Q:Bool->SortSt->Prop}(hs:kindOf st=kd)(hf:failedOf st=none)(G:AllG good (arrOf st))(p1:(pendingOf st)[i]?=some (sa,na,pw))(p2:(pendingOf st)[i+1]?=some (sb,nb,pw'))(e:sb=sa+na)(hna:0<na)(hnb:0<nb)(hh:sb+nb<=(arrOf st).size)(ra:Rng b (arrOf st) sa sb)(rb:Rng b (arrOf st) sb (sb+nb))(q:MgQ b (setPending st (((pendingOf st).setIfInBounds i (sa,na+nb,pw)).eraseIdxIfInBounds (i+1))) sa (sb+nb) Q):wpS M A E s (mergeAt' i) Q st:=by
 subst e;rw [XS];refine wpS_bind (wpS_get ?_);rw [p1,p2];dsimp only;refine wpS_bind ?_;show wpS M A E s (set _) _ st;refine (show wpS M A E s (modify λ_=>setPending st (((pendingOf st).setIfInBounds i (sa,na+nb,pw)).eraseIdxIfInBounds (i+1))) _ st from wpS_modify ?_);generalize hst:setPending st (((pendingOf st).setIfInBounds i (sa,na+nb,pw)).eraseIdxIfInBounds (i+1))=st1 at q;have ea:arrOf st1=arrOf st:=by rw [<-hst]
 have ek:kindOf st1=kd:=by rw [<-hst];exact hs
 have ef:failedOf st1=none:=by rw [<-hst];exact hf
 rw [<-ea] at G hh ra rb ⊢;obtain ⟨b0,hb0,gb0⟩:=G.at (i:=sa+na) (by lia);obtain ⟨aL,haL,gaL⟩:=G.at (i:=sa+na-1) (by lia);refine wpS_bind (Gy hb0 ?_);have G1:Gal b good false b0 (arrOf st1) sa na:=VH W gb0 (λi hi=>G.at (by lia)) ra;refine wpS_bind (Jx L G1 ek hna λk hk k1 k2=>?_);have lowA:∀i x y,sa<=i->i<sa+k->(arrOf st1)[i]?=some x->(arrOf st1)[sa+na]?=some y->kle b x y:=λi x y i1 i2 e1 e2=>by
  rw [hb0] at e2;cases e2;have:=k1 (i-sa) (by lia);unfold byd at this;rw [Nat.add_sub_cancel' i1,e1] at this;dsimp only at this;rw [if_neg Bool.false_ne_true,Bool.not_eq_true'] at this;exact this
 have highA:∀i x y,sa+k<=i->i<sa+na->(arrOf st1)[i]?=some x->(arrOf st1)[sa+na]?=some y->kle b y x:=λi x y i1 i2 e1 e2=>by
  rw [hb0] at e2;cases e2;have:=k2 (i-sa) (by lia) (by lia);unfold byd at this;rw [Nat.add_sub_cancel' (by lia),e1] at this;dsimp only at this;rw [if_neg Bool.false_ne_true,Bool.not_eq_false'] at this;exact W.le_of_lt this
 dsimp only;unfold ZeY;rw [show arrOf st=arrOf st1 from ea.symm];split
 ·rename_i e0;have e0:na-k=0:=eq_of_beq e0;refine wpS_pure (q st1 rfl rfl rfl (.refl _) (λ_ _=>rfl) (UN ra rb λi j x y i1 i2 i3 i4 e1 e2=>?_));exact W.le_trans (lowA i x b0 i1 (by lia) e1 hb0) (rb (sa+na) j b0 y (Nat.le_refl _) i3 i4 hb0 e2)
 ·rename_i e0;have e0:na-k≠0:=λz=>e0 (beq_iff_eq.mpr z);refine wpS_bind (Gy (show (arrOf st1)[sa+k+(na-k)-1]?=some aL by rw [<-haL];congr 1;lia) ?_);have G2:Gal b good true aL (arrOf st1) (sa+na) nb:=VH W gaL (λi hi=>G.at (by lia)) rb;refine wpS_bind (Jx L G2 ek (by lia) λnb' hk' k1' k2'=>?_);have lowB:∀i x y,sa+na<=i->i<sa+na+nb'->(arrOf st1)[i]?=some x->(arrOf st1)[sa+na-1]?=some y->kle b x y:=λi x y i1 i2 e1 e2=>by
   rw [haL] at e2;cases e2;have:=k1' (i-(sa+na)) (by lia);unfold byd at this;rw [Nat.add_sub_cancel' i1,e1] at this;dsimp only at this;rw [if_pos rfl] at this;exact W.le_of_lt this
  have highB:∀i x y,sa+na+nb'<=i->i<sa+na+nb->(arrOf st1)[i]?=some x->(arrOf st1)[sa+na-1]?=some y->kle b y x:=λi x y i1 i2 e1 e2=>by
   rw [haL] at e2;cases e2;have:=k2' (i-(sa+na)) (by lia) (by lia);unfold byd at this;rw [Nat.add_sub_cancel' (by lia),e1] at this;dsimp only at this;rw [if_pos rfl] at this;exact this
  dsimp only;unfold ZeX;split
  ·rename_i e1;have e1:nb'=0:=eq_of_beq e1;refine wpS_pure (q st1 rfl rfl rfl (.refl _) (λ_ _=>rfl) (UN ra rb λi j x y i1 i2 i3 i4 f1 f2=>?_));exact W.le_trans (ra i (sa+na-1) x aL i1 (by lia) (by lia) f1 haL) (highB j y aL (by lia) i4 f2 haL)
  ·rename_i e1;have e1:nb'≠0:=λz=>e1 (beq_iff_eq.mpr z);have F:GalF b (arrOf st1) sa (sa+k) (sa+na) nb' (sa+na+nb):=⟨by lia,by lia,by lia,by lia,ra,rb,lowA,highA,lowB,highB⟩;have T:=F.two hh G;split
   ·refine wpS_bind ?_;rw [show arrOf st=arrOf st1 from ea.symm];exact XM W L T ek λr st' sg m=>F.fin W hh q ef sg m
   ·refine wpS_bind ?_;rw [show arrOf st=arrOf st1 from ea.symm];exact XQ W L T ek λr st' sg m=>F.fin W hh q ef sg m
end
end L2
namespace L2
open PySem PySem.Spec PyProof.Rows
def Runs (b:Keyed->Keyed->Bool)(arr:Array Keyed):Nat->List (Nat×Nat×Nat)->Nat->Prop
 | s,[],e=>s=e
 | s,x::rest,e=>x.1=s/\0<x.2.1/\Rng b arr s (s+x.2.1)/\Runs b arr (s+x.2.1) rest e
section
variable {b:Keyed->Keyed->Bool}{arr arr':Array Keyed}
theorem Runs.le:∀{p:List (Nat×Nat×Nat)}{s e:Nat},Runs b arr s p e->s+p.length<=e
 | [],s,e,h=>by have h:s=e:=h;simp [h]
 | x::p,s,e,h=>by
  have:=Runs.le h.2.2.2;have:=h.2.1;rw [List.length_cons]
  lia
theorem Runs.app:∀{u v:List (Nat×Nat×Nat)}{s e:Nat},Runs b arr s (u++v) e↔∃m,Runs b arr s u m/\Runs b arr m v e
 | [],v,s,e=>⟨λh=>⟨s,rfl,h⟩,λ⟨m,h1,h2⟩=>by have h1:s=m:=h1;rw [h1];exact h2⟩
 | x::u,v,s,e=>by
  constructor
  ·rintro ⟨h1,h2,h3,h4⟩;obtain ⟨m,k1,k2⟩:=Runs.app.mp h4;exact ⟨m,⟨h1,h2,h3,k1⟩,k2⟩
  ·rintro ⟨m,⟨h1,h2,h3,k1⟩,k2⟩;exact ⟨h1,h2,h3,Runs.app.mpr ⟨m,k1,k2⟩⟩
theorem Runs.keep:∀{p:List (Nat×Nat×Nat)}{s e:Nat},Runs b arr s p e->(∀i,s<=i->i<e->arr'[i]?=arr[i]?)->Runs b arr' s p e
 | [],_,_,h,_=>h
 | x::p,s,e,h,k=>by
  have:=Runs.le h.2.2.2;refine ⟨h.1,h.2.1,λi j u v i1 i2 i3 e1 e2=>?_,Runs.keep h.2.2.2 λi i1 i2=>k i (by lia) i2⟩;rw [k i i1 (by lia)] at e1;rw [k j (by lia) (by lia)] at e2;exact h.2.2.1 i j u v i1 i2 i3 e1 e2
theorem Runs.push {p:List (Nat×Nat×Nat)}{s lo n pw:Nat}(h:Runs b arr s p lo)(hn:0<n)(hr:Rng b arr lo (lo+n)):Runs b arr s (p++[(lo,n,pw)]) (lo+n):=
 Runs.app.mpr ⟨lo,h,rfl,hn,hr,rfl⟩
theorem Runs.two {p:List (Nat×Nat×Nat)}{i e sa na pw sb nb pw':Nat}(h:Runs b arr 0 p e)(h1:p[i]?=some (sa,na,pw))(h2:p[i+1]?=some (sb,nb,pw')) :
  sb=sa+na/\0<na/\0<nb/\sb+nb<=e/\Rng b arr sa sb/\Rng b arr sb (sb+nb) /\
   ((∀i,i<sa\/sb+nb<=i->arr'[i]?=arr[i]?)->Rng b arr' sa (sb+nb)->Runs b arr' 0 ((p.set i (sa,na+nb,pw)).eraseIdx (i+1)) e):=by
 obtain ⟨l1,e1⟩:=List.getElem?_eq_some_iff.mp h1;obtain ⟨l2,e2⟩:=List.getElem?_eq_some_iff.mp h2;have d:p=p.take i++(sa,na,pw)::(sb,nb,pw')::p.drop (i+2):=by
  conv=>lhs;rw [<-List.take_append_drop i p,List.drop_eq_getElem_cons l1,e1,List.drop_eq_getElem_cons l2,e2]
 have hl:(p.take i).length=i:=by rw [List.length_take];lia
 generalize p.take i=u at d hl;generalize p.drop (i+2)=v at d;subst d;obtain ⟨m,k1,k2,k3,k4,k5,k6,k7,k8⟩:=Runs.app.mp h;have k2:sa=m:=k2;have k3:0<na:=k3;have k5:sb=m+na:=k5;have k6:0<nb:=k6;have k4:Rng b arr m (m+na):=k4;have k7:Rng b arr (m+na) (m+na+nb):=k7;have k8:Runs b arr (m+na+nb) v e:=k8;subst k2 k5;have k9:sa+na+nb+v.length<=e:=k8.le;refine ⟨rfl,k3,k6,by lia,k4,k7,λho hr=>?_⟩;have es:((u++(sa,na,pw)::(sa+na,nb,pw')::v).set i (sa,na+nb,pw)).eraseIdx (i+1)=u++(sa,na+nb,pw)::v:=by
  rw [List.set_append,if_neg (by lia),hl,Nat.sub_self,List.set_cons_zero,List.eraseIdx_append_of_length_le (by lia),hl,Nat.add_sub_cancel_left]
  rfl
 rw [es];refine Runs.app.mpr ⟨sa,k1.keep λj j1 j2=>ho j (.inl j2),rfl,by show 0<na+nb;lia,by show Rng b arr' sa (sa+(na+nb));rw [<-Nat.add_assoc];exact hr,?_⟩;show Runs b arr' (sa+(na+nb)) v e;rw [<-Nat.add_assoc];exact k8.keep λj j1 j2=>ho j (.inr j1)
theorem Runs.pow:∀{p:List (Nat×Nat×Nat)}{s e:Nat}(i:Nat)(f:Nat×Nat×Nat->Nat×Nat×Nat),(∀x,(f x).1=x.1/\(f x).2.1=x.2.1)->Runs b arr s p e->Runs b arr s (p.modify i f) e
 | [],_,_,i,f,_,h=>by cases i <;> exact h
 | x::p,s,e,0,f,hf,h=>by
  rw [List.modify_zero_cons];obtain ⟨q1,q2⟩:=hf x;refine ⟨q1.trans h.1,by rw [q2];exact h.2.1,by rw [q2];exact h.2.2.1,by rw [q2];exact h.2.2.2⟩
 | x::p,s,e,i+1,f,hf,h=>by
  rw [List.modify_succ_cons];exact ⟨h.1,h.2.1,h.2.2.1,Runs.pow i f hf h.2.2.2⟩
theorem Runs.one (W:WO b){p:List (Nat×Nat×Nat)}{e:Nat}(h:Runs b arr 0 p e)(hl:p.length<=1):Rng b arr 0 e:=by
 match p,h,hl with
 | [],h,_=>
  have h:0=e:=h;subst h;intro i j x y i1 i2 i3
  lia
 | [x],h,_=>
  have h4:0+x.2.1=e:=h.2.2.2;rw [<-h4];exact h.2.2.1
end
end L2
namespace L2
open PySem PySem.Spec PyProof.Rows
section
variable {M:Model}{A:Around}{E:Aa->SS->Prop}{s:SS}{kd:SortKind}{b:Keyed->Keyed->Bool}{good:Keyed->Prop}
structure SI (b:Keyed->Keyed->Bool)(kd:SortKind)(st0 st:SortSt)(lo:Nat):Prop where
 ki:kindOf st=kd
 fa:failedOf st=none
 pm:(arrOf st).Perm (arrOf st0)
 ru:Runs b (arrOf st) 0 (pendingOf st).toList lo
theorem SI.size {st0 st:SortSt}{lo:Nat}(h:SI b kd st0 st lo):(arrOf st).size=(arrOf st0).size:=h.pm.size_eq
theorem SI.merge (W:WO b)(L:LtOk M A E s kd b good){st0 st:SortSt}{lo i:Nat}{Q:Bool->SortSt->Prop}(G:AllG good (arrOf st0))(h:SI b kd st0 st lo)(hlo:lo<=(arrOf st0).size)(hi:i+1<(pendingOf st).size)(q:∀st',SI b kd st0 st' lo->(pendingOf st').size+1=(pendingOf st).size->(∀i,lo<=i->(arrOf st')[i]?=(arrOf st)[i]?)->Q true st'):wpS M A E s (mergeAt' i) Q st:=by
 obtain ⟨⟨sa,na,pw⟩,p1⟩:∃x,(pendingOf st)[i]?=some x:=⟨_,Array.getElem?_eq_getElem (by lia)⟩;obtain ⟨⟨sb,nb,pw'⟩,p2⟩:∃x,(pendingOf st)[i+1]?=some x:=⟨_,Array.getElem?_eq_getElem hi⟩;have two:=λarr'=>Runs.two (arr':=arr') h.ru (by rw [Array.getElem?_toList];exact p1) (by rw [Array.getElem?_toList];exact p2);obtain ⟨t1,t2,t3,t4,t5,t6,_⟩:=two (arrOf st);have hsz:=h.size;refine XT W L h.ki h.fa (G.perm h.pm) p1 p2 t1 t2 t3 (by lia) t5 t6 λst' k1 k2 k3 k4 k5 k6=>?_;have e0:arrOf (setPending st (((pendingOf st).setIfInBounds i (sa,na+nb,pw)).eraseIdxIfInBounds (i+1)))=arrOf st:=rfl;rw [e0] at k4 k5;have e1:pendingOf st'=((pendingOf st).setIfInBounds i (sa,na+nb,pw)).eraseIdxIfInBounds (i+1):=k2;have e2:(pendingOf st').toList=((pendingOf st).toList.set i (sa,na+nb,pw)).eraseIdx (i+1):=by
  rw [e1,Array.toList_eraseIdxIfInBounds,Array.toList_setIfInBounds]
 refine q st' ⟨k1.trans h.ki,k3.trans h.fa,k4.trans h.pm,?_⟩ ?_ λj hj=>k5 j (.inr (by lia))
 ·rw [e2];exact (two (arrOf st')).2.2.2.2.2.2 k5 k6
 ·have:=congrArg List.length e2;rw [Array.length_toList,List.length_eraseIdx,List.length_set,Array.length_toList,if_pos hi] at this
  lia
theorem UE (W:WO b)(L:LtOk M A E s kd b good){st:SortSt}{Q:Unit->SortSt->Prop}(hs:kindOf st=kd)(hf:failedOf st=none)(hp:pendingOf st=#[])(G:AllG good (arrOf st))(q:∀st',(arrOf st').Perm (arrOf st)->failedOf st'=none->Rng b (arrOf st') 0 (arrOf st).size->Q () st'):wpS M A E s sortRuns' Q st:=by
 rw [sortRuns'_eq];refine wpS_bind (wpS_get ?_);dsimp only;generalize hsz:(arrOf st).size=size at q;generalize minRun' size size 0=minrun;refine wpS_bind (wpS_mono (Q:=λr st1=>r=(none,size)/\SI b kd st st1 size) (wpS_forRange (λk r st1=>∃lo,r=(none,lo)/\k<=lo/\lo<=size/\SI b kd st st1 lo) ?_ ?_ ⟨0,rfl,Nat.le_refl _,Nat.zero_le _,hs,hf,.refl _,by rw [hp];rfl⟩) ?_)
 ·rintro k r st1 _ hk ⟨lo,rfl,k1,k2,I⟩;dsimp only;split
  ·have:lo=size:=by lia
   subst this;exact wpS_pure ⟨rfl,I⟩
  ·rename_i hlo;have s1:(arrOf st1).size=size:=I.size.trans hsz;refine wpS_bind (Wk W L I.ki (G.perm I.pm) (by lia) (by lia) λn st2 ah n1 n2 n3=>?_);have I2:SI b kd st st2 lo:=⟨ah.kd.trans I.ki,ah.fa.trans I.fa,ah.pm.trans I.pm,by rw [ah.pe];exact I.ru.keep λi _ hi=>ah.lw i hi⟩;dsimp only;have pushed:∀st3 n,SI b kd st st3 lo->0<n->Rng b (arrOf st3) lo (lo+n)->SI b kd st (setPending st3 ((pendingOf st3).push (lo,n,0))) (lo+n):=by
    intro st3 n I3 n1 n3;refine ⟨I3.ki,I3.fa,I3.pm,?_⟩;show Runs b (arrOf st3) 0 ((pendingOf st3).push (lo,n,0)).toList (lo+n);rw [Array.toList_push];exact I3.ru.push n1 n3
   have pow:∀st3 pw,SI b kd st st3 lo->SI b kd st (setPending st3 ((pendingOf st3).modify ((pendingOf st3).size-1) λx=>(x.1,x.2.1,pw))) lo:=by
    intro st3 pw I3;refine ⟨I3.ki,I3.fa,I3.pm,?_⟩;show Runs b (arrOf st3) 0 ((pendingOf st3).modify ((pendingOf st3).size-1) λx=>(x.1,x.2.1,pw)).toList lo;rw [Array.toList_modify];exact I3.ru.pow _ _ λx=>⟨rfl,rfl⟩
   split
   ·rename_i hmr;refine wpS_bind (wpS_lift (wpAny_rule ⟨rfl,?_⟩));have s2:(arrOf st2).size=size:=I2.size.trans hsz;refine wpS_bind (Zp W L I2.ki (G.perm I2.pm) (by lia) n1 (by lia) n3 λst3 ah3 r3=>?_);have I3:SI b kd st st3 lo:=⟨ah3.kd.trans I2.ki,ah3.fa.trans I2.fa,ah3.pm.trans I2.pm,by rw [ah3.pe];exact I2.ru.keep λi _ hi=>ah3.lw i hi⟩;rw [show (!true)=false from rfl,if_neg Bool.false_ne_true];have hN:1<=min (size-lo) minrun/\lo+min (size-lo) minrun<=size:=by lia
    clear hmr;generalize min (size-lo) minrun=N at r3 hN;refine wpS_bind (wpS_get ?_);cases hbk:(pendingOf st3).back? with
    | none=>exact wpS_bind (wpS_modify (wpS_pure ⟨_,rfl,by lia,by lia,pushed st3 _ I3 (by lia) r3⟩))
    | some x=>
     obtain ⟨s1,n1,pw1⟩:=x;dsimp only;refine wpS_bind (wpS_mono (Q:=λr st4=>r=(none,())/\SI b kd st st4 lo/\∀i,lo<=i->(arrOf st4)[i]?=(arrOf st3)[i]?) (wpS_forRange (λ_ r st4=>r=(none,())/\SI b kd st st4 lo/\∀i,lo<=i->(arrOf st4)[i]?=(arrOf st3)[i]?) ?_ (λ_ _ z=>z) ⟨rfl,I3,λ_ _=>rfl⟩) ?_)
     ·rintro k' r st4 _ hk' ⟨rfl,I4,same⟩;refine wpS_bind (wpS_get ?_);by_cases hz:(pendingOf st4).size > 1
      ·obtain ⟨⟨z1,z2,z3⟩,pz⟩:∃x,(pendingOf st4)[(pendingOf st4).size-2]?=some x:=⟨_,Array.getElem?_eq_getElem (by lia)⟩;rw [if_pos hz,pz];dsimp only;split
       ·exact wpS_pure ⟨rfl,I4,same⟩
       ·refine wpS_bind (I4.merge W L G (by lia) (by lia) λst5 I5 _ same5=>?_);rw [show (!true)=false from rfl,if_neg Bool.false_ne_true];exact wpS_pure ⟨rfl,I5,λi hi=>(same5 i hi).trans (same i hi)⟩
      ·rw [if_neg hz];exact wpS_pure ⟨rfl,I4,same⟩
     ·rintro r st4 ⟨rfl,I4,same⟩;dsimp only;refine wpS_bind (wpS_modify (wpS_bind (wpS_modify (wpS_pure ⟨_,rfl,by lia,by lia,?_⟩))));refine pushed _ _ (pow st4 _ I4) (by lia) λi j x y i1 i2 i3 e1 e2=>?_;have e1:(arrOf st4)[i]?=some x:=e1;have e2:(arrOf st4)[j]?=some y:=e2;rw [same i i1] at e1;rw [same j (by lia)] at e2;exact r3 i j x y i1 i2 i3 e1 e2
   ·have hN:1<=n/\lo+n<=size:=by lia
    refine wpS_bind (wpS_get ?_);cases hbk:(pendingOf st2).back? with
    | none=>exact wpS_bind (wpS_modify (wpS_pure ⟨_,rfl,by lia,by lia,pushed st2 _ I2 (by lia) n3⟩))
    | some x=>
     obtain ⟨s1,n1,pw1⟩:=x;dsimp only;refine wpS_bind (wpS_mono (Q:=λr st4=>r=(none,())/\SI b kd st st4 lo/\∀i,lo<=i->(arrOf st4)[i]?=(arrOf st2)[i]?) (wpS_forRange (λ_ r st4=>r=(none,())/\SI b kd st st4 lo/\∀i,lo<=i->(arrOf st4)[i]?=(arrOf st2)[i]?) ?_ (λ_ _ z=>z) ⟨rfl,I2,λ_ _=>rfl⟩) ?_)
     ·rintro k' r st4 _ hk' ⟨rfl,I4,same⟩;refine wpS_bind (wpS_get ?_);by_cases hz:(pendingOf st4).size > 1
      ·obtain ⟨⟨z1,z2,z3⟩,pz⟩:∃x,(pendingOf st4)[(pendingOf st4).size-2]?=some x:=⟨_,Array.getElem?_eq_getElem (by lia)⟩;rw [if_pos hz,pz];dsimp only;split
       ·exact wpS_pure ⟨rfl,I4,same⟩
       ·refine wpS_bind (I4.merge W L G (by lia) (by lia) λst5 I5 _ same5=>?_);rw [show (!true)=false from rfl,if_neg Bool.false_ne_true];exact wpS_pure ⟨rfl,I5,λi hi=>(same5 i hi).trans (same i hi)⟩
      ·rw [if_neg hz];exact wpS_pure ⟨rfl,I4,same⟩
     ·rintro r st4 ⟨rfl,I4,same⟩;dsimp only;refine wpS_bind (wpS_modify (wpS_bind (wpS_modify (wpS_pure ⟨_,rfl,by lia,by lia,?_⟩))));refine pushed _ _ (pow st4 _ I4) (by lia) λi j x y i1 i2 i3 e1 e2=>?_;have e1:(arrOf st4)[i]?=some x:=e1;have e2:(arrOf st4)[j]?=some y:=e2;rw [same i i1] at e1;rw [same j (by lia)] at e2;exact n3 i j x y i1 i2 i3 e1 e2
 ·rintro r st1 ⟨lo,rfl,k1,k2,I⟩;have:lo=size:=by simp at k1;lia
  subst this;exact ⟨rfl,I⟩
 ·rintro r st1 ⟨rfl,I⟩;dsimp only;refine wpS_bind (wpS_mono (Q:=λr st2=>r=(none,())/\SI b kd st st2 size/\(pendingOf st2).size<=1) (wpS_forRange (λk r st2=>r=(none,())/\SI b kd st st2 size/\(pendingOf st2).size+k<=size+1) ?_ ?_ ⟨rfl,I,?_⟩) ?_)
  ·rintro k r st2 _ hk ⟨rfl,I2,hz⟩;refine wpS_bind (wpS_get ?_);split
   ·rename_i h1;exact wpS_pure ⟨rfl,I2,h1⟩
   ·rename_i h1;generalize hi:(if Option.any _ _=true then (pendingOf st2).size-2-1 else (pendingOf st2).size-2)=i;have hi2:i+1<(pendingOf st2).size:=by
     rw [<-hi];have key:∀(c:Prop)[Decidable c](m:Nat),(if c then m-1 else m)<=m:=λc _ m=>by split <;> lia
     refine Nat.lt_of_le_of_lt (Nat.succ_le_succ (key _ ((pendingOf st2).size-2))) ?_
     lia
    refine wpS_bind (I2.merge W L G (by lia) hi2 λst3 I3 h3 _=>?_);rw [show (!true)=false from rfl,if_neg Bool.false_ne_true];exact wpS_pure ⟨rfl,I3,by lia⟩
  ·rintro r st2 ⟨rfl,I2,hz⟩;exact ⟨rfl,I2,by simp at hz;lia⟩
  ·have:=I.ru.le;rw [Array.length_toList] at this
   lia
  ·rintro r st2 ⟨rfl,I2,h1⟩;refine wpS_pure (q st2 I2.pm I2.fa ?_);exact I2.ru.one W (by rw [Array.length_toList];exact h1)
end
end L2
namespace L2
open PySem PySem.Spec PyProof.Rows
section
variable {prog:PP}{w:Ab}{A:Around}{E:Aa->SS->Prop}{s:SS}{kd:SortKind}{b:Keyed->Keyed->Bool}{good:Keyed->Prop}
def Oi (s:SS)(a:AD)(vs:LW):SS:={ s with heap:=((s.heap.update a (Obj.mapSeq λ_=>#[])).push (seqObj "tuple" vs.toArray 0)).push (seqObj "list" #[] 0) }
theorem ZaL (W:WO b){arr:Array Keyed}(h:arr.size<2):Rng b arr 0 arr.size:=λi j x y i1 i2 i3 e1 e2=>by
 have:i=j:=by lia
 subst this;rw [e1] at e2;cases e2;exact W.le_refl _
theorem O7 {a:AD}{vs:LW}{n:Nat}{P:PySem.Fin->SS->Prop}(W:WO b)(ha:s.heap.get? a=some (seqObj "list" vs.toArray n))(hz:vs.length<=sizeLine)(hg:∀v∈vs,good (v,v))(hk:2<=vs.length->∀{E':Aa->SS->Prop}{R:SortKind->SS->Prop},R kd (Oi s a vs)->wpAny (model prog w) A (keyKind' vs.toArray) R E' (Oi s a vs))(L:LtOk (model prog w) A E (Oi s a vs) kd b good)(q:∀out:Array Keyed,out.Perm (pairsOf vs)->Rng b out 0 vs.length->P (.done (.ret .none)) { s with heap:=sortedHeap s.heap a vs (out.map (·.2)) }) :
  wpAny (model prog w) A (Builtin.«list.sort» { pos:=[.ref a] }) P E s:=by
 rw [list_sort_plain];refine wpAny_bind (listItems_at ha rfl ?_);refine wpAny_bind (listUpdate_at ha rfl ?_ (by rw [List.size_toArray];exact hz) (Nat.zero_le _));have ha1:=get?_update_seq ha (λ_=>#[]);generalize (if ((#[]:Array Aa).size == vs.toArray.size)=true then n else n+1)=n1 at ha1;refine wpAny_bind (seqEpoch_at ha1 rfl ?_);refine wpAny_bind (wpAny_newTuple ?_ hz);refine wpAny_bind (wpAny_newList ?_ (Nat.zero_le _));refine wpAny_holding ?_;have ha2:(Oi s a vs).heap.get? a=some (seqObj "list" #[] n1):=Heap.get?_push_of_some _ (Heap.get?_push_of_some _ ha1);show wpAny (model prog w) A _ P E (Oi s a vs);have hps:(pairsOf vs).size=vs.length:=pairsOf_size vs;dsimp only [List.size_toArray];split
 ·rename_i h2;have h2:vs.length<2:=by simpa using h2
  refine wpAny_bind (wpAny_pure ?_);refine wpAny_bind (wpAny_mono (Q:=λr s'=>s'=Oi s a vs/\failedOf r.2=none/\(arrOf r.2).Perm (pairsOf vs)/\Rng b (arrOf r.2) 0 vs.length) (wpAny_pure ⟨rfl,rfl,.refl _,?_⟩) ?_ (λ_ _ z=>z))
  ·have:=ZaL W (arr:=pairsOf vs) (by lia);rw [hps] at this;exact this
  ·rintro ⟨_,st⟩ s' ⟨rfl,e2,hp,hr⟩;dsimp only;refine wpAny_bind (seqEpoch_at ha2 rfl ?_);have e2:failedOf st=none:=e2;have hl:((arrOf st).map (·.2)).size<=sizeLine+1:=by
    have this:(arrOf st).size=(pairsOf vs).size:=hp.size_eq;rw [pairsOf_size] at this;rw [Array.size_map]
    lia
   refine wpAny_bind (listUpdate_at ha2 rfl ?_ (Nat.zero_le _) hl);have:(n1 != n1)=false:=by simp
   rw [this,e2];exact wpAny_pure (q (arrOf st) hp hr)
 ·rename_i h2;have h2:¬ vs.length<2:=by simpa using h2
  refine wpAny_bind (hk (by lia) ?_);refine wpAny_bind (wpAny_mono (Q:=λr s'=>s'=Oi s a vs/\failedOf r.2=none/\(arrOf r.2).Perm (pairsOf vs)/\Rng b (arrOf r.2) 0 vs.length) ?_ ?_ (λ_ _ z=>z))
  ·refine UE (st:=SortSt.mk' kd (vs.toArray.zip vs.toArray) #[] 7 none) (Q:=λ_ st=>failedOf st=none/\(arrOf st).Perm (pairsOf vs)/\Rng b (arrOf st) 0 vs.length) W L rfl rfl rfl (λx hx=>?_) λst' k1 k2 k3=>⟨k2,k1,?_⟩
   ·have hx:x∈(pairsOf vs).toList:=hx;rw [pairsOf_toList] at hx;obtain ⟨e,hm⟩:=mem_zip_self hx;obtain ⟨x1,x2⟩:=x;have e:x1=x2:=e;subst e;exact hg _ hm
   ·have e:(arrOf (SortSt.mk' kd (vs.toArray.zip vs.toArray) #[] 7 none)).size=vs.length:=hps;rw [e] at k3;exact k3
  ·rintro ⟨_,st⟩ s' ⟨rfl,e2,hp,hr⟩;dsimp only;refine wpAny_bind (seqEpoch_at ha2 rfl ?_);have e2:failedOf st=none:=e2;have hl:((arrOf st).map (·.2)).size<=sizeLine+1:=by
    have this:(arrOf st).size=(pairsOf vs).size:=hp.size_eq;rw [pairsOf_size] at this;rw [Array.size_map]
    lia
   refine wpAny_bind (listUpdate_at ha2 rfl ?_ (Nat.zero_le _) hl);have:(n1 != n1)=false:=by simp
   rw [this,e2];exact wpAny_pure (q (arrOf st) hp hr)
theorem J4 {h:Heap}{a c:AD}{o:Obj}{f:Obj->Obj}(hc:c≠a)(e:h.get? c=some o):(h.update a f).get? c=some o:=(Heap.get?_update_ne h c a f hc).trans e
theorem Ut {l:AD}{vs:LW}{Q:Aa->SS->Prop}(W:WO b)(hl:s.heap.IsList l vs.toArray)(hz:vs.length<=sizeLine)(hg:∀v∈vs,good (v,v))(hk:∀h':Heap,(∀c o,s.heap.get? c=some o->h'.get? c=some o)->2<=vs.length->∀{E':Aa->SS->Prop}{R:SortKind->SS->Prop},R kd { s with heap:=h' }->wpAny (model prog w) A.in1.in1 (keyKind' vs.toArray) R E' { s with heap:=h' })(L:∀h':Heap,(∀c o,s.heap.get? c=some o->h'.get? c=some o)->LtOk (model prog w) A.in1.in1 E { s with heap:=h' } kd b good)(q:∀out:Array Keyed,out.Perm (pairsOf vs)->Rng b out 0 vs.length->Q (.ref (s.heap.objs.size+1)) { s with heap:=sortedAll s.heap vs (out.map (·.2)) }) :
  wpAny (model prog w) A (call (.builtin "sorted") [.ref l]) Q E s:=by
 refine Calls.call_function_entry kind_sorted plain_sorted entry_sorted (args_sorted1 _) ?_;unfold Builtin.sorted;refine wpAny_bind (wpAny_pure ?_);refine wpAny_bind (collect_list hl ?_ hz);refine wpAny_bind (wpAny_newList ?_ hz);refine wpAny_bind (wpAny_holding ?_);generalize hh1:(s.heap.push (seqObj "list" #[] 0)).update s.heap.objs.size (Obj.mapSeq λx=>x++vs.toArray)=h1;have sz1:h1.objs.size=s.heap.objs.size+1:=by rw [<-hh1,Heap.size_update,Heap.size_push]
 have k1:∀c o,s.heap.get? c=some o->h1.get? c=some o:=λc o e=>by
  rw [<-hh1];exact J4 (Nat.ne_of_lt (Heap.lt_size e)) (Heap.get?_push_of_some _ e)
 generalize hh2:h1.push { cls:=Value.type "list", data:=Data.seq vs.toArray }=h2;have ha:h2.get? h1.objs.size=some (seqObj "list" vs.toArray 0):=by rw [<-hh2];exact Heap.get?_push_size _ rfl
 have k2:∀c o,s.heap.get? c=some o->h2.get? c=some o:=λc o e=>by
  rw [<-hh2];exact Heap.get?_push_of_some _ (k1 c o e)
 have k3:∀c o,s.heap.get? c=some o->(Oi { s with heap:=h2 } h1.objs.size vs).heap.get? c=some o:=λc o e=>by
  unfold Oi;refine Heap.get?_push_of_some _ (Heap.get?_push_of_some _ (J4 ?_ (k2 c o e)));have:=Heap.lt_size e;rw [sz1];exact Nat.ne_of_lt (Nat.lt_succ_of_lt this)
 refine wpAny_call_entry (s:={ s with heap:=h2 }) slot_list_sort ⟨_,ha,rfl⟩ entry_list_sort ?_ (args_list_sort _);refine O7 (s:={ s with heap:=h2 }) W ha hz hg (λh=>hk _ k3 h) (L _ k3) λout p r=>⟨.none,rfl,wpAny_pure ⟨_,rfl,?_⟩⟩;have e:({ s with heap:=sortedHeap h2 h1.objs.size vs (out.map (·.2)) }:SS)={ s with heap:=sortedAll s.heap vs (out.map (·.2)) }:=by
  unfold sortedAll;rw [sz1,<-hh2,<-hh1]
 show Q (.ref h1.objs.size) { s with heap:=sortedHeap h2 h1.objs.size vs (out.map (·.2)) };rw [e,sz1];exact q out p r
def ZhW:Keyed->Keyed->Bool:=λx y=>match x.1,y.1 with
 | .int i _,.int j _=>decide (i<j)
 | _,_=>false
def ZbD:Aa->Int
 | .int i _=>i
 | _=>0
end
end L2
namespace L2
open PySem PySem.Spec PyProof.Rows
section
variable {X:Cx}(K:FF)
theorem ZdQ {tg:Expr}{l:Expr}{tl:TE}(hl:PE X l tl)(h:X.K=K:=by rfl):PI X tg l (ZgZ K tl):=h▸Zes hl
end
end L2
namespace L2
open PySem PySem.Spec PyProof.Rows
theorem Zci {K:PySem.W.Frag}{a D:AD}{xs:List V}{g:TG}{tc:TT}{te:TE}{σ0:St}{R:Hp->Prop}{H1:Hp}(Pv:Nat->List V->Hp->Prop)(h0:Pv 0 [] (upd H1 D (.lst [])))(hl:∀i ys H,i<=xs.length->Pv i ys H->SqT K H a xs)(hs:∀i x ys H,xs[i]?=some x->Pv i ys H->g x σ0 H λσ4 H4=>OU σ0 σ4/\tc σ4 H4 λb H5=>if b=true then te σ4 H5 λy H6=>H6 D=some (.lst ys)/\ys.length<sizeLine/\Pv (i+1) (ys++[y]) (upd H6 D (.lst (ys++[y]))) else Pv (i+1) ys H5)(hd:∀ys H,Pv xs.length ys H->R H):∃W:Nat->Nat->List V->Hp->Prop,(∃m,W 0 m [] (upd H1 D (.lst [])))/\JA (Itt K a) D g tc te σ0 W R:=by
 refine ⟨λi m ys H=>m=xs.length-i/\i<=xs.length/\Pv i ys H,⟨_,rfl,Nat.zero_le _,h0⟩,?_⟩;rintro i m ys H ⟨rfl,hi,p⟩;have q:=hl i ys H hi p;by_cases hlt:i<xs.length
 ·refine .inr ⟨⟨xs,xs[i],q,by simp [hlt]⟩,Pv (i+1),λys' H' p'=>⟨xs.length-(i+1),by lia,rfl,hlt,p'⟩,λx H' y=>?_⟩;obtain ⟨e,y⟩:=y;subst e;exact hs i x ys _ (y xs q) p
 ·have e:i=xs.length:=by lia
  subst e;exact .inl ⟨⟨xs,q,Nat.le_refl _⟩,hd ys H p⟩
end L2
namespace L2
open PySem PySem.Spec PyProof.Rows
section
variable {prog:PP}{w:Ab}{A:Around}{E:Aa->SS->Prop}{s:SS}
theorem lt_int {x y:Int}{t u:Tok}{Q:Aa->SS->Prop}(h:Q (.bool (decide (x<y))) s):wpAny (model prog w) A (richCompare .Lt (.int x t) (.int y u)) Q E s:=
 CmpOf.ints_lt (P:=λi v=>∃t,v=.int (if i=0 then x else y) t) (λi=>if i=0 then x else y) (λ_ _ p=>p) 0 1 _ _ s Q E ⟨t,rfl⟩ ⟨u,rfl⟩ h
end
end L2
namespace L2
open PySem PySem.Spec PyProof.Rows
def Jq:LI->LI->Bool
 | [],[]=>false
 | [],_::_=>true
 | _::_,[]=>false
 | x::xs,y::ys=>if x=y then Jq xs ys else decide (x<y)
section
variable {prog:PP}{w:Ab}{A:Around}{E:Aa->SS->Prop}{s:SS}
theorem Wl:∀{its:LW}{ns:LI},IntsAre its ns->∀k:Nat,(its[k]?=none/\ns.drop k=[])\/∃i t,its[k]?=some (.int i t)/\ns.drop k=i::ns.drop (k+1)
 | _,_,.nil,k=>.inl ⟨by simp,by simp⟩
 | _,_,.cons n t h,0=>.inr ⟨n,t,rfl,rfl⟩
 | _,_,.cons n t h,k+1=>by
  rcases Wl h k with ⟨h1,h2⟩ | ⟨i,t,h1,h2⟩
  ·exact .inl ⟨by simpa using h1,by simpa using h2⟩
  ·exact .inr ⟨i,t,by simpa using h1,by simpa using h2⟩
theorem JJ {its:LW}{ns:LI}(h:IntsAre its ns):its.length=ns.length:=by
 induction h with
 | nil=>rfl
 | cons n t h ih=>simp [ih]
theorem ZdR {a c:AD}{oa oc:Obj}{xs ys:LW}{ns ms:LI}{na nc:Nat}{R:Result->SS->Prop}(ga:s.heap.get? a=some oa)(gc:s.heap.get? c=some oc)(da:oa.data=.seq xs.toArray na)(dc:oc.data=.seq ys.toArray nc)(hx:IntsAre xs ns)(hy:IntsAre ys ms) :
  ∀left k:Nat,ns.length-k=left->k<=ns.length->k<=ms.length->R (.ok (.ret (.bool (Jq (ns.drop k) (ms.drop k))))) s->codeAny (model prog w) A (.builtin "list.__eq__.loop" { pos:=[.ref a,.ref c,rawInt (k:Int),rawInt 0] }) R s:=by
 intro left
 induction left with
 | zero=>
  intro k hl h1 h2 hR;refine codeAny_builtin MeetsSeq3.entry_eq_loop ?_;rw [Around.under_plainId MeetsSeq3.plain_eq_loop _];show wpAny _ A.in1 (Builtin.List.listItems (.ref a) >>= _) _ _ s;refine wpAny_bind (listItems_at ga da (wpAny_bind (listItems_at gc dc ?_)));have e1:xs.toArray[((k:Int)).toNat]?=none:=by
   rw [Int.toNat_natCast];rcases Wl hx k with ⟨h,_⟩ | ⟨i,t,h,_⟩
   ·simpa using h
   ·have:=(List.getElem?_eq_some_iff.mp h).1;have:=JJ hx
    lia
  rw [e1];show wpAny _ A.in1 (Builtin.List.listItems (.ref a) >>= _) _ _ s;refine wpAny_bind (listItems_at ga da (wpAny_bind (listItems_at gc dc (wpAny_pure ?_))));show R (.ok (.ret (.bool (decide (xs.toArray.size<ys.toArray.size))))) s;have e2:Jq (ns.drop k) (ms.drop k)=decide (xs.toArray.size<ys.toArray.size):=by
   rw [List.size_toArray,List.size_toArray,JJ hx,JJ hy];have:ns.drop k=[]:=List.drop_of_length_le (by lia);rw [this];cases hd:ms.drop k with
   | nil=>
    have:=List.drop_eq_nil_iff.mp hd;rw [decide_eq_false (by lia)]
    rfl
   | cons y l=>
    have:k<ms.length:=by
     refine Nat.lt_of_not_le λh=>?_;rw [List.drop_of_length_le h] at hd;cases hd
    rw [decide_eq_true (by lia)]
    rfl
  rw [<-e2];exact hR
 | succ left ih=>
  intro k hl h1 h2 hR;refine codeAny_builtin MeetsSeq3.entry_eq_loop ?_;rw [Around.under_plainId MeetsSeq3.plain_eq_loop _];show wpAny _ A.in1 (Builtin.List.listItems (.ref a) >>= _) _ _ s;refine wpAny_bind (listItems_at ga da (wpAny_bind (listItems_at gc dc ?_)));rw [Int.toNat_natCast];rcases Wl hx k with ⟨h,z⟩ | ⟨i,t,hi,di⟩
  ·have:=List.drop_eq_nil_iff.mp z
   lia
  ·have e1:xs.toArray[k]?=some (.int i t):=by simpa using hi
   rw [e1];rcases Wl hy k with ⟨h,z⟩ | ⟨j,u,hj,dj⟩
   ·have e2:ys.toArray[k]?=none:=by simpa using h
    rw [e2];show wpAny _ A.in1 (Builtin.List.listItems (.ref a) >>= _) _ _ s;refine wpAny_bind (listItems_at ga da (wpAny_bind (listItems_at gc dc (wpAny_pure ?_))));show R (.ok (.ret (.bool (decide (xs.toArray.size<ys.toArray.size))))) s;rw [di,z] at hR;have:=List.drop_eq_nil_iff.mp z;rw [List.size_toArray,List.size_toArray,JJ hx,JJ hy,decide_eq_false (by lia)];exact hR
   ·have e2:ys.toArray[k]?=some (.int j u):=by simpa using hj
    rw [e2];rw [di,dj] at hR;show wpAny _ A.in1 (eqBool (.int i t) (.int j u) >>= _) _ _ s;refine wpAny_bind (wpAny_eqBool_int ?_);have kl:k<ms.length:=by
     have:=(List.getElem?_eq_some_iff.mp hj).1;rw [JJ hy] at this;exact this
    by_cases hij:i=j
    ·rw [show (i == j)=true by rw [hij];exact beq_self_eq_true _,if_pos rfl];refine wpAny_pure ⟨plainId_quiet MeetsSeq3.plain_eq_loop _,ih (k+1) (by lia) (by lia) (by lia) ?_⟩;unfold Jq at hR;rw [if_pos hij] at hR;exact hR
    ·rw [show (i == j)=false by rw [beq_eq_false_iff_ne];exact hij,if_neg Bool.false_ne_true];refine wpAny_bind (listItems_at ga da (wpAny_bind (listItems_at gc dc ?_)));rw [e1,e2];refine wpAny_bind (lt_int (wpAny_pure ?_));unfold Jq at hR;rw [if_neg hij] at hR;exact hR
theorem Zcj (a c:AD)(xs ys:LW)(ns ms:LI)(na nc:Nat)(hx:IntsAre xs ns)(hy:IntsAre ys ms):Meets (Builtin.«list.__lt__» { pos:=[.ref a,.ref c] }) λA R s=>
  s.heap.IsList a xs.toArray/\s.heap.IsList c ys.toArray/\R (.ok (.ret (.bool (Jq ns ms)))) s:=by
 intro prog w A R s ⟨ha,hc,hR⟩;obtain ⟨oa,ga,ca,n1,da⟩:=ha;obtain ⟨oc,gc,cc,n2,dc⟩:=hc;show wpAny _ A.in1 (isInstance (.ref c) (.type "list") >>= _) _ _ s;refine wpAny_bind (wpAny_isInstance (T := "list") ⟨oc,gc,cc⟩ (by first | rfl | decide +kernel) ?_);refine wpAny_pure ⟨plainId_quiet MeetsSeq3.plain_eq_loop _,?_⟩;exact ZdR ga gc da dc hx hy _ 0 rfl (Nat.zero_le _) (Nat.zero_le _) hR
theorem Zq {a c:AD}{xs ys:LW}{ns ms:LI}{Q:Bool->SS->Prop}(ha:s.heap.IsList a xs.toArray)(hc:s.heap.IsList c ys.toArray)(hx:IntsAre xs ns)(hy:IntsAre ys ms)(hu:A.units<cLine)(h:Q (Jq ns ms) s) :
  wpAny (model prog w) A (oneLt' true (.ref a) (.ref c)) Q E s:=by
 rw [oneLt'_eq];dsimp only;rw [if_pos rfl];refine wpAny_bind (wpAny_cRoom hu ?_);have Ta:s.TypeIs (.ref a) "list" := ha.elim λo z=>⟨o,z.1,z.2.1⟩;refine wpAny_bind (wpAny_callSpecialIfBound?_slot Ta F.slot_list_lt (call_meets F.slot_list_lt Ta F.entry_list_lt (F.args_list_lt_2 _ _) (Zcj a c xs ys ns ms 0 0 hx hy) ⟨ha,hc,?_⟩));show wpAny _ A (truthOfDropped (.bool (Jq ns ms))) Q E s;exact wpAny_truthy_bool h
end
end L2
namespace L2
open PySem PySem.Spec PyProof.Rows Classical
theorem UO:∀xs:LI,Jq xs xs=false
 | []=>rfl
 | x::xs=>by
  unfold Jq;rw [if_pos rfl];exact UO xs
theorem XU:∀{xs ys zs:LI},Jq xs ys=true->Jq ys zs=true->Jq xs zs=true
 | [],[],_,h,_=>by simp [Jq] at h
 | [],_::_,[],_,h=>by simp [Jq] at h
 | [],_::_,_::_,_,_=>rfl
 | _::_,[],_,h,_=>by simp [Jq] at h
 | _::_,_::_,[],_,h=>by simp [Jq] at h
 | x::xs,y::ys,z::zs,h1,h2=>by
  unfold Jq at h1 h2 ⊢;by_cases e1:x=y
  ·rw [if_pos e1] at h1;by_cases e2:y=z
   ·rw [if_pos e2] at h2;rw [if_pos (e1.trans e2)];exact XU h1 h2
   ·rw [if_neg e2] at h2;rw [if_neg (by rw [e1];exact e2),e1];exact h2
  ·rw [if_neg e1] at h1;have h1:=of_decide_eq_true h1;by_cases e2:y=z
   ·rw [if_neg (by rw [<-e2];exact e1),<-e2];exact decide_eq_true h1
   ·rw [if_neg e2] at h2;have h2:=of_decide_eq_true h2;rw [if_neg (by lia)];exact decide_eq_true (by lia)
theorem UP:∀{xs ys:LI},Jq xs ys=false->Jq ys xs=false->xs=ys
 | [],[],_,_=>rfl
 | [],_::_,h,_=>by simp [Jq] at h
 | _::_,[],_,h=>by simp [Jq] at h
 | x::xs,y::ys,h1,h2=>by
  unfold Jq at h1 h2;by_cases e:x=y
  ·rw [if_pos e] at h1;rw [if_pos e.symm] at h2;rw [e,UP h1 h2]
  ·rw [if_neg e] at h1;rw [if_neg (Ne.symm e)] at h2;have h1:=of_decide_eq_false h1;have h2:=of_decide_eq_false h2
   lia
theorem ZaM {α:Type}{κ:Keyed->α}{lt:α->α->Bool}(irr:∀a,lt a a=false)(tr:∀{a b c},lt a b=true->lt b c=true->lt a c=true)(tot:∀{a b},lt a b=false->lt b a=false->a=b):WO (λx y=>lt (κ x) (κ y)):=by
 refine ⟨λx=>irr _,λx y z=>tr,λx y z h=>?_⟩;cases h1:lt (κ x) (κ y) with
 | true=>exact .inl rfl
 | false=>
  cases h2:lt (κ y) (κ x) with
  | true=>exact .inr (tr h2 h)
  | false=>
   rw [<-tot h1 h2];exact .inr h
theorem Vd {α β:Type}{f:α->β}:∀{l:List β}{zs:List α},l.Perm (zs.map f)->∃zs':List α,zs'.Perm zs/\zs'.map f=l:=by
 intro l zs h;generalize hm:zs.map f=m at h
 induction h generalizing zs with
 | nil=>exact ⟨zs,.refl _,by rw [hm]⟩
 | @cons x l1 l2 _ ih=>
  cases zs with
  | nil=>simp at hm
  | cons z zs=>
   simp at hm;obtain ⟨zs',h1,h2⟩:=ih hm.2;exact ⟨z::zs',h1.cons z,by rw [List.map_cons,h2,hm.1]⟩
 | swap x y l=>
  cases zs with
  | nil=>simp at hm
  | cons z zs=>
   cases zs with
   | nil=>simp at hm
   | cons z2 zs=>
    simp at hm;exact ⟨z2::z::zs,.swap _ _ _,by simp [hm.1,hm.2.1,hm.2.2]⟩
 | trans _ _ ih1 ih2=>
  obtain ⟨zs1,h1,h2⟩:=ih2 hm;obtain ⟨zs2,h3,h4⟩:=ih1 h2;exact ⟨zs2,h3.trans h1,h4⟩
section
variable {prog:PP}{w:Ab}{A:Around}{E:Aa->SS->Prop}{s:SS}{b:Keyed->Keyed->Bool}{good:Keyed->Prop}
theorem YG (h:∀x y,good x->good y->∀{E':Aa->SS->Prop}{Q:Bool->SS->Prop},Q (b x y) s->wpAny (model prog w) A (oneLt' true x.1 y.1) Q E' s):LtOk (model prog w) A E s oneType' b good:=by
 intro x y st Q gx gy hs q;rw [lt'_eq];refine wpS_bind (wpS_get ?_);refine wpS_bind (wpS_lift ?_);rw [hs,keyLt'_oneType];exact wpAny_attempt (h x y gx gy ⟨rfl,wpS_pure q⟩)
theorem Uu {β:Type}{f:Aa->Sem β}{g:Aa->β}:∀{vs:LW}{Q:List β->SS->Prop},(∀v∈vs,∀{Q:β->SS->Prop},Q (g v) s->wpAny (model prog w) A (f v) Q E s)->Q (vs.map g) s->wpAny (model prog w) A (List.mapM f vs) Q E s
 | [],Q,_,q=>by
  rw [List.mapM_nil];exact wpAny_pure q
 | v::vs,Q,h,q=>by
  rw [List.mapM_cons];refine wpAny_bind (h v (List.mem_cons_self ..) ?_);exact wpAny_bind (Uu (λu hu=>h u (List.mem_cons_of_mem _ hu)) (wpAny_pure q))
theorem Xi {α β:Type}{m:Sem α}{f:α->β}{Q:β->SS->Prop}(h:wpAny (model prog w) A m (λa s'=>Q (f a) s') E s):wpAny (model prog w) A (f <$> m) Q E s:=by
 rw [map_eq_pure_bind];exact wpAny_bind (wpAny_mono h (λa s' z=>wpAny_pure z) λ_ _ z=>z)
theorem Ve {T:String}{vs:LW}{R:SortKind->SS->Prop}(hT:T ≠ "tuple")(h:∀v∈vs,s.TypeIs v T)(h2:2<=vs.length)(q:R oneType' s):wpAny (model prog w) A (keyKind' vs.toArray) R E s:=by
 rw [keyKind'_eq,List.mapM_toArray];have ne:(Value.type T != Value.type "tuple")=true:=by
  rw [bne_iff_ne];intro e;injection e with e
  exact hT e
 refine wpAny_bind (Xi (Uu (g:=λ_=>none) (λv hv Q q=>?_) ?_))
 ·show wpAny _ _ (typeOf v >>= _) _ _ s;refine wpAny_bind (wpAny_typeOf (h v hv) ?_);rw [if_pos ne];exact wpAny_pure q
 ·obtain ⟨v1,v2,rest,rfl⟩:∃v1 v2 rest,vs=v1::v2::rest:=by
   match vs,h2 with
   | v1::v2::rest,_=>exact ⟨v1,v2,rest,rfl⟩
  rw [if_neg (by simp)];rw [if_neg (by simp)];rw [oneTypeOnly'_eq,List.mapM_toArray];refine wpAny_bind (wpAny_bind (Xi (Uu (g:=λ_=>Value.type T) (λv hv Q q=>wpAny_typeOf (h v hv) q) ?_)));simp only [List.map_cons,List.getElem?_toArray,List.getElem?_cons_zero];refine wpAny_pure ?_;rw [if_pos (by simp)];exact wpAny_pure q
end
end L2
namespace L2
open PySem PySem.Spec PyProof.Rows Classical
def ltI (x y:Int):Bool:=decide (x<y)
theorem ZeZ:WO (λx y=>ltI (ZbD x.1) (ZbD y.1)):=ZaM (κ:=λx:Keyed=>ZbD x.1) (lt:=ltI) (λa=>by simp [ltI]) (λ{a b c} h1 h2=>by
  have h1:=of_decide_eq_true h1;have h2:=of_decide_eq_true h2;exact decide_eq_true (by lia)) (λ{a b} h1 h2=>by
  have h1:=of_decide_eq_false h1;have h2:=of_decide_eq_false h2
  lia)
theorem JK {b:Keyed->Keyed->Bool}{out:Array Keyed}{n:Nat}(h:Rng b out 0 n)(hn:out.size=n):out.toList.Pairwise (kle b):=by
 rw [List.pairwise_iff_getElem];intro i j hi hj hij;rw [Array.length_toList] at hi hj;exact h i j _ _ (Nat.zero_le _) (by lia) (by lia) (by simp [hi]) (by simp [hj])
theorem UQ {vs:LW}{out:Array Keyed}(h:out.Perm (pairsOf vs)):(out.map (·.2)).toList.Perm vs/\(∀x∈out.toList,x.1=x.2/\x.1∈vs)/\out.size=vs.length:=by
 have p:out.toList.Perm (vs.zip vs):=by
  have:=h.toList;rw [pairsOf_toList] at this;exact this
 refine ⟨?_,λx hx=>mem_zip_self (p.mem_iff.mp hx),by rw [h.size_eq,pairsOf_size]⟩;rw [Array.toList_map];have:=p.map (λx:Keyed=>x.2);rw [show (vs.zip vs).map (λx:Keyed=>x.2)=vs from List.map_snd_zip (Nat.le_refl _)] at this;exact this
noncomputable def ZdS (h:Heap)(v:Aa):LI:=if q:∃ns a its,v=.ref a/\h.IsList a its/\IntsAre its.toList ns then choose q else []
theorem Wm:∀{its:LW}{ns ms:LI},IntsAre its ns->IntsAre its ms->ns=ms
 | _,_,_,.nil,.nil=>rfl
 | _,_,_,.cons n t h,.cons _ _ k=>by rw [Wm h k]
theorem Zr {h:Heap}{a:AD}{xs ys:Array Aa}(h1:h.IsList a xs)(h2:h.IsList a ys):xs=ys:=by
 obtain ⟨o,e,_,n,d⟩:=h1;obtain ⟨o',e',_,n',d'⟩:=h2;rw [e] at e';cases e';rw [d] at d';cases d'
 rfl
theorem Wn {h:Heap}{a:AD}{its:Array Aa}{ns:LI}(hl:h.IsList a its)(hi:IntsAre its.toList ns):ZdS h (.ref a)=ns:=by
 have q:∃ns a' its,Value.ref a=.ref a'/\h.IsList a' its/\IntsAre its.toList ns:=⟨ns,a,its,rfl,hl,hi⟩;unfold ZdS;rw [dif_pos q];obtain ⟨a',its',e,h1,h2⟩:=choose_spec q;cases e;have:=Zr hl h1;subst this;exact Wm h2 hi
theorem ZdT (h:Heap):WO (λx y=>Jq (ZdS h x.1) (ZdS h y.1)):=ZaM (κ:=λx:Keyed=>ZdS h x.1) (lt:=Jq) UO XU UP
section
variable {X:Cx}(K:FF)
def Ze0:List V->Hp->VK->Prop:=λxs H Q=>∃(p:AD)(ns:LI),xs=[.ref p]/\SqL K H p (ns.map V.int)/\∀(l:AD)(ns':LI),H l=none->ns'.Perm ns->ns'.Pairwise (· <= ·)->Q (.ref l) (upd H l (.lst (ns'.map V.int)))
theorem Ze1 (h:X.K=K:=by rfl):Jt X (.builtin "sorted") (Ze0 K):=by
 subst h;intro qQ s σ H xs us Q I rv h;obtain ⟨p,ns,rfl,hq,q⟩:=h;obtain ⟨u,rfl,ru⟩:=rv.one;cases ru;obtain ⟨its,r,pl,hz⟩:=I.list hq;have hl:=r.length;rw [List.length_map] at hl hz;have hi:=Jv r;have isI:∀v∈its,∃i t,v=.int i t:=hi.all;refine Ut (good:=λx=>∃i t,x.1=.int i t) ZeZ pl.isList (by lia) isI (λh' k h2 E' R q=>?_) (λh' k=>YG λx y gx gy E' Q q=>?_) λout hp hr=>?_
 ·exact Ve (T := "int") (by decide) (λv hv=>by obtain ⟨i,t,rfl⟩:=isI v hv;exact typeIs_int _ _ _) h2 q
 ·obtain ⟨i,t,e1⟩:=gx;obtain ⟨j,u,e2⟩:=gy;simp only [e1,e2] at q ⊢;exact oneLt_int q
 ·obtain ⟨o1,o2,o3⟩:=UQ hp;obtain ⟨e,he⟩:=sortedAll_at s.heap its (out.map (·.2));have rel:∀l:List Keyed,(∀x∈l,x.1=x.2/\x.1∈its)->Vals ((l.map λx=>ZbD x.2).map V.int) (l.map (·.2)):=by
   intro l
   induction l with
   | nil=>intro _;exact .nil
   | cons x l ih=>
    intro h;obtain ⟨h1,h2⟩:=h x (List.mem_cons_self ..);obtain ⟨i,t,e⟩:=isI x.1 h2;rw [h1] at e;refine .cons ⟨t,?_⟩ (ih λy hy=>h y (List.mem_cons_of_mem _ hy));show x.2=.int (ZbD x.2) t;rw [e]
    rfl
  have rv':=rel out.toList o2;have pn:(out.toList.map λx=>ZbD x.2).Perm ns:=by
   have a1:=o1.map ZbD;rw [Array.toList_map,List.map_map] at a1;refine a1.trans (.of_eq ?_);have:∀{its:LW}{ns:LI},IntsAre its ns->its.map ZbD=ns:=by
    intro its ns h
    induction h with
    | nil=>rfl
    | cons n t h ih=>rw [List.map_cons,ih];rfl
   exact this hi
  have ps:(out.toList.map λx=>ZbD x.2).Pairwise (· <= ·):=by
   rw [List.pairwise_map];refine (JK hr o3).imp_of_mem λ{x y} hx hy hxy=>?_;have:=of_decide_eq_false hxy;rw [<-(o2 x hx).1,<-(o2 y hy).1]
   lia
  refine ⟨.ref _,_,I.laid (a:=s.heap.objs.size+1) (t':=s.toks) (o:=.lst ((out.toList.map λx=>ZbD x.2).map V.int)) (λb o e=>sortedAll_old e) (Nat.le_succ _) ⟨by rw [List.length_map,pn.length_eq];exact hz,(out.map (·.2)).toList,e,by rw [Array.toList_map];exact rv',he⟩,rfl,q _ _ (I.hok.fresh (Nat.le_succ _)) pn ps⟩
def ZdU:List V->Hp->VK->Prop:=λxs H Q=>∃(p:AD)(zs:List (AD×LI)),xs=[.ref p]/\SqL K H p (zs.map λz=>V.ref z.1)/\(∀z∈zs,SqL K H z.1 (z.2.map V.int)) /\
 ∀(l:AD)(zs':List (AD×LI)),H l=none->zs'.Perm zs->(zs'.map (·.2)).Pairwise (λa b=>Jq b a=false)->Q (.ref l) (upd H l (.lst (zs'.map λz=>V.ref z.1)))
theorem YH:∀{zs:List (AD×LI)}{its:LW},Vals (zs.map λz=>V.ref z.1) its->its=zs.map λz=>Value.ref z.1
 | [],_,h=>by cases h;rfl
 | z::zs,_,h=>by
  cases h with
  | cons r h=>
   cases r;rw [YH h]
   rfl
theorem Xj:∀(zs:List (AD×LI)),Vals (zs.map λz=>V.ref z.1) (zs.map λz=>Value.ref z.1)
 | []=>.nil
 | z::zs=>.cons rfl (Xj zs)
theorem ZdV (hu:X.A.units+64<cLine)(h:X.K=K:=by rfl):Jt X (.builtin "sorted") (ZdU K):=by
 subst h;intro qQ s σ H xs us Q I rv h;obtain ⟨p,zs,rfl,hq,hz,q⟩:=h;obtain ⟨u,rfl,ru⟩:=rv.one;cases ru;obtain ⟨its,r,pl,hzl⟩:=I.list hq;have hl:=r.length;rw [List.length_map] at hl hzl;have ei:=YH r;have key:∀z∈zs,∃its:Array Aa,s.heap.IsList z.1 its/\IntsAre its.toList z.2:=λz hzm=>by
  obtain ⟨iz,rz,pz,_⟩:=I.list (hz z hzm);exact ⟨iz.toArray,pz.isList,Jv rz⟩
 have isL:∀v∈its,∃a,∃it:Array Aa,∃ns,v=.ref a/\s.heap.IsList a it/\IntsAre it.toList ns:=λv hv=>by
  rw [ei] at hv;obtain ⟨z,hzm,rfl⟩:=List.mem_map.mp hv;obtain ⟨it,h1,h2⟩:=key z hzm;exact ⟨z.1,it,z.2,rfl,h1,h2⟩
 have keepL:∀{h':Heap}{a:AD}{it:Array Aa},(∀c o,s.heap.get? c=some o->h'.get? c=some o)->s.heap.IsList a it->h'.IsList a it:=λk hl=>by
  obtain ⟨o,e,r⟩:=hl;exact ⟨o,k _ _ e,r⟩
 refine Ut (good:=λx=>∃a,∃it:Array Aa,∃ns,x.1=.ref a/\s.heap.IsList a it/\IntsAre it.toList ns) (ZdT s.heap) pl.isList (by lia) isL (λh' k h2 E' R q=>?_) (λh' k=>YG λx y gx gy E' Q q=>?_) λout hp hr=>?_
 ·refine Ve (T := "list") (by decide) (λv hv=>?_) h2 q;obtain ⟨a,it,ns,rfl,h1,_⟩:=isL v hv;obtain ⟨o,e,c,_⟩:=keepL k h1;exact ⟨o,e,c⟩
 ·obtain ⟨a,it,ns,e1,h1,h2⟩:=gx;obtain ⟨c,jt,ms,e2,h3,h4⟩:=gy;simp only [e1,e2,Wn h1 h2,Wn h3 h4] at q ⊢;exact Zq (xs:=it.toList) (ys:=jt.toList) (keepL k h1) (keepL k h3) h2 h4 (by rw [Around.in1_units,Around.in1_units];lia) q
 ·obtain ⟨o1,o2,o3⟩:=UQ hp;obtain ⟨e,he⟩:=sortedAll_at s.heap its (out.map (·.2));rw [ei] at o1;obtain ⟨zs',p1,p2⟩:=Vd o1;have ps:(zs'.map (·.2)).Pairwise (λa b=>Jq b a=false):=by
   have a1:=JK hr o3;have a2:(out.toList.map (·.2)).Pairwise (λu v=>Jq (ZdS s.heap v) (ZdS s.heap u)=false):=by
    rw [List.pairwise_map];refine a1.imp_of_mem λ{x y} hx hy hxy=>?_;rw [<-(o2 x hx).1,<-(o2 y hy).1];exact hxy
   rw [Array.toList_map] at p2;rw [<-p2,List.pairwise_map] at a2;rw [List.pairwise_map];refine a2.imp_of_mem λ{x y} hx hy hxy=>?_;obtain ⟨it,h1,h2⟩:=key x (p1.mem_iff.mp hx);obtain ⟨jt,h3,h4⟩:=key y (p1.mem_iff.mp hy);rw [Wn h1 h2,Wn h3 h4] at hxy;exact hxy
  refine ⟨.ref _,_,I.laid (a:=s.heap.objs.size+1) (t':=s.toks) (o:=.lst (zs'.map λz=>V.ref z.1)) (λb o e=>sortedAll_old e) (Nat.le_succ _) ⟨by rw [List.length_map,p1.length_eq];exact hzl,(out.map (·.2)).toList,e,by rw [<-p2];exact Xj zs',he⟩,rfl,q _ _ (I.hok.fresh (Nat.le_succ _)) p1 ps⟩
end
end L2
namespace L2
open PySem PySem.Spec PyProof.Rows
section
variable {X:Cx}
theorem Inv.freeze {qQ:List (AD×Obj)}{σ:St}{H:Hp}{s:SS}{a:AD}{kvs:List (Key×V)}(I:Inv X qQ σ H s)(e:H a=some (.dK kvs)):∃o,Inv X qQ σ (upd H a (.frz o (.dK kvs))) s:=by
 have ob:ObjOk X.prog X.w H s.heap a (.dK kvs):=I.hok a _ e;obtain ⟨z,hd,vs,r,o,es,ep,h1,h2⟩:=id ob;refine ⟨o,?_⟩;have:=I.write (x:=a) (e:=a) (o:=.frz o (.dK kvs)) (h':=s.heap) (t':=s.toks) (by rw [e];exact True.intro) (.inl rfl) (λb u _ q=>q) ⟨_,h1⟩ ⟨h1,ob⟩;exact this
def Ze2 (trs:List (TE×TE)):TE:=λσ H Q=>∀p,H p=none->Zaf trs σ (upd H p (.dK [])) λps H2=>H2 p=some (.dK [])/\∃kvs:List (Key×V),ps=kvs.map (λkv=>(kV kv.1,kv.2))/\kvs.length<=15/\∀o,Q (.ref p) (upd H2 p (.frz o (.dK (U6 [] kvs))))
theorem Zck {pos:Pos}{keys:List (Option Expr)}{values:List Expr}{trs:List (TE×TE)}(h:PPs X pos keys values trs)(qK:keys.all (·.isSome)=true)(hl:keys.length=values.length)(h0:keys≠[])(h15:keys.length<=15):PE X (.Dict keys values pos) (Ze2 trs):=by
 intro qQ s σ H Q I q;have hn:=I.hok.fresh (Nat.le_refl s.heap.objs.size);have I1:=I.laid (a:=s.heap.objs.size) (o:=.dK []) (h':=s.heap.push { cls:=.type "dict", data:=.dict #[] }) (t':=s.toks) (λ_ _ q=>Heap.get?_push_of_some _ q) (Nat.le_refl _) (Yr s.heap I.big);refine wpAny_Dict_walk (knd:=GE X.prog X.w) qK hl h0 h15 (thn (h qQ _ σ _ _ I1 (q _ hn)) λws s2 ⟨ps,H2,I2,rel,e,kvs,ep,lk,q2⟩=>?_);subst ep;obtain ⟨rs,c,rk⟩:=VB (P:=X.prog) (w:=X.w) rel;obtain ⟨z,hd,vs0,r0,dd⟩:=ZeM I2.hok e;cases r0;refine ⟨rs,c,dd,λh' dd' hs=>?_⟩;have hz:(U6 [] kvs).length<=sizeLine:=by
  have h1:=OX kvs [];rw [List.length_nil] at h1;rw [sizeLine_eq];lia
 have he:∃q,h'.get? s.heap.objs.size=some q:=let ⟨q,_,_,hq,_⟩:=dd';⟨q,hq⟩;have I3:=XE (t':=s2.toks+ws.length) I2 (by rw [e];exact True.intro) hs he (ZcY hz hd (rk.merge .nil) dd');obtain ⟨o,I4⟩:=I3.freeze Gb;rw [Uj] at I4;exact ⟨.ref s.heap.objs.size,_,I4,rfl,q2 o⟩
def ItD (a:AD)(o:Obj)(kvs:List (Key×V)):It:=
 ⟨λi H=>H a=some (.frz o (.dK kvs))/\i<kvs.length,λi H x H'=>H'=H/\∃k v,kvs[i]?=some (k,v)/\x=kV k,λi H=>H a=some (.frz o (.dK kvs))/\kvs.length<=i⟩
theorem Zda:∀{kvs:List (Key×V)}{vs:List (Key×Aa)}{i:Nat}{k:Key}{v:V},KV kvs vs->kvs[i]?=some (k,v)->∃u,vs[i]?=some (k,u)
 | _,_,i,k,v,.nil,e=>by simp at e
 | p::ps,q::qs,0,k,v,.cons r t,e=>by
  simp at e;subst e;obtain ⟨q1,q2⟩:=q;have:k=q1:=r.1;subst this;exact ⟨q2,rfl⟩
 | p::ps,q::qs,i+1,k,v,.cons _ t,e=>by
  obtain ⟨u,h⟩:=Zda (i:=i) t (by simpa using e);exact ⟨u,by simpa using h⟩
theorem Ze3 {P:PP}{w:Ab}{k:Key}{u:Aa}(h:(GE P w).is k u=true):RelV (kV k) u:=by
 rcases GO (show Xx k u=true from h) with ⟨i,t,rfl,rfl⟩ | ⟨x,t,rfl,rfl⟩
 ·exact ⟨t,rfl⟩
 ·exact ⟨t,rfl⟩
theorem XV {qQ:List (AD×Obj)}{σ:St}{H:Hp}{s:SS}{a:AD}{o:Obj}{kvs:List (Key×V)}{es:Array DictEntry}{ep:Nat}(I:Inv X qQ σ H s)(e:H a=some (.frz o (.dK kvs)))(ho:o.data=.dict es ep) :
  ∃vs,KV kvs vs/\s.heap.DictAt (GE X.prog X.w) a vs ep:=by
 obtain ⟨h1,z,hd,vs,r,o',es',ep',h2,h3,h4,h5,h6,h7⟩:=(show ObjOk X.prog X.w H s.heap a (.frz o (.dK kvs)) from I.hok a _ e);rw [h1] at h2;cases h2;rw [ho] at h4;cases h4;exact ⟨vs,r,o,es,h1,h3,ho,h5,h6,h7⟩
theorem ZaN {P:PP}{w:Ab}{K:FF}{tg:Expr}(a it:AD)(o:Obj)(kvs:List (Key×V))(es:Array DictEntry)(ep:Nat)(ho:o.data=.dict es ep) :
  ZcQ P w K tg (ItD a o kvs) [it] it (λi h=>h.IsKeyIter it a i kvs.length ep) where
 mem:=by simp
 obj:=λi h st b hb=>by
  have e:b=it:=by simpa using hb
  subst e;obtain ⟨o,e,c,d⟩:=st;exact ⟨o,e,λv z=>by rw [d] at z;cases z⟩
 keep:=λi h h' st k=>by
  obtain ⟨o,e,c,d⟩:=st;exact ⟨o,k it (by simp) o e,c,d⟩
 item:=by
  intro X hP hw hK hc i qQ s σ H E I hf st hg;subst hP hw hK;obtain ⟨hq,hi⟩:=hg;obtain ⟨vs,r,da⟩:=XV I hq ho;have qV:kvs.length=vs.length:=Paired.length r;obtain ⟨⟨k,v⟩,hx⟩:∃x,kvs[i]?=some x:=⟨_,List.getElem?_eq_getElem hi⟩;obtain ⟨u,hu⟩:=Zda r hx;obtain ⟨f0,f1,f2,f3,f4,f5⟩:=hf it (by simp);refine wpAny_pyNext_dict_item (knd:=GE X.prog X.w) (kvs:=vs) (by rw [<-qV];exact st) da hu λkey h' hk st' sb=>?_;have I1:Inv X qQ σ H { s with heap:=h' }:=I.turned (t':=s.toks) (λb o hb e=>(sb.2 b hb).trans e) f0 f1 f3 f4 f5;obtain ⟨o',e,c,d⟩:=id st';exact ⟨key,rfl,ZM (s:={ s with heap:=h' }) e c d (by decide) ⟨kV k,H,I1,Ze3 hk,⟨rfl,k,v,hx,rfl⟩,by rw [qV];exact st',λb hb=>(hf b hb).1⟩⟩
 done:=by
  intro X hP hw hK hc i qQ s σ H E I hf st hg;subst hP hw hK;obtain ⟨hq,hi⟩:=hg;obtain ⟨vs,r,da⟩:=XV I hq ho;have qV:kvs.length=vs.length:=Paired.length r;obtain ⟨f0,f1,f2,f3,f4,f5⟩:=hf it (by simp);exact wpAny_pyNext_dict_end (knd:=GE X.prog X.w) (I.ok.hd hc) (by rw [<-qV];exact st) da (List.getElem?_eq_none_iff.mpr (by lia)) λh' eb=>⟨rfl,I.turned (t':=s.toks) (λb o hb e=>eb b o hb e) f0 f1 f3 f4 f5⟩
 self:=λ_ _ _ _ _ st h=>wpAny_pyIter_keyiter st h
def Ze4 (tl:TE):TI:=λσ H R=>tl σ H λx H1=>∃a o kvs,x=.ref a/\H1 a=some (.frz o (.dK kvs))/\R (ItD a o kvs) H1
theorem Zcl {tg l:Expr}{tl:TE}(hl:PE X l tl):PI X tg l (Ze4 tl):=by
 intro qQ s σ H R I h;refine thn (hl qQ s σ H _ I h) λv s1 ⟨x,H1,I1,r1,q1⟩=>?_;obtain ⟨a,o,kvs,e,hq,q⟩:=q1;subst e;cases r1;obtain ⟨h1,z,hd,vs0,r0,o',es,ep,h2,h3,h4,h5⟩:=(show ObjOk X.prog X.w H1 s1.heap a (.frz o (.dK kvs)) from I1.hok a _ hq);rw [h1] at h2;cases h2;obtain ⟨vs,r,da⟩:=XV I1 hq h4;have qV:kvs.length=vs.length:=Paired.length r;refine wpAny_pyIter_dict (knd:=GE X.prog X.w) hd da ?_;refine ⟨s1.heap.objs.size,[s1.heap.objs.size],_,_,H1,rfl,I1.kept (t':=s1.toks) λb o e=>Heap.get?_push_of_some _ e,ZaN a _ o kvs es ep h4,⟨_,Heap.get?_push_size _ rfl,rfl,by rw [qV];rfl⟩,λb hb=>?_,q⟩;have e:b=s1.heap.objs.size:=by simpa using hb
 subst e;exact I1.fpOk (Nat.le_refl _) (I1.hok.fresh (Nat.le_refl _))
theorem Zs {a D:AD}{o:Obj}{kvs:List (Key×V)}{g:TG}{tc:TT}{te:TE}{σ0:St}{R:Hp->Prop}{H1:Hp}(Pv:Nat->List V->Hp->Prop)(h0:Pv 0 [] (upd H1 D (.lst [])))(hl:∀i ys H,i<=kvs.length->Pv i ys H->H a=some (.frz o (.dK kvs)))(hs:∀i k v ys H,kvs[i]?=some (k,v)->Pv i ys H->g (kV k) σ0 H λσ4 H4=>OU σ0 σ4/\tc σ4 H4 λb H5=>if b=true then te σ4 H5 λy H6=>H6 D=some (.lst ys)/\ys.length<sizeLine/\Pv (i+1) (ys++[y]) (upd H6 D (.lst (ys++[y]))) else Pv (i+1) ys H5)(hd:∀ys H,Pv kvs.length ys H->R H):∃W:Nat->Nat->List V->Hp->Prop,(∃m,W 0 m [] (upd H1 D (.lst [])))/\JA (ItD a o kvs) D g tc te σ0 W R:=by
 refine ⟨λi m ys H=>m=kvs.length-i/\i<=kvs.length/\Pv i ys H,⟨_,rfl,Nat.zero_le _,h0⟩,?_⟩;rintro i m ys H ⟨rfl,hi,p⟩;have q:=hl i ys H hi p;by_cases hlt:i<kvs.length
 ·refine .inr ⟨⟨q,hlt⟩,Pv (i+1),λys' H' p'=>⟨kvs.length-(i+1),by lia,rfl,hlt,p'⟩,λx H' y=>?_⟩;obtain ⟨e,k,v,ek,rfl⟩:=y;subst e;exact hs i k v ys _ ek p
 ·have e:i=kvs.length:=by lia
  subst e;exact .inl ⟨⟨q,Nat.le_refl _⟩,hd ys H p⟩
theorem ZhL {qQ:List (AD×Obj)}{σ:St}{H:Hp}{s:SS}{a:AD}{kvs:List (Key×V)}{A:Around}{E:Aa->SS->Prop}{Q:Bool->SS->Prop}(I:Inv X qQ σ H s)(e:Rd H a (.dK kvs))(q:∀s',Inv X qQ σ H s'->Q (!kvs.isEmpty) s'):wpAny (model X.prog X.w) A (truthy (.ref a)) Q E s:=by
 obtain ⟨hz,hS,vs,r,m⟩:=XD I.hok e;have hl:=UZ;have qV:kvs.length=vs.length:=Paired.length r;exact wpAny_truthy_dict hS m (by lia) (by rw [Vv r];exact q _ (I.tok _))
theorem ZaO {a:Expr}{ta:TE}(ha:PE X a ta)(he:∀whole,isTrue a X.env whole=(do let v <- whole;standAt a.pos;holding [v] (truthy v))) :
  PT X a (λσ H Q=>ta σ H λx H'=>∃p kvs,x=.ref p/\Rd H' p (.dK kvs)/\Q (!kvs.isEmpty) H'):=by
 intro qQ s σ H Q I h;refine isTrue_plain (thn (ha qQ s σ H _ I h) λv s1 ⟨x,H1,I1,r1,p,kvs,e,rd,q1⟩=>?_) (he _);subst e;cases r1;exact ZhL I1 rd λs' I'=>⟨H1,I',q1⟩
theorem ZaP {prog:PP}{w:Ab}{A:Around}{I:AD}{fp wr:List AD}{n:Nat}{P:Nat->Aa->Prop}{St:Nat->Heap->Prop}{J:Heap->Prop}{R:Result->SS->Prop}(W:Walks prog w A.in1 I fp wr n P St)(tr:Nat->Bool)(ht:∀(s:SS)(i:Nat)(v:Aa)(Q:Bool->SS->Prop)(E:Aa->SS->Prop),J s.heap->P i v->(∀tk,Q (tr i) { s with toks:=tk })->wpAny (model prog w) A.in1 (truthy v) Q E s)(keepJ:∀h h':Heap,J h->(∀b o,b ∉ wr->h.get? b=some o->h'.get? b=some o)->J h') :
  ∀(k i:Nat)(s:SS),n-i=k->i<=n->St i s.heap->J s.heap->(∀h' tk,(∀b o,b ∉ wr->s.heap.get? b=some o->h'.get? b=some o)->R (.ok (.ret (.bool (((List.range n).drop i).all tr)))) { s with heap:=h',toks:=tk }) ->
  codeAny (model prog w) A (.builtin "all.loop" ⟨[.ref I],[]⟩) R s:=by
 intro k
 induction k with
 | zero=>
  intro i s hk hi st j hR;have en:i=n:=by lia
  subst en;refine codeAny_builtin F.entry_all_loop ?_;rw [Around.under_plainId F.plain_all_loop _];unfold Builtin.«all.loop»;refine wpAny_bind (W.done s _ _ st λh' tk kept=>?_);refine wpAny_bind (wpAny_rule ?_);have:=hR h' tk kept;rw [List.drop_of_length_le (by rw [List.length_range];exact Nat.le_refl _)] at this;exact wpAny_pure this
 | succ k ih=>
  intro i s hk hi st j hR;refine codeAny_builtin F.entry_all_loop ?_;rw [Around.under_plainId F.plain_all_loop _];unfold Builtin.«all.loop»;refine wpAny_bind (W.item i s _ _ (by lia) st λv h' tk pv st' kept=>?_);have j':=keepJ _ _ j kept;refine wpAny_bind (wpAny_holding (ht _ i v _ _ j' pv λtk2=>wpAny_bind (wpAny_letGo ?_)));have ed:(List.range n).drop i=i::(List.range n).drop (i+1):=by
   rw [List.drop_eq_getElem_cons (by rw [List.length_range];lia),List.getElem_range]
  cases hb:tr i with
  | true=>
   rw [if_pos rfl];refine wpAny_pure ⟨plainId_quiet F.plain_all_loop _,ih (i+1) _ (by lia) (by lia) st' j' λh2 tk3 k2=>?_⟩;have:=hR h2 tk3 λb o nb e=>k2 b o nb (kept b o nb e);rw [ed,List.all_cons,hb,Bool.true_and] at this;exact this
  | false=>
   rw [if_neg Bool.false_ne_true];refine wpAny_bind (wpAny_rule ?_);have:=hR h' tk2 kept;rw [ed,List.all_cons,hb,Bool.false_and] at this;exact wpAny_pure this
theorem Zge (K:PySem.W.Frag)(hc:X.calm=true)(h:X.K=K:=by rfl):Jt X (.builtin "all") (λxs H Q=>∃(p:AD)(zs:List (AD×List V)),xs=[.ref p]/\SqL K H p (zs.map λz=>V.ref z.1)/\(∀z∈zs,SqL K H z.1 z.2)/\Q (.bl (zs.all λz=>!z.2.isEmpty)) H):=by
 subst h;intro qQ s σ H xs us Q I rv h;obtain ⟨p,zs,rfl,hq,hz,q⟩:=h;obtain ⟨u,rfl,ru⟩:=rv.one;cases ru;obtain ⟨its,r,pl,hzl⟩:=I.list hq;have hh:X.A.in1.handled=none:=I.ok.hd hc;obtain ⟨o,eo,_⟩:=id pl.isList;have hlt:p<s.heap.objs.size:=Heap.lt_size eo;have qV:=r.length;rw [List.length_map] at qV;have ge:∀(i:Nat)(v:Aa),its.toArray[i]?=some v->∃z,zs[i]?=some z/\v=.ref z.1:=λi v hv=>by
  have hv':its[i]?=some v:=by simpa using hv
  have hi:i<its.length:=(List.getElem?_eq_some_iff.mp hv').1;obtain ⟨z,e⟩:∃z,zs[i]?=some z:=⟨_,List.getElem?_eq_getElem (by lia)⟩;obtain ⟨u,hu,ru⟩:=r.get (show (zs.map λz=>V.ref z.1)[i]?=some (V.ref z.1) by rw [List.getElem?_map,e];rfl);rw [hv'] at hu;cases hu;exact ⟨z,e,ru⟩
 refine call_function_tree PySem.F.kind_all PySem.F.plain_all PySem.F.entry_all (PySem.F.args_all1 _) ?_;show wpAny _ _ (oneArg "all" ⟨[.ref p],[]⟩ >>= _) _ _ s;refine wpAny_bind (wpAny_bind (wpAny_pure (wpAny_pure ?_)));refine wpAny_bind (wpAny_pyIter_list pl.isList ?_);refine wpAny_pure ⟨plainId_quiet F.plain_all_loop _,?_⟩;have kz:∀z∈zs,∃iz:LW,Vals z.2 iz/\s.heap.IsList z.1 iz.toArray/\z.2.length<=sizeLine:=λz hzm=>by
  obtain ⟨iz,rz,pz,lz⟩:=I.list (hz z hzm);exact ⟨iz,rz,pz.isList,lz⟩
 have zlt:∀z∈zs,z.1<s.heap.objs.size:=λz hzm=>by
  obtain ⟨iz,_,pz,_⟩:=kz z hzm;obtain ⟨o,e,_⟩:=pz;exact Heap.lt_size e
 have W:=Walks.list (prog:=X.prog) (w:=X.w) hh s.heap.objs.size p (Nat.ne_of_lt hlt) its.toArray;refine ZaP (J:=λh=>∀z∈zs,∃iz:LW,Vals z.2 iz/\h.IsList z.1 iz.toArray/\z.2.length<=sizeLine/\z.1<s.heap.objs.size) W (λi=>match zs[i]? with | some z=>!z.2.isEmpty | none=>true) (λs' i v Q' E' j pv q'=>?_) (λh h' j k z hzm=>?_) its.toArray.size 0 _ rfl (Nat.zero_le _)
  ⟨⟨_,Heap.get?_push_size _ rfl,rfl,rfl⟩,pl.isList.at λo e=>Heap.get?_push_of_some _ e⟩ (λz hzm=>?_) (λh' tk hk=>?_)
 ·obtain ⟨z,ez,rfl⟩:=ge i v pv;obtain ⟨iz,rz,pz,lz,_⟩:=j z (List.mem_of_getElem? ez);rw [ez] at q';have hl:=UZ;have:=rz.length;exact wpAny_truthy_list pz (by simp only [List.size_toArray];lia) (by rw [Uk rz];exact q' _)
 ·obtain ⟨iz,rz,pz,lz,zl⟩:=j z hzm;refine ⟨iz,rz,pz.at λo e=>k _ o ?_ e,lz,zl⟩;intro y;have:z.1=s.heap.objs.size:=by simpa using y
  exact absurd zl (by rw [this];exact Nat.lt_irrefl _)
 ·obtain ⟨iz,rz,pz,lz⟩:=kz z hzm;exact ⟨iz,rz,pz.at λo e=>Heap.get?_push_of_some _ e,lz,zlt z hzm⟩
 ·refine ⟨.bl _,H,I.kept λb o e'=>hk b o ?_ (Heap.get?_push_of_some _ e'),?_,q⟩
  ·intro z;have:b=s.heap.objs.size:=by simpa using z
   exact absurd (Heap.lt_size e') (by rw [this];exact Nat.lt_irrefl _)
  ·show Value.bool _=Value.bool _
   congr 1
   rw [List.size_toArray,<-qV,List.drop_zero];clear hk W kz zlt ge qV hzl pl r hq hz q
   induction zs with
   | nil=>rfl
   | cons z zs ih=>
    rw [List.length_cons,List.range_succ_eq_map,List.all_cons,List.all_map,List.all_cons]
    congr 1
theorem Zg8 (K:FF)(hc:X.calm=true)(h:X.K=K:=by rfl):Jt X (.builtin "any") (λxs H Q=>∃(p:AD)(bs:List Bool),xs=[.ref p]/\SqL K H p (bs.map V.bl)/\Q (.bl (bs.any id)) H):=by
 subst h;intro qQ s σ H xs us Q I rv h;obtain ⟨p,bs,rfl,hq,q⟩:=h;obtain ⟨u,rfl,ru⟩:=rv.one;cases ru;obtain ⟨its,r,pl,hz⟩:=I.list hq;have e:=U5 r;have hh:X.A.in1.handled=none:=I.ok.hd hc;obtain ⟨o,eo,_⟩:=id pl.isList;have hlt:p<s.heap.objs.size:=Heap.lt_size eo;refine call_any_walk (wpAny_pyIter_list pl.isList ?_);refine ⟨s.heap.objs.size,_,_,_,_,_,λi=>bs.getD i false,rfl,Walks.list hh s.heap.objs.size p (Nat.ne_of_lt hlt) its.toArray,⟨⟨_,Heap.get?_push_size _ rfl,rfl,rfl⟩,pl.isList.at λo e=>Heap.get?_push_of_some _ e⟩,?_,λh' tk hk=>?_⟩
 ·intro i v s' Q' E' hv hq';have hv':its[i]?=some v:=by simpa using hv
  rw [e,List.getElem?_map] at hv';cases z:bs[i]? with
  | none=>rw [z] at hv';cases hv'
  | some b=>
   rw [z] at hv';cases hv';have eb:bs.getD i false=b:=by rw [List.getD_eq_getElem?_getD,z];rfl
   exact wpAny_truthy_bool (by rw [<-eb];exact hq')
 ·have hl:its.toArray.size=bs.length:=by rw [List.size_toArray,e,List.length_map]
  refine ⟨.bl _,H,I.kept λb o e'=>hk b o ?_ (Heap.get?_push_of_some _ e'),?_,q⟩
  ·intro z;have:b=s.heap.objs.size:=by simpa using z
   exact absurd (Heap.lt_size e') (by rw [this];exact Nat.lt_irrefl _)
  ·show Value.bool _=Value.bool _
   congr 1
   rw [hl];clear hk hl hz pl r hq e q
   induction bs with
   | nil=>rfl
   | cons b bs ih=>
    rw [List.length_cons,List.range_succ_eq_map,List.any_cons,List.any_map,List.any_cons];show (b || _)=(b || _)
    congr 1
theorem YI:bootBuiltins "any" = some (.builtin "any"):=by first | rfl | decide +kernel
end
end L2
namespace L2
open PySem PySem.Spec PyProof.Rows
mutual
inductive Th (H:Hp):V->PyData->Prop
 | non:Th H .non .none
 | bl (b:Bool):Th H (.bl b) (.bool b)
 | int (i:Int):Th H (.int i) (.int i)
 | str (x:Str):Th H (.str x) (.str x)
 | lst {a:AD} {xs:List V} {ds:List PyData}:H a=some (.lst xs)->xs.length<=1000->Ths H xs ds->Th H (.ref a) (.list ds)
 | tup {a:AD} {xs:List V} {ds:List PyData}:H a=some (.tup xs)->xs.length<=1000->Ths H xs ds->Th H (.ref a) (.tuple ds)
inductive Ths (H:Hp):List V->List PyData->Prop
 | nil:Ths H [] []
 | cons {x:V} {d:PyData} {xs:List V} {ds:List PyData}:Th H x d->Ths H xs ds->Ths H (x::xs) (d::ds)
end
mutual
theorem Th.same {H H':Hp}(s:Same H H'):∀{v:V}{d:PyData},Th H v d->Th H' v d
 | _,_,.non=>.non
 | _,_,.bl b=>.bl b
 | _,_,.int i=>.int i
 | _,_,.str x=>.str x
 | _,_,.lst e z h=>.lst (s _ _ e) z (Ths.same s h)
 | _,_,.tup e z h=>.tup (s _ _ e) z (Ths.same s h)
theorem Ths.same {H H':Hp}(s:Same H H'):∀{vs:List V}{ds:List PyData},Ths H vs ds->Ths H' vs ds
 | _,_,.nil=>.nil
 | _,_,.cons h t=>.cons (Th.same s h) (Ths.same s t)
end
section
variable {X:Cx}{a:Expr}{ta:TE}{pos:Pos}
theorem YJ (K:FF)(h:X.K=K:=by rfl):Jt X (.type "tuple") (λxs H Q=>∃p ys,xs=[.ref p]/\((SqL K H p ys/\∀l,H l=none->Q (.ref l) (upd H l (.tup ys)))\/(SqT K H p ys/\Q (.ref p) H))):=h▸VS
end
end L2
namespace L2
open PySem PySem.Spec PyProof.Rows
section
variable {prog:PP}{w:Ab}{A:Around}{E:Aa->SS->Prop}{s:SS}
theorem ZaQ {it d:AD}{i ep:Nat}{es:Array DictEntry}{o:Obj}{e:DictEntry}{Q:Aa->SS->Prop}(hit:s.heap.IsKeyIter it d i es.size ep)(ho:s.heap.get? d=some o)(hd:o.data=.dict es ep)(hi:es[i]?=some e)(q:∀h',h'.IsKeyIter it d (i+1) es.size ep->Heap.SameBut it s.heap h'->Q e.key { s with heap:=h' }):wpAny (model prog w) A (Builtin.«dict_keyiterator.__next__» ⟨[.ref it],[]⟩) (λfin s'=>∃v,fin=.done (.ret v)/\Q v s') E s:=by
 obtain ⟨⟨c0,d0,t0,sl0⟩,hoi,hci,hdi⟩:=id hit;subst hci hdi;have T:=hit.typeIs
 wp_walk using wpAny_fieldsOf hoi rfl,wpAny_dictEntries ho hd,wpAny_dictEpoch ho hd,wpAny_typeNameOfWhole_keyiter T,wpAny_isOneOf_keyiter T
 rw [if_neg (by lia),Int.toNat_natCast,hi]
 wp_walk using wpAny_typeNameOfWhole_keyiter T,wpAny_isOneOf_keyiter T,wpAny_setField hoi rfl
 case hi=>exact (by decide:(0:Nat)+1<4)
 case h=>
  have K1:(s.heap.update it (Obj.mapFields (·.setIfInBounds 1 (rawInt ((i:Int)+1))))).IsKeyIter it d (i+1) es.size ep:=by
   exact ⟨_,Heap.get?_update_self _ hoi rfl,rfl,rfl⟩
  have B1:Heap.SameBut it s.heap (s.heap.update it (Obj.mapFields (·.setIfInBounds 1 (rawInt ((i:Int)+1))))):=Heap.SameBut.update ..;have T1:=K1.typeIs (s:={ s with heap:=s.heap.update it (Obj.mapFields (·.setIfInBounds 1 (rawInt ((i:Int)+1)))) });show wpAny _ _ _ _ _ { s with heap:=s.heap.update it (Obj.mapFields (·.setIfInBounds 1 (rawInt ((i:Int)+1)))) };generalize s.heap.update it (Obj.mapFields (·.setIfInBounds 1 (rawInt ((i:Int)+1))))=h1 at K1 B1 T1 ⊢
  wp_walk using wpAny_isOneOf_keyiter T1
  exact ⟨_,rfl,q _ K1 B1⟩
theorem ZaR {it d:AD}{i ep:Nat}{es:Array DictEntry}{o:Obj}{Q:Aa->SS->Prop}(hh:A.handled=none)(hit:s.heap.IsKeyIter it d i es.size ep)(ho:s.heap.get? d=some o)(hd:o.data=.dict es ep)(hi:es[i]?=none)(q:∀h' e,(∀c o,c≠it->s.heap.get? c=some o->h'.get? c=some o)->(∃o,h'.get? e=some o/\o.cls=.type "StopIteration")->E (.ref e) { s with heap:=h' }):wpAny (model prog w) A (Builtin.«dict_keyiterator.__next__» ⟨[.ref it],[]⟩) (λfin s'=>∃v,fin=.done (.ret v)/\Q v s') E s:=by
 obtain ⟨⟨c0,d0,t0,sl0⟩,hoi,hci,hdi⟩:=id hit;subst hci hdi;have T:=hit.typeIs
 wp_walk using wpAny_fieldsOf hoi rfl,wpAny_dictEntries ho hd,wpAny_dictEpoch ho hd,wpAny_typeNameOfWhole_keyiter T,wpAny_isOneOf_keyiter T
 rw [if_neg (by lia),Int.toNat_natCast,hi]
 wp_walk using wpAny_typeNameOfWhole_keyiter T,wpAny_setField hoi rfl
 case hi=>exact (by decide:(0:Nat)<4)
 case h=>
  have B1:Heap.SameBut it s.heap (s.heap.update it (Obj.mapFields (·.setIfInBounds 0 Value.none))):=Heap.SameBut.update ..;show wpAny _ _ _ _ _ { s with heap:=s.heap.update it (Obj.mapFields (·.setIfInBounds 0 Value.none)) };generalize s.heap.update it (Obj.mapFields (·.setIfInBounds 0 Value.none))=h1 at B1 ⊢
  wp_walk using wpAny_raiseNew_none hh
  exact q _ _ (λc o n e=>Heap.get?_push_of_some _ (Heap.get?_push_of_some _ (by rw [B1.2 c n];exact e))) ⟨_,Heap.get?_push_size _ rfl,rfl⟩
theorem ZaS {it d:AD}{i ep:Nat}{es:Array DictEntry}{o:Obj}{e:DictEntry}{Q:Option Aa->SS->Prop}(hit:s.heap.IsKeyIter it d i es.size ep)(ho:s.heap.get? d=some o)(hd:o.data=.dict es ep)(hi:es[i]?=some e)(q:∀h',h'.IsKeyIter it d (i+1) es.size ep->Heap.SameBut it s.heap h'->Q (some e.key) { s with heap:=h' }):wpAny (model prog w) A (pyNext (.ref it)) Q E s:=by
 refine wpAny_bind (wpAny_attempt (wpAny_callSpecial?_slot hit.typeIs F.slot_dict_keyiterator_next (wpAny_call_entry F.slot_dict_keyiterator_next hit.typeIs F.entry_dict_keyiterator_next (ZaQ hit ho hd hi λh' k b=>?_) (F.args_dict_keyiterator_next_1 _))))
 wp_walk
 exact q h' k b
theorem ZaT {it d:AD}{i ep:Nat}{es:Array DictEntry}{o:Obj}{Q:Option Aa->SS->Prop}(hh:A.in1.handled=none)(hit:s.heap.IsKeyIter it d i es.size ep)(ho:s.heap.get? d=some o)(hd:o.data=.dict es ep)(hi:es[i]?=none)(q:∀h',(∀c o,c≠it->s.heap.get? c=some o->h'.get? c=some o)->Q none { s with heap:=h' }):wpAny (model prog w) A (pyNext (.ref it)) Q E s:=by
 refine wpAny_bind (wpAny_attempt (wpAny_callSpecial?_slot hit.typeIs F.slot_dict_keyiterator_next (wpAny_call_entry F.slot_dict_keyiterator_next hit.typeIs F.entry_dict_keyiterator_next (ZaR hh hit ho hd hi ?_) (F.args_dict_keyiterator_next_1 _))));rintro h' e k ⟨o',e1,e2⟩;exact wpAny_bind (wpAny_isInstance ⟨o',e1,e2⟩ isSubtype_stop (wpAny_pure (q h' k)))
theorem ZaU {d:AD}{ep:Nat}{es:Array DictEntry}{o:Obj}{Q:Aa->SS->Prop}(hs:(d == sysModules)=false)(ho:s.heap.get? d=some o)(hc:o.ExactDict)(hd:o.data=.dict es ep)(q:∀h',h'.IsKeyIter s.heap.objs.size d 0 es.size ep->(∀c o,s.heap.get? c=some o->h'.get? c=some o)->Q (.ref s.heap.objs.size) { s with heap:=h' }):wpAny (model prog w) A (pyIter (.ref d)) Q E s:=by
 have T:s.TypeIs (.ref d) "dict" := ⟨o,ho,hc.1⟩;refine wpAny_pyIter_slot T F.slot_dict_iter (wpAny_call_entry F.slot_dict_iter T F.entry_dict_iter ?_ (F.args_dict_iter_1 _))
 wp_walk using wpAny_notOrdered_dict T,wpAny_dictEntries ho hd,wpAny_dictEpoch ho hd
 exact ⟨_,rfl, "dict_keyiterator", _,⟨_,Heap.get?_push_size _ rfl,rfl⟩,F.slot_dict_keyiterator_next.lookup,q _ ⟨_,Heap.get?_push_size _ rfl,rfl,rfl⟩ λc o e=>Heap.get?_push_of_some _ e⟩
end
end L2
namespace L2
open PySem PySem.Spec PyProof.Rows
section
variable {X:Cx}
theorem Inv.freezeT {qQ:List (AD×Obj)}{σ:St}{H:Hp}{s:SS}{a:AD}{kvs:List (List Key×V)}(I:Inv X qQ σ H s)(e:H a=some (.dT kvs)):∃o,Inv X qQ σ (upd H a (.frz o (.dT kvs))) s:=by
 have ob:ObjOk X.prog X.w H s.heap a (.dT kvs):=I.hok a _ e;obtain ⟨z,hd,xs,r,o,es,ep,h1,h2⟩:=id ob;have nt:∀b ys,H b=some (.tup ys)->upd H a (.frz o (.dT kvs)) b=some (.tup ys):=λb ys q=>by rw [Gu (G6 q e (λz=>by cases z))];exact q
 refine ⟨o,I.write (x:=a) (e:=a) (o:=.frz o (.dT kvs)) (h':=s.heap) (t':=s.toks) (by rw [e];exact True.intro) (.inl rfl) (λb u _ q=>q) ⟨_,h1⟩ ⟨h1,z,hd,xs,Paired.mapP r λp q y=>⟨y.1,nt _ _ y.2.1,y.2.2⟩,o,es,ep,h1,h2⟩⟩
def ItT (a:AD)(o:Obj)(kvs:List (List Key×V)):It:=
 ⟨λi H=>H a=some (.frz o (.dT kvs))/\i<kvs.length,λi H x H'=>H'=H/\∃k v b,kvs[i]?=some (k,v)/\x=.ref b/\H b=some (.tup (k.map kV)),λi H=>H a=some (.frz o (.dT kvs))/\kvs.length<=i⟩
theorem Zcm {α β:Type}{F:α->β->Prop}{l:List α}{m:List β}(h:Paired F l m):∀{i:Nat}{x:α},l[i]?=some x->∃y,m[i]?=some y/\F x y:=by
 induction h with
 | nil=>intro i x e;simp at e
 | @cons p q _ _ r _ ih=>
  intro i x e;cases i with
  | zero=>simp at e;subst e;exact ⟨q,by simp,r⟩
  | succ i=>simp at e;obtain ⟨y,h1,h2⟩:=ih e;exact ⟨y,by simpa using h1,h2⟩
theorem Wo {qQ:List (AD×Obj)}{σ:St}{H:Hp}{s:SS}{a:AD}{o:Obj}{kvs:List (List Key×V)}(I:Inv X qQ σ H s)(e:H a=some (.frz o (.dT kvs))) :
  (a == sysModules)=false/\s.heap.get? a=some o/\o.ExactDict/\∃es ep,o.data=.dict es ep/\es.size=kvs.length/\∀(i:Nat) k v,kvs[i]?=some (k,v)->∃(de:DictEntry)(b:AD),es[i]?=some de/\de.key=.ref b/\H b=some (.tup (k.map kV)):=by
 obtain ⟨h1,z,hd,xs,r,o',es,ep,h2,h3,h4,h5,h6⟩:=(show ObjOk X.prog X.w H s.heap a (.frz o (.dT kvs)) from I.hok a _ e);rw [h1] at h2;cases h2;refine ⟨hd,h1,h3,es,ep,h4,?_,λi k v hi=>?_⟩
 ·rw [<-Array.length_toList,h5,List.length_map,Paired.length r]
 ·obtain ⟨⟨k',b,u⟩,hq,e1,e2,_⟩:=Zcm r hi;refine ⟨entryOfKey (tupleKind (GE X.prog X.w)) (k',b,u),b,?_,rfl,e2⟩;rw [<-Array.getElem?_toList,h5,List.getElem?_map,hq]
  rfl
theorem Zt {P:PP}{w:Ab}{K:FF}{tg:Expr}(a it:AD)(o:Obj)(kvs:List (List Key×V))(es:Array DictEntry)(ep:Nat)(ho:o.data=.dict es ep)(hsz:es.size=kvs.length) :
  ZcQ P w K tg (ItT a o kvs) [it] it (λi h=>h.IsKeyIter it a i es.size ep) where
 mem:=by simp
 obj:=λi h st b hb=>by
  have e:b=it:=by simpa using hb
  subst e;obtain ⟨o,e,c,d⟩:=st;exact ⟨o,e,λv z=>by rw [d] at z;cases z⟩
 keep:=λi h h' st k=>by
  obtain ⟨o,e,c,d⟩:=st;exact ⟨o,k it (by simp) o e,c,d⟩
 item:=by
  intro X hP hw hK hc i qQ s σ H E I hf st hg;subst hP hw hK;obtain ⟨hq,hi⟩:=hg;obtain ⟨hd,h1,h2,es',ep',h3,h4,h5⟩:=Wo I hq;rw [ho] at h3;cases h3;obtain ⟨⟨k,v⟩,hx⟩:∃x,kvs[i]?=some x:=⟨_,List.getElem?_eq_getElem hi⟩;obtain ⟨de,b,hde,hkey,hb⟩:=h5 i k v hx;obtain ⟨f0,f1,f2,f3,f4,f5⟩:=hf it (by simp);refine ZaS st h1 ho hde λh' st' sb=>?_;have I1:Inv X qQ σ H { s with heap:=h' }:=I.turned (t':=s.toks) (λb o hb e=>(sb.2 b hb).trans e) f0 f1 f3 f4 f5;obtain ⟨o',e,c,d⟩:=id st';exact ⟨de.key,rfl,ZM (s:={ s with heap:=h' }) e c d (by decide) ⟨.ref b,H,I1,hkey,⟨rfl,k,v,b,hx,rfl,hb⟩,st',λb hb=>(hf b hb).1⟩⟩
 done:=by
  intro X hP hw hK hc i qQ s σ H E I hf st hg;subst hP hw hK;obtain ⟨hq,hi⟩:=hg;obtain ⟨hd,h1,h2,es',ep',h3,h4,h5⟩:=Wo I hq;rw [ho] at h3;cases h3;obtain ⟨f0,f1,f2,f3,f4,f5⟩:=hf it (by simp);exact ZaT (I.ok.hd hc) st h1 ho (Array.getElem?_eq_none (by lia)) λh' eb=>⟨rfl,I.turned (t':=s.toks) (λb o hb e=>eb b o hb e) f0 f1 f3 f4 f5⟩
 self:=λ_ _ _ _ _ st h=>wpAny_pyIter_keyiter st h
def Ze5 (tl:TE):TI:=λσ H R=>tl σ H λx H1=>∃a kvs,x=.ref a/\((H1 a=some (.dT kvs)/\∀o,R (ItT a o kvs) (upd H1 a (.frz o (.dT kvs))))\/∃o,H1 a=some (.frz o (.dT kvs))/\R (ItT a o kvs) H1)
theorem YK {tg l:Expr}{tl:TE}(hl:PE X l tl):PI X tg l (Ze5 tl):=by
 intro qQ s σ H R I h;refine thn (hl qQ s σ H _ I h) λv s1 ⟨x,H1,I1,r1,q1⟩=>?_;obtain ⟨a,kvs,e,q⟩:=q1;subst e;cases r1;obtain ⟨o,H2,I2,hq,q2⟩:∃o H2,Inv X qQ σ H2 s1/\H2 a=some (.frz o (.dT kvs))/\R (ItT a o kvs) H2:=by
  rcases q with ⟨e,q⟩ | ⟨o,e,q⟩
  ·obtain ⟨o,I2⟩:=I1.freezeT e;exact ⟨o,_,I2,Gb,q o⟩
  ·exact ⟨o,H1,I1,e,q⟩
 obtain ⟨hd,h1,h2,es,ep,h3,h4,h5⟩:=Wo I2 hq;refine ZaU hd h1 h2 h3 λh' st kp=>?_;refine ⟨s1.heap.objs.size,[s1.heap.objs.size],_,_,H2,rfl,I2.kept (t':=s1.toks) kp,Zt a _ o kvs es ep h3 h4,st,λb hb=>?_,q2⟩;have e:b=s1.heap.objs.size:=by simpa using hb
 subst e;exact I2.fpOk (Nat.le_refl _) (I2.hok.fresh (Nat.le_refl _))
theorem ZaV {a:AD}{o:Obj}{kvs:List (List Key×V)}{g:TG}{tb:TS}{D:Ends}{σ:St}{H:Hp}(Pv:Nat->St->Hp->Prop)(h0:Pv 0 σ H)(hl:∀i σ H,i<=kvs.length->Pv i σ H->H a=some (.frz o (.dT kvs)))(hs:∀i k v b σ H,kvs[i]?=some (k,v)->H b=some (.tup (k.map kV))->Pv i σ H->g (.ref b) σ H λσ2 H2=>tb { D with nx:=Pv (i+1),ct:=Pv (i+1),bk:=D.nx } σ2 H2)(hd:∀ σ H,Pv kvs.length σ H->D.nx σ H) :
  ∃W:Nat->Nat->St->Hp->Prop,(∃m,W 0 m σ H)/\∀i m σ H,W i m σ H ->
   ((ItT a o kvs).stop i H/\D.nx σ H)\/((ItT a o kvs).go i H/\∃N:St->Hp->Prop,(∀ σ' H',N σ' H'->∃m',m'<m/\W (i+1) m' σ' H')/\∀x H',(ItT a o kvs).yld i H x H'->g x σ H' λσ2 H2=>tb { D with nx:=N,ct:=N,bk:=D.nx } σ2 H2):=by
 refine ⟨λi m σ H=>m=kvs.length-i/\i<=kvs.length/\Pv i σ H,⟨_,rfl,Nat.zero_le _,h0⟩,?_⟩;rintro i m σ H ⟨rfl,hi,p⟩;have q:=hl i σ H hi p;by_cases hlt:i<kvs.length
 ·refine .inr ⟨⟨q,hlt⟩,Pv (i+1),λσ' H' p'=>⟨kvs.length-(i+1),by lia,rfl,hlt,p'⟩,λx H' y=>?_⟩;obtain ⟨e,k,v,b,ek,rfl,eb⟩:=y;subst e;exact hs i k v b σ _ ek eb p
 ·have e:i=kvs.length:=by lia
  subst e;exact .inl ⟨⟨q,Nat.le_refl _⟩,hd σ H p⟩
theorem Zu {a D:AD}{o:Obj}{kvs:List (List Key×V)}{g:TG}{tc:TT}{te:TE}{σ0:St}{R:Hp->Prop}{H1:Hp}(Pv:Nat->List V->Hp->Prop)(h0:Pv 0 [] (upd H1 D (.lst [])))(hl:∀i ys H,i<=kvs.length->Pv i ys H->H a=some (.frz o (.dT kvs)))(hs:∀i k v b ys H,kvs[i]?=some (k,v)->H b=some (.tup (k.map kV))->Pv i ys H->g (.ref b) σ0 H λσ4 H4=>OU σ0 σ4/\tc σ4 H4 λc H5=>if c=true then te σ4 H5 λy H6=>H6 D=some (.lst ys)/\ys.length<sizeLine/\Pv (i+1) (ys++[y]) (upd H6 D (.lst (ys++[y]))) else Pv (i+1) ys H5)(hd:∀ys H,Pv kvs.length ys H->R H):∃W:Nat->Nat->List V->Hp->Prop,(∃m,W 0 m [] (upd H1 D (.lst [])))/\JA (ItT a o kvs) D g tc te σ0 W R:=by
 refine ⟨λi m ys H=>m=kvs.length-i/\i<=kvs.length/\Pv i ys H,⟨_,rfl,Nat.zero_le _,h0⟩,?_⟩;rintro i m ys H ⟨rfl,hi,p⟩;have q:=hl i ys H hi p;by_cases hlt:i<kvs.length
 ·refine .inr ⟨⟨q,hlt⟩,Pv (i+1),λys' H' p'=>⟨kvs.length-(i+1),by lia,rfl,hlt,p'⟩,λx H' y=>?_⟩;obtain ⟨e,k,v,b,ek,rfl,eb⟩:=y;subst e;exact hs i k v b ys _ ek eb p
 ·have e:i=kvs.length:=by lia
  subst e;exact .inl ⟨⟨q,Nat.le_refl _⟩,hd ys H p⟩
end
end L2
namespace L2
open PySem PySem.Spec PyProof.Rows
def Wp (S:AD)(h:Heap)(it d:AD)(i n ep:Nat):Prop:=∃(f0:Aa)(f1:Bool)(ok ov:Aa),h.get? it=some { cls:=.type "dict_itemiterator", data:=.fields #[f0,.bool f1,.ref d,.int i 0,.int n 0,.int ep 0,ok,ov] }/\(f0=.none\/∃(a:AD)(oa:Obj),f0=rawInt a/\h.get? a=some oa/\a≠it/\a≠S)
section
variable {prog:PP}{w:Ab}{A:Around}{E:Aa->SS->Prop}{s:SS}
theorem Zv {S it d:AD}{i ep:Nat}{es:Array DictEntry}{o:Obj}{e:DictEntry}{Q:Aa->SS->Prop}(st:Wp S s.heap it d i es.size ep)(ho:s.heap.get? d=some o)(hd:o.data=.dict es ep)(hi:es[i]?=some e)(hS:s.heap.objs.size≠S)(q:∀h',Wp S h' it d (i+1) es.size ep->h'.get? s.heap.objs.size=some { cls:=.type "tuple", data:=.seq #[e.key,e.val] }->h'.objs.size=s.heap.objs.size+1->(∀b o,b≠it->s.heap.get? b=some o->h'.get? b=some o)->Q (.ref s.heap.objs.size) { s with heap:=h' }) :
  wpAny (model prog w) A (Builtin.«dict_itemiterator.__next__» ⟨[.ref it],[]⟩) (λfin s'=>∃v,fin=.done (.ret v)/\Q v s') E s:=by
 obtain ⟨f0,f1,ok,ov,hoi,hf⟩:=st;have T:s.TypeIs (.ref it) "dict_itemiterator" := ⟨_,hoi,rfl⟩
 wp_walk using wpAny_fieldsOf hoi rfl,wpAny_dictEntries ho hd,wpAny_dictEpoch ho hd,wpAny_typeNameOfWhole_itemiter T,wpAny_isOneOf_itemiter T
 rw [if_neg (by lia),Int.toNat_natCast,hi]
 wp_walk using wpAny_typeNameOfWhole_itemiter T,wpAny_isOneOf_itemiter T,wpAny_setField hoi rfl
 case hi=>exact (by decide:(2:Nat)+1<8)
 case h=>
  have B1:Heap.SameBut it s.heap (s.heap.update it (Obj.mapFields (·.setIfInBounds 3 (rawInt ((i:Int)+1))))):=Heap.SameBut.update ..;have hoi1:(s.heap.update it (Obj.mapFields (·.setIfInBounds 3 (rawInt ((i:Int)+1))))).get? it=some { cls:=.type "dict_itemiterator", data:=.fields #[f0,.bool f1,.ref d,.int ((i+1:Nat):Int) 0,.int es.size 0,.int ep 0,ok,ov] }:=Heap.get?_update_self _ hoi rfl;show wpAny _ _ _ _ _ { s with heap:=s.heap.update it (Obj.mapFields (·.setIfInBounds 3 (rawInt ((i:Int)+1)))) };generalize s.heap.update it (Obj.mapFields (·.setIfInBounds 3 (rawInt ((i:Int)+1))))=h1 at B1 hoi1 ⊢;have T1:Shared.TypeIs { s with heap:=h1 } (.ref it) "dict_itemiterator" := ⟨_,hoi1,rfl⟩
  wp_walk using wpAny_isOneOf_itemiter T1
  have hz:h1.objs.size=s.heap.objs.size:=B1.1;have hoi2:(h1.push { cls:=.type "tuple", data:=.seq #[e.key,e.val] }).get? it=some { cls:=.type "dict_itemiterator", data:=.fields #[f0,.bool f1,.ref d,.int ((i+1:Nat):Int) 0,.int es.size 0,.int ep 0,ok,ov] }:=Heap.get?_push_of_some _ hoi1;have tp:(h1.push { cls:=.type "tuple", data:=.seq #[e.key,e.val] }).get? s.heap.objs.size=some { cls:=.type "tuple", data:=.seq #[e.key,e.val] }:=by rw [<-hz];exact Heap.get?_push_size _ rfl
  have sz:(h1.push { cls:=.type "tuple", data:=.seq #[e.key,e.val] }).objs.size=s.heap.objs.size+1:=by rw [Heap.size_push,hz]
  have kp:∀b o,b≠it->s.heap.get? b=some o->(h1.push { cls:=.type "tuple", data:=.seq #[e.key,e.val] }).get? b=some o:=λb o n z=>Heap.get?_push_of_some _ ((B1.2 b n).trans z);have ni:s.heap.objs.size≠it:=Nat.ne_of_gt (Heap.lt_size hoi);rw [hz];generalize h1.push { cls:=.type "tuple", data:=.seq #[e.key,e.val] }=h2 at hoi2 tp sz kp ⊢;have fin:∀h3:Heap,Heap.SameBut it h2 h3->Wp S h3 it d (i+1) es.size ep->Q (.ref s.heap.objs.size) { s with heap:=h3 }:=λh3 B st=>q h3 st ((B.2 _ ni).trans tp) (B.1.trans sz) λb o n z=>(B.2 b n).trans (kp b o n z);rcases hf with rfl | ⟨a,oa,rfl,ha,nai,naS⟩
  ·refine wpAny_pure ?_;refine wpAny_bind (wpAny_field hoi2 rfl (x:=ok) rfl ?_);refine wpAny_bind (wpAny_field hoi2 rfl (x:=ov) rfl ?_);refine wpAny_bind (wpAny_setField_rec hoi2 (by simp) λh3 e3 b3=>?_);refine wpAny_bind (wpAny_setField_rec e3 (by simp) λh4 e4 b4=>?_);refine wpAny_bind (wpAny_setField_rec e4 (by simp) λh5 e5 b5=>?_);refine wpAny_bind (wpAny_setField_rec e5 (by simp) λh6 e6 b6=>?_);refine wpAny_bind (wpAny_letGo ?_);have B:Heap.SameBut it h2 h6:=((b3.trans b4).trans b5).trans b6;exact wpAny_pure (wpAny_pure ⟨_,rfl,fin h6 B ⟨_,_,_,_,e6,.inr ⟨s.heap.objs.size,_,rfl,(B.2 _ ni).trans tp,ni,hS⟩⟩⟩)
  ·have ha2:=kp a oa nai ha;refine wpAny_bind (W.kdx_alive (by rw [Int.toNat_natCast];exact ha2) ?_);refine wpAny_bind (wpAny_field hoi2 rfl (x:=.bool f1) rfl ?_);cases f1 with
   | true=>exact wpAny_pure (wpAny_pure (wpAny_pure ⟨_,rfl,fin h2 (Heap.SameBut.refl _ _) ⟨_,_,_,_,hoi2,.inr ⟨a,oa,rfl,ha2,nai,naS⟩⟩⟩))
   | false=>
    refine wpAny_bind (wpAny_setField_rec hoi2 (by simp) λh3 e3 b3=>?_);have B:Heap.SameBut it h2 h3:=b3;exact wpAny_pure (wpAny_pure (wpAny_pure ⟨_,rfl,fin h3 B ⟨_,_,_,_,e3,.inr ⟨a,oa,rfl,(B.2 a nai).trans ha2,nai,naS⟩⟩⟩))
theorem Zw {S it d:AD}{i ep:Nat}{es:Array DictEntry}{o:Obj}{Q:Aa->SS->Prop}(hh:A.handled=none)(st:Wp S s.heap it d i es.size ep)(ho:s.heap.get? d=some o)(hd:o.data=.dict es ep)(hi:es[i]?=none)(q:∀h' e,(∀c o,c≠it->s.heap.get? c=some o->h'.get? c=some o)->(∃o,h'.get? e=some o/\o.cls=.type "StopIteration")->E (.ref e) { s with heap:=h' }):wpAny (model prog w) A (Builtin.«dict_itemiterator.__next__» ⟨[.ref it],[]⟩) (λfin s'=>∃v,fin=.done (.ret v)/\Q v s') E s:=by
 obtain ⟨f0,f1,ok,ov,hoi,hf⟩:=st;have T:s.TypeIs (.ref it) "dict_itemiterator" := ⟨_,hoi,rfl⟩
 wp_walk using wpAny_fieldsOf hoi rfl,wpAny_dictEntries ho hd,wpAny_dictEpoch ho hd,wpAny_typeNameOfWhole_itemiter T,wpAny_isOneOf_itemiter T
 rw [if_neg (by lia),Int.toNat_natCast,hi]
 wp_walk using wpAny_typeNameOfWhole_itemiter T,wpAny_raiseNew_none hh
 exact q _ _ (λc o n e=>Heap.get?_push_of_some _ (Heap.get?_push_of_some _ ((Heap.get?_update_ne _ _ _ _ n).trans e))) ⟨_,Heap.get?_push_size _ rfl,rfl⟩
theorem Zx {S it d:AD}{i ep:Nat}{es:Array DictEntry}{o:Obj}{e:DictEntry}{Q:Option Aa->SS->Prop}(st:Wp S s.heap it d i es.size ep)(ho:s.heap.get? d=some o)(hd:o.data=.dict es ep)(hi:es[i]?=some e)(hS:s.heap.objs.size≠S)(q:∀h',Wp S h' it d (i+1) es.size ep->h'.get? s.heap.objs.size=some { cls:=.type "tuple", data:=.seq #[e.key,e.val] }->h'.objs.size=s.heap.objs.size+1->(∀b o,b≠it->s.heap.get? b=some o->h'.get? b=some o)->Q (some (.ref s.heap.objs.size)) { s with heap:=h' }) :
  wpAny (model prog w) A (pyNext (.ref it)) Q E s:=by
 have T:s.TypeIs (.ref it) "dict_itemiterator" := let ⟨_,_,_,_,e,_⟩:=st;⟨_,e,rfl⟩;refine wpAny_bind (wpAny_attempt (wpAny_callSpecial?_slot T F.slot_dict_itemiterator_next (wpAny_call_entry F.slot_dict_itemiterator_next T F.entry_dict_itemiterator_next (Zv st ho hd hi hS λh' a b c d=>?_) (F.args_dict_itemiterator_next_1 _))))
 wp_walk
 exact q h' a b c d
theorem Zy {S it d:AD}{i ep:Nat}{es:Array DictEntry}{o:Obj}{Q:Option Aa->SS->Prop}(hh:A.in1.handled=none)(st:Wp S s.heap it d i es.size ep)(ho:s.heap.get? d=some o)(hd:o.data=.dict es ep)(hi:es[i]?=none)(q:∀h',(∀c o,c≠it->s.heap.get? c=some o->h'.get? c=some o)->Q none { s with heap:=h' }):wpAny (model prog w) A (pyNext (.ref it)) Q E s:=by
 have T:s.TypeIs (.ref it) "dict_itemiterator" := let ⟨_,_,_,_,e,_⟩:=st;⟨_,e,rfl⟩;refine wpAny_bind (wpAny_attempt (wpAny_callSpecial?_slot T F.slot_dict_itemiterator_next (wpAny_call_entry F.slot_dict_itemiterator_next T F.entry_dict_itemiterator_next (Zw hh st ho hd hi ?_) (F.args_dict_itemiterator_next_1 _))));rintro h' e k ⟨o',e1,e2⟩;exact wpAny_bind (wpAny_isInstance ⟨o',e1,e2⟩ isSubtype_stop (wpAny_pure (q h' k)))
theorem Zz {S v d:AD}{ep:Nat}{es:Array DictEntry}{o:Obj}{Q:Aa->SS->Prop}(hv:s.heap.IsItemsView v d)(ho:s.heap.get? d=some o)(hd:o.data=.dict es ep)(q:∀h',Wp S h' s.heap.objs.size d 0 es.size ep->h'.objs.size=s.heap.objs.size+1->(∀c o,s.heap.get? c=some o->h'.get? c=some o)->Q (.ref s.heap.objs.size) { s with heap:=h' }):wpAny (model prog w) A (pyIter (.ref v)) Q E s:=by
 have T:=hv.typeIs;obtain ⟨oV,hoV,hcV,hdV⟩:=id hv;refine wpAny_pyIter_slot T F.slot_dict_items_iter (wpAny_call_entry F.slot_dict_items_iter T F.entry_dict_items_iter ?_ (F.args_dict_items_iter_1 _))
 wp_walk using wpAny_dictEntries ho hd,wpAny_dictEpoch ho hd,wpAny_field hoV hdV (x:=.ref d) rfl
 exact ⟨_,rfl, "dict_itemiterator", _,⟨_,Heap.get?_push_size _ rfl,rfl⟩,F.slot_dict_itemiterator_next.lookup,q _ ⟨.none,false,.none,.none,Heap.get?_push_size _ rfl,.inl rfl⟩ (Heap.size_push ..) λc o e=>Heap.get?_push_of_some _ e⟩
theorem ZA {d:AD}{ep:Nat}{es:Array DictEntry}{o:Obj}{Q:Aa->SS->Prop}(hs:(d == sysModules)=false)(ho:s.heap.get? d=some o)(hc:o.ExactDict)(hd:o.data=.dict es ep)(q:Q (.ref s.heap.objs.size) { s with heap:=s.heap.push { cls:=.type "dict_items", data:=.fields #[.ref d] } }):wpAny (model prog w) A (call (.builtin "dict.items") [.ref d]) Q E s:=by
 have T:s.TypeIs (.ref d) "dict" := ⟨o,ho,hc.1⟩;refine wpAny_call_entry F.slot_dict_items T F.entry_dict_items ?_ (F.args_dict_items_1 _)
 wp_walk using wpAny_notOrdered_dict T
 exact ⟨_,rfl,q⟩
end
structure Ze6 (h0:Heap)(it d S:AD)(es:Array DictEntry)(ep i:Nat)(h:Heap)(acc:Array Aa):Prop where
 st:Wp S h it d i es.size ep
 out:∃as:List AD,acc.toList=as.map Value.ref/\as.length=i/\(∀a∈as,h0.objs.size<=a/\a≠S/\a≠it)/\as.Nodup/\∀(j:Nat)(a:AD),as[j]?=some a->∃e,es[j]?=some e/\h.get? a=some { cls:=.type "tuple", data:=.seq #[e.key,e.val] }
 old:∀b o,h0.get? b=some o->h.get? b=some o
 sz:S<h.objs.size/\it<h.objs.size
theorem ZaW {prog:PP}{w:Ab}{A:Around}{h0:Heap}{it d S:AD}{es:Array DictEntry}{ep:Nat}{o:Obj}(hh:A.in1.handled=none)(ho:h0.get? d=some o)(hd:o.data=.dict es ep)(hS:h0.objs.size<=S)(hit:h0.objs.size<=it)(hne:S≠it) :
  Fed prog w A it S es.size (Ze6 h0 it d S es ep) (λh acc=>∃as:List AD,acc.toList=as.map Value.ref/\as.length=es.size/\(∀a∈as,h0.objs.size<=a/\a≠S)/\as.Nodup/\(∀(j:Nat)(a:AD),as[j]?=some a->∃e,es[j]?=some e/\h.get? a=some { cls:=.type "tuple", data:=.seq #[e.key,e.val] })/\∀b o,h0.get? b=some o->h.get? b=some o):=by
 refine ⟨λi s acc Q E hi st q=>?_,λs acc oS Q E eS st q=>?_,λi h f acc st=>?_⟩
 ·obtain ⟨st,⟨as,a1,a2,a3,a4,a5⟩,old,sz⟩:=st;obtain ⟨e,he⟩:∃e,es[i]?=some e:=⟨_,Array.getElem?_eq_getElem hi⟩;refine Zx st (old _ _ ho) hd he (Nat.ne_of_gt sz.1) λh' st' tp hz kp=>q _ h' (λo y=>kp S o hne y) ⟨st',⟨as++[s.heap.objs.size],by rw [Array.toList_push,a1,List.map_append];rfl,by rw [List.length_append,a2];rfl,λa ha=>?_,?_,λj a hj=>?_⟩,λb o y=>kp b o (Nat.ne_of_lt (Nat.lt_of_lt_of_le (Heap.lt_size y) hit)) (old b o y),hz▸Nat.lt_succ_of_lt sz.1,hz▸Nat.lt_succ_of_lt sz.2⟩
  ·rcases List.mem_append.mp ha with ha | ha
   ·exact a3 a ha
   ·rw [List.mem_singleton.mp ha];exact ⟨Nat.le_of_lt (Nat.lt_of_le_of_lt hS sz.1),Nat.ne_of_gt sz.1,Nat.ne_of_gt sz.2⟩
  ·rw [List.nodup_append];refine ⟨a4,by simp,λa ha b hb z=>?_⟩;rw [List.mem_singleton.mp hb] at z;subst z;obtain ⟨j,hj⟩:=List.mem_iff_getElem?.mp ha;obtain ⟨e',_,e2⟩:=a5 j _ hj;exact Nat.lt_irrefl _ (Heap.lt_size e2)
  ·by_cases hj':j<as.length
   ·rw [List.getElem?_append_left hj'] at hj;obtain ⟨e',e1,e2⟩:=a5 j a hj;exact ⟨e',e1,kp a _ (a3 a (List.mem_of_getElem? hj)).2.2 e2⟩
   ·rw [List.getElem?_append_right (by lia)] at hj;have:j-as.length=0:=by
     have:=(List.getElem?_eq_some_iff.mp hj).1;simp at this;exact this
    rw [this] at hj;cases hj;exact ⟨e,by rw [<-he,<-a2];congr 1;lia,tp⟩
 ·obtain ⟨st,⟨as,a1,a2,a3,a4,a5⟩,old,sz⟩:=st;refine Zy hh st (old _ _ ho) hd (Array.getElem?_eq_none (Nat.le_refl _)) λh' kp=>q h' (λo y=>kp S o hne y) ⟨as,a1,a2,λa ha=>⟨(a3 a ha).1,(a3 a ha).2.1⟩,a4,λj a hj=>?_,λb o y=>kp b o (Nat.ne_of_lt (Nat.lt_of_lt_of_le (Heap.lt_size y) hit)) (old b o y)⟩;obtain ⟨e',e1,e2⟩:=a5 j a hj;exact ⟨e',e1,kp a _ (a3 a (List.mem_of_getElem? hj)).2.2 e2⟩
 ·obtain ⟨⟨f0,f1,ok,ov,e1,hf⟩,⟨as,a1,a2,a3,a4,a5⟩,old,sz⟩:=st;have up:∀b o,b≠S->h.get? b=some o->(h.update S f).get? b=some o:=λb o n y=>(Heap.get?_update_ne _ _ _ _ n).trans y;refine ⟨⟨f0,f1,ok,ov,up _ _ (Ne.symm hne) e1,hf.imp id λ⟨a,oa,y1,y2,y3,y4⟩=>⟨a,oa,y1,up _ _ y4 y2,y3,y4⟩⟩,⟨as,a1,a2,a3,a4,λj a hj=>?_⟩,λb o y=>up b o (Nat.ne_of_lt (Nat.lt_of_lt_of_le (Heap.lt_size y) hS)) (old b o y),by rw [Heap.size_update];exact sz⟩;obtain ⟨e',e1,e2⟩:=a5 j a hj;exact ⟨e',e1,up a _ (a3 a (List.mem_of_getElem? hj)).2.1 e2⟩
section
variable {prog:PP}{w:Ab}{A:Around}{E:Aa->SS->Prop}{s:SS}
theorem Wq {v d:AD}{es:Array DictEntry}{ep:Nat}{o:Obj}{Q:LW->SS->Prop}(hh:A.in1.in1.in1.handled=none)(hv:s.heap.IsItemsView v d)(ho:s.heap.get? d=some o)(hd:o.data=.dict es ep)(hn:es.size<=1000)(q:∀(h':Heap)(as:List AD),as.length=es.size->(∀a∈as,s.heap.objs.size<=a)->as.Nodup->(∀(j:Nat)(a:AD),as[j]?=some a->∃e,es[j]?=some e/\h'.get? a=some { cls:=.type "tuple", data:=.seq #[e.key,e.val] })->(∀b o,s.heap.get? b=some o->h'.get? b=some o)->s.heap.objs.size<h'.objs.size->Q (as.map Value.ref) { s with heap:=h' }) :
  wpAny (model prog w) A (collect (.ref v)) Q E s:=by
 refine wpAny_bind (wpAny_runValue (codeAny_builtin F.entry_proto_collect ?_));rw [Around.under_plainId F.plain_proto_collect _];refine wpAny_bind (wpAny_newList ?_ (Nat.zero_le _));refine wpAny_pure ⟨plainId_quiet F.plain_list_iadd _,codeAny_builtin F.entry_list_iadd ?_⟩;rw [Around.under_plainId F.plain_list_iadd _];have hS:ZbY (s.heap.push { cls:=.type "list", data:=.seq #[] }) s.heap.objs.size #[] 0:=Heap.get?_push_size _ rfl;have hv1:(s.heap.push { cls:=.type "list", data:=.seq #[] }).IsItemsView v d:=let ⟨o,a,r⟩:=hv;⟨o,Heap.get?_push_of_some _ a,r⟩;have nv:s.heap.objs.size≠v:=λe=>by obtain ⟨o,a,_⟩:=hv;rw [<-e] at a;exact Nat.lt_irrefl _ (Heap.lt_size a)
 have T1:=hv1.typeIs (s:={ s with heap:=s.heap.push { cls:=.type "list", data:=.seq #[] } });show wpAny _ _ _ _ _ { s with heap:=s.heap.push { cls:=.type "list", data:=.seq #[] } }
 wp_walk
 rw [if_neg (by simp [Builtin.List.listSameRef,nv])];have ho1:(s.heap.push { cls:=.type "list", data:=.seq #[] }).get? d=some o:=Heap.get?_push_of_some _ ho;have sz1:(s.heap.push { cls:=.type "list", data:=.seq #[] }).objs.size=s.heap.objs.size+1:=Heap.size_push ..;have k1:∀b o,s.heap.get? b=some o->(s.heap.push { cls:=.type "list", data:=.seq #[] }).get? b=some o:=λb o e=>Heap.get?_push_of_some _ e;generalize s.heap.push { cls:=.type "list", data:=.seq #[] }=h1 at *;refine wpAny_bind (Zz (S:=s.heap.objs.size) (s:={ s with heap:=h1 }) hv1 ho1 hd λh2 st2 sz2 k2=>?_);have T2:Shared.TypeIs { s with heap:=h2 } (.ref v) "dict_items" := let ⟨o,a,b,_⟩:=hv1;⟨o,k2 _ _ a,b⟩;refine wpAny_bind (wpAny_holding (PySem.W.kdx_hint T2 ?_));have hS2:ZbY h2 s.heap.objs.size #[] 0:=k2 _ _ hS;have hlt:s.heap.objs.size<h2.objs.size:=Heap.lt_size hS2;have W:=ZaW (prog:=prog) (w:=w) (A:=A.in1) (h0:=s.heap) (it:=h1.objs.size) (d:=d) (S:=s.heap.objs.size) hh ho hd (Nat.le_refl _) (by rw [sz1];exact Nat.le_succ _) (by rw [sz1];exact Nat.ne_of_lt (Nat.lt_succ_self _));have on:Ze6 s.heap h1.objs.size d s.heap.objs.size es ep 0 h2 #[]:=⟨st2,⟨[],rfl,rfl,by simp,by simp,by simp⟩,λb o e=>k2 _ _ (k1 _ _ e),hlt,by rw [sz2];exact Nat.lt_succ_self _⟩
 wp_walk
 refine ⟨plainId_quiet F.plain_extend_loop _,W.loop hn (.ref s.heap.objs.size) es.size _ #[] _ (by simp) (W.aside _ _ _ _ (W.aside _ _ _ _ on)) (Heap.get?_update_self _ (Heap.get?_update_self _ hS2 rfl) rfl) λh' acc c e f l=>?_⟩;obtain ⟨as,a1,a2,a3,a4,a5,a6⟩:=f;refine wpAny_bind (wpAny_load l (wpAny_pure ?_));rw [a1];exact q h' as a2 (λa ha=>(a3 a ha).1) a4 a5 a6 (Heap.lt_size l)
end
end L2
namespace L2
open PySem PySem.Spec PyProof.Rows Classical
section
variable {prog:PP}{w:Ab}{A:Around}{E:Aa->SS->Prop}{s:SS}{b:Keyed->Keyed->Bool}{good:Keyed->Prop}
theorem Vf {h:Heap}{a:AD}{xs ys:Array Aa}(h1:h.IsTuple a xs)(h2:h.IsTuple a ys):xs=ys:=by
 obtain ⟨o,e,_,n,d⟩:=h1;obtain ⟨o',e',_,n',d'⟩:=h2;rw [e] at e';cases e';rw [d] at d';cases d'
 rfl
end
end L2
namespace L2
open PySem PySem.Spec PyProof.Rows Classical
section
variable {prog:PP}{w:Ab}{A:Around}{E:Aa->SS->Prop}{s:SS}
theorem ZaX {β:Type}{f:Aa×Aa->β->Sem (ForInStep β)}{c0:β}{cR:Bool->β}{Q:β->SS->Prop}(feq:∀(x:Int)(t u:Tok){Q:ForInStep β->SS->Prop},Q (.yield c0) s->wpAny (model prog w) A (f (.int x t,.int x u) c0) Q E s)(fne:∀(x y:Int)(t u:Tok){Q:ForInStep β->SS->Prop},x≠y->Q (.done (cR (decide (x<y)))) s->wpAny (model prog w) A (f (.int x t,.int y u) c0) Q E s) :
  ∀{xs ys:LW}{ns ms:LI},IntsAre xs ns->IntsAre ys ms->Q (cR (Jq ns ms)) s->(decide (ns.length<ms.length)=Jq ns ms->Q c0 s)->wpAny (model prog w) A (forIn (xs.zip ys) c0 f) Q E s
 | _,_,_,_,.nil,hy,_,q=>by
  rw [List.zip_nil_left,List.forIn_nil];refine wpAny_pure (q ?_);cases hy <;> simp [Jq]
 | _,_,_,_,.cons n t hx,.nil,_,q=>by
  rw [List.zip_nil_right,List.forIn_nil];exact wpAny_pure (q (by simp [Jq]))
 | _,_,_,_,.cons n t hx,.cons m u hy,q1,q2=>by
  rw [List.zip_cons_cons,List.forIn_cons];by_cases e:n=m
  ·subst e;refine wpAny_bind (feq n t u ?_);dsimp only;unfold Jq at q1 q2;rw [if_pos rfl] at q1 q2;exact ZaX feq fne hx hy q1 λz=>q2 (by rw [<-z];simp)
  ·refine wpAny_bind (fne n m t u e ?_);dsimp only;unfold Jq at q1;rw [if_neg e] at q1;exact wpAny_pure q1
theorem YL {a b:AD}{xs ys:Array Aa}{ns ms:LI}{P:PySem.Fin->SS->Prop}(ha:s.heap.IsTuple a xs)(hb:s.heap.IsTuple b ys)(hx:IntsAre xs.toList ns)(hy:IntsAre ys.toList ms)(h:P (.done (.ret (.bool (Jq ns ms)))) s) :
  wpAny (model prog w) A (Builtin.«tuple.__lt__» ⟨[.ref a,.ref b],[]⟩) P E s:=by
 obtain ⟨oa,ga,ca,na,da⟩:=ha;obtain ⟨ob,gb,cb,nb,db⟩:=hb;show wpAny _ _ (isInstance (.ref b) (.type "tuple") >>= _) _ _ s;refine wpAny_bind (wpAny_isInstance (T := "tuple") ⟨ob,gb,cb⟩ isSubtype_tuple_tuple ?_);simp only [Bool.not_true,Bool.false_eq_true,if_false];refine wpAny_bind (wpAny_tupleItemsOf ga da (wpAny_bind (wpAny_tupleItemsOf gb db (wpAny_bind ?_))));refine ZaX (cR:=λc=>(some (PySem.Fin.done (.ret (.bool c))),())) ?_ ?_ hx hy ?_ ?_
 ·intro x t u Q q;refine wpAny_bind (wpAny_eqBool_int ?_);rw [show (x == x)=true from beq_self_eq_true _];simp only [Bool.not_true,Bool.false_eq_true,if_false];exact wpAny_pure q
 ·intro x y t u Q hne q;refine wpAny_bind (wpAny_eqBool_int ?_);rw [show (x == y)=false by rw [beq_eq_false_iff_ne];exact hne];simp only [Bool.not_false,if_true];exact wpAny_bind (wpAny_rule (wpAny_bind (lt_int (wpAny_bind (wpAny_pure (wpAny_pure q))))))
 ·exact wpAny_pure h
 ·intro z;refine wpAny_pure ?_;have e:Builtin.Tuple.tupleCompareSizes .Lt xs.size ys.size=.bool (Jq ns ms):=by
   rw [<-z,<-JJ hx,<-JJ hy,Array.length_toList,Array.length_toList]
   rfl
  show P (.done (.ret (Builtin.Tuple.tupleCompareSizes .Lt xs.size ys.size))) s;rw [e];exact h
theorem Ze7 {a b:AD}{xs ys:Array Aa}{ns ms:LI}{Q:Aa->SS->Prop}(ha:s.heap.IsTuple a xs)(hb:s.heap.IsTuple b ys)(hx:IntsAre xs.toList ns)(hy:IntsAre ys.toList ms)(hu:A.units<cLine)(h:Q (.bool (Jq ns ms)) s):wpAny (model prog w) A (richCompare .Lt (.ref a) (.ref b)) Q E s:=by
 have Ta:s.TypeIs (.ref a) "tuple" := ha.elim λo z=>⟨o,z.1,z.2.1⟩;have Tb:s.TypeIs (.ref b) "tuple" := hb.elim λo z=>⟨o,z.1,z.2.1⟩;exact wpAny_richCompare_same_room (op:=.Lt) Ta Tb F.slot_tuple_lt (wpAny_call_entry F.slot_tuple_lt Ta F.entry_tuple_lt (YL ha hb hx hy ⟨_,rfl,(λe=>nomatch e),h⟩) (F.args_tuple_lt_2 _ _)) hu
theorem ZaY {o:Bool}{a c:AD}{xs ys:Array Aa}{ns ms:LI}{Q:Bool->SS->Prop}(ha:s.heap.IsTuple a xs)(hc:s.heap.IsTuple c ys)(hx:IntsAre xs.toList ns)(hy:IntsAre ys.toList ms)(hu:A.units<cLine)(h:Q (Jq ns ms) s) :
  wpAny (model prog w) A (oneLt' o (.ref a) (.ref c)) Q E s:=by
 cases o with
 | true=>
  rw [oneLt'_eq];dsimp only;rw [if_pos rfl];refine wpAny_bind (wpAny_cRoom hu ?_);have Ta:s.TypeIs (.ref a) "tuple" := ha.elim λo z=>⟨o,z.1,z.2.1⟩;refine wpAny_bind (wpAny_callSpecialIfBound?_slot Ta F.slot_tuple_lt (wpAny_call_entry F.slot_tuple_lt Ta F.entry_tuple_lt (YL ha hc hx hy ⟨_,rfl,?_⟩) (F.args_tuple_lt_2 _ _)));show wpAny _ A (truthOfDropped (.bool (Jq ns ms))) Q E s;exact wpAny_truthy_bool h
 | false=>exact W.kat_one _ _ (Ze7 ha hc hx hy hu h)
theorem ZaZ {kd:SortKind}{b:Keyed->Keyed->Bool}{good:Keyed->Prop}(h:∀x y,good x->good y->∀{E':Aa->SS->Prop}{Q:Bool->SS->Prop},Q (b x y) s->wpAny (model prog w) A (keyLt' kd x.1 y.1) Q E' s):LtOk (model prog w) A E s kd b good:=by
 intro x y st Q gx gy hs q;rw [lt'_eq];refine wpS_bind (wpS_get ?_);refine wpS_bind (wpS_lift ?_);rw [hs];exact wpAny_attempt (h x y gx gy ⟨rfl,wpS_pure q⟩)
end
end L2
namespace L2
open PySem PySem.Spec PyProof.Rows Classical
def UA (a b:LI×Int):Bool:=Jq a.1 b.1 || (decide (a.1=b.1) && decide (a.2<b.2))
theorem tlt_iff {a b:LI×Int}:UA a b=true↔Jq a.1 b.1=true\/(a.1=b.1/\a.2<b.2):=by simp [UA]
theorem Za0 (a:LI×Int):UA a a=false:=by simp [UA,UO]
theorem Ze8 {a b c:LI×Int}(h1:UA a b=true)(h2:UA b c=true):UA a c=true:=by
 rcases tlt_iff.mp h1 with h1 | ⟨h1,k1⟩ <;> rcases tlt_iff.mp h2 with h2 | ⟨h2,k2⟩
 ·exact tlt_iff.mpr (.inl (XU h1 h2))
 ·exact tlt_iff.mpr (.inl (h2▸h1))
 ·exact tlt_iff.mpr (.inl (h1▸h2))
 ·exact tlt_iff.mpr (.inr ⟨h1.trans h2,by lia⟩)
theorem Za1 {a b:LI×Int}(h1:UA a b=false)(h2:UA b a=false):a=b:=by
 have h1:(Jq a.1 b.1=true\/(a.1=b.1/\a.2<b.2))->False:=λz=>by rw [tlt_iff.mpr z] at h1;cases h1
 have h2:(Jq b.1 a.1=true\/(b.1=a.1/\b.2<a.2))->False:=λz=>by rw [tlt_iff.mpr z] at h2;cases h2
 have e:a.1=b.1:=by
  cases k1:Jq a.1 b.1 with
  | true=>exact (h1 (.inl k1)).elim
  | false=>
   cases k2:Jq b.1 a.1 with
   | true=>exact (h2 (.inl k2)).elim
   | false=>exact UP k1 k2
 refine Prod.ext e ?_;rcases Int.lt_trichotomy a.2 b.2 with h | h | h
 ·exact (h1 (.inr ⟨e,h⟩)).elim
 ·exact h
 ·exact (h2 (.inr ⟨e.symm,h⟩)).elim
def IsTI (h:Heap)(a:AD)(x:LI×Int):Prop:=∃(b:AD)(t:Tok)(its:Array Aa),h.IsTuple a #[.ref b,.int x.2 t]/\h.IsTuple b its/\IntsAre its.toList x.1
theorem IsTI.one {h:Heap}{a:AD}{x y:LI×Int}(h1:IsTI h a x)(h2:IsTI h a y):x=y:=by
 obtain ⟨b,t,its,p1,p2,p3⟩:=h1;obtain ⟨c,u,jts,q1,q2,q3⟩:=h2;have e:=Vf p1 q1;simp only [Array.mk.injEq,List.cons.injEq,Value.int.injEq,Value.ref.injEq,and_true] at e;obtain ⟨rfl,e1,_⟩:=e;have:=Vf p2 q2;subst this;exact Prod.ext (Wm p3 q3) e1
noncomputable def Zcn (h:Heap)(v:Aa):LI×Int:=if q:∃x a,v=.ref a/\IsTI h a x then choose q else ([],0)
theorem Oj {h:Heap}{a:AD}{x:LI×Int}(hx:IsTI h a x):Zcn h (.ref a)=x:=by
 have q:∃x a',Value.ref a=.ref a'/\IsTI h a' x:=⟨x,a,rfl,hx⟩;unfold Zcn;rw [dif_pos q];obtain ⟨a',e,h1⟩:=choose_spec q;cases e;exact h1.one hx
theorem Ze9 (h:Heap):WO (λx y=>UA (Zcn h x.1) (Zcn h y.1)):=ZaM (κ:=λx:Keyed=>Zcn h x.1) (lt:=UA) Za0 Ze8 Za1
theorem IsTI.keep {h h':Heap}{a:AD}{x:LI×Int}(k:∀c o,h.get? c=some o->h'.get? c=some o)(p:IsTI h a x):IsTI h' a x:=by
 obtain ⟨b,t,its,⟨o,e,r⟩,⟨o',e',r'⟩,p3⟩:=p;exact ⟨b,t,its,⟨o,k _ _ e,r⟩,⟨o',k _ _ e',r'⟩,p3⟩
theorem O8 {h:Heap}:∀{vs:LW}{ns:LI},IntsAre vs ns->∃as,ReadsAll h vs (ns.map PyData.int) as
 | _,_,.nil=>⟨_,.nil⟩
 | _,_,.cons n t hx=>(O8 hx).elim λas r=>⟨_,.cons (.int n t) r⟩
theorem VI {h:Heap}{b:AD}{its:Array Aa}{ns:LI}(ht:h.IsTuple b its)(hi:IntsAre its.toList ns):∃as,Reads h (.ref b) (.tuple (ns.map PyData.int)) as:=by
 obtain ⟨o,e,c,n,d⟩:=ht;obtain ⟨as,r⟩:=O8 (h:=h) hi;exact ⟨_,.tuple e c d r⟩
theorem Vg (ns:LI):SeqAt.shaped (.tuple (ns.map PyData.int))=true:=by
 have h:=JB ns;unfold SeqAt.shaped at h ⊢;simpa [PyData.canLay0,PyData.depth] using h
theorem Zco (ns ms:LI):PyData.eqv (.tuple (ns.map PyData.int)) (.tuple (ms.map PyData.int))=decide (ns=ms):=by
 have h:=OV ns ms;simpa [PyData.eqv] using h
section
variable {prog:PP}{w:Ab}{A:Around}{E:Aa->SS->Prop}{s:SS}
theorem Zcp {a b:AD}{xs ys:Array Aa}{ns ms:LI}(hl:s.heap.IsTuple a xs)(hi:IntsAre xs.toList ns)(hl':s.heap.IsTuple b ys)(hi':IntsAre ys.toList ms)(hu:A.in1.units+64<cLine):SeqAt.EqAt A.in1 s (.ref a) (.ref b) (decide (ns=ms)):=by
 obtain ⟨as,ra⟩:=VI hl hi;obtain ⟨bs,rb⟩:=VI hl' hi';have x:=W.keq_at (A:=A) ra rb (Vg ns) (Vg ms) hu;rw [Zco] at x;exact x
theorem Zfa {a c:AD}{x y:LI×Int}{Q:Bool->SS->Prop}(px:IsTI s.heap a x)(py:IsTI s.heap c y)(hu:A.in1.units+64<cLine)(q:Q (UA x y) s):wpAny (model prog w) A.in1 (keyLt' (tuples' false) (.ref a) (.ref c)) Q E s:=by
 obtain ⟨b1,t1,i1,⟨o1,g1,_,n1,d1⟩,l1,p1⟩:=px;obtain ⟨b2,t2,i2,⟨o2,g2,_,n2,d2⟩,l2,p2⟩:=py;refine W.kat_lt g1 d1 g2 d2 ?_;refine W.kat_cons (Zcp (A:=A) l1 p1 l2 p2 hu prog w _ _ (W.kat_go (λhe=>W.kat_yes (W.kat_cons (wpAny_eqBool_int (W.kat_go (λhe2=>W.kat_yes (W.kat_nil ?_)) λhe2=>W.kat_no ?_)))) λhe=>W.kat_no ?_))
 ·have e1:x.1=y.1:=of_decide_eq_true he;have e2:x.2=y.2:=by simpa using he2
  have:UA x y=false:=by rw [Prod.ext e1 e2];exact Za0 y
  rw [this] at q;simpa using q
 ·have e1:x.1=y.1:=of_decide_eq_true he;have:UA x y=decide (x.2<y.2):=by simp [UA,e1,UO]
  rw [this] at q;exact W.kat_one _ _ (PyProof.Rows.lt_int q)
 ·have e1:x.1≠y.1:=of_decide_eq_false he;have:UA x y=Jq x.1 y.1:=by simp [UA,e1]
  rw [this] at q;exact ZaY l1 l2 p1 p2 (by lia) q
end
abbrev TI2:=AD×AD×(LI×Int)
section
variable {X:Cx}(K:FF)
def ZdW:List V->Hp->VK->Prop:=λxs H Q=>∃(p:AD)(zs:List TI2),xs=[.ref p]/\SqL K H p (zs.map λz=>V.ref z.1)/\(∀z∈zs,SqT K H z.1 [.ref z.2.1,.int z.2.2.2]/\SqT K H z.2.1 (z.2.2.1.map V.int)) /\
 ∀(l:AD)(zs':List TI2),H l=none->zs'.Perm zs->(zs'.map (·.2.2)).Pairwise (λa b=>UA b a=false)->Q (.ref l) (upd H l (.lst (zs'.map λz=>V.ref z.1)))
theorem Za2:∀{zs:List TI2}{its:LW},Vals (zs.map λz=>V.ref z.1) its->its=zs.map λz=>Value.ref z.1
 | [],_,h=>by cases h;rfl
 | z::zs,_,h=>by
  cases h with
  | cons r h=>
   cases r;rw [Za2 h]
   rfl
theorem XW:∀(zs:List TI2),Vals (zs.map λz=>V.ref z.1) (zs.map λz=>Value.ref z.1)
 | []=>.nil
 | z::zs=>.cons rfl (XW zs)
theorem ZdX (hu:X.A.units+71<cLine)(h:X.K=K:=by rfl):Jt X (.builtin "sorted") (ZdW K):=by
 subst h;intro qQ s σ H xs us Q I rv h;obtain ⟨p,zs,rfl,hq,hz,q⟩:=h;obtain ⟨u,rfl,ru⟩:=rv.one;cases ru;obtain ⟨its,r,pl,hzl⟩:=I.list hq;have hl:=r.length;rw [List.length_map] at hl hzl;have ei:=Za2 r;have key:∀z∈zs,IsTI s.heap z.1 z.2.2:=λz hzm=>by
  obtain ⟨iz,rz,pz,_⟩:=I.tuple (hz z hzm).1;obtain ⟨il,rl,pl',_⟩:=I.tuple (hz z hzm).2;obtain ⟨u,v,rfl,ru,⟨t,rfl⟩⟩:=rz.two;cases ru;exact ⟨z.2.1,t,il.toArray,pz,pl',Jv rl⟩
 have isL:∀v∈its,∃a x,v=.ref a/\IsTI s.heap a x:=λv hv=>by
  rw [ei] at hv;obtain ⟨z,hzm,rfl⟩:=List.mem_map.mp hv;exact ⟨z.1,_,rfl,key z hzm⟩
 have tups:∀(h':Heap),(∀c o,s.heap.get? c=some o->h'.get? c=some o)->∀vs:LW,(∀v∈vs,∃a x,v=.ref a/\IsTI s.heap a x)->∃fs:LW,W.KatTups h' vs fs/\fs.length=vs.length/\∀f∈fs,∃(b:AD)(o:Obj),f=.ref b/\h'.get? b=some o/\o.cls=.type "tuple" := by
  intro h' k vs
  induction vs with
  | nil=>intro _;exact ⟨[],.nil,rfl,λf hf=>by cases hf⟩
  | cons v vs ih=>
   intro h;obtain ⟨fs,h1,h2,h3⟩:=ih λx hx=>h x (List.mem_cons_of_mem _ hx);obtain ⟨a,x,rfl,px⟩:=h v (List.mem_cons_self ..);obtain ⟨b,t,it,⟨o,e,c,n,d⟩,⟨o2,e2,c2,_⟩,_⟩:=px.keep k;refine ⟨.ref b::fs,.cons e c d rfl h1,by simp [h2],λf hf=>?_⟩;rcases List.mem_cons.mp hf with rfl | hf
   ·exact ⟨b,o2,rfl,e2,c2⟩
   ·exact h3 f hf
 refine Ut (kd:=tuples' false) (good:=λx=>∃a y,x.1=.ref a/\IsTI s.heap a y) (Ze9 s.heap) pl.isList (by lia) isL (λh' k h2 E' R q=>?_) (λh' k=>ZaZ λx y gx gy E' Q q=>?_) λout hp hr=>?_
 ·obtain ⟨fs,t1,t2,t3⟩:=tups h' k its isL;exact W.kat_kind (T:=.type "tuple") t1 (by lia) (λv hv=>by obtain ⟨b,o,rfl,e,c⟩:=t3 v hv;exact c▸(W.Looks.ld e).andThen .now) rfl q
 ·obtain ⟨a,y1,e1,h1⟩:=gx;obtain ⟨c,y2,e2,h2⟩:=gy;simp only [e1,e2,Oj h1,Oj h2] at q ⊢;exact Zfa (A:=X.A.in1) (h1.keep k) (h2.keep k) (by rw [Around.in1_units,Around.in1_units];lia) q
 ·obtain ⟨o1,o2,o3⟩:=UQ hp;obtain ⟨e,he⟩:=sortedAll_at s.heap its (out.map (·.2));rw [ei] at o1;obtain ⟨zs',p1,p2⟩:=Vd o1;have ps:(zs'.map (·.2.2)).Pairwise (λa b=>UA b a=false):=by
   have a1:=JK hr o3;have a2:(out.toList.map (·.2)).Pairwise (λu v=>UA (Zcn s.heap v) (Zcn s.heap u)=false):=by
    rw [List.pairwise_map];refine a1.imp_of_mem λ{x y} hx hy hxy=>?_;rw [<-(o2 x hx).1,<-(o2 y hy).1];exact hxy
   rw [Array.toList_map] at p2;rw [<-p2,List.pairwise_map] at a2;rw [List.pairwise_map];refine a2.imp_of_mem λ{x y} hx hy hxy=>?_;rw [Oj (key x (p1.mem_iff.mp hx)),Oj (key y (p1.mem_iff.mp hy))] at hxy;exact hxy
  refine ⟨.ref _,_,I.laid (a:=s.heap.objs.size+1) (t':=s.toks) (o:=.lst (zs'.map λz=>V.ref z.1)) (λb o e=>sortedAll_old e) (Nat.le_succ _) ⟨by rw [List.length_map,p1.length_eq];exact hzl,(out.map (·.2)).toList,e,by rw [<-p2];exact XW zs',he⟩,rfl,q _ _ (I.hok.fresh (Nat.le_succ _)) p1 ps⟩
end
end L2
namespace L2
open PySem PySem.Spec PyProof.Rows Classical
def IVw (v d:AD):HO:=.ext λh=>h.IsItemsView v d
abbrev kvI (x:LI×Int):List Key×V:=(x.1.map Sum.inl,.int x.2)
def Zef (H:Hp):List TI2->Hp
 | []=>H
 | z::zs=>upd (Zef H zs) z.1 (.tup [.ref z.2.1,.int z.2.2.2])
theorem XX {H:Hp}{b:AD}:∀{zs:List TI2},b ∉ zs.map (·.1)->Zef H zs b=H b
 | [],_=>rfl
 | z::zs,h=>by
  rw [List.map_cons,List.mem_cons] at h;rw [Zef,Gu (λe=>h (.inl e)),XX λe=>h (.inr e)]
theorem Za3 {H:Hp}:∀{zs:List TI2},(zs.map (·.1)).Nodup->∀z∈zs,Zef H zs z.1=some (.tup [.ref z.2.1,.int z.2.2.2])
 | x::zs,nd,z,hz=>by
  rw [List.map_cons,List.nodup_cons] at nd;rcases List.mem_cons.mp hz with rfl | hz
  ·exact Gb
  ·rw [Zef,Gu (λe=>nd.1 (by rw [<-e];exact List.mem_map.mpr ⟨z,hz,rfl⟩))];exact Za3 nd.2 z hz
theorem Vh (ns:LI):(ns.map (Sum.inl:Int->Key)).map kV=ns.map V.int:=by rw [List.map_map];rfl
theorem Zfb {H:Hp}{h:Heap}:∀{ks:List (LI×Int)}{xs:List (List Key×AD×Aa)}{as:List AD},Paired (λ(p:List Key×V) (q:List Key×AD×Aa)=>p.1=q.1/\H q.2.1=some (.tup (p.1.map kV))/\RelV p.2 q.2.2) (ks.map kvI) xs->as.length=xs.length ->
  (∀(j:Nat) a x,as[j]?=some a->xs[j]?=some x->h.get? a=some { cls:=.type "tuple", data:=.seq #[.ref x.2.1,x.2.2] }) ->
  ∃zs:List TI2,zs.map (·.1)=as/\zs.map (·.2.2)=ks/\∀z∈zs,(∃t,h.get? z.1=some { cls:=.type "tuple", data:=.seq #[.ref z.2.1,.int z.2.2.2 t] })/\H z.2.1=some (.tup (z.2.2.1.map V.int))
 | [],_,as,.nil,hl,_=>⟨[],(List.eq_nil_of_length_eq_zero hl).symm,rfl,by simp⟩
 | k::ks,x::xs,a::as,.cons ⟨_,r2,t,r3⟩ r,hl,g=>by
  obtain ⟨zs,z1,z2,z3⟩:=Zfb (ks:=ks) r (by simpa using hl) λj a x h1 h2=>g (j+1) a x (by simpa using h1) (by simpa using h2);refine ⟨(a,x.2.1,k)::zs,by rw [List.map_cons,z1],by rw [List.map_cons,z2],λz hz=>?_⟩;rcases List.mem_cons.mp hz with rfl | hz
  ·refine ⟨⟨t,?_⟩,by rw [r2,Vh]⟩;rw [g 0 a x rfl rfl,r3]
  ·exact z3 z hz
section
variable {X:Cx}(K:FF)
theorem Zcq:MtR X "dict.items" (λx xs H Q=>∃d kvs,x=.ref d/\xs=[]/\H d=some (.dT kvs)/\∀v,H v=none->Q (.ref v) (upd H v (IVw v d))):=by
 intro qQ s σ H x xs v us Q I rx rv h;obtain ⟨d,kvs,rfl,rfl,hd,q⟩:=h;cases rx;have hus:=rv.zero;subst hus;obtain ⟨_,hs,ys,_,o,es,ep,h1,h2,h3,_⟩:=(show ObjOk X.prog X.w H s.heap d (.dT kvs) from I.hok d _ hd);have hf:H s.heap.objs.size=none:=I.hok.fresh (Nat.le_refl _);refine ZA hs h1 h2 h3 ⟨.ref s.heap.objs.size,upd H s.heap.objs.size (IVw s.heap.objs.size d),I.laid (t':=s.toks) (λb u e=>Heap.get?_push_of_some _ e) (Nat.le_refl _) ?_,rfl,q _ hf⟩;have hv:(s.heap.push { cls:=.type "dict_items", data:=.fields #[.ref d] }).get? s.heap.objs.size=some { cls:=.type "dict_items", data:=.fields #[.ref d] }:=Heap.get?_push_size _ rfl;exact ⟨⟨_,hv,rfl,rfl⟩,⟨_,hv⟩,λg1 g2 ⟨o,e,r⟩ k=>⟨o,k _ e,r⟩⟩
def ZdY:List V->Hp->VK->Prop:=λxs H Q=>∃(v d:AD)(ks:List (LI×Int)),xs=[.ref v]/\H v=some (IVw v d)/\H d=some (.dT (ks.map kvI))/\ks.length<=1000 /\
 ∀(l:AD)(zs:List TI2)(H':Hp),Same H H'->H l=none->H' l=some (.lst (zs.map λz=>V.ref z.1))->(∀z∈zs,H' z.1=some (.tup [.ref z.2.1,.int z.2.2.2])/\H' z.2.1=some (.tup (z.2.2.1.map V.int)))->(zs.map (·.2.2)).Perm ks->(zs.map (·.2.2)).Pairwise (λa b=>UA b a=false)->Q (.ref l) H'
theorem ZdZ (hc:X.calm=true)(hu:X.A.units+71<cLine)(h:X.K=K:=by rfl):Jt X (.builtin "sorted") (ZdY):=by
 subst h;intro qQ s σ H xs us Q I rv h;obtain ⟨v,d,ks,rfl,ev,ed,hn,q⟩:=h;obtain ⟨u,rfl,ru⟩:=rv.one;cases ru;have hh:X.A.in1.in1.in1.in1.handled=none:=I.ok.hd hc;obtain ⟨hv,_⟩:=(show ObjOk X.prog X.w H s.heap v (IVw v d) from I.hok v _ ev);obtain ⟨_,_,ys,pr,o,es,ep,h1,h2,h3,h4,h5⟩:=(show ObjOk X.prog X.w H s.heap d (.dT (ks.map kvI)) from I.hok d _ ed);have yl:ys.length=ks.length:=by have:=pr.length;rw [List.length_map] at this;exact this.symm
 have el:es.size=ys.length:=by rw [<-Array.length_toList,h4,List.length_map]
 refine Calls.call_function_entry kind_sorted plain_sorted entry_sorted (args_sorted1 _) ?_;unfold Builtin.«sorted»;apply wpAny_bind (m:=checkCount "sorted" 1 1 _);apply wpAny_pure;apply wpAny_bind;refine Wq (A:=X.A.in1) hh hv h1 h3 (by lia) λh' as a1 a2 a3 a4 k1 szh=>?_;have al:as.length=ys.length:=by lia
 obtain ⟨zs,z1,z2,z3⟩:=Zfb (h:=h') pr al λj a x e1 e2=>by
  obtain ⟨e,g1,g2⟩:=a4 j a e1;have:es.toList[j]?=some (entryOfKey (tupleKind (GE X.prog X.w)) x):=by rw [h4,List.getElem?_map,e2];rfl
  rw [Array.getElem?_toList,g1] at this;cases this;exact g2
 have evs:as.map Value.ref=zs.map λz=>Value.ref z.1:=by rw [<-z1,List.map_map];rfl
 rw [evs];have zl:(zs.map λz=>Value.ref z.1).length=ks.length:=by rw [List.length_map,<-z2,List.length_map]
 have key:∀z∈zs,IsTI h' z.1 z.2.2:=λz hz=>by
  obtain ⟨⟨t,g1⟩,g2⟩:=z3 z hz;obtain ⟨il,rl,pl',_⟩:=I.tuple (SqT.of (K:=X.K) g2);obtain ⟨o',e',r'⟩:=pl';exact ⟨z.2.1,t,il.toArray,⟨_,g1,rfl,_,rfl⟩,⟨o',k1 _ _ e',r'⟩,Jv rl⟩
 have isL:∀v∈zs.map (λz=>Value.ref z.1),∃a x,v=.ref a/\IsTI h' a x:=λv hv=>by
  obtain ⟨z,hz,rfl⟩:=List.mem_map.mp hv;exact ⟨z.1,_,rfl,key z hz⟩
 have h16:=sizeLine_eq;apply wpAny_bind;refine wpAny_newList ?_ (by lia);generalize hvs:(zs.map λz=>Value.ref z.1)=vs at *;have hoL:(h'.push (seqObj "list" vs.toArray 0)).get? h'.objs.size=some (seqObj "list" vs.toArray 0):=Heap.get?_push_size _ rfl;apply wpAny_bind;apply wpAny_holding;have k3:∀(T:Nat) c o,h'.get? c=some o->(Oi { s with heap:=h'.push (seqObj "list" vs.toArray 0),toks:=T } h'.objs.size vs).heap.get? c=some o:=λT c o e=>by
  unfold Oi;exact Heap.get?_push_of_some _ (Heap.get?_push_of_some _ (J4 (Nat.ne_of_lt (Heap.lt_size e)) (Heap.get?_push_of_some _ e)))
 have tups:∀(g:Heap),(∀c o,h'.get? c=some o->g.get? c=some o)->∀us:LW,(∀v∈us,∃a x,v=.ref a/\IsTI h' a x)->∃fs:LW,W.KatTups g us fs/\fs.length=us.length/\∀f∈fs,∃(b:AD)(o:Obj),f=.ref b/\g.get? b=some o/\o.cls=.type "tuple" := by
  intro g k us
  induction us with
  | nil=>intro _;exact ⟨[],.nil,rfl,λf hf=>by cases hf⟩
  | cons v us ih=>
   intro hu;obtain ⟨fs,g1,g2,g3⟩:=ih λx hx=>hu x (List.mem_cons_of_mem _ hx);obtain ⟨a,x,rfl,px⟩:=hu v (List.mem_cons_self ..);obtain ⟨b,t,it,⟨o,e,c,n,d⟩,⟨o2,e2,c2,_⟩,_⟩:=px.keep k;refine ⟨.ref b::fs,.cons e c d rfl g1,by simp [g2],λf hf=>?_⟩;rcases List.mem_cons.mp hf with rfl | hf
   ·exact ⟨b,o2,rfl,e2,c2⟩
   ·exact g3 f hf
 refine wpAny_call_entry slot_list_sort ⟨_,hoL,rfl⟩ entry_list_sort (O7 (kd:=tuples' false) (good:=λx=>∃a y,x.1=.ref a/\IsTI h' a y) (Ze9 h') hoL (by lia) isL (λg2 E' R q'=>?_) (ZaZ λx y gx gy E' Q q'=>?_) λout hpm hr=>⟨_,rfl,?_⟩) (args_list_sort _)
 ·obtain ⟨fs,t1,t2,t3⟩:=tups _ (k3 _) vs isL;exact W.kat_kind (T:=.type "tuple") t1 (by lia) (λv hv=>by obtain ⟨b,o,rfl,e,c⟩:=t3 v hv;exact c▸(W.Looks.ld e).andThen .now) rfl q'
 ·obtain ⟨a,y1,e1,g1⟩:=gx;obtain ⟨c,y2,e2,g2⟩:=gy;simp only [e1,e2,Oj g1,Oj g2] at q' ⊢;exact Zfa (A:=X.A.in1) (g1.keep (k3 _)) (g2.keep (k3 _)) (by rw [Around.in1_units,Around.in1_units];lia) q'
 ·obtain ⟨o1,o2,o3⟩:=UQ hpm;refine wpAny_pure ⟨_,rfl,?_⟩;obtain ⟨e,he⟩:=sortedHeap_at (out:=out.map (·.2)) hoL;have hkeep:∀b o,h'.get? b=some o->(sortedHeap (h'.push (seqObj "list" vs.toArray 0)) h'.objs.size vs (out.map (·.2))).get? b=some o:=λb o e=>by
   have hb:=Heap.lt_size e;rw [sortedHeap_old (Nat.ne_of_lt hb) (by rw [Heap.size_push];exact Nat.lt_succ_of_lt hb)];exact Heap.get?_push_of_some _ e
  generalize sortedHeap (h'.push (seqObj "list" vs.toArray 0)) h'.objs.size vs (out.map (·.2))=hF at he hkeep ⊢;rw [<-hvs] at o1;obtain ⟨zs',p1,p2⟩:=Vd o1;have ps:(zs'.map (·.2.2)).Pairwise (λa b=>UA b a=false):=by
   have a1:=JK hr o3;have a2:(out.toList.map (·.2)).Pairwise (λu v=>UA (Zcn h' v) (Zcn h' u)=false):=by
    rw [List.pairwise_map];refine a1.imp_of_mem λ{x y} hx hy hxy=>?_;rw [<-(o2 x hx).1,<-(o2 y hy).1];exact hxy
   rw [Array.toList_map] at p2;rw [<-p2,List.pairwise_map] at a2;rw [List.pairwise_map];refine a2.imp_of_mem λ{x y} hx hy hxy=>?_;rw [Oj (key x (p1.mem_iff.mp hx)),Oj (key y (p1.mem_iff.mp hy))] at hxy;exact hxy
  have lt:∀b u,H b=some u->b<s.heap.objs.size:=λb u e=>by
   obtain ⟨o,g⟩:=(I.hok b u e).there;exact Heap.lt_size g
  have nd:(zs.map (·.1)).Nodup:=by rw [z1];exact a3
  have zlo:∀z∈zs,s.heap.objs.size<=z.1:=λz hz=>a2 z.1 (by rw [<-z1];exact List.mem_map.mpr ⟨z,hz,rfl⟩);have zhi:∀z∈zs,z.1≠h'.objs.size:=λz hz=>by
   obtain ⟨⟨t,g1⟩,_⟩:=z3 z hz;exact Nat.ne_of_lt (Heap.lt_size g1)
  have k:∀b o,s.heap.get? b=some o->hF.get? b=some o:=λb o e=>hkeep b o (k1 b o e);generalize hH':upd (Zef H zs) h'.objs.size (.lst (zs'.map λz=>V.ref z.1))=H';have ao:∀b,b<s.heap.objs.size->H' b=H b:=λb hb=>by
   rw [<-hH',Gu (Nat.ne_of_lt (Nat.lt_trans hb szh)),XX];intro hm;obtain ⟨z,hz,e⟩:=List.mem_map.mp hm;have hb':z.1<s.heap.objs.size:=e▸hb;exact absurd hb' (Nat.not_lt_of_le (zlo z hz))
  have at_:∀z∈zs,H' z.1=some (.tup [.ref z.2.1,.int z.2.2.2]):=λz hz=>by
   rw [<-hH',Gu (zhi z hz)];exact Za3 nd z hz
  have al':H' h'.objs.size=some (.lst (zs'.map λz=>V.ref z.1)):=by rw [<-hH'];exact Gb
  have sm:Same H H':=λb u e=>(ao b (lt b u e)).trans e;have I':Inv X qQ σ H' { s with heap:=hF,toks:=s.toks }:=by
   refine I.un ⟨λb o e n _ _=>k b o e,λb o e n _ _=>⟨o.slots,k b o e⟩,λb o e n _=>(ao b (Heap.lt_size e)).trans n,λb o e _=>⟨o,k b o e⟩,λb ys e=>sm b _ e,λb o u e=>sm b _ e,λb ps e=>⟨#[],by rw [sm b _ e];simp⟩⟩ λb u e=>?_;by_cases c1:b=h'.objs.size
   ·subst c1;rw [al'] at e;cases e;exact ⟨by rw [List.length_map,p1.length_eq];rw [<-hvs,List.length_map] at zl;lia,(out.map (·.2)).toList,_,by rw [<-p2];exact XW zs',he⟩
   ·by_cases c2:b∈zs.map (·.1)
    ·obtain ⟨z,hz,rfl⟩:=List.mem_map.mp c2;rw [at_ z hz] at e;cases e;obtain ⟨⟨t,g1⟩,_⟩:=z3 z hz;exact ⟨by show 2<=sizeLine;lia,[.ref z.2.1,.int z.2.2.2 t],.cons rfl (.cons ⟨t,rfl⟩ .nil),⟨_,hkeep _ _ g1,rfl,_,rfl⟩⟩
    ·rw [<-hH',Gu c1,XX c2] at e;exact (I.hok b u e).stay (λc v _ q=>k c v q) (λc q=>sm c _ q) λc xs q=>sm c _ q
  exact ⟨.ref _,H',I',rfl,q _ zs' H' sm (I.hok.fresh (Nat.le_of_lt szh)) al' (λz hz=>⟨at_ z (p1.mem_iff.mp hz),sm _ _ (z3 z (p1.mem_iff.mp hz)).2⟩) (by rw [<-z2];exact p1.map _) ps⟩
end
end L2
namespace L2
open PySem
def FX (K:FF)(x:Str)(st:Stmt)(f:AD):Prop:=
 ∃(oc kV doc pm cdv ct:Aa)(od an:Option AD)(sl:Array (Option Aa)),W.nsIn K mainGlobals x=some (some (.ref f))/\K.lookup f=some ⟨oc,od,.func (W.fnOf x x (J1 st) (Jz st) (Gf st) .none kV doc pm an cdv ct),sl⟩/\W.codeIn K cdv x=true/\W.keepIn K (.ref f)=true
theorem FX.mk {K:FF}{x:Str}{st:Stmt}{f:AD}{oc kV doc pm cdv ct:Aa}{od an:Option AD}{sl:Array (Option Aa)}(a:W.nsIn K mainGlobals x=some (some (.ref f)))(b:K.lookup f=some ⟨oc,od,.func (W.fnOf x x (J1 st) (Jz st) (Gf st) .none kV doc pm an cdv ct),sl⟩)(c:W.codeIn K cdv x=true)(d:W.keepIn K (.ref f)=true):FX K x st f:=⟨_,_,_,_,_,_,_,_,_,a,b,c,d⟩
theorem FX.go {K:FF}{x:Str}{st:Stmt}{f:AD}{h:Heap}{mg:Str->Option Aa}(z:FX K x st f)(X:K.In h)(G:h.Ns mainGlobals mg)(ps:List Str)(hb:∀(kV doc pm:Aa)(an:Option AD)(cdv ct:Aa)(us:LW),us.length=ps.length->bindArgs (W.fnOf x x (J1 st) (Jz st) (Gf st) .none kV doc pm an cdv ct) ⟨us,[]⟩=pure (ps.zip us)) :
  ∃fd,Fun K x x st f fd/\Binds K fd ps []/\mg x=some (.ref f):=by
 obtain ⟨_,_,_,_,_,_,_,_,_,a,b,c,d⟩:=z;have F:=ZcX (st:=st) b c d;exact ⟨_,F,F.binds (ps:=ps) hb,W.mg_of X G a⟩
end L2
namespace M
open PySem L2
def top (i:Nat):Stmt:=PySem.Challenge.pw_onceways_k42_whole_like_walls_go_on_alik.main.body.getD i (.Pass ⟨0,0,0,0⟩)
abbrev sIs:Stmt:=top 7
abbrev ZfG:Stmt:=top 8
abbrev ZfH:Stmt:=top 9
abbrev ZfI:Stmt:=top 10
abbrev sMe:Stmt:=top 18
abbrev sLr:Stmt:=top 19
abbrev sSo:Stmt:=top 20
abbrev sFm:Stmt:=top 21
abbrev sId:Stmt:=top 22
abbrev sIl:Stmt:=top 23
abbrev sIf:Stmt:=top 24
abbrev sIm:Stmt:=top 25
abbrev sFe:Stmt:=top 26
abbrev sWr:Stmt:=top 27
abbrev sLb:Stmt:=top 28
abbrev sDe:Stmt:=top 29
abbrev Zeg:Stmt:=top 31
abbrev Zd0:Stmt:=top 33
abbrev Zfc:Stmt:=top 34
abbrev sMb:Stmt:=top 35
abbrev sWi:Stmt:=top 36
abbrev sHo:Stmt:=top 37
abbrev sWo:Stmt:=top 38
abbrev sBs:Stmt:=top 39
abbrev sNb:Stmt:=top 40
abbrev sWs:Stmt:=top 41
abbrev Zeh:Stmt:=top 43
abbrev Zcr:Stmt:=top 44
abbrev ZfJ:Stmt:=top 45
abbrev ZfK:Stmt:=top 46
abbrev ZfL:Stmt:=top 47
abbrev Za4:Stmt:=top 48
abbrev ZfM:Stmt:=top 50
abbrev sDg:Stmt:=top 51
abbrev sPi:Stmt:=top 52
abbrev sLh:Stmt:=top 53
abbrev ZG:Stmt:=top 54
structure WebAt (H:Hp)(wb l:AD)(k:Int)(xs:List V)(rs:List (Int×Int)):Prop where
 w:H wb=some (.tup [.int k,.ref l])
 l:H l=some (.lst xs)
 p:Prs H xs rs
theorem WebAt.same {H H':Hp}{wb l:AD}{k:Int}{xs:List V}{rs:List (Int×Int)}(h:WebAt H wb l k xs rs)(s:Same H H'):WebAt H' wb l k xs rs:=⟨s _ _ h.w,s _ _ h.l,h.p.same s⟩
section
variable {P:PP}{w:Ab}{K:FF}{mg:Str->Option Aa}{base:Heap}
theorem J8:2<=sizeLine:=by decide
theorem Uv {p:Nat}{a:Int}(h:a.natAbs<2 ^ p:=by decide +kernel):Lt2 p a:=h
theorem Zgf {n:Int}(h:n.natAbs<1024):Lt2 9000 n:=Nat.lt_of_lt_of_le (show n.natAbs<2 ^ 10 by lia) (Nat.pow_le_pow_right (by decide) (by decide))
theorem XY {ns:LI}{i:Nat}(h:i<ns.length):ns.getD i 0=ns[i]:=by
 rw [List.getD_eq_getElem?_getD,List.getElem?_eq_getElem h]
 rfl
theorem Zcs {ns:LI}{i:Nat}(h:i<ns.length):ns.getD i 0∈ns:=by
 rw [XY h];exact List.getElem_mem h
theorem OH {ns:LI}{i:Int}(h0:0<=i)(h1:i<ns.length):atI (ns.map V.int) i=some (.int (ns.getD i.toNat 0)):=by
 obtain ⟨k,rfl⟩:=Int.eq_ofNat_of_zero_le h0;have hk:k<ns.length:=by lia
 refine Go ?_;show (ns.map V.int)[k]?=some (.int (ns.getD k 0));rw [List.getElem?_map,List.getD_eq_getElem?_getD,List.getElem?_eq_getElem hk]
 rfl
def Zct (K:FF):Sp:=λvs H Q _=>∃(a:AD)(ns:LI)(k:Nat),vs=[.ref a,.int (k:Int)]/\SqL K H a (ns.map V.int)/\∀z:Int,Q (.int z) H
theorem Zgg:Gk ["script", "k"] ["script", "k"] (Gf Zeh):=⟨rfl,rfl,rfl,by decide +kernel,rfl,by decide +kernel,by decide +kernel⟩
theorem Zfd {f:AD}{fd:FuncData}(F:Fun K "_law_cell_at" "_law_cell_at" Zeh f fd)(mLen:mg "len" = none):GG P w K mg base CX0 1 f fd ["script", "k"] (Zct K):=by
 refine F.ok Zgg (λvs H Q E h=>?_) (λcdv A outer s H vs Q E hr h=>?_)
 ·obtain ⟨_,_,_,rfl,_⟩:=h
  rfl
 ·obtain ⟨a,ns,k,rfl,hS,q⟩:=h;refine ⟨_,Gc (Jd (Gr Za (pv 1) (Gw (ZbA K) rfl mLen PySem.boot_len (Ga (pv 0) Gd)) (Gz _)) (Ge (Gn (Gx (U4 K) (pv 0) (pv 1) (λ_ _=>rfl)))) GA)
    (Ge (Gn Gg)),?_⟩
  refine ⟨_,rfl,_,rfl,a,_,rfl,.inl hS,_,_,rfl,rfl,_,rfl,?_⟩;rw [List.length_map];refine WX (λz=>?_) (λ_=>q 0);have z':=of_decide_eq_true z;exact ⟨_,rfl,_,rfl,a,_,_,_,rfl,rfl,hS,OH (by lia) z',q _⟩
end
theorem Oz (p:Int):∀ms:LI,inV (.int p) (ms.map V.int)=decide (p∈ms):=by
 intro ms;unfold inV
 induction ms with
 | nil=>rfl
 | cons m ms ih=>
  rw [List.map_cons,List.any_cons,ih];by_cases h1:p=m <;> by_cases h2:p∈ms <;> simp [eqV,h1,h2] <;> (try lia) <;> (try (intro z;exact h1 z.symm))
theorem Ol (ms:LI):(ms.map V.int).all VR=true:=by
 rw [List.all_map];exact List.all_eq_true.mpr λ_ _=>rfl
section
variable {P:PP}{w:Ab}{K:FF}{mg:Str->Option Aa}{base:Heap}
def Za5 (C:AD):Sp:=λvs H Q E=>∃(wb l:AD)(k i:Int)(xs:List V),vs=[.ref wb,.int i]/\H wb=some (.tup [.int k,.ref l])/\H l=some (.lst xs)/\(((0<=i/\i<=xs.length)/\Q .non H)\/(¬ (0<=i/\i<=xs.length)/\E (.ref C) none H))
theorem Zgh:Gk ["web", "i"] ["web", "i"] (Gf Zd0):=⟨rfl,rfl,rfl,by decide +kernel,rfl,by decide +kernel,by decide +kernel⟩
theorem Zfe {f C:AD}{fd:FuncData}(F:Fun K "check_step" "check_step" Zd0 f fd)(mC:mg "NoStep" = some (.ref C))(xC:ExcC K C)(mLen:mg "len" = none):GG P w K mg base (CXr P w) 1 f fd ["web", "i"] (Za5 C):=by
 refine F.okR Zgh (λvs H Q E h=>?_) (λcdv A outer s H vs Q E hr h=>?_)
 ·obtain ⟨_,_,_,_,_,rfl,_⟩:=h
  rfl
 ·obtain ⟨wb,l,k,i,xs,rfl,hw,hl,h⟩:=h;refine ⟨_,Ge (Jd (ON (ZbM Zdq Zdq Gg (pv 1) (Gw (ZbA K) rfl mLen PySem.boot_len (Ga (Gx (J9 K) (pv 0) Gg (λ_ _=>rfl)) Gd)))) (Ge (UG (E:=E) rfl JI rfl mC xC (Ga Ye Gd))) GA),?_⟩;refine ⟨_,rfl,_,_,rfl,rfl,_,rfl,WX (λh0=>?_) (λh0=>?_)⟩
  ·have h0':=of_decide_eq_true h0;refine ⟨_,rfl,wb,_,_,_,rfl,rfl,SqT.of hw,Go (j:=1) rfl,l,_,rfl,.inl (SqL.of hl),_,_,rfl,rfl,_,rfl,?_⟩;rcases h with ⟨hin,q⟩ | ⟨hout,q⟩
   ·rw [decide_eq_true hin.2];exact Jw q
   ·rw [decide_eq_false λz=>hout ⟨h0',z⟩];exact G5 ⟨by decide,q⟩
  ·have h0':¬ 0<=i:=λz=>h0 (decide_eq_true z);refine ⟨_,rfl,?_⟩;rcases h with ⟨hin,q⟩ | ⟨hout,q⟩
   ·exact absurd hin.1 h0'
   ·exact G5 ⟨by decide,q⟩
def Zgi:Sp:=λvs H Q _=>∃(wb l:AD)(k p:Int),vs=[.ref wb,.int p]/\H wb=some (.tup [.int k,.ref l])/\Q (.bl (decide (0<=p/\p<k))) H
theorem ZhM:Gk ["web", "place"] ["web", "place"] (Gf sIs):=⟨rfl,rfl,rfl,by decide +kernel,rfl,by decide +kernel,by decide +kernel⟩
theorem Zff {f:AD}{fd:FuncData}(F:Fun K "is_place" "is_place" sIs f fd):GG P w K mg base CX0 1 f fd ["web", "place"] Zgi:=by
 refine F.ok ZhM (λvs H Q E h=>?_) (λcdv A outer s H vs Q E hr h=>?_)
 ·obtain ⟨_,_,_,_,rfl,_⟩:=h
  rfl
 ·obtain ⟨wb,l,k,p,rfl,hw,q⟩:=h;refine ⟨_,Ge (Gn (ZbL Zdq Za Gg (pv 1) (Gx (J9 K) (pv 0) Gg (λ_ _=>rfl)))),?_⟩;refine ⟨_,rfl,_,_,rfl,rfl,_,rfl,WX (λh0=>?_) (λh0=>?_)⟩
  ·refine ⟨_,rfl,wb,_,_,_,rfl,rfl,SqT.of hw,Go (j:=0) rfl,_,_,rfl,rfl,?_⟩;have h0':=of_decide_eq_true h0;have e:decide (p<k)=decide (0<=p/\p<k):=by
    by_cases h1:p<k
    ·rw [decide_eq_true h1,decide_eq_true (⟨h0',h1⟩:0<=p/\p<k)]
    ·rw [decide_eq_false h1,decide_eq_false λz=>h1 z.2]
   show Q (.bl (decide (p<k))) H;rw [e];exact q
  ·have h0':¬ 0<=p:=λz=>h0 (decide_eq_true z);have e:decide (0<=p/\p<k)=false:=decide_eq_false λz=>h0' z.1;rw [e] at q;exact q
def Zfg (C:AD):Sp:=λvs H Q E=>∃(wb l:AD)(k p:Int),vs=[.ref wb,.int p]/\H wb=some (.tup [.int k,.ref l])/\(((0<=p/\p<k)/\Q .non H)\/(¬ (0<=p/\p<k)/\E (.ref C) none H))
theorem Zgj:Gk ["web", "place"] ["web", "place"] (Gf ZfG):=⟨rfl,rfl,rfl,by decide +kernel,rfl,by decide +kernel,by decide +kernel⟩
theorem Zfh {f fI C:AD}{fd fdI:FuncData}(F:Fun K "check_place" "check_place" ZfG f fd)(FI:Fun K "is_place" "is_place" sIs fI fdI)(bI:Binds K fdI ["web", "place"] [])(mI:mg "is_place" = some (.ref fI))(mC:mg "NoPlace" = some (.ref C))(xC:ExcC K C) :
  GG P w K mg base (CXr P w) 2 f fd ["web", "place"] (Zfg C):=by
 have GI:GG P w K mg base CX0 1 fI fdI ["web", "place"] Zgi:=Zff FI;refine F.okR Zgj (λvs H Q E h=>?_) (λcdv A outer s H vs Q E hr h=>?_)
 ·obtain ⟨_,_,_,_,rfl,_⟩:=h
  rfl
 ·obtain ⟨wb,l,k,p,rfl,hw,h⟩:=h;refine ⟨_,Ge (Jd (ON (Oa (Gh GI (hr.mono (by decide)) rfl mI FI.kp bI .nil GN (Ga (pv 0) (Ga (pv 1) Gd))))) (Ge (UG (E:=E) rfl JI rfl mC xC (Ga Ye Gd))) GA),?_⟩;refine ⟨_,rfl,_,rfl,wb,l,k,p,rfl,hw,⟨_,rfl,?_⟩⟩;rcases h with ⟨hin,q⟩ | ⟨hout,q⟩
  ·rw [decide_eq_true hin];refine Jw ?_;exact q
  ·rw [decide_eq_false hout];refine G5 ?_;exact ⟨by decide,q⟩
def Om (r:Int×Int)(p:Int):Bool:=decide (r.1=p\/r.2=p)
theorem Zgk (p a b:Int):inV (.int p) [.int a,.int b]=Om (a,b) p:=by
 unfold inV Om;by_cases h1:a=p <;> by_cases h2:b=p <;> simp [eqV,h1,h2]
def ZbE (rs:List (Int×Int))(p:Int):LI:=(rs.filter λr=>Om r p).map λr=>r.1+r.2-p
theorem Zcu (rs:List (Int×Int))(p:Int):(ZbE rs p).length<=rs.length:=by
 unfold ZbE;rw [List.length_map];exact List.length_filter_le _ _
theorem Za6 (rs:List (Int×Int))(p:Int)(i:Nat){r:Int×Int}(h:rs[i]?=some r):ZbE (rs.take (i+1)) p=ZbE (rs.take i) p++(if Om r p=true then [r.1+r.2-p] else []):=by
 unfold ZbE;rw [List.take_add_one,h];show List.map _ (List.filter _ (rs.take i++[r]))=_;rw [List.filter_append,List.map_append,List.filter_cons,List.filter_nil];by_cases z:Om r p=true
 ·rw [if_pos z,if_pos z];rfl
 ·rw [if_neg z,if_neg z];rfl
def Zfi (C:AD):Sp:=λvs H Q E=>∃(wb l:AD)(k p:Int)(xs:List V)(rs:List (Int×Int)),vs=[.ref wb,.int p]/\WebAt H wb l k xs rs/\xs.length<=60 /\
 (((0<=p/\p<k)/\∀(r:AD)(ns:LI)(H':Hp),Same H H'->H r=none->H' r=some (.lst (ns.map V.int))->ns.Perm (ZbE rs p)->ns.Pairwise (· <= ·)->Q (.ref r) H')\/(¬ (0<=p/\p<k)/\E (.ref C) none H))
theorem Zgl:Gk ["web", "place"] ["web", "place"] (Gf ZfH):=⟨rfl,rfl,rfl,by decide +kernel,rfl,by decide +kernel,by decide +kernel⟩
theorem Zfj {f fH C:AD}{fd fdH:FuncData}(F:Fun K "beside" "beside" ZfH f fd)(FH:Fun K "check_place" "check_place" ZfG fH fdH)(bH:Binds K fdH ["web", "place"] [])(mH:mg "check_place" = some (.ref fH))(GH:GG P w K mg base (CXr P w) 2 fH fdH ["web", "place"] (Zfg C))(mSor:mg "sorted" = none):GG P w K mg base (CXr P w) 3 f fd ["web", "place"] (Zfi C):=by
 refine F.okR Zgl (λvs H Q E h=>?_) (λcdv A outer s H vs Q E hr h=>?_)
 ·obtain ⟨_,_,_,_,_,_,rfl,_⟩:=h
  rfl
 ·obtain ⟨wb,l,k,p,xs,rs,rfl,W,hx,h⟩:=h;have h16:(16777216:Nat)=sizeLine:=sizeLine_eq.symm;refine ⟨_,Gc (Jo (Gh GH (hr.mono (by decide)) rfl mH FH.kp bH .nil VX (Ga (pv 0) (Ga (pv 1) Gd))))
    (Ge (Gn (Gw (ZdB K) rfl mSor PyProof.Rows.boot_sorted (Ga (G7 (own:=["a", "b"]) rfl (Gj (fr:=[("place", 1)]) [(".0", .local),("a", .local),("b", .local),("place", .cell)] rfl rfl (by decide +kernel) rfl (by decide +kernel) ⟨rfl,trivial⟩ ⟨λh=>GQ h,λh=>GQ h,λh=>GQ h,λ_=>⟨_,rfl⟩,trivial⟩ ⟨⟨rfl,.inl rfl,.inl rfl⟩,trivial⟩) (JL K (Gx (J9 K) (pv 0) Gg (λ_ _=>rfl))) (λ_ _ _ _=>Z7 K (n:=2) rfl (Gv (Gi (i:=0) (show List.Nodup (["a", "b", "place"]:List Str) by decide +kernel) rfl (Or.inl rfl)) (Gv (Gi (i:=1) (show List.Nodup (["a", "b", "place"]:List Str) by decide +kernel) rfl (Or.inl rfl)) Jy))) (λ_ _ _ _=>J2 (Gr (kIn K) (pv 2) (JH (Ga (pv 0) (Ga (pv 1) Gd))) (by with_unfolding_all rfl))) (λ_ _ _ _=>GD Vu (GD Jk (pv 0) (pv 1)) (pv 2))) Gd)))),?_⟩
  rcases h with ⟨hin,q⟩ | ⟨hout,q⟩
  ·refine ⟨_,rfl,_,rfl,wb,l,k,p,rfl,W.w,.inl ⟨hin,?_⟩⟩;refine ⟨_,rfl,wb,_,_,_,rfl,rfl,SqT.of W.w,Go (j:=1) rfl,l,rfl,⟨_,SqL.of W.l⟩,λD hD=>?_⟩;refine GM (K:=K) (a:=l) (xs:=xs) (λi ys H2=>Same H H2/\H2 D=some (.lst ys)/\ys=(ZbE (rs.take i) p).map V.int) ⟨Same.new hD,Gb,rfl⟩ (λi ys H2 _ ⟨s2,_⟩=>SqL.of (s2 _ _ W.l)) ?_ ?_
   ·rintro i x ys H2 hxi ⟨s2,hD2,rfl⟩;obtain ⟨t,r,rfl,et,er⟩:=W.p.get hxi;have hi:i<xs.length:=(List.getElem?_eq_some_iff.mp hxi).1;refine ⟨t,_,rfl,SqT.of (s2 _ _ et),rfl,_,_,rfl,_,_,rfl,rfl,⟨rfl,trivial⟩,?_⟩;refine ⟨_,rfl,_,rfl,_,rfl,J8,λT hT=>⟨T,_,rfl,.inr (SqT.of Gb),rfl,rfl,_,rfl,?_⟩⟩;show if (inV (.int p) [.int r.1,.int r.2])=true then _ else _
    have sc:=Za6 rs p i er;have s3:Same H (upd H2 T (.tup [.int r.1,.int r.2])):=s2.put (s2.free hT);have hDT:D≠T:=Gm hD2 hT;rw [Zgk];refine WX (λz=>?_) (λz=>?_)
    ·rw [if_pos z] at sc;refine ⟨_,rfl,_,rfl,_,_,rfl,rfl,_,rfl,_,_,rfl,rfl,Gs hD2 hDT,?_,s3.put hD,Gb,by rw [sc,List.map_append];rfl⟩;rw [List.length_map];have:=Zcu (rs.take i) p;rw [List.length_take] at this
     lia
    ·rw [if_neg z,List.append_nil] at sc;exact ⟨s3,Gs hD2 hDT,by rw [sc]⟩
   ·rintro ys H2 ⟨s2,hD2,rfl⟩;rw [W.p.len,List.take_length] at hD2;refine ⟨D,_,rfl,SqL.of hD2,?_,λr ns hr hp hs=>q r ns _ (s2.put (s2.free hr)) (s2.free hr) Gb hp hs⟩;unfold ZbE;rw [List.length_map];have:=List.length_filter_le (λr=>Om r p) rs;have:=W.p.len
    lia
  ·exact ⟨_,rfl,_,rfl,wb,l,k,p,rfl,W.w,.inr ⟨hout,q⟩⟩
def Ends (k p q:Int):Prop:=(0<=p/\p<k)/\(0<=q/\q<k)/\p≠q
def Zcv (C:AD):Sp:=λvs H Q E=>∃(wb l:AD)(k p q:Int),vs=[.ref wb,.int p,.int q]/\H wb=some (.tup [.int k,.ref l])/\((Ends k p q/\Q .non H)\/(¬ Ends k p q/\E (.ref C) none H))
theorem Zgm:Gk ["web", "one", "other"] ["web", "one", "other"] (Gf Zeg):=⟨rfl,rfl,rfl,by decide +kernel,rfl,by decide +kernel,by decide +kernel⟩
theorem Zfk {f fI C:AD}{fd fdI:FuncData}(F:Fun K "check_ends" "check_ends" Zeg f fd)(FI:Fun K "is_place" "is_place" sIs fI fdI)(bI:Binds K fdI ["web", "place"] [])(mI:mg "is_place" = some (.ref fI))(mC:mg "NoEnds" = some (.ref C))(xC:ExcC K C) :
  GG P w K mg base (CXr P w) 2 f fd ["web", "one", "other"] (Zcv C):=by
 have GI:GG P w K mg base CX0 1 fI fdI ["web", "place"] Zgi:=Zff FI;refine F.okR Zgm (λvs H Q E h=>?_) (λcdv A outer s H vs Q E hr h=>?_)
 ·obtain ⟨_,_,_,_,_,rfl,_⟩:=h
  rfl
 ·obtain ⟨wb,l,k,p,q,rfl,hw,h⟩:=h;refine ⟨_,Ge (Jd (PW.pt (WK (ON (Oa (Gh GI (hr.mono (by decide)) rfl mI FI.kp bI .nil GN (Ga (pv 0) (Ga (pv 1) Gd))))) (WK (ON (Oa (Gh GI (hr.mono (by decide)) rfl mI FI.kp bI .nil GN (Ga (pv 0) (Ga (pv 2) Gd))))) (WJ (Gr UB (pv 1) (pv 2) (Gz _)))))) (Ge (UG (E:=E) rfl JI rfl mC xC (Ga Ye Gd))) GA),?_⟩;refine ⟨_,rfl,_,rfl,wb,l,k,p,rfl,hw,⟨_,rfl,?_⟩⟩;by_cases h1:0<=p/\p<k
  ·rw [decide_eq_true h1];refine Jw ?_;refine ⟨_,rfl,_,rfl,wb,l,k,q,rfl,hw,⟨_,rfl,?_⟩⟩;by_cases h2:0<=q/\q<k
   ·rw [decide_eq_true h2];refine Jw ?_;refine ⟨_,rfl,_,rfl,rfl,_,rfl,?_⟩;by_cases h3:p=q
    ·subst h3;rw [decide_eq_true rfl];refine G5 ?_;rcases h with ⟨g,_⟩ | ⟨_,e⟩
     ·exact absurd rfl g.2.2
     ·exact ⟨by decide,e⟩
    ·rw [decide_eq_false λe=>h3 (V.int.inj e)];refine Jw ?_;rcases h with ⟨_,y⟩ | ⟨g,_⟩
     ·exact y
     ·exact absurd ⟨h1,h2,h3⟩ g
   ·rw [decide_eq_false h2];refine G5 ?_;rcases h with ⟨g,_⟩ | ⟨_,e⟩
    ·exact absurd g.2.1 h2
    ·exact ⟨by decide,e⟩
  ·rw [decide_eq_false h1];refine G5 ?_;rcases h with ⟨g,_⟩ | ⟨_,e⟩
   ·exact absurd g.1 h1
   ·exact ⟨by decide,e⟩
end
end M
namespace M
open PySem L2
section
def rdAt (rs:List (Int×Int))(c:Int):Int×Int:=rs.getD c.toNat (0,0)
def Jr (r:Int×Int)(d:Int->Nat):Int->Nat:=λx=>(if x=r.1 then 1 else 0)+(if x=r.2 then 1 else 0)+d x
def Ji (r:Int×Int)(lab:Int->Int):Int->Int:=λx=>if lab x=lab r.1 then lab r.2 else lab x
def degF (rs:List (Int×Int))(c:LI):Int->Nat:=c.foldl (λd q=>Jr (rdAt rs q) d) (λ_=>0)
def OL (rs:List (Int×Int))(c:LI):Option (Int->Int):=c.foldl (λl q=>l.bind λlab=>if lab (rdAt rs q).1=lab (rdAt rs q).2 then none else some (Ji (rdAt rs q) lab)) (some id)
theorem JS (rs:List (Int×Int))(c:LI)(q:Int):degF rs (c++[q])=Jr (rdAt rs q) (degF rs c):=by
 unfold degF;rw [List.foldl_append]
 rfl
theorem JF (rs:List (Int×Int))(c:LI)(q:Int):OL rs (c++[q])=(OL rs c).bind λlab=>if lab (rdAt rs q).1=lab (rdAt rs q).2 then none else some (Ji (rdAt rs q) lab):=by
 unfold OL;rw [List.foldl_append]
 rfl
structure Mt (d:Int->Nat)(lab mate:Int->Int):Prop where
 m:∀x,d x=1->d (mate x)=1/\mate x≠x/\lab (mate x)=lab x
 u:∀x y,d x=1->d y=1->lab x=lab y->y=x\/y=mate x
 z:∀x y,d x=0->lab x=lab y->y=x
 e:∀x,d x≠0->∃y,d y=1/\lab y=lab x
theorem Mt.start:Mt (λ_=>0) id id:=⟨λx h=>(by cases h),λx y h=>(by cases h),λx y _ h=>h.symm,λx h=>absurd rfl h⟩
def farO (d:Int->Nat)(mate:Int->Int)(a:Int):Int:=if d a=0 then a else mate a
def OC (fa fb:Int)(mate:Int->Int):Int->Int:=λx=>if x=fa then fb else if x=fb then fa else mate x
theorem Ja {r:Int×Int}{d:Int->Nat}{x:Int}(h1:x≠r.1)(h2:x≠r.2):Jr r d x=d x:=by
 unfold Jr;rw [if_neg h1,if_neg h2]
 lia
theorem JN (r:Int×Int)(d:Int->Nat)(x:Int):d x<=Jr r d x:=by
 unfold Jr
 lia
theorem Jm {r:Int×Int}{d:Int->Nat}(h:r.1≠r.2):Jr r d r.1=1+d r.1:=by
 unfold Jr;rw [if_pos rfl,if_neg h]
theorem Js {r:Int×Int}{d:Int->Nat}(h:r.1≠r.2):Jr r d r.2=1+d r.2:=by
 unfold Jr;rw [if_pos rfl,if_neg (Ne.symm h)]
theorem Wr {r:Int×Int}{lab:Int->Int}{x y:Int}(h:lab x=lab y):Ji r lab x=Ji r lab y:=by
 unfold Ji;rw [h]
section
variable {d:Int->Nat}{lab mate:Int->Int}{r:Int×Int}
theorem Mt.far (h:Mt d lab mate)(hab:r.1≠r.2)(hl:lab r.1≠lab r.2)(ha:d r.1<=1)(hb:d r.2<=1) :
  (lab (farO d mate r.1)=lab r.1/\Jr r d (farO d mate r.1)=1/\(∀x,Jr r d x=1->lab x=lab r.1->x=farO d mate r.1)) /\
  (lab (farO d mate r.2)=lab r.2/\Jr r d (farO d mate r.2)=1/\(∀x,Jr r d x=1->lab x=lab r.2->x=farO d mate r.2)):=by
 constructor
 ·unfold farO;by_cases h0:d r.1=0
  ·rw [if_pos h0];refine ⟨rfl,by rw [Jm hab,h0],λx _ hx=>h.z _ _ h0 hx.symm⟩
  ·rw [if_neg h0];have h1:d r.1=1:=by lia
   obtain ⟨m1,m2,m3⟩:=h.m _ h1;have mb:mate r.1≠r.2:=λz=>hl (by rw [<-m3,z]);refine ⟨m3,by rw [Ja m2 mb,m1],λx hx hlx=>?_⟩;have xb:x≠r.2:=λz=>hl (by rw [<-hlx,z]);by_cases xa:x=r.1
   ·subst xa;rw [Jm hab] at hx
    lia
   ·rw [Ja xa xb] at hx;exact (h.u _ _ h1 hx hlx.symm).resolve_left xa
 ·unfold farO;by_cases h0:d r.2=0
  ·rw [if_pos h0];refine ⟨rfl,by rw [Js hab,h0],λx _ hx=>h.z _ _ h0 hx.symm⟩
  ·rw [if_neg h0];have h1:d r.2=1:=by lia
   obtain ⟨m1,m2,m3⟩:=h.m _ h1;have ma:mate r.2≠r.1:=λz=>hl (by rw [<-m3,z]);refine ⟨m3,by rw [Ja ma m2,m1],λx hx hlx=>?_⟩;have xa:x≠r.1:=λz=>hl (by rw [<-hlx,z]);by_cases xb:x=r.2
   ·subst xb;rw [Js hab] at hx
    lia
   ·rw [Ja xa xb] at hx;exact (h.u _ _ h1 hx hlx.symm).resolve_left xb
theorem Mt.add (h:Mt d lab mate)(hab:r.1≠r.2)(hl:lab r.1≠lab r.2)(ha:d r.1<=1)(hb:d r.2<=1) :
  Mt (Jr r d) (Ji r lab) (OC (farO d mate r.1) (farO d mate r.2) mate):=by
 obtain ⟨⟨a1,a2,a3⟩,⟨b1,b2,b3⟩⟩:=h.far hab hl ha hb;generalize farO d mate r.1=fa at *;generalize farO d mate r.2=fb at *;have fab:fa≠fb:=λz=>hl (by rw [<-a1,<-b1,z]);have La:∀x,lab x=lab r.1->Ji r lab x=lab r.2:=λx hx=>by unfold Ji;rw [if_pos hx]
 have Lb:∀x,lab x=lab r.2->Ji r lab x=lab r.2:=λx hx=>by
  unfold Ji;rw [if_neg (by rw [hx];exact Ne.symm hl),hx]
 have Lc:∀x,lab x≠lab r.1->Ji r lab x=lab x:=λx hx=>by unfold Ji;rw [if_neg hx]
 have ofc:∀x,lab x≠lab r.1->lab x≠lab r.2->Jr r d x=d x:=λx h1 h2=>Ja (λz=>h1 (by rw [z])) (λz=>h2 (by rw [z]));have mO:∀x,lab x≠lab r.1->lab x≠lab r.2->OC fa fb mate x=mate x:=λx h1 h2=>by
  unfold OC;rw [if_neg (λz=>h1 (by rw [z,a1])),if_neg (λz=>h2 (by rw [z,b1]))]
 refine ⟨λx hx=>?_,λx y hx hy hxy=>?_,λx y hx hxy=>?_,λx hx=>?_⟩
 ·by_cases x1:lab x=lab r.1
  ·have:=a3 x hx x1;subst this;unfold OC;rw [if_pos rfl];exact ⟨b2,Ne.symm fab,by rw [Lb _ b1,La _ a1]⟩
  ·by_cases x2:lab x=lab r.2
   ·have:=b3 x hx x2;subst this;unfold OC;rw [if_neg (Ne.symm fab),if_pos rfl];exact ⟨a2,fab,by rw [Lb _ b1,La _ a1]⟩
   ·rw [mO x x1 x2];rw [ofc x x1 x2] at hx;obtain ⟨m1,m2,m3⟩:=h.m x hx;exact ⟨by rw [ofc _ (by rw [m3];exact x1) (by rw [m3];exact x2),m1],m2,Wr m3⟩
 ·by_cases x1:lab x=lab r.1
  ·have ex:=a3 x hx x1;subst ex;rw [La _ x1] at hxy;by_cases y1:lab y=lab r.1
   ·exact .inl (a3 y hy y1)
   ·rw [Lc _ y1] at hxy;right;unfold OC;rw [if_pos rfl];exact b3 y hy hxy.symm
  ·by_cases x2:lab x=lab r.2
   ·have ex:=b3 x hx x2;subst ex;rw [Lb _ x2] at hxy;by_cases y1:lab y=lab r.1
    ·right;unfold OC;rw [if_neg (Ne.symm fab),if_pos rfl];exact a3 y hy y1
    ·rw [Lc _ y1] at hxy;exact .inl (b3 y hy hxy.symm)
   ·rw [Lc _ x1] at hxy;have y1:lab y≠lab r.1:=λz=>x2 (by rw [hxy,La _ z]);rw [Lc _ y1] at hxy;rw [mO x x1 x2];rw [ofc x x1 x2] at hx;rw [ofc y y1 (by rw [<-hxy];exact x2)] at hy;exact h.u x y hx hy hxy
 ·have xa:x≠r.1:=λz=>by rw [z,Jm hab] at hx;lia
  have xb:x≠r.2:=λz=>by rw [z,Js hab] at hx;lia
  rw [Ja xa xb] at hx;have x1:lab x≠lab r.1:=λz=>xa (h.z _ _ hx z).symm;rw [Lc _ x1] at hxy;have y1:lab y≠lab r.1:=λz=>by
   rw [La _ z] at hxy;exact xb (h.z _ _ hx hxy).symm
  rw [Lc _ y1] at hxy;exact h.z _ _ hx hxy
 ·by_cases x1:lab x=lab r.1
  ·exact ⟨fa,a2,by rw [La _ a1,La _ x1]⟩
  ·by_cases x2:lab x=lab r.2
   ·exact ⟨fa,a2,by rw [La _ a1,Lb _ x2]⟩
   ·rw [ofc x x1 x2] at hx;obtain ⟨y,y1,y2⟩:=h.e x hx;exact ⟨y,by rw [ofc y (by rw [y2];exact x1) (by rw [y2];exact x2),y1],Wr y2⟩
end
theorem O9 {α:Type}{P:List α->Prop}(h0:P [])(h1:∀c q,P c->P (c++[q])):∀c,P c:=λc=>by
 have key:∀l:List α,P l.reverse:=λl=>by
  induction l with
  | nil=>exact h0
  | cons x l ih=>rw [List.reverse_cons];exact h1 _ _ ih
 have:=key c.reverse
 rwa [List.reverse_reverse] at this
theorem Ws (rs:List (Int×Int)):∀(c:LI)(lab:Int->Int),(∀q∈c,(rdAt rs q).1≠(rdAt rs q).2)->OL rs c=some lab->(∀x,degF rs c x<=2)->∃mate,Mt (degF rs c) lab mate:=by
 intro c;refine O9 (P:=λc=>∀(lab:Int->Int),(∀q∈c,(rdAt rs q).1≠(rdAt rs q).2)->OL rs c=some lab->(∀x,degF rs c x<=2)->∃mate,Mt (degF rs c) lab mate) ?_ ?_ c
 ·intro lab _ h _;cases h;exact ⟨id,Mt.start⟩
 ·intro c q ih lab hc h hd;rw [JF] at h;rw [JS] at hd ⊢;cases hl:OL rs c with
  | none=>rw [hl] at h;cases h
  | some lab0=>
   rw [hl] at h;have h:(if lab0 (rdAt rs q).1=lab0 (rdAt rs q).2 then none else some (Ji (rdAt rs q) lab0))=some lab:=h;by_cases he:lab0 (rdAt rs q).1=lab0 (rdAt rs q).2
   ·rw [if_pos he] at h;cases h
   ·rw [if_neg he] at h;cases h;obtain ⟨mate,M⟩:=ih lab0 (λp hp=>hc p (List.mem_append_left _ hp)) hl (λx=>Nat.le_trans (JN _ _ x) (hd x));have hab:=hc q (List.mem_append_right _ (List.mem_singleton.mpr rfl));have da:=hd (rdAt rs q).1;have db:=hd (rdAt rs q).2;rw [Jm hab] at da;rw [Js hab] at db;exact ⟨_,M.add hab he (by lia) (by lia)⟩
def JT (rs:List (Int×Int))(x:Int):Nat->Int
 | 0=>-1
 | j+1=>if (rs.getD j (0,0)).1=x\/(rs.getD j (0,0)).2=x then (j:Int) else JT rs x j
theorem Ua (rs:List (Int×Int))(x:Int):∀j:Nat,-1<=JT rs x j/\JT rs x j<(j:Int)
 | 0=>⟨Int.le_refl _,by unfold JT;decide⟩
 | j+1=>by
  unfold JT;have:=Ua rs x j;split
  ·lia
  ·lia
theorem YM (rs:List (Int×Int))(x:Int){i:Nat}(h:(rs.getD i (0,0)).1=x\/(rs.getD i (0,0)).2=x):∀j:Nat,i<j->(i:Int)<=JT rs x j
 | 0,hi=>by lia
 | j+1,hi=>by
  unfold JT;split
  ·lia
  ·rename_i hn;rcases Nat.lt_or_ge i j with q | q
   ·exact YM rs x h j q
   ·have:i=j:=by lia
    subst this;exact absurd h hn
theorem UR (rs:List (Int×Int))(x:Int):∀(j i:Nat),JT rs x j=(i:Int)->(rs.getD i (0,0)).1=x\/(rs.getD i (0,0)).2=x
 | 0,i,h=>by unfold JT at h;lia
 | j+1,i,h=>by
  unfold JT at h;split at h
  ·rename_i hn;have:i=j:=by lia
   subst this;exact hn
  ·exact UR rs x j i h
def Gq (rs:List (Int×Int))(x:Int):Int:=JT rs x rs.length
structure HopB (rs:List (Int×Int))(k s t i:Int)(d:Int->Nat)(lab:Int->Int):Prop where
 two:∀x,d x<=2
 en:∀e,(e=s\/e=t)->d e<=1/\¬ (Gq rs e<i/\d e=0)
 no:∀x,0<=x->x<k->x≠s->x≠t->¬ (Gq rs x<i/\d x=1)
 dn:d s≠0->lab s=lab t->∀x,0<=x->x<k->d x=0\/lab x=lab s
theorem HopB.down {rs:List (Int×Int)}{k s t i j:Int}{d:Int->Nat}{lab:Int->Int}(h:HopB rs k s t i d lab)(hj:j<=i):HopB rs k s t j d lab:=
 ⟨h.two,λe he=>⟨(h.en e he).1,λz=>(h.en e he).2 ⟨by lia,z.2⟩⟩,λx a b c e z=>h.no x a b c e ⟨by lia,z.2⟩,h.dn⟩
def Hop (rs:List (Int×Int))(k s t i:Int)(c:LI):Prop:=∃lab,OL rs c=some lab/\HopB rs k s t i (degF rs c) lab
section
variable {rs:List (Int×Int)}{k s t:Int}{d:Int->Nat}{lab mate:Int->Int}{r:Int×Int}
theorem Mt.inner (M:Mt d lab mate)(hst:s≠t)(two:∀x,d x<=2)(ds:d s=1)(hl:lab s=lab t)(dt:d t<=1){x:Int}(hx:lab x=lab s)(xs:x≠s)(xt:x≠t):d x=2:=by
 have dt0:d t≠0:=λz=>hst (M.z _ _ z hl.symm);have hx2:=two x;have dx0:d x≠0:=λz=>xs (M.z _ _ z hx).symm;have tm:t=mate s:=(M.u s t ds (by lia) hl).resolve_left (Ne.symm hst);rcases (show d x=1\/d x=2 by lia) with z | z
 ·rcases M.u s x ds z hx.symm with q | q
  ·exact absurd q xs
  ·exact absurd (q.trans tm.symm) xt
 ·exact z
theorem HopB.unadd {i:Int}(M:Mt d lab mate)(hst:s≠t)(hab:r.1≠r.2)(l1:i<=Gq rs r.1)(l2:i<=Gq rs r.2)(h:HopB rs k s t i (Jr r d) (Ji r lab)):HopB rs k s t i d lab:=by
 have ne:∀x,Gq rs x<i->Jr r d x=d x:=λx hx=>Ja (λz=>by rw [z] at hx;lia) (λz=>by rw [z] at hx;lia);refine ⟨λx=>Nat.le_trans (JN r d x) (h.two x),λe he=>⟨Nat.le_trans (JN r d e) (h.en e he).1,λz=>(h.en e he).2 ⟨z.1,by rw [ne e z.1];exact z.2⟩⟩,λx a b c e z=>h.no x a b c e ⟨z.1,by rw [ne x z.1];exact z.2⟩,λds hl x x0 xk=>?_⟩;rcases Nat.eq_zero_or_pos (d x) with z | z
 ·exact .inl z
 right;have s1:=(h.en s (.inl rfl)).1;have t1:=(h.en t (.inr rfl)).1;have dt0:d t≠0:=λz=>hst (M.z _ _ z hl.symm);have sl:=JN r d s;have tl:=JN r d t;have sa:s≠r.1:=λq=>by rw [q,Jm hab] at s1;rw [q] at ds;lia
 have sb:s≠r.2:=λq=>by rw [q,Js hab] at s1;rw [q] at ds;lia
 have ta:t≠r.1:=λq=>by rw [q,Jm hab] at t1;rw [q] at dt0;lia
 have tb:t≠r.2:=λq=>by rw [q,Js hab] at t1;rw [q] at dt0;lia
 have two:∀x,d x<=2:=λx=>Nat.le_trans (JN r d x) (h.two x);have ds1:d s=1:=by lia
 have na:lab r.1≠lab s:=λq=>by
  have:=M.inner hst two ds1 hl (by lia) q (Ne.symm sa) (Ne.symm ta);have h2:=h.two r.1;rw [Jm hab] at h2
  lia
 have nb:lab r.2≠lab s:=λq=>by
  have:=M.inner hst two ds1 hl (by lia) q (Ne.symm sb) (Ne.symm tb);have h2:=h.two r.2;rw [Js hab] at h2
  lia
 rcases h.dn (by lia) (Wr hl) x x0 xk with q | q
 ·have:=JN r d x
  lia
 ·unfold Ji at q;rw [if_neg (Ne.symm na)] at q;by_cases xa:lab x=lab r.1
  ·rw [if_pos xa] at q;exact absurd q nb
  ·rw [if_neg xa] at q;exact q
end
end
section
def gA (m:LI)(p:Int):Int:=m.getD p.toNat 0
def Jn (q:Int):Bool:=decide (0<=q\/q=-3\/q=-4)
def J5 (q:Int):Bool:=decide (q=-1\/q=-5)
def Ub (q:Int):Bool:=decide (¬ (q=-2\/q=-5))
def GJ (s t q:Int):Int:=if q=s then -3 else if q=t then -4 else q
def US (s t:Int)(m:LI)(a:Int):Int:=if gA m a=-2 then GJ s t a else gA m a
def pW1 (m:LI)(r:Int×Int)(fa fb:Int):LI:=
 let c1:=(m.set r.1.toNat (-1)).set r.2.toNat (-1)
 let c2:=if 0<=fa then c1.set fa.toNat fb else c1
 if 0<=fb then c2.set fb.toNat fa else c2
def Uc (s t:Int)(m:LI)(r:Int×Int):Option (LI):=
 if m.getD (m.length-1) 0=0\/J5 (gA m r.1)=true\/J5 (gA m r.2)=true\/gA m r.1=r.2 then none
 else if US s t m r.1<0/\US s t m r.2<0 then (if (pW1 m r (US s t m r.1) (US s t m r.2)).any Jn=true then none else some ((pW1 m r (US s t m r.1) (US s t m r.2)).set (m.length-1) 0))
 else some (pW1 m r (US s t m r.1) (US s t m r.2))
def Wt (m lv nd:LI):Option (LI):=
 if lv=[] then some m else if (lv.any λp=>Jn (gA m p))=true\/(nd.all λp=>Ub (gA m p))=false then none else some (lv.foldl (λm p=>m.set p.toNat (-2)) m)
def JX (rs:List (Int×Int))(j:Nat):LI:=[(rs.getD j (0,0)).1,(rs.getD j (0,0)).2].filter λp=>decide (Gq rs p=(j:Int))
def ZB (s t:Int)(lv:LI):LI:=lv.filter λp=>decide (p=s\/p=t)
def VJ (rs:List (Int×Int))(s t:Int)(m:LI)(j:Nat)(ch:Bool):Option (LI):=
 (if ch=true then Uc s t m (rs.getD j (0,0)) else some m).bind λm'=>Wt m' (JX rs j) (ZB s t (JX rs j))
theorem Xk {m:LI}{i p v:Int}(i0:0<=i)(il:i<m.length)(p0:0<=p):gA (m.set i.toNat v) p=if p=i then v else gA m p:=by
 unfold gA;rw [List.getD_eq_getElem?_getD,List.getElem?_set];by_cases h:p=i
 ·subst h;rw [if_pos rfl,if_pos (by lia),if_pos rfl]
  rfl
 ·rw [if_neg (by lia),if_neg h,List.getD_eq_getElem?_getD]
def Wu (rs:List (Int×Int))(s t j:Int)(d:Int->Nat)(mate:Int->Int)(p:Int):Int:=
 if Gq rs p<j then -2 else if d p=0 then -2 else if d p=2\/p=s\/p=t then -1 else GJ s t (mate p)
structure Mk (rs:List (Int×Int))(k:Nat)(s t j:Int)(d:Int->Nat)(lab mate:Int->Int)(m:LI):Prop where
 len:m.length=k+1
 at_:∀p:Int,0<=p->p<(k:Int)->gA m p=Wu rs s t j d mate p
 dn:m.getD k 0=if d s≠0/\lab s=lab t then 0 else -2
section
variable {rs:List (Int×Int)}{k:Nat}{s t j:Int}{d:Int->Nat}{lab mate:Int->Int}{m:LI}{r:Int×Int}
theorem GF (s t q:Int):(q=s/\GJ s t q=-3)\/(q≠s/\q=t/\GJ s t q=-4)\/(q≠s/\q≠t/\GJ s t q=q):=by
 unfold GJ;by_cases h1:q=s
 ·exact .inl ⟨h1,if_pos h1⟩
 ·by_cases h2:q=t
  ·exact .inr (.inl ⟨h1,h2,by rw [if_neg h1,if_pos h2]⟩)
  ·exact .inr (.inr ⟨h1,h2,by rw [if_neg h1,if_neg h2]⟩)
theorem Vi {q:Int}(h:0<=q):Jn (GJ s t q)=true:=by
 refine decide_eq_true ?_;rcases GF s t q with ⟨_,e⟩ | ⟨_,_,e⟩ | ⟨_,_,e⟩ <;> lia
theorem Mk.cases (K:Mk rs k s t j d lab mate m)(two:∀x,d x<=2){p:Int}(p0:0<=p)(pk:p<k)(l:j<=Gq rs p) :
  (d p=0/\gA m p=-2)\/(d p≠0/\(d p=2\/p=s\/p=t)/\gA m p=-1)\/(d p=1/\p≠s/\p≠t/\gA m p=GJ s t (mate p)):=by
 rw [K.at_ p p0 pk];unfold Wu;rw [if_neg (by lia)];by_cases h0:d p=0
 ·exact .inl ⟨h0,if_pos h0⟩
 ·rw [if_neg h0];by_cases h2:d p=2\/p=s\/p=t
  ·exact .inr (.inl ⟨h0,h2,if_pos h2⟩)
  ·have:=two p;exact .inr (.inr ⟨by lia,λz=>h2 (.inr (.inl z)),λz=>h2 (.inr (.inr z)),if_neg h2⟩)
theorem Mk.far (K:Mk rs k s t j d lab mate m)(M:Mt d lab mate)(rg:∀x,d x≠0->0<=x/\x<(k:Int))(two:∀x,d x<=2){p:Int}(p0:0<=p)(pk:p<k)(l:j<=Gq rs p)(hf:¬ J5 (gA m p)=true) :
  d p<=1/\((p=s\/p=t)->d p=0)/\US s t m p=GJ s t (farO d mate p)/\0<=farO d mate p/\farO d mate p<k:=by
 unfold US farO;rcases K.cases two p0 pk l with ⟨h0,e⟩ | ⟨h0,h2,e⟩ | ⟨h1,hs,ht,e⟩
 ·rw [if_pos e,if_pos h0];exact ⟨by lia,λ_=>h0,rfl,p0,pk⟩
 ·exact absurd (by rw [e];rfl) hf
 ·have hm:=rg (mate p) (by rw [(M.m p h1).1];decide);rw [e,if_neg (show ¬ d p=0 by lia),if_neg]
  ·exact ⟨by lia,λz=>z.elim (λq=>absurd q hs) (λq=>absurd q ht),rfl,hm.1,hm.2⟩
  ·rcases GF s t (mate p) with ⟨_,q⟩ | ⟨_,_,q⟩ | ⟨_,_,q⟩ <;> lia
theorem Zd1 (M:Mt d lab mate)(hst:s≠t)(s0:0<=s)(sk:s<(k:Int))(t0:0<=t)(tk:t<(k:Int))(hab:r.1≠r.2)(a0:0<=r.1)(ak:r.1<(k:Int))(b0:0<=r.2)(bk:r.2<(k:Int))(rg:∀x,d x≠0->0<=x/\x<(k:Int))(la:j<=Gq rs r.1)(lb:j<=Gq rs r.2)(Hb:HopB rs k s t j d lab)(K:Mk rs k s t j d lab mate m) :
  (∃m',Uc s t m r=some m'/\lab r.1≠lab r.2/\HopB rs k s t j (Jr r d) (Ji r lab)/\∃mate',Mt (Jr r d) (Ji r lab) mate'/\Mk rs k s t j (Jr r d) (Ji r lab) mate' m') \/
  (Uc s t m r=none/\(lab r.1=lab r.2\/¬ HopB rs k s t j (Jr r d) (Ji r lab))):=by
 have ne:∀x,Gq rs x<j->Jr r d x=d x:=λx hx=>Ja (λz=>by rw [z] at hx;lia) (λz=>by rw [z] at hx;lia);have two:=Hb.two;have elen:m.length-1=k:=by rw [K.len];lia
 have isk:m.getD (m.length-1) 0=if d s≠0/\lab s=lab t then 0 else -2:=by rw [elen];exact K.dn
 unfold Uc;rw [isk];by_cases hdone:d s≠0/\lab s=lab t
 ·-- done already
  rw [if_pos hdone,if_pos (.inl rfl)];refine .inr ⟨rfl,.inr λh=>?_⟩;obtain ⟨ds,hl⟩:=hdone;have dt0:d t≠0:=λz=>hst (M.z _ _ z hl.symm);have s1:=(h.en s (.inl rfl)).1;have t1:=(h.en t (.inr rfl)).1;have sl:=JN r d s;have tl:=JN r d t;have sa:s≠r.1:=λq=>by rw [q,Jm hab] at s1;rw [q] at ds;lia
  have sb:s≠r.2:=λq=>by rw [q,Js hab] at s1;rw [q] at ds;lia
  have ta:t≠r.1:=λq=>by rw [q,Jm hab] at t1;rw [q] at dt0;lia
  have tb:t≠r.2:=λq=>by rw [q,Js hab] at t1;rw [q] at dt0;lia
  have da2:=h.two r.1;rw [Jm hab] at da2;have db2:=h.two r.2;rw [Js hab] at db2;have da:d r.1=0:=(Hb.dn ds hl r.1 a0 ak).resolve_right λq=>by
   have:=M.inner hst two (by lia) hl (by lia) q (Ne.symm sa) (Ne.symm ta)
   lia
  have db:d r.2=0:=(Hb.dn ds hl r.2 b0 bk).resolve_right λq=>by
   have:=M.inner hst two (by lia) hl (by lia) q (Ne.symm sb) (Ne.symm tb)
   lia
  rcases h.dn (by lia) (Wr hl) r.1 a0 ak with q | q
  ·rw [Jm hab] at q;lia
  ·unfold Ji at q;rw [if_pos rfl,if_neg (λz=>sa (M.z _ _ da z.symm))] at q;exact sb (M.z _ _ db q)
 rw [if_neg hdone];by_cases hfa:J5 (gA m r.1)=true
 ·rw [if_pos (.inr (.inl hfa))];refine .inr ⟨rfl,.inr λh=>?_⟩;have:=of_decide_eq_true hfa;have da2:=h.two r.1;rw [Jm hab] at da2;rcases K.cases two a0 ak la with ⟨h0,e⟩ | ⟨h0,h2,e⟩ | ⟨h1,hs,ht,e⟩
  ·lia
  ·rcases h2 with h2 | h2
   ·lia
   ·have:=(h.en r.1 h2).1;rw [Jm hab] at this
    lia
  ·have hm:=rg (mate r.1) (by rw [(M.m _ h1).1];decide);rcases GF s t (mate r.1) with ⟨_,q⟩ | ⟨_,_,q⟩ | ⟨_,_,q⟩ <;> lia
 by_cases hfb:J5 (gA m r.2)=true
 ·rw [if_pos (.inr (.inr (.inl hfb)))];refine .inr ⟨rfl,.inr λh=>?_⟩;have:=of_decide_eq_true hfb;have db2:=h.two r.2;rw [Js hab] at db2;rcases K.cases two b0 bk lb with ⟨h0,e⟩ | ⟨h0,h2,e⟩ | ⟨h1,hs,ht,e⟩
  ·lia
  ·rcases h2 with h2 | h2
   ·lia
   ·have:=(h.en r.2 h2).1;rw [Js hab] at this
    lia
  ·have hm:=rg (mate r.2) (by rw [(M.m _ h1).1];decide);rcases GF s t (mate r.2) with ⟨_,q⟩ | ⟨_,_,q⟩ | ⟨_,_,q⟩ <;> lia
 by_cases hro:gA m r.1=r.2
 ·rw [if_pos (.inr (.inr (.inr hro)))];refine .inr ⟨rfl,.inl ?_⟩;rcases K.cases two a0 ak la with ⟨h0,e⟩ | ⟨h0,h2,e⟩ | ⟨h1,hs,ht,e⟩
  ·lia
  ·lia
  ·rcases GF s t (mate r.1) with ⟨_,q⟩ | ⟨_,_,q⟩ | ⟨_,_,q⟩
   ·lia
   ·lia
   ·have:=(M.m _ h1).2.2;rw [<-this,show mate r.1=r.2 by lia]
 rw [if_neg (λz=>z.elim (λz=>absurd z (by decide)) λz=>z.elim hfa λz=>z.elim hfb hro)];obtain ⟨da1,dae,efa,fa0,fak⟩:=K.far M rg two a0 ak la hfa;obtain ⟨db1,dbe,efb,fb0,fbk⟩:=K.far M rg two b0 bk lb hfb;have hl:lab r.1≠lab r.2:=λq=>by
  by_cases da0:d r.1=0
  ·exact hab (M.z _ _ da0 q).symm
  by_cases db0:d r.2=0
  ·exact hab (M.z _ _ db0 q.symm)
  rcases M.u r.1 r.2 (by lia) (by lia) q with z | z
  ·exact hab z.symm
  ·rcases K.cases two a0 ak la with ⟨h0,e⟩ | ⟨h0,h2,e⟩ | ⟨h1,hs,ht,e⟩
   ·exact da0 h0
   ·exact hfa (by rw [e];rfl)
   ·rw [<-z] at e;rcases GF s t r.2 with ⟨w,_⟩ | ⟨_,w,_⟩ | ⟨_,_,q2⟩
    ·exact db0 (dbe (.inl w))
    ·exact db0 (dbe (.inr w))
    ·exact hro (by rw [e,q2])
 obtain ⟨⟨A1,A2,A3⟩,⟨B1,B2,B3⟩⟩:=M.far hab hl da1 db1;have M':=M.add hab hl da1 db1;rw [efa,efb];generalize hfa':farO d mate r.1=fa at *;generalize hfb':farO d mate r.2=fb at *;have fab:fa≠fb:=λz=>hl (by rw [<-A1,<-B1,z]);have fam:∀{f:Int},Jr r d f=1->f≠r.1->f≠r.2->d f=1:=λh h1 h2=>by rw [Ja h1 h2] at h;exact h
 have loos:∀f:Int,0<=f->f<k->f≠s->f≠t->Jr r d f=1->j<=Gq rs f:=λf f0 fk fs ft hd=>by
  by_cases q:Gq rs f<j
  ·exact absurd ⟨q,by rw [<-ne f q];exact hd⟩ (Hb.no f f0 fk fs ft)
  ·lia
 have en':∀e,(e=s\/e=t)->Jr r d e<=1/\¬ (Gq rs e<j/\Jr r d e=0):=λe he=>by
  refine ⟨?_,λz=>(Hb.en e he).2 ⟨z.1,by rw [<-ne e z.1];exact z.2⟩⟩;by_cases ea:e=r.1
  ·rw [ea,Jm hab,dae (by rw [<-ea];exact he)];lia
  ·by_cases eb:e=r.2
   ·rw [eb,Js hab,dbe (by rw [<-eb];exact he)];lia
   ·rw [Ja ea eb];exact (Hb.en e he).1
 have two':∀x,Jr r d x<=2:=λx=>by
  by_cases ea:x=r.1
  ·rw [ea,Jm hab];lia
  ·by_cases eb:x=r.2
   ·rw [eb,Js hab];lia
   ·rw [Ja ea eb];exact two x
 have no':∀x,0<=x->x<(k:Int)->x≠s->x≠t->¬ (Gq rs x<j/\Jr r d x=1):=λx a b c e z=>Hb.no x a b c e ⟨z.1,by rw [<-ne x z.1];exact z.2⟩;have len1:∀x y,(pW1 m r x y).length=k+1:=λx y=>by
  unfold pW1;dsimp only;split <;> split <;> simp only [List.length_set,K.len]
 have marks:∀p:Int,0<=p->p<(k:Int)->gA (pW1 m r (GJ s t fa) (GJ s t fb)) p=Wu rs s t j (Jr r d) (OC fa fb mate) p:=by
  intro p p0 pk;have e1:gA ((m.set r.1.toNat (-1)).set r.2.toNat (-1)) p=if p=r.2 then -1 else if p=r.1 then -1 else gA m p:=by
   rw [Xk b0 (by rw [List.length_set,K.len];lia) p0,Xk a0 (by rw [K.len];lia) p0]
  have l1:((m.set r.1.toNat (-1)).set r.2.toNat (-1)).length=k+1:=by simp only [List.length_set,K.len]
  have e2:gA (if 0<=GJ s t fa then ((m.set r.1.toNat (-1)).set r.2.toNat (-1)).set (GJ s t fa).toNat (GJ s t fb) else (m.set r.1.toNat (-1)).set r.2.toNat (-1)) p=if p=fa/\fa≠s/\fa≠t then GJ s t fb else if p=r.2 then -1 else if p=r.1 then -1 else gA m p:=by
   rcases GF s t fa with ⟨w,q⟩ | ⟨_,w,q⟩ | ⟨w1,w2,q⟩
   ·rw [if_neg (show ¬ 0<=GJ s t fa by lia),if_neg (show ¬ (p=fa/\fa≠s/\fa≠t) from λz=>z.2.1 w),e1]
   ·rw [if_neg (show ¬ 0<=GJ s t fa by lia),if_neg (show ¬ (p=fa/\fa≠s/\fa≠t) from λz=>z.2.2 w),e1]
   ·rw [if_pos (show 0<=GJ s t fa by lia),q,Xk fa0 (by rw [l1];lia) p0,e1];by_cases z:p=fa
    ·rw [if_pos z,if_pos ⟨z,w1,w2⟩]
    ·rw [if_neg z,if_neg (show ¬ (p=fa/\fa≠s/\fa≠t) from λy=>z y.1)]
  have l2:(if 0<=GJ s t fa then ((m.set r.1.toNat (-1)).set r.2.toNat (-1)).set (GJ s t fa).toNat (GJ s t fb) else (m.set r.1.toNat (-1)).set r.2.toNat (-1)).length=k+1:=by
   split <;> simp only [List.length_set,K.len]
  have e3:gA (pW1 m r (GJ s t fa) (GJ s t fb)) p=if p=fb/\fb≠s/\fb≠t then GJ s t fa else if p=fa/\fa≠s/\fa≠t then GJ s t fb else if p=r.2 then -1 else if p=r.1 then -1 else gA m p:=by
   unfold pW1;dsimp only;rcases GF s t fb with ⟨w,q⟩ | ⟨_,w,q⟩ | ⟨w1,w2,q⟩
   ·rw [if_neg (show ¬ 0<=GJ s t fb by lia),if_neg (show ¬ (p=fb/\fb≠s/\fb≠t) from λz=>z.2.1 w),e2]
   ·rw [if_neg (show ¬ 0<=GJ s t fb by lia),if_neg (show ¬ (p=fb/\fb≠s/\fb≠t) from λz=>z.2.2 w),e2]
   ·rw [if_pos (show 0<=GJ s t fb by lia)];rw [show (GJ s t fb).toNat=fb.toNat by rw [q],Xk fb0 (by rw [l2];lia) p0,e2];by_cases z:p=fb
    ·rw [if_pos z,if_pos ⟨z,w1,w2⟩]
    ·rw [if_neg z,if_neg (show ¬ (p=fb/\fb≠s/\fb≠t) from λy=>z y.1)]
  rw [e3];by_cases z1:p=fb/\fb≠s/\fb≠t
  ·obtain ⟨rfl,z1,z2⟩:=z1;rw [if_pos ⟨rfl,z1,z2⟩];unfold Wu;rw [if_neg (by have:=loos p p0 pk z1 z2 B2;lia),if_neg (by rw [B2];decide),if_neg (λq=>q.elim (λq=>by rw [B2] at q;cases q) λq=>q.elim z1 z2)];unfold OC;rw [if_neg (Ne.symm fab),if_pos rfl]
  rw [if_neg z1];by_cases z2:p=fa/\fa≠s/\fa≠t
  ·obtain ⟨rfl,z3,z4⟩:=z2;rw [if_pos ⟨rfl,z3,z4⟩];unfold Wu;rw [if_neg (by have:=loos p p0 pk z3 z4 A2;lia),if_neg (by rw [A2];decide),if_neg (λq=>q.elim (λq=>by rw [A2] at q;cases q) λq=>q.elim z3 z4)];unfold OC;rw [if_pos rfl]
  rw [if_neg z2];by_cases pb:p=r.2
  ·rw [if_pos pb];subst pb;unfold Wu;rw [if_neg (by lia),if_neg (by rw [Js hab];lia),if_pos];by_cases db0:d r.2=0
   ·have:fb=r.2:=by rw [<-hfb'];unfold farO;rw [if_pos db0]
    right;by_cases q1:r.2=s
    ·exact .inl q1
    ·by_cases q2:r.2=t
     ·exact .inr q2
     ·exact absurd ⟨this.symm,by rw [this];exact q1,by rw [this];exact q2⟩ z1
   ·left;rw [Js hab];lia
  rw [if_neg pb];by_cases pa:p=r.1
  ·rw [if_pos pa];subst pa;unfold Wu;rw [if_neg (by lia),if_neg (by rw [Jm hab];lia),if_pos];by_cases da0:d r.1=0
   ·have:fa=r.1:=by rw [<-hfa'];unfold farO;rw [if_pos da0]
    right;by_cases q1:r.1=s
    ·exact .inl q1
    ·by_cases q2:r.1=t
     ·exact .inr q2
     ·exact absurd ⟨this.symm,by rw [this];exact q1,by rw [this];exact q2⟩ z2
   ·left;rw [Jm hab];lia
  rw [if_neg pa,K.at_ p p0 pk];unfold Wu;rw [Ja pa pb];by_cases q0:Gq rs p<j
  ·rw [if_pos q0,if_pos q0]
  rw [if_neg q0,if_neg q0];by_cases q1:d p=0
  ·rw [if_pos q1,if_pos q1]
  rw [if_neg q1,if_neg q1];by_cases q2:d p=2\/p=s\/p=t
  ·rw [if_pos q2,if_pos q2]
  rw [if_neg q2,if_neg q2];unfold OC;have ps:p≠s:=λz=>q2 (.inr (.inl z));have pt:p≠t:=λz=>q2 (.inr (.inr z));rw [if_neg (λz=>z2 ⟨z,by rw [<-z];exact ps,by rw [<-z];exact pt⟩),if_neg (λz=>z1 ⟨z,by rw [<-z];exact ps,by rw [<-z];exact pt⟩)]
 have lastm:(pW1 m r (GJ s t fa) (GJ s t fb)).getD k 0=-2:=by
  have kd:=K.dn;rw [if_neg hdone] at kd;have ns:∀(c:LI)(i v:Int),0<=i->i<(k:Int)->(c.set i.toNat v).getD k 0=c.getD k 0:=λc i v i0 ik=>by
   rw [List.getD_eq_getElem?_getD,List.getD_eq_getElem?_getD,List.getElem?_set_ne (by lia)]
  unfold pW1;dsimp only;have step:∀(c:LI)(f v:Int),0<=f->f<(k:Int)->c.getD k 0=-2->(if 0<=GJ s t f then c.set (GJ s t f).toNat v else c).getD k 0=-2:=λc f v f0 fk hc=>by
   rcases GF s t f with ⟨w,q⟩ | ⟨_,w,q⟩ | ⟨w1,w2,q⟩
   ·rw [if_neg (by lia)];exact hc
   ·rw [if_neg (by lia)];exact hc
   ·rw [if_pos (by lia),q,ns c f v f0 fk];exact hc
  exact step _ fb _ fb0 fbk (step _ fa _ fa0 fak (by rw [ns _ _ _ b0 bk,ns _ _ _ a0 ak];exact kd))
 by_cases both:GJ s t fa<0/\GJ s t fb<0
 ·rw [if_pos both];have hE:∀f:Int,0<=f->GJ s t f<0->f=s\/f=t:=λf f0 h=>by
   rcases GF s t f with ⟨w,q⟩ | ⟨_,w,q⟩ | ⟨w1,w2,q⟩
   ·exact .inl w
   ·exact .inr w
   ·lia
  have ends:(fa=s/\fb=t)\/(fa=t/\fb=s):=by
   rcases hE fa fa0 both.1 with z | z <;> rcases hE fb fb0 both.2 with y | y
   ·exact absurd (z.trans y.symm) fab
   ·exact .inl ⟨z,y⟩
   ·exact .inr ⟨z,y⟩
   ·exact absurd (z.trans y.symm) fab
  have Ls:Ji r lab s=Ji r lab t:=by
   have La:Ji r lab fa=lab r.2:=by unfold Ji;rw [if_pos A1]
   have Lb:Ji r lab fb=lab r.2:=by unfold Ji;rw [if_neg (by rw [B1];exact Ne.symm hl),B1]
   rcases ends with ⟨z,y⟩ | ⟨z,y⟩
   ·rw [<-z,<-y,La,Lb]
   ·rw [<-z,<-y,La,Lb]
  have ds':Jr r d s=1:=by
   rcases ends with ⟨z,y⟩ | ⟨z,y⟩
   ·rw [<-z];exact A2
   ·rw [<-y];exact B2
  have dt':Jr r d t=1:=by
   rcases ends with ⟨z,y⟩ | ⟨z,y⟩
   ·rw [<-y];exact B2
   ·rw [<-z];exact A2
  have tm:t=OC fa fb mate s:=(M'.u s t ds' dt' Ls).resolve_left (Ne.symm hst);by_cases hany:(pW1 m r (GJ s t fa) (GJ s t fb)).any Jn=true
  ·rw [if_pos hany];refine .inr ⟨rfl,.inr λh=>?_⟩;obtain ⟨q,hq,hlq⟩:=List.any_eq_true.mp hany;obtain ⟨n,hn,rfl⟩:=List.getElem_of_mem hq;have hn':=hn;rw [len1] at hn';have eg:(pW1 m r (GJ s t fa) (GJ s t fb)).getD n 0=(pW1 m r (GJ s t fa) (GJ s t fb))[n]:=by rw [List.getD_eq_getElem?_getD,List.getElem?_eq_getElem hn];rfl
   rcases (show n<k\/n=k by lia) with hk | rfl
   ·have:=marks (n:Int) (by lia) (by lia);unfold gA at this;rw [Int.toNat_natCast,eg] at this;rw [this] at hlq;unfold Wu at hlq;by_cases q0:Gq rs (n:Int)<j
    ·rw [if_pos q0] at hlq;cases hlq
    rw [if_neg q0] at hlq;by_cases q1:Jr r d (n:Int)=0
    ·rw [if_pos q1] at hlq;cases hlq
    rw [if_neg q1] at hlq;by_cases q2:Jr r d (n:Int)=2\/(n:Int)=s\/(n:Int)=t
    ·rw [if_pos q2] at hlq;cases hlq
    have dn1:Jr r d (n:Int)=1:=by
     have:=two' (n:Int)
     lia
    rcases h.dn (by lia) Ls (n:Int) (by lia) (by lia) with w | w
    ·lia
    ·rcases M'.u s (n:Int) ds' dn1 w.symm with y | y
     ·exact q2 (.inr (.inl y))
     ·exact q2 (.inr (.inr (y.trans tm.symm)))
   ·rw [<-eg,lastm] at hlq;cases hlq
  ·rw [if_neg hany,elen];refine .inl ⟨_,rfl,hl,⟨two',en',no',λ_ _ x x0 xk=>?_⟩,_,M',?_,λp p0 pk=>?_,?_⟩
   ·rcases Nat.eq_zero_or_pos (Jr r d x) with z | z
    ·exact .inl z
    right;obtain ⟨y,y1,y2⟩:=M'.e x (by lia);rw [<-y2];by_cases ys:y=s
    ·rw [ys]
    by_cases yt:y=t
    ·rw [yt,Ls]
    exfalso;have yr:0<=y/\y<(k:Int):=by
     by_cases ya:y=r.1
     ·rw [ya];exact ⟨a0,ak⟩
     by_cases yb:y=r.2
     ·rw [yb];exact ⟨b0,bk⟩
     exact rg y (by rw [fam y1 ya yb];decide)
    have lj:=loos y yr.1 yr.2 ys yt y1;have hm:=marks y yr.1 yr.2;unfold Wu at hm;rw [if_neg (by lia),if_neg (by lia),if_neg (λq=>q.elim (λq=>by rw [y1] at q;cases q) λq=>q.elim ys yt)] at hm;have m1:=(M'.m y y1).1;have mr:0<=OC fa fb mate y:=by
     by_cases ya:OC fa fb mate y=r.1
     ·rw [ya];exact a0
     by_cases yb:OC fa fb mate y=r.2
     ·rw [yb];exact b0
     exact (rg _ (by rw [fam m1 ya yb];decide)).1
    refine hany (List.any_eq_true.mpr ⟨gA (pW1 m r (GJ s t fa) (GJ s t fb)) y,?_,by rw [hm];exact Vi mr⟩);unfold gA;rw [List.getD_eq_getElem?_getD,List.getElem?_eq_getElem (show y.toNat<_ by rw [len1];lia)];exact List.getElem_mem _
   ·rw [List.length_set,len1]
   ·rw [<-marks p p0 pk];unfold gA;rw [List.getD_eq_getElem?_getD,List.getElem?_set_ne (by lia),<-List.getD_eq_getElem?_getD]
   ·rw [if_pos ⟨by lia,Ls⟩,List.getD_eq_getElem?_getD,List.getElem?_set_self (by rw [len1];lia)]
    rfl
 ·rw [if_neg both];have notd:¬ (Jr r d s≠0/\Ji r lab s=Ji r lab t):=λ⟨q1,q2⟩=>by
   have s1:=(en' s (.inl rfl)).1;have t1:=(en' t (.inr rfl)).1;have t0':Jr r d t≠0:=λz=>hst (M'.z _ _ z q2.symm);have tm:=(M'.u s t (by lia) (by lia) q2).resolve_left (Ne.symm hst);have cs:GJ s t s<0:=by unfold GJ;rw [if_pos rfl];decide
   have ct:GJ s t t<0:=by unfold GJ;rw [if_neg (Ne.symm hst),if_pos rfl];decide
   unfold OC at tm;by_cases z1:s=fa
   ·rw [if_pos z1] at tm;exact both ⟨by rw [<-z1];exact cs,by rw [<-tm];exact ct⟩
   rw [if_neg z1] at tm;by_cases z2:s=fb
   ·rw [if_pos z2] at tm;exact both ⟨by rw [<-tm];exact ct,by rw [<-z2];exact cs⟩
   rw [if_neg z2] at tm;have sa:s≠r.1:=λq=>z1 (A3 s (by lia) (by rw [q]));have sb:s≠r.2:=λq=>z2 (B3 s (by lia) (by rw [q]));have ds1:=fam (show Jr r d s=1 by lia) sa sb;exact hdone ⟨by lia,by rw [tm,(M.m s ds1).2.2]⟩
  refine .inl ⟨_,rfl,hl,⟨two',en',no',λq1 q2=>absurd ⟨q1,q2⟩ notd⟩,_,M',len1 _ _,marks,?_⟩;rw [if_neg notd];exact lastm
end
end
section
theorem OA {rs:List (Int×Int)}{j:Nat}{p:Int}(hj:j<rs.length):p∈JX rs j↔Gq rs p=(j:Int):=by
 unfold JX;rw [List.mem_filter];constructor
 ·intro h;exact of_decide_eq_true h.2
 ·intro h;refine ⟨?_,decide_eq_true h⟩;rcases UR rs p rs.length j h with q | q
  ·rw [<-q];exact List.mem_cons_self
  ·rw [<-q];exact List.mem_cons_of_mem _ List.mem_cons_self
theorem OB {rs:List (Int×Int)}{j:Nat}(hj:j<rs.length){p:Int}(h:(rs.getD j (0,0)).1=p\/(rs.getD j (0,0)).2=p):(j:Int)<=Gq rs p:=YM rs p h rs.length hj
theorem Xl (k:Nat):∀(lv m:LI),(∀p∈lv,0<=p/\p<(k:Int))->m.length=k+1 ->
  (lv.foldl (λm p=>m.set p.toNat (-2)) m).length=k+1/\(lv.foldl (λm p=>m.set p.toNat (-2)) m).getD k 0=m.getD k 0/\∀q:Int,0<=q->gA (lv.foldl (λm p=>m.set p.toNat (-2)) m) q=if q∈lv then -2 else gA m q
 | [],m,_,hm=>⟨hm,rfl,λq _=>by rw [if_neg (by simp)];rfl⟩
 | p::lv,m,hp,hm=>by
  obtain ⟨p0,pk⟩:=hp p List.mem_cons_self;obtain ⟨h1,h2,h3⟩:=Xl k lv (m.set p.toNat (-2)) (λq hq=>hp q (List.mem_cons_of_mem _ hq)) (by rw [List.length_set,hm]);refine ⟨h1,?_,λq q0=>?_⟩
  ·rw [List.foldl_cons,h2,List.getD_eq_getElem?_getD,List.getElem?_set_ne (by lia),<-List.getD_eq_getElem?_getD]
  ·rw [List.foldl_cons,h3 q q0,Xk p0 (by rw [hm];lia) q0];by_cases a:q∈lv
   ·rw [if_pos a,if_pos (List.mem_cons_of_mem _ a)]
   ·rw [if_neg a];by_cases b:q=p
    ·rw [if_pos b,if_pos (by rw [b];exact List.mem_cons_self)]
    ·rw [if_neg b,if_neg (by rw [List.mem_cons];exact λz=>z.elim b a)]
section
variable {rs:List (Int×Int)}{k:Nat}{s t:Int}{d:Int->Nat}{lab mate:Int->Int}{m:LI}
theorem Zd2 {j:Nat}(M:Mt d lab mate)(s0:0<=s)(sk:s<(k:Int))(t0:0<=t)(tk:t<(k:Int))(hj:j<rs.length)(hr:∀r∈rs,0<=r.1/\r.1<r.2/\r.2<(k:Int))(rg:∀x,d x≠0->0<=x/\x<(k:Int))(Hb:HopB rs k s t j d lab)(K:Mk rs k s t j d lab mate m) :
  (∃m',Wt m (JX rs j) (ZB s t (JX rs j))=some m'/\HopB rs k s t (j+1:Nat) d lab/\Mk rs k s t (j+1:Nat) d lab mate m') \/
  (Wt m (JX rs j) (ZB s t (JX rs j))=none/\¬ HopB rs k s t (j+1:Nat) d lab):=by
 have two:=Hb.two;have lt1:∀x,Gq rs x<((j+1:Nat):Int)->Gq rs x<(j:Int)\/x∈JX rs j:=λx hx=>by
  rcases (show Gq rs x<(j:Int)\/Gq rs x=(j:Int) by lia) with q | q
  ·exact .inl q
  ·exact .inr ((OA hj).mpr q)
 have inr:∀p∈JX rs j,0<=p/\p<(k:Int):=λp hp=>by
  unfold JX at hp;have h1:=(List.mem_filter.mp hp).1;have h2:=hr (rs.getD j (0,0)) (by rw [List.getD_eq_getElem?_getD,List.getElem?_eq_getElem hj];exact List.getElem_mem hj);rcases List.mem_cons.mp h1 with q | q
  ·lia
  ·rcases List.mem_cons.mp q with q | q
   ·lia
   ·cases q
 have lvl:∀p∈JX rs j,(j:Int)<=Gq rs p:=λp hp=>by rw [(OA hj).mp hp];exact Int.le_refl _
 unfold Wt;by_cases h0:JX rs j=[]
 ·rw [if_pos h0];have lt0:∀x,Gq rs x<((j+1:Nat):Int)->Gq rs x<(j:Int):=λx hx=>(lt1 x hx).resolve_right (by rw [h0];simp);refine .inl ⟨m,rfl,⟨two,λe he=>⟨(Hb.en e he).1,λz=>(Hb.en e he).2 ⟨lt0 e z.1,z.2⟩⟩,λx a b c e z=>Hb.no x a b c e ⟨lt0 x z.1,z.2⟩,Hb.dn⟩,K.len,λp p0 pk=>?_,K.dn⟩;rw [K.at_ p p0 pk];unfold Wu;by_cases q:Gq rs p<((j+1:Nat):Int)
  ·rw [if_pos q,if_pos (lt0 p q)]
  ·rw [if_neg q,if_neg (by lia)]
 rw [if_neg h0];by_cases h1:((JX rs j).any λp=>Jn (gA m p))=true
 ·rw [if_pos (.inl h1)];refine .inr ⟨rfl,λh=>?_⟩;obtain ⟨p,hp,hl⟩:=List.any_eq_true.mp h1;obtain ⟨p0,pk⟩:=inr p hp;rcases K.cases two p0 pk (lvl p hp) with ⟨_,e⟩ | ⟨_,_,e⟩ | ⟨q1,qs,qt,e⟩
  ·rw [e] at hl;cases hl
  ·rw [e] at hl;cases hl
  ·exact h.no p p0 pk qs qt ⟨by rw [(OA hj).mp hp];lia,q1⟩
 by_cases h2:((ZB s t (JX rs j)).all λp=>Ub (gA m p))=false
 ·rw [if_pos (.inr h2)];refine .inr ⟨rfl,λh=>?_⟩;have h2':¬ ((ZB s t (JX rs j)).all λp=>Ub (gA m p))=true:=by rw [h2];decide
  refine h2' (List.all_eq_true.mpr λp hp=>?_);unfold ZB at hp;obtain ⟨hp,he⟩:=List.mem_filter.mp hp;have he:=of_decide_eq_true he;obtain ⟨p0,pk⟩:=inr p hp;have hn:=(h.en p he).2;rcases K.cases two p0 pk (lvl p hp) with ⟨q,e⟩ | ⟨_,_,e⟩ | ⟨q1,qs,qt,e⟩
  ·exact absurd ⟨by rw [(OA hj).mp hp];lia,q⟩ hn
  ·rw [e];rfl
  ·exact absurd he (by rintro (z | z);exact qs z;exact qt z)
 rw [if_neg (by rintro (z | z);exact h1 z;exact h2 z)];have h2':((ZB s t (JX rs j)).all λp=>Ub (gA m p))=true:=by
  cases q:(ZB s t (JX rs j)).all λp=>Ub (gA m p) with
  | true=>rfl
  | false=>exact absurd q h2
 obtain ⟨f1,f2,f3⟩:=Xl k (JX rs j) m inr K.len;refine .inl ⟨_,rfl,⟨two,λe he=>⟨(Hb.en e he).1,λz=>?_⟩,λx a b c e z=>?_,Hb.dn⟩,f1,λp p0 pk=>?_,by rw [f2];exact K.dn⟩
 ·rcases lt1 e z.1 with q | q
  ·exact (Hb.en e he).2 ⟨q,z.2⟩
  ·have:=List.all_eq_true.mp h2' e (List.mem_filter.mpr ⟨q,decide_eq_true he⟩);obtain ⟨p0,pk⟩:=inr e q;rw [K.at_ e p0 pk] at this;unfold Wu at this;have lq:=lvl e q;rw [if_neg (by lia),if_pos z.2] at this;cases this
 ·rcases lt1 x z.1 with q | q
  ·exact Hb.no x a b c e ⟨q,z.2⟩
  ·refine h1 (List.any_eq_true.mpr ⟨x,q,?_⟩);have lq:=lvl x q;rw [K.at_ x a b];unfold Wu;rw [if_neg (by lia),if_neg (by lia),if_neg (λy=>y.elim (λy=>by lia) λy=>y.elim c e)];exact Vi (rg (mate x) (by rw [(M.m x z.2).1];decide)).1
 ·rw [f3 p p0,K.at_ p p0 pk];unfold Wu;by_cases q:p∈JX rs j
  ·rw [if_pos q,if_pos (by rw [(OA hj).mp q];lia)]
  ·rw [if_neg q];have hq:Gq rs p≠(j:Int):=λz=>q ((OA hj).mpr z);by_cases y:Gq rs p<(j:Int)
   ·rw [if_pos y,if_pos (show Gq rs p<((j+1:Nat):Int) by lia)]
   ·rw [if_neg y,if_neg (show ¬ Gq rs p<((j+1:Nat):Int) by lia)]
end
def Vj (c:LI)(j:Nat):LI:=c.filter λq=>decide (q<(j:Int))
theorem Ud:∀{c:LI},c.Pairwise (· < ·)->∀j:Nat,Vj c (j+1)=Vj c j++(if (j:Int)∈c then [(j:Int)] else [])
 | [],_,j=>rfl
 | q::c,h,j=>by
  obtain ⟨h1,h2⟩:=List.pairwise_cons.mp h;have ih:=Ud h2 j;have none_of:(j:Int)<=q->Vj c j=[]:=λz=>by
   unfold Vj;refine List.filter_eq_nil_iff.mpr λx hx=>?_;have:=h1 x hx;rw [decide_eq_true_eq]
   lia
  unfold Vj at ih none_of ⊢;rw [List.filter_cons,List.filter_cons];rcases (show q<(j:Int)\/q=(j:Int)\/(j:Int)<q by lia) with z | z | z
  ·rw [if_pos (decide_eq_true (by lia)),if_pos (decide_eq_true z),ih,List.cons_append]
   congr 2
   by_cases w:(j:Int)∈c
   ·rw [if_pos w,if_pos (List.mem_cons_of_mem _ w)]
   ·rw [if_neg w,if_neg (by rw [List.mem_cons];exact λy=>y.elim (λy=>by lia) w)]
  ·rw [if_pos (decide_eq_true (by lia)),if_neg (by rw [decide_eq_true_eq];lia),ih,none_of (by lia),if_pos (show (j:Int)∈q::c by rw [z];exact List.mem_cons_self),if_neg (show ¬ (j:Int)∈c from λw=>by have:=h1 _ w;lia),z]
   rfl
  ·rw [if_neg (by rw [decide_eq_true_eq];lia),if_neg (by rw [decide_eq_true_eq];lia),ih,none_of (by lia),if_neg (show ¬ (j:Int)∈c from λw=>by have:=h1 _ w;lia),if_neg (show ¬ (j:Int)∈q::c by rw [List.mem_cons];exact λy=>y.elim (λy=>by lia) (λw=>by have:=h1 _ w;lia))]
theorem Wv {c:LI}{j:Nat}(h:∀q∈c,q<(j:Int)):Vj c j=c:=List.filter_eq_self.mpr λq hq=>decide_eq_true (h q hq)
theorem YN {c:LI}{j:Nat}{q:Int}(h:q∈Vj c j):q∈c/\q<(j:Int):=⟨(List.mem_filter.mp h).1,of_decide_eq_true (List.mem_filter.mp h).2⟩
theorem On {rs:List (Int×Int)}{k:Int}(hr:∀r∈rs,0<=r.1/\r.1<r.2/\r.2<k)(c:LI):(∀q∈c,0<=q/\q<(rs.length:Int))->∀x,degF rs c x≠0->0<=x/\x<k:=by
 refine O9 (P:=λc=>(∀q∈c,0<=q/\q<(rs.length:Int))->∀x,degF rs c x≠0->0<=x/\x<k) ?_ ?_ c
 ·intro _ x h;exact absurd rfl h
 ·intro c q ih hc x h;have hq:=hc q (List.mem_append_right _ (List.mem_singleton.mpr rfl));have hx:=hr (rdAt rs q) (by unfold rdAt;rw [List.getD_eq_getElem?_getD,List.getElem?_eq_getElem (show q.toNat<rs.length by lia)];exact List.getElem_mem _);rw [JS] at h;by_cases a:x=(rdAt rs q).1
  ·lia
  by_cases b:x=(rdAt rs q).2
  ·lia
  rw [Ja a b] at h;exact ih (λp hp=>hc p (List.mem_append_left _ hp)) x h
def Jb (rs:List (Int×Int))(k:Nat)(s t:Int):Option (LI):=if 0<=Gq rs s/\0<=Gq rs t then some (List.replicate (k+1) (-2)) else none
def G4 (rs:List (Int×Int))(k:Nat)(s t:Int)(c:LI):Nat->Option (LI)
 | 0=>Jb rs k s t
 | j+1=>(G4 rs k s t c j).bind λm=>VJ rs s t m j (decide ((j:Int)∈c))
section
variable {rs:List (Int×Int)}{k:Nat}{s t:Int}
def XZ (rs:List (Int×Int))(k:Nat)(s t:Int)(j:Nat)(c m:LI):Prop:=∃lab,OL rs c=some lab/\HopB rs k s t j (degF rs c) lab/\∃mate,Mt (degF rs c) lab mate/\Mk rs k s t j (degF rs c) lab mate m
theorem Za7 (hst:s≠t)(s0:0<=s)(sk:s<(k:Int))(t0:0<=t)(tk:t<(k:Int))(hr:∀r∈rs,0<=r.1/\r.1<r.2/\r.2<(k:Int)){c:LI}(hc:∀q∈c,0<=q/\q<(rs.length:Int))(hp:c.Pairwise (· < ·)) :
  ∀j:Nat,j<=rs.length->(∃m,G4 rs k s t c j=some m/\XZ rs k s t j (Vj c j) m)\/(G4 rs k s t c j=none/\¬ Hop rs k s t j (Vj c j))
 | 0,_=>by
  have e0:Vj c 0=[]:=List.filter_eq_nil_iff.mpr λq hq=>by
   have:=(hc q hq).1;rw [decide_eq_true_eq]
   lia
  rw [e0];unfold G4 Jb;by_cases h:0<=Gq rs s/\0<=Gq rs t
  ·rw [if_pos h];refine .inl ⟨_,rfl,id,rfl,⟨λx=>(by show 0<=2;decide),λe he=>⟨(by show 0<=1;decide),λz=>?_⟩,λx _ _ _ _ z=>absurd z.2 (by show ¬ 0=1;decide),λz=>absurd rfl z⟩,id,Mt.start,by rw [List.length_replicate],λp p0 pk=>?_,?_⟩
   ·rcases he with rfl | rfl
    ·have:=h.1;have:=z.1;lia
    ·have:=h.2;have:=z.1;lia
   ·unfold gA Wu;rw [List.getD_eq_getElem?_getD,List.getElem?_replicate,if_pos (by lia)];split
    ·rfl
    ·rw [if_pos (show degF rs [] p=0 from rfl)];rfl
   ·rw [List.getD_eq_getElem?_getD,List.getElem?_replicate,if_pos (by lia),if_neg (λz=>z.1 rfl)]
    rfl
  ·rw [if_neg h];refine .inr ⟨rfl,λ⟨lab,_,hb⟩=>h ⟨?_,?_⟩⟩
   ·have:=(hb.en s (.inl rfl)).2;exact Int.not_lt.mp λz=>this ⟨z,rfl⟩
   ·have:=(hb.en t (.inr rfl)).2;exact Int.not_lt.mp λz=>this ⟨z,rfl⟩
 | j+1,hj=>by
  have hj':j<rs.length:=hj;have hc':∀q∈Vj c j,0<=q/\q<(rs.length:Int):=λq hq=>hc q (YN hq).1;have rg:=On hr (Vj c j) hc';have good:∀q:Int,0<=q->q<(rs.length:Int)->0<=(rdAt rs q).1/\(rdAt rs q).1<(rdAt rs q).2/\(rdAt rs q).2<(k:Int):=λq q0 q1=>hr (rdAt rs q) (by unfold rdAt;rw [List.getD_eq_getElem?_getD,List.getElem?_eq_getElem (show q.toNat<rs.length by lia)];exact List.getElem_mem _);have ej:rdAt rs (j:Int)=rs.getD j (0,0):=by unfold rdAt;rw [Int.toNat_natCast]
  have gj:=good (j:Int) (by lia) (by lia);rw [ej] at gj;have la:=OB hj' (.inl rfl:(rs.getD j (0,0)).1=(rs.getD j (0,0)).1\/_);have lb:=OB hj' (.inr rfl:_\/(rs.getD j (0,0)).2=(rs.getD j (0,0)).2);have hab:(rs.getD j (0,0)).1≠(rs.getD j (0,0)).2:=by lia
  rw [Ud hp j];have fin:∀{c' m':LI}{lab mate},OL rs c'=some lab->HopB rs k s t j (degF rs c') lab->Mt (degF rs c') lab mate->Mk rs k s t j (degF rs c') lab mate m'->(∀q∈c',0<=q/\q<(rs.length:Int)) ->
    (∃m,Wt m' (JX rs j) (ZB s t (JX rs j))=some m/\XZ rs k s t (j+1) c' m)\/(Wt m' (JX rs j) (ZB s t (JX rs j))=none/\¬ Hop rs k s t (j+1:Nat) c'):=by
   intro c' m' lab mate hl hb hm hk hcc;rcases Zd2 hm s0 sk t0 tk hj' hr (On hr c' hcc) hb hk with ⟨m2,e,b2,k2⟩ | ⟨e,nb⟩
   ·exact .inl ⟨m2,e,lab,hl,b2,mate,hm,k2⟩
   ·refine .inr ⟨e,λ⟨lab',h1,h2⟩=>?_⟩;rw [hl] at h1;cases h1;exact nb h2
  have ih:=Za7 hst s0 sk t0 tk hr hc hp j (by lia);unfold G4;rcases ih with ⟨m,e,lab,hl,hb,mate,hm,hk⟩ | ⟨e,nh⟩
  ·rw [e];show (∃m',VJ rs s t m j (decide ((j:Int)∈c))=some m'/\_)\/(VJ rs s t m j (decide ((j:Int)∈c))=none/\_);unfold VJ;by_cases hin:(j:Int)∈c
   ·rw [if_pos (decide_eq_true hin),if_pos hin];have ed:degF rs (Vj c j++[(j:Int)])=Jr (rs.getD j (0,0)) (degF rs (Vj c j)):=by rw [JS,ej]
    have el:=JF rs (Vj c j) (j:Int);rw [hl,ej] at el;have el:OL rs (Vj c j++[(j:Int)])=if lab (rs.getD j (0,0)).1=lab (rs.getD j (0,0)).2 then none else some (Ji (rs.getD j (0,0)) lab):=el
    rcases Zd1 hm hst s0 sk t0 tk hab gj.1 (by lia) (by lia) gj.2.2 rg la lb hb hk with ⟨m',ew,hne,hb',mate',hm',hk'⟩ | ⟨ew,no⟩
    ·rw [ew];rw [if_neg hne] at el;rw [<-ed] at hb' hm' hk';exact fin el hb' hm' hk' λq hq=>by
      rcases List.mem_append.mp hq with z | z
      ·exact hc' q z
      ·rw [List.mem_singleton] at z
       lia
    ·rw [ew];refine .inr ⟨rfl,λ⟨lab',h1,h2⟩=>?_⟩;rw [el] at h1;rcases no with z | z
     ·rw [if_pos z] at h1;cases h1
     ·by_cases y:lab (rs.getD j (0,0)).1=lab (rs.getD j (0,0)).2
      ·rw [if_pos y] at h1;cases h1
      ·rw [if_neg y] at h1;cases h1;rw [ed] at h2;exact z (h2.down (by lia))
   ·rw [if_neg (by rw [decide_eq_true_eq];exact hin),if_neg hin,List.append_nil];exact fin hl hb hm hk hc'
  ·rw [e];refine .inr ⟨rfl,λ⟨lab',h1,h2⟩=>nh ?_⟩;by_cases hin:(j:Int)∈c
   ·rw [if_pos hin] at h1 h2;have ed:degF rs (Vj c j++[(j:Int)])=Jr (rs.getD j (0,0)) (degF rs (Vj c j)):=by rw [JS,ej]
    rw [JF,ej] at h1;cases hl:OL rs (Vj c j) with
    | none=>rw [hl] at h1;cases h1
    | some lab=>
     rw [hl] at h1;have h1:(if lab (rs.getD j (0,0)).1=lab (rs.getD j (0,0)).2 then none else some (Ji (rs.getD j (0,0)) lab))=some lab':=h1;by_cases y:lab (rs.getD j (0,0)).1=lab (rs.getD j (0,0)).2
     ·rw [if_pos y] at h1;cases h1
     rw [if_neg y] at h1;cases h1;rw [ed] at h2;obtain ⟨mate,M⟩:=Ws rs (Vj c j) lab (λq hq=>by have:=hc' q hq;have:=good q this.1 this.2;lia) hl (λx=>Nat.le_trans (JN _ _ x) (h2.two x));exact ⟨lab,hl,(h2.down (j:=(j:Int)) (by lia)).unadd M hst hab la lb⟩
   ·rw [if_neg hin,List.append_nil] at h1 h2;exact ⟨lab',h1,h2.down (by lia)⟩
theorem Vk (hst:s≠t)(s0:0<=s)(sk:s<(k:Int))(t0:0<=t)(tk:t<(k:Int))(hr:∀r∈rs,0<=r.1/\r.1<r.2/\r.2<(k:Int)){c:LI}{n:Nat}(hn:n<=rs.length)(hc:∀q∈c,0<=q/\q<(n:Int))(hp:c.Pairwise (· < ·)) :
  (∃m,G4 rs k s t c n=some m/\XZ rs k s t n c m)\/(G4 rs k s t c n=none/\¬ Hop rs k s t n c):=by
 have:=Za7 hst s0 sk t0 tk hr (λq hq=>⟨(hc q hq).1,by have:=(hc q hq).2;lia⟩) hp n hn;rw [Wv λq hq=>(hc q hq).2] at this;exact this
end
end
end M
namespace M
open PySem L2
section
variable {P:PP}{w:Ab}{K:FF}{mg:Str->Option Aa}{base:Heap}
def Ww (s t:Int):List (Key×V):=[(.inl s,.int (-3)),(.inl t,.int (-4))]
def EndD (H:Hp)(e:AD)(s t:Int):Prop:=s≠t/\∃o,H e=some (.frz o (.dK (Ww s t)))
theorem EndD.same {H H':Hp}{e:AD}{s t:Int}(h:EndD H e s t)(q:Same H H'):EndD H' e s t:=⟨h.1,h.2.imp λ_ z=>q _ _ z⟩
theorem ZC {s t:Int}(h:s≠t):U6 [] (Ww s t)=Ww s t:=by
 unfold U6 Ww;rw [List.foldl_cons,List.foldl_cons,List.foldl_nil,Yq _ VY,Yq]
 ·rfl
 ·rw [List.nil_append,GT (λz=>h (Sum.inl.inj z)),VY]
theorem Zcw {s t:Int}(p:Int):Od (Ww s t) (.inl p)=if p=s then some (.int (-3)) else if p=t then some (.int (-4)) else none:=by
 unfold Ww;by_cases h1:p=s
 ·rw [if_pos h1,GX (by rw [h1])]
 ·rw [if_neg h1,GT (λz=>h1 (Sum.inl.inj z).symm)];by_cases h2:p=t
  ·rw [if_pos h2,GX (by rw [h2])]
  ·rw [if_neg h2,GT (λz=>h2 (Sum.inl.inj z).symm),VY]
theorem EndD.get {H:Hp}{e:AD}{s t:Int}(h:EndD H e s t)(p:Int):DGet H e (.int p) (if p=s then some (.int (-3)) else if p=t then some (.int (-4)) else none):=by
 obtain ⟨_,o,e⟩:=h;rw [<-Zcw];exact .inl ⟨_,.inl p,.inr ⟨o,e⟩,rfl,rfl⟩
def ZfN:Sp:=λvs H Q _=>∃s t:Int,vs=[.int s,.int t]/\s≠t/\∀(e:AD)(H':Hp),Same H H'->H e=none->EndD H' e s t->Q (.ref e) H'
theorem ZhN:Gk ["one", "other"] ["one", "other"] (Gf sMe):=⟨rfl,rfl,rfl,by decide +kernel,rfl,by decide +kernel,by decide +kernel⟩
theorem Zgn {f:AD}{fd:FuncData}(F:Fun K "marks_of_ends" "marks_of_ends" sMe f fd){u3 u4:Tok}(mFIRST:mg "FIRST" = some (.int (-3) u3))(mSECOND:mg "SECOND" = some (.int (-4) u4)):GG P w K mg base CX0 1 f fd ["one", "other"] ZfN:=by
 refine F.ok ZhN (λvs H Q E h=>?_) (λcdv A outer s0 H vs Q E hr h=>?_)
 ·obtain ⟨_,_,rfl,_⟩:=h
  rfl
 ·obtain ⟨s,t,rfl,hst,q⟩:=h;refine ⟨_,Ge (Gn (Zck (Ys (pv 0) (GZ (v:=.int (-3)) rfl mFIRST ⟨_,rfl⟩) (Ys (pv 1) (GZ (v:=.int (-4)) rfl mSECOND ⟨_,rfl⟩) ZdH)) rfl rfl (by decide) (by decide))),?_⟩;refine λe he=>⟨_,rfl,_,rfl,Gb,Ww s t,rfl,(by show 2<=15;decide),λo=>?_⟩;rw [ZC hst,Uj];exact q e _ (Same.new he) he ⟨hst,o,Gb⟩
def Zgo (K:FF):Sp:=λvs H Q _=>∃(m:AD)(ms:LI),vs=[.ref m]/\SqT K H m (ms.map V.int)/\ms≠[]/\Q (.bl (decide (ms.getD (ms.length-1) 0=0))) H
theorem ZhO:Gk ["marks"] ["marks"] (Gf sId):=⟨rfl,rfl,rfl,by decide +kernel,rfl,by decide +kernel,by decide +kernel⟩
theorem Zfl {ns:LI}(h:ns≠[]):atI (ns.map V.int) (-1)=some (.int (ns.getD (ns.length-1) 0)):=by
 have hp:0<ns.length:=List.length_pos_iff.mpr h;have e:ixN (ns.map V.int).length (-1)=some (ns.length-1):=by
  unfold ixN;rw [if_neg (by decide),List.length_map,if_pos (by lia)]
  congr 1
  lia
 unfold atI;rw [e];show (ns.map V.int)[ns.length-1]?=_;rw [List.getElem?_map,List.getD_eq_getElem?_getD,List.getElem?_eq_getElem (show ns.length-1<ns.length by lia)]
 rfl
theorem G0 {i j:Int}:decide (V.int i=V.int j)=decide (i=j):=by
 by_cases h:i=j
 ·rw [decide_eq_true h,decide_eq_true (by rw [h])]
 ·rw [decide_eq_false h,decide_eq_false λz=>h (V.int.inj z)]
theorem Zgp {f:AD}{fd:FuncData}(F:Fun K "is_done" "is_done" sId f fd){u0:Tok}(mDONE:mg "DONE" = some (.int 0 u0)):GG P w K mg base CX0 1 f fd ["marks"] (Zgo K):=by
 refine F.ok ZhO (λvs H Q E h=>?_) (λcdv A outer s0 H vs Q E hr h=>?_)
 ·obtain ⟨_,_,rfl,_⟩:=h
  rfl
 ·obtain ⟨m,ms,rfl,hm,hne,q⟩:=h;refine ⟨_,Ge (Gn (Jf UB (Gx (J9 K) (pv 0) (Zet Z8 Gg) (λ_ _=>rfl)) (GZ (v:=.int (0)) rfl mDONE ⟨_,rfl⟩) (Gz _))),?_⟩;refine ⟨_,rfl,_,rfl,m,_,_,_,rfl,rfl,hm,Zfl hne,rfl,?_⟩;rw [G0];exact q
def X0 (g:Int->Bool):Sp:=λvs H Q _=>∃q:Int,vs=[.int q]/\∀H',Same H H'->Q (.bl (g q)) H'
theorem ZfO (q a b:Int):inV (.int q) [.int a,.int b]=decide (q=a\/q=b):=by
 rw [Zgk];unfold Om;exact decide_eq_decide.mpr ⟨λh=>h.imp Eq.symm Eq.symm,λh=>h.imp Eq.symm Eq.symm⟩
theorem ZhP:Gk ["mark"] ["mark"] (Gf sIl):=⟨rfl,rfl,rfl,by decide +kernel,rfl,by decide +kernel,by decide +kernel⟩
theorem Zgq {f:AD}{fd:FuncData}(F:Fun K "is_loose" "is_loose" sIl f fd){u3 u4:Tok}(mFIRST:mg "FIRST" = some (.int (-3) u3))(mSECOND:mg "SECOND" = some (.int (-4) u4)):GG P w K mg base CX0 1 f fd ["mark"] (X0 Jn):=by
 refine F.ok ZhP (λvs H Q E h=>?_) (λcdv A outer s0 H vs Q E hr h=>?_)
 ·obtain ⟨_,rfl,_⟩:=h
  rfl
 ·obtain ⟨x,rfl,q⟩:=h;refine ⟨_,Ge (Gn (Zeo (Jf ZbK (pv 0) Gg (Gz _)) (ZcP (Jf (kIn K) (pv 0) (JH (Ga (GZ (v:=.int (-3)) rfl mFIRST ⟨_,rfl⟩) (Ga (GZ (v:=.int (-4)) rfl mSECOND ⟨_,rfl⟩) Gd))) (by with_unfolding_all rfl))))),?_⟩;refine ⟨_,rfl,_,_,rfl,rfl,_,rfl,?_⟩;unfold Jn at q;by_cases h0:0<=x
  ·rw [decide_eq_true h0];refine G5 ?_;have:=q H (Same.refl _);rw [decide_eq_true (.inl h0)] at this;exact this
  ·rw [decide_eq_false h0];refine Jw ?_;refine ⟨_,rfl,J8,λp hp=>⟨p,_,rfl,.inr (SqT.of Gb),rfl,rfl,?_⟩⟩;show Q (.bl (inV (.int x) [.int (-3),.int (-4)])) _;rw [ZfO];have:=q _ (Same.new (o:=.tup [.int (-3),.int (-4)]) hp);rw [show decide (0<=x\/x=-3\/x=-4)=decide (x=-3\/x=-4) from decide_eq_decide.mpr ⟨λz=>z.resolve_left h0,.inr⟩] at this;exact this
theorem ZhQ:Gk ["mark"] ["mark"] (Gf sIf):=⟨rfl,rfl,rfl,by decide +kernel,rfl,by decide +kernel,by decide +kernel⟩
theorem Zgr {f:AD}{fd:FuncData}(F:Fun K "is_full" "is_full" sIf f fd){u1 u5:Tok}(mUSED:mg "USED" = some (.int (-1) u1))(mBARRED:mg "BARRED" = some (.int (-5) u5)):GG P w K mg base CX0 1 f fd ["mark"] (X0 J5):=by
 refine F.ok ZhQ (λvs H Q E h=>?_) (λcdv A outer s0 H vs Q E hr h=>?_)
 ·obtain ⟨_,rfl,_⟩:=h
  rfl
 ·obtain ⟨x,rfl,q⟩:=h;refine ⟨_,Ge (Gn (Jf (kIn K) (pv 0) (JH (Ga (GZ (v:=.int (-1)) rfl mUSED ⟨_,rfl⟩) (Ga (GZ (v:=.int (-5)) rfl mBARRED ⟨_,rfl⟩) Gd))) (by with_unfolding_all rfl))),?_⟩;refine ⟨_,rfl,J8,λp hp=>⟨p,_,rfl,.inr (SqT.of Gb),rfl,rfl,?_⟩⟩;show Q (.bl (inV (.int x) [.int (-1),.int (-5)])) _;rw [ZfO];exact q _ (Same.new hp)
theorem ZhR:Gk ["mark"] ["mark"] (Gf sIm):=⟨rfl,rfl,rfl,by decide +kernel,rfl,by decide +kernel,by decide +kernel⟩
theorem Zgs {f:AD}{fd:FuncData}(F:Fun K "is_met" "is_met" sIm f fd){u2 u5:Tok}(mFREE:mg "FREE" = some (.int (-2) u2))(mBARRED:mg "BARRED" = some (.int (-5) u5)):GG P w K mg base CX0 1 f fd ["mark"] (X0 Ub):=by
 refine F.ok ZhR (λvs H Q E h=>?_) (λcdv A outer s0 H vs Q E hr h=>?_)
 ·obtain ⟨_,rfl,_⟩:=h
  rfl
 ·obtain ⟨x,rfl,q⟩:=h;refine ⟨_,Ge (Gn (Jf (Yl K) (pv 0) (JH (Ga (GZ (v:=.int (-2)) rfl mFREE ⟨_,rfl⟩) (Ga (GZ (v:=.int (-5)) rfl mBARRED ⟨_,rfl⟩) Gd))) (by with_unfolding_all rfl))),?_⟩;refine ⟨_,rfl,J8,λp hp=>⟨p,_,rfl,.inr (SqT.of Gb),rfl,rfl,?_⟩⟩;show Q (.bl (!inV (.int x) [.int (-2),.int (-5)])) _;rw [ZfO];have:=q _ (Same.new (o:=.tup [.int (-2),.int (-5)]) hp);unfold Ub at this;rw [decide_not] at this;exact this
def Zg9 (K:FF):Sp:=λvs H Q _=>∃(m e:AD)(ms:LI)(p s t:Int),vs=[.ref m,.int p,.ref e]/\SqT K H m (ms.map V.int)/\0<=p/\p<ms.length/\EndD H e s t/\Q (.int (US s t ms p)) H
theorem ZhS:Gk ["marks", "place", "ends"] ["marks", "place", "ends"] (Gf sFe):=⟨rfl,rfl,rfl,by decide +kernel,rfl,by decide +kernel,by decide +kernel⟩
theorem Zgt {f:AD}{fd:FuncData}(F:Fun K "far_end" "far_end" sFe f fd){u2:Tok}(mFREE:mg "FREE" = some (.int (-2) u2)):GG P w K mg base CX0 1 f fd ["marks", "place", "ends"] (Zg9 K):=by
 refine F.ok ZhS (λvs H Q E h=>?_) (λcdv A outer s0 H vs Q E hr h=>?_)
 ·obtain ⟨_,_,_,_,_,_,rfl,_⟩:=h
  rfl
 ·obtain ⟨m,e,ms,p,s,t,rfl,hm,p0,p1,he,q⟩:=h;have hu1:(A.deeper (PyProof.Rows.envOfC "far_end" (Gf sFe) s0.heap.objs.size f cdv)).units+1<cLine:=by have:=hr.un;lia
  refine ⟨_,Ge (Gn (JY (Gr UB (Gx (J9 K) (pv 0) (pv 1) (λ_ _=>rfl)) (GZ (v:=.int (-2)) rfl mFREE ⟨_,rfl⟩) (Gz _)) (V1 hu1 (pv 2) (pv 1) (pv 1) ⟨rfl,rfl,rfl,rfl⟩) (Gx (J9 K) (pv 0) (pv 1) (λ_ _=>rfl)))),?_⟩;refine ⟨_,rfl,_,rfl,m,_,_,_,rfl,rfl,hm,OH p0 p1,rfl,_,rfl,?_⟩;rw [G0];unfold US at q;refine WX (λz=>?_) (λz=>?_)
  ·rw [if_pos (show gA ms p=-2 from of_decide_eq_true z)] at q;obtain ⟨_,o,e1⟩:=id he;refine ⟨_,rfl,e,rfl,.inl ⟨_,.inr ⟨o,e1⟩⟩,_,rfl,_,rfl,_,he.get p,?_⟩;unfold GJ at q;by_cases h1:p=s
   ·rw [if_pos h1] at q ⊢;exact q
   ·rw [if_neg h1] at q ⊢;by_cases h2:p=t
    ·rw [if_pos h2] at q ⊢;exact q
    ·rw [if_neg h2] at q ⊢;exact q
  ·rw [if_neg (show ¬ gA ms p=-2 from λy=>z (decide_eq_true y))] at q;exact ⟨_,rfl,_,rfl,m,_,_,_,rfl,rfl,hm,OH p0 p1,q⟩
theorem Uw {n:Nat}{i:Int}(h0:0<=i)(h1:i<n):ixN n i=some i.toNat:=by
 unfold ixN;rw [if_pos h0,if_pos h1]
theorem map_set {ms:LI}{n:Nat}{v:Int}:(ms.map V.int).set n (.int v)=(ms.set n v).map V.int:=by
 rw [List.map_set]
def Zha:Sp:=λvs H Q _=>∃(m r e:AD)(ms:LI)(a b s t:Int),vs=[.ref m,.ref r,.ref e]/\H m=some (.tup (ms.map V.int))/\H r=some (.tup [.int a,.int b])/\EndD H e s t/\0<=a/\a<b/\b+1<ms.length/\(∀q∈ms,q+1<(ms.length:Int))/\ms.length<=1000 /\
 (∀H':Hp,Same H H'->Uc s t ms (a,b)=none->Q .non H')/\(∀(T:AD)(m':LI)(H':Hp),Same H H'->H T=none->H' T=some (.tup (m'.map V.int))->Uc s t ms (a,b)=some m'->Q (.ref T) H')
theorem scWr:Gk ["marks", "road", "ends", "a", "b", "rounds", "far_a", "far_b", "changed"] ["marks", "road", "ends"] (Gf sWr):=⟨rfl,rfl,rfl,by decide +kernel,rfl,by decide +kernel,by decide +kernel⟩
theorem Zdb {ms:LI}{s t p:Int}(p0:0<=p)(p1:p+1<ms.length)(h:∀q∈ms,q+1<(ms.length:Int)):US s t ms p+1<ms.length:=by
 unfold US;split
 ·rcases GF s t p with ⟨_,e⟩ | ⟨_,_,e⟩ | ⟨_,_,e⟩ <;> lia
 ·exact h _ (Zcs (by lia))
theorem Zgu {f fId fIf fFe fIl:AD}{fd fdId fdIf fdFe fdIl:FuncData}(F:Fun K "with_road" "with_road" sWr f fd)(FId:Fun K "is_done" "is_done" sId fId fdId)(bId:Binds K fdId ["marks"] [])(mId:mg "is_done" = some (.ref fId))(GId:GG P w K mg base CX0 1 fId fdId ["marks"] (Zgo K))(FIf:Fun K "is_full" "is_full" sIf fIf fdIf)(bIf:Binds K fdIf ["mark"] [])(mIf:mg "is_full" = some (.ref fIf))(GIf:GG P w K mg base CX0 1 fIf fdIf ["mark"] (X0 J5))(FFe:Fun K "far_end" "far_end" sFe fFe fdFe)(bFe:Binds K fdFe ["marks", "place", "ends"] [])(mFe:mg "far_end" = some (.ref fFe))(GFe:GG P w K mg base CX0 1 fFe fdFe ["marks", "place", "ends"] (Zg9 K))(FIl:Fun K "is_loose" "is_loose" sIl fIl fdIl)(bIl:Binds K fdIl ["mark"] [])(mIl:mg "is_loose" = some (.ref fIl))(GIl:GG P w K mg base CX0 1 fIl fdIl ["mark"] (X0 Jn)){u0 u1:Tok}(mDONE:mg "DONE" = some (.int 0 u0))(mUSED:mg "USED" = some (.int (-1) u1))(mLst:mg "list" = none)(mAny:mg "any" = none)(mTup:mg "tuple" = none):GG P w K mg base CX0 2 f fd ["marks", "road", "ends"] Zha:=by
 refine F.ok scWr (λvs H Q E h=>?_) (λcdv A outer s0 H vs Q E hr h=>?_)
 ·obtain ⟨_,_,_,_,_,_,_,_,rfl,_⟩:=h
  rfl
 ·obtain ⟨m,r,e,ms,a,b,s,t,rfl,hm,hr',he,a0,ab,bk,qK,qV,qn,qs⟩:=h;have h16:(16777216:Nat)=sizeLine:=sizeLine_eq.symm;have hne:ms≠[]:=λz=>by rw [z] at bk;simp at bk;lia
  refine ⟨_,Gc (J7 (pv 1) (Z7 K (n:=2) rfl (Gv (Gi (i:=3) scWr.nd rfl (Or.inl rfl)) (Gv (Gi (i:=4) scWr.nd rfl (Or.inl rfl)) Jy))))
    (Gc (Gp (i:=5) scWr.nd rfl (Or.inl rfl) (Jf UB (Gx (J9 K) (pv 0) (pv 3) (λ_ _=>rfl)) (pv 4) (Gz _)))
    (Gc (Jd (PW.pt (WK (Oa (Gh GId (hr.mono (by decide)) rfl mId FId.kp bId .nil GN (Ga (pv 0) Gd))) (WK (Oa (Gh GIf (hr.mono (by decide)) rfl mIf FIf.kp bIf .nil GN (Ga (Gx (J9 K) (pv 0) (pv 3) (λ_ _=>rfl)) Gd))) (WK (Oa (Gh GIf (hr.mono (by decide)) rfl mIf FIf.kp bIf .nil GN (Ga (Gx (J9 K) (pv 0) (pv 4) (λ_ _=>rfl)) Gd))) (WJ (PW.pt (UW (Ju (pv 5) (λ_=>rfl)) (OI (ZaO (pv 2) (λ_=>rfl)))))))))) (Ge (Gn JP)) GA)
    (Gc (Gp (i:=6) scWr.nd rfl (Or.inl rfl) (Gh GFe (hr.mono (by decide)) rfl mFe FFe.kp bFe .nil GN (Ga (pv 0) (Ga (pv 3) (Ga (pv 2) Gd)))))
    (Gc (Gp (i:=7) scWr.nd rfl (Or.inl rfl) (Gh GFe (hr.mono (by decide)) rfl mFe FFe.kp bFe .nil GN (Ga (pv 0) (Ga (pv 4) (Ga (pv 2) Gd)))))
    (Gc (Gp (i:=8) scWr.nd rfl (Or.inl rfl) (GR (VT K) rfl mLst Oc (Ga (pv 0) Gd)))
    (Gc (J7 (GZ (v:=.int (-1)) rfl mUSED ⟨_,rfl⟩) (UX (pv 8) (pv 3) J0))
    (Gc (J7 (GZ (v:=.int (-1)) rfl mUSED ⟨_,rfl⟩) (UX (pv 8) (pv 4) J0))
    (Gc (Jd (PW.pt (UW (ON (Ju (pv 5) (λ_=>rfl))) (OI (Gr ZbK (pv 6) Gg (Gz _))))) (Ge (J7 (pv 7) (UX (pv 8) (pv 6) J0))) GA)
    (Gc (Jd (PW.pt (UW (ON (Ju (pv 5) (λ_=>rfl))) (OI (Gr ZbK (pv 7) Gg (Gz _))))) (Ge (J7 (pv 6) (UX (pv 8) (pv 7) J0))) GA)
    (Gc (Jd (PW.pt (WK (Ju (pv 5) (λ_=>rfl)) (WJ (PW.pt (UW (Gr Za (pv 6) Gg (Gz _)) (OI (Gr Za (pv 7) Gg (Gz _)))))))) (Gc (Jd (Oa (Gw (Zg8 K rfl) rfl mAny YI (Ga (G7 (own:=["mark"]) rfl (G8 (by decide +kernel) (by decide +kernel) rfl (by decide +kernel)) (JL K (pv 8)) (λ_ _ _ _=>Gi (i:=0) (show List.Nodup (["mark"]:List Str) by decide +kernel) rfl (Or.inl rfl)) (λ_ _ _ _=>GW) (λ_ _ _ _=>Gh GIl (hr.mono (by decide)) rfl mIl FIl.kp bIl .nil GN (Ga (pv 0) Gd))) Gd))) (Ge (Gn JP)) GA)
    (Ge (J7 (GZ (v:=.int (0)) rfl mDONE ⟨_,rfl⟩) (UX (pv 8) (Zet Z8 Gg) J0)))) GA)
    (Ge (Gn (GR (YJ K) rfl mTup Ot (Ga (pv 8) Gd)))))))))))))),?_⟩
  refine ⟨_,rfl,r,_,rfl,SqT.of hr',rfl,_,_,rfl,_,_,rfl,rfl,?_⟩
  try dsimp only [GL]
  refine Jg (λσ' H'=>σ'=[some (.ref m),some (.ref r),some (.ref e),some (.int a),some (.int b),some (.bl (decide (gA ms a=b))),none,none,none]/\H'=H) ?r2 ?r1
  case r1=>
   intro hk;refine ⟨_,rfl,_,rfl,m,_,_,_,rfl,rfl,SqT.of hm,OH a0 (by lia),_,rfl,rfl,?_⟩;rw [G0];exact hk _ _ ⟨rfl,rfl⟩
  rintro σ' H' ⟨rfl,rfl⟩;have ret:(ms.getD (ms.length-1) 0=0\/J5 (gA ms a)=true\/J5 (gA ms b)=true\/gA ms a=b)->∀H2,Same H' H2->Q .non H2:=λz H2 s2=>qn H2 s2 (by unfold Uc;rw [if_pos z]);refine Jg (λσ'' H2=>σ''=[some (.ref m),some (.ref r),some (.ref e),some (.int a),some (.int b),some (.bl false),none,none,none]/\Same H' H2/\¬ (ms.getD (ms.length-1) 0=0\/J5 (gA ms a)=true\/J5 (gA ms b)=true\/gA ms a=b)) ?f2 ?f1
  case f1=>
   intro hk;refine ⟨_,rfl,m,ms,rfl,SqT.of hm,hne,_,rfl,?_⟩;by_cases c1:ms.getD (ms.length-1) 0=0
   ·rw [decide_eq_true c1];exact G5 (G5 (ret (.inl c1) _ (Same.refl _)))
   rw [decide_eq_false c1];refine Jw ?_;refine ⟨_,rfl,_,rfl,m,_,_,_,rfl,rfl,SqT.of hm,OH a0 (by lia),_,rfl,λH2 s2=>⟨_,rfl,?_⟩⟩;by_cases c2:J5 (gA ms a)=true
   ·rw [show J5 (ms.getD a.toNat 0)=true from c2];exact G5 (G5 (ret (.inr (.inl c2)) _ s2))
   rw [show J5 (ms.getD a.toNat 0)=false from by cases z:J5 (gA ms a);exact z;exact absurd z c2];refine Jw ?_;refine ⟨_,rfl,_,rfl,m,_,_,_,rfl,rfl,SqT.of (s2 _ _ hm),OH (by lia) (by lia),_,rfl,λH3 s3=>⟨_,rfl,?_⟩⟩;have s23:=s2.trans s3;by_cases c3:J5 (gA ms b)=true
   ·rw [show J5 (ms.getD b.toNat 0)=true from c3];exact G5 (G5 (ret (.inr (.inr (.inl c3))) _ s23))
   rw [show J5 (ms.getD b.toNat 0)=false from by cases z:J5 (gA ms b);exact z;exact absurd z c3];refine Jw ?_;refine ⟨_,rfl,_,rfl,?_⟩;by_cases c4:gA ms a=b
   ·rw [decide_eq_true c4];obtain ⟨_,o,e1⟩:=id he;refine G5 ⟨_,rfl,e,_,rfl,.inr ⟨o,s23 _ _ e1⟩,?_⟩;exact G5 (ret (.inr (.inr (.inr c4))) _ s23)
   rw [decide_eq_false c4];refine Jw (Jw ?_);exact hk _ _ ⟨rfl,s23,λz=>z.elim c1 λz=>z.elim c2 λz=>z.elim c3 c4⟩
  rintro σ'' H2 ⟨rfl,s2,hno⟩;have hm2:=s2 _ _ hm;have he2:=he.same s2;refine ⟨_,rfl,_,rfl,_,rfl,m,e,ms,a,s,t,rfl,SqT.of hm2,a0,by lia,he2,?_⟩;refine ⟨_,rfl,_,rfl,_,rfl,m,e,ms,b,s,t,rfl,SqT.of hm2,by lia,by lia,he2,?_⟩;refine ⟨_,rfl,m,_,rfl,.inr (SqT.of hm2),λc hc=>?_⟩;have fal:=Zdb (s:=s) (t:=t) a0 (show a+1<ms.length by lia) qK;have fbl:=Zdb (s:=s) (t:=t) (show 0<=b by lia) bk qK;have ev:Uc s t ms (a,b)=(if US s t ms a<0/\US s t ms b<0 then (if (pW1 ms (a,b) (US s t ms a) (US s t ms b)).any Jn=true then none else some ((pW1 ms (a,b) (US s t ms a) (US s t ms b)).set (ms.length-1) 0)) else some (pW1 ms (a,b) (US s t ms a) (US s t ms b))):=by
   unfold Uc;rw [if_neg hno]
  rw [ev] at qn qs;clear ev ret;generalize hfa:US s t ms a=fa at *;generalize hfb:US s t ms b=fb at *;have hmc:Same H' (upd H2 c (.lst (ms.map V.int))):=s2.put (s2.free hc);have hc0:H' c=none:=s2.free hc
  try dsimp only [GL]
  refine ⟨_,rfl,_,rfl,c,_,a,_,rfl,rfl,Gb,Uw a0 (by rw [List.length_map];lia),?_⟩;rw [Uj,map_set];refine ⟨_,rfl,_,rfl,c,_,b,_,rfl,rfl,Gb,Uw (by lia) (by rw [List.length_map,List.length_set];lia),?_⟩;rw [Uj,map_set];dsimp only;refine Jg (λσ' H3=>σ'=[some (.ref m),some (.ref r),some (.ref e),some (.int a),some (.int b),some (.bl false),some (.int fa),some (.int fb),some (.ref c)]/\H3=upd H2 c (.lst ((if 0<=fa then ((ms.set a.toNat (-1)).set b.toNat (-1)).set fa.toNat fb else (ms.set a.toNat (-1)).set b.toNat (-1)).map V.int))) ?g2 ?g1
  case g1=>
   intro hk;refine ⟨_,rfl,_,rfl,G5 ⟨_,rfl,_,_,rfl,rfl,_,rfl,?_⟩⟩;by_cases z:0<=fa
   ·rw [decide_eq_true z];refine G5 ⟨_,rfl,_,rfl,_,rfl,c,_,fa,_,rfl,rfl,Gb,Uw z (by rw [List.length_map,List.length_set,List.length_set];lia),?_⟩;rw [Uj,map_set];exact hk _ _ ⟨rfl,by rw [if_pos z]⟩
   ·rw [decide_eq_false z];exact Jw (hk _ _ ⟨rfl,by rw [if_neg z]⟩)
  rintro σ' H3 ⟨rfl,rfl⟩;have l2:(if 0<=fa then ((ms.set a.toNat (-1)).set b.toNat (-1)).set fa.toNat fb else (ms.set a.toNat (-1)).set b.toNat (-1)).length=ms.length:=by split <;> simp only [List.length_set]
  refine Jg (λσ' H3=>σ'=[some (.ref m),some (.ref r),some (.ref e),some (.int a),some (.int b),some (.bl false),some (.int fa),some (.int fb),some (.ref c)]/\H3=upd H2 c (.lst ((pW1 ms (a,b) fa fb).map V.int))) ?h2 ?h1
  case h1=>
   intro hk;refine ⟨_,rfl,_,rfl,G5 ⟨_,rfl,_,_,rfl,rfl,_,rfl,?_⟩⟩;by_cases z:0<=fb
   ·rw [decide_eq_true z];refine G5 ⟨_,rfl,_,rfl,_,rfl,c,_,fb,_,rfl,rfl,Gb,Uw z (by rw [List.length_map,l2];lia),?_⟩;rw [Uj,map_set];exact hk _ _ ⟨rfl,by unfold pW1;dsimp only;rw [if_pos z]⟩
   ·rw [decide_eq_false z];exact Jw (hk _ _ ⟨rfl,by unfold pW1;dsimp only;rw [if_neg z]⟩)
  rintro σ' H3 ⟨rfl,rfl⟩;have l3:(pW1 ms (a,b) fa fb).length=ms.length:=by
   unfold pW1;dsimp only;split <;> split <;> simp only [List.length_set]
  generalize hc3:pW1 ms (a,b) fa fb=c3 at *;have sc:∀ys,Same H' (upd H2 c ys):=λys=>s2.put hc0;have fin:∀(H4:Hp)(m':LI),Same H' H4->H4 c=some (.lst (m'.map V.int))->m'.length=ms.length->(if fa<0/\fb<0 then (if c3.any Jn=true then none else some (c3.set (ms.length-1) 0)) else some c3)=some m'->∀T,H4 T=none->Q (.ref T) (upd H4 T (.tup (m'.map V.int))):=λH4 m' s4 e4 _ em T hT=>qs T m' _ (s4.put (s4.free hT)) (s4.free hT) Gb em;refine Jg (λσ' H4=>∃m':LI,σ'=[some (.ref m),some (.ref r),some (.ref e),some (.int a),some (.int b),some (.bl false),some (.int fa),some (.int fb),some (.ref c)]/\Same H' H4/\H4 c=some (.lst (m'.map V.int))/\m'.length=ms.length/\(if fa<0/\fb<0 then (if c3.any Jn=true then none else some (c3.set (ms.length-1) 0)) else some c3)=some m') ?k2 ?k1
  case k2=>
   rintro σ' H4 ⟨m',rfl,s4,e4,l4,em⟩;exact ⟨_,rfl,c,_,rfl,.inl ⟨SqL.of e4,λT hT=>fin H4 m' s4 e4 l4 em T hT⟩⟩
  case k1=>
   intro hk;refine ⟨_,rfl,_,rfl,Jw ⟨_,rfl,_,_,rfl,rfl,_,rfl,?_⟩⟩;have notb:¬ (fa<0/\fb<0)->∃m':LI,[some (V.ref m),some (.ref r),some (.ref e),some (.int a),some (.int b),some (.bl false),some (.int fa),some (.int fb),some (.ref c)]=[some (.ref m),some (.ref r),some (.ref e),some (.int a),some (.int b),some (.bl false),some (.int fa),some (.int fb),some (.ref c)]/\Same H' (upd H2 c (.lst (c3.map V.int)))/\upd H2 c (.lst (c3.map V.int)) c=some (.lst (m'.map V.int))/\m'.length=ms.length/\(if fa<0/\fb<0 then (if c3.any Jn=true then none else some (c3.set (ms.length-1) 0)) else some c3)=some m':=
    λz=>⟨c3,rfl,sc _,Gb,l3,by rw [if_neg z]⟩
   by_cases z1:fa<0
   ·rw [decide_eq_true z1];refine G5 ⟨_,rfl,_,_,rfl,rfl,_,rfl,?_⟩;by_cases z2:fb<0
    ·rw [decide_eq_true z2];refine G5 ?_;rw [if_pos ⟨z1,z2⟩] at qn;refine ⟨_,rfl,c,rfl,⟨_,SqL.of Gb⟩,λD hD=>?_⟩;have ecD:c≠D:=λz=>by rw [<-z,Gb] at hD;cases hD
     refine GM (K:=K) (a:=c) (xs:=c3.map V.int) (λi ys H4=>Same (upd H2 c (.lst (c3.map V.int))) H4/\H4 D=some (.lst ys)/\ys=((c3.take i).map Jn).map V.bl) ⟨Same.new hD,Gb,rfl⟩ (λi ys H4 _ ⟨s4,_⟩=>SqL.of (s4 _ _ Gb)) ?_ ?_
     ·rintro i x ys H4 hxi ⟨s4,hD4,rfl⟩;have hi:i<(c3.map V.int).length:=(List.getElem?_eq_some_iff.mp hxi).1;rw [List.length_map] at hi;rw [List.getElem?_map] at hxi;cases y:c3[i]? with
      | none=>rw [y] at hxi;cases hxi
      | some x1=>
       rw [y] at hxi;cases hxi;refine ⟨trivial,?_⟩;unfold Yi;refine G5 ?_;refine ⟨_,rfl,x1,rfl,λH5 s5=>⟨s5 _ _ hD4,by rw [List.length_map,List.length_map,List.length_take];lia,(s4.trans s5).put hD,Gb,?_⟩⟩;rw [List.take_add_one,y,List.map_append,List.map_append]
       rfl
     ·rintro ys H4 ⟨s4,hD4,rfl⟩;rw [List.length_map,List.take_length] at hD4;refine ⟨D,_,rfl,SqL.of hD4,_,rfl,?_⟩;rw [List.any_map,show (id∘Jn)=Jn from rfl];have s04:=(sc (.lst (c3.map V.int))).trans s4;by_cases z3:c3.any Jn=true
      ·rw [z3];exact G5 (qn _ s04 (by rw [if_pos z3]))
      ·rw [show c3.any Jn=false from by cases y:c3.any Jn;rfl;exact absurd y z3];refine Jw ?_;refine ⟨_,rfl,_,rfl,c,_,-1,ms.length-1,rfl,rfl,s4 _ _ Gb,?_,?_⟩
       ·unfold ixN;rw [if_neg (by decide),List.length_map,l3,if_pos (by lia)]
        congr 1
        lia
       ·rw [map_set];exact hk _ _ ⟨_,rfl,s04.put hc0,Gb,by rw [List.length_set,l3],by rw [if_pos ⟨z1,z2⟩,if_neg z3]⟩
    ·rw [decide_eq_false z2];exact Jw (hk _ _ (notb λy=>z2 y.2))
   ·rw [decide_eq_false z1];exact Jw (Jw (hk _ _ (notb λy=>z1 y.1)))
end
end M
namespace M
open PySem L2
section
variable {P:PP}{w:Ab}{K:FF}{mg:Str->Option Aa}{base:Heap}
def Zgv:Sp:=λvs H Q _=>∃(m a b:AD)(ms L N:LI),vs=[.ref m,.ref a,.ref b]/\H m=some (.tup (ms.map V.int))/\H a=some (.lst (L.map V.int))/\H b=some (.lst (N.map V.int))/\(∀p∈L,0<=p/\p<(ms.length:Int))/\(∀p∈N,0<=p/\p<(ms.length:Int))/\L.length<=100/\N.length<=100/\ms.length<=1000 /\
 (∀H':Hp,Same H H'->Wt ms L N=none->Q .non H')/\(∀(T:AD)(m':LI)(H':Hp),Same H H'->H' T=some (.tup (m'.map V.int))->Wt ms L N=some m'->Q (.ref T) H')
theorem scLb:Gk ["marks", "leaving", "needed", "place", "changed"] ["marks", "leaving", "needed"] (Gf sLb):=⟨rfl,rfl,rfl,by decide +kernel,rfl,by decide +kernel,by decide +kernel⟩
theorem Xm (L:LI):(L.map V.int).isEmpty=decide (L=[]):=by cases L <;> rfl
theorem Zgw {f fIl fIm:AD}{fd fdIl fdIm:FuncData}(F:Fun K "left_behind" "left_behind" sLb f fd)(FIl:Fun K "is_loose" "is_loose" sIl fIl fdIl)(bIl:Binds K fdIl ["mark"] [])(mIl:mg "is_loose" = some (.ref fIl))(GIl:GG P w K mg base CX0 1 fIl fdIl ["mark"] (X0 Jn))(FIm:Fun K "is_met" "is_met" sIm fIm fdIm)(bIm:Binds K fdIm ["mark"] [])(mIm:mg "is_met" = some (.ref fIm))(GIm:GG P w K mg base CX0 1 fIm fdIm ["mark"] (X0 Ub)){u2:Tok}(mFREE:mg "FREE" = some (.int (-2) u2))(mLst:mg "list" = none)(mAny:mg "any" = none)(mAll:mg "all" = none)(mTup:mg "tuple" = none):GG P w K mg base CX0 2 f fd ["marks", "leaving", "needed"] Zgv:=by
 refine F.ok scLb (λvs H Q E h=>?_) (λcdv A outer s0 H vs Q E hr h=>?_)
 ·obtain ⟨_,_,_,_,_,_,rfl,_⟩:=h
  rfl
 ·obtain ⟨m,a,b,ms,L,N,rfl,hm,ha,hb,lr,nr,l100,n100,m1000,qn,qs⟩:=h;have h16:(16777216:Nat)=sizeLine:=sizeLine_eq.symm;refine ⟨_,Gc (Jd (ON (Ju (pv 1) (λ_=>rfl))) (Ge (Gn (pv 0))) GA)
    (Gc (Jd (PW.pt (WK (Oa (Gw (Zg8 K rfl) rfl mAny YI (Ga (G7 (own:=["place"]) rfl (Gj (fr:=[("marks", 0)]) [(".0", .local),("place", .local),("is_loose", .globalImplicit),("marks", .cell)] rfl rfl (by decide +kernel) rfl (by decide +kernel) ⟨rfl,trivial⟩ ⟨λh=>GQ h,λh=>GQ h,λh=>GQ h,λ_=>⟨_,rfl⟩,trivial⟩ ⟨⟨rfl,.inl rfl,.inl rfl⟩,trivial⟩) (JL K (pv 1)) (λ_ _ _ _=>Gi (i:=0) (show List.Nodup (["place", "marks"]:List Str) by decide +kernel) rfl (Or.inl rfl)) (λ_ _ _ _=>GW) (λ_ _ _ _=>Gh GIl (hr.mono (by decide)) rfl mIl FIl.kp bIl .nil GN (Ga (Gx (J9 K) (pv 1) (pv 0) (λ_ _=>rfl)) Gd))) Gd))) (WJ (ON (Oa (Gw (Zf6 K rfl) rfl mAll UJ (Ga (G7 (own:=["place"]) rfl (Gj (fr:=[("marks", 0)]) [(".0", .local),("place", .local),("is_met", .globalImplicit),("marks", .cell)] rfl rfl (by decide +kernel) rfl (by decide +kernel) ⟨rfl,trivial⟩ ⟨λh=>GQ h,λh=>GQ h,λh=>GQ h,λ_=>⟨_,rfl⟩,trivial⟩ ⟨⟨rfl,.inl rfl,.inl rfl⟩,trivial⟩) (JL K (pv 2)) (λ_ _ _ _=>Gi (i:=0) (show List.Nodup (["place", "marks"]:List Str) by decide +kernel) rfl (Or.inl rfl)) (λ_ _ _ _=>GW) (λ_ _ _ _=>Gh GIm (hr.mono (by decide)) rfl mIm FIm.kp bIm .nil GN (Ga (Gx (J9 K) (pv 1) (pv 0) (λ_ _=>rfl)) Gd))) Gd))))))) (Ge (Gn JP)) GA)
    (Gc (Gp (i:=4) scLb.nd rfl (Or.inl rfl) (GR (VT K) rfl mLst Oc (Ga (pv 0) Gd)))
    (Gc (Jj PassesOwn.never rfl (JL K (pv 1)) (Gi (i:=3) scLb.nd rfl (Or.inl rfl))
    (Ge (J7 (GZ (v:=.int (-2)) rfl mFREE ⟨_,rfl⟩) (UX (pv 4) (pv 3) J0))))
    (Ge (Gn (GR (YJ K) rfl mTup Ot (Ga (pv 4) Gd))))))),?_⟩
  refine ⟨_,rfl,!(L.map V.int).isEmpty,.inl ⟨_,SqL.of ha,rfl⟩,?_⟩;show if (!!(L.map V.int).isEmpty)=true then _ else _
  rw [Bool.not_not,Xm];unfold Wt at qn qs;by_cases h0:L=[]
  ·rw [decide_eq_true h0];refine G5 ⟨_,rfl,?_⟩;rw [if_pos h0] at qs;exact qs m ms H (Same.refl _) hm rfl
  rw [decide_eq_false h0];refine Jw ?_;rw [if_neg h0] at qn qs;dsimp only [ZbI];refine Jg (λσ' H'=>σ'=[some (.ref m),some (.ref a),some (.ref b),none,none]/\Same H H'/\¬ ((L.any λp=>Jn (gA ms p))=true\/(N.all λp=>Ub (gA ms p))=false)) ?g2 ?g1
  case g1=>
   intro hk;refine ⟨_,rfl,a,rfl,⟨_,SqL.of ha⟩,λD hD=>?_⟩;refine GM (K:=K) (a:=a) (xs:=L.map V.int) (λi ys H2=>Same H H2/\H2 D=some (.lst ys)/\ys=((L.take i).map λp=>Jn (gA ms p)).map V.bl) ⟨Same.new hD,Gb,rfl⟩ (λi ys H2 _ ⟨s2,_⟩=>SqL.of (s2 _ _ ha)) ?_ ?_
   ·rintro i x ys H2 hxi ⟨s2,hD2,rfl⟩;have hi:i<(L.map V.int).length:=(List.getElem?_eq_some_iff.mp hxi).1;rw [List.length_map] at hi;rw [List.getElem?_map] at hxi;cases y:L[i]? with
    | none=>rw [y] at hxi;cases hxi
    | some p=>
     rw [y] at hxi;cases hxi;obtain ⟨p0,p1⟩:=lr p (List.mem_of_getElem? y);refine ⟨⟨rfl,trivial⟩,?_⟩;unfold Yi;refine G5 ?_;refine ⟨_,rfl,_,rfl,m,_,_,_,rfl,rfl,SqT.of (s2 _ _ hm),OH p0 p1,_,rfl,λH5 s5=>⟨s5 _ _ hD2,by rw [List.length_map,List.length_map,List.length_take];lia,(s2.trans s5).put hD,Gb,?_⟩⟩;rw [List.take_add_one,y,List.map_append,List.map_append]
     rfl
   rintro ys H2 ⟨s2,hD2,rfl⟩;rw [List.length_map,List.take_length] at hD2;refine ⟨D,_,rfl,SqL.of hD2,_,rfl,?_⟩;rw [List.any_map];by_cases z1:(L.any λp=>Jn (gA ms p))=true
   ·rw [show L.any (id∘λp=>Jn (gA ms p))=true from z1];exact G5 (G5 (qn _ s2 (by rw [if_pos (.inl z1)])))
   rw [show L.any (id∘λp=>Jn (gA ms p))=false from by cases y:(L.any λp=>Jn (gA ms p));exact y;exact absurd y z1];refine Jw ?_;refine ⟨_,rfl,b,rfl,⟨_,SqL.of (s2 _ _ hb)⟩,λD2 hD'=>?_⟩;refine GM (K:=K) (a:=b) (xs:=N.map V.int) (λi ys H3=>Same H2 H3/\H3 D2=some (.lst ys)/\ys=((N.take i).map λp=>Ub (gA ms p)).map V.bl) ⟨Same.new hD',Gb,rfl⟩ (λi ys H3 _ ⟨s3,_⟩=>SqL.of (s3 _ _ (s2 _ _ hb))) ?_ ?_
   ·rintro i x ys H3 hxi ⟨s3,hD3,rfl⟩;have hi:i<(N.map V.int).length:=(List.getElem?_eq_some_iff.mp hxi).1;rw [List.length_map] at hi;rw [List.getElem?_map] at hxi;cases y:N[i]? with
    | none=>rw [y] at hxi;cases hxi
    | some p=>
     rw [y] at hxi;cases hxi;obtain ⟨p0,p1⟩:=nr p (List.mem_of_getElem? y);refine ⟨⟨rfl,trivial⟩,?_⟩;unfold Yi;refine G5 ?_;refine ⟨_,rfl,_,rfl,m,_,_,_,rfl,rfl,SqT.of (s3 _ _ (s2 _ _ hm)),OH p0 p1,_,rfl,λH5 s5=>⟨s5 _ _ hD3,by rw [List.length_map,List.length_map,List.length_take];lia,(s3.trans s5).put hD',Gb,?_⟩⟩;rw [List.take_add_one,y,List.map_append,List.map_append]
     rfl
   rintro ys H3 ⟨s3,hD3,rfl⟩;rw [List.length_map,List.take_length] at hD3;refine ⟨D2,_,rfl,SqL.of hD3,_,rfl,?_⟩;rw [List.all_map];cases z2:(N.all λp=>Ub (gA ms p)) with
   | false=>
    rw [show N.all (id∘λp=>Ub (gA ms p))=false from z2];exact G5 (qn _ (s2.trans s3) (by rw [if_pos (.inr z2)]))
   | true=>
    rw [show N.all (id∘λp=>Ub (gA ms p))=true from z2];exact Jw (hk _ _ ⟨rfl,s2.trans s3,λy=>y.elim z1 (λy=>by rw [z2] at y;cases y)⟩)
  rintro σ' H1 ⟨rfl,s1,hno⟩;have hno':¬ ((L.any λp=>Jn (gA ms p))=true\/(N.all λp=>Ub (gA ms p))=false):=hno;rw [if_neg hno'] at qs;refine ⟨_,rfl,m,_,rfl,.inr (SqT.of (s1 _ _ hm)),λc hc=>?_⟩;have hc0:H c=none:=s1.free hc;have s2:=s1.put (o:=.lst (ms.map V.int)) hc0;have ha2:=s2 _ _ ha;have hac:a≠c:=Gm (s1 _ _ ha) hc;refine ⟨_,rfl,a,rfl,⟨_,SqL.of ha2⟩,?_⟩;refine JZ (K:=K) (a:=a) (xs:=L.map V.int) (λi σ H3=>∃v3:Option V,σ=[some (.ref m),some (.ref a),some (.ref b),v3,some (.ref c)]/\Same H H3/\H3 c=some (.lst (((L.take i).foldl (λm p=>m.set p.toNat (-2)) ms).map V.int))/\((L.take i).foldl (λm p=>m.set p.toNat (-2)) ms).length=ms.length) ⟨none,rfl,s2,Gb,rfl⟩ (λi σ H3 _ ⟨_,_,s3,_⟩=>SqL.of (s3 _ _ ha)) ?_ ?_
  ·rintro i x σ H3 hxi ⟨v3,rfl,s3,e3,l3⟩;rw [List.getElem?_map] at hxi;cases y:L[i]? with
   | none=>rw [y] at hxi;cases hxi
   | some p=>
    rw [y] at hxi;cases hxi;obtain ⟨p0,p1⟩:=lr p (List.mem_of_getElem? y);refine ⟨_,rfl,_,rfl,c,_,p,_,rfl,rfl,e3,Uw p0 (by rw [List.length_map,l3];lia),?_⟩;rw [map_set];refine ⟨_,rfl,s3.put hc0,?_,?_⟩
    ·rw [Gb,List.take_add_one,y,List.foldl_append]
     rfl
    ·rw [List.take_add_one,y,List.foldl_append];show (List.set _ _ _).length=_;rw [List.length_set,l3]
  ·rintro σ H3 ⟨v3,rfl,s3,e3,l3⟩;rw [List.length_map,List.take_length] at e3;refine ⟨_,rfl,c,_,rfl,.inl ⟨SqL.of e3,λT hT=>?_⟩⟩;exact qs T _ _ (s3.put (s3.free hT)) Gb rfl
structure StepAt (H:Hp)(x:V)(rs:List (Int×Int))(s t:Int)(j:Nat):Prop where
 ex:∃T r lv nd:AD,x=.ref T/\H T=some (.tup [.ref r,.ref lv,.ref nd])/\H r=some (.tup [.int (rs.getD j (0,0)).1,.int (rs.getD j (0,0)).2])/\H lv=some (.lst ((JX rs j).map V.int))/\H nd=some (.lst ((ZB s t (JX rs j)).map V.int))
theorem StepAt.same {H H':Hp}{x:V}{rs:List (Int×Int)}{s t:Int}{j:Nat}(h:StepAt H x rs s t j)(q:Same H H'):StepAt H' x rs s t j:=by
 obtain ⟨T,r,lv,nd,e,h1,h2,h3,h4⟩:=h.ex;exact ⟨T,r,lv,nd,e,q _ _ h1,q _ _ h2,q _ _ h3,q _ _ h4⟩
structure Zgx (rs:List (Int×Int))(j:Nat)(ms:LI):Prop where
 lt:j<rs.length
 rd:0<=(rs.getD j (0,0)).1/\(rs.getD j (0,0)).1<(rs.getD j (0,0)).2/\(rs.getD j (0,0)).2+1<(ms.length:Int)
 al:∀q∈ms,q+1<(ms.length:Int)
 le:ms.length<=1000
def Zgy:Sp:=λvs H Q _=>∃(m e:AD)(x:V)(ms:LI)(rs:List (Int×Int))(s t:Int)(j:Nat)(ch:Bool),vs=[.ref m,x,.ref e,.bl ch]/\H m=some (.tup (ms.map V.int))/\StepAt H x rs s t j/\EndD H e s t/\Zgx rs j ms /\
 (∀H':Hp,Same H H'->VJ rs s t ms j ch=none->Q .non H')/\(∀(T:AD)(m':LI)(H':Hp),Same H H'->H' T=some (.tup (m'.map V.int))->VJ rs s t ms j ch=some m'->Q (.ref T) H')
theorem scDe:Gk ["marks", "step", "ends", "chosen", "road", "leaving", "needed", "taken"] ["marks", "step", "ends", "chosen"] (Gf sDe):=⟨rfl,rfl,rfl,by decide +kernel,rfl,by decide +kernel,by decide +kernel⟩
theorem Zcx {rs:List (Int×Int)}{j:Nat}{n:Int}(h:0<=(rs.getD j (0,0)).1/\(rs.getD j (0,0)).1<(rs.getD j (0,0)).2/\(rs.getD j (0,0)).2+1<n):(∀p∈JX rs j,0<=p/\p<n)/\(JX rs j).length<=2:=by
 unfold JX;refine ⟨λp hp=>?_,List.length_filter_le _ _⟩;rcases List.mem_cons.mp (List.mem_filter.mp hp).1 with z | z
 ·lia
 ·rcases List.mem_cons.mp z with z | z
  ·lia
  ·cases z
theorem Zcy {s t:Int}{ms m':LI}{r:Int×Int}(h:Uc s t ms r=some m'):m'.length=ms.length:=by
 have l:∀x y,(pW1 ms r x y).length=ms.length:=λx y=>by
  unfold pW1;dsimp only;split <;> split <;> simp only [List.length_set]
 unfold Uc at h;split at h
 ·cases h
 ·split at h
  ·split at h
   ·cases h
   ·cases h;rw [List.length_set,l]
  ·cases h;exact l _ _
theorem Zgz {f fWr fLb:AD}{fd fdWr fdLb:FuncData}(F:Fun K "decided" "decided" sDe f fd)(FWr:Fun K "with_road" "with_road" sWr fWr fdWr)(bWr:Binds K fdWr ["marks", "road", "ends"] [])(mWr:mg "with_road" = some (.ref fWr))(GWr:GG P w K mg base CX0 2 fWr fdWr ["marks", "road", "ends"] Zha)(FLb:Fun K "left_behind" "left_behind" sLb fLb fdLb)(bLb:Binds K fdLb ["marks", "leaving", "needed"] [])(mLb:mg "left_behind" = some (.ref fLb))(GLb:GG P w K mg base CX0 2 fLb fdLb ["marks", "leaving", "needed"] Zgv):GG P w K mg base CX0 3 f fd ["marks", "step", "ends", "chosen"] Zgy:=by
 refine F.ok scDe (λvs H Q E h=>?_) (λcdv A outer s0 H vs Q E hr h=>?_)
 ·obtain ⟨_,_,_,_,_,_,_,_,_,rfl,_⟩:=h
  rfl
 ·obtain ⟨m,e,x,ms,rs,s,t,j,ch,rfl,hm,hs,he,ok,qn,qs⟩:=h;obtain ⟨T,r,lv,nd,rfl,h1,h2,h3,h4⟩:=hs.ex;obtain ⟨lr,ll⟩:=Zcx ok.rd;have nr:(ZB s t (JX rs j)).length<=2:=Nat.le_trans (List.length_filter_le _ _) ll;refine ⟨_,Gc (J7 (pv 1) (Z7 K (n:=3) rfl (Gv (Gi (i:=4) scDe.nd rfl (Or.inl rfl)) (Gv (Gi (i:=5) scDe.nd rfl (Or.inl rfl)) (Gv (Gi (i:=6) scDe.nd rfl (Or.inl rfl)) Jy)))))
    (Gc (Gp (i:=7) scDe.nd rfl (Or.inl rfl) (JY (Ju (pv 3) (λ_=>rfl)) (Gh GWr (hr.mono (by decide)) rfl mWr FWr.kp bWr .nil GN (Ga (pv 0) (Ga (pv 4) (Ga (pv 2) Gd)))) (pv 0)))
    (Ge (Gn (JY (Gr ZV (pv 7) JP (Gz _)) JP (Gh GLb (hr.mono (by decide)) rfl mLb FLb.kp bLb .nil GN (Ga (pv 7) (Ga (pv 5) (Ga (pv 6) Gd)))))))),?_⟩
  refine ⟨_,rfl,T,_,rfl,SqT.of h1,rfl,_,_,rfl,_,_,rfl,_,_,rfl,rfl,?_⟩
  try dsimp only [GL]
  unfold VJ at qn qs;have last:∀(T2:AD)(m2:LI)(H2:Hp),Same H H2->H2 T2=some (.tup (m2.map V.int))->m2.length=ms.length->(if ch=true then Uc s t ms (rs.getD j (0,0)) else some ms)=some m2 ->
    Zgv [.ref T2,.ref lv,.ref nd] H2 Q E0:=λT2 m2 H2 s2 e2 l2 em=>by
   rw [em] at qn qs;exact ⟨T2,lv,nd,m2,_,_,rfl,e2,s2 _ _ h3,s2 _ _ h4,by rw [l2];exact lr,λp hp=>by rw [l2];exact lr p (List.mem_filter.mp hp).1,by lia,by lia,by rw [l2];exact ok.le,λH' s' z=>qn H' (s2.trans s') z,λT' m' H' s' e' z=>qs T' m' H' (s2.trans s') e' z⟩
  refine Jg (λσ' H'=>∃v:V,σ'=[some (.ref m),some (.ref T),some (.ref e),some (.bl ch),some (.ref r),some (.ref lv),some (.ref nd),some v]/\Same H H'/\((v=.non/\(if ch=true then Uc s t ms (rs.getD j (0,0)) else some ms)=none)\/∃(T2:AD)(m2:LI),v=.ref T2/\H' T2=some (.tup (m2.map V.int))/\m2.length=ms.length/\(if ch=true then Uc s t ms (rs.getD j (0,0)) else some ms)=some m2)) ?g2 ?g1
  case g1=>
   intro hk;refine ⟨_,rfl,_,rfl,?_⟩;cases ch with
   | true=>
    refine G5 ?_;refine ⟨_,rfl,_,rfl,_,rfl,m,r,e,ms,_,_,s,t,rfl,hm,h2,he,ok.rd.1,ok.rd.2.1,ok.rd.2.2,ok.al,ok.le,λH' s' z=>?_,λT2 m2 H' s' _ e2 z=>?_⟩
    ·exact hk _ _ ⟨_,rfl,s',.inl ⟨rfl,by rw [if_pos rfl];exact z⟩⟩
    ·exact hk _ _ ⟨_,rfl,s',.inr ⟨T2,m2,rfl,e2,Zcy z,by rw [if_pos rfl];exact z⟩⟩
   | false=>
    refine Jw ?_;exact ⟨_,rfl,hk _ _ ⟨_,rfl,Same.refl _,.inr ⟨m,ms,rfl,hm,rfl,by rw [if_neg Bool.false_ne_true]⟩⟩⟩
  rintro σ' H' ⟨v,rfl,s',⟨rfl,z⟩ | ⟨T2,m2,rfl,e2,l2,z⟩⟩
  ·refine ⟨_,rfl,rfl,_,rfl,G5 ?_⟩;exact qn H' s' (by rw [z];rfl)
  ·refine ⟨_,rfl,rfl,_,rfl,?_⟩;rw [decide_eq_false (by intro z;cases z)];refine Jw ?_;exact ⟨_,rfl,_,rfl,_,rfl,last T2 m2 H' s' e2 l2 z⟩
end
end M
namespace M
open PySem L2
section
variable {P:PP}{w:Ab}{K:FF}{mg:Str->Option Aa}{base:Heap}
def LastD (H:Hp)(d:AD)(rs:List (Int×Int)):Prop:=∃kvs,H d=some (.dK kvs)/\∀x:Int,Od kvs (.inl x)=if 0<=Gq rs x then some (.int (Gq rs x)) else none
theorem LastD.same {H H':Hp}{d:AD}{rs:List (Int×Int)}(h:LastD H d rs)(q:Same H H'):LastD H' d rs:=h.imp λ_ z=>⟨q _ _ z.1,z.2⟩
def Zhb:Sp:=λvs H Q _=>∃(wb l:AD)(k:Int)(xs:List V)(rs:List (Int×Int)),vs=[.ref wb]/\WebAt H wb l k xs rs/\rs.length<=100/\∀(d:AD)(H':Hp),Same H H'->H d=none->LastD H' d rs->Q (.ref d) H'
theorem scLr:Gk ["web", "last", "number", "road"] ["web"] (Gf sLr):=⟨rfl,rfl,rfl,by decide +kernel,rfl,by decide +kernel,by decide +kernel⟩
theorem ZgA {f:AD}{fd:FuncData}(F:Fun K "last_roads" "last_roads" sLr f fd)(mEnum:mg "enumerate" = none):GG P w K mg base CX0 1 f fd ["web"] Zhb:=by
 refine F.ok scLr (λvs H Q E h=>?_) (λcdv A outer s0 H vs Q E hr h=>?_)
 ·obtain ⟨_,_,_,_,_,rfl,_⟩:=h
  rfl
 ·obtain ⟨wb,l,k,xs,rs,rfl,W,hx,q⟩:=h;have hu1:(A.deeper (PyProof.Rows.envOfC "last_roads" (Gf sLr) s0.heap.objs.size f cdv)).units+1<cLine:=by have:=hr.un;lia
  have h16:(16777216:Nat)=sizeLine:=sizeLine_eq.symm;have hxl:=W.p.len;refine ⟨_,Gc (Gp (i:=1) scLr.nd rfl (Or.inl rfl) ZbX)
    (Gc (Jj PassesOwn.never rfl (ZdF K rfl mEnum (Ga (Gx (J9 K) (pv 0) Gg (λ_ _=>rfl)) Gd)) (Z7 K (n:=2) rfl (Gv (Gi (i:=2) scLr.nd rfl (Or.inl rfl)) (Gv (Gi (i:=3) scLr.nd rfl (Or.inl rfl)) Jy)))
    (Gc (Um hu1 (pv 1) (Gx (J9 K) (pv 3) Gg (λ_ _=>rfl)) (pv 2) rfl)
    (Ge (Um hu1 (pv 1) (Gx (J9 K) (pv 3) Gg (λ_ _=>rfl)) (pv 2) rfl))))
    (Ge (Gn (pv 1)))),?_⟩
  refine λd hd=>?_;have s1:Same H (upd H d (.dK [])):=Same.new hd;refine ⟨_,rfl,wb,_,_,_,rfl,rfl,SqT.of (s1 _ _ W.w),Go (j:=1) rfl,l,xs,rfl,SqL.of (s1 _ _ W.l),?_⟩;refine V2 (K:=K) (a:=l) (xs:=xs) (λi σ H2=>∃(v2 v3:Option V)(kvs:List (Key×V)),σ=[some (.ref wb),some (.ref d),v2,v3]/\Same H H2/\H2 d=some (.dK kvs)/\kvs.length<=2 * i/\∀x:Int,Od kvs (.inl x)=if 0<=JT rs x i then some (.int (JT rs x i)) else none)
   ⟨none,none,[],rfl,s1,Gb,Nat.zero_le _,λx=>by unfold JT;rw [if_neg (by decide)];rfl⟩ (λi σ H2 _ ⟨_,_,_,_,s2,_⟩=>SqL.of (s2 _ _ W.l)) ?_ ?_
  ·rintro i x σ H2 T hxi ⟨v2,v3,kvs,rfl,s2,e2,len,val⟩ hT;obtain ⟨t,r,rfl,et,er⟩:=(W.same s2).p.get hxi;have hi:i<xs.length:=(List.getElem?_eq_some_iff.mp hxi).1;have s3:Same H (upd H2 T (.tup [.int (i:Nat),.ref t])):=s2.put (s2.free hT);have s23:Same H2 (upd H2 T (.tup [.int (i:Nat),.ref t])):=Same.new hT;have hdT:d≠T:=Gm e2 hT;have htd:t≠d:=G6 et e2 (λz=>by cases z);refine ⟨T,_,rfl,SqT.of Gb,rfl,_,_,rfl,_,_,rfl,rfl,?_⟩;refine ⟨_,rfl,_,rfl,_,rfl,t,_,_,_,rfl,rfl,SqT.of (s23 _ _ et),Go (j:=0) rfl,d,_,rfl,DPut.k (k:=Sum.inl r.1) (Gs e2 hdT) (by lia),?_⟩;have hl1:=JC kvs (Sum.inl r.1) (.int (i:Nat));refine ⟨_,rfl,_,rfl,_,rfl,t,_,_,_,rfl,rfl,SqT.of (Gs (s23 _ _ et) htd),Go (j:=1) rfl,d,_,rfl,DPut.k (k:=Sum.inl r.2) Gb (by lia),?_⟩;have hl2:=JC (putK kvs (Sum.inl r.1) (.int (i:Nat))) (Sum.inl r.2) (.int (i:Nat));refine ⟨_,_,_,rfl,((s3.put hd).put hd),Gb,by lia,λy=>?_⟩;rw [Yp,Yp,val y];have e:rs.getD i (0,0)=r:=by rw [List.getD_eq_getElem?_getD,er];rfl
   show _=if 0<=(if (rs.getD i (0,0)).1=y\/(rs.getD i (0,0)).2=y then (i:Int) else JT rs y i) then some (V.int (if (rs.getD i (0,0)).1=y\/(rs.getD i (0,0)).2=y then (i:Int) else JT rs y i)) else none
   rw [e];by_cases h2:y=r.2
   ·rw [if_pos (by rw [h2]),if_pos (show r.1=y\/r.2=y from .inr h2.symm),if_pos (by lia)]
   ·rw [if_neg (λz=>h2 (Sum.inl.inj z))];by_cases h1:y=r.1
    ·rw [if_pos (by rw [h1]),if_pos (show r.1=y\/r.2=y from .inl h1.symm),if_pos (by lia)]
    ·rw [if_neg (λz=>h1 (Sum.inl.inj z)),if_neg (show ¬ (r.1=y\/r.2=y) from λz=>z.elim (λz=>h1 z.symm) (λz=>h2 z.symm))]
  ·rintro σ H2 ⟨v2,v3,kvs,rfl,s2,e2,len,val⟩;rw [hxl] at val;exact ⟨_,rfl,q d H2 s2 hd ⟨kvs,e2,val⟩⟩
def ZgB:Sp:=λvs H Q _=>∃(wb l e:AD)(k:Int)(xs:List V)(rs:List (Int×Int))(s t:Int),vs=[.ref wb,.ref e]/\WebAt H wb l k xs rs/\rs.length<=100/\EndD H e s t/\∀(S:AD)(zs:List V)(H':Hp),Same H H'->H S=none->H' S=some (.lst zs)->zs.length=rs.length->(∀j x,zs[j]?=some x->StepAt H' x rs s t j)->Q (.ref S) H'
theorem scSo:Gk ["web", "needed", "last", "steps", "number", "road", "leaving"] ["web", "needed"] (Gf sSo):=⟨rfl,rfl,rfl,by decide +kernel,rfl,by decide +kernel,by decide +kernel⟩
structure StepsAt (H:Hp)(S:AD)(zs:List V)(rs:List (Int×Int))(s t:Int):Prop where
 st:∀j x,zs[j]?=some x->∃T r lv nd:AD,x=.ref T/\lv≠S/\nd≠S/\H T=some (.tup [.ref r,.ref lv,.ref nd])/\H r=some (.tup [.int (rs.getD j (0,0)).1,.int (rs.getD j (0,0)).2])/\H lv=some (.lst ((JX rs j).map V.int))/\H nd=some (.lst ((ZB s t (JX rs j)).map V.int))
theorem StepsAt.keep {H H':Hp}{S:AD}{zs ys:List V}{rs:List (Int×Int)}{s t:Int}(h:StepsAt H S zs rs s t)(eS:H S=some (.lst ys))(q:∀b o,b≠S->H b=some o->H' b=some o):StepsAt H' S zs rs s t:=⟨λj x hx=>by
 obtain ⟨T,r,lv,nd,e,n1,n2,h1,h2,h3,h4⟩:=h.st j x hx;exact ⟨T,r,lv,nd,e,n1,n2,q _ _ (G6 h1 eS (λz=>by cases z)) h1,q _ _ (G6 h2 eS (λz=>by cases z)) h2,q _ _ n1 h3,q _ _ n2 h4⟩⟩
theorem Za8 {s t p:Int}:(if p=s then some (V.int (-3)) else if p=t then some (V.int (-4)) else none).isSome=decide (p=s\/p=t):=by
 by_cases h1:p=s
 ·rw [if_pos h1,decide_eq_true (.inl h1)];rfl
 ·rw [if_neg h1];by_cases h2:p=t
  ·rw [if_pos h2,decide_eq_true (.inr h2)];rfl
  ·rw [if_neg h2,decide_eq_false (λz=>z.elim h1 h2)];rfl
theorem Xn {L:LI}{i:Nat}{p:Int}(f:Int->Bool)(h:L[i]?=some p):(L.take (i+1)).filter f=(L.take i).filter f++(if f p=true then [p] else []):=by
 rw [List.take_add_one,h,List.filter_append]
 congr 1
 show List.filter f [p]=_;rw [List.filter_cons];split <;> simp_all
theorem ZgC {f fLr:AD}{fd fdLr:FuncData}(F:Fun K "steps_of" "steps_of" sSo f fd)(FLr:Fun K "last_roads" "last_roads" sLr fLr fdLr)(bLr:Binds K fdLr ["web"] [])(mLr:mg "last_roads" = some (.ref fLr))(GLr:GG P w K mg base CX0 1 fLr fdLr ["web"] Zhb)(mEnum:mg "enumerate" = none):GG P w K mg base CX0 2 f fd ["web", "needed"] ZgB:=by
 refine F.ok scSo (λvs H Q E h=>?_) (λcdv A outer s0 H vs Q E hr h=>?_)
 ·obtain ⟨_,_,_,_,_,_,_,_,rfl,_⟩:=h
  rfl
 ·obtain ⟨wb,l,e,k,xs,rs,s,t,rfl,W,hx,he,q⟩:=h;have hu1:(A.deeper (PyProof.Rows.envOfC "steps_of" (Gf sSo) s0.heap.objs.size f cdv)).units+1<cLine:=by have:=hr.un;lia
  have h16:(16777216:Nat)=sizeLine:=sizeLine_eq.symm;have hxl:=W.p.len;refine ⟨_,Gc (Gp (i:=2) scSo.nd rfl (Or.inr rfl) (Gh GLr (hr.mono (by decide)) rfl mLr FLr.kp bLr .nil GN (Ga (pv 0) Gd)))
    (Gc (Gp (i:=3) scSo.nd rfl (Or.inl rfl) (GV Gd))
    (Gc (Jj PassesOwn.never rfl (ZdF K rfl mEnum (Ga (Gx (J9 K) (pv 0) Gg (λ_ _=>rfl)) Gd)) (Z7 K (n:=2) rfl (Gv (Gi (i:=4) scSo.nd rfl (Or.inr rfl)) (Gv (Gi (i:=5) scSo.nd rfl (Or.inl rfl)) Jy)))
    (Gc (Ul (i:=6) scSo.nd rfl (Or.inl rfl) (own:=["place"]) rfl (Gj (fr:=[("last", 2),("number", 4)]) [(".0", .local),("place", .local),("last", .cell),("number", .cell)] rfl rfl (by decide +kernel) rfl (by decide +kernel) ⟨rfl,rfl,trivial⟩ ⟨λh=>GQ h,λh=>GQ h,λ_=>⟨_,rfl⟩,λ_=>⟨_,rfl⟩,trivial⟩ ⟨⟨rfl,.inl rfl,.inl rfl⟩,⟨rfl,.inl rfl,.inl rfl⟩,trivial⟩) (ZdQ K (pv 5)) (λ_ _ _ _=>Gi (i:=0) (show List.Nodup (["place", "last", "number"]:List Str) by decide +kernel) rfl (Or.inl rfl)) (λ_ _ _ _=>J2 (Gr UB (VZ hu1 (pv 1) (pv 0) (λ_ _=>rfl)) (pv 2) (Gz _))) (λ_ _ _ _=>pv 0))
    (Ge (Jo (ZbN PySem.F.plainAttrs_list PySem.F.slot_list_append PySem.F.type_list_append OS (pv 3) (Ga (JH (Ga (pv 5) (Ga (pv 6) (Ga (G7 (own:=["place"]) rfl (Gj (fr:=[("needed", 1)]) [(".0", .local),("place", .local),("needed", .cell)] rfl rfl (by decide +kernel) rfl (by decide +kernel) ⟨rfl,trivial⟩ ⟨λh=>GQ h,λh=>GQ h,λ_=>⟨_,rfl⟩,trivial⟩ ⟨⟨rfl,.inl rfl,.inl rfl⟩,trivial⟩) (JL K (pv 6)) (λ_ _ _ _=>Gi (i:=0) (show List.Nodup (["place", "needed"]:List Str) by decide +kernel) rfl (Or.inl rfl)) (λ_ _ _ _=>J2 (ZcO (ZcZ hu1 (pv 0) (pv 1)) rfl)) (λ_ _ _ _=>pv 0)) Gd)))) Gd))))))
    (Ge (Gn (pv 3))))),?_⟩
  refine ⟨_,rfl,wb,l,k,xs,rs,rfl,W,hx,λd H1 s1 hd D1=>?_⟩;refine ⟨Nat.zero_le _,λS hS=>?_⟩;have hS0:=s1.free hS;have s2:=s1.put (o:=.lst []) hS0;refine ⟨_,rfl,wb,_,_,_,rfl,rfl,SqT.of (s2 _ _ W.w),Go (j:=1) rfl,l,xs,rfl,SqL.of (s2 _ _ W.l),?_⟩;refine V2 (K:=K) (a:=l) (xs:=xs) (λi σ H2=>∃(v4 v5 v6:Option V)(zs:List V),σ=[some (.ref wb),some (.ref e),some (.ref d),some (.ref S),v4,v5,v6]/\Same H H2/\LastD H2 d rs/\H2 S=some (.lst zs)/\zs.length=i/\StepsAt H2 S zs rs s t)
   ⟨none,none,none,[],rfl,s2,D1.same (Same.new hS),Gb,rfl,⟨λj x hx=>by simp at hx⟩⟩ (λi σ H2 _ ⟨_,_,_,_,_,s2,_⟩=>SqL.of (s2 _ _ W.l)) ?_ ?_
  ·rintro i x σ H2 T hxi ⟨v4,v5,v6,zs,rfl,s2,D2,e2,len,st⟩ hT;obtain ⟨t0,r,rfl,et,er⟩:=(W.same s2).p.get hxi;have er':rs.getD i (0,0)=r:=by rw [List.getD_eq_getElem?_getD,er];rfl
   have hi:i<xs.length:=(List.getElem?_eq_some_iff.mp hxi).1;have s23:Same H2 (upd H2 T (.tup [.int (i:Nat),.ref t0])):=Same.new hT;refine ⟨T,_,rfl,SqT.of Gb,rfl,_,_,rfl,_,_,rfl,rfl,?_⟩;generalize upd H2 T (.tup [.int (i:Nat),.ref t0])=H3 at s23 ⊢;have et3:=s23 _ _ et;have D3:=D2.same s23;refine ⟨_,rfl,t0,rfl,⟨_,SqT.of et3⟩,λD hD=>?_⟩;refine Zci (K:=K) (a:=t0) (xs:=[r.1,r.2].map V.int) (λn ys H4=>Same H3 H4/\H4 D=some (.lst ys)/\ys=(([r.1,r.2].take n).filter λp=>decide (Gq rs p=(i:Int))).map V.int) ⟨Same.new hD,Gb,rfl⟩ (λn ys H4 _ ⟨s4,_⟩=>SqT.of (s4 _ _ et3)) ?_ ?_
   ·rintro n x ys H4 hxn ⟨s4,hD4,rfl⟩;rw [List.getElem?_map] at hxn;cases y:[r.1,r.2][n]? with
    | none=>rw [y] at hxn;cases hxn
    | some p=>
     rw [y] at hxn;cases hxn;have hpr:r.1=p\/r.2=p:=by
      rcases List.mem_cons.mp (List.mem_of_getElem? y) with z | z
      ·exact .inl z.symm
      ·rcases List.mem_cons.mp z with z | z
       ·exact .inr z.symm
       ·cases z
     have hge:0<=Gq rs p:=by
      have:=OB (rs:=rs) (j:=i) (by lia) (p:=p) (by rw [er'];exact hpr)
      lia
     obtain ⟨kvs,ek,val⟩:=D3.same s4;have g:DGet H4 d (.int p) (some (.int (Gq rs p))):=by
      have:=DGet.k (k:=Sum.inl p) ek;rw [val p,if_pos hge] at this;exact this
     refine ⟨⟨rfl,rfl,trivial⟩,?_⟩;refine ⟨_,rfl,_,rfl,d,_,rfl,g,_,rfl,rfl,_,rfl,?_⟩;rw [G0,Xn _ y];refine WX (λz=>?_) (λz=>?_)
     ·rw [if_pos z];refine ⟨_,rfl,hD4,?_,s4.put hD,Gb,by rw [List.map_append];rfl⟩;rw [List.length_map];have:=List.length_filter_le (λp=>decide (Gq rs p=(i:Int))) ([r.1,r.2].take n);rw [List.length_take] at this;simp at this
      lia
     ·rw [if_neg z,List.append_nil];exact ⟨s4,hD4,rfl⟩
   rintro ys H4 ⟨s4,hD4,rfl⟩;have lve:(([r.1,r.2].take ([r.1,r.2].map V.int).length).filter λp=>decide (Gq rs p=(i:Int)))=JX rs i:=by
    unfold JX;rw [er']
    rfl
   rw [lve] at hD4;have ll:(JX rs i).length<=2:=by unfold JX;exact List.length_filter_le _ _
   have S4:=(s2.trans s23).trans s4;have e4:=(s23.trans s4) _ _ e2;have hDS:D≠S:=λz=>by rw [z] at hD;rw [s23 _ _ e2] at hD;cases hD
   have hD0:H D=none:=(s2.trans s23).free hD;refine ⟨_,rfl,.inl ⟨rfl,_,SqL.of e4⟩,_,rfl,_,rfl,_,rfl,D,rfl,⟨_,SqL.of hD4⟩,λN hN=>?_⟩;have hNS:N≠S:=λz=>by rw [z,e4] at hN;cases hN
   have hN0:H N=none:=S4.free hN;refine GM (K:=K) (a:=D) (xs:=(JX rs i).map V.int) (λn ys H5=>Same H4 H5/\H5 N=some (.lst ys)/\ys=(((JX rs i).take n).filter λp=>decide (p=s\/p=t)).map V.int) ⟨Same.new hN,Gb,rfl⟩ (λn ys H5 _ ⟨s5,_⟩=>SqL.of (s5 _ _ hD4)) ?_ ?_
   ·rintro n x ys H5 hxn ⟨s5,hN5,rfl⟩;rw [List.getElem?_map] at hxn;cases y:(JX rs i)[n]? with
    | none=>rw [y] at hxn;cases hxn
    | some p=>
     rw [y] at hxn;cases hxn;refine ⟨⟨rfl,trivial⟩,?_⟩;refine ⟨_,rfl,_,rfl,e,_,rfl,(he.same (S4.trans s5)).get p,_,rfl,?_⟩;rw [Za8,Xn _ y];refine WX (λz=>?_) (λz=>?_)
     ·rw [if_pos z];refine ⟨_,rfl,hN5,?_,s5.put hN,Gb,by rw [List.map_append];rfl⟩;rw [List.length_map];have:=List.length_filter_le (λp=>decide (p=s\/p=t)) ((JX rs i).take n);rw [List.length_take] at this
      lia
     ·rw [if_neg z,List.append_nil];exact ⟨s5,hN5,rfl⟩
   rintro ys H5 ⟨s5,hN5,rfl⟩;rw [List.length_map,List.take_length] at hN5;refine ⟨(by show 3<=sizeLine;decide),λB hB=>?_⟩;have e5:=s5 _ _ e4;have S5:=S4.trans s5;have hSB:S≠B:=Gm e5 hB;refine ⟨S,_,_,rfl,rfl,Gs e5 hSB,by lia,?_⟩;have dS:d≠S:=by
    obtain ⟨kvs,ek,_⟩:=D2;exact G6 ek e2 (λz=>by cases z)
   have up:∀(o:HO)(ys:HO) b u,b≠S->H5 b=some u->upd (upd H5 B o) S ys b=some u:=λo ys b u n z=>Gs (Gs z (Gm z hB)) n;refine ⟨_,_,_,zs++[.ref B],rfl,(S5.put (S5.free hB)).put hS0,?_,Gb,by rw [List.length_append,List.length_singleton,len],⟨λj x hx=>?_⟩⟩
   ·obtain ⟨kvs,ek,val⟩:=D3.same (s4.trans s5);exact ⟨kvs,up _ _ _ _ dS ek,val⟩
   ·rcases Nat.lt_or_ge j zs.length with hj | hj
    ·rw [List.getElem?_append_left hj] at hx;exact (((st.keep e2 λb o _ z=>(s23.trans (s4.trans s5)) b o z)).keep e5 (up _ _)).st j x hx
    ·rw [List.getElem?_append_right hj] at hx;have:j=zs.length:=by
      rcases Nat.lt_or_ge (j-zs.length) 1 with z | z
      ·lia
      ·rw [List.getElem?_eq_none (by simpa using z)] at hx;cases hx
     subst this;rw [Nat.sub_self] at hx;cases hx;rw [len,er'];refine ⟨B,t0,D,N,rfl,hDS,hNS,Gs Gb (Ne.symm hSB),?_,up _ _ _ _ hDS (s5 _ _ hD4),?_⟩
     ·exact up _ _ _ _ (G6 et3 (s23 _ _ e2) (λz=>by cases z)) ((s4.trans s5) _ _ et3)
     ·exact up _ _ _ _ hNS hN5
  ·rintro σ H2 ⟨v4,v5,v6,zs,rfl,s2,D2,e2,len,st⟩;refine ⟨_,rfl,q S zs H2 s2 hS0 e2 (by lia) λj x hx=>?_⟩;obtain ⟨T,r,lv,nd,e,n1,n2,h1,h2,h3,h4⟩:=st.st j x hx;exact ⟨T,r,lv,nd,e,h1,h2,h3,h4⟩
end
end M
namespace M
open PySem L2
section
variable {P:PP}{w:Ab}{K:FF}{mg:Str->Option Aa}{base:Heap}
theorem Za9 {rs:List (Int×Int)}{p:Int}:ZbE rs p=[]↔¬ 0<=Gq rs p:=by
 unfold ZbE;rw [List.map_eq_nil_iff,List.filter_eq_nil_iff];constructor
 ·intro h h0;obtain ⟨n,hn⟩:=Int.eq_ofNat_of_zero_le h0;have h1:=UR rs p rs.length n hn;have h2:n<rs.length:=by
   have:=(Ua rs p rs.length).2;have e:Gq rs p=JT rs p rs.length:=rfl
   lia
  refine h (rs.getD n (0,0)) ?_ (decide_eq_true h1);rw [List.getD_eq_getElem?_getD,List.getElem?_eq_getElem h2];exact List.getElem_mem h2
 ·intro h r hr z;obtain ⟨i,hi,e⟩:=List.getElem_of_mem hr;have:=OB (rs:=rs) (j:=i) hi (p:=p) (by rw [List.getD_eq_getElem?_getD,List.getElem?_eq_getElem hi,e];exact of_decide_eq_true z)
  lia
def FmAt (H:Hp)(F:AD)(o:Option (LI)):Prop:=∃ys,H F=some (.lst ys)/\((o=none/\ys=[])\/∃(T:AD)(m:LI),o=some m/\ys=[.ref T]/\H T=some (.tup (m.map V.int)))
theorem FmAt.same {H H':Hp}{F:AD}{o:Option (LI)}(h:FmAt H F o)(q:Same H H'):FmAt H' F o:=by
 obtain ⟨ys,e,h⟩:=h;refine ⟨ys,q _ _ e,h.imp_right ?_⟩;rintro ⟨T,m,h1,h2,h3⟩;exact ⟨T,m,h1,h2,q _ _ h3⟩
def ZgD:Sp:=λvs H Q _=>∃(wb l e:AD)(k:Nat)(xs:List V)(rs:List (Int×Int))(s t:Int),vs=[.ref wb,.ref e]/\WebAt H wb l (k:Int) xs rs/\GS (k:Int) rs/\EndD H e s t/\(0<=s/\s<(k:Int))/\(0<=t/\t<(k:Int))/\∀(F:AD)(H':Hp),Same H H'->H F=none->FmAt H' F (Jb rs k s t)->Q (.ref F) H'
theorem ZhT:Gk ["web", "needed"] ["web", "needed"] (Gf sFm):=⟨rfl,rfl,rfl,by decide +kernel,rfl,by decide +kernel,by decide +kernel⟩
theorem ZgE {f fBe C:AD}{fd fdBe:FuncData}(F:Fun K "first_marks" "first_marks" sFm f fd)(FBe:Fun K "beside" "beside" ZfH fBe fdBe)(bBe:Binds K fdBe ["web", "place"] [])(mBe:mg "beside" = some (.ref fBe))(GBe:GG P w K mg base (CXr P w) 3 fBe fdBe ["web", "place"] (Zfi C)){u2:Tok}(mFREE:mg "FREE" = some (.int (-2) u2))(mAll:mg "all" = none)(mTup:mg "tuple" = none):GG P w K mg base CX0 4 f fd ["web", "needed"] ZgD:=by
 refine F.ok ZhT (λvs H Q E h=>?_) (λcdv A outer s0 H vs Q E hr h=>?_)
 ·obtain ⟨_,_,_,_,_,_,_,_,rfl,_⟩:=h
  rfl
 ·obtain ⟨wb,l,e,k,xs,rs,s,t,rfl,W,g,he,hs,ht,q⟩:=h;have h16:(16777216:Nat)=sizeLine:=sizeLine_eq.symm;have hxl:=W.p.len;have g3:=g.2.2.1;have gk:=g.2.1;obtain ⟨hst,o,e1⟩:=id he;refine ⟨_,Gc (Jd (ON (Oa (Gw (Zge K rfl) rfl mAll UJ (Ga (G7 (own:=["place"]) rfl (Gj (fr:=[("web", 0)]) [(".0", .local),("place", .local),("beside", .globalImplicit),("web", .cell)] rfl rfl (by decide +kernel) rfl (by decide +kernel) ⟨rfl,trivial⟩ ⟨λh=>GQ h,λh=>GQ h,λh=>GQ h,λ_=>⟨_,rfl⟩,trivial⟩ ⟨⟨rfl,.inl rfl,.inl rfl⟩,trivial⟩) (Zcl (pv 1)) (λ_ _ _ _=>Gi (i:=0) (show List.Nodup (["place", "web"]:List Str) by decide +kernel) rfl (Or.inl rfl)) (λ_ _ _ _=>GW) (λ_ _ _ _=>Gh GBe (hr.mono (by decide)) rfl mBe FBe.kp bBe .nil Zd (Ga (pv 1) (Ga (pv 0) Gd)))) Gd)))) (Ge (Gn (GV Gd))) GA)
    (Ge (Gn (GV (Ga (GR (YJ K) rfl mTup Ot (Ga (GD ZcW (GV (Ga (GZ (v:=.int (-2)) rfl mFREE ⟨_,rfl⟩) Gd)) (GD Jk (Gx (J9 K) (pv 0) Gg (λ_ _=>rfl)) Gg)) Gd)) Gd)))),?_⟩
  refine ⟨_,rfl,e,o,Ww s t,rfl,e1,λD hD=>?_⟩;have heD:e≠D:=Gm e1 hD;refine Zs (a:=e) (o:=o) (kvs:=Ww s t) (λi ys H2=>Same H H2/\H2 D=some (.lst ys)/\∃zs:List (AD×List V),ys=zs.map (λz=>V.ref z.1)/\zs.length=i/\(∀z∈zs,z.1≠D/\H2 z.1=some (.lst z.2))/\zs.map (λz=>z.2.isEmpty)=([s,t].take i).map λp=>decide (¬ 0<=Gq rs p)) ⟨Same.new hD,Gb,[],rfl,rfl,λz hz=>(by cases hz),rfl⟩ (λi ys H2 _ ⟨s2,_⟩=>s2 _ _ e1) ?_ ?_
  ·rintro i key v ys H2 hkv ⟨s2,hD2,zs,rfl,zl,zh,ze⟩;have hi:i<2:=(List.getElem?_eq_some_iff.mp hkv).1;obtain ⟨p,hp,rfl,pr⟩:∃p,[s,t][i]?=some p/\key=Sum.inl p/\0<=p/\p<(k:Int):=by
    match i,hi,hkv with
    | 0,_,z=>cases z;exact ⟨s,rfl,rfl,hs.1,hs.2⟩
    | 1,_,z=>cases z;exact ⟨t,rfl,rfl,ht.1,ht.2⟩
   refine ⟨⟨rfl,trivial⟩,?_⟩;unfold Yi;refine G5 ?_;refine ⟨_,rfl,_,rfl,wb,l,(k:Int),p,xs,rs,rfl,W.same s2,by lia,.inl ⟨⟨pr.1,pr.2⟩,λr ns H3 s3 hr3 er3 pm so=>?_⟩⟩;have hrD:r≠D:=λz=>by rw [z,hD2] at hr3;cases hr3
   refine ⟨s3 _ _ hD2,by rw [List.length_map];lia,(s2.trans s3).put hD,Gb,zs++[(r,ns.map V.int)],by rw [List.map_append];rfl,by rw [List.length_append,zl];rfl,λz hz=>?_,?_⟩
   ·rcases List.mem_append.mp hz with y | y
    ·obtain ⟨n1,n2⟩:=zh z y;exact ⟨n1,Gs (s3 _ _ n2) n1⟩
    ·rw [List.mem_singleton] at y;subst y;exact ⟨hrD,Gs er3 hrD⟩
   ·rw [List.map_append,ze,List.take_add_one,hp,List.map_append]
    congr 1
    show [(ns.map V.int).isEmpty]=[decide (¬ 0<=Gq rs p)]
    congr 1
    rw [Xm];refine decide_eq_decide.mpr ?_;rw [<-Za9];constructor
    ·intro z;subst z;exact List.Perm.nil_eq pm |>.symm
    ·intro z;rw [z] at pm;exact pm.eq_nil
  rintro ys H2 ⟨s2,hD2,zs,rfl,zl,zh,ze⟩;refine ⟨D,zs,rfl,SqL.of hD2,λz hz=>SqL.of (zh z hz).2,_,rfl,?_⟩;have ea:(zs.all λz=>!z.2.isEmpty)=decide (0<=Gq rs s/\0<=Gq rs t):=by
   have e2:(zs.all λz=>!z.2.isEmpty)=(zs.map λz=>z.2.isEmpty).all (λb=>!b):=by rw [List.all_map];rfl
   rw [e2,ze];show (!decide (¬ 0<=Gq rs s) && (!decide (¬ 0<=Gq rs t) && true))=_;by_cases h1:0<=Gq rs s <;> by_cases h2:0<=Gq rs t <;> simp [h1,h2]
  rw [ea];by_cases hB:0<=Gq rs s/\0<=Gq rs t
  ·rw [decide_eq_true hB];refine Jw ?_;have W2:=W.same s2;refine ⟨Nat.le_of_lt (by show 1<sizeLine;lia),λo1 ho1=>?_⟩;have s3:=s2.put (o:=.lst [V.int (-2)]) (s2.free ho1);have W3:=W.same s3;refine ⟨_,rfl,wb,_,_,_,rfl,rfl,SqT.of W3.w,Go (j:=0) rfl,_,_,rfl,rfl,o1,_,_,rfl,rfl,Gb,by lia,by lia,(by show 1 * _<=_;lia),λl2 hl2=>?_⟩;refine ⟨l2,_,rfl,.inl ⟨SqL.of Gb,λT hT=>?_⟩⟩;refine ⟨Nat.le_of_lt (by show 1<sizeLine;lia),λG hG=>?_⟩;have s4:=s3.put (o:=.lst (List.replicate ((k:Int)+1).toNat [V.int (-2)]).flatten) (s3.free hl2);have s5:=s4.put (o:=.tup (List.replicate ((k:Int)+1).toNat [V.int (-2)]).flatten) (s4.free hT);have hTG:T≠G:=λz=>by rw [<-z,Gb] at hG;cases hG
   refine q G _ (s5.put (s5.free hG)) (s5.free hG) ⟨[.ref T],Gb,.inr ⟨T,List.replicate (k+1) (-2),?_,rfl,Gs ?_ hTG⟩⟩
   ·unfold Jb;rw [if_pos hB]
   ·rw [Gb]
    congr 2
    have:∀n:Nat,(List.replicate n [V.int (-2)]).flatten=(List.replicate n (-2:Int)).map V.int:=λn=>by
     induction n with
     | zero=>rfl
     | succ n ih=>rw [List.replicate_succ,List.flatten_cons,ih,List.replicate_succ];rfl
    rw [this,show ((k:Int)+1).toNat=k+1 by lia]
  ·rw [decide_eq_false hB];refine G5 ⟨Nat.zero_le _,λG hG=>?_⟩;refine q G _ (s2.put (s2.free hG)) (s2.free hG) ⟨[],Gb,.inl ⟨?_,rfl⟩⟩;unfold Jb;rw [if_neg hB]
def Valid (c:LI)(n:Nat):Prop:=c.Pairwise (· < ·)/\∀q∈c,0<=q/\q<(n:Int)
def UF (c:LI)(j:Nat):LI:=((List.range j).map λi=>((i:Nat):Int)).filter λi=>decide (i∈c)
theorem VL (c:LI)(j:Nat):UF c (j+1)=UF c j++(if (j:Int)∈c then [(j:Int)] else []):=by
 unfold UF;rw [List.range_succ,List.map_append,List.filter_append]
 congr 1
 show List.filter _ [(j:Int)]=_;rw [List.filter_cons];by_cases z:(j:Int)∈c
 ·rw [if_pos (decide_eq_true z),if_pos z];rfl
 ·rw [if_neg (by rw [decide_eq_true_eq];exact z),if_neg z];rfl
theorem Xo {c:LI}(h:c.Pairwise (· < ·))(h0:∀q∈c,0<=q):∀j:Nat,UF c j=Vj c j
 | 0=>by
  have:Vj c 0=[]:=List.filter_eq_nil_iff.mpr λq hq=>by
   have:=h0 q hq;rw [decide_eq_true_eq]
   lia
  rw [this]
  rfl
 | j+1=>by rw [VL,Xo h h0 j,Ud h j]
theorem Zcz (c:LI)(n:Nat):Valid (UF c n) n:=by
 unfold UF Valid;refine ⟨List.Pairwise.filter _ (List.pairwise_map.mpr (List.pairwise_lt_range.imp λh=>by lia)),λq hq=>?_⟩;obtain ⟨i,hi,rfl⟩:=List.mem_map.mp (List.mem_filter.mp hq).1;have:=List.mem_range.mp hi
 lia
theorem Zba (c:LI)(n:Nat):(UF c n).length<=n:=by
 unfold UF;refine Nat.le_trans (List.length_filter_le _ _) ?_;rw [List.length_map,List.length_range];exact Nat.le_refl _
theorem valid_iff {c:LI}{n:Nat}:c=UF c n↔Valid c n:=by
 constructor
 ·intro h;rw [h];exact Zcz c n
 ·intro h;rw [Xo h.1 (λq hq=>(h.2 q hq).1),Wv λq hq=>(h.2 q hq).2]
theorem YO {rs:List (Int×Int)}{k j:Nat}{s t:Int}{c m:LI}(h:XZ rs k s t j c m)(hj:j<rs.length)(hr:∀r∈rs,0<=r.1/\r.1<r.2/\r.2<(k:Int))(hk:k<=16)(k1:1<=k)(hc:∀q∈c,0<=q/\q<(rs.length:Int)):Zgx rs j m:=by
 obtain ⟨lab,hl,hb,mate,M,mk⟩:=h;have rg:=On hr c hc;have hrd:=hr (rs.getD j (0,0)) (by rw [List.getD_eq_getElem?_getD,List.getElem?_eq_getElem hj];exact List.getElem_mem hj);have ml:=mk.len;refine ⟨hj,⟨hrd.1,hrd.2.1,by lia⟩,λq hq=>?_,by lia⟩;obtain ⟨i,hi,rfl⟩:=List.getElem_of_mem hq;have ge:m.getD i 0=m[i]:=by rw [List.getD_eq_getElem?_getD,List.getElem?_eq_getElem hi];rfl
 rcases (show i<k\/i=k by lia) with z | z
 ·have:=mk.at_ (i:Int) (by lia) (by lia);unfold gA at this;rw [Int.toNat_natCast,ge] at this;rw [this,ml];unfold Wu;split
  ·lia
  ·split
   ·lia
   ·split
    ·lia
    ·rename_i h1 h2 h3;have d1:degF rs c (i:Int)=1:=by
      have:=hb.two (i:Int)
      lia
     have:=rg (mate (i:Int)) (by rw [(M.m _ d1).1];decide);rcases GF s t (mate (i:Int)) with ⟨_,e⟩ | ⟨_,_,e⟩ | ⟨_,_,e⟩ <;> lia
 ·subst z;rw [<-ge,mk.dn,ml];split <;> lia
end
end M
namespace M
open PySem L2
section
variable {P:PP}{w:Ab}{K:FF}{mg:Str->Option Aa}{base:Heap}
def ZgF (K:FF):Sp:=λvs H Q _=>∃(wb l e ro:AD)(k n:Nat)(xs:List V)(rs:List (Int×Int))(s t:Int)(c:LI),vs=[.ref wb,.ref e,.int (n:Int),.ref ro]/\WebAt H wb l (k:Int) xs rs/\GS (k:Int) rs/\EndD H e s t/\(0<=s/\s<(k:Int))/\(0<=t/\t<(k:Int))/\n<=rs.length/\SqL K H ro (c.map V.int) /\
 (∀H':Hp,Same H H'->(¬ Valid c n\/(Valid c n/\G4 rs k s t c n=none))->Q .non H')/\(∀(T:AD)(m:LI)(H':Hp),Same H H'->H' T=some (.tup (m.map V.int))->Valid c n->G4 rs k s t c n=some m->Q (.ref T) H')
theorem scMb:Gk ["web", "ends", "i", "roads", "number", "known", "step", "ahead"] ["web", "ends", "i", "roads"] (Gf sMb):=⟨rfl,rfl,rfl,by decide +kernel,rfl,by decide +kernel,by decide +kernel⟩
theorem ZgG {f fFm fSo fDe:AD}{fd fdFm fdSo fdDe:FuncData}(F:Fun K "marks_behind" "marks_behind" sMb f fd)(FFm:Fun K "first_marks" "first_marks" sFm fFm fdFm)(bFm:Binds K fdFm ["web", "needed"] [])(mFm:mg "first_marks" = some (.ref fFm))(GFm:GG P w K mg base CX0 4 fFm fdFm ["web", "needed"] ZgD)(FSo:Fun K "steps_of" "steps_of" sSo fSo fdSo)(bSo:Binds K fdSo ["web", "needed"] [])(mSo:mg "steps_of" = some (.ref fSo))(GSo:GG P w K mg base CX0 2 fSo fdSo ["web", "needed"] ZgB)(FDe:Fun K "decided" "decided" sDe fDe fdDe)(bDe:Binds K fdDe ["marks", "step", "ends", "chosen"] [])(mDe:mg "decided" = some (.ref fDe))(GDe:GG P w K mg base CX0 3 fDe fdDe ["marks", "step", "ends", "chosen"] Zgy)(mEnum:mg "enumerate" = none)(mRange:mg "range" = none):GG P w K mg base CX0 5 f fd ["web", "ends", "i", "roads"] (ZgF K):=by
 refine F.ok scMb (λvs H Q E h=>?_) (λcdv A outer s0 H vs Q E hr h=>?_)
 ·obtain ⟨_,_,_,_,_,_,_,_,_,_,_,rfl,_⟩:=h
  rfl
 ·obtain ⟨wb,l,e,ro,k,n,xs,rs,s,t,c,rfl,W,g,he,hs,ht,hn,hc,qn,qs⟩:=h;have hu:=hr.units;have h16:(16777216:Nat)=sizeLine:=sizeLine_eq.symm;have hxl:=W.p.len;have g1:=g.1;have gk:=g.2.1;have g3:=g.2.2.1;have hr':=g.2.2.2.1;have hst:=he.1;refine ⟨_,Gc (Jd (Gr (ZfD K hu) (pv 3) (G7 (own:=["number"]) rfl (Gj (fr:=[("roads", 3)]) [(".0", .local),("number", .local),("roads", .cell)] rfl rfl (by decide +kernel) rfl (by decide +kernel) ⟨rfl,trivial⟩ ⟨λh=>GQ h,λh=>GQ h,λ_=>⟨_,rfl⟩,trivial⟩ ⟨⟨rfl,.inl rfl,.inl rfl⟩,trivial⟩) (OO rfl mRange (Ga (pv 2) Gd)) (λ_ _ _ _=>Gi (i:=0) (show List.Nodup (["number", "roads"]:List Str) by decide +kernel) rfl (Or.inl rfl)) (λ_ _ _ _=>J2 (Gr (kIn K) (pv 0) (pv 1) (by with_unfolding_all rfl))) (λ_ _ _ _=>pv 0)) (Gz _)) (Ge (Gn JP)) GA)
    (Gc (Gp (i:=5) scMb.nd rfl (Or.inl rfl) (Gh GFm (hr.mono (by decide)) rfl mFm FFm.kp bFm .nil GN (Ga (pv 0) (Ga (pv 1) Gd))))
    (Gc (Jj PassesOwn.never rfl (ZdF K rfl mEnum (Ga (OQ (kSl K) (Gh GSo (hr.mono (by decide)) rfl mSo FSo.kp bSo .nil GN (Ga (pv 0) (Ga (pv 1) Gd))) U0 (U1 (pv 2))) Gd)) (Z7 K (n:=2) rfl (Gv (Gi (i:=4) scMb.nd rfl (Or.inr rfl)) (Gv (Gi (i:=6) scMb.nd rfl (Or.inr rfl)) Jy)))
    (Gc (Ul (i:=7) scMb.nd rfl (Or.inl rfl) (own:=["marks"]) rfl (Gj (fr:=[("ends", 1),("roads", 3),("number", 4),("step", 6)]) [(".0", .local),("marks", .local),("decided", .globalImplicit),("ends", .cell),("number", .cell),("roads", .cell),("step", .cell)] rfl rfl (by decide +kernel) rfl (by decide +kernel) ⟨rfl,rfl,rfl,rfl,trivial⟩ ⟨λh=>GQ h,λh=>GQ h,λh=>GQ h,λ_=>⟨_,rfl⟩,λ_=>⟨_,rfl⟩,λ_=>⟨_,rfl⟩,λ_=>⟨_,rfl⟩,trivial⟩ ⟨⟨rfl,.inl rfl,.inl rfl⟩,⟨rfl,.inl rfl,.inl rfl⟩,⟨rfl,.inl rfl,.inl rfl⟩,⟨rfl,.inl rfl,.inl rfl⟩,trivial⟩) (JL K (pv 5)) (λ_ _ _ _=>Gi (i:=0) (show List.Nodup (["marks", "ends", "roads", "number", "step"]:List Str) by decide +kernel) rfl (Or.inl rfl)) (λ_ _ _ _=>GW) (λ_ _ _ _=>Gh GDe (hr.mono (by decide)) rfl mDe FDe.kp bDe .nil GN (Ga (pv 0) (Ga (pv 4) (Ga (pv 1) (Ga (Jf (kIn K) (pv 3) (pv 2) (by with_unfolding_all rfl)) Gd))))))
    (Ge (Ul (i:=5) scMb.nd rfl (Or.inl rfl) (own:=["marks"]) rfl (G8 (by decide +kernel) (by decide +kernel) rfl (by decide +kernel)) (JL K (pv 7)) (λ_ _ _ _=>Gi (i:=0) (show List.Nodup (["marks"]:List Str) by decide +kernel) rfl (Or.inl rfl)) (λ_ _ _ _=>J2 (Gr XB (pv 0) JP (Gz _))) (λ_ _ _ _=>pv 0)))))
    (Ge (Gn (JY (Ju (pv 5) (λ_=>rfl)) (Gx (U4 K) (pv 5) Gg (λ_ _=>rfl)) JP))))),?_⟩
  try dsimp only [GL]
  refine Jg (λσ' H'=>σ'=[some (.ref wb),some (.ref e),some (.int (n:Int)),some (.ref ro),none,none,none,none]/\Same H H'/\Valid c n) ?g2 ?g1
  case g1=>
   intro hk;refine ⟨_,rfl,_,rfl,_,rfl,by lia,by lia,λD hD=>?_⟩;rw [Int.toNat_natCast];refine VA (lo:=0) (n:=n) (λj ys H2=>Same H H2/\H2 D=some (.lst ys)/\ys=(UF c j).map V.int) ⟨Same.new hD,Gb,rfl⟩ ?_ ?_
   ·rintro j ys H2 hj ⟨s2,hD2,rfl⟩;rw [Int.zero_add];refine ⟨⟨rfl,trivial⟩,?_⟩;refine ⟨_,rfl,_,rfl,ro,_,rfl,.inl (s2.seq hc),rfl,Ol _,_,rfl,?_⟩;show if inV (.int (j:Int)) (c.map V.int)=true then _ else _
    rw [Oz,VL];refine WX (λz=>?_) (λz=>?_)
    ·rw [if_pos (of_decide_eq_true z)];have:=Zba c j;exact ⟨_,rfl,hD2,by rw [List.length_map];lia,s2.put hD,Gb,by rw [List.map_append];rfl⟩
    ·rw [if_neg (λy=>z (decide_eq_true y)),List.append_nil];exact ⟨s2,hD2,rfl⟩
   rintro ys H2 ⟨s2,hD2,rfl⟩;refine ⟨.list (c.map PyData.int),.list ((UF c n).map PyData.int),.lst (s2.seq hc) (G9 _),.lst (SqL.of hD2) (G9 _),JB _,JB _,_,rfl,?_⟩;rw [OV];by_cases z:c=UF c n
   ·rw [decide_eq_true z];exact Jw (hk _ _ ⟨rfl,s2,valid_iff.mp z⟩)
   ·rw [decide_eq_false z];exact G5 (qn _ s2 (.inl λy=>z (valid_iff.mpr y)))
  rintro σ' H1 ⟨rfl,s1,Va⟩;have hc':∀q∈c,0<=q/\q<(rs.length:Int):=λq hq=>by have:=Va.2 q hq;lia
  have run:=Za7 hst hs.1 hs.2 ht.1 ht.2 hr' hc' Va.1;refine ⟨_,rfl,_,rfl,wb,l,e,k,xs,rs,s,t,rfl,W.same s1,g,he.same s1,hs,ht,λF0 H2 s2 hF0 F2=>?_⟩;have S2:=s1.trans s2;refine ⟨_,rfl,_,rfl,wb,l,e,(k:Int),xs,rs,s,t,rfl,W.same S2,by lia,he.same S2,λS zs H3 s3 hS eS zl st=>?_⟩;have S3:=S2.trans s3;refine ⟨_,rfl,_,rfl,S,_,rfl,SqL.of eS,λc2 hc2=>?_⟩;have s4:Same H3 (upd H3 c2 (.lst (UC zs none (some (n:Int))))):=Same.new hc2;have e4:upd H3 c2 (.lst (UC zs none (some (n:Int)))) c2=some (.lst (zs.take n)):=by rw [Gb,Z9]
  generalize upd H3 c2 (.lst (UC zs none (some (n:Int))))=H4 at s4 e4 ⊢;have S4:=S3.trans s4;have tl:(zs.take n).length=n:=by rw [List.length_take];lia
  refine ⟨c2,_,rfl,SqL.of e4,?_⟩;refine V2 (K:=K) (a:=c2) (xs:=zs.take n) (λi σ H5=>∃(v4 v6 v7:Option V)(kn:AD),σ=[some (.ref wb),some (.ref e),some (.int (n:Int)),some (.ref ro),v4,some (.ref kn),v6,v7]/\Same H4 H5/\FmAt H5 kn (G4 rs k s t c i))
   ⟨none,none,none,F0,rfl,Same.refl _,(F2.same s3).same s4⟩ (λi σ H5 _ ⟨_,_,_,_,_,s5,_⟩=>SqL.of (s5 _ _ e4)) ?_ ?_
  ·rintro i x σ H5 T hxi ⟨v4,v6,v7,kn,rfl,s5,F5⟩ hT;have hi:i<n:=by
    have:=(List.getElem?_eq_some_iff.mp hxi).1
    lia
   have hxz:zs[i]?=some x:=by
    rw [List.getElem?_take,if_pos hi] at hxi;exact hxi
   have s6:Same H5 (upd H5 T (.tup [.int (i:Nat),x])):=Same.new hT;refine ⟨T,_,rfl,SqT.of Gb,rfl,_,_,rfl,_,_,rfl,rfl,?_⟩;generalize upd H5 T (.tup [.int (i:Nat),x])=H6 at s6 ⊢;have F6:=F5.same s6;have S6:=(S4.trans s5).trans s6;have stx:=(st i x hxz).same ((s4.trans s5).trans s6);obtain ⟨ys,eys,hys⟩:=F6;refine ⟨_,rfl,kn,rfl,⟨_,SqL.of eys⟩,λD hD=>?_⟩;refine GM (K:=K) (a:=kn) (xs:=ys) (λj zs H7=>Same H6 H7/\H7 D=some (.lst zs)/\zs.length=j/\j<=1/\(j=1->∃v,zs=[v]/\((v=.non/\G4 rs k s t c (i+1)=none)\/∃(T:AD)(m:LI),v=.ref T/\H7 T=some (.tup (m.map V.int))/\G4 rs k s t c (i+1)=some m))) ⟨Same.new hD,Gb,rfl,by decide,λz=>by cases z⟩ (λj zs H7 _ ⟨s7,_⟩=>SqL.of (s7 _ _ eys)) ?_ ?_
   ·rintro j x1 zs1 H7 hxj ⟨s7,hD7,zl1,_,_⟩;rcases hys with ⟨_,rfl⟩ | ⟨T1,m1,em,rfl,eT⟩
    ·simp at hxj
    have j0:j=0:=by
     have:=(List.getElem?_eq_some_iff.mp hxj).1;simp at this;exact this
    subst j0;cases hxj;have hzs:zs1=[]:=List.eq_nil_of_length_eq_zero zl1;subst hzs;have al:XZ rs k s t i (Vj c i) m1:=by
     rcases run i (by lia) with ⟨m2,e2,al⟩ | ⟨e2,_⟩
     ·rw [em] at e2;cases e2;exact al
     ·rw [em] at e2;cases e2
    have ok:=YO al (by lia) hr' (by lia) (by lia) (λq hq=>hc' q (YN hq).1);have next:G4 rs k s t c (i+1)=VJ rs s t m1 i (decide ((i:Int)∈c)):=by
     show (G4 rs k s t c i).bind _=_;rw [em]
     rfl
    refine ⟨⟨rfl,rfl,rfl,rfl,trivial⟩,?_⟩;unfold Yi;refine G5 ?_;refine ⟨_,rfl,_,rfl,_,rfl,_,rfl,_,rfl,ro,_,rfl,.inl ((S6.trans s7).seq hc),rfl,Ol _,?_⟩;refine ⟨T1,e,x,m1,rs,s,t,i,inV (.int (i:Int)) (c.map V.int),rfl,s7 _ _ eT,stx.same s7,he.same (S6.trans s7),ok,λH8 s8 z=>?_,λT2 m2 H8 s8 e8 z=>?_⟩
    ·rw [Oz] at z;refine ⟨s8 _ _ hD7,by show 0<sizeLine;lia,(s7.trans s8).put hD,Gb,rfl,Nat.le_refl _,λ_=>⟨_,rfl,.inl ⟨rfl,next.trans z⟩⟩⟩
    ·rw [Oz] at z;have hTD:T2≠D:=G6 e8 (s8 _ _ hD7) (λz=>by cases z);refine ⟨s8 _ _ hD7,by show 0<sizeLine;lia,(s7.trans s8).put hD,Gb,rfl,Nat.le_refl _,λ_=>⟨_,rfl,.inr ⟨T2,m2,rfl,Gs e8 hTD,next.trans z⟩⟩⟩
   rintro zs1 H7 ⟨s7,hD7,zl1,_,hz1⟩;have hD6:=hD7;refine ⟨_,rfl,D,rfl,⟨_,SqL.of hD7⟩,λD2 hD2=>?_⟩;have key:(G4 rs k s t c (i+1)=none/\∀v∈zs1,v=.non)\/∃(T:AD)(m:LI),zs1=[.ref T]/\H7 T=some (.tup (m.map V.int))/\G4 rs k s t c (i+1)=some m:=by
    rcases hys with ⟨e0,rfl⟩ | ⟨T1,m1,em,rfl,eT⟩
    ·have:zs1=[]:=List.eq_nil_of_length_eq_zero zl1;subst this;refine .inl ⟨?_,λv hv=>by cases hv⟩;show (G4 rs k s t c i).bind _=_;rw [e0]
     rfl
    ·obtain ⟨v,rfl,h⟩:=hz1 rfl;rcases h with ⟨rfl,z⟩ | ⟨T2,m2,rfl,z1,z2⟩
     ·exact .inl ⟨z,λv hv=>List.mem_singleton.mp hv⟩
     ·exact .inr ⟨T2,m2,rfl,z1,z2⟩
   refine GM (K:=K) (a:=D) (xs:=zs1) (λj zs H8=>Same H7 H8/\H8 D2=some (.lst zs)/\zs=(zs1.take j).filter λv=>!decide (v=V.non)) ⟨Same.new hD2,Gb,rfl⟩ (λj zs H8 _ ⟨s8,_⟩=>SqL.of (s8 _ _ hD7)) ?_ ?_
   ·rintro j x1 zs2 H8 hxj ⟨s8,hD8,rfl⟩;have hj:j<zs1.length:=(List.getElem?_eq_some_iff.mp hxj).1;refine ⟨trivial,?_⟩;refine ⟨_,rfl,rfl,_,rfl,?_⟩;have ef:(zs1.take (j+1)).filter (λv=>!decide (v=V.non))=(zs1.take j).filter (λv=>!decide (v=V.non))++(if (!decide (x1=V.non))=true then [x1] else []):=by
     rw [List.take_add_one,hxj,List.filter_append]
     congr 1
     show List.filter _ [x1]=_;rw [List.filter_cons];split <;> simp_all
    rw [ef];refine WX (λz=>?_) (λz=>?_)
    ·rw [if_pos z];have:=List.length_filter_le (λv=>!decide (v=V.non)) (zs1.take j);rw [List.length_take] at this;have zl2:zs1.length<=1:=by
      rcases key with ⟨_,_⟩ | ⟨_,_,rfl,_⟩
      ·rcases hys with ⟨_,rfl⟩ | ⟨_,_,_,rfl,_⟩
       ·rw [zl1];exact Nat.zero_le _
       ·rw [zl1];exact Nat.le_refl _
      ·exact Nat.le_refl _
     exact ⟨_,rfl,hD8,by lia,s8.put hD2,Gb,rfl⟩
    ·rw [if_neg z,List.append_nil];exact ⟨s8,hD8,rfl⟩
   rintro zs2 H8 ⟨s8,hD8,rfl⟩;rw [List.take_length] at hD8;refine ⟨_,_,_,D2,rfl,s5.trans (s6.trans (s7.trans s8)),_,hD8,?_⟩;rcases key with ⟨z1,z2⟩ | ⟨T2,m2,rfl,z1,z2⟩
   ·refine .inl ⟨z1,List.filter_eq_nil_iff.mpr λv hv=>?_⟩;rw [z2 v hv];decide
   ·exact .inr ⟨T2,m2,z2,rfl,s8 _ _ z1⟩
  ·rintro σ H5 ⟨v4,v6,v7,kn,rfl,s5,F5⟩;rw [tl] at F5;obtain ⟨ys,eys,hys⟩:=F5;refine ⟨_,rfl,!ys.isEmpty,.inl ⟨_,SqL.of eys,rfl⟩,?_⟩;have S5:=S4.trans s5;rcases hys with ⟨z1,rfl⟩ | ⟨T1,m1,em,rfl,eT⟩
   ·exact Jw (qn _ S5 (.inr ⟨Va,z1⟩))
   ·refine G5 ⟨_,rfl,kn,_,_,_,rfl,rfl,SqL.of eys,Go (j:=0) rfl,?_⟩;exact qs T1 m1 H5 S5 eT Va em
open Classical in
noncomputable def Zei (rs:List (Int×Int))(k n:Nat)(s t:Int)(c:LI):Bool:=decide (Valid c n/\Hop rs k s t n c)
open Classical in
theorem hopB_iff {rs:List (Int×Int)}{k n:Nat}{s t:Int}{c:LI}:Zei rs k n s t c=true↔Valid c n/\Hop rs k s t n c:=by
 unfold Zei;exact decide_eq_true_iff
def Zhc (K:FF)(C1 C2:AD):Sp:=λvs H Q E=>∃(wb l ro:AD)(k n:Nat)(xs:List V)(rs:List (Int×Int))(s t:Int)(c:LI),vs=[.ref wb,.int s,.int t,.int (n:Int),.ref ro]/\WebAt H wb l (k:Int) xs rs/\GS (k:Int) rs/\s≠t/\(0<=s/\s<(k:Int))/\(0<=t/\t<(k:Int))/\n<=rs.length/\SqL K H ro (c.map V.int) /\
 (∀H':Hp,Same H H'->Q (.bl (Zei rs k n s t c)) H')
theorem ZhU:Gk ["web", "one", "other", "i", "roads"] ["web", "one", "other", "i", "roads"] (Gf sHo):=⟨rfl,rfl,rfl,by decide +kernel,rfl,by decide +kernel,by decide +kernel⟩
theorem ZgH {f fCe fCs fMb fMe C1 C2:AD}{fd fdCe fdCs fdMb fdMe:FuncData}(F:Fun K "hopeful" "hopeful" sHo f fd)(FCe:Fun K "check_ends" "check_ends" Zeg fCe fdCe)(bCe:Binds K fdCe ["web", "one", "other"] [])(mCe:mg "check_ends" = some (.ref fCe))(GCe:GG P w K mg base (CXr P w) 2 fCe fdCe ["web", "one", "other"] (Zcv C1))(FCs:Fun K "check_step" "check_step" Zd0 fCs fdCs)(bCs:Binds K fdCs ["web", "i"] [])(mCs:mg "check_step" = some (.ref fCs))(GCs:GG P w K mg base (CXr P w) 1 fCs fdCs ["web", "i"] (Za5 C2))(FMb:Fun K "marks_behind" "marks_behind" sMb fMb fdMb)(bMb:Binds K fdMb ["web", "ends", "i", "roads"] [])(mMb:mg "marks_behind" = some (.ref fMb))(GMb:GG P w K mg base CX0 5 fMb fdMb ["web", "ends", "i", "roads"] (ZgF K))(FMe:Fun K "marks_of_ends" "marks_of_ends" sMe fMe fdMe)(bMe:Binds K fdMe ["one", "other"] [])(mMe:mg "marks_of_ends" = some (.ref fMe))(GMe:GG P w K mg base CX0 1 fMe fdMe ["one", "other"] ZfN):GG P w K mg base (CXr P w) 6 f fd ["web", "one", "other", "i", "roads"] (Zhc K C1 C2):=by
 refine F.okR ZhU (λvs H Q E h=>?_) (λcdv A outer s0 H vs Q E hr h=>?_)
 ·obtain ⟨_,_,_,_,_,_,_,_,_,_,rfl,_⟩:=h
  rfl
 ·obtain ⟨wb,l,ro,k,n,xs,rs,s,t,c,rfl,W,g,hst,hs,ht,hn,hc,q⟩:=h;have hxl:=W.p.len;refine ⟨_,Gc (Jo (Gh GCe (hr.mono (by decide)) rfl mCe FCe.kp bCe .nil VX (Ga (pv 0) (Ga (pv 1) (Ga (pv 2) Gd)))))
    (Gc (Jo (Gh GCs (hr.mono (by decide)) rfl mCs FCs.kp bCs .nil VX (Ga (pv 0) (Ga (pv 3) Gd))))
    (Ge (Gn (Jf XB (Gh GMb (hr.mono (by decide)) rfl mMb FMb.kp bMb .nil GN (Ga (pv 0) (Ga (Gh GMe (hr.mono (by decide)) rfl mMe FMe.kp bMe .nil GN (Ga (pv 1) (Ga (pv 2) Gd))) (Ga (pv 3) (Ga (pv 4) Gd))))) JP (Gz _))))),?_⟩
  refine ⟨_,rfl,_,rfl,_,rfl,wb,l,(k:Int),s,t,rfl,W.w,.inl ⟨⟨hs,ht,hst⟩,?_⟩⟩;refine ⟨_,rfl,_,rfl,wb,l,(k:Int),(n:Int),xs,rfl,W.w,W.l,.inl ⟨⟨by lia,by lia⟩,?_⟩⟩;refine ⟨_,rfl,_,rfl,_,rfl,s,t,rfl,hst,λe H1 s1 he E1=>?_⟩;have iff:=λV:Valid c n=>Vk hst hs.1 hs.2 ht.1 ht.2 g.2.2.2.1 hn V.2 V.1;refine ⟨_,rfl,_,rfl,wb,l,e,ro,k,n,xs,rs,s,t,c,rfl,W.same s1,g,E1,hs,ht,hn,s1.seq hc,λH2 s2 z=>?_,λT m H2 s2 eT V z=>?_⟩
  ·have hf:Zei rs k n s t c=false:=by
    refine Bool.eq_false_iff.mpr λy=>?_;have y:=hopB_iff.mp y;rcases z with z | ⟨_,z⟩
    ·exact z y.1
    ·rcases iff y.1 with ⟨m,e1,_⟩ | ⟨_,no⟩
     ·rw [z] at e1;cases e1
     ·exact no y.2
   have:=q H2 (s1.trans s2);rw [hf] at this;exact ⟨rfl,this⟩
  ·have ht:Zei rs k n s t c=true:=by
    refine hopB_iff.mpr ⟨V,?_⟩;rcases iff V with ⟨m,_,lab,h1,h2,_⟩ | ⟨e1,_⟩
    ·exact ⟨lab,h1,h2⟩
    ·rw [z] at e1;cases e1
   have:=q H2 (s1.trans s2);rw [ht] at this;refine ⟨rfl,?_⟩;rw [decide_eq_false (by intro z;cases z)];exact this
end
end M
namespace M
open PySem L2
def GU (k:Nat)(f:Int->Int):LI:=(List.range k).map λi=>f ((i:Nat):Int)
theorem JG (k:Nat)(f:Int->Int):(GU k f).length=k:=by unfold GU;rw [List.length_map,List.length_range]
theorem Zbb {k:Nat}{f:Int->Int}{i:Int}(h0:0<=i)(h1:i<(k:Int)):(GU k f).getD i.toNat 0=f i:=by
 unfold GU;rw [List.getD_eq_getElem?_getD,List.getElem?_map,List.getElem?_range (by lia)];show f ((i.toNat:Nat):Int)=_;rw [show ((i.toNat:Nat):Int)=i by lia]
theorem G3 {k:Nat}{f:Int->Int}{i:Int}(h0:0<=i)(h1:i<(k:Int)):atI ((GU k f).map V.int) i=some (.int (f i)):=by
 rw [OH h0 (by rw [JG];exact h1),Zbb h0 h1]
theorem Zbc {k:Nat}{f:Int->Int}{i v:Int}(h0:0<=i)(h1:i<(k:Int)):(GU k f).set i.toNat v=GU k (λx=>if x=i then v else f x):=by
 unfold GU;refine List.ext_getElem? λn=>?_;rw [List.getElem?_set,List.getElem?_map,List.getElem?_map,List.length_map,List.length_range];by_cases hn:n<k
 ·rw [List.getElem?_range hn];by_cases e:i.toNat=n
  ·rw [if_pos e,if_pos (show i.toNat<k by lia)];show some v=some (if ((n:Nat):Int)=i then v else _);rw [if_pos (by lia)]
  ·rw [if_neg e];show some _=some (if ((n:Nat):Int)=i then v else _);rw [if_neg (by lia)]
 ·rw [List.getElem?_eq_none (by rw [List.length_range];lia)];split
  ·split
   ·lia
   ·rfl
  ·rfl
theorem Vl {k:Nat}{f g:Int->Int}(h:∀x,0<=x->x<(k:Int)->f x=g x):GU k f=GU k g:=by
 unfold GU;refine List.map_congr_left λi hi=>h _ (by lia) ?_;have:=List.mem_range.mp hi
 lia
theorem X1 (k:Nat)(v:Int):(List.replicate k [V.int v]).flatten=(GU k λ_=>v).map V.int:=by
 unfold GU;rw [List.map_map]
 induction k with
 | zero=>rfl
 | succ k ih=>
  rw [List.replicate_succ',List.flatten_append,ih,List.range_succ,List.map_append]
  rfl
theorem ZcA:bootBuiltins "max" = some (.builtin "max"):=by first | rfl | decide +kernel
theorem Zbd {rs:List (Int×Int)}{c:LI}{i:Nat}(h:OL rs (c.take i)=none):OL rs c=none:=by
 have key:∀d:LI,d.foldl (λl q=>l.bind λlab=>if lab (rdAt rs q).1=lab (rdAt rs q).2 then none else some (Ji (rdAt rs q) lab)) none=none:=λd=>by
  induction d with
  | nil=>rfl
  | cons q d ih=>exact ih
 have e:=List.take_append_drop i c;unfold OL at h ⊢;rw [<-e,List.foldl_append,h];exact key _
theorem ZD (k:Nat)(f:Int->Int)(i:Nat)(h:i<k):(GU k f)[i]?=some (f (i:Int)):=by
 unfold GU;rw [List.getElem?_map,List.getElem?_range h]
 rfl
theorem VM (i:Nat)(f:Int->Int):GU (i+1) f=GU i f++[f (i:Int)]:=by
 unfold GU;rw [List.range_succ,List.map_append]
 rfl
theorem Zbe {rs:List (Int×Int)}{k:Int}(hr:∀r∈rs,0<=r.1/\r.1<r.2/\r.2<k){c:LI}(hc:∀q∈c,0<=q/\q<(rs.length:Int)){x:Int}(h:¬ (0<=x/\x<k)):degF rs c x=0:=by
 rcases Nat.eq_zero_or_pos (degF rs c x) with z | z
 ·exact z
 ·exact absurd (On hr c hc x (by lia)) h
end M
namespace M
open PySem L2
section
variable {P:PP}{w:Ab}{K:FF}{mg:Str->Option Aa}{base:Heap}
def Zfm:Sp:=λvs H Q _=>∃(l:AD)(xs:List V)(rs:List (Int×Int)),vs=[.ref l]/\H l=some (.lst xs)/\Prs H xs rs/\rs.length<=1000/\∀(r:AD)(H':Hp),Same H H'->H r=none->H' r=some (.lst ((rs.map (·.1)++rs.map (·.2)).map V.int))->Q (.ref r) H'
theorem ZgI:Gk ["roads"] ["roads"] (Gf ZfI):=⟨rfl,rfl,rfl,by decide +kernel,rfl,by decide +kernel,by decide +kernel⟩
theorem YQ {α β:Type}{l:List α}{i:Nat}{x:α}(f:α->β)(h:l[i]?=some x):(l.take (i+1)).map f=(l.take i).map f++[f x]:=by
 rw [List.take_add_one,h,List.map_append]
 rfl
theorem Zfn {f:AD}{fd:FuncData}(F:Fun K "places_on" "places_on" ZfI f fd):GG P w K mg base CX0 1 f fd ["roads"] Zfm:=by
 refine F.ok ZgI (λvs H Q E h=>?_) (λcdv A outer s H vs Q E hr h=>?_)
 ·obtain ⟨_,_,_,rfl,_⟩:=h
  rfl
 ·obtain ⟨l,xs,rs,rfl,hl,pr,qV,q⟩:=h;have h16:(16777216:Nat)=sizeLine:=sizeLine_eq.symm;have hxl:=pr.len;refine ⟨_,Ge (Gn (GD Vw (G7 (own:=["a", "b"]) rfl (G8 (by decide +kernel) (by decide +kernel) rfl (by decide +kernel)) (JL K (pv 0)) (λ_ _ _ _=>Z7 K (n:=2) rfl (Gv (Gi (i:=0) (show List.Nodup (["a", "b"]:List Str) by decide +kernel) rfl (Or.inl rfl)) (Gv (Gi (i:=1) (show List.Nodup (["a", "b"]:List Str) by decide +kernel) rfl (Or.inl rfl)) Jy))) (λ_ _ _ _=>GW) (λ_ _ _ _=>pv 0)) (G7 (own:=["a", "b"]) rfl (G8 (by decide +kernel) (by decide +kernel) rfl (by decide +kernel)) (JL K (pv 0)) (λ_ _ _ _=>Z7 K (n:=2) rfl (Gv (Gi (i:=0) (show List.Nodup (["a", "b"]:List Str) by decide +kernel) rfl (Or.inl rfl)) (Gv (Gi (i:=1) (show List.Nodup (["a", "b"]:List Str) by decide +kernel) rfl (Or.inl rfl)) Jy))) (λ_ _ _ _=>GW) (λ_ _ _ _=>pv 1)))),?_⟩;refine ⟨_,rfl,l,rfl,⟨_,SqL.of hl⟩,λD hD=>?_⟩;refine GM (K:=K) (a:=l) (xs:=xs) (λi ys H2=>Same H H2/\H2 D=some (.lst ys)/\ys=((rs.take i).map (·.1)).map V.int) ⟨Same.new hD,Gb,rfl⟩ (λi ys H2 _ ⟨s2,_⟩=>SqL.of (s2 _ _ hl)) ?_ ?_
  ·rintro i x ys H2 hxi ⟨s2,hD2,rfl⟩;obtain ⟨t,r,rfl,et,er⟩:=pr.get hxi;have hi:i<xs.length:=(List.getElem?_eq_some_iff.mp hxi).1;refine ⟨t,_,rfl,SqT.of (s2 _ _ et),rfl,_,_,rfl,_,_,rfl,rfl,trivial,?_⟩;unfold Yi;refine G5 ?_;refine ⟨_,rfl,hD2,by rw [List.length_map,List.length_map,List.length_take];lia,s2.put hD,Gb,by rw [YQ (·.1) er,List.map_append];rfl⟩
  rintro ys H2 ⟨s2,hD2,rfl⟩;rw [hxl,List.take_length] at hD2;refine ⟨_,rfl,l,rfl,⟨_,SqL.of (s2 _ _ hl)⟩,λD2 hD'=>?_⟩;refine GM (K:=K) (a:=l) (xs:=xs) (λi ys H3=>Same H2 H3/\H3 D2=some (.lst ys)/\ys=((rs.take i).map (·.2)).map V.int) ⟨Same.new hD',Gb,rfl⟩ (λi ys H3 _ ⟨s3,_⟩=>SqL.of (s3 _ _ (s2 _ _ hl))) ?_ ?_
  ·rintro i x ys H3 hxi ⟨s3,hD3,rfl⟩;obtain ⟨t,r,rfl,et,er⟩:=pr.get hxi;have hi:i<xs.length:=(List.getElem?_eq_some_iff.mp hxi).1;refine ⟨t,_,rfl,SqT.of (s3 _ _ (s2 _ _ et)),rfl,_,_,rfl,_,_,rfl,rfl,trivial,?_⟩;unfold Yi;refine G5 ?_;refine ⟨_,rfl,hD3,by rw [List.length_map,List.length_map,List.length_take];lia,s3.put hD',Gb,by rw [YQ (·.2) er,List.map_append];rfl⟩
  rintro ys H3 ⟨s3,hD3,rfl⟩;rw [hxl,List.take_length] at hD3;refine ⟨D,D2,_,_,rfl,rfl,s3 _ _ hD2,hD3,by rw [List.length_map,List.length_map,List.length_map,List.length_map];lia,λr hr'=>?_⟩;have s03:=s2.trans s3;exact q r _ (s03.put (s03.free hr')) (s03.free hr') (by rw [Gb,List.map_append])
theorem YR {H:Hp}:∀{xs:List V}{rs:List (Int×Int)},Prs H xs rs->∀n:Nat,Prs H (xs.take n) (rs.take n)
 | _,_,.nil,n=>by rw [List.take_nil,List.take_nil];exact .nil
 | _,_,.cons _ _,0=>.nil
 | _,_,.cons e r,n+1=>.cons e (YR r n)
theorem YS {H:Hp}:∀{xs:List V}{rs:List (Int×Int)},Prs H xs rs->∀n:Nat,Prs H (xs.drop n) (rs.drop n)
 | _,_,.nil,n=>by rw [List.drop_nil,List.drop_nil];exact .nil
 | _,_,.cons e r,0=>.cons e r
 | _,_,.cons e r,n+1=>YS r n
def X2 (rs:List (Int×Int)):LI:=rs.map (·.1)++rs.map (·.2)
def Zd3 (C:AD):Sp:=λvs H Q E=>∃(wb l:AD)(k i:Int)(xs:List V)(rs:List (Int×Int)),vs=[.ref wb,.int i]/\WebAt H wb l k xs rs/\GS k rs /\
 (((0<=i/\i<=xs.length)/\∀(r:AD)(ns:LI)(H':Hp),Same H H'->H r=none->H' r=some (.lst (ns.map V.int))->ns.Nodup->ns.Pairwise (· <= ·)->(∀p,p∈ns↔p∈X2 (rs.take i.toNat)/\p∈X2 (rs.drop i.toNat))->Q (.ref r) H')\/(¬ (0<=i/\i<=xs.length)/\E (.ref C) none H))
theorem ZgJ:Gk ["web", "i"] ["web", "i"] (Gf Zfc):=⟨rfl,rfl,rfl,by decide +kernel,rfl,by decide +kernel,by decide +kernel⟩
theorem Zfo {f fP fC C:AD}{fd fdP fdC:FuncData}(F:Fun K "front" "front" Zfc f fd)(FP:Fun K "places_on" "places_on" ZfI fP fdP)(bP:Binds K fdP ["roads"] [])(mP:mg "places_on" = some (.ref fP))(FC:Fun K "check_step" "check_step" Zd0 fC fdC)(bC:Binds K fdC ["web", "i"] [])(mC:mg "check_step" = some (.ref fC))(GC:GG P w K mg base (CXr P w) 1 fC fdC ["web", "i"] (Za5 C))(mSor:mg "sorted" = none)(mSet:mg "set" = none):GG P w K mg base (CXr P w) 2 f fd ["web", "i"] (Zd3 C):=by
 have GP:GG P w K mg base CX0 1 fP fdP ["roads"] Zfm:=Zfn FP;refine F.okR ZgJ (λvs H Q E h=>?_) (λcdv A outer s H vs Q E hr h=>?_)
 ·obtain ⟨_,_,_,_,_,_,rfl,_⟩:=h
  rfl
 ·obtain ⟨wb,l,k,i,xs,rs,rfl,W,g,h⟩:=h;refine ⟨_,Gc (Jo (Gh GC (hr.mono (by decide)) rfl mC FC.kp bC .nil VX (Ga (pv 0) (Ga (pv 1) Gd))))
    (Ge (Gn (Gw (Zaw P w rfl) rfl mSor PyProof.Rows.boot_sorted (Ga (GD (ZeW P w) (GR (Zc5 P w K rfl) rfl mSet Yn (Ga (Gh GP (hr.mono (by decide)) rfl mP FP.kp bP .nil GN (Ga (OQ (kSl K) (Gx (J9 K) (pv 0) Gg (λ_ _=>rfl)) U0 (U1 (pv 1))) Gd)) Gd)) (GR (Zc5 P w K rfl) rfl mSet Yn (Ga (Gh GP (hr.mono (by decide)) rfl mP FP.kp bP .nil GN (Ga (OQ (kSl K) (Gx (J9 K) (pv 0) Gg (λ_ _=>rfl)) (U1 (pv 1)) U0) Gd)) Gd))) Gd)))),?_⟩
  refine ⟨_,rfl,_,rfl,wb,l,k,i,xs,rfl,W.w,W.l,?_⟩;rcases h with ⟨hin,q⟩ | ⟨hout,e⟩
  ·refine .inl ⟨hin,?_⟩;have hxl:=W.p.len;have g3:=g.2.2.1;obtain ⟨n,rfl⟩:=Int.eq_ofNat_of_zero_le hin.1;rw [Int.toNat_natCast] at q;refine ⟨_,rfl,wb,_,_,_,rfl,rfl,SqT.of W.w,Go (j:=1) rfl,_,rfl,_,rfl,l,_,rfl,SqL.of W.l,λc1 hc1=>?_⟩;have s1:Same H (upd H c1 (.lst (UC xs none (some (n:Int))))):=Same.new hc1;have e1:upd H c1 (.lst (UC xs none (some (n:Int)))) c1=some (.lst (xs.take n)):=by rw [Gb,Z9]
   generalize upd H c1 (.lst (UC xs none (some (n:Int))))=H1 at s1 e1 ⊢;refine ⟨c1,_,rs.take n,rfl,e1,YR (W.p.same s1) n,by rw [List.length_take];lia,λr1 H2 s2 hr1 er1=>?_⟩;have S2:=s1.trans s2;refine ⟨r1,X2 (rs.take n),rfl,SqL.of er1,?_,λt1 m1 ht1 nd1 hm1=>?_⟩
   ·unfold X2;rw [List.length_append,List.length_map,List.length_map,List.length_take]
    lia
   have s3:Same H2 (upd H2 t1 (V9 P w t1 m1)):=Same.new ht1;have et1:upd H2 t1 (V9 P w t1 m1) t1=some (V9 P w t1 m1):=Gb;have S3:=S2.trans s3;generalize upd H2 t1 (V9 P w t1 m1)=H3 at s3 et1 S3 ⊢;have W3:=W.same S3;refine ⟨_,rfl,wb,_,_,_,rfl,rfl,SqT.of W3.w,Go (j:=1) rfl,_,rfl,_,rfl,l,_,rfl,SqL.of W3.l,λc2 hc2=>?_⟩;have s4:Same H3 (upd H3 c2 (.lst (UC xs (some (n:Int)) none))):=Same.new hc2;have e4:upd H3 c2 (.lst (UC xs (some (n:Int)) none)) c2=some (.lst (xs.drop n)):=by rw [Gb,ZbV]
   generalize upd H3 c2 (.lst (UC xs (some (n:Int)) none))=H4 at s4 e4 ⊢;refine ⟨c2,_,rs.drop n,rfl,e4,YS (W3.p.same s4) n,by rw [List.length_drop];lia,λr2 H5 s5 hr2 er2=>?_⟩;have S5:=s4.trans s5;refine ⟨r2,X2 (rs.drop n),rfl,SqL.of er2,?_,λt2 m2 ht2 nd2 hm2=>?_⟩
   ·unfold X2;rw [List.length_append,List.length_map,List.length_map,List.length_drop]
    lia
   have et15:=S5 _ _ et1;have s6:Same H5 (upd H5 t2 (V9 P w t2 m2)):=Same.new ht2;have hne:t2≠t1:=λz=>by rw [z,et15] at ht2;cases ht2
   refine ⟨t1,t2,m1,m2,rfl,rfl,hne,s6 _ _ et15,Gb,λt3 m3 ht3 nd3 hm3=>?_⟩;have S6:=(S3.trans S5).trans s6;have s7:=S6.put (o:=V9 P w t3 m3) (S6.free ht3);have hm:∀p,p∈m3↔p∈X2 (rs.take n)/\p∈X2 (rs.drop n):=λp=>by rw [hm3 p,hm1 p,hm2 p]
   have hrng:∀p∈m3,0<=p/\p<k:=λp hp=>by
    have:=((hm p).mp hp).1;unfold X2 at this;rcases List.mem_append.mp this with z | z
    ·obtain ⟨r,hr',rfl⟩:=List.mem_map.mp z;have:=g.2.2.2.1 r (List.mem_of_mem_take hr')
     lia
    ·obtain ⟨r,hr',rfl⟩:=List.mem_map.mp z;have:=g.2.2.2.1 r (List.mem_of_mem_take hr')
     lia
   refine ⟨t3,m3,rfl,Gb,?_,λre ns hre pm so=>?_⟩
   ·have h1:(m3.map Int.toNat).Nodup:=List.pairwise_map.mpr (List.Pairwise.imp_of_mem (λ{a b} ha hb hab z=>hab (by
     have:=hrng a ha;have:=hrng b hb
     lia)) nd3)
    have h2:m3.map Int.toNat ⊆ List.range 16:=λx hx=>by
     obtain ⟨p,hp,rfl⟩:=List.mem_map.mp hx;have:=hrng p hp;have:=g.2.1;exact List.mem_range.mpr (by lia)
    have:=List.Nodup.length_le_of_subset h1 h2;rw [List.length_map,List.length_range] at this
    lia
   ·exact q re ns _ (s7.put (s7.free hre)) (s7.free hre) Gb (pm.nodup_iff.mpr nd3) so λp=>by rw [pm.mem_iff,hm p]
  ·exact .inr ⟨hout,e⟩
def ats (rs:List (Int×Int))(p:Int)(j:Nat):LI:=((List.range j).filter λi=>Om (rs.getD i (0,0)) p).map λi=>((i:Nat):Int)
theorem ats_mem {rs:List (Int×Int)}{p x:Int}{j:Nat}:x∈ats rs p j↔∃i:Nat,x=(i:Int)/\i<j/\Om (rs.getD i (0,0)) p=true:=by
 unfold ats;rw [List.mem_map];constructor
 ·rintro ⟨i,h,rfl⟩;obtain ⟨h1,h2⟩:=List.mem_filter.mp h;exact ⟨i,rfl,List.mem_range.mp h1,h2⟩
 ·rintro ⟨i,rfl,h1,h2⟩;exact ⟨i,List.mem_filter.mpr ⟨List.mem_range.mpr h1,h2⟩,rfl⟩
theorem pl_mem {rs:List (Int×Int)}{p:Int}:p∈X2 rs↔∃i:Nat,i<rs.length/\Om (rs.getD i (0,0)) p=true:=by
 have gd:∀i (h:i<rs.length),rs.getD i (0,0)=rs[i]:=λi h=>by rw [List.getD_eq_getElem?_getD,List.getElem?_eq_getElem h];rfl
 unfold X2;rw [List.mem_append,List.mem_map,List.mem_map];constructor
 ·rintro (⟨r,hr,rfl⟩ | ⟨r,hr,rfl⟩) <;> obtain ⟨i,hi,e⟩:=List.getElem_of_mem hr
  ·exact ⟨i,hi,by rw [gd i hi,e];exact decide_eq_true (.inl rfl)⟩
  ·exact ⟨i,hi,by rw [gd i hi,e];exact decide_eq_true (.inr rfl)⟩
 ·rintro ⟨i,hi,h⟩;rw [gd i hi] at h;rcases of_decide_eq_true h with z | z
  ·exact .inl ⟨rs[i],List.getElem_mem hi,z⟩
  ·exact .inr ⟨rs[i],List.getElem_mem hi,z⟩
theorem Vm {rs:List (Int×Int)}{i n:Nat}(h:i<n):(rs.take n).getD i (0,0)=rs.getD i (0,0):=by
 rw [List.getD_eq_getElem?_getD,List.getElem?_take,if_pos h,<-List.getD_eq_getElem?_getD]
theorem Xp {rs:List (Int×Int)}{i n:Nat}:(rs.drop n).getD i (0,0)=rs.getD (n+i) (0,0):=by
 rw [List.getD_eq_getElem?_getD,List.getElem?_drop,<-List.getD_eq_getElem?_getD]
end
end M
namespace M
open PySem L2
section
variable {P:PP}{w:Ab}{K:FF}{mg:Str->Option Aa}{base:Heap}
theorem Zdc:∀{xs ys:LI},xs.Pairwise (· < ·)->ys.Pairwise (· < ·)->(∀p,p∈xs↔p∈ys)->xs=ys
 | [],[],_,_,_=>rfl
 | [],y::ys,_,_,h=>absurd ((h y).mpr List.mem_cons_self) (by simp)
 | x::xs,[],_,_,h=>absurd ((h x).mp List.mem_cons_self) (by simp)
 | x::xs,y::ys,h1,h2,h=>by
  obtain ⟨a1,a2⟩:=List.pairwise_cons.mp h1;obtain ⟨b1,b2⟩:=List.pairwise_cons.mp h2;have e:x=y:=by
   rcases List.mem_cons.mp ((h x).mp List.mem_cons_self) with z | z
   ·exact z
   ·rcases List.mem_cons.mp ((h y).mpr List.mem_cons_self) with u | u
    ·exact u.symm
    ·have:=b1 x z;have:=a1 y u
     lia
  subst e;rw [Zdc a2 b2 λp=>⟨λhp=>?_,λhp=>?_⟩]
  ·rcases List.mem_cons.mp ((h p).mp (List.mem_cons_of_mem _ hp)) with z | z
   ·have:=a1 p hp
    lia
   ·exact z
  ·rcases List.mem_cons.mp ((h p).mpr (List.mem_cons_of_mem _ hp)) with z | z
   ·have:=b1 p hp
    lia
   ·exact z
def inF (rs:List (Int×Int))(n:Nat)(p:Int):Prop:=ats rs p n≠[]/\(n:Int)<=Gq rs p
instance (rs:List (Int×Int)) (n:Nat) (p:Int):Decidable (inF rs n p):=by unfold inF;infer_instance
theorem Zbf {rs:List (Int×Int)}{n:Nat}{p:Int}(hn:n<=rs.length):(p∈X2 (rs.take n)/\p∈X2 (rs.drop n))↔inF rs n p:=by
 unfold inF;rw [pl_mem,pl_mem];constructor
 ·rintro ⟨⟨i,h1,h2⟩,⟨j,h3,h4⟩⟩;rw [List.length_take] at h1;rw [List.length_drop] at h3;rw [Vm (by lia)] at h2;rw [Xp] at h4;refine ⟨λz=>?_,?_⟩
  ·have:=(ats_mem (rs:=rs) (p:=p) (x:=(i:Int)) (j:=n)).mpr ⟨i,rfl,by lia,h2⟩;rw [z] at this;cases this
  ·have:=OB (rs:=rs) (j:=n+j) (by lia) (p:=p) (of_decide_eq_true h4)
   lia
 ·rintro ⟨h1,h2⟩;obtain ⟨x,hx⟩:∃x,x∈ats rs p n:=List.exists_mem_of_ne_nil _ h1;obtain ⟨i,rfl,i1,i2⟩:=ats_mem.mp hx;obtain ⟨j,hj⟩:=Int.eq_ofNat_of_zero_le (show 0<=Gq rs p by lia);have j1:=UR rs p rs.length j hj;have j2:j<rs.length:=by
   have:=(Ua rs p rs.length).2;have e:Gq rs p=JT rs p rs.length:=rfl
   lia
  refine ⟨⟨i,by rw [List.length_take];lia,by rw [Vm i1];exact i2⟩,⟨j-n,by rw [List.length_drop];lia,?_⟩⟩;rw [Xp,show n+(j-n)=j by lia];exact decide_eq_true j1
def frL (rs:List (Int×Int))(n:Nat)(j:Nat):LI:=(GU j id).filter λp=>decide (inF rs n p)
theorem Zdd {rs:List (Int×Int)}{k:Nat}{n:Nat}(hn:n<=rs.length)(g:GS (k:Int) rs){ps:LI}(nd:ps.Nodup)(so:ps.Pairwise (· <= ·))(hm:∀p,p∈ps↔p∈X2 (rs.take n)/\p∈X2 (rs.drop n)):ps=frL rs n k:=by
 have lt:ps.Pairwise (· < ·):=(List.pairwise_and_iff.mpr ⟨so,nd⟩).imp λ⟨h1,h2⟩=>by lia
 refine Zdc lt ?_ λp=>?_
 ·unfold frL GU;exact List.Pairwise.filter _ (List.pairwise_map.mpr (List.pairwise_lt_range.imp λ{a b} h=>by show ((a:Nat):Int)<((b:Nat):Int);lia))
 ·rw [hm p,Zbf hn];unfold frL GU;rw [List.mem_filter,decide_eq_true_iff];refine ⟨λz=>⟨?_,z⟩,λz=>z.2⟩;obtain ⟨h1,h2⟩:=(Zbf hn).mpr z;obtain ⟨i,hi,he⟩:=pl_mem.mp h1;rw [List.length_take] at hi;rw [Vm (by lia)] at he;have hr:=g.2.2.2.1 (rs.getD i (0,0)) (by rw [List.getD_eq_getElem?_getD,List.getElem?_eq_getElem (by lia)];exact List.getElem_mem _);have he:=of_decide_eq_true he;have:0<=p/\p<(k:Int):=by rcases he with y | y <;> lia
  exact List.mem_map.mpr ⟨p.toNat,List.mem_range.mpr (by lia),by show ((p.toNat:Nat):Int)=p;lia⟩
def Zbg (rs:List (Int×Int))(k n:Nat)(s t:Int)(d:Int->Nat)(lab mate:Int->Int):LI:=(frL rs n k).map (Wu rs s t n d mate)++(if d s≠0/\lab s=lab t then [0] else [])
theorem Vn {rs:List (Int×Int)}{n k:Nat}{p:Int}(h:p∈frL rs n k):(0<=p/\p<(k:Int))/\inF rs n p:=by
 unfold frL GU at h;obtain ⟨h1,h2⟩:=List.mem_filter.mp h;obtain ⟨i,hi,rfl⟩:=List.mem_map.mp h1;have:=List.mem_range.mp hi;exact ⟨⟨by show (0:Int)<=(i:Int);lia,by show (i:Int)<_;lia⟩,of_decide_eq_true h2⟩
theorem Ux {rs:List (Int×Int)}{k n:Nat}{s t:Int}{d:Int->Nat}{lab mate:Int->Int}{m:LI}(mk:Mk rs k s t n d lab mate m):(frL rs n k).map (gA m)++(if m.getD (m.length-1) 0=0 then [0] else [])=Zbg rs k n s t d lab mate:=by
 unfold Zbg;rw [show m.length-1=k by rw [mk.len];lia,mk.dn]
 congr 1
 ·refine List.map_congr_left λp hp=>?_;obtain ⟨⟨p0,p1⟩,_⟩:=Vn hp;exact mk.at_ p p0 p1
 ·by_cases z:d s≠0/\lab s=lab t
  ·rw [if_pos z,if_pos rfl,if_pos z]
  ·rw [if_neg z,if_neg (by decide),if_neg z]
def ZgK:Sp:=λvs H Q _=>∃(pl m:AD)(ps ms:LI),vs=[.ref pl,.ref m]/\H pl=some (.lst (ps.map V.int))/\H m=some (.tup (ms.map V.int))/\(∀p∈ps,0<=p/\p<(ms.length:Int))/\ms≠[]/\ps.length<=1000/\∀(T:AD)(H':Hp),Same H H'->H' T=some (.tup ((ps.map (gA ms)++(if ms.getD (ms.length-1) 0=0 then [0] else [])).map V.int))->Q (.ref T) H'
theorem scWi:Gk ["places", "marks", "wall"] ["places", "marks"] (Gf sWi):=⟨rfl,rfl,rfl,by decide +kernel,rfl,by decide +kernel,by decide +kernel⟩
theorem ZgL {f fId:AD}{fd fdId:FuncData}(F:Fun K "wall_in" "wall_in" sWi f fd)(FId:Fun K "is_done" "is_done" sId fId fdId)(bId:Binds K fdId ["marks"] [])(mId:mg "is_done" = some (.ref fId))(GId:GG P w K mg base CX0 1 fId fdId ["marks"] (Zgo K)){u0:Tok}(mDONE:mg "DONE" = some (.int 0 u0))(mTup:mg "tuple" = none):GG P w K mg base CX0 2 f fd ["places", "marks"] ZgK:=by
 refine F.ok scWi (λvs H Q E h=>?_) (λcdv A outer s0 H vs Q E hr h=>?_)
 ·obtain ⟨_,_,_,_,rfl,_⟩:=h
  rfl
 ·obtain ⟨pl,m,ps,ms,rfl,hp,hm,pr,hne,pl1,q⟩:=h;have h16:(16777216:Nat)=sizeLine:=sizeLine_eq.symm;refine ⟨_,Gc (Ul (i:=2) scWi.nd rfl (Or.inl rfl) (own:=["place"]) rfl (Gj (fr:=[("marks", 1)]) [(".0", .local),("place", .local),("marks", .cell)] rfl rfl (by decide +kernel) rfl (by decide +kernel) ⟨rfl,trivial⟩ ⟨λh=>GQ h,λh=>GQ h,λ_=>⟨_,rfl⟩,trivial⟩ ⟨⟨rfl,.inl rfl,.inl rfl⟩,trivial⟩) (JL K (pv 0)) (λ_ _ _ _=>Gi (i:=0) (show List.Nodup (["place", "marks"]:List Str) by decide +kernel) rfl (Or.inl rfl)) (λ_ _ _ _=>GW) (λ_ _ _ _=>Gx (J9 K) (pv 1) (pv 0) (λ_ _=>rfl)))
    (Ge (Gn (GR (YJ K) rfl mTup Ot (Ga (JY (Oa (Gh GId (hr.mono (by decide)) rfl mId FId.kp bId .nil GN (Ga (pv 1) Gd))) (GD Vw (pv 2) (GV (Ga (GZ (v:=.int (0)) rfl mDONE ⟨_,rfl⟩) Gd))) (pv 2)) Gd)))),?_⟩
  refine ⟨_,rfl,pl,rfl,⟨_,SqL.of hp⟩,λD hD=>?_⟩;refine GM (K:=K) (a:=pl) (xs:=ps.map V.int) (λi ys H2=>Same H H2/\H2 D=some (.lst ys)/\ys=((ps.take i).map (gA ms)).map V.int) ⟨Same.new hD,Gb,rfl⟩ (λi ys H2 _ ⟨s2,_⟩=>SqL.of (s2 _ _ hp)) ?_ ?_
  ·rintro i x ys H2 hxi ⟨s2,hD2,rfl⟩;have hi:i<(ps.map V.int).length:=(List.getElem?_eq_some_iff.mp hxi).1;rw [List.length_map] at hi;rw [List.getElem?_map] at hxi;cases y:ps[i]? with
   | none=>rw [y] at hxi;cases hxi
   | some p=>
    rw [y] at hxi;cases hxi;obtain ⟨p0,p1⟩:=pr p (List.mem_of_getElem? y);refine ⟨⟨rfl,trivial⟩,?_⟩;unfold Yi;refine G5 ?_;refine ⟨_,rfl,_,rfl,m,_,_,_,rfl,rfl,SqT.of (s2 _ _ hm),OH p0 p1,hD2,by rw [List.length_map,List.length_map,List.length_take];lia,s2.put hD,Gb,?_⟩;rw [List.take_add_one,y,List.map_append,List.map_append]
    rfl
  rintro ys H2 ⟨s2,hD2,rfl⟩;rw [List.length_map,List.take_length] at hD2
  try dsimp only [GL]
  refine ⟨_,rfl,m,ms,rfl,SqT.of (s2 _ _ hm),hne,_,rfl,?_⟩;by_cases z:ms.getD (ms.length-1) 0=0
  ·rw [decide_eq_true z];rw [if_pos z] at q;refine G5 ?_;refine ⟨_,rfl,Nat.le_of_lt (by show 1<sizeLine;lia),λo ho=>?_⟩;refine ⟨D,o,_,_,rfl,rfl,Gs hD2 (Gm hD2 ho),Gb,by rw [List.length_map,List.length_map];show ps.length+1<=_;lia,λl hl=>?_⟩;refine ⟨l,_,rfl,.inl ⟨SqL.of Gb,λT hT=>?_⟩⟩;have s3:=(s2.put (o:=.lst [.int 0]) (s2.free ho));have s4:=s3.put (o:=.lst ((ps.map (gA ms)).map V.int++[.int 0])) (s3.free hl);exact q T _ (s4.put (s4.free hT)) (by rw [Gb,List.map_append];rfl)
  ·rw [decide_eq_false z];rw [if_neg z,List.append_nil] at q;refine Jw ⟨_,rfl,D,_,rfl,.inl ⟨SqL.of hD2,λT hT=>?_⟩⟩;exact q T _ (s2.put (s2.free hT)) Gb
def Zhd (K:FF)(C1 C2 C3:AD):Sp:=λvs H Q E=>∃(wb l ro:AD)(k n:Nat)(xs:List V)(rs:List (Int×Int))(s t:Int)(c:LI),vs=[.ref wb,.int s,.int t,.int (n:Int),.ref ro]/\WebAt H wb l (k:Int) xs rs/\GS (k:Int) rs/\s≠t/\(0<=s/\s<(k:Int))/\(0<=t/\t<(k:Int))/\n<=rs.length/\SqL K H ro (c.map V.int) /\
 ((¬ (Valid c n/\Hop rs k s t n c)/\∀H':Hp,Same H H'->E (.ref C3) none H')\/(Valid c n/\∀(T:AD)(m:LI)(lab mate:Int->Int)(H':Hp),Same H H'->G4 rs k s t c n=some m->OL rs c=some lab->HopB rs k s t n (degF rs c) lab->Mt (degF rs c) lab mate->Mk rs k s t n (degF rs c) lab mate m->H' T=some (.tup ((Zbg rs k n s t (degF rs c) lab mate).map V.int))->Q (.ref T) H')/\Hop rs k s t n c)
theorem scWo:Gk ["web", "one", "other", "i", "roads", "marks"] ["web", "one", "other", "i", "roads"] (Gf sWo):=⟨rfl,rfl,rfl,by decide +kernel,rfl,by decide +kernel,by decide +kernel⟩
theorem ZgM {f fCe fCs fMb fMe fFr fWi C1 C2 C3:AD}{fd fdCe fdCs fdMb fdMe fdFr fdWi:FuncData}(F:Fun K "wall_of" "wall_of" sWo f fd)(FCe:Fun K "check_ends" "check_ends" Zeg fCe fdCe)(bCe:Binds K fdCe ["web", "one", "other"] [])(mCe:mg "check_ends" = some (.ref fCe))(GCe:GG P w K mg base (CXr P w) 2 fCe fdCe ["web", "one", "other"] (Zcv C1))(FCs:Fun K "check_step" "check_step" Zd0 fCs fdCs)(bCs:Binds K fdCs ["web", "i"] [])(mCs:mg "check_step" = some (.ref fCs))(GCs:GG P w K mg base (CXr P w) 1 fCs fdCs ["web", "i"] (Za5 C2))(FMb:Fun K "marks_behind" "marks_behind" sMb fMb fdMb)(bMb:Binds K fdMb ["web", "ends", "i", "roads"] [])(mMb:mg "marks_behind" = some (.ref fMb))(GMb:GG P w K mg base CX0 5 fMb fdMb ["web", "ends", "i", "roads"] (ZgF K))(FMe:Fun K "marks_of_ends" "marks_of_ends" sMe fMe fdMe)(bMe:Binds K fdMe ["one", "other"] [])(mMe:mg "marks_of_ends" = some (.ref fMe))(GMe:GG P w K mg base CX0 1 fMe fdMe ["one", "other"] ZfN)(FFr:Fun K "front" "front" Zfc fFr fdFr)(bFr:Binds K fdFr ["web", "i"] [])(mFr:mg "front" = some (.ref fFr))(GFr:GG P w K mg base (CXr P w) 2 fFr fdFr ["web", "i"] (Zd3 C2))(FWi:Fun K "wall_in" "wall_in" sWi fWi fdWi)(bWi:Binds K fdWi ["places", "marks"] [])(mWi:mg "wall_in" = some (.ref fWi))(GWi:GG P w K mg base CX0 2 fWi fdWi ["places", "marks"] ZgK)(mW:mg "NoWall" = some (.ref C3))(xW:ExcC K C3):GG P w K mg base (CXr P w) 6 f fd ["web", "one", "other", "i", "roads"] (Zhd K C1 C2 C3):=by
 refine F.okR scWo (λvs H Q E h=>?_) (λcdv A outer s0 H vs Q E hr h=>?_)
 ·obtain ⟨_,_,_,_,_,_,_,_,_,_,rfl,_⟩:=h
  rfl
 ·obtain ⟨wb,l,ro,k,n,xs,rs,s,t,c,rfl,W,g,hst,hs,ht,hn,hc,q⟩:=h;have hxl:=W.p.len;have gk:=g.2.1;refine ⟨_,Gc (Jo (Gh GCe (hr.mono (by decide)) rfl mCe FCe.kp bCe .nil VX (Ga (pv 0) (Ga (pv 1) (Ga (pv 2) Gd)))))
    (Gc (Jo (Gh GCs (hr.mono (by decide)) rfl mCs FCs.kp bCs .nil VX (Ga (pv 0) (Ga (pv 3) Gd))))
    (Gc (Gp (i:=5) scWo.nd rfl (Or.inl rfl) (Gh GMb (hr.mono (by decide)) rfl mMb FMb.kp bMb .nil GN (Ga (pv 0) (Ga (Gh GMe (hr.mono (by decide)) rfl mMe FMe.kp bMe .nil GN (Ga (pv 1) (Ga (pv 2) Gd))) (Ga (pv 3) (Ga (pv 4) Gd))))))
    (Gc (Jd (Gr ZV (pv 5) JP (Gz _)) (Ge (UG (E:=E) rfl JI rfl mW xW (Ga Ye Gd))) GA)
    (Ge (Gn (Gh GWi (hr.mono (by decide)) rfl mWi FWi.kp bWi .nil GN (Ga (Gh GFr (hr.mono (by decide)) rfl mFr FFr.kp bFr .nil VX (Ga (pv 0) (Ga (pv 3) Gd))) (Ga (pv 5) Gd)))))))),?_⟩
  refine ⟨_,rfl,_,rfl,_,rfl,wb,l,(k:Int),s,t,rfl,W.w,.inl ⟨⟨hs,ht,hst⟩,?_⟩⟩;refine ⟨_,rfl,_,rfl,wb,l,(k:Int),(n:Int),xs,rfl,W.w,W.l,.inl ⟨⟨by lia,by lia⟩,?_⟩⟩;refine ⟨_,rfl,_,rfl,_,rfl,s,t,rfl,hst,λe H1 s1 he E1=>?_⟩;have iff:=λV:Valid c n=>Vk hst hs.1 hs.2 ht.1 ht.2 g.2.2.2.1 hn V.2 V.1;refine ⟨_,rfl,_,rfl,wb,l,e,ro,k,n,xs,rs,s,t,c,rfl,W.same s1,g,E1,hs,ht,hn,s1.seq hc,λH2 s2 z=>?_,λT m H2 s2 eT V z=>?_⟩
  ·have no:¬ (Valid c n/\Hop rs k s t n c):=λy=>by
    rcases z with z | ⟨_,z⟩
    ·exact z y.1
    ·rcases iff y.1 with ⟨m,e1,_⟩ | ⟨_,no⟩
     ·rw [z] at e1;cases e1
     ·exact no y.2
   rcases q with ⟨_,q⟩ | ⟨⟨V,_⟩,hp⟩
   ·refine ⟨_,rfl,rfl,_,rfl,G5 ⟨by decide,q H2 (s1.trans s2)⟩⟩
   ·exact absurd ⟨V,hp⟩ no
  ·obtain ⟨m',e',lab,hl,hb,mate,M,mk⟩:∃m',G4 rs k s t c n=some m'/\XZ rs k s t n c m':=by
    rcases iff V with ⟨m',e',al⟩ | ⟨e1,_⟩
    ·exact ⟨m',e',al⟩
    ·rw [z] at e1;cases e1
   rw [z] at e';cases e';have S2:=s1.trans s2;rcases q with ⟨no,_⟩ | ⟨⟨_,q⟩,_⟩
   ·exact absurd ⟨V,lab,hl,hb⟩ no
   ·refine ⟨_,rfl,rfl,_,rfl,?_⟩;rw [decide_eq_false (by intro z;cases z)];refine Jw ?_;refine ⟨_,rfl,_,rfl,wb,l,(k:Int),(n:Int),xs,rs,rfl,W.same S2,g,.inl ⟨⟨by lia,by lia⟩,λr ps H3 s3 hr3 er3 nd so hm=>?_⟩⟩;rw [Int.toNat_natCast] at hm;have ep:=Zdd hn g nd so hm;subst ep;have mne:m≠[]:=λz=>by have:=mk.len;rw [z] at this;cases this
    refine ⟨_,rfl,r,T,_,m,rfl,er3,s3 _ _ eT,λp hp=>?_,mne,?_,λT2 H4 s4 e4=>?_⟩
    ·have:=(Vn hp).1;have:=mk.len
     lia
    ·refine Nat.le_trans (List.length_filter_le _ _) ?_;rw [JG]
     lia
    ·rw [Ux mk] at e4;exact q T2 m lab mate H4 (S2.trans (s3.trans s4)) z hl hb M mk e4
end
end M
namespace M
open PySem L2
theorem Zd4 {rs:List (Int×Int)}{n:Nat}{p:Int}(h:ats rs p n=[]):∀c:LI,(∀q∈c,0<=q/\q<(n:Int))->degF rs c p=0:=by
 intro c;refine O9 (P:=λc=>(∀q∈c,0<=q/\q<(n:Int))->degF rs c p=0) (λ_=>rfl) (λc q ih hc=>?_) c;have hq:=hc q (List.mem_append.mpr (.inr (List.mem_singleton.mpr rfl)));have h2:¬ Om (rs.getD q.toNat (0,0)) p=true:=by
  unfold ats at h;rw [List.map_eq_nil_iff,List.filter_eq_nil_iff] at h;exact h q.toNat (List.mem_range.mpr (by lia))
 unfold Om at h2;rw [decide_eq_true_eq] at h2;have h2:¬ ((rdAt rs q).1=p\/(rdAt rs q).2=p):=h2;rw [JS,Ja (λz=>h2 (.inl z.symm)) (λz=>h2 (.inr z.symm))];exact ih λq' hq'=>hc q' (List.mem_append.mpr (.inl hq'))
theorem YT {rs:List (Int×Int)}{n:Nat}{s t p:Int}{c:LI}{mate:Int->Int}(hc:∀q∈c,0<=q/\q<(n:Int))(h:¬ inF rs n p):Wu rs s t n (degF rs c) mate p=-2:=by
 unfold Wu;by_cases z:Gq rs p<(n:Int)
 ·rw [if_pos z]
 ·rw [if_neg z,if_pos];refine Zd4 ?_ c hc;by_cases y:ats rs p n=[]
  ·exact y
  ·exact absurd ⟨y,by lia⟩ h
theorem Wx {rs:List (Int×Int)}{k n:Nat}{s t:Int}{c c':LI}{lab lab' mate mate':Int->Int}{m m':LI}(hc:∀q∈c,0<=q/\q<(n:Int))(hc':∀q∈c',0<=q/\q<(n:Int))(mk:Mk rs k s t n (degF rs c) lab mate m)(mk':Mk rs k s t n (degF rs c') lab' mate' m')(e:Zbg rs k n s t (degF rs c) lab mate=Zbg rs k n s t (degF rs c') lab' mate'):m=m':=by
 rw [<-Ux mk,<-Ux mk'] at e;have hl:=mk.len;have hl':=mk'.len;obtain ⟨e1,e2⟩:=List.append_inj e (by rw [List.length_map,List.length_map]);rw [hl,hl'] at e2;have e2:(if m.getD k 0=0 then [(0:Int)] else [])=if m'.getD k 0=0 then [0] else []:=e2
 have at_:∀j:Nat,j<k+1->m.getD j 0=m'.getD j 0:=by
  intro j hj;rcases (show j<k\/j=k by lia) with hj | rfl
  ·have g1:=mk.at_ (j:Int) (by lia) (by lia);have g2:=mk'.at_ (j:Int) (by lia) (by lia);by_cases z:inF rs n (j:Int)
   ·have hm:(j:Int)∈frL rs n k:=by
     unfold frL GU;exact List.mem_filter.mpr ⟨List.mem_map.mpr ⟨j,List.mem_range.mpr hj,rfl⟩,decide_eq_true z⟩
    have:=List.map_inj_left.mp e1 _ hm;unfold gA at this
    rwa [Int.toNat_natCast] at this
   ·rw [YT hc z] at g1;rw [YT hc' z] at g2;unfold gA at g1 g2;rw [Int.toNat_natCast] at g1 g2;rw [g1,g2]
  ·have d1:=mk.dn;have d2:=mk'.dn;by_cases y1:m.getD j 0=0
   ·by_cases y2:m'.getD j 0=0
    ·rw [y1,y2]
    ·rw [if_pos y1,if_neg y2] at e2;cases e2
   ·by_cases y2:m'.getD j 0=0
    ·rw [if_neg y1,if_pos y2] at e2;cases e2
    ·have f1:m.getD j 0=-2:=by
      rw [d1];by_cases u:degF rs c s≠0/\lab s=lab t
      ·rw [d1,if_pos u] at y1;exact absurd rfl y1
      ·rw [if_neg u]
     have f2:m'.getD j 0=-2:=by
      rw [d2];by_cases u:degF rs c' s≠0/\lab' s=lab' t
      ·rw [d2,if_pos u] at y2;exact absurd rfl y2
      ·rw [if_neg u]
     rw [f1,f2]
 refine List.ext_getElem (by rw [hl,hl']) λj h1 h2=>?_;have:=at_ j (by lia)
 rwa [XY h1,XY h2] at this
theorem X3 {rs:List (Int×Int)}{k n:Nat}{s t:Int}{c o:LI}(ho:∀q∈o,(n:Int)<=q):∀j:Nat,j<=n->G4 rs k s t (c++o) j=G4 rs k s t c j
 | 0,_=>rfl
 | j+1,hj=>by
  have ih:=X3 (rs:=rs) (k:=k) (s:=s) (t:=t) (c:=c) ho j (by lia);show (G4 rs k s t (c++o) j).bind _=(G4 rs k s t c j).bind _;rw [ih]
  congr 1
  funext m
  congr 1
  refine decide_eq_decide.mpr ⟨λz=>?_,λz=>List.mem_append.mpr (.inl z)⟩;rcases List.mem_append.mp z with z | z
  ·exact z
  ·have:=ho _ z
   lia
theorem Zde {rs:List (Int×Int)}{k n:Nat}{s t:Int}{c c' o:LI}(hc:∀q∈c,0<=q/\q<(n:Int))(hc':∀q∈c',0<=q/\q<(n:Int))(ho:∀q∈o,(n:Int)<=q)(e:G4 rs k s t c n=G4 rs k s t c' n):∀i:Nat,G4 rs k s t (c++o) (n+i)=G4 rs k s t (c'++o) (n+i)
 | 0=>by rw [Nat.add_zero,X3 ho n (Nat.le_refl _),X3 ho n (Nat.le_refl _),e]
 | i+1=>by
  have ih:=Zde (o:=o) hc hc' ho e i;show (G4 rs k s t (c++o) (n+i)).bind _=(G4 rs k s t (c'++o) (n+i)).bind _;rw [ih]
  congr 1
  funext m
  congr 1
  have go:∀d:LI,(∀q∈d,0<=q/\q<(n:Int))->(((n+i:Nat):Int)∈d++o↔((n+i:Nat):Int)∈o):=λd hd=>by
   refine ⟨λz=>?_,λz=>List.mem_append.mpr (.inr z)⟩;rcases List.mem_append.mp z with z | z
   ·have:=hd _ z
    lia
   ·exact z
  exact decide_eq_decide.mpr ((go c hc).trans (go c' hc').symm)
def Way (rs:List (Int×Int))(k s t:Int)(c:LI):Prop:=∃lab,OL rs c=some lab/\∀x,0<=x->x<k->((x=s\/x=t)->degF rs c x=1)/\(x≠s->x≠t->degF rs c x=0\/degF rs c x=2)/\(0<degF rs c x->lab x=lab s)
theorem Zbh {rs:List (Int×Int)}{k:Nat}{s t:Int}{c:LI}(hst:s≠t)(hs:0<=s/\s<(k:Int))(ht:0<=t/\t<(k:Int))(hr:∀r∈rs,0<=r.1/\r.1<r.2/\r.2<(k:Int))(hc:∀q∈c,0<=q/\q<(rs.length:Int)) :
  Way rs k s t c↔Hop rs k s t (rs.length:Int) c:=by
 constructor
 ·rintro ⟨lab,e,h⟩;refine ⟨lab,e,λx=>?_,λy hy=>?_,λx x0 x1 xs xt z=>?_,λ_ _ x x0 x1=>?_⟩
  ·by_cases hx:0<=x/\x<(k:Int)
   ·obtain ⟨a,b,_⟩:=h x hx.1 hx.2;by_cases z:x=s\/x=t
    ·rw [a z];decide
    ·rcases b (λu=>z (.inl u)) (λu=>z (.inr u)) with u | u <;> rw [u] <;> decide
   ·rw [Zbe hr hc hx];decide
  ·have:degF rs c y=1:=by
    rcases hy with rfl | rfl
    ·exact (h y hs.1 hs.2).1 (.inl rfl)
    ·exact (h y ht.1 ht.2).1 (.inr rfl)
   exact ⟨by lia,λz=>by have:=z.2;lia⟩
  ·rcases (h x x0 x1).2.1 xs xt with u | u <;> have:=z.2 <;> lia
  ·rcases Nat.eq_zero_or_pos (degF rs c x) with z | z
   ·exact .inl z
   ·exact .inr ((h x x0 x1).2.2 z)
 ·rintro ⟨lab,e,h⟩;have last:∀x,Gq rs x<(rs.length:Int):=λx=>(Ua rs x rs.length).2;have d1:∀y,(y=s\/y=t)->degF rs c y=1:=λy hy=>by
   have:=h.en y hy;have l:=last y;rcases Nat.eq_zero_or_pos (degF rs c y) with z | z
   ·exact absurd ⟨l,z⟩ this.2
   ·have:=this.1
    lia
  have ne:∀q∈c,(rdAt rs q).1≠(rdAt rs q).2:=λq hq=>by
   have hq:=hc q hq;have:rdAt rs q∈rs:=by
    unfold rdAt;rw [List.getD_eq_getElem?_getD,List.getElem?_eq_getElem (by lia)];exact List.getElem_mem _
   have:=hr _ this
   lia
  obtain ⟨mate,M⟩:=Ws rs c lab ne e h.two;have ms:=M.m s (d1 s (.inl rfl));have rg:=On hr c hc (mate s) (by rw [ms.1];decide);have mt:mate s=t:=by
   by_cases z:mate s=t
   ·exact z
   ·exact absurd ⟨last _,ms.1⟩ (h.no (mate s) rg.1 rg.2 ms.2.1 z)
  have lt:lab s=lab t:=by rw [<-mt];exact ms.2.2.symm
  refine ⟨lab,e,λx x0 x1=>⟨d1 x,λxs xt=>?_,λz=>?_⟩⟩
  ·have:=h.no x x0 x1 xs xt;have l:=last x;have:=h.two x;by_cases z:degF rs c x=1
   ·exact absurd ⟨l,z⟩ (h.no x x0 x1 xs xt)
   ·lia
  ·rcases h.dn (by rw [d1 s (.inl rfl)];decide) lt x x0 x1 with u | u
   ·lia
   ·exact u
def Zd5 (rs:List (Int×Int))(k:Nat)(s t:Int)(c:LI):Bool:=(G4 rs k s t c rs.length).isSome
theorem Wy {rs:List (Int×Int)}{k:Nat}{s t:Int}{c:LI}(hst:s≠t)(hs:0<=s/\s<(k:Int))(ht:0<=t/\t<(k:Int))(hr:∀r∈rs,0<=r.1/\r.1<r.2/\r.2<(k:Int))(hp:c.Pairwise (· < ·))(hc:∀q∈c,0<=q/\q<(rs.length:Int)) :
  Way rs k s t c↔Zd5 rs k s t c=true:=by
 rw [Zbh hst hs ht hr hc];unfold Zd5;rcases Vk hst hs.1 hs.2 ht.1 ht.2 hr (Nat.le_refl rs.length) hc hp with ⟨m,e,lab,h1,h2,_⟩ | ⟨e,h⟩
 ·rw [e];exact ⟨λ_=>rfl,λ_=>⟨lab,h1,h2⟩⟩
 ·rw [e];exact ⟨λz=>absurd z h,λz=>by cases z⟩
theorem Zd6 {rs:List (Int×Int)}{k n:Nat}{s t:Int}{c c' o:LI}(hn:n<=rs.length)(hc:∀q∈c,0<=q/\q<(n:Int))(hc':∀q∈c',0<=q/\q<(n:Int))(ho:∀q∈o,(n:Int)<=q)(e:G4 rs k s t c n=G4 rs k s t c' n):Zd5 rs k s t (c++o)=Zd5 rs k s t (c'++o):=by
 unfold Zd5;have:=Zde hc hc' ho e (rs.length-n);rw [show n+(rs.length-n)=rs.length by lia] at this;rw [this]
end M
namespace M
open PySem L2
abbrev KI:=List (LI×Int)
def X4 (ks:KI)(m:LI):Option Int:=(ks.find? λp=>decide (p.1=m)).map (·.2)
def ZcB (ks:KI)(m:LI)(n:Int):KI:=if (ks.any λp=>decide (p.1=m))=true then ks.map (λp=>if p.1=m then (p.1,n) else p) else ks++[(m,n)]
theorem inl_inj {a b:LI}:a.map (Sum.inl:Int->Key)=b.map Sum.inl↔a=b:=by
 refine ⟨λh=>?_,λh=>by rw [h]⟩;have:=congrArg (List.map λx:Key=>match x with | .inl i=>i | .inr _=>0) h
 rwa [List.map_map,List.map_map,show ((λx:Key=>match x with | .inl i=>i | .inr _=>0)∘(Sum.inl:Int->Key))=id from rfl,List.map_id,List.map_id] at this
theorem Wz (ks:KI)(m:LI):Od (ks.map kvI) (m.map Sum.inl)=(X4 ks m).map V.int:=by
 induction ks with
 | nil=>rfl
 | cons p ks ih=>
  unfold Od X4 at *;rw [List.map_cons,List.find?_cons,List.find?_cons];by_cases h:p.1=m
  ·rw [show decide ((kvI p).1=m.map Sum.inl)=true from decide_eq_true (by show p.1.map Sum.inl=_;rw [h]),decide_eq_true h]
   rfl
  ·rw [show decide ((kvI p).1=m.map Sum.inl)=false from decide_eq_false (λz=>h (inl_inj.mp z)),decide_eq_false h];exact ih
theorem X5 (ks:KI)(m:LI)(n:Int):putK (ks.map kvI) (m.map Sum.inl) (.int n)=(ZcB ks m n).map kvI:=by
 unfold putK ZcB;have e:((ks.map kvI).any λkv=>decide (kv.1=m.map Sum.inl))=ks.any λp=>decide (p.1=m):=by
  rw [List.any_map]
  congr 1
  funext p
  exact decide_eq_decide.mpr inl_inj
 rw [e];by_cases h:(ks.any λp=>decide (p.1=m))=true
 ·rw [if_pos h,if_pos h,List.map_map,List.map_map];refine List.map_congr_left λp _=>?_;show (if p.1.map Sum.inl=m.map Sum.inl then (p.1.map Sum.inl,V.int n) else kvI p)=kvI (if p.1=m then (p.1,n) else p);by_cases z:p.1=m
  ·rw [if_pos z,if_pos (inl_inj.mpr z)]
  ·rw [if_neg z,if_neg (λy=>z (inl_inj.mp y))]
 ·rw [if_neg h,if_neg h,List.map_append]
  rfl
def X6 (ks:KI):List (LI):=ks.flatMap λp=>List.replicate p.2.toNat p.1
structure Rep (ks:KI)(R:List (LI)):Prop where
 nd:(ks.map (·.1)).Nodup
 pos:∀p∈ks,0<p.2
 pm:(X6 ks).Perm R
theorem Rep.perm {ks:KI}{R R':List (LI)}(h:Rep ks R)(p:R.Perm R'):Rep ks R':=⟨h.nd,h.pos,h.pm.trans p⟩
theorem Rep.nil:Rep [] []:=⟨List.nodup_nil,by simp,.refl _⟩
theorem YU (a b:KI):X6 (a++b)=X6 a++X6 b:=List.flatMap_append
theorem JU (p:LI×Int)(a:KI):X6 (p::a)=List.replicate p.2.toNat p.1++X6 a:=List.flatMap_cons
theorem Rep.put {ks:KI}{R:List (LI)}(h:Rep ks R){m:LI}{n:Int}(hn:0<n):Rep (ZcB ks m ((X4 ks m).getD 0+n)) (R++List.replicate n.toNat m):=by
 by_cases c:(ks.any λp=>decide (p.1=m))=true
 ·obtain ⟨p,hp,e⟩:=List.any_eq_true.mp c;have e:p.1=m:=of_decide_eq_true e;obtain ⟨a,b,rfl⟩:=List.append_of_mem hp;have nd:=h.nd;rw [List.map_append,List.map_cons,List.nodup_append,List.nodup_cons] at nd;obtain ⟨na,⟨nb,nb2⟩,nab⟩:=nd;have ha:∀q∈a,q.1≠m:=λq hq z=>nab q.1 (List.mem_map.mpr ⟨q,hq,rfl⟩) p.1 (List.mem_cons_self ..) (z.trans e.symm);have hb:∀q∈b,q.1≠m:=λq hq z=>nb (by rw [e,<-z];exact List.mem_map.mpr ⟨q,hq,rfl⟩);have g:X4 (a++p::b) m=some p.2:=by
   unfold X4;rw [List.find?_append,List.find?_eq_none.mpr (λq hq=>by simpa using ha q hq),Option.none_or,List.find?_cons,decide_eq_true e]
   rfl
  have ea:a.map (λq=>if q.1=m then (q.1,p.2+n) else q)=a:=by
   conv=>rhs;rw [<-List.map_id a]
   exact List.map_congr_left λq hq=>if_neg (ha q hq)
  have eb:b.map (λq=>if q.1=m then (q.1,p.2+n) else q)=b:=by
   conv=>rhs;rw [<-List.map_id b]
   exact List.map_congr_left λq hq=>if_neg (hb q hq)
  have pp:=h.pos p hp;rw [g];show Rep (ZcB _ m (p.2+n)) _;unfold ZcB;rw [if_pos c,List.map_append,List.map_cons,ea,eb,if_pos e];refine ⟨?_,λq hq=>?_,?_⟩
  ·rw [List.map_append,List.map_cons,List.nodup_append,List.nodup_cons];exact ⟨na,⟨nb,nb2⟩,nab⟩
  ·rcases List.mem_append.mp hq with hq | hq
   ·exact h.pos q (List.mem_append_left _ hq)
   ·rcases List.mem_cons.mp hq with rfl | hq
    ·show 0<p.2+n
     lia
    ·exact h.pos q (List.mem_append_right _ (List.mem_cons_of_mem _ hq))
  ·have:=h.pm;rw [YU,JU] at this ⊢;refine List.Perm.trans ?_ (this.append_right _);show (X6 a++(List.replicate (p.2+n).toNat p.1++X6 b)).Perm _;rw [show (p.2+n).toNat=p.2.toNat+n.toNat by lia,<-List.replicate_append_replicate,List.append_assoc,List.append_assoc,List.append_assoc,e];exact List.Perm.append_left _ (List.Perm.append_left _ List.perm_append_comm)
 ·have hm:∀q∈ks,q.1≠m:=λq hq z=>c (List.any_eq_true.mpr ⟨q,hq,decide_eq_true z⟩);have g:X4 ks m=none:=by
   unfold X4;rw [List.find?_eq_none.mpr (λq hq=>by simpa using hm q hq)]
   rfl
  rw [g];show Rep (ZcB ks m (0+n)) _;rw [Int.zero_add];unfold ZcB;rw [if_neg c];refine ⟨?_,λq hq=>?_,?_⟩
  ·rw [List.map_append,List.nodup_append];refine ⟨h.nd,by simp,λx hx y hy z=>?_⟩;obtain ⟨q,hq,rfl⟩:=List.mem_map.mp hx;have hy:y=m:=by simpa using hy
   exact hm q hq (z.trans hy)
  ·rcases List.mem_append.mp hq with hq | hq
   ·exact h.pos q hq
   ·rw [List.mem_singleton.mp hq];exact hn
  ·rw [YU,JU];exact h.pm.append (by show (List.replicate n.toNat m++[]).Perm _;rw [List.append_nil])
theorem Rep.mem {ks:KI}{R:List (LI)}(h:Rep ks R){p:LI×Int}(hp:p∈ks):p.1∈R:=by
 refine h.pm.mem_iff.mp ?_;unfold X6;have:=h.pos p hp;exact List.mem_flatMap.mpr ⟨p,hp,List.mem_replicate.mpr ⟨by lia,rfl⟩⟩
theorem Rep.len {ks:KI}{R:List (LI)}(h:Rep ks R):ks.length<=R.length:=by
 rw [<-h.pm.length_eq];have:∀ks:KI,(∀p∈ks,0<p.2)->ks.length<=(X6 ks).length:=by
  intro ks
  induction ks with
  | nil=>intro _;exact Nat.le_refl _
  | cons p ks ih=>
   intro hp;have h1:=hp p (List.mem_cons_self ..);have h2:=ih λq hq=>hp q (List.mem_cons_of_mem _ hq);rw [JU,List.length_append,List.length_replicate,List.length_cons]
   lia
 exact this ks h.pos
theorem Xq {ks:KI}(nd:(ks.map (·.1)).Nodup){p:LI×Int}(hp:p∈ks):(X6 ks).count p.1=p.2.toNat:=by
 induction ks with
 | nil=>cases hp
 | cons q ks ih=>
  rw [List.map_cons,List.nodup_cons] at nd;rw [JU,List.count_append];rcases List.mem_cons.mp hp with rfl | hp
  ·rw [List.count_replicate_self,List.count_eq_zero.mpr,Nat.add_zero];intro hm;obtain ⟨r,hr,hm⟩:=List.mem_flatMap.mp hm;have:=(List.mem_replicate.mp hm).2;exact nd.1 (by rw [this];exact List.mem_map.mpr ⟨r,hr,rfl⟩)
  ·have hne:q.1≠p.1:=λz=>nd.1 (by rw [z];exact List.mem_map.mpr ⟨p,hp,rfl⟩);rw [List.count_replicate,if_neg (by simpa using hne),Nat.zero_add,ih nd.2 hp]
theorem Rep.sub {a b:KI}{R:List (LI)}(ha:Rep a R)(hb:Rep b R){p:LI×Int}(hp:p∈a):p∈b:=by
 have hm:=hb.pm.mem_iff.mpr (ha.mem hp);obtain ⟨q,hq,hm⟩:=List.mem_flatMap.mp hm;have e:p.1=q.1:=(List.mem_replicate.mp hm).2;have c1:=Xq ha.nd hp;have c2:=Xq hb.nd hq;rw [<-e,hb.pm.count_eq,<-ha.pm.count_eq,c1] at c2;have h1:=ha.pos p hp;have h2:=hb.pos q hq;have:p=q:=Prod.ext e (by lia);rw [this];exact hq
theorem YV {ks:KI}(nd:(ks.map (·.1)).Nodup):ks.Nodup:=by
 unfold List.Nodup at *;rw [List.pairwise_map] at nd;exact nd.imp λh z=>h (by rw [z])
theorem Rep.same {a b:KI}{R:List (LI)}(ha:Rep a R)(hb:Rep b R):a.Perm b:=(List.perm_ext_iff_of_nodup (YV ha.nd) (YV hb.nd)).mpr λp=>⟨ha.sub hb,hb.sub ha⟩
theorem Rep.mapW {ks:KI}{R:List (LI)}(h:Rep ks R){W:LI->LI}(inj:∀x∈R,∀y∈R,W x=W y->x=y):Rep (ks.map λp=>(W p.1,p.2)) (R.map W):=by
 refine ⟨?_,λp hp=>?_,?_⟩
 ·rw [List.map_map];have nd:=h.nd;unfold List.Nodup at *;rw [List.pairwise_map] at nd ⊢;exact nd.imp_of_mem λ{p q} hp hq hne z=>hne (inj _ (h.mem hp) _ (h.mem hq) z)
 ·obtain ⟨q,hq,rfl⟩:=List.mem_map.mp hp;exact h.pos q hq
 ·have e:X6 (ks.map λp=>(W p.1,p.2))=(X6 ks).map W:=by
   unfold X6;rw [List.flatMap_map,List.map_flatMap]
   congr 1
   funext p
   show List.replicate p.2.toNat (W p.1)=_;rw [List.map_replicate]
  rw [e];exact h.pm.map W
theorem VN:∀{l l':KI},l.Perm l'->l.Pairwise (λa b=>UA b a=false)->l'.Pairwise (λa b=>UA b a=false)->l=l'
 | [],l',p,_,_=>(List.nil_perm.mp p).symm
 | x::l,[],p,_,_=>absurd p.length_eq (by simp)
 | x::l,y::l',p,h1,h2=>by
  obtain ⟨a1,a2⟩:=List.pairwise_cons.mp h1;obtain ⟨b1,b2⟩:=List.pairwise_cons.mp h2;have e:x=y:=by
   rcases List.mem_cons.mp (p.mem_iff.mp (List.mem_cons_self ..)) with z | z
   ·exact z
   ·rcases List.mem_cons.mp (p.mem_iff.mpr (List.mem_cons_self ..)) with u | u
    ·exact u.symm
    ·exact Za1 (b1 x z) (a1 y u) |> λh=>h
  subst e;rw [VN (List.perm_cons x |>.mp p) a2 b2]
theorem YW {α β:Type}(l:List α)(f g:α->List β):(l.flatMap f++l.flatMap g).Perm (l.flatMap λx=>f x++g x):=by
 induction l with
 | nil=>exact .refl _
 | cons x l ih=>
  rw [List.flatMap_cons,List.flatMap_cons,List.flatMap_cons,List.append_assoc,List.append_assoc];refine List.Perm.append_left _ ?_;refine List.Perm.trans ?_ (List.Perm.append_left _ ih);rw [<-List.append_assoc,<-List.append_assoc];exact List.perm_append_comm.append_right _
theorem ZcC {α β:Type}(n:Nat)(x:α)(f:α->List β):((List.replicate n x).flatMap f).Perm ((f x).flatMap λy=>List.replicate n y):=by
 induction n with
 | zero=>simp
 | succ n ih=>
  rw [List.replicate_succ,List.flatMap_cons];refine (List.Perm.append_left _ ih).trans ?_;have h:=YW (f x) (λy=>[y]) (λy=>List.replicate n y);rw [List.flatMap_singleton'] at h;exact h
def fS (rs:List (Int×Int))(s t:Int)(j:Nat)(m:LI):List (LI):=(VJ rs s t m j false).toList++(VJ rs s t m j true).toList
def RJ (rs:List (Int×Int))(k:Nat)(s t:Int):Nat->List (LI)
 | 0=>(Jb rs k s t).toList
 | j+1=>(RJ rs k s t j).flatMap (fS rs s t j)
theorem ZcD (rs:List (Int×Int))(s t:Int)(j:Nat)(ks:KI):(ks.flatMap λp=>(fS rs s t j p.1).flatMap λm=>List.replicate p.2.toNat m).Perm ((X6 ks).flatMap (fS rs s t j)):=by
 induction ks with
 | nil=>exact .refl _
 | cons p ks ih=>
  rw [JU,List.flatMap_cons,List.flatMap_append];exact (ZcC _ _ _).symm.append ih
theorem Zbi {rs:List (Int×Int)}{k:Nat}{s t:Int}{c:LI}{n:Int}:∀j:Nat,(j:Int)<=n->G4 rs k s t (c++[n]) j=G4 rs k s t c j
 | 0,_=>rfl
 | j+1,hj=>by
  show (G4 rs k s t (c++[n]) j).bind _=(G4 rs k s t c j).bind _;rw [Zbi j (by lia)]
  congr 1
  funext m
  congr 1
  refine decide_eq_decide.mpr ⟨λz=>?_,λz=>List.mem_append_left _ z⟩;rcases List.mem_append.mp z with z | z
  ·exact z
  ·have:(j:Int)=n:=by simpa using z
   lia
theorem YX {rs:List (Int×Int)}{k:Nat}{s t:Int}{c:LI}{j:Nat}(hc:∀q∈c,q<(j:Int)):G4 rs k s t c (j+1)=(G4 rs k s t c j).bind (λm=>VJ rs s t m j false)/\G4 rs k s t (c++[(j:Int)]) (j+1)=(G4 rs k s t c j).bind (λm=>VJ rs s t m j true):=by
 constructor
 ·show (G4 rs k s t c j).bind (λm=>VJ rs s t m j (decide ((j:Int)∈c)))=_;rw [decide_eq_false (λz=>by have:=hc _ z;lia)]
 ·show (G4 rs k s t (c++[(j:Int)]) j).bind (λm=>VJ rs s t m j (decide ((j:Int)∈c++[(j:Int)])))=_;rw [Zbi j (Int.le_refl _),decide_eq_true (List.mem_append_right _ (List.mem_singleton.mpr rfl))]
theorem Zdf {rs:List (Int×Int)}{k:Nat}{s t:Int}:∀{j:Nat}{m:LI},m∈RJ rs k s t j->∃c,Valid c j/\G4 rs k s t c j=some m
 | 0,m,h=>⟨[],⟨List.Pairwise.nil,by simp⟩,by
  have h:m∈(Jb rs k s t).toList:=h;rw [Option.mem_toList] at h;exact h⟩
 | j+1,m,h=>by
  obtain ⟨m0,h0,h1⟩:=List.mem_flatMap.mp h;obtain ⟨c,V,e⟩:=Zdf h0;have nx:=YX (rs:=rs) (k:=k) (s:=s) (t:=t) (c:=c) (j:=j) λq hq=>(V.2 q hq).2;rw [e] at nx;rcases List.mem_append.mp h1 with h1 | h1
  ·rw [Option.mem_toList] at h1;exact ⟨c,⟨V.1,λq hq=>by have:=V.2 q hq;lia⟩,nx.1.trans h1⟩
  ·rw [Option.mem_toList] at h1;refine ⟨c++[(j:Int)],⟨List.pairwise_append.mpr ⟨V.1,List.pairwise_singleton _ _,λa ha b hb=>?_⟩,λq hq=>?_⟩,nx.2.trans h1⟩
   ·have:=(V.2 a ha).2;have hb:b=(j:Int):=by simpa using hb
    lia
   ·rcases List.mem_append.mp hq with hq | hq
    ·have:=V.2 q hq;lia
    ·have:q=(j:Int):=by simpa using hq
     lia
theorem Zbj {α β:Type}(l:List α)(f:α->Option β):l.filterMap f=l.flatMap λx=>(f x).toList:=by
 induction l with
 | nil=>rfl
 | cons x l ih=>
  rw [List.filterMap_cons,List.flatMap_cons,<-ih];cases f x <;> rfl
theorem WA {α β:Type}{f g:α->Option β}:∀{l:List α},(∀x∈l,f x=g x)->l.filterMap f=l.filterMap g
 | [],_=>rfl
 | x::l,h=>by
  rw [List.filterMap_cons,List.filterMap_cons,h x (List.mem_cons_self ..),WA λy hy=>h y (List.mem_cons_of_mem _ hy)]
end M
namespace M
open PySem L2
section
variable {P:PP}{w:Ab}{K:FF}{mg:Str->Option Aa}{base:Heap}
def SameX (d:AD)(H H':Hp):Prop:=∀a u,a≠d->H a=some u->H' a=some u
theorem SameX.of {d:AD}{H H':Hp}(s:Same H H'):SameX d H H':=λa u _ e=>s a u e
theorem SameX.trans {d:AD}{H H' H'':Hp}(a:SameX d H H')(b:SameX d H' H''):SameX d H H'':=λc u n e=>b c u n (a c u n e)
theorem Zbk {ks:KI}(nd:(ks.map (·.1)).Nodup){p:LI×Int}(hp:p∈ks):X4 ks p.1=some p.2:=by
 obtain ⟨a,b,rfl⟩:=List.append_of_mem hp;rw [List.map_append,List.map_cons,List.nodup_append] at nd;unfold X4;rw [List.find?_append,List.find?_eq_none.mpr,Option.none_or,List.find?_cons,decide_eq_true rfl]
 ·rfl
 ·intro q hq;have:=nd.2.2 q.1 (List.mem_map.mpr ⟨q,hq,rfl⟩) p.1 (List.mem_cons_self ..);simpa using this
def Zhe:Sp:=λvs H Q _=>∃(d e:AD)(x:V)(ks:KI)(rs:List (Int×Int))(s t:Int)(j:Nat)(R:List (LI)),vs=[.ref d,x,.ref e]/\H d=some (.dT (ks.map kvI))/\StepAt H x rs s t j/\EndD H e s t/\(∀p∈ks,Zgx rs j p.1)/\Rep ks R/\R.length<=2 ^ 21 /\
 ∀(d':AD)(ks':KI)(H':Hp),SameX d H H'->H d'=none->H' d'=some (.dT (ks'.map kvI))->Rep ks' (R.flatMap (fS rs s t j))->Q (.ref d') H'
theorem scBs:Gk ["numbers", "step", "ends", "ahead", "known", "chosen", "marks"] ["numbers", "step", "ends"] (Gf sBs):=⟨rfl,rfl,rfl,by decide +kernel,rfl,by decide +kernel,by decide +kernel⟩
theorem Zfp (rs:List (Int×Int))(s t:Int)(j:Nat)(x:LI):(fS rs s t j x).length<=2:=by
 unfold fS;rw [List.length_append];cases VJ rs s t x j false <;> cases VJ rs s t x j true <;> simp
def ZH (rs:List (Int×Int))(s t:Int)(j c:Nat)(p:LI×Int):List (LI):=([false,true].take c).flatMap λch=>(VJ rs s t p.1 j ch).toList.flatMap λm=>List.replicate p.2.toNat m
theorem ZcE (rs:List (Int×Int))(s t:Int)(j:Nat)(p:LI×Int):ZH rs s t j 2 p=(fS rs s t j p.1).flatMap λm=>List.replicate p.2.toNat m:=by
 unfold ZH fS;rw [List.flatMap_append];simp
def ZI (rs:List (Int×Int))(s t:Int)(j:Nat)(ks:KI):List (LI):=ks.flatMap λp=>(fS rs s t j p.1).flatMap λm=>List.replicate p.2.toNat m
theorem Xr {rs:List (Int×Int)}{s t:Int}{j:Nat}{ks:KI}{R:List (LI)}(h:Rep ks R):(ZI rs s t j ks).Perm (R.flatMap (fS rs s t j)):=(ZcD rs s t j ks).trans (h.pm.flatMap_right _)
theorem Xs (rs:List (Int×Int))(s t:Int)(j:Nat)(ks:KI)(p:LI×Int):ZI rs s t j (ks++[p])=ZI rs s t j ks++ZH rs s t j 2 p:=by
 unfold ZI;rw [List.flatMap_append,ZcE];simp
theorem X7 (rs:List (Int×Int))(s t:Int)(j:Nat)(l:List (LI)):(l.flatMap (fS rs s t j)).length<=2 * l.length:=by
 induction l with
 | nil=>exact Nat.le_refl _
 | cons x l ih=>
  rw [List.flatMap_cons,List.length_append,List.length_cons];have:=Zfp rs s t j x
  lia
theorem Zbl {rs:List (Int×Int)}{s t:Int}{j:Nat}{ks:KI}{R:List (LI)}(h:Rep ks R)(i:Nat)(c:Nat)(p:LI×Int)(hp:ks[i]?=some p)(hc:c<=2):(ZI rs s t j (ks.take i)++ZH rs s t j c p).length<=2 * R.length:=by
 have h1:(ZI rs s t j ks).length<=2 * R.length:=by
  rw [(Xr h).length_eq];exact X7 rs s t j R
 have h2:(ZH rs s t j c p).length<=(ZH rs s t j 2 p).length:=by
  unfold ZH;have:([false,true].take 2)=([false,true].take 2).take c++([false,true].take 2).drop c:=(List.take_append_drop ..).symm;rw [this,List.flatMap_append,List.length_append,List.take_take,Nat.min_eq_left hc];exact Nat.le_add_right ..
 have h3:ks=ks.take (i+1)++ks.drop (i+1):=(List.take_append_drop ..).symm;have h4:ks.take (i+1)=ks.take i++[p]:=by rw [List.take_add_one,hp];rfl
 rw [h3,h4] at h1;have h5:ZI rs s t j (ks.take i++[p]++ks.drop (i+1))=ZI rs s t j (ks.take i++[p])++ZI rs s t j (ks.drop (i+1)):=List.flatMap_append;rw [h5,List.length_append,Xs,List.length_append] at h1;rw [List.length_append]
 lia
theorem ZgN {f fDe:AD}{fd fdDe:FuncData}(F:Fun K "behind_step" "behind_step" sBs f fd)(FDe:Fun K "decided" "decided" sDe fDe fdDe)(bDe:Binds K fdDe ["marks", "step", "ends", "chosen"] [])(mDe:mg "decided" = some (.ref fDe))(GDe:GG P w K mg base CX0 3 fDe fdDe ["marks", "step", "ends", "chosen"] Zgy) :
  GG P w K mg base CX0 4 f fd ["numbers", "step", "ends"] Zhe:=by
 refine F.ok scBs (λvs H Q E h=>?_) (λcdv A outer s0 H vs Q E hr h=>?_)
 ·obtain ⟨_,_,_,_,_,_,_,_,_,rfl,_⟩:=h
  rfl
 ·obtain ⟨d,e,x,ks,rs,s,t,j,R,rfl,hd,hx,he,hms,rep,hR,q⟩:=h;have hu1:(A.deeper (PyProof.Rows.envOfC "behind_step" (Gf sBs) s0.heap.objs.size f cdv)).units+1<cLine:=by have:=hr.un;lia
  have h16:(16777216:Nat)=sizeLine:=sizeLine_eq.symm;have hR2:2 * R.length<=4194304:=by have:2 ^ 21=2097152:=rfl;lia
  refine ⟨_,(@Gc _ _ _ _ _ (@Gp _ _ 3 _ _ _ _ scBs.nd rfl (Or.inl rfl) UK rfl (by first | exact .inl rfl | exact .inr rfl))
    (@Gc _ _ _ _ _ (@Jj _ _ _ _ _ _ _ _ PassesOwn.never rfl (YK (pv 0)) (Gi (i:=4) scBs.nd rfl (Or.inl rfl))
    (@Ge _ _ _ (@Jj _ _ _ _ _ _ _ _ PassesOwn.never rfl (ZdQ K (@JH _ _ _ _ _ (@Ga _ _ _ _ _ WI (@Ga _ _ _ _ _ WI Gd rfl) rfl))) (Gi (i:=5) scBs.nd rfl (Or.inl rfl))
    (@Gc _ _ _ _ _ (@Gp _ _ 6 _ _ _ _ scBs.nd rfl (Or.inl rfl) (@Gh _ _ _ _ _ _ _ _ _ _ _ _ _ _ _ _ GDe (hr.mono (by decide)) rfl mDe FDe.kp bDe .nil GN (@Ga _ _ _ _ _ (pv 4) (@Ga _ _ _ _ _ (pv 1) (@Ga _ _ _ _ _ (pv 2) (@Ga _ _ _ _ _ (pv 5) Gd rfl) rfl) rfl) rfl) (by decide) rfl rfl) rfl (by first | exact .inl rfl | exact .inr rfl))
    (@Ge _ _ _ (@Jd _ _ _ _ _ _ _ _ (Gr XB (pv 6) JP (Gz _)) (@Ge _ _ _ (Um hu1 (pv 3) (pv 6) (@GD _ _ _ _ _ _ _ _ Jk (V1 hu1 (pv 3) (pv 6) Gg ⟨rfl,rfl,rfl,rfl⟩) (VZ hu1 (pv 0) (pv 4) (λ_ _=>rfl))) rfl)) GA))) (by intro _;rfl))) (by intro _;rfl))
    (@Ge _ _ _ (@Gn _ _ _ _ (pv 3))))),?_⟩
  refine λa ha=>?_;have nad:a≠d:=λz=>by rw [z,hd] at ha;cases ha
  have s1:Same H (upd H a (.dT [])):=Same.new ha;have e1:upd H a (.dT []) a=some (.dT (([]:KI).map kvI)):=Gb;have hd1:=s1 _ _ hd;generalize upd H a (.dT [])=H1 at s1 e1 hd1 ⊢;dsimp only [GL];refine ⟨_,rfl,d,_,rfl,.inl ⟨hd1,λo=>?_⟩⟩;have s2:SameX d H1 (upd H1 d (.frz o (.dT (ks.map kvI)))):=λb u n y=>Gs y n;have hd2:upd H1 d (.frz o (.dT (ks.map kvI))) d=some (.frz o (.dT (ks.map kvI))):=Gb;have e2:upd H1 d (.frz o (.dT (ks.map kvI))) a=some (.dT (([]:KI).map kvI)):=Gs e1 nad;generalize upd H1 d (.frz o (.dT (ks.map kvI)))=H2 at s2 hd2 e2 ⊢;have S2:SameX d H H2:=(SameX.of s1).trans s2;have ked:∀{H':Hp},SameX d H H'->H' d=some (.frz o (.dT (ks.map kvI)))->EndD H' e s t:=λ{H'} sx _=>by
   obtain ⟨ne,o',eo⟩:=he;exact ⟨ne,o',sx e _ (λz=>by rw [z,hd] at eo;cases eo) eo⟩
  have kst:∀{H':Hp},SameX d H H'->StepAt H' x rs s t j:=λ{H'} sx=>by
   obtain ⟨T,r,lv,nd,ex,g1,g2,g3,g4⟩:=hx.ex;have n:∀{b u},H b=some u->(∀kvs,u≠.dT kvs)->b≠d:=λ{b u} y z y2=>by rw [y2,hd] at y;cases y;exact z _ rfl
   exact ⟨T,r,lv,nd,ex,sx _ _ (n g1 (λ_ z=>by cases z)) g1,sx _ _ (n g2 (λ_ z=>by cases z)) g2,sx _ _ (n g3 (λ_ z=>by cases z)) g3,sx _ _ (n g4 (λ_ z=>by cases z)) g4⟩
  refine ZaV (a:=d) (o:=o) (kvs:=ks.map kvI) (λi σ H3=>∃(v4 v5 v6:Option V)(acc:KI),σ=[some (.ref d),some x,some (.ref e),some (.ref a),v4,v5,v6]/\SameX d H H3/\H3 d=some (.frz o (.dT (ks.map kvI)))/\H3 a=some (.dT (acc.map kvI))/\Rep acc (ZI rs s t j (ks.take i)))
   ⟨none,none,none,[],rfl,S2,hd2,e2,Rep.nil⟩ (λi σ H3 _ ⟨_,_,_,_,_,_,y,_⟩=>y) ?_ ?_
  ·rintro i kk v b σ H3 hkv hb ⟨v4,v5,v6,acc,rfl,s3,hd3,e3,rp⟩;rw [List.getElem?_map] at hkv;obtain ⟨p,hp,ep⟩:=Option.map_eq_some_iff.mp hkv;cases ep;have hpm:=List.mem_of_getElem? hp;rw [Vh] at hb;refine ⟨J8,λT hT=>?_⟩;have s4:Same H3 (upd H3 T (.tup [.bl false,.bl true])):=Same.new hT;have e4:upd H3 T (.tup [.bl false,.bl true]) T=some (.tup [.bl false,.bl true]):=Gb;generalize upd H3 T (.tup [.bl false,.bl true])=H4 at s4 e4 ⊢;refine ⟨T,rfl,⟨_,SqT.of e4⟩,?_⟩;refine ZP (K:=K) (a:=T) (xs:=[.bl false,.bl true]) (λc σ H5=>c<=2/\∃(v5 v6:Option V)(acc:KI),σ=[some (.ref d),some x,some (.ref e),some (.ref a),some (.ref b),v5,v6]/\SameX a H4 H5/\SameX d H H5/\H5 d=some (.frz o (.dT (ks.map kvI)))/\H5 a=some (.dT (acc.map kvI))/\Rep acc (ZI rs s t j (ks.take i)++ZH rs s t j c p))
    ⟨by decide,_,_,acc,rfl,λ_ _ _ y=>y,s3.trans (SameX.of s4),s4 _ _ hd3,s4 _ _ e3,by simpa [ZH] using rp⟩ (λc σ H5 _ ⟨_,_,_,_,_,sx,_⟩=>SqT.of (sx _ _ (G6 e4 (s4 _ _ e3) (λz=>by cases z)) e4)) ?_ ?_
   ·rintro c y σ H5 hy ⟨hc2,v5,v6,acc,rfl,sx,s5,hd5,e5,rp⟩;have hcl:c<2:=(List.getElem?_eq_some_iff.mp hy).1;obtain ⟨ch,rfl,hch⟩:∃ch:Bool,y=.bl ch/\[false,true][c]?=some ch:=by
     rcases (by lia:c=0\/c=1) with rfl | rfl
     ·cases hy;exact ⟨_,rfl,rfl⟩
     ·cases hy;exact ⟨_,rfl,rfl⟩
    have hb5:H5 b=some (.tup (p.1.map V.int)):=sx _ _ (G6 (s4 _ _ hb) (s4 _ _ e3) (λz=>by cases z)) (s4 _ _ hb);have one1:ZH rs s t j (c+1) p=ZH rs s t j c p++(VJ rs s t p.1 j ch).toList.flatMap λm=>List.replicate p.2.toNat m:=by
     unfold ZH;rw [List.take_add_one,hch,List.flatMap_append];simp
    refine ⟨_,rfl,_,rfl,_,rfl,_,rfl,b,e,x,p.1,rs,s,t,j,ch,rfl,hb5,kst s5,ked s5 hd5,hms p hpm,λH6 s6 z=>?_,λT2 m' H6 s6 eT z=>?_⟩
    ·refine ⟨_,rfl,rfl,_,rfl,Jw ?_⟩;exact ⟨by lia,_,_,acc,rfl,sx.trans (SameX.of s6),s5.trans (SameX.of s6),s6 _ _ hd5,s6 _ _ e5,by rw [one1,z];simpa using rp⟩
    ·refine ⟨_,rfl,rfl,_,rfl,?_⟩;rw [decide_eq_false (by intro z;cases z)];refine G5 ?_;have pp:=rep.pos p hpm;have hd6:=s6 _ _ hd5;have e6:=s6 _ _ e5;have eTk:H6 T2=some (.tup ((m'.map (Sum.inl:Int->Key)).map kV)):=by rw [Vh];exact eT
     have ebk:H6 b=some (.tup ((p.1.map (Sum.inl:Int->Key)).map kV)):=by rw [Vh];exact s6 _ _ hb5
     have vb:Od (ks.map kvI) (p.1.map Sum.inl)=some (.int p.2):=by rw [Wz,Zbk rep.nd hpm];rfl
     have hal:acc.length<=4194304:=Nat.le_trans (Nat.le_trans rp.len (Zbl rep i c p hp (by lia))) hR2;have ev:(Od (acc.map kvI) (m'.map Sum.inl)).getD (.int 0)=.int ((X4 acc m').getD 0):=by rw [Wz];cases X4 acc m' <;> rfl
     refine ⟨_,rfl,a,rfl,.inr ⟨_,.inl e6⟩,_,rfl,_,DGet.t e6 eTk,?_⟩;rw [ev];have dg:DGet H6 d (.ref b) (some (.int p.2)):=by rw [<-vb];exact Or.inr ⟨_,_,b,.inr ⟨o,hd6⟩,rfl,ebk,rfl⟩
     refine ⟨_,rfl,_,rfl,d,_,rfl,dg,_,_,rfl,rfl,?_⟩;refine ⟨_,rfl,_,rfl,a,_,rfl,DPut.t e6 eTk (by rw [List.length_map];lia),?_⟩;rw [X5];have nda:d≠a:=Ne.symm nad;refine ⟨by lia,_,_,ZcB acc m' ((X4 acc m').getD 0+p.2),rfl,(sx.trans (SameX.of s6)).trans (λc' u n y=>Gs y n),?_,Gs hd6 nda,Gb,?_⟩
     ·intro c' u n y;have y6:=s6 _ _ (s5 c' u n y);exact Gs y6 (λz=>by rw [z] at y;rw [ha] at y;cases y)
     ·have:=rp.put (m:=m') (n:=p.2) pp;rw [one1,z,<-List.append_assoc];simpa using this
   ·rintro σ H5 ⟨_,v5,v6,acc,rfl,sx,s5,hd5,e5,rp⟩;refine ⟨_,_,_,acc,rfl,s5,hd5,e5,?_⟩;rw [List.take_add_one,hp];show Rep acc (ZI rs s t j (ks.take i++[p]));rw [Xs];exact rp
  ·rintro σ H3 ⟨v4,v5,v6,acc,rfl,s3,hd3,e3,rp⟩;rw [List.length_map,List.take_length] at rp;exact ⟨_,rfl,q a acc H3 s3 ha e3 (rp.perm (Xr rep))⟩
end
end M
namespace M
open PySem L2
section
variable {P:PP}{w:Ab}{K:FF}{mg:Str->Option Aa}{base:Heap}
theorem Zbm {rs:List (Int×Int)}{k:Nat}{s t:Int}{j:Nat}{m:LI}(hst:s≠t)(hs:0<=s/\s<(k:Int))(ht:0<=t/\t<(k:Int))(g:GS (k:Int) rs)(hj:j<=rs.length)(h:m∈RJ rs k s t j):∃c,Valid c j/\G4 rs k s t c j=some m/\XZ rs k s t j c m:=by
 obtain ⟨c,V,e⟩:=Zdf h;refine ⟨c,V,e,?_⟩;rcases Vk hst hs.1 hs.2 ht.1 ht.2 g.2.2.2.1 hj V.2 V.1 with ⟨m',e',al⟩ | ⟨e',_⟩
 ·rw [e] at e';cases e';exact al
 ·rw [e] at e';cases e'
def Zhf:Sp:=λvs H Q _=>∃(wb l e:AD)(k n:Nat)(xs:List V)(rs:List (Int×Int))(s t:Int),vs=[.ref wb,.ref e,.ref e,.int (n:Int)]/\WebAt H wb l (k:Int) xs rs/\GS (k:Int) rs/\EndD H e s t/\(0<=s/\s<(k:Int))/\(0<=t/\t<(k:Int))/\n<=rs.length/\(∀j,j<=n->(RJ rs k s t j).length<=1000) /\
 ∀(d:AD)(ks:KI)(H':Hp),Same H H'->H d=none->H' d=some (.dT (ks.map kvI))->Rep ks (RJ rs k s t n)->Q (.ref d) H'
theorem scNb:Gk ["web", "ends", "needed", "i", "numbers", "marks", "step"] ["web", "ends", "needed", "i"] (Gf sNb):=⟨rfl,rfl,rfl,by decide +kernel,rfl,by decide +kernel,by decide +kernel⟩
theorem ZgO {f fFm fSo fBs:AD}{fd fdFm fdSo fdBs:FuncData}(F:Fun K "numbers_behind" "numbers_behind" sNb f fd)(FFm:Fun K "first_marks" "first_marks" sFm fFm fdFm)(bFm:Binds K fdFm ["web", "needed"] [])(mFm:mg "first_marks" = some (.ref fFm))(GFm:GG P w K mg base CX0 4 fFm fdFm ["web", "needed"] ZgD)(FSo:Fun K "steps_of" "steps_of" sSo fSo fdSo)(bSo:Binds K fdSo ["web", "needed"] [])(mSo:mg "steps_of" = some (.ref fSo))(GSo:GG P w K mg base CX0 2 fSo fdSo ["web", "needed"] ZgB)(FBs:Fun K "behind_step" "behind_step" sBs fBs fdBs)(bBs:Binds K fdBs ["numbers", "step", "ends"] [])(mBs:mg "behind_step" = some (.ref fBs))(GBs:GG P w K mg base CX0 4 fBs fdBs ["numbers", "step", "ends"] Zhe) :
  GG P w K mg base CX0 5 f fd ["web", "ends", "needed", "i"] Zhf:=by
 refine F.ok scNb (λvs H Q E h=>?_) (λcdv A outer s0 H vs Q E hr h=>?_)
 ·obtain ⟨_,_,_,_,_,_,_,_,_,rfl,_⟩:=h
  rfl
 ·obtain ⟨wb,l,e,k,n,xs,rs,s,t,rfl,W,g,he,hs,ht,hn,hn20,q⟩:=h;have hu1:(A.deeper (PyProof.Rows.envOfC "numbers_behind" (Gf sNb) s0.heap.objs.size f cdv)).units+1<cLine:=by have:=hr.un;lia
  have h16:(16777216:Nat)=sizeLine:=sizeLine_eq.symm;have g3:=g.2.2.1;have gk:=g.2.1;have g1:=g.1;have hst:=he.1;refine ⟨_,(@Gc _ _ _ _ _ (@Gp _ _ 4 _ _ _ _ scNb.nd rfl (Or.inl rfl) UK rfl (by first | exact .inl rfl | exact .inr rfl))
    (@Gc _ _ _ _ _ (@Jj _ _ _ _ _ _ _ _ PassesOwn.never rfl (JL K (@Gh _ _ _ _ _ _ _ _ _ _ _ _ _ _ _ _ GFm (hr.mono (by decide)) rfl mFm FFm.kp bFm .nil GN (@Ga _ _ _ _ _ (pv 0) (@Ga _ _ _ _ _ (pv 2) Gd rfl) rfl) (by decide) rfl rfl)) (Gi (i:=5) scNb.nd rfl (Or.inl rfl))
    (@Ge _ _ _ (Um hu1 (pv 4) (pv 5) Gg rfl)) (by intro _;rfl))
    (@Gc _ _ _ _ _ (@Jj _ _ _ _ _ _ _ _ PassesOwn.never rfl (JL K (OQ (kSl K) (@Gh _ _ _ _ _ _ _ _ _ _ _ _ _ _ _ _ GSo (hr.mono (by decide)) rfl mSo FSo.kp bSo .nil GN (@Ga _ _ _ _ _ (pv 0) (@Ga _ _ _ _ _ (pv 2) Gd rfl) rfl) (by decide) rfl rfl) U0 (U1 (pv 3)))) (Gi (i:=6) scNb.nd rfl (Or.inl rfl))
    (@Ge _ _ _ (@Gp _ _ 4 _ _ _ _ scNb.nd rfl (Or.inl rfl) (@Gh _ _ _ _ _ _ _ _ _ _ _ _ _ _ _ _ GBs (hr.mono (by decide)) rfl mBs FBs.kp bBs .nil GN (@Ga _ _ _ _ _ (pv 4) (@Ga _ _ _ _ _ (pv 6) (@Ga _ _ _ _ _ (pv 1) Gd rfl) rfl) rfl) (by decide) rfl rfl) rfl (by first | exact .inl rfl | exact .inr rfl))) (by intro _;rfl))
    (@Ge _ _ _ (@Gn _ _ _ _ (pv 4)))))),?_⟩
  refine λd0 hd0=>?_;have s1:Same H (upd H d0 (.dT [])):=Same.new hd0;have e1:upd H d0 (.dT []) d0=some (.dT (([]:KI).map kvI)):=Gb;generalize upd H d0 (.dT [])=H1 at s1 e1 ⊢;dsimp only [GL];refine Jg (λσ2 H2=>∃(v5:Option V)(ks:KI),σ2=[some (.ref wb),some (.ref e),some (.ref e),some (.int (n:Int)),some (.ref d0),v5,none]/\Same H H2/\H2 d0=some (.dT (ks.map kvI))/\Rep ks (RJ rs k s t 0)) ?_ (λJ=>?_)
  case _=>
   rintro σ2 H2 ⟨v5,ks,rfl,s2,e2,rp⟩;refine ⟨_,rfl,_,rfl,wb,l,e,(k:Int),xs,rs,s,t,rfl,W.same s2,by lia,he.same s2,λS zs H3 s3 hS eS zl st=>?_⟩;have S3:=s2.trans s3;refine ⟨_,rfl,(n:Int),rfl,S,_,rfl,SqL.of eS,λc2 hc2=>?_⟩;have s4:Same H3 (upd H3 c2 (.lst (UC zs none (some (n:Int))))):=Same.new hc2;have e4:upd H3 c2 (.lst (UC zs none (some (n:Int)))) c2=some (.lst (zs.take n)):=by rw [Gb,Z9]
   generalize upd H3 c2 (.lst (UC zs none (some (n:Int))))=H4 at s4 e4 ⊢;have S4:=S3.trans s4;have tl:(zs.take n).length=n:=by rw [List.length_take];lia
   refine ⟨c2,rfl,⟨_,SqL.of e4⟩,?_⟩;have kc2:H2 c2=none:=by
    cases y:H2 c2 with
    | none=>rfl
    | some u=>rw [s3 _ _ y] at hc2;cases hc2
   refine JZ (K:=K) (a:=c2) (xs:=zs.take n) (λi σ H5=>∃(v5 v6:Option V)(d:AD)(ks:KI),σ=[some (.ref wb),some (.ref e),some (.ref e),some (.int (n:Int)),some (.ref d),v5,v6]/\Same H H5/\H d=none/\H5 c2=some (.lst (zs.take n))/\(∀j x,j<n->zs[j]?=some x->StepAt H5 x rs s t j)/\H5 d=some (.dT (ks.map kvI))/\Rep ks (RJ rs k s t i))
    ⟨_,_,d0,ks,rfl,S4,hd0,e4,λj x _ y=>(st j x y).same s4,(s3.trans s4) _ _ e2,rp⟩ (λi σ H5 _ ⟨_,_,_,_,_,_,_,y,_⟩=>SqL.of y) ?_ ?_
   ·rintro i x σ H5 hxi ⟨v5,v6,d,ks,rfl,s5,hdn,ec,hst5,ed,rp⟩;have hi:i<n:=by
     have:=(List.getElem?_eq_some_iff.mp hxi).1
     lia
    have hxz:zs[i]?=some x:=by
     rw [List.getElem?_take,if_pos hi] at hxi;exact hxi
    have hRl:=hn20 i (by lia);have p20:1000<=2 ^ 21:=by decide
    refine ⟨_,rfl,_,rfl,_,rfl,d,e,x,ks,rs,s,t,i,RJ rs k s t i,rfl,ed,hst5 i x hi hxz,he.same s5,λp hp=>?_,rp,by lia,λd' ks' H6 sx hd' ed' rp'=>?_⟩
    ·obtain ⟨c,V,_,al⟩:=Zbm hst hs ht g (by lia) (rp.mem hp);exact YO al (by lia) g.2.2.2.1 (by lia) (by lia) (λq hq=>by have:=V.2 q hq;lia)
    ·have S6:Same H H6:=λa u y=>sx a u (λz=>by rw [z,hdn] at y;cases y) (s5 a u y);have ncd:c2≠d:=G6 ec ed (λz=>by cases z);refine ⟨_,_,d',ks',rfl,S6,?_,sx _ _ ncd ec,λj y hj hy=>?_,ed',rp'⟩
     ·cases y:H d' with
      | none=>rfl
      | some u=>rw [s5 _ _ y] at hd';cases hd'
     ·obtain ⟨T,r,lv,nd,ex,g1,g2,g3,g4⟩:=(hst5 j y hj hy).ex;have nn:∀{b u},H5 b=some u->(∀kvs,u≠.dT kvs)->b≠d:=λ{b u} y z y2=>by rw [y2,ed] at y;cases y;exact z _ rfl
      exact ⟨T,r,lv,nd,ex,sx _ _ (nn g1 (λ_ z=>by cases z)) g1,sx _ _ (nn g2 (λ_ z=>by cases z)) g2,sx _ _ (nn g3 (λ_ z=>by cases z)) g3,sx _ _ (nn g4 (λ_ z=>by cases z)) g4⟩
   ·rintro σ H5 ⟨v5,v6,d,ks,rfl,s5,hdn,ec,hst5,ed,rp⟩;rw [tl] at rp;exact ⟨_,rfl,q d ks H5 s5 hdn ed rp⟩
  ·refine ⟨_,rfl,_,rfl,wb,l,e,k,xs,rs,s,t,rfl,W.same s1,g,he.same s1,hs,ht,λF0 H2 s2 hF0 F2=>?_⟩;obtain ⟨ys,eys,hys⟩:=F2;refine ⟨F0,rfl,⟨_,SqL.of eys⟩,?_⟩;have e2:=s2 _ _ e1;have nF:F0≠d0:=G6 eys e2 (λz=>by cases z);rcases hys with ⟨e0,rfl⟩ | ⟨T1,m1,em,rfl,eT⟩
   ·refine JZ (K:=K) (a:=F0) (xs:=[]) (λi σ H3=>σ=[some (.ref wb),some (.ref e),some (.ref e),some (.int (n:Int)),some (.ref d0),none,none]/\H3=H2) ⟨rfl,rfl⟩ (λi σ H3 _ ⟨_,y⟩=>y▸SqL.of eys) (λi x σ H3 hx=>by simp at hx) ?_;rintro σ H3 ⟨rfl,rfl⟩;refine J _ _ ⟨_,[],rfl,s1.trans s2,e2,?_⟩;show Rep [] (Jb rs k s t).toList;rw [e0];exact Rep.nil
   ·have eTk:H2 T1=some (.tup ((m1.map (Sum.inl:Int->Key)).map kV)):=by rw [Vh];exact eT
    refine JZ (K:=K) (a:=F0) (xs:=[.ref T1]) (λi σ H3=>∃v5:Option V,σ=[some (.ref wb),some (.ref e),some (.ref e),some (.int (n:Int)),some (.ref d0),v5,none]/\H3 F0=some (.lst [.ref T1])/\Same H H3/\(i=0->H3=H2)/\(i=1->H3 d0=some (.dT ([(m1,1)].map kvI)))) ⟨_,rfl,eys,s1.trans s2,λ_=>rfl,λz=>by cases z⟩ (λi σ H3 _ ⟨_,_,y,_⟩=>SqL.of y) ?_ ?_
    ·rintro i x σ H3 hx ⟨v5,rfl,y1,y2,y3,_⟩;have i0:i=0:=by
      have:=(List.getElem?_eq_some_iff.mp hx).1;simp at this;exact this
     subst i0;cases hx;obtain rfl:=y3 rfl;refine ⟨_,rfl,_,rfl,d0,_,rfl,DPut.t e2 eTk (by show 0<sizeLine;lia),?_⟩;have pk:=X5 [] m1 1;refine ⟨_,rfl,Gs y1 nF,y2.put hd0,(λz=>by cases z),λ_=>?_⟩;rw [Gb];exact congrArg (λz=>some (HO.dT z)) pk
    ·rintro σ H3 ⟨v5,rfl,y1,y2,_,y4⟩;refine J _ _ ⟨_,[(m1,1)],rfl,y2,y4 rfl,?_⟩;show Rep [(m1,1)] (Jb rs k s t).toList;rw [em];exact ⟨by simp,by simp,by show (List.replicate 1 m1++[]).Perm [m1];simp⟩
def wlM (rs:List (Int×Int))(n k:Nat)(m:LI):LI:=(frL rs n k).map (gA m)++(if m.getD (m.length-1) 0=0 then [0] else [])
theorem Zbn {rs:List (Int×Int)}{k n:Nat}{s t:Int}(hst:s≠t)(hs:0<=s/\s<(k:Int))(ht:0<=t/\t<(k:Int))(g:GS (k:Int) rs)(hn:n<=rs.length):∀x∈RJ rs k s t n,∀y∈RJ rs k s t n,wlM rs n k x=wlM rs n k y->x=y:=by
 intro x hx y hy e;obtain ⟨c,V,_,lab,_,_,mate,_,mk⟩:=Zbm hst hs ht g hn hx;obtain ⟨c',V',_,lab',_,_,mate',_,mk'⟩:=Zbm hst hs ht g hn hy;unfold wlM at e;rw [Ux mk,Ux mk'] at e;exact Wx V.2 V'.2 mk mk' e
def Zhg (C1 C2:AD):Sp:=λvs H Q _=>∃(wb l:AD)(k n:Nat)(xs:List V)(rs:List (Int×Int))(s t:Int),vs=[.ref wb,.int s,.int t,.int (n:Int)]/\WebAt H wb l (k:Int) xs rs/\GS (k:Int) rs/\s≠t/\(0<=s/\s<(k:Int))/\(0<=t/\t<(k:Int))/\n<=rs.length/\(∀j,j<=n->(RJ rs k s t j).length<=1000) /\
 ∀(L:AD)(zs:List TI2)(ps:KI)(H':Hp),Same H H'->H L=none->H' L=some (.lst (zs.map λz=>V.ref z.1))->(∀z∈zs,H' z.1=some (.tup [.ref z.2.1,.int z.2.2.2])/\H' z.2.1=some (.tup (z.2.2.1.map V.int)))->(zs.map (·.2.2)).Perm ps->Rep ps ((RJ rs k s t n).map (wlM rs n k))->(zs.map (·.2.2)).Pairwise (λa b=>UA b a=false)->Q (.ref L) H'
theorem scWs:Gk ["web", "one", "other", "i", "ends", "numbers", "places"] ["web", "one", "other", "i"] (Gf sWs):=⟨rfl,rfl,rfl,by decide +kernel,rfl,by decide +kernel,by decide +kernel⟩
theorem ZgP {f fCe fCs fMe fNb fFr fWi C1 C2:AD}{fd fdCe fdCs fdMe fdNb fdFr fdWi:FuncData}(F:Fun K "walls" "walls" sWs f fd)(FCe:Fun K "check_ends" "check_ends" Zeg fCe fdCe)(bCe:Binds K fdCe ["web", "one", "other"] [])(mCe:mg "check_ends" = some (.ref fCe))(GCe:GG P w K mg base (CXr P w) 2 fCe fdCe ["web", "one", "other"] (Zcv C1))(FCs:Fun K "check_step" "check_step" Zd0 fCs fdCs)(bCs:Binds K fdCs ["web", "i"] [])(mCs:mg "check_step" = some (.ref fCs))(GCs:GG P w K mg base (CXr P w) 1 fCs fdCs ["web", "i"] (Za5 C2))(FMe:Fun K "marks_of_ends" "marks_of_ends" sMe fMe fdMe)(bMe:Binds K fdMe ["one", "other"] [])(mMe:mg "marks_of_ends" = some (.ref fMe))(GMe:GG P w K mg base CX0 1 fMe fdMe ["one", "other"] ZfN)(FNb:Fun K "numbers_behind" "numbers_behind" sNb fNb fdNb)(bNb:Binds K fdNb ["web", "ends", "needed", "i"] [])(mNb:mg "numbers_behind" = some (.ref fNb))(GNb:GG P w K mg base CX0 5 fNb fdNb ["web", "ends", "needed", "i"] Zhf)(FFr:Fun K "front" "front" Zfc fFr fdFr)(bFr:Binds K fdFr ["web", "i"] [])(mFr:mg "front" = some (.ref fFr))(GFr:GG P w K mg base (CXr P w) 2 fFr fdFr ["web", "i"] (Zd3 C2))(FWi:Fun K "wall_in" "wall_in" sWi fWi fdWi)(bWi:Binds K fdWi ["places", "marks"] [])(mWi:mg "wall_in" = some (.ref fWi))(GWi:GG P w K mg base CX0 2 fWi fdWi ["places", "marks"] ZgK)(mSor:mg "sorted" = none):GG P w K mg base (CXr P w) 6 f fd ["web", "one", "other", "i"] (Zhg C1 C2):=by
 refine F.okR scWs (λvs H Q E h=>?_) (λcdv A outer s0 H vs Q E hr h=>?_)
 ·obtain ⟨_,_,_,_,_,_,_,_,rfl,_⟩:=h
  rfl
 ·obtain ⟨wb,l,k,n,xs,rs,s,t,rfl,W,g,hst,hs,ht,hn,hn20,q⟩:=h;have hu1:(A.deeper (PyProof.Rows.envOfC "walls" (Gf sWs) s0.heap.objs.size f cdv)).units+1<cLine:=by have:=hr.un;lia
  have hu71:(A.deeper (PyProof.Rows.envOfC "walls" (Gf sWs) s0.heap.objs.size f cdv)).units+71<cLine:=by have:=hr.un;lia
  have h16:(16777216:Nat)=sizeLine:=sizeLine_eq.symm;have hxl:=W.p.len;have gk:=g.2.1;refine ⟨_,(@Gc _ _ _ _ _ (Jo (@Gh _ _ _ _ _ _ _ _ _ _ _ _ _ _ _ _ GCe (hr.mono (by decide)) rfl mCe FCe.kp bCe .nil VX (@Ga _ _ _ _ _ (pv 0) (@Ga _ _ _ _ _ (pv 1) (@Ga _ _ _ _ _ (pv 2) Gd rfl) rfl) rfl) (by decide) rfl rfl))
    (@Gc _ _ _ _ _ (Jo (@Gh _ _ _ _ _ _ _ _ _ _ _ _ _ _ _ _ GCs (hr.mono (by decide)) rfl mCs FCs.kp bCs .nil VX (@Ga _ _ _ _ _ (pv 0) (@Ga _ _ _ _ _ (pv 3) Gd rfl) rfl) (by decide) rfl rfl))
    (@Gc _ _ _ _ _ (@Gp _ _ 4 _ _ _ _ scWs.nd rfl (Or.inl rfl) (@Gh _ _ _ _ _ _ _ _ _ _ _ _ _ _ _ _ GMe (hr.mono (by decide)) rfl mMe FMe.kp bMe .nil GN (@Ga _ _ _ _ _ (pv 1) (@Ga _ _ _ _ _ (pv 2) Gd rfl) rfl) (by decide) rfl rfl) rfl (by first | exact .inl rfl | exact .inr rfl))
    (@Gc _ _ _ _ _ (@Gp _ _ 5 _ _ _ _ scWs.nd rfl (Or.inr rfl) (@Gh _ _ _ _ _ _ _ _ _ _ _ _ _ _ _ _ GNb (hr.mono (by decide)) rfl mNb FNb.kp bNb .nil GN (@Ga _ _ _ _ _ (pv 0) (@Ga _ _ _ _ _ (pv 4) (@Ga _ _ _ _ _ (pv 4) (@Ga _ _ _ _ _ (pv 3) Gd rfl) rfl) rfl) rfl) (by decide) rfl rfl) rfl (by first | exact .inl rfl | exact .inr rfl))
    (@Gc _ _ _ _ _ (@Gp _ _ 6 _ _ _ _ scWs.nd rfl (Or.inr rfl) (@Gh _ _ _ _ _ _ _ _ _ _ _ _ _ _ _ _ GFr (hr.mono (by decide)) rfl mFr FFr.kp bFr .nil Zd (@Ga _ _ _ _ _ (pv 0) (@Ga _ _ _ _ _ (pv 3) Gd rfl) rfl) (by decide) rfl rfl) rfl (by first | exact .inl rfl | exact .inr rfl))
    (@Ge _ _ _ (@Gn _ _ _ _ (Gw (ZdX K hu71) rfl mSor PyProof.Rows.boot_sorted (@Ga _ _ _ _ _ (G7 (own:=["marks"]) rfl (Gj (fr:=[("numbers", 5),("places", 6)]) [(".0", .local),("marks", .local),("wall_in", .globalImplicit),("numbers", .cell),("places", .cell)] rfl rfl (by decide +kernel) rfl (by decide +kernel) ⟨rfl,rfl,trivial⟩ ⟨λh=>GQ h,λh=>GQ h,λh=>GQ h,λ_=>⟨_,rfl⟩,λ_=>⟨_,rfl⟩,trivial⟩ ⟨⟨rfl,.inl rfl,.inl rfl⟩,⟨rfl,.inl rfl,.inl rfl⟩,trivial⟩) (YK (pv 5)) (λ_ _ _ _=>Gi (i:=0) (show List.Nodup (["marks", "numbers", "places"]:List Str) by decide +kernel) rfl (Or.inl rfl)) (λ_ _ _ _=>GW) (λ_ _ _ _=>@JH _ _ _ _ _ (@Ga _ _ _ _ _ (@Gh _ _ _ _ _ _ _ _ _ _ _ _ _ _ _ _ GWi (hr.mono (by decide)) rfl mWi FWi.kp bWi .nil GN (@Ga _ _ _ _ _ (pv 2) (@Ga _ _ _ _ _ (pv 0) Gd rfl) rfl) (by decide) rfl rfl) (@Ga _ _ _ _ _ (VZ hu1 (pv 1) (pv 0) (λ_ _=>rfl)) Gd rfl) rfl))) Gd rfl))))))))),?_⟩
  refine ⟨_,rfl,_,rfl,_,rfl,wb,l,(k:Int),s,t,rfl,W.w,.inl ⟨⟨hs,ht,hst⟩,?_⟩⟩;refine ⟨_,rfl,_,rfl,wb,l,(k:Int),(n:Int),xs,rfl,W.w,W.l,.inl ⟨⟨by lia,by lia⟩,?_⟩⟩;refine ⟨_,rfl,_,rfl,s,t,rfl,hst,λe H1 s1 he E1=>?_⟩;dsimp only [GL];refine ⟨_,rfl,_,rfl,_,rfl,_,rfl,wb,l,e,k,n,xs,rs,s,t,rfl,W.same s1,g,E1,hs,ht,hn,hn20,λd ks H2 s2 hd ed rp=>?_⟩;have S2:=s1.trans s2;dsimp only [GL];refine ⟨_,rfl,_,rfl,wb,l,(k:Int),(n:Int),xs,rs,rfl,W.same S2,g,.inl ⟨⟨by lia,by lia⟩,λr ps H3 s3 hr3 er3 nd so hm=>?_⟩⟩;rw [Int.toNat_natCast] at hm;have ep:=Zdd hn g nd so hm;subst ep;have S3:=S2.trans s3;have ed3:=s3 _ _ ed;have hdH:H d=none:=by
   cases y:H d with
   | none=>rfl
   | some u=>rw [s1 _ _ y] at hd;cases hd
  have frl:(frL rs n k).length<=1000:=by
   refine Nat.le_trans (List.length_filter_le _ _) ?_;rw [JG]
   lia
  dsimp only [GL];refine ⟨_,rfl,d,_,rfl,.inl ⟨ed3,λo=>?_⟩⟩;have s4:SameX d H3 (upd H3 d (.frz o (.dT (ks.map kvI)))):=λb u n y=>Gs y n;have hd4:upd H3 d (.frz o (.dT (ks.map kvI))) d=some (.frz o (.dT (ks.map kvI))):=Gb;generalize upd H3 d (.frz o (.dT (ks.map kvI)))=H4 at s4 hd4 ⊢;have er4:H4 r=some (.lst ((frL rs n k).map V.int)):=s4 _ _ (G6 er3 ed3 (λz=>by cases z)) er3;refine λD hD=>?_;have rl:ks.length<=1000:=Nat.le_trans rp.len (hn20 n (Nat.le_refl _));refine Zu (a:=d) (o:=o) (kvs:=ks.map kvI) (λi ys H5=>∃zs:List TI2,ys=zs.map (λz=>V.ref z.1)/\Same H4 H5/\H5 D=some (.lst ys)/\zs.map (·.2.2)=(ks.take i).map (λp=>(wlM rs n k p.1,p.2))/\∀z∈zs,H5 z.1=some (.tup [.ref z.2.1,.int z.2.2.2])/\H5 z.2.1=some (.tup (z.2.2.1.map V.int)))
   ⟨[],rfl,Same.new hD,Gb,rfl,by simp⟩ (λi ys H5 _ ⟨_,_,y,_⟩=>y _ _ hd4) ?_ ?_
  ·rintro i kk v b ys H5 hkv hb ⟨zs,rfl,s5,hD5,hz,hzs⟩;rw [List.getElem?_map] at hkv;obtain ⟨p,hp,ep⟩:=Option.map_eq_some_iff.mp hkv;cases ep;have hpm:=List.mem_of_getElem? hp;have hil:i<ks.length:=(List.getElem?_eq_some_iff.mp hp).1;have ebk:=hb;rw [Vh] at hb;obtain ⟨c,Va,_,lab,hl,hbp,mate,M,mk⟩:=Zbm hst hs ht g hn (rp.mem hpm);have mne:p.1≠[]:=λz=>by have:=mk.len;rw [z] at this;cases this
   have vb:Od (ks.map kvI) (p.1.map Sum.inl)=some (.int p.2):=by rw [Wz,Zbk rp.nd hpm];rfl
   refine ⟨⟨rfl,rfl,trivial⟩,?_⟩;unfold Yi;refine G5 ?_;refine ⟨_,rfl,_,rfl,r,b,_,p.1,rfl,s5 _ _ er4,hb,λx hx=>?_,mne,frl,λT H6 s6 eT=>?_⟩
   ·have:=(Vn hx).1;have:=mk.len
    lia
   have dg:DGet H6 d (.ref b) (some (.int p.2)):=by rw [<-vb];exact Or.inr ⟨_,_,b,.inr ⟨o,s6 _ _ (s5 _ _ hd4)⟩,rfl,s6 _ _ ebk,rfl⟩
   refine ⟨_,rfl,_,rfl,d,_,rfl,dg,J8,λT2 hT2=>?_⟩;have s7:Same H6 (upd H6 T2 (.tup [.ref T,.int p.2])):=Same.new hT2;have e7:upd H6 T2 (.tup [.ref T,.int p.2]) T2=some (.tup [.ref T,.int p.2]):=Gb;have eT7:=s7 _ _ eT;generalize upd H6 T2 (.tup [.ref T,.int p.2])=H7 at s7 e7 eT7 ⊢;have hD7:=s7 _ _ (s6 _ _ hD5);have zl:(zs.map λz=>V.ref z.1).length=i:=by
    rw [List.length_map];have:=congrArg List.length hz;rw [List.length_map,List.length_map,List.length_take] at this
    lia
   have nD:∀{b u},H7 b=some u->(∀ys,u≠.lst ys)->b≠D:=λ{b u} y z y2=>by rw [y2,hD7] at y;cases y;exact z _ rfl
   refine ⟨hD7,by rw [zl];lia,zs++[(T2,T,(wlM rs n k p.1,p.2))],by rw [List.map_append];rfl,(s5.trans (s6.trans s7)).put hD,Gb,?_,λz hz'=>?_⟩
   ·rw [List.map_append,hz,List.take_add_one,hp,List.map_append]
    rfl
   ·rcases List.mem_append.mp hz' with hz' | hz'
    ·obtain ⟨y1,y2⟩:=hzs z hz';have y1:=s7 _ _ (s6 _ _ y1);have y2:=s7 _ _ (s6 _ _ y2);exact ⟨Gs y1 (nD y1 (λ_ z=>by cases z)),Gs y2 (nD y2 (λ_ z=>by cases z))⟩
    ·rw [List.mem_singleton.mp hz'];exact ⟨Gs e7 (nD e7 (λ_ z=>by cases z)),Gs eT7 (nD eT7 (λ_ z=>by cases z))⟩
  ·rintro ys H5 ⟨zs,rfl,s5,hD5,hz,hzs⟩;rw [List.length_map,List.take_length] at hz;refine ⟨D,zs,rfl,SqL.of hD5,λz hz'=>⟨SqT.of (hzs z hz').1,SqT.of (hzs z hz').2⟩,λL zs' hL pm so=>?_⟩;have S5:Same H H5:=λa u y=>s5 _ _ (s4 a u (λz=>by rw [z,hdH] at y;cases y) (S3 _ _ y));have s6:Same H5 (upd H5 L (.lst (zs'.map λz=>V.ref z.1))):=Same.new hL;refine q L zs' _ _ (S5.trans s6) ?_ Gb (λz hz'=>⟨s6 _ _ (hzs z (pm.mem_iff.mp hz')).1,s6 _ _ (hzs z (pm.mem_iff.mp hz')).2⟩) (pm.map _) ?_ so
   ·cases y:H L with
    | none=>rfl
    | some u=>rw [S5 _ _ y] at hL;cases hL
   ·rw [hz];exact rp.mapW (Zbn hst hs ht g hn)
end
end M
namespace M
open PySem L2
theorem X8 {K:FF}{H H':Hp}{a:AD}{xs:List V}(h:SqL K H a xs)(q:Same H H'):SqL K H' a xs:=h.imp (λh=>h.imp (λh=>q _ _ h) λ⟨o,h⟩=>⟨o,q _ _ h⟩) id
section
variable {P:PP}{w:Ab}{K:FF}{mg:Str->Option Aa}{base:Heap}
def Zdg:Sp:=λvs H Q _=>∃c k:Int,vs=[.int c,.int k]/\0<=k/\k<=10/\∀z:Int,Q (.int z) H
theorem scStir:Gk ["cell", "k", "number"] ["cell", "k"] (Gf Zcr):=⟨rfl,rfl,rfl,by decide +kernel,rfl,by decide +kernel,by decide +kernel⟩
theorem Zd7 {f:AD}{fd:FuncData}(F:Fun K "_law_stir" "_law_stir" Zcr f fd):GG P w K mg base CX0 1 f fd ["cell", "k"] Zdg:=by
 refine F.ok scStir (λvs H Q E h=>?_) (λcdv A outer s H vs Q E hr h=>?_)
 ·obtain ⟨c,k,rfl,_⟩:=h
  rfl
 ·obtain ⟨c,k,rfl,h1,h2,q⟩:=h;refine ⟨_,(@Gc _ _ _ _ _ (@Gp _ _ 2 _ _ _ _ scStir.nd rfl (Or.inl rfl) (@GD _ _ _ _ _ _ _ _ Jk (@GD _ _ _ _ _ _ _ _ Jk (@GD _ _ _ _ _ _ _ _ OP (pv 0) (@GD _ _ _ _ _ _ _ _ ZR Gg Gg)) (@GD _ _ _ _ _ _ _ _ ZQ Gg (pv 1))) Gg) rfl (by first | exact .inl rfl | exact .inr rfl))
    (@Ge _ _ _ (@Gn _ _ _ _ (@GD _ _ _ _ _ _ _ _ OP (@GD _ _ _ _ _ _ _ _ UH (@GD _ _ _ _ _ _ _ _ Z6 (@GD _ _ _ _ _ _ _ _ Z6 (pv 2) (@GD _ _ _ _ _ _ _ _ Jk (pv 2) (@GD _ _ _ _ _ _ _ _ ZQ Gg (pv 1)))) (@GD _ _ _ _ _ _ _ _ Jk (pv 2) Gg)) Gg) (@GD _ _ _ _ _ _ _ _ ZR Gg Gg))))),?_⟩
  have b1:Lt2 200 (10 ^ 60:Int):=Uv;have m1:Lt2 200 (c % (10 ^ 60:Int)):=Lt2.mod (by decide) b1;have k1:Lt2 200 (3 * k):=Nat.lt_of_lt_of_le (show (3 * k).natAbs<2 ^ 6 by lia) (Nat.pow_le_pow_right (by decide) (by decide));have l1:Lt2 201 (1:Int):=Uv;have n1:Lt2 202 (c % (10 ^ 60:Int)+3 * k+1):=(m1.add k1).add l1;have k2:Lt2 202 (2 * k):=Nat.lt_of_lt_of_le (show (2 * k).natAbs<2 ^ 6 by lia) (Nat.pow_le_pow_right (by decide) (by decide));have l5:Lt2 202 (5:Int):=Uv;refine ⟨_,rfl,_,_,rfl,rfl,⟨by decide,by decide,by decide⟩,_,_,rfl,rfl,(by show (0:Int)<10 ^ 60;decide),_,rfl,_,_,rfl,rfl,.inl ⟨by decide,by decide⟩,_,_,rfl,rfl,_,_,rfl,rfl,?_⟩;dsimp only [GL];have n2:=n1.add k2;have n3:=n1.mul n2;have n4:=n1.add l5;refine ⟨_,rfl,_,rfl,_,rfl,_,_,rfl,rfl,.inl ⟨by decide,by decide⟩,_,_,rfl,rfl,_,_,rfl,rfl,⟨202,203,n1,n2,by decide,by decide⟩,_,rfl,_,_,rfl,rfl,_,_,rfl,rfl,⟨405,203,n3,n4,by decide,by decide⟩,_,_,rfl,rfl,⟨by decide,Uv⟩,_,_,rfl,rfl,⟨by decide,by decide,by decide⟩,_,_,rfl,rfl,(by show (0:Int)<10 ^ 40;decide),?_⟩;exact q _
def Zfq:Sp:=λvs H Q _=>∃c k m:Int,vs=[.int c,.int k,.int m]/\0<=k/\k<=10/\0<m/\∀z:Int,0<=z->z<m->Q (.int z) H
theorem ZgQ:Gk ["cell", "k", "many"] ["cell", "k", "many"] (Gf ZfJ):=⟨rfl,rfl,rfl,by decide +kernel,rfl,by decide +kernel,by decide +kernel⟩
theorem Zfr {f fSt:AD}{fd fdSt:FuncData}(F:Fun K "_law_digit" "_law_digit" ZfJ f fd)(FSt:Fun K "_law_stir" "_law_stir" Zcr fSt fdSt)(bSt:Binds K fdSt ["cell", "k"] [])(mSt:mg "_law_stir" = some (.ref fSt))(GSt:GG P w K mg base CX0 1 fSt fdSt ["cell", "k"] Zdg):GG P w K mg base CX0 2 f fd ["cell", "k", "many"] Zfq:=by
 refine F.ok ZgQ (λvs H Q E h=>?_) (λcdv A outer s H vs Q E hr h=>?_)
 ·obtain ⟨_,_,_,rfl,_⟩:=h
  rfl
 ·obtain ⟨c,k,m,rfl,k0,k1,m0,q⟩:=h;refine ⟨_,(@Gc _ _ _ _ _ (@Jd _ _ _ _ _ _ _ _ (Gr ZbK (pv 0) (@GD _ _ _ _ _ _ _ _ ZR Gg Gg) (Gz _)) (@Ge _ _ _ (@Gn _ _ _ _ (@GD _ _ _ _ _ _ _ _ OP (@GD _ _ _ _ _ _ _ _ Zeu (pv 0) (@GD _ _ _ _ _ _ _ _ ZQ Gg (pv 1))) (pv 2)))) GA)
    (@Ge _ _ _ (@Gn _ _ _ _ (@GD _ _ _ _ _ _ _ _ OP (@Gh _ _ _ _ _ _ _ _ _ _ _ _ _ _ _ _ GSt (hr.mono (by decide)) rfl mSt FSt.kp bSt .nil GN (@Ga _ _ _ _ _ (pv 0) (@Ga _ _ _ _ _ (pv 1) Gd rfl) rfl) (by decide) rfl rfl) (pv 2))))),?_⟩
  refine ⟨_,rfl,_,_,rfl,rfl,⟨by decide,by decide,by decide⟩,_,_,rfl,rfl,_,rfl,WX (λh0=>?_) (λh0=>?_)⟩
  ·refine ⟨_,rfl,_,rfl,_,_,rfl,rfl,.inl ⟨by decide,by decide⟩,_,_,rfl,rfl,(by show (0:Int)<=4 * k;lia),_,rfl,_,_,rfl,rfl,m0,?_⟩;exact q _ (Int.emod_nonneg _ (by lia)) (Int.emod_lt_of_pos _ m0)
  ·refine ⟨_,rfl,_,rfl,c,k,rfl,k0,k1,λz=>⟨_,rfl,_,_,rfl,rfl,m0,?_⟩⟩;exact q _ (Int.emod_nonneg _ (by lia)) (Int.emod_lt_of_pos _ m0)
def Zfs (K:FF):Sp:=λvs H Q _=>∃(a:AD)(ns:LI)(k:Nat),vs=[.ref a,.int (k:Int)]/\SqL K H a (ns.map V.int)/\2<=k/\k<=6/\∀(p:AD)(s t:Int)(H':Hp),Same H H'->H' p=some (.tup [.int s,.int t])->s≠t->(0<=s/\s<(k:Int))->(0<=t/\t<(k:Int))->Q (.ref p) H'
theorem scTwo:Gk ["script", "many", "cell", "one"] ["script", "many"] (Gf ZfL):=⟨rfl,rfl,rfl,by decide +kernel,rfl,by decide +kernel,by decide +kernel⟩
theorem Zft {f fCa:AD}{fd fdCa:FuncData}(F:Fun K "_law_two" "_law_two" ZfL f fd)(FCa:Fun K "_law_cell_at" "_law_cell_at" Zeh fCa fdCa)(bCa:Binds K fdCa ["script", "k"] [])(mCa:mg "_law_cell_at" = some (.ref fCa))(GCa:GG P w K mg base CX0 1 fCa fdCa ["script", "k"] (Zct K)):GG P w K mg base CX0 2 f fd ["script", "many"] (Zfs K):=by
 refine F.ok scTwo (λvs H Q E h=>?_) (λcdv A outer s0 H vs Q E hr h=>?_)
 ·obtain ⟨_,_,_,rfl,_⟩:=h
  rfl
 ·obtain ⟨a,ns,k,rfl,hS,k2,k6,q⟩:=h;refine ⟨_,(@Gc _ _ _ _ _ (@Gp _ _ 2 _ _ _ _ scTwo.nd rfl (Or.inl rfl) (@GD _ _ _ _ _ _ _ _ UH (@Gh _ _ _ _ _ _ _ _ _ _ _ _ _ _ _ _ GCa (hr.mono (by decide)) rfl mCa FCa.kp bCa .nil GN (@Ga _ _ _ _ _ (pv 0) (@Ga _ _ _ _ _ Gg Gd rfl) rfl) (by decide) rfl rfl) Gg) rfl (by first | exact .inl rfl | exact .inr rfl))
    (@Gc _ _ _ _ _ (@Gp _ _ 3 _ _ _ _ scTwo.nd rfl (Or.inl rfl) (@GD _ _ _ _ _ _ _ _ OP (pv 2) (pv 1)) rfl (by first | exact .inl rfl | exact .inr rfl))
    (@Ge _ _ _ (@Gn _ _ _ _ (@JH _ _ _ _ _ (@Ga _ _ _ _ _ (pv 3) (@Ga _ _ _ _ _ (@GD _ _ _ _ _ _ _ _ OP (@GD _ _ _ _ _ _ _ _ Jk (@GD _ _ _ _ _ _ _ _ Jk (pv 3) Gg) (@GD _ _ _ _ _ _ _ _ OP (@GD _ _ _ _ _ _ _ _ UH (pv 2) (pv 1)) (@GD _ _ _ _ _ _ _ _ Vu (pv 1) Gg))) (pv 1)) Gd rfl) rfl)))))),?_⟩
  have k0:(0:Int)<(k:Int):=by lia
  refine ⟨_,rfl,a,ns,0,rfl,hS,λz=>⟨_,_,rfl,rfl,⟨by decide,Uv⟩,?_⟩⟩;dsimp only [GL];generalize z / 64=c;refine ⟨_,rfl,_,rfl,_,_,rfl,rfl,k0,?_⟩;have a0:=Int.emod_nonneg c (show (k:Int)≠0 by lia);have a1:=Int.emod_lt_of_pos c k0;dsimp only [GL];generalize c % (k:Int)=s at a0 a1 ⊢;refine ⟨_,rfl,_,rfl,_,_,rfl,rfl,_,rfl,_,rfl,_,_,rfl,rfl,⟨k0,Zgf (by lia)⟩,_,rfl,_,_,rfl,rfl,_,_,rfl,rfl,(by show (0:Int)<(k:Int)-1;lia),_,_,rfl,rfl,_,rfl,_,_,rfl,rfl,k0,J8,λp hp=>?_⟩;have b0:=Int.emod_nonneg (c / (k:Int)) (show (k:Int)-1≠0 by lia);have b1:=Int.emod_lt_of_pos (c / (k:Int)) (show (0:Int)<(k:Int)-1 by lia);generalize c / (k:Int) % ((k:Int)-1)=d at b0 b1 ⊢;refine q p _ _ _ (Same.new hp) Gb ?_ ⟨a0,a1⟩ ⟨Int.emod_nonneg _ (by lia),Int.emod_lt_of_pos _ k0⟩;intro z;rcases (show s+1+d<(k:Int)\/(k:Int)<=s+1+d by lia) with y | y
  ·rw [Int.emod_eq_of_lt (by lia) y] at z
   lia
  ·have:(s+1+d) % (k:Int)=s+1+d-(k:Int):=by
    rw [<-Int.sub_emod_right,Int.emod_eq_of_lt (by lia) (by lia)]
   lia
def Zfu (K:FF):Sp:=λvs H Q _=>∃(a:AD)(ns:LI),vs=[.ref a,.int 6,.int 9]/\SqL K H a (ns.map V.int)/\∀(wb l:AD)(k:Nat)(xs:List V)(rs:List (Int×Int))(H':Hp),Same H H'->WebAt H' wb l (k:Int) xs rs->GS (k:Int) rs->2<=k->k<=6->rs.length<=9->Q (.ref wb) H'
theorem scWeb:Gk ["script", "most_places", "most_roads", "many", "roads", "k", "low", "high", "cell"] ["script", "most_places", "most_roads"] (Gf ZfK):=⟨rfl,rfl,rfl,by decide +kernel,rfl,by decide +kernel,by decide +kernel⟩
structure RdI (k i j:Nat)(rs:List (Int×Int)):Prop where
 le:rs.length<=9
 ok:∀p∈rs,0<=p.1/\p.1<p.2/\p.2<(k:Int)
 ah:∀p∈rs,p.1<(i:Int)\/(p.1=(i:Int)/\p.2<(j:Int))
 nd:rs.Nodup
theorem Zbo {H:Hp}{p:AD}{a b:Int}(e:H p=some (.tup [.int a,.int b])):∀{xs:List V}{rs:List (Int×Int)},Prs H xs rs->∀n:Nat,Prs H (xs.take n++.ref p::xs.drop n) (rs.take n++(a,b)::rs.drop n)
 | _,_,.nil,n=>by rw [List.take_nil,List.take_nil,List.drop_nil,List.drop_nil];exact .cons e .nil
 | _,_,.cons r h,0=>.cons e (.cons r h)
 | _,_,.cons r h,n+1=>.cons r (Zbo e h n)
theorem RdI.ins {k i j:Nat}{rs:List (Int×Int)}(h:RdI k i j rs)(hl:rs.length<9)(hij:i<j)(hj:j<k)(n:Nat):RdI k i (j+1) (rs.take n++((i:Int),(j:Int))::rs.drop n):=by
 have pm:(rs.take n++((i:Int),(j:Int))::rs.drop n).Perm (((i:Int),(j:Int))::rs):=by
  refine List.perm_middle.trans ?_;rw [List.take_append_drop]
 refine ⟨by rw [pm.length_eq,List.length_cons];lia,λp hp=>?_,λp hp=>?_,pm.nodup_iff.mpr (List.nodup_cons.mpr ⟨λz=>?_,h.nd⟩)⟩
 ·rcases List.mem_cons.mp (pm.mem_iff.mp hp) with rfl | hp
  ·exact ⟨by show (0:Int)<=(i:Int);lia,by show (i:Int)<(j:Int);lia,by show (j:Int)<(k:Int);lia⟩
  ·exact h.ok p hp
 ·rcases List.mem_cons.mp (pm.mem_iff.mp hp) with rfl | hp
  ·exact .inr ⟨rfl,by show (j:Int)<((j+1:Nat):Int);lia⟩
  ·rcases h.ah p hp with y | y
   ·exact .inl y
   ·exact .inr ⟨y.1,by have:=y.2;lia⟩
 ·rcases h.ah _ z with y | y
  ·have y:(i:Int)<(i:Int):=y
   lia
  ·have y:(j:Int)<(j:Int):=y.2
   lia
theorem RdI.next {k i j:Nat}{rs:List (Int×Int)}(h:RdI k i j rs):RdI k i (j+1) rs:=⟨h.le,h.ok,λp hp=>(h.ah p hp).imp id λy=>⟨y.1,by have:=y.2;lia⟩,h.nd⟩
theorem RdI.row {k i j:Nat}{rs:List (Int×Int)}(h:RdI k i j rs):RdI k (i+1) (i+2) rs:=⟨h.le,h.ok,λp hp=>.inl (by rcases h.ah p hp with y | y <;> lia),h.nd⟩
theorem Zfv {f fCa fDt:AD}{fd fdCa fdDt:FuncData}(F:Fun K "_law_web" "_law_web" ZfK f fd)(FCa:Fun K "_law_cell_at" "_law_cell_at" Zeh fCa fdCa)(bCa:Binds K fdCa ["script", "k"] [])(mCa:mg "_law_cell_at" = some (.ref fCa))(GCa:GG P w K mg base CX0 1 fCa fdCa ["script", "k"] (Zct K))(FDt:Fun K "_law_digit" "_law_digit" ZfJ fDt fdDt)(bDt:Binds K fdDt ["cell", "k", "many"] [])(mDt:mg "_law_digit" = some (.ref fDt))(GDt:GG P w K mg base CX0 2 fDt fdDt ["cell", "k", "many"] Zfq)(mRange:mg "range" = none)(mLen:mg "len" = none) :
  GG P w K mg base CX0 3 f fd ["script", "most_places", "most_roads"] (Zfu K):=by
 refine F.ok scWeb (λvs H Q E h=>?_) (λcdv A outer s0 H vs Q E hr h=>?_)
 ·obtain ⟨_,_,rfl,_⟩:=h
  rfl
 ·obtain ⟨a,ns,rfl,hS,q⟩:=h;have h16:(16777216:Nat)=sizeLine:=sizeLine_eq.symm;refine ⟨_,(@Gc _ _ _ _ _ (@Gp _ _ 3 _ _ _ _ scWeb.nd rfl (Or.inl rfl) (@GD _ _ _ _ _ _ _ _ Jk Gg (@GD _ _ _ _ _ _ _ _ OP (@Gh _ _ _ _ _ _ _ _ _ _ _ _ _ _ _ _ GCa (hr.mono (by decide)) rfl mCa FCa.kp bCa .nil GN (@Ga _ _ _ _ _ (pv 0) (@Ga _ _ _ _ _ Gg Gd rfl) rfl) (by decide) rfl rfl) (@GD _ _ _ _ _ _ _ _ Vu (pv 1) Gg))) rfl (by first | exact .inl rfl | exact .inr rfl))
    (@Gc _ _ _ _ _ (@Gp _ _ 4 _ _ _ _ scWeb.nd rfl (Or.inl rfl) (@GV _ _ _ _ Gd) rfl (by first | exact .inl rfl | exact .inr rfl))
    (@Gc _ _ _ _ _ (@Gp _ _ 5 _ _ _ _ scWeb.nd rfl (Or.inl rfl) Gg rfl (by first | exact .inl rfl | exact .inr rfl))
    (@Gc _ _ _ _ _ (@Jj _ _ _ _ _ _ _ _ PassesOwn.never rfl (OO rfl mRange (@Ga _ _ _ _ _ (pv 3) Gd rfl)) (Gi (i:=6) scWeb.nd rfl (Or.inl rfl))
    (@Ge _ _ _ (@Jj _ _ _ _ _ _ _ _ PassesOwn.never rfl (UY rfl mRange (@Ga _ _ _ _ _ (@GD _ _ _ _ _ _ _ _ Jk (pv 6) Gg) (@Ga _ _ _ _ _ (pv 3) Gd rfl) rfl)) (Gi (i:=7) scWeb.nd rfl (Or.inl rfl))
    (@Gc _ _ _ _ _ (@Gp _ _ 8 _ _ _ _ scWeb.nd rfl (Or.inl rfl) (@Gh _ _ _ _ _ _ _ _ _ _ _ _ _ _ _ _ GCa (hr.mono (by decide)) rfl mCa FCa.kp bCa .nil GN (@Ga _ _ _ _ _ (pv 0) (@Ga _ _ _ _ _ (pv 5) Gd rfl) rfl) (by decide) rfl rfl) rfl (by first | exact .inl rfl | exact .inr rfl))
    (@Gc _ _ _ _ _ (@Gp _ _ 5 _ _ _ _ scWeb.nd rfl (Or.inl rfl) (@GD _ _ _ _ _ _ _ _ Jk (pv 5) Gg) rfl (by first | exact .inl rfl | exact .inr rfl))
    (@Ge _ _ _ (@Jd _ _ _ _ _ _ _ _ (PW.pt (UW (Gr Za (Gw (ZbA K) rfl mLen PySem.boot_len (@Ga _ _ _ _ _ (pv 4) Gd rfl)) (pv 2) (Gz _)) (OI (Gr Zev (@Gh _ _ _ _ _ _ _ _ _ _ _ _ _ _ _ _ GDt (hr.mono (by decide)) rfl mDt FDt.kp bDt .nil GN (@Ga _ _ _ _ _ (pv 8) (@Ga _ _ _ _ _ Gg (@Ga _ _ _ _ _ Gg Gd rfl) rfl) rfl) (by decide) rfl rfl) Gg (Gz _))))) (@Ge _ _ _ (Jo (ZbN PySem.F.plainAttrs_list PySem.F.slot_list_insert PySem.F.type_list_insert Zaa (pv 4) (@Ga _ _ _ _ _ (@Gh _ _ _ _ _ _ _ _ _ _ _ _ _ _ _ _ GDt (hr.mono (by decide)) rfl mDt FDt.kp bDt .nil GN (@Ga _ _ _ _ _ (pv 8) (@Ga _ _ _ _ _ Gg (@Ga _ _ _ _ _ (@GD _ _ _ _ _ _ _ _ Jk (Gw (ZbA K) rfl mLen PySem.boot_len (@Ga _ _ _ _ _ (pv 4) Gd rfl)) Gg) Gd rfl) rfl) rfl) (by decide) rfl rfl) (@Ga _ _ _ _ _ (@JH _ _ _ _ _ (@Ga _ _ _ _ _ (pv 6) (@Ga _ _ _ _ _ (pv 7) Gd rfl) rfl)) Gd rfl) rfl)))) GA)))) (by intro _;rfl))) (by intro _;rfl))
    (@Ge _ _ _ (@Gn _ _ _ _ (@JH _ _ _ _ _ (@Ga _ _ _ _ _ (pv 3) (@Ga _ _ _ _ _ (pv 4) Gd rfl) rfl)))))))),?_⟩
  refine ⟨_,rfl,a,ns,0,rfl,hS,λz=>⟨_,rfl,_,_,rfl,rfl,_,_,rfl,rfl,(by show (0:Int)<6-1;decide),_,_,rfl,rfl,?_⟩⟩;obtain ⟨k,hk,k2,k6⟩:∃k:Nat,(2:Int)+z % (6-1)=(k:Int)/\2<=k/\k<=6:=by
   have f0:0<=z % 5:=Int.emod_nonneg _ (by decide);have f1:z % 5<5:=Int.emod_lt_of_pos _ (by decide);exact ⟨((2:Int)+z % 5).toNat,by show (2:Int)+z % 5=_;lia,by lia,by lia⟩
  dsimp only [GL];rw [hk];refine ⟨Nat.zero_le _,λl hl=>?_⟩;have s1:Same H (upd H l (.lst [])):=Same.new hl;have e1:upd H l (.lst []) l=some (.lst []):=Gb;generalize upd H l (.lst [])=H1 at s1 e1 ⊢;dsimp only [GL];refine ⟨_,rfl,_,rfl,by lia,by lia,?_⟩;refine Ob (lo:=0) (λi σ H2=>∃(v6 v7 v8:Option V)(kk:Nat)(xs:List V)(rs:List (Int×Int)),σ=[some (.ref a),some (.int 6),some (.int 9),some (.int (k:Int)),some (.ref l),some (.int (kk:Int)),v6,v7,v8]/\Same H H2/\H2 l=some (.lst xs)/\Prs H2 xs rs/\RdI k i (i+1) rs)
   ⟨none,none,none,1,[],[],rfl,s1,e1,.nil,⟨by simp,by simp,by simp,.nil⟩⟩ ?_ ?_
  ·rintro i σ H2 hi ⟨v6,v7,v8,kk,xs,rs,rfl,s2,e2,p2,r2⟩;rw [Int.zero_add];rw [Int.toNat_natCast] at hi;dsimp only [GL];refine ⟨_,rfl,_,_,rfl,rfl,_,rfl,_,_,rfl,⟨by lia,by lia,by lia,by lia⟩,?_⟩;refine Ob (lo:=(i:Int)+1) (λj σ H2=>∃(v7 v8:Option V)(kk:Nat)(xs:List V)(rs:List (Int×Int)),σ=[some (.ref a),some (.int 6),some (.int 9),some (.int (k:Int)),some (.ref l),some (.int (kk:Int)),some (.int (i:Int)),v7,v8]/\Same H H2/\H2 l=some (.lst xs)/\Prs H2 xs rs/\RdI k i (i+1+j) rs)
    ⟨v7,v8,kk,xs,rs,rfl,s2,e2,p2,r2⟩ ?_ ?_
   ·rintro j σ H3 hj ⟨v7,v8,kk,xs,rs,rfl,s3,e3,p3,r3⟩;have hj:j<((k:Int)-((i:Int)+1)).toNat:=hj;have ej:(i:Int)+1+(j:Int)=((i+1+j:Nat):Int):=by push_cast;rfl
    rw [ej];have hxl:=p3.len;have hle:=r3.le;dsimp only [GL];refine ⟨_,rfl,_,rfl,a,ns,kk,rfl,X8 hS s3,λc=>?_⟩;dsimp only [GL];refine ⟨_,rfl,_,_,rfl,rfl,?_⟩;dsimp only [GL];refine ⟨_,rfl,l,_,rfl,.inl (SqL.of e3),_,rfl,_,_,rfl,rfl,_,rfl,WX (λh9=>?_) (λh9=>Jw ⟨_,_,kk+1,xs,rs,rfl,s3,e3,p3,r3.next⟩)⟩;have h9:=of_decide_eq_true h9;refine ⟨_,rfl,c,0,3,rfl,by decide,by decide,by decide,λd d0 d3=>?_⟩;refine ⟨_,_,rfl,rfl,_,rfl,WX (λh0=>?_) (λh0=>⟨_,_,kk+1,xs,rs,rfl,s3,e3,p3,r3.next⟩)⟩;refine ⟨_,rfl,.inl ⟨rfl,_,SqL.of e3⟩,_,rfl,_,rfl,l,_,rfl,.inl (SqL.of e3),_,_,rfl,rfl,c,1,(xs.length:Int)+1,rfl,by decide,by decide,by lia,λn n0 n1=>?_⟩;refine ⟨_,rfl,_,rfl,J8,λT hT=>?_⟩;have s4:Same H3 (upd H3 T (.tup [.int (i:Int),.int ((i+1+j:Nat):Int)])):=Same.new hT;have eT:upd H3 T (.tup [.int (i:Int),.int ((i+1+j:Nat):Int)]) T=some (.tup [.int (i:Int),.int ((i+1+j:Nat):Int)]):=Gb;generalize upd H3 T (.tup [.int (i:Int),.int ((i+1+j:Nat):Int)])=H4 at s4 eT ⊢;have e4:=s4 _ _ e3;have p4:Prs H4 xs rs:=p3.same s4;refine ⟨l,xs,n,_,rfl,rfl,e4,n0,by lia,by lia,?_⟩;have hl0:H l=none:=hl;refine ⟨_,_,kk+1,_,rs.take n.toNat++((i:Int),((i+1+j:Nat):Int))::rs.drop n.toNat,rfl,(s3.trans s4).put hl0,Gb,?_,?_⟩
    ·exact (Zbo eT p4 n.toNat).keep (ZbS e4)
    ·exact r3.ins (by lia) (by lia) (by lia) n.toNat
   ·rintro σ H3 ⟨v7,v8,kk,xs,rs,rfl,s3,e3,p3,r3⟩;exact ⟨_,_,_,kk,xs,rs,rfl,s3,e3,p3,r3.row⟩
  ·rintro σ H2 ⟨v6,v7,v8,kk,xs,rs,rfl,s2,e2,p2,r2⟩;refine ⟨_,rfl,_,rfl,J8,λp hp=>?_⟩;have s3:Same H2 (upd H2 p (.tup [.int (k:Int),.ref l])):=Same.new hp;exact q p l k xs rs _ (s2.trans s3) ⟨Gb,s3 _ _ e2,p2.same s3⟩ ⟨by lia,by lia,by have:=r2.le;lia,r2.ok,r2.nd⟩ k2 k6 r2.le
end
end M
namespace M
open PySem L2
theorem nodup_range:∀{k:Nat}{ns:LI},ns.Nodup->(∀x∈ns,0<=x/\x<(k:Int))->ns.length<=k
 | 0,ns,_,h=>by
  cases ns with
  | nil=>exact Nat.le_refl _
  | cons a r=>have:=h a (List.mem_cons_self);lia
 | k+1,ns,nd,h=>by
  by_cases z:((k:Nat):Int)∈ns
  ·have hl:=List.length_erase_of_mem z;have hp:0<ns.length:=List.length_pos_of_mem z;have ih:=nodup_range (k:=k) (ns:=ns.erase ((k:Nat):Int)) (nd.erase _) λx hx=>by
    have h1:=(List.Nodup.mem_erase_iff nd).mp hx;have h2:=h x h1.2;have h3:=h1.1
    lia
   lia
  ·have ih:=nodup_range (k:=k) nd λx hx=>by
    have h2:=h x hx;have h3:x≠((k:Nat):Int):=λe=>z (e▸hx)
    lia
   lia
def Srt (l:List (LI)):Prop:=l.Pairwise λa b=>Jq b a=false
theorem Zdh:∀{l m:List (LI)},Srt l->Srt m->l.Perm m->l=m
 | [],m,_,_,p=>(p.symm.eq_nil).symm
 | x::l,m,h1,h2,p=>by
  cases m with
  | nil=>exact absurd p.eq_nil (by simp)
  | cons y m=>
   have a:=List.pairwise_cons.mp h1;have c:=List.pairwise_cons.mp h2;have e:x=y:=by
    rcases List.mem_cons.mp (p.mem_iff.mp (List.mem_cons_self ..)) with e | e
    ·exact e
    ·rcases List.mem_cons.mp (p.mem_iff.mpr (List.mem_cons_self (a:=y))) with f | f
     ·exact f.symm
     ·exact UP (c.1 x e) (a.1 y f) |>.symm▸rfl
   subst e;rw [Zdh a.2 c.2 p.cons_inv]
theorem ZcF (rs:List (Int×Int)):∀(c:LI)(d:Int->Nat)(x:Int),c.foldl (λd q=>Jr (rdAt rs q) d) d x=degF rs c x+d x:=by
 intro c
 induction c with
 | nil=>intro d x;show d x=0+d x;lia
 | cons q c ih=>
  intro d x;show c.foldl _ (Jr (rdAt rs q) d) x=c.foldl _ (Jr (rdAt rs q) λ_=>0) x+d x;rw [ih,ih];simp only [Jr]
  lia
theorem Oo (rs:List (Int×Int))(q:Int)(c:LI)(x:Int):degF rs (q::c) x=degF rs [q] x+degF rs c x:=by
 have h:=ZcF rs c (Jr (rdAt rs q) λ_=>0) x;have e:degF rs [q] x=Jr (rdAt rs q) (λ_=>0) x:=rfl;have e2:degF rs (q::c) x=c.foldl (λd q=>Jr (rdAt rs q) d) (Jr (rdAt rs q) λ_=>0) x:=rfl;rw [e,e2,h]
 lia
theorem Vo (rs:List (Int×Int))(x:Int):∀a b:LI,degF rs (a++b) x=degF rs a x+degF rs b x
 | [],b=>by show _=0+_;rw [Nat.zero_add];rfl
 | q::a,b=>by rw [List.cons_append,Oo,Vo rs x a b,Oo rs q a];lia
theorem YY {rs:List (Int×Int)}{a b:LI}(p:a.Perm b)(x:Int):degF rs a x=degF rs b x:=by
 induction p with
 | nil=>rfl
 | @cons q a b _ ih=>
  have h1:=Oo rs q a x;have h2:=Oo rs q b x
  lia
 | swap p q c=>
  have h1:=Oo rs q (p::c) x;have h2:=Oo rs p c x;have h3:=Oo rs p (q::c) x;have h4:=Oo rs q c x
  lia
 | trans _ _ i j=>rw [i,j]
theorem X9 (rs:List (Int×Int))(q x:Int):degF rs [q] x=(if x=(rdAt rs q).1 then 1 else 0)+(if x=(rdAt rs q).2 then 1 else 0):=by
 show (if x=(rdAt rs q).1 then 1 else 0)+(if x=(rdAt rs q).2 then 1 else 0)+0=_
 lia
theorem J6 {rs:List (Int×Int)}{c:LI}{q x:Int}(h:q∈c)(e:(rdAt rs q).1=x\/(rdAt rs q).2=x):0<degF rs c x:=by
 obtain ⟨a,b,rfl⟩:=List.append_of_mem h;rw [Vo,Oo,X9];rcases e with e | e <;> rw [if_pos e.symm] <;> lia
theorem WB {rs:List (Int×Int)}{c:LI}{x:Int}(h:degF rs c x=0){q:Int}(hq:q∈c):(rdAt rs q).1≠x/\(rdAt rs q).2≠x:=by
 constructor
 ·intro e;have:=J6 hq (.inl e);lia
 ·intro e;have:=J6 hq (.inr e);lia
abbrev Ue (rs:List (Int×Int))(l:Option (Int->Int))(q:Int):Option (Int->Int):=l.bind λlab=>if lab (rdAt rs q).1=lab (rdAt rs q).2 then none else some (Ji (rdAt rs q) lab)
def LE:Option (Int->Int)->Option (Int->Int)->Prop
 | none,none=>True
 | some a,some b=>∀x y,a x=a y↔b x=b y
 | _,_=>False
theorem LE.refl:∀a,LE a a
 | none=>trivial
 | some _=>λ_ _=>Iff.rfl
theorem LE.trans:∀{a b c},LE a b->LE b c->LE a c
 | none,none,none,_,_=>trivial
 | some _,some _,some _,h1,h2=>λx y=>(h1 x y).trans (h2 x y)
theorem Jc (r:Int×Int)(lab:Int->Int)(x y:Int):Ji r lab x=Ji r lab y↔lab x=lab y\/((lab x=lab r.1\/lab x=lab r.2)/\(lab y=lab r.1\/lab y=lab r.2)):=by
 unfold Ji;split <;> split <;> lia
theorem LE.step {rs:List (Int×Int)}(q:Int):∀{a b},LE a b->LE (Ue rs a q) (Ue rs b q)
 | none,none,_=>trivial
 | some a,some b,h=>by
  show LE (if a (rdAt rs q).1=a (rdAt rs q).2 then none else some (Ji (rdAt rs q) a)) (if b (rdAt rs q).1=b (rdAt rs q).2 then none else some (Ji (rdAt rs q) b));by_cases z:a (rdAt rs q).1=a (rdAt rs q).2
  ·rw [if_pos z,if_pos ((h _ _).mp z)];trivial
  ·rw [if_neg z,if_neg λy=>z ((h _ _).mpr y)];intro x y;rw [Jc,Jc,h x y,h x,h x,h y,h y]
theorem LE.swap {rs:List (Int×Int)}(p q:Int):∀a,LE (Ue rs (Ue rs a p) q) (Ue rs (Ue rs a q) p)
 | none=>trivial
 | some a=>by
  have key:∀(r t:Int×Int),LE (if a r.1=a r.2 then none else if Ji r a t.1=Ji r a t.2 then none else some (Ji t (Ji r a))) (if a t.1=a t.2 then none else if Ji t a r.1=Ji t a r.2 then none else some (Ji r (Ji t a))):=by
   intro r t;by_cases z1:a r.1=a r.2
   ·rw [if_pos z1];by_cases z2:a t.1=a t.2
    ·rw [if_pos z2];trivial
    ·rw [if_neg z2,if_pos ((Jc _ _ _ _).mpr (.inl z1))];trivial
   ·rw [if_neg z1];by_cases z2:a t.1=a t.2
    ·rw [if_pos z2,if_pos ((Jc _ _ _ _).mpr (.inl z2))];trivial
    ·rw [if_neg z2];by_cases z3:Ji r a t.1=Ji r a t.2
     ·rw [if_pos z3,if_pos]
      ·trivial
      ·rw [Jc] at z3 ⊢;lia
     ·rw [if_neg z3,if_neg]
      ·intro x y;simp only [Jc] at z3 ⊢
       grind
      ·rw [Jc] at z3 ⊢;lia
  have e:∀u v:Int,Ue rs (Ue rs (some a) u) v=if a (rdAt rs u).1=a (rdAt rs u).2 then none else if Ji (rdAt rs u) a (rdAt rs v).1=Ji (rdAt rs u) a (rdAt rs v).2 then none else some (Ji (rdAt rs v) (Ji (rdAt rs u) a)):=by
   intro u v;show (if a (rdAt rs u).1=a (rdAt rs u).2 then none else some (Ji (rdAt rs u) a)).bind _=_;split <;> rfl
  rw [e,e];exact key _ _
theorem ZcG {rs:List (Int×Int)}{c c':LI}(p:c.Perm c'):∀{a b},LE a b->LE (c.foldl (Ue rs) a) (c'.foldl (Ue rs) b):=by
 induction p with
 | nil=>exact λh=>h
 | cons q _ ih=>exact λh=>ih (h.step q)
 | @swap p q c=>
  intro a b h;have go:∀(c:LI){a b},LE a b->LE (c.foldl (Ue rs) a) (c.foldl (Ue rs) b):=by
   intro c
   induction c with
   | nil=>exact λh=>h
   | cons q c ih=>exact λh=>ih (h.step q)
  exact go c ((LE.swap q p a).trans ((h.step p).step q))
 | trans _ _ i j=>exact λh=>(i (LE.refl _)).trans (j h)
theorem ZE {rs:List (Int×Int)}{A:Int->Prop}:∀(c:LI)(lab:Int->Int),OL rs c=some lab->(∀q∈c,A (rdAt rs q).1↔A (rdAt rs q).2)->∀x y,lab x=lab y->(A x↔A y):=by
 refine O9 (P:=λc=>∀(lab:Int->Int),OL rs c=some lab->(∀q∈c,A (rdAt rs q).1↔A (rdAt rs q).2)->∀x y,lab x=lab y->(A x↔A y)) ?_ ?_
 ·intro lab e _ x y h;cases e;rw [show x=y from h]
 ·intro c q ih lab e hA x y h;rw [JF] at e;obtain ⟨l0,e0,e1⟩:=Option.bind_eq_some_iff.mp e;split at e1
  ·cases e1
  ·cases e1;have I:=ih l0 e0 λq hq=>hA q (List.mem_append_left _ hq);have hq:=hA q (List.mem_append_right _ (List.mem_singleton.mpr rfl));rcases (Jc _ _ _ _).mp h with h | ⟨h1,h2⟩
   ·exact I x y h
   ·have k1:A x↔A (rdAt rs q).1:=by
     rcases h1 with h1 | h1
     ·exact I _ _ h1
     ·exact (I _ _ h1).trans hq.symm
    have k2:A y↔A (rdAt rs q).1:=by
     rcases h2 with h2 | h2
     ·exact I _ _ h2
     ·exact (I _ _ h2).trans hq.symm
    exact k1.trans k2.symm
end M
namespace M
open PySem L2
theorem Op {rs:List (Int×Int)}{j:Nat}(h:j<rs.length):rs.getD j (0,0)∈rs:=by
 rw [List.getD_eq_getElem?_getD,List.getElem?_eq_getElem h];exact List.getElem_mem h
structure Ent where
 at_:Int
 row:LI
 ch:LI
def kid (rs:List (Int×Int))(e:Ent)(j:Nat):List Ent:=if Om (rs.getD j (0,0)) e.at_=true then (if (rs.getD j (0,0)).1+(rs.getD j (0,0)).2-e.at_∈e.row then [] else [⟨(rs.getD j (0,0)).1+(rs.getD j (0,0)).2-e.at_,e.row++[(rs.getD j (0,0)).1+(rs.getD j (0,0)).2-e.at_],e.ch++[(j:Int)]⟩]) else []
def ZbF (rs:List (Int×Int))(e:Ent)(n:Nat):List Ent:=(List.range n).flatMap (kid rs e)
def JV (rs:List (Int×Int))(q:Int):Nat->Ent->List (LI)
 | 0,_=>[]
 | f+1,e=>if e.at_=q then [e.ch] else (ZbF rs e rs.length).flatMap (JV rs q f)
structure PI (rs:List (Int×Int))(k:Nat)(s:Int)(e:Ent):Prop where
 nd:e.row.Nodup
 rg:∀x∈e.row,0<=x/\x<(k:Int)
 at_:e.at_∈e.row
 st:s∈e.row
 chr:∀q∈e.ch,0<=q/\q<(rs.length:Int)
 chn:e.ch.Nodup
 dg:∀x,degF rs e.ch x+(if x=s then 1 else 0)+(if x=e.at_ then 1 else 0)=if x∈e.row then 2 else 0
 lab:∃lab,OL rs e.ch=some lab/\∀x y,lab x=lab y↔x=y\/(x∈e.row/\y∈e.row)
theorem PI.start {rs:List (Int×Int)}{k:Nat}{s:Int}(hs:0<=s/\s<(k:Int)):PI rs k s ⟨s,[s],[]⟩:=
 ⟨List.nodup_cons.mpr ⟨by simp,.nil⟩,λx hx=>by rw [List.mem_singleton.mp hx];exact hs,List.mem_singleton.mpr rfl,List.mem_singleton.mpr rfl,by simp,.nil,λx=>by
  show 0+(if x=s then 1 else 0)+(if x=s then 1 else 0)=if x∈[s] then 2 else 0
  by_cases h:x=s
  ·rw [if_pos h,if_pos (List.mem_singleton.mpr h)]
  ·rw [if_neg h,if_neg (λz=>h (List.mem_singleton.mp z))],id,rfl,λx y=>by
  show x=y↔x=y\/(x∈[s]/\y∈[s]);refine ⟨.inl,λh=>h.elim id λ⟨h1,h2⟩=>(List.mem_singleton.mp h1).trans (List.mem_singleton.mp h2).symm⟩⟩
theorem PI.len {rs:List (Int×Int)}{k:Nat}{s:Int}{e:Ent}(h:PI rs k s e):e.row.length<=k:=nodup_range h.nd h.rg
theorem WC {rs:List (Int×Int)}{e e':Ent}{j:Nat}(h:e'∈kid rs e j):Om (rs.getD j (0,0)) e.at_=true/\e'.at_ ∉ e.row/\e'=⟨e'.at_,e.row++[e'.at_],e.ch++[(j:Int)]⟩/\e'.at_=(rs.getD j (0,0)).1+(rs.getD j (0,0)).2-e.at_:=by
 unfold kid at h;split at h
 ·rename_i h1;split at h
  ·cases h
  ·rename_i h2;rw [List.mem_singleton.mp h];exact ⟨h1,h2,rfl,rfl⟩
 ·cases h
theorem PI.kid {rs:List (Int×Int)}{k:Nat}{s:Int}{e e':Ent}{j:Nat}(hr:∀r∈rs,0<=r.1/\r.1<r.2/\r.2<(k:Int))(h:PI rs k s e)(hj:j<rs.length)(hk:e'∈kid rs e j):PI rs k s e':=by
 obtain ⟨h1,h2,h3,h4⟩:=WC hk;have hrj:=hr _ (Op (rs:=rs) hj);have erd:rdAt rs (j:Int)=rs.getD j (0,0):=by unfold rdAt;rw [Int.toNat_natCast]
 rw [<-erd] at h1 h4 hrj;unfold Om at h1;have h1:=of_decide_eq_true h1;have dz:degF rs e.ch e'.at_=0:=by
  have:=h.dg e'.at_;rw [if_neg h2] at this
  lia
 have jn:(j:Int) ∉ e.ch:=λz=>by
  have:=WB dz z
  lia
 rw [h3];refine ⟨?_,λx hx=>?_,List.mem_append_right _ (List.mem_singleton.mpr rfl),List.mem_append_left _ h.st,λq hq=>?_,?_,λx=>?_,?_⟩
 ·exact List.nodup_append.mpr ⟨h.nd,by simp,λa ha b hb z=>by rw [List.mem_singleton.mp hb] at z;exact h2 (z▸ha)⟩
 ·rcases List.mem_append.mp hx with hx | hx
  ·exact h.rg x hx
  ·rw [List.mem_singleton.mp hx];lia
 ·rcases List.mem_append.mp hq with hq | hq
  ·exact h.chr q hq
  ·rw [List.mem_singleton.mp hq];lia
 ·exact List.nodup_append.mpr ⟨h.chn,by simp,λa ha b hb z=>by rw [List.mem_singleton.mp hb] at z;exact jn (z▸ha)⟩
 ·have d:=h.dg x;show degF rs (e.ch++[(j:Int)]) x+_+(if x=e'.at_ then 1 else 0)=if x∈e.row++[e'.at_] then 2 else 0
  rw [Vo,X9];have a:=h.at_;by_cases hx:x=e'.at_
  ·subst hx;rw [if_neg h2] at d;rw [if_pos (List.mem_append_right _ (List.mem_singleton.mpr rfl)),if_pos rfl];have:e'.at_≠e.at_:=λz=>h2 (z▸a);split <;> split <;> lia
  ·have m:(x∈e.row++[e'.at_])↔x∈e.row:=⟨λz=>(List.mem_append.mp z).elim id λz=>absurd (List.mem_singleton.mp z) hx,List.mem_append_left _⟩;rw [if_neg hx];simp only [m];rw [<-d];by_cases hy:x=e.at_
   ·rw [if_pos hy];split <;> split <;> lia
   ·rw [if_neg hy];split <;> split <;> lia
 ·obtain ⟨lab,e0,kn⟩:=h.lab;have a:=h.at_;have ne:lab (rdAt rs (j:Int)).1≠lab (rdAt rs (j:Int)).2:=λz=>by
   rcases (kn _ _).mp z with z | ⟨z1,z2⟩
   ·lia
   ·rcases h1 with h1 | h1
    ·exact h2 (by rw [h4,<-h1];rw [show (rdAt rs (j:Int)).1+(rdAt rs (j:Int)).2-(rdAt rs (j:Int)).1=(rdAt rs (j:Int)).2 by lia];exact z2)
    ·exact h2 (by rw [h4,<-h1];rw [show (rdAt rs (j:Int)).1+(rdAt rs (j:Int)).2-(rdAt rs (j:Int)).2=(rdAt rs (j:Int)).1 by lia];exact z1)
  refine ⟨Ji (rdAt rs (j:Int)) lab,?_,λx y=>?_⟩
  ·show OL rs (e.ch++[(j:Int)])=_;rw [JF,e0];show (if _ then none else some _)=_;rw [if_neg ne]
  ·show _↔x=y\/(x∈e.row++[e'.at_]/\y∈e.row++[e'.at_]);have one:∀z,(lab z=lab (rdAt rs (j:Int)).1\/lab z=lab (rdAt rs (j:Int)).2)↔z∈e.row++[e'.at_]:=by
    intro z;rw [kn,kn,List.mem_append,List.mem_singleton];rcases h1 with h1 | h1
    ·have t2:e'.at_=(rdAt rs (j:Int)).2:=by lia
     rw [h1,<-t2];constructor
     ·rintro ((z | z) | (z | z))
      ·exact .inl (z▸a)
      ·exact .inl z.1
      ·exact .inr z
      ·exact .inl z.1
     ·rintro (z | z)
      ·exact .inl (.inr ⟨z,a⟩)
      ·exact .inr (.inl z)
    ·have t2:e'.at_=(rdAt rs (j:Int)).1:=by lia
     rw [h1,<-t2];constructor
     ·rintro ((z | z) | (z | z))
      ·exact .inr z
      ·exact .inl z.1
      ·exact .inl (z▸a)
      ·exact .inl z.1
     ·rintro (z | z)
      ·exact .inr (.inr ⟨z,a⟩)
      ·exact .inl (.inl z)
   rw [Jc,one,one,kn];constructor
   ·rintro ((z | z) | z)
    ·exact .inl z
    ·exact .inr ⟨List.mem_append_left _ z.1,List.mem_append_left _ z.2⟩
    ·exact .inr z
   ·rintro (z | z)
    ·exact .inl (.inl z)
    ·exact .inr z
theorem WD {rs:List (Int×Int)}{k:Nat}{s t:Int}(hst:s≠t)(hr:∀r∈rs,0<=r.1/\r.1<r.2/\r.2<(k:Int)):∀(f:Nat)(e:Ent),PI rs k s e->∀ch∈JV rs t f e,(∀c,ch.Perm c->Way rs k s t c)/\ch.Nodup/\(∀q∈ch,0<=q/\q<(rs.length:Int))/\∃u,ch=e.ch++u
 | 0,_,_,_,h=>by cases h
 | f+1,e,I,ch,h=>by
  unfold JV at h;by_cases z:e.at_=t
  ·rw [if_pos z] at h;rw [List.mem_singleton.mp h];refine ⟨λc p=>?_,I.chn,I.chr,[],by simp⟩;obtain ⟨lab,e0,kn⟩:=I.lab;have le:=ZcG (rs:=rs) p (LE.refl (some id));have e0':e.ch.foldl (Ue rs) (some id)=some lab:=e0;rw [e0'] at le;cases e1:c.foldl (Ue rs) (some id) with
   | none=>rw [e1] at le;exact le.elim
   | some lab'=>
    rw [e1] at le;have le:∀x y,lab x=lab y↔lab' x=lab' y:=le;refine ⟨lab',e1,λx x0 x1=>?_⟩;have d:=I.dg x;rw [YY p x,z] at d;refine ⟨λh=>?_,λh1 h2=>?_,λh=>?_⟩
    ·rcases h with rfl | rfl
     ·rw [if_pos rfl,if_neg hst,if_pos I.st] at d;lia
     ·rw [if_pos rfl,if_neg (Ne.symm hst),if_pos (z▸I.at_)] at d;lia
    ·rw [if_neg h1,if_neg h2] at d;split at d <;> lia
    ·refine (le x s).mp ((kn x s).mpr (.inr ⟨?_,I.st⟩));by_cases m:x∈e.row
     ·exact m
     ·rw [if_neg m] at d;lia
  ·rw [if_neg z] at h;obtain ⟨e',he,h⟩:=List.mem_flatMap.mp h;obtain ⟨j,hj,he⟩:=List.mem_flatMap.mp he;obtain ⟨g1,g2,g3,u,g4⟩:=WD hst hr f e' (I.kid hr (List.mem_range.mp hj) he) ch h;refine ⟨g1,g2,g3,(j:Int)::u,?_⟩;rw [g4,(WC he).2.2.1,List.append_assoc]
   rfl
end M
namespace M
open PySem L2
theorem Xu {β:Type}(P:β->Bool)(G:Nat->List β):∀{n:Nat},(∀j,j<n->(G j).filter P=[])->((List.range n).flatMap G).filter P=[]
 | 0,_=>rfl
 | n+1,h=>by
  rw [List.range_succ,List.flatMap_append,List.filter_append,Xu P G (λj hj=>h j (by lia)),List.flatMap_cons,List.flatMap_nil,List.append_nil,h n (by lia)]
  rfl
theorem YZ {β:Type}(P:β->Bool)(G:Nat->List β){j0:Nat}(h1:((G j0).filter P).length=1):∀{n:Nat},j0<n->(∀j,j<n->j≠j0->(G j).filter P=[])->(((List.range n).flatMap G).filter P).length=1
 | 0,hj,_=>by lia
 | n+1,hj,h=>by
  rw [List.range_succ,List.flatMap_append,List.filter_append,List.flatMap_cons,List.flatMap_nil,List.append_nil,List.length_append];by_cases e:j0=n
  ·subst e;rw [Xu P G λj hj=>h j (by lia) (by lia),h1]
   rfl
  ·rw [YZ P G h1 (show j0<n by lia) (λj hj=>h j (by lia)),h n (by lia) (λz=>e z.symm)]
   rfl
theorem Yb {rs:List (Int×Int)}{x:Int}:∀{c:LI},0<degF rs c x->∃q∈c,(rdAt rs q).1=x\/(rdAt rs q).2=x
 | [],h=>absurd h (by show ¬ 0<0;lia)
 | q::c,h=>by
  by_cases e:(rdAt rs q).1=x\/(rdAt rs q).2=x
  ·exact ⟨q,List.mem_cons_self ..,e⟩
  ·have h1:=Oo rs q c x;rw [X9,if_neg (λz=>e (.inl z.symm)),if_neg (λz=>e (.inr z.symm))] at h1;obtain ⟨p,hp,e⟩:=Yb (rs:=rs) (x:=x) (c:=c) (by lia);exact ⟨p,List.mem_cons_of_mem _ hp,e⟩
theorem Zd8 {rs:List (Int×Int)}{x p q:Int}{c:LI}(hp:p∈c)(hq:q∈c)(ne:p≠q)(ep:(rdAt rs p).1=x\/(rdAt rs p).2=x)(eq:(rdAt rs q).1=x\/(rdAt rs q).2=x):2<=degF rs c x:=by
 obtain ⟨a,b,rfl⟩:=List.append_of_mem hp;have h1:=Vo rs x a (p::b);have h2:=Oo rs p b x;have h3:0<degF rs [p] x:=J6 (List.mem_singleton.mpr rfl) ep;rcases List.mem_append.mp hq with z | z
 ·have:=J6 z eq;lia
 ·rcases List.mem_cons.mp z with z | z
  ·exact absurd z.symm ne
  ·have:=J6 z eq;lia
theorem Y0 {rs:List (Int×Int)}{k:Nat}{s t:Int}{c:LI}(hst:s≠t)(hr:∀r∈rs,0<=r.1/\r.1<r.2/\r.2<(k:Int))(cn:c.Nodup)(hc:∀q∈c,0<=q/\q<(rs.length:Int))(Wc:Way rs k s t c) :
  ∀(f:Nat)(e:Ent),PI rs k s e->(∀q∈e.ch,q∈c)->e.row.length+f=k+1->((JV rs t f e).filter λch=>decide (ch.Perm c)).length=1
 | 0,e,I,_,hl=>by have:=I.len;lia
 | f+1,e,I,hsub,hl=>by
  obtain ⟨lab,el,W⟩:=id Wc;have rdr:∀q∈c,0<=(rdAt rs q).1/\(rdAt rs q).1<(rdAt rs q).2/\(rdAt rs q).2<(k:Int):=λq hq=>by
   have:=hc q hq;exact hr _ (Op (rs:=rs) (show q.toNat<rs.length by lia))
  obtain ⟨rest,hrest⟩:∃rest,rest=c.filter λq=>!decide (q∈e.ch):=⟨_,rfl⟩;have mrest:∀q,q∈rest↔q∈c/\q ∉ e.ch:=λq=>by
   rw [hrest,List.mem_filter];simp
  have rn:rest.Nodup:=by rw [hrest];exact cn.filter _
  have pm:c.Perm (e.ch++rest):=by
   refine (List.perm_ext_iff_of_nodup cn (List.nodup_append.mpr ⟨I.chn,rn,λa ha b hb z=>((mrest b).mp hb).2 (z▸ha)⟩)).mpr λq=>?_;rw [List.mem_append,mrest];by_cases z:q∈e.ch
   ·exact ⟨λ_=>.inl z,λ_=>hsub q z⟩
   ·exact ⟨λh=>.inr ⟨h,z⟩,λh=>h.elim (λh=>absurd h z) (·.1)⟩
  have dd:∀x,degF rs c x=degF rs e.ch x+degF rs rest x:=λx=>by rw [YY pm,Vo]
  have inr:∀q∈e.ch,(rdAt rs q).1∈e.row/\(rdAt rs q).2∈e.row:=λq hq=>by
   have on:∀x,(rdAt rs q).1=x\/(rdAt rs q).2=x->x∈e.row:=λx hx=>by
    by_cases m:x∈e.row
    ·exact m
    ·have:=I.dg x;rw [if_neg m] at this;have:=J6 (rs:=rs) hq hx
     lia
   exact ⟨on _ (.inl rfl),on _ (.inr rfl)⟩
  by_cases z:e.at_=t
  ·have rz:∀x∈e.row,degF rs rest x=0:=λx hx=>by
    have d:=I.dg x;have d2:=dd x;have g:=I.rg x hx;obtain ⟨w1,w2,_⟩:=W x g.1 g.2;rw [if_pos hx,z] at d;by_cases xs:x=s
    ·have:=w1 (.inl xs);rw [if_pos xs,if_neg (λy=>hst (xs.symm.trans y))] at d
     lia
    ·rw [if_neg xs] at d;by_cases xt:x=t
     ·have:=w1 (.inr xt);rw [if_pos xt] at d
      lia
     ·rw [if_neg xt] at d;have:=w2 xs xt
      lia
   have out:∀q∈rest,(rdAt rs q).1 ∉ e.row/\(rdAt rs q).2 ∉ e.row:=λq hq=>⟨λm=>(WB (rz _ m) hq).1 rfl,λm=>(WB (rz _ m) hq).2 rfl⟩;have cl:=ZE (A:=λx=>x∈e.row) c lab el λq hq=>by
    by_cases m:q∈e.ch
    ·exact ⟨λ_=>(inr q m).2,λ_=>(inr q m).1⟩
    ·have:=out q ((mrest q).mpr ⟨hq,m⟩);exact ⟨λy=>absurd y this.1,λy=>absurd y this.2⟩
   have nil:rest=[]:=by
    cases hr':rest with
    | nil=>rfl
    | cons q r=>
     have hq:q∈rest:=by rw [hr'];exact List.mem_cons_self ..
     have hqc:=((mrest q).mp hq).1;have g:=rdr q hqc;have:=(W (rdAt rs q).1 g.1 (by lia)).2.2 (J6 hqc (.inl rfl));exact absurd ((cl _ _ this).mpr I.st) (out q hq).1
   rw [nil,List.append_nil] at pm;unfold JV;rw [if_pos z,List.filter_cons,if_pos (decide_eq_true pm.symm)]
   rfl
  ·have ga:=I.rg _ I.at_;have r1:degF rs rest e.at_=1:=by
    have d:=I.dg e.at_;have d2:=dd e.at_;obtain ⟨w1,w2,_⟩:=W e.at_ ga.1 ga.2;rw [if_pos rfl,if_pos I.at_] at d;by_cases xs:e.at_=s
    ·have:=w1 (.inl xs);rw [if_pos xs] at d
     lia
    ·rw [if_neg xs] at d;have:=w2 xs z
     lia
   obtain ⟨q0,hq0,eq0⟩:=Yb (rs:=rs) (x:=e.at_) (c:=rest) (by lia);have hq0c:=((mrest q0).mp hq0).1;have g0:=rdr q0 hq0c;have rg0:=hc q0 hq0c;have one:∀q∈rest,(rdAt rs q).1=e.at_\/(rdAt rs q).2=e.at_->q=q0:=λq hq eq=>by
    by_cases y:q=q0
    ·exact y
    ·have:=Zd8 hq hq0 y eq eq0
     lia
   have e0:rs.getD q0.toNat (0,0)=rdAt rs q0:=rfl;have toN:(rdAt rs q0).1+(rdAt rs q0).2-e.at_ ∉ e.row:=λm=>by
    have hto:(rdAt rs q0).1=(rdAt rs q0).1+(rdAt rs q0).2-e.at_\/(rdAt rs q0).2=(rdAt rs q0).1+(rdAt rs q0).2-e.at_:=by lia
    have nta:(rdAt rs q0).1+(rdAt rs q0).2-e.at_≠e.at_:=by lia
    generalize (rdAt rs q0).1+(rdAt rs q0).2-e.at_=to at m hto nta;have d:=I.dg to;have d2:=dd to;have g:=I.rg to m;have p:=J6 (rs:=rs) hq0 hto;obtain ⟨w1,w2,_⟩:=W to g.1 g.2;rw [if_pos m,if_neg nta] at d;by_cases xs:to=s
    ·have:=w1 (.inl xs);rw [if_pos xs] at d
     lia
    ·rw [if_neg xs] at d;by_cases xt:to=t
     ·have:=w1 (.inr xt)
      lia
     ·have:=w2 xs xt
      lia
   unfold JV;rw [if_neg z];show ((((List.range rs.length).flatMap (kid rs e)).flatMap (JV rs t f)).filter _).length=1;rw [List.flatMap_assoc];refine YZ (j0:=q0.toNat) _ _ ?_ (by lia) λj hj hne=>?_
   ·have ek:kid rs e q0.toNat=[⟨(rdAt rs q0).1+(rdAt rs q0).2-e.at_,e.row++[(rdAt rs q0).1+(rdAt rs q0).2-e.at_],e.ch++[((q0.toNat:Nat):Int)]⟩]:=by
     unfold kid;rw [e0,if_pos (by unfold Om;exact decide_eq_true eq0),if_neg toN]
    have I':PI rs k s ⟨(rdAt rs q0).1+(rdAt rs q0).2-e.at_,e.row++[(rdAt rs q0).1+(rdAt rs q0).2-e.at_],e.ch++[((q0.toNat:Nat):Int)]⟩:=I.kid hr (j:=q0.toNat) (by lia) (by rw [ek];exact List.mem_singleton.mpr rfl);rw [ek,List.flatMap_cons,List.flatMap_nil,List.append_nil];refine Y0 hst hr cn hc Wc f _ I' (λq hq=>?_) ?_
    ·rcases List.mem_append.mp hq with hq | hq
     ·exact hsub q hq
     ·rw [List.mem_singleton.mp hq,show ((q0.toNat:Nat):Int)=q0 by lia];exact hq0c
    ·show (e.row++[_]).length+f=k+1;rw [List.length_append,List.length_singleton]
     lia
   ·refine List.filter_eq_nil_iff.mpr λch hch hp=>?_;have hp:ch.Perm c:=of_decide_eq_true hp;obtain ⟨e',he,hch⟩:=List.mem_flatMap.mp hch;obtain ⟨_,_,_,u,hu⟩:=WD hst hr f e' (I.kid hr hj he) ch hch;obtain ⟨k1,k2,k3,k4⟩:=WC he;have hjc:(j:Int)∈c:=hp.mem_iff.mp (by rw [hu,k3];exact List.mem_append_left _ (List.mem_append_right _ (List.mem_singleton.mpr rfl)));have erd:rdAt rs (j:Int)=rs.getD j (0,0):=by unfold rdAt;rw [Int.toNat_natCast]
    rw [<-erd] at k1 k4;have k1:=of_decide_eq_true k1;by_cases m:(j:Int)∈e.ch
    ·have:=inr _ m;refine k2 ?_;rcases k1 with k1 | k1
     ·rw [k4,show (rdAt rs (j:Int)).1+(rdAt rs (j:Int)).2-e.at_=(rdAt rs (j:Int)).2 by lia];exact this.2
     ·rw [k4,show (rdAt rs (j:Int)).1+(rdAt rs (j:Int)).2-e.at_=(rdAt rs (j:Int)).1 by lia];exact this.1
    ·have:=one _ ((mrest _).mpr ⟨hjc,m⟩) k1
     lia
end M
namespace M
open PySem L2
def Lz (H:Hp)(zs:List (AD×LI)):Prop:=∀z∈zs,H z.1=some (.lst (z.2.map V.int))
def WE (ls:List (LI)):List PyData:=ls.map λl=>PyData.list (l.map PyData.int)
theorem Zdi:∀ls:List (LI),PyData.canLayAll0 (WE ls)=true
 | []=>by simp [WE,PyData.canLayAll0]
 | l::ls=>by
  have ih:=Zdi ls;unfold WE at ih ⊢;rw [List.map_cons];simp [PyData.canLayAll0,PyData.canLay0,UI l,ih]
theorem Y1:∀ls:List (LI),PyData.depthAll (WE ls)<=2
 | []=>by simp [WE,PyData.depthAll]
 | l::ls=>by
  have ih:=Y1 ls;have:=Ou l;unfold WE at ih ⊢;rw [List.map_cons];simp only [PyData.depthAll,PyData.depth]
  lia
theorem Uf (ls:List (LI)):SeqAt.shaped (.list (WE ls))=true:=by
 unfold SeqAt.shaped;rw [Bool.and_eq_true];refine ⟨by simp only [PyData.canLay0];exact Zdi ls,decide_eq_true ?_⟩;have:=Y1 ls;simp only [PyData.depth]
 lia
theorem Zdj:∀ls:List (LI),PyData.eqvAll (WE ls) (WE ls)=true
 | []=>by simp [WE,PyData.eqvAll]
 | l::ls=>by
  have ih:=Zdj ls;have h:=OV l l;rw [decide_eq_true rfl] at h;unfold WE at ih ⊢;rw [List.map_cons];simp only [PyData.eqvAll,h,ih,Bool.and_self]
theorem Zfw (ls:List (LI)):PyData.eqv (.list (WE ls)) (.list (WE ls))=true:=by
 simp only [PyData.eqv];exact Zdj ls
theorem WF {K:FF}{H:Hp}:∀{zs:List (AD×LI)},Lz H zs->DatVs K H (zs.map λz=>V.ref z.1) (WE (zs.map (·.2)))
 | [],_=>.nil
 | z::zs,h=>.cons (.lst (SqL.of (h z (by simp))) (G9 z.2)) (WF (zs:=zs) λy hy=>h y (by simp [hy]))
inductive Alk:List (LI)->List (LI)->Prop
 | nil:Alk [] []
 | cons {c ch:LI} {F R:List (LI)}:ch.Perm c->c.Pairwise (· <= ·)->Alk F R->Alk (c::F) (ch::R)
theorem Alk.snoc {F R:List (LI)}(h:Alk F R){c ch:LI}(p:ch.Perm c)(s:c.Pairwise (· <= ·)):Alk (F++[c]) (R++[ch]):=by
 induction h with
 | nil=>exact .cons p s .nil
 | cons p' s' _ ih=>exact .cons p' s' ih
theorem Alk.mem {F R:List (LI)}(h:Alk F R){c:LI}(hc:c∈F):∃ch∈R,ch.Perm c/\c.Pairwise (· <= ·):=by
 induction h with
 | nil=>cases hc
 | @cons c' ch' F R p s _ ih=>
  rcases List.mem_cons.mp hc with rfl | hc
  ·exact ⟨ch',List.mem_cons_self ..,p,s⟩
  ·obtain ⟨ch,h1,h2⟩:=ih hc;exact ⟨ch,List.mem_cons_of_mem _ h1,h2⟩
theorem Alk.back {F R:List (LI)}(h:Alk F R){ch:LI}(hc:ch∈R):∃c∈F,ch.Perm c/\c.Pairwise (· <= ·):=by
 induction h with
 | nil=>cases hc
 | @cons c' ch' F R p s _ ih=>
  rcases List.mem_cons.mp hc with rfl | hc
  ·exact ⟨c',List.mem_cons_self ..,p,s⟩
  ·obtain ⟨c,h1,h2⟩:=ih hc;exact ⟨c,List.mem_cons_of_mem _ h1,h2⟩
theorem Alk.count {F R:List (LI)}(h:Alk F R)(c:LI):F.count c<=(R.filter λch=>decide (ch.Perm c)).length:=by
 induction h with
 | nil=>exact Nat.le_refl _
 | @cons c' ch' F R p s _ ih=>
  rw [List.count_cons,List.filter_cons];by_cases e:c'=c
  ·subst e;rw [if_pos (decide_eq_true p),List.length_cons,if_pos (beq_self_eq_true _)]
   lia
  ·rw [if_neg (λz=>e (eq_of_beq z))];split
   ·rw [List.length_cons];lia
   ·exact ih
theorem Zbp:∀{l l':LI},l.Perm l'->l.Pairwise (· <= ·)->l'.Pairwise (· <= ·)->l=l'
 | [],l',p,_,_=>(List.nil_perm.mp p).symm
 | a::l,[],p,_,_=>absurd (List.perm_nil.mp p) (by simp)
 | a::l,b::l',p,h1,h2=>by
  rw [List.pairwise_cons] at h1 h2;have e:a=b:=by
   rcases List.mem_cons.mp (p.mem_iff.mp (List.mem_cons_self ..)) with h | h
   ·exact h
   rcases List.mem_cons.mp (p.mem_iff.mpr (List.mem_cons_self (a:=b))) with h' | h'
   ·exact h'.symm
   ·have:=h2.1 a h;have:=h1.1 b h'
    lia
  subst e;rw [Zbp (List.Perm.cons_inv p) h1.2 h2.2]
structure VO (rs:List (Int×Int))(k:Nat)(s t:Int)(W:List (LI)):Prop where
 so:Srt W
 va:∀c∈W,c.Pairwise (· < ·)/\∀q∈c,0<=q/\q<(rs.length:Int)
 iff:∀c:LI,c.Pairwise (· < ·)->(∀q∈c,0<=q/\q<(rs.length:Int))->(c∈W↔Way rs k s t c)
 nd:W.Nodup
theorem Zd9 {rs:List (Int×Int)}{k:Nat}{s t:Int}{F R W:List (LI)}(hst:s≠t)(hr:∀r∈rs,0<=r.1/\r.1<r.2/\r.2<(k:Int))(hs:0<=s/\s<(k:Int))(al:Alk F R)(pm:R.Perm (JV rs t k ⟨s,[s],[]⟩))(pw:W.Perm F)(so:Srt W):VO rs k s t W:=by
 have fwd:∀c∈F,(c.Pairwise (· < ·)/\∀q∈c,0<=q/\q<(rs.length:Int))/\Way rs k s t c:=λc hc=>by
  obtain ⟨ch,h1,h2,h3⟩:=al.mem hc;obtain ⟨g1,g2,g3,_⟩:=WD hst hr k _ (PI.start hs) ch (pm.mem_iff.mp h1);have nd:c.Nodup:=h2.nodup_iff.mp g2;exact ⟨⟨(h3.and nd).imp λ⟨a,b⟩=>by lia,λq hq=>g3 q (h2.mem_iff.mpr hq)⟩,g1 c h2⟩
 have one:∀c:LI,c.Nodup->(∀q∈c,0<=q/\q<(rs.length:Int))->Way rs k s t c->(R.filter λch=>decide (ch.Perm c)).length=1:=λc cn hc wc=>by
  rw [(pm.filter _).length_eq];exact Y0 hst hr cn hc wc k _ (PI.start hs) (λq hq=>by cases hq) (by show 1+k=k+1;lia)
 refine ⟨so,λc hc=>(fwd c (pw.mem_iff.mp hc)).1,λc cp hc=>⟨λh=>(fwd c (pw.mem_iff.mp h)).2,λh=>?_⟩,?_⟩
 ·have cn:c.Nodup:=cp.imp λz=>by lia
  have h1:=one c cn hc h;obtain ⟨ch,hch⟩:=List.exists_mem_of_length_pos (show 0<(R.filter λch=>decide (ch.Perm c)).length by lia);obtain ⟨h2,h3⟩:=List.mem_filter.mp hch;have h3:ch.Perm c:=of_decide_eq_true h3;obtain ⟨c',h4,h5,h6⟩:=al.back h2;have:c'=c:=Zbp (h5.symm.trans h3) h6 (cp.imp λz=>by lia);rw [<-this];exact pw.mem_iff.mpr h4
 ·refine pw.nodup_iff.mpr (List.nodup_iff_count.mpr λc=>?_);by_cases h:c∈F
  ·obtain ⟨⟨a,b⟩,w⟩:=fwd c h;have:=al.count c;rw [one c (a.imp λz=>by lia) b w] at this;exact this
  ·rw [List.count_eq_zero.mpr h];exact Nat.zero_le _
end M
namespace M
open PySem L2
section
variable {P:PP}{w:Ab}{K:FF}{mg:Str->Option Aa}{base:Heap}
def Zdk:Sp:=λvs H Q _=>∃(wb l:AD)(k:Nat)(xs:List V)(rs:List (Int×Int))(s t:Int),vs=[.ref wb,.int s,.int t]/\WebAt H wb l (k:Int) xs rs/\GS (k:Int) rs/\k<=6/\rs.length<=9/\s≠t/\(0<=s/\s<(k:Int))/\(0<=t/\t<(k:Int)) /\
 ∀(r:AD)(zs:List (AD×LI))(H':Hp),Same H H'->H' r=some (.lst (zs.map λz=>V.ref z.1))->Lz H' zs->zs.length<=1000000->VO rs k s t (zs.map (·.2))->Q (.ref r) H'
theorem scSets:Gk ["web", "one", "other", "found", "pile", "at", "row", "chosen", "number", "to"] ["web", "one", "other"] (Gf Za4):=⟨rfl,rfl,rfl,by decide +kernel,rfl,by decide +kernel,by decide +kernel⟩
structure Rec where
 T:AD
 ra:AD
 ca:AD
 e:Ent
def RecAt (H:Hp)(fo pi:AD)(z:Rec):Prop:=H z.T=some (.tup [.int z.e.at_,.ref z.ra,.ref z.ca])/\(H z.ra=some (.lst (z.e.row.map V.int))/\z.ra≠fo/\z.ra≠pi)/\(H z.ca=some (.lst (z.e.ch.map V.int))/\z.ca≠fo/\z.ca≠pi)
theorem RecAt.same {H H':Hp}{fo pi:AD}{z:Rec}(h:RecAt H fo pi z)(q:Same H H'):RecAt H' fo pi z:=⟨q _ _ h.1,⟨q _ _ h.2.1.1,h.2.1.2⟩,⟨q _ _ h.2.2.1,h.2.2.2⟩⟩
theorem RecAt.put {H:Hp}{fo pi a:AD}{z:Rec}{ys:List V}{u:HO}(h:RecAt H fo pi z)(ha:a=fo\/a=pi)(e:H a=some (.lst ys)):RecAt (upd H a u) fo pi z:=
 ⟨Gs h.1 (G6 h.1 e (λy=>by cases y)),⟨Gs h.2.1.1 (by rcases ha with rfl | rfl;exact h.2.1.2.1;exact h.2.1.2.2),h.2.1.2⟩,⟨Gs h.2.2.1 (by rcases ha with rfl | rfl;exact h.2.2.2.1;exact h.2.2.2.2),h.2.2.2⟩⟩
def ZcH (e:Ent):PyData:=.tuple [.int e.at_,.list (e.row.map PyData.int),.list (e.ch.map PyData.int)]
theorem Y2 {K:FF}{H:Hp}{fo pi:AD}:∀{zs:List Rec},(∀z∈zs,RecAt H fo pi z)->DatVs K H (zs.map λz=>V.ref z.T) (zs.map λz=>ZcH z.e)
 | [],_=>.nil
 | z::zs,h=>.cons (.tup (SqT.of (h z (List.mem_cons_self ..)).1) (.cons (.int _) (.cons (.lst (SqL.of (h z (List.mem_cons_self ..)).2.1.1) (G9 _)) (.cons (.lst (SqL.of (h z (List.mem_cons_self ..)).2.2.1) (G9 _)) .nil)))) (Y2 λy hy=>h y (List.mem_cons_of_mem _ hy))
theorem VP (es:List Ent):SeqAt.shaped (.list (es.map ZcH))=true:=by
 have hi:∀ns:LI,PyData.canLayAll0 (ns.map PyData.int)=true/\PyData.depthAll (ns.map PyData.int)<=1:=by
  intro ns
  induction ns with
  | nil=>simp [PyData.canLayAll0,PyData.depthAll]
  | cons n ns ih=>
   rw [List.map_cons];simp only [PyData.canLayAll0,PyData.depthAll,ih.1,Bool.and_true];refine ⟨by simp [PyData.canLay0],?_⟩;have:PyData.depth (.int n)<=1:=by simp [PyData.depth]
   have:=ih.2
   lia
 have c:PyData.canLayAll0 (es.map ZcH)=true/\PyData.depthAll (es.map ZcH)<=3:=by
  induction es with
  | nil=>simp [PyData.canLayAll0,PyData.depthAll]
  | cons e es ih=>
   rw [List.map_cons];simp only [PyData.canLayAll0,PyData.depthAll,ih.1,Bool.and_true];have h1:=hi e.row;have h2:=hi e.ch;refine ⟨by simp [ZcH,PyData.canLay0,PyData.canLayAll0,h1.1,h2.1],?_⟩;have:PyData.depth (ZcH e)<=3:=by
    simp only [ZcH,PyData.depth,PyData.depthAll]
    lia
   have:=ih.2
   lia
 unfold SeqAt.shaped;rw [Bool.and_eq_true];refine ⟨by simp only [PyData.canLay0];exact c.1,decide_eq_true ?_⟩;simp only [PyData.depth];have:=c.2
 lia
theorem Zea (es:List Ent):PyData.eqv (.list (es.map ZcH)) (.list [])=es.isEmpty:=by
 simp only [PyData.eqv];cases es with
 | nil=>rfl
 | cons e es=>rw [List.map_cons];simp [PyData.eqvAll]
def wtE (k:Nat)(e:Ent):Nat:=10 ^ (k+1-e.row.length)
def JO (k:Nat)(es:List Ent):Nat:=(es.map (wtE k)).sum
theorem Ug (k:Nat)(a b:List Ent):JO k (a++b)=JO k a+JO k b:=by unfold JO;rw [List.map_append,List.sum_append]
theorem Uh (k:Nat)(e:Ent):JO k [e]=wtE k e:=by unfold JO;simp
theorem Zbq (k:Nat)(e:Ent):0<wtE k e:=Nat.pow_pos (by decide)
theorem Vp (k:Nat):∀es:List Ent,es.length<=JO k es
 | []=>Nat.zero_le _
 | e::es=>by
  have h1:=Vp k es;have h2:=Zbq k e;have:JO k (e::es)=wtE k e+JO k es:=by unfold JO;simp
  rw [this,List.length_cons]
  lia
theorem ZcI {rs:List (Int×Int)}{e:Ent}{k:Nat}(hl:e.row.length<=k)(j:Nat):JO k (kid rs e j)<=10 ^ (k-e.row.length):=by
 unfold kid;split
 ·split
  ·exact Nat.zero_le _
  ·rw [Uh];unfold wtE;rw [List.length_append,List.length_singleton,show k+1-(e.row.length+1)=k-e.row.length by lia];exact Nat.le_refl _
 ·exact Nat.zero_le _
theorem Ui (rs:List (Int×Int))(e:Ent)(n:Nat):ZbF rs e (n+1)=ZbF rs e n++kid rs e n:=by
 unfold ZbF;rw [List.range_succ,List.flatMap_append,List.flatMap_cons,List.flatMap_nil,List.append_nil]
theorem Vq {rs:List (Int×Int)}{e:Ent}{k:Nat}(hl:e.row.length<=k):∀n,JO k (ZbF rs e n)<=n * 10 ^ (k-e.row.length)
 | 0=>by show 0<=_;exact Nat.zero_le _
 | n+1=>by
  rw [Ui,Ug,Nat.succ_mul];have:=Vq (rs:=rs) hl n;have:=ZcI (rs:=rs) hl n
  lia
structure DfI (H0 H:Hp)(rs:List (Int×Int))(k:Nat)(s t:Int)(fo pi:AD)(fs:List (AD×LI))(zs:List Rec)(R:List (LI)):Prop where
 sm:Same H0 H
 ef:H fo=some (.lst (fs.map λz=>V.ref z.1))
 ep:H pi=some (.lst (zs.map λz=>V.ref z.T))
 lf:∀z∈fs,H z.1=some (.lst (z.2.map V.int))/\z.1≠fo/\z.1≠pi
 lr:∀z∈zs,RecAt H fo pi z
 pI:∀z∈zs,PI rs k s z.e
 al:Alk (fs.map (·.2)) R
 pm:(R++zs.flatMap λz=>JV rs t (k+1-z.e.row.length) z.e).Perm (JV rs t k ⟨s,[s],[]⟩)
 td:fs.length+JO k (zs.map (·.e))<=10 ^ k
theorem Zeb {f:AD}{fd:FuncData}(F:Fun K "_law_sets" "_law_sets" Za4 f fd)(mRange:mg "range" = none)(mLen:mg "len" = none)(mSor:mg "sorted" = none):GG P w K mg base CX0 1 f fd ["web", "one", "other"] Zdk:=by
 refine F.ok scSets (λvs H Q E h=>?_) (λcdv A outer s0 H vs Q E hr h=>?_)
 ·obtain ⟨_,_,_,_,_,_,_,rfl,_⟩:=h
  rfl
 ·obtain ⟨wb,l,k,xs,rs,s,t,rfl,W,g,k6,r9,hst,hs,ht,q⟩:=h;have hu:(A.deeper (PyProof.Rows.envOfC "_law_sets" (Gf Za4) s0.heap.objs.size f cdv)).units+64<cLine:=by have:=hr.un;lia
  have h16:(16777216:Nat)=sizeLine:=sizeLine_eq.symm;have hxl:=W.p.len;have hrr:=g.2.2.2.1;have p6:10 ^ k<=1000000:=Nat.le_trans (Nat.pow_le_pow_right (by decide) k6) (by decide);refine ⟨_,(@Gc _ _ _ _ _ (@Gp _ _ 3 _ _ _ _ scSets.nd rfl (Or.inl rfl) (@GV _ _ _ _ Gd) rfl (by first | exact .inl rfl | exact .inr rfl))
    (@Gc _ _ _ _ _ (@Gp _ _ 4 _ _ _ _ scSets.nd rfl (Or.inl rfl) (@GV _ _ _ _ (@Ga _ _ _ _ _ (@JH _ _ _ _ _ (@Ga _ _ _ _ _ (pv 1) (@Ga _ _ _ _ _ (@GV _ _ _ _ (@Ga _ _ _ _ _ (pv 1) Gd rfl)) (@Ga _ _ _ _ _ (@GV _ _ _ _ Gd) Gd rfl) rfl) rfl)) Gd rfl)) rfl (by first | exact .inl rfl | exact .inr rfl))
    (@Gc _ _ _ _ _ (ZbJ PassesOwn.never (Gr (ZfD K hu) (pv 4) (@GV _ _ _ _ Gd) (Gz _))
    (@Gc _ _ _ _ _ (@J7 _ _ _ _ _ _ (ZcV PySem.F.plainAttrs_list PySem.F.slot_list_pop PySem.F.type_list_pop ZeD (pv 4)) (Z7 K (n:=3) rfl (Gv (Gi (i:=5) scSets.nd rfl (Or.inl rfl)) (Gv (Gi (i:=6) scSets.nd rfl (Or.inl rfl)) (Gv (Gi (i:=7) scSets.nd rfl (Or.inl rfl)) Jy)))) rfl rfl rfl)
    (@Ge _ _ _ (@Jd _ _ _ _ _ _ _ _ (Gr UB (pv 5) (pv 2) (Gz _)) (@Ge _ _ _ (Jo (ZbN PySem.F.plainAttrs_list PySem.F.slot_list_append PySem.F.type_list_append OS (pv 3) (@Ga _ _ _ _ _ (Gw (Ze1 K) rfl mSor PyProof.Rows.boot_sorted (@Ga _ _ _ _ _ (pv 7) Gd rfl)) Gd rfl)))) (@Ge _ _ _ (@Jj _ _ _ _ _ _ _ _ PassesOwn.never rfl (OO rfl mRange (@Ga _ _ _ _ _ (Gw (ZbA K) rfl mLen PySem.boot_len (@Ga _ _ _ _ _ (@Gx _ _ _ _ _ _ _ (J9 K) (pv 0) Gg (λ_ _=>rfl)) Gd rfl)) Gd rfl)) (Gi (i:=8) scSets.nd rfl (Or.inl rfl))
    (@Ge _ _ _ (@Jd _ _ _ _ _ _ _ _ (Gr (kIn K) (pv 5) (@Gx _ _ _ _ _ _ _ (U4 K) (@Gx _ _ _ _ _ _ _ (J9 K) (pv 0) Gg (λ_ _=>rfl)) (pv 8) (λ_ _=>rfl)) (by with_unfolding_all rfl)) (@Gc _ _ _ _ _ (@Gp _ _ 9 _ _ _ _ scSets.nd rfl (Or.inl rfl) (@GD _ _ _ _ _ _ _ _ Vu (@GD _ _ _ _ _ _ _ _ Jk (@Gx _ _ _ _ _ _ _ (J9 K) (@Gx _ _ _ _ _ _ _ (U4 K) (@Gx _ _ _ _ _ _ _ (J9 K) (pv 0) Gg (λ_ _=>rfl)) (pv 8) (λ_ _=>rfl)) Gg (λ_ _=>rfl)) (@Gx _ _ _ _ _ _ _ (J9 K) (@Gx _ _ _ _ _ _ _ (U4 K) (@Gx _ _ _ _ _ _ _ (J9 K) (pv 0) Gg (λ_ _=>rfl)) (pv 8) (λ_ _=>rfl)) Gg (λ_ _=>rfl))) (pv 5)) rfl (by first | exact .inl rfl | exact .inr rfl))
    (@Ge _ _ _ (@Jd _ _ _ _ _ _ _ _ (Gr (Yl K) (pv 9) (pv 6) (by with_unfolding_all rfl)) (@Ge _ _ _ (Jo (ZbN PySem.F.plainAttrs_list PySem.F.slot_list_append PySem.F.type_list_append OS (pv 4) (@Ga _ _ _ _ _ (@JH _ _ _ _ _ (@Ga _ _ _ _ _ (pv 9) (@Ga _ _ _ _ _ (@GD _ _ _ _ _ _ _ _ Vw (pv 6) (@GV _ _ _ _ (@Ga _ _ _ _ _ (pv 9) Gd rfl))) (@Ga _ _ _ _ _ (@GD _ _ _ _ _ _ _ _ Vw (pv 7) (@GV _ _ _ _ (@Ga _ _ _ _ _ (pv 8) Gd rfl))) Gd rfl) rfl) rfl)) Gd rfl)))) GA))) GA)) (by intro _;rfl)))))))
    (@Ge _ _ _ (@Gn _ _ _ _ (Gw (ZdV K hu) rfl mSor PyProof.Rows.boot_sorted (@Ga _ _ _ _ _ (pv 3) Gd rfl))))))),?_⟩
  refine ⟨Nat.zero_le _,λfo hfo=>?_⟩;have s1:Same H (upd H fo (.lst [])):=Same.new hfo;have e1:upd H fo (.lst []) fo=some (.lst []):=Gb;generalize upd H fo (.lst [])=H1 at s1 e1 ⊢;dsimp only [GL];have hfo0:H fo=none:=hfo;refine ⟨_,rfl,_,rfl,by show 1<=sizeLine;lia,λra hra=>?_⟩;have s2:Same H1 (upd H1 ra (.lst [.int s])):=Same.new hra;have e2:upd H1 ra (.lst [.int s]) ra=some (.lst (([s]:LI).map V.int)):=Gb;have rafo:ra≠fo:=λz=>by rw [z,e1] at hra;cases hra
  generalize upd H1 ra (.lst [.int s])=H2 at s2 e2 ⊢;refine ⟨Nat.zero_le _,λca hca=>?_⟩;have s3:Same H2 (upd H2 ca (.lst [])):=Same.new hca;have e3:upd H2 ca (.lst []) ca=some (.lst (([]:LI).map V.int)):=Gb;have cafo:ca≠fo:=λz=>by rw [z,s2 _ _ e1] at hca;cases hca
  generalize upd H2 ca (.lst [])=H3 at s3 e3 ⊢;refine ⟨by show 3<=sizeLine;lia,λT hT=>?_⟩;have s4:Same H3 (upd H3 T (.tup [.int s,.ref ra,.ref ca])):=Same.new hT;have e4:upd H3 T (.tup [.int s,.ref ra,.ref ca]) T=some (.tup [.int s,.ref ra,.ref ca]):=Gb;generalize upd H3 T (.tup [.int s,.ref ra,.ref ca])=H4 at s4 e4 ⊢;refine ⟨by show 1<=sizeLine;lia,λpi hpi=>?_⟩;have s5:Same H4 (upd H4 pi (.lst [.ref T])):=Same.new hpi;have e5:upd H4 pi (.lst [.ref T]) pi=some (.lst [.ref T]):=Gb;have rapi:ra≠pi:=λz=>by rw [<-z,s4 _ _ (s3 _ _ e2)] at hpi;cases hpi
  have capi:ca≠pi:=λz=>by rw [<-z,s4 _ _ e3] at hpi;cases hpi
  have fopi:fo≠pi:=λz=>by rw [<-z,s4 _ _ (s3 _ _ (s2 _ _ e1))] at hpi;cases hpi
  have hpi0:H pi=none:=(s1.trans (s2.trans (s3.trans s4))).free hpi;generalize upd H4 pi (.lst [.ref T])=H5 at s5 e5 ⊢;dsimp only [GL];have ini:DfI H H5 rs k s t fo pi [] [⟨T,ra,ca,⟨s,[s],[]⟩⟩] []:=by
   refine ⟨s1.trans (s2.trans (s3.trans (s4.trans s5))),(s2.trans (s3.trans (s4.trans s5))) _ _ e1,e5,λz hz=>(by cases hz),λz hz=>?_,λz hz=>?_,.nil,?_,?_⟩
   ·rw [List.mem_singleton.mp hz];exact ⟨s5 _ _ e4,⟨(s3.trans (s4.trans s5)) _ _ e2,rafo,rapi⟩,⟨(s4.trans s5) _ _ e3,cafo,capi⟩⟩
   ·rw [List.mem_singleton.mp hz];exact PI.start hs
   ·show (JV rs t (k+1-1) ⟨s,[s],[]⟩++[]).Perm _;rw [List.append_nil,Nat.add_sub_cancel]
   ·show 0+JO k [⟨s,[s],[]⟩]<=_;rw [Uh];show 0+10 ^ (k+1-1)<=_;rw [Nat.add_sub_cancel]
    lia
  refine ⟨λm σ H6=>∃(v5 v6 v7 v8 v9:Option V)(fs:List (AD×LI))(zs:List Rec)(R:List (LI)),m=JO k (zs.map (·.e))/\σ=[some (.ref wb),some (.int s),some (.int t),some (.ref fo),some (.ref pi),v5,v6,v7,v8,v9]/\DfI H H6 rs k s t fo pi fs zs R,
   ⟨_,none,none,none,none,none,[],[⟨T,ra,ca,⟨s,[s],[]⟩⟩],[],rfl,rfl,ini⟩,?_⟩
  rintro m σ H6 ⟨v5,v6,v7,v8,v9,fs,zs,R,rfl,rfl,I⟩;refine ⟨_,rfl,Nat.zero_le _,λnl hnl=>?_⟩;have s7:Same H6 (upd H6 nl (.lst [])):=Same.new hnl;have e7:upd H6 nl (.lst []) nl=some (.lst []):=Gb;generalize upd H6 nl (.lst [])=H7 at s7 e7 ⊢;have I7:DfI H H7 rs k s t fo pi fs zs R:=⟨I.sm.trans s7,s7 _ _ I.ef,s7 _ _ I.ep,λz hz=>⟨s7 _ _ (I.lf z hz).1,(I.lf z hz).2⟩,λz hz=>(I.lr z hz).same s7,I.pI,I.al,I.pm,I.td⟩;clear I s7;have ds:=Y2 (K:=K) I7.lr;have hsh:=VP (zs.map (·.e));have hnil:=Zea (zs.map (·.e));rw [List.map_map] at hsh hnil;refine ⟨.list _,.list [],.lst (SqL.of I7.ep) ds,.lst (SqL.of e7) .nil,hsh,VP [],_,rfl,?_⟩;have hnil:PyData.eqv (.list (zs.map λz=>ZcH z.e)) (.list [])=(zs.map (·.e)).isEmpty:=hnil;rw [hnil];cases hz:zs.isEmpty with
  | true=>
   have e:zs=[]:=List.isEmpty_iff.mp hz;subst e;refine Jw ?_;refine ⟨_,rfl,fo,fs,rfl,SqL.of I7.ef,λz hz=>SqL.of (I7.lf z hz).1,λr zs' hr0 pm so=>?_⟩;have s8:Same H7 (upd H7 r (.lst (zs'.map λz=>V.ref z.1))):=Same.new hr0;have pmR:=I7.pm;rw [List.flatMap_nil,List.append_nil] at pmR;refine q r zs' _ (I7.sm.trans s8) Gb (λz hz=>s8 _ _ (I7.lf z (pm.mem_iff.mp hz)).1) ?_ (Zd9 hst hrr hs I7.al pmR (pm.map _) so);have:=I7.td;rw [pm.length_eq]
   lia
  | false=>
   have hne:zs≠[]:=λe=>by rw [e] at hz;cases hz
   obtain ⟨Pr,z0,rfl⟩:∃Pr z0,zs=Pr++[z0]:=⟨zs.dropLast,zs.getLast hne,(List.dropLast_concat_getLast hne).symm⟩;rw [show ((Pr++[z0]).map (·.e)).isEmpty=false by simp];refine G5 ?_;refine ⟨_,λ_ _ h=>h,?_⟩;have ep:=I7.ep;have hxl0:((Pr++[z0]).map λz=>V.ref z.T)[((Pr++[z0]).map λz=>V.ref z.T).length-1]?=some (.ref z0.T):=by simp
   have edl:((Pr++[z0]).map λz=>V.ref z.T).dropLast=Pr.map λz=>V.ref z.T:=by rw [List.map_append];exact List.dropLast_concat
   refine ⟨_,rfl,.inl ⟨rfl,_,SqL.of ep⟩,pi,_,_,rfl,rfl,ep,hxl0,?_⟩;rw [edl];have sm8:Same H (upd H7 pi (.lst (Pr.map λz=>V.ref z.T))):=I7.sm.put hpi0;have ef8:upd H7 pi (.lst (Pr.map λz=>V.ref z.T)) fo=some (.lst (fs.map λz=>V.ref z.1)):=Gs I7.ef fopi;have ep8:upd H7 pi (.lst (Pr.map λz=>V.ref z.T)) pi=some (.lst (Pr.map λz=>V.ref z.T)):=Gb;have lf8:∀z∈fs,upd H7 pi (.lst (Pr.map λz=>V.ref z.T)) z.1=some (.lst (z.2.map V.int))/\z.1≠fo/\z.1≠pi:=λz hz=>⟨Gs (I7.lf z hz).1 (I7.lf z hz).2.2,(I7.lf z hz).2⟩;have lr8:∀z∈Pr++[z0],RecAt (upd H7 pi (.lst (Pr.map λz=>V.ref z.T))) fo pi z:=λz hz=>(I7.lr z hz).put (.inr rfl) ep;have pI8:=I7.pI;have al8:=I7.al;have pm8:=I7.pm;have td8:=I7.td;clear I7 ds e7 ep;generalize upd H7 pi (.lst (Pr.map λz=>V.ref z.T))=H8 at sm8 ef8 ep8 lf8 lr8 ⊢;have r0:=lr8 z0 (List.mem_append_right _ (List.mem_singleton.mpr rfl));have P0:=pI8 z0 (List.mem_append_right _ (List.mem_singleton.mpr rfl));have lrP:∀z∈Pr,RecAt H8 fo pi z:=λz hz=>lr8 z (List.mem_append_left _ hz);have pIP:∀z∈Pr,PI rs k s z.e:=λz hz=>pI8 z (List.mem_append_left _ hz);have lenk:=P0.len;have jQ:k+1-z0.e.row.length=(k-z0.e.row.length)+1:=by lia
   rw [List.flatMap_append,List.flatMap_cons,List.flatMap_nil,List.append_nil,jQ] at pm8;rw [List.map_append,List.map_cons,List.map_nil,Ug,Uh] at td8;rw [List.map_append,List.map_cons,List.map_nil,Ug,Uh];have w0:wtE k z0.e=10 * 10 ^ (k-z0.e.row.length):=by unfold wtE;rw [jQ,Nat.pow_succ,Nat.mul_comm]
   have wp:=Zbq k z0.e;have lfs:fs.length<=1000000:=by lia
   refine ⟨z0.T,_,rfl,SqT.of r0.1,rfl,_,_,rfl,_,_,rfl,_,_,rfl,rfl,?_⟩;dsimp only [GL];refine ⟨_,rfl,_,rfl,rfl,_,rfl,?_⟩;rw [G0];refine WX (λhat=>?_) (λhat=>?_)
   ·have hat:z0.e.at_=t:=of_decide_eq_true hat;refine ⟨_,rfl,.inl ⟨rfl,_,SqL.of ef8⟩,_,rfl,z0.ca,z0.e.ch,rfl,SqL.of r0.2.2.1,λsl ns hsl pms sos=>?_⟩;have s9:Same H8 (upd H8 sl (.lst (ns.map V.int))):=Same.new hsl;have e9:upd H8 sl (.lst (ns.map V.int)) sl=some (.lst (ns.map V.int)):=Gb;have slfo:sl≠fo:=λz=>by rw [z,ef8] at hsl;cases hsl
    have slpi:sl≠pi:=λz=>by rw [z,ep8] at hsl;cases hsl
    generalize upd H8 sl (.lst (ns.map V.int))=H9 at s9 e9 ⊢;have ef9:=s9 _ _ ef8;refine ⟨fo,_,_,rfl,rfl,ef9,by rw [List.length_map];lia,?_⟩;refine ⟨JO k (Pr.map (·.e)),by lia,_,_,_,_,_,fs++[(sl,ns)],Pr,R++[z0.e.ch],rfl,rfl,⟨(sm8.trans s9).put hfo0,by rw [Gb,List.map_append];rfl,Gs (s9 _ _ ep8) (Ne.symm fopi),λz hz=>?_,λz hz=>((lrP z hz).same s9).put (.inl rfl) ef9,pIP,?_,?_,?_⟩⟩
    ·rcases List.mem_append.mp hz with hz | hz
     ·exact ⟨Gs (s9 _ _ (lf8 z hz).1) (lf8 z hz).2.1,(lf8 z hz).2⟩
     ·rw [List.mem_singleton.mp hz];exact ⟨Gs e9 slfo,slfo,slpi⟩
    ·rw [List.map_append];exact al8.snoc pms.symm sos
    ·refine List.Perm.trans ?_ pm8;have:JV rs t (k-z0.e.row.length+1) z0.e=[z0.e.ch]:=by unfold JV;rw [if_pos hat]
     rw [this,List.append_assoc];exact List.Perm.append_left _ List.perm_append_comm
    ·rw [List.length_append,List.length_singleton]
     lia
   ·have hat:z0.e.at_≠t:=λy=>hat (decide_eq_true y);have W8:=W.same sm8;refine ⟨_,rfl,wb,_,_,_,rfl,rfl,SqT.of W8.w,Go (j:=1) rfl,l,_,rfl,.inl (SqL.of W8.l),_,rfl,by lia,by lia,?_⟩;rw [Int.toNat_natCast];refine Ob (lo:=0) (n:=xs.length) (λi σ H9=>∃(v8 v9:Option V)(us:List Rec),σ=[some (.ref wb),some (.int s),some (.int t),some (.ref fo),some (.ref pi),some (.int z0.e.at_),some (.ref z0.ra),some (.ref z0.ca),v8,v9]/\Same H H9/\H9 fo=some (.lst (fs.map λz=>V.ref z.1))/\H9 pi=some (.lst ((Pr++us).map λz=>V.ref z.T))/\(∀z∈fs,H9 z.1=some (.lst (z.2.map V.int))/\z.1≠fo/\z.1≠pi)/\(∀z∈Pr++us,RecAt H9 fo pi z)/\RecAt H9 fo pi z0/\us.map (·.e)=ZbF rs z0.e i)
     ⟨_,_,[],rfl,sm8,ef8,by rw [List.append_nil];exact ep8,lf8,by rw [List.append_nil];exact lrP,r0,rfl⟩ ?_ ?_
    ·rintro i σ H9 hi ⟨v8,v9,us,rfl,sm9,ef9,ep9,lf9,lr9,r9',hus⟩;rw [Int.zero_add];have W9:=W.same sm9;have hx:xs[i]?=some xs[i]:=List.getElem?_eq_getElem hi;obtain ⟨tt,rd,et,ett,er⟩:=W9.p.get hx;have er':rs.getD i (0,0)=rd:=by rw [List.getD_eq_getElem?_getD,er];rfl
     have hxe:xs[i]?=some (.ref tt):=by rw [hx,et]
     have kb:=Vq (rs:=rs) lenk i;have ul:us.length<=i * 10 ^ (k-z0.e.row.length):=by
      have:=Vp k (us.map (·.e));rw [hus,<-hus,List.length_map] at this;rw [hus] at this
      lia
     have ib:i * 10 ^ (k-z0.e.row.length)<=9 * 10 ^ (k-z0.e.row.length):=Nat.mul_le_mul_right _ (by lia);have prl:Pr.length<=JO k (Pr.map (·.e)):=by
      have:=Vp k (Pr.map (·.e))
      rwa [List.length_map] at this
     dsimp only [GL];refine ⟨_,rfl,_,rfl,wb,_,_,_,rfl,rfl,SqT.of W9.w,Go (j:=1) rfl,_,rfl,l,_,_,_,rfl,rfl,SqL.of W9.l,Go hxe,tt,_,rfl,.inr (SqT.of ett),rfl,rfl,_,rfl,?_⟩;show if inV (.int z0.e.at_) [.int rd.1,.int rd.2]=true then _ else _
     rw [Zgk];have kidE:kid rs z0.e i=if Om (rd.1,rd.2) z0.e.at_=true then (if rd.1+rd.2-z0.e.at_∈z0.e.row then [] else [⟨rd.1+rd.2-z0.e.at_,z0.e.row++[rd.1+rd.2-z0.e.at_],z0.e.ch++[(i:Int)]⟩]) else []:=by
      unfold kid;rw [er']
     refine WX (λha=>?_) (λha=>?_)
     ·rw [if_pos ha] at kidE;refine ⟨_,rfl,wb,_,_,_,rfl,rfl,SqT.of W9.w,Go (j:=1) rfl,_,rfl,l,_,_,_,rfl,rfl,SqL.of W9.l,Go hxe,tt,_,_,_,rfl,rfl,SqT.of ett,Go (j:=0) rfl,_,rfl,wb,_,_,_,rfl,rfl,SqT.of W9.w,Go (j:=1) rfl,_,rfl,l,_,_,_,rfl,rfl,SqL.of W9.l,Go hxe,tt,_,_,_,rfl,rfl,SqT.of ett,Go (j:=1) rfl,_,_,rfl,rfl,_,rfl,_,_,rfl,rfl,?_⟩;dsimp only [GL];generalize rd.1+rd.2-z0.e.at_=to at kidE ⊢;refine ⟨_,rfl,_,rfl,z0.ra,_,rfl,.inl (SqL.of r9'.2.1.1),rfl,Ol _,_,rfl,?_⟩;show if (!inV (.int to) (z0.e.row.map V.int))=true then _ else _
      rw [Oz];by_cases hm:to∈z0.e.row
      ·rw [if_pos hm] at kidE;rw [decide_eq_true hm];exact Jw ⟨_,_,us,rfl,sm9,ef9,ep9,lf9,lr9,r9',by rw [Ui,kidE,List.append_nil,hus]⟩
      ·rw [if_neg hm] at kidE;rw [decide_eq_false hm];refine G5 ?_;refine ⟨_,rfl,.inl ⟨rfl,_,SqL.of ep9⟩,_,rfl,_,rfl,_,rfl,by show 1<=sizeLine;lia,λo1 ho1=>?_⟩;have t1:Same H9 (upd H9 o1 (.lst [.int to])):=Same.new ho1;have eo1:upd H9 o1 (.lst [.int to]) o1=some (.lst [.int to]):=Gb;generalize upd H9 o1 (.lst [.int to])=K1 at t1 eo1 ⊢;have rl:=P0.len;refine ⟨z0.ra,o1,_,_,rfl,rfl,t1 _ _ r9'.2.1.1,eo1,by rw [List.length_map,List.length_singleton];lia,λp2 hp2=>?_⟩;have t2:Same K1 (upd K1 p2 (.lst (z0.e.row.map V.int++[.int to]))):=Same.new hp2;have ep2:upd K1 p2 (.lst (z0.e.row.map V.int++[.int to])) p2=some (.lst ((z0.e.row++[to]).map V.int)):=by rw [Gb,List.map_append];rfl
       have p2fo:p2≠fo:=λz=>by rw [z,t1 _ _ ef9] at hp2;cases hp2
       have p2pi:p2≠pi:=λz=>by rw [z,t1 _ _ ep9] at hp2;cases hp2
       generalize upd K1 p2 (.lst (z0.e.row.map V.int++[.int to]))=K2 at t2 ep2 ⊢;refine ⟨_,rfl,_,rfl,by show 1<=sizeLine;lia,λo3 ho3=>?_⟩;have t3:Same K2 (upd K2 o3 (.lst [.int (i:Int)])):=Same.new ho3;have eo3:upd K2 o3 (.lst [.int (i:Int)]) o3=some (.lst [.int (i:Int)]):=Gb;generalize upd K2 o3 (.lst [.int (i:Int)])=K3 at t3 eo3 ⊢;have chl:z0.e.ch.length<=9:=by
        have:=nodup_range (k:=rs.length) P0.chn P0.chr
        lia
       refine ⟨z0.ca,o3,_,_,rfl,rfl,(t1.trans (t2.trans t3)) _ _ r9'.2.2.1,eo3,by rw [List.length_map,List.length_singleton];lia,λp4 hp4=>?_⟩;have t4:Same K3 (upd K3 p4 (.lst (z0.e.ch.map V.int++[.int (i:Int)]))):=Same.new hp4;have ep4:upd K3 p4 (.lst (z0.e.ch.map V.int++[.int (i:Int)])) p4=some (.lst ((z0.e.ch++[(i:Int)]).map V.int)):=by rw [Gb,List.map_append];rfl
       have p4fo:p4≠fo:=λz=>by rw [z,(t1.trans (t2.trans t3)) _ _ ef9] at hp4;cases hp4
       have p4pi:p4≠pi:=λz=>by rw [z,(t1.trans (t2.trans t3)) _ _ ep9] at hp4;cases hp4
       generalize upd K3 p4 (.lst (z0.e.ch.map V.int++[.int (i:Int)]))=K4 at t4 ep4 ⊢;refine ⟨by show 3<=sizeLine;lia,λT5 hT5=>?_⟩;have t5:Same K4 (upd K4 T5 (.tup [.int to,.ref p2,.ref p4])):=Same.new hT5;have eT5:upd K4 T5 (.tup [.int to,.ref p2,.ref p4]) T5=some (.tup [.int to,.ref p2,.ref p4]):=Gb;generalize upd K4 T5 (.tup [.int to,.ref p2,.ref p4])=K5 at t5 eT5 ⊢;have t15:=t1.trans (t2.trans (t3.trans (t4.trans t5)));have epK:=t15 _ _ ep9;refine ⟨pi,_,_,rfl,rfl,epK,by rw [List.length_map,List.length_append];lia,?_⟩;have rn:RecAt K5 fo pi ⟨T5,p2,p4,⟨to,z0.e.row++[to],z0.e.ch++[(i:Int)]⟩⟩:=⟨eT5,⟨(t3.trans (t4.trans t5)) _ _ ep2,p2fo,p2pi⟩,⟨t5 _ _ ep4,p4fo,p4pi⟩⟩;refine ⟨_,_,us++[⟨T5,p2,p4,⟨to,z0.e.row++[to],z0.e.ch++[(i:Int)]⟩⟩],rfl,(sm9.trans t15).put hpi0,Gs (t15 _ _ ef9) fopi,by rw [Gb];simp only [List.map_append,List.append_assoc];rfl,λz hz=>⟨Gs (t15 _ _ (lf9 z hz).1) (lf9 z hz).2.2,(lf9 z hz).2⟩,λz hz=>?_,(r9'.same t15).put (.inr rfl) epK,by rw [Ui,kidE,List.map_append,hus];rfl⟩;rw [<-List.append_assoc] at hz;rcases List.mem_append.mp hz with hz | hz
       ·exact ((lr9 z hz).same t15).put (.inr rfl) epK
       ·rw [List.mem_singleton.mp hz];exact rn.put (.inr rfl) epK
     ·rw [if_neg ha] at kidE;exact ⟨_,_,us,rfl,sm9,ef9,ep9,lf9,lr9,r9',by rw [Ui,kidE,List.append_nil,hus]⟩
    ·rintro σ H9 ⟨v8,v9,us,rfl,sm9,ef9,ep9,lf9,lr9,r9',hus⟩;rw [hxl] at hus;have kb:=Vq (rs:=rs) lenk rs.length;have ib:rs.length * 10 ^ (k-z0.e.row.length)<=9 * 10 ^ (k-z0.e.row.length):=Nat.mul_le_mul_right _ r9;have tdn:JO k ((Pr++us).map (·.e))=JO k (Pr.map (·.e))+JO k (ZbF rs z0.e rs.length):=by rw [List.map_append,Ug,hus]
     refine ⟨JO k ((Pr++us).map (·.e)),by rw [tdn];lia,_,_,_,_,_,fs,Pr++us,R,rfl,rfl,⟨sm9,ef9,ep9,lf9,lr9,λz hz=>?_,al8,?_,by rw [tdn];lia⟩⟩
     ·rcases List.mem_append.mp hz with hz | hz
      ·exact pIP z hz
      ·have:z.e∈ZbF rs z0.e rs.length:=by rw [<-hus];exact List.mem_map.mpr ⟨z,hz,rfl⟩
       obtain ⟨j,hj,hk⟩:=List.mem_flatMap.mp this;exact P0.kid hrr (List.mem_range.mp hj) hk
     ·refine List.Perm.trans ?_ pm8;refine List.Perm.append_left _ ?_;rw [List.flatMap_append];refine List.Perm.append_left _ ?_;have e1:JV rs t (k-z0.e.row.length+1) z0.e=(ZbF rs z0.e rs.length).flatMap (JV rs t (k-z0.e.row.length)):=by
       show (if z0.e.at_=t then _ else _)=_;rw [if_neg hat]
      rw [e1,<-hus,List.flatMap_map];have e2:∀z∈us,JV rs t (k+1-z.e.row.length) z.e=JV rs t (k-z0.e.row.length) z.e:=λz hz=>by
       have:z.e∈ZbF rs z0.e rs.length:=by rw [<-hus];exact List.mem_map.mpr ⟨z,hz,rfl⟩
       obtain ⟨j,hj,hk⟩:=List.mem_flatMap.mp this;rw [(WC hk).2.2.1];show JV rs t (k+1-(z0.e.row++[_]).length) _=_;rw [List.length_append,List.length_singleton,show k+1-(z0.e.row.length+1)=k-z0.e.row.length by lia]
      have e3:us.flatMap (λz=>JV rs t (k+1-z.e.row.length) z.e)=us.flatMap (λz=>JV rs t (k-z0.e.row.length) z.e):=by
       rw [List.flatMap_def,List.flatMap_def,List.map_congr_left e2]
      rw [e3]
end
end M
namespace M
open PySem L2
section
variable {P:PP}{w:Ab}{K:FF}{mg:Str->Option Aa}{base:Heap}
def OM:Nat->List (LI)
 | 0=>[[]]
 | n+1=>OM n++(OM n).map (·++[(n:Int)])
theorem UT:∀n,(OM n).length=2 ^ n
 | 0=>rfl
 | n+1=>by
  show (OM n++(OM n).map _).length=_;rw [List.length_append,List.length_map,UT n,Nat.pow_succ]
  lia
theorem OK:∀{n:Nat}{c:LI},c∈OM n->Valid c n/\c.length<=n
 | 0,c,h=>by
  rw [List.mem_singleton.mp (show c∈[[]] from h)];exact ⟨⟨List.Pairwise.nil,by simp⟩,Nat.le_refl _⟩
 | n+1,c,h=>by
  rcases List.mem_append.mp (show c∈OM n++(OM n).map _ from h) with h | h
  ·obtain ⟨v,l⟩:=OK h;exact ⟨⟨v.1,λq hq=>by have:=v.2 q hq;lia⟩,by lia⟩
  ·obtain ⟨c',h',rfl⟩:=List.mem_map.mp h;obtain ⟨v,l⟩:=OK h';refine ⟨⟨List.pairwise_append.mpr ⟨v.1,List.pairwise_singleton _ _,λa ha b hb=>?_⟩,λq hq=>?_⟩,by rw [List.length_append,List.length_singleton];lia⟩
   ·rw [List.mem_singleton] at hb;have:=v.2 a ha
    lia
   ·rcases List.mem_append.mp hq with u | u
    ·have:=v.2 q u
     lia
    ·rw [List.mem_singleton] at u
     lia
def Zhh:Sp:=λvs H Q _=>∃n:Nat,vs=[.int 0,.int (n:Int)]/\n<=9/\∀(r:AD)(zs:List (AD×LI))(H':Hp),Same H H'->H' r=some (.lst (zs.map λz=>V.ref z.1))->Lz H' zs->zs.map (·.2)=OM n->Q (.ref r) H'
theorem scAll:Gk ["low", "high", "found", "number"] ["low", "high"] (Gf ZfM):=⟨rfl,rfl,rfl,by decide +kernel,rfl,by decide +kernel,by decide +kernel⟩
theorem ZgR {f:AD}{fd:FuncData}(F:Fun K "_law_all" "_law_all" ZfM f fd)(mRange:mg "range" = none):GG P w K mg base CX0 1 f fd ["low", "high"] Zhh:=by
 refine F.ok scAll (λvs H Q E h=>?_) (λcdv A outer s0 H vs Q E hr h=>?_)
 ·obtain ⟨_,rfl,_⟩:=h
  rfl
 ·obtain ⟨n,rfl,n9,q⟩:=h;have h16:(16777216:Nat)=sizeLine:=sizeLine_eq.symm;have p9:∀i,i<=n->2 ^ i<=512:=λi hi=>Nat.le_trans (Nat.pow_le_pow_right (by decide) (show i<=9 by lia)) (by decide);refine ⟨_,(@Gc _ _ _ _ _ (@Gp _ _ 2 _ _ _ _ scAll.nd rfl (Or.inl rfl) (@GV _ _ _ _ (@Ga _ _ _ _ _ (@GV _ _ _ _ Gd) Gd rfl)) rfl (by first | exact .inl rfl | exact .inr rfl))
    (@Gc _ _ _ _ _ (@Jj _ _ _ _ _ _ _ _ PassesOwn.never rfl (UY rfl mRange (@Ga _ _ _ _ _ (pv 0) (@Ga _ _ _ _ _ (pv 1) Gd rfl) rfl)) (Gi (i:=3) scAll.nd rfl (Or.inr rfl))
    (@Ge _ _ _ (@Gp _ _ 2 _ _ _ _ scAll.nd rfl (Or.inl rfl) (@GD _ _ _ _ _ _ _ _ Vw (pv 2) (G7 (own:=["roads"]) rfl (Gj (fr:=[("number", 3)]) [(".0", .local),("roads", .local),("number", .cell)] rfl rfl (by decide +kernel) rfl (by decide +kernel) ⟨rfl,trivial⟩ ⟨λh=>GQ h,λh=>GQ h,λ_=>⟨_,rfl⟩,trivial⟩ ⟨⟨rfl,.inl rfl,.inl rfl⟩,trivial⟩) (JL K (pv 2)) (λ_ _ _ _=>Gi (i:=0) (show List.Nodup (["roads", "number"]:List Str) by decide +kernel) rfl (Or.inl rfl)) (λ_ _ _ _=>GW) (λ_ _ _ _=>@GD _ _ _ _ _ _ _ _ Vw (pv 0) (@GV _ _ _ _ (@Ga _ _ _ _ _ (pv 1) Gd rfl))))) rfl (by first | exact .inl rfl | exact .inr rfl))) (by intro _;rfl))
    (@Ge _ _ _ (@Gn _ _ _ _ (pv 2))))),?_⟩
  refine ⟨Nat.zero_le _,λe0 he0=>⟨by show 1<=sizeLine;lia,λL0 hL0=>?_⟩⟩;have s1:Same H (upd H e0 (.lst [])):=Same.new he0;have e1:upd H e0 (.lst []) e0=some (.lst (([]:LI).map V.int)):=Gb;generalize upd H e0 (.lst [])=H1 at s1 e1 hL0 ⊢;have s2:Same H1 (upd H1 L0 (.lst [.ref e0])):=Same.new hL0;have e2:upd H1 L0 (.lst [.ref e0]) L0=some (.lst [.ref e0]):=Gb;generalize upd H1 L0 (.lst [.ref e0])=H2 at s2 e2 ⊢;dsimp only [GL];refine ⟨_,rfl,_,rfl,_,_,rfl,⟨by lia,by lia,by lia,by lia⟩,?_⟩;rw [show ((n:Int)-0).toNat=n by lia];refine Ob (lo:=0) (n:=n) (λi σ H3=>∃(v3:Option V)(L:AD)(zs:List (AD×LI)),σ=[some (.int 0),some (.int (n:Int)),some (.ref L),v3]/\Same H H3/\H3 L=some (.lst (zs.map λz=>V.ref z.1))/\Lz H3 zs/\zs.map (·.2)=OM i)
   ⟨none,L0,[(e0,[])],rfl,s1.trans s2,e2,λz hz=>by rw [List.mem_singleton.mp hz];exact s2 _ _ e1,rfl⟩ ?_ ?_
  ·rintro i σ H3 hi ⟨v3,L,zs,rfl,s3,eL,lz,hzs⟩;rw [Int.zero_add];have zl:zs.length=2 ^ i:=by rw [<-UT i,<-hzs,List.length_map]
   have zb:=p9 i (by lia);dsimp only [GL];refine ⟨_,rfl,_,rfl,L,rfl,⟨_,SqL.of eL⟩,λD hD=>?_⟩;refine GM (K:=K) (a:=L) (xs:=zs.map λz=>V.ref z.1) (λj ys H4=>∃us:List (AD×LI),ys=us.map (λz=>V.ref z.1)/\Same H3 H4/\H4 D=some (.lst ys)/\(∀z∈us,H4 z.1=some (.lst (z.2.map V.int))/\z.1≠D)/\us.map (·.2)=(zs.take j).map λz=>z.2++[(i:Int)]) ⟨[],rfl,Same.new hD,Gb,λz hz=>(by cases hz),rfl⟩ (λj ys H4 _ ⟨_,_,s4,_⟩=>SqL.of (s4 _ _ eL)) ?_ ?_
   ·rintro j x ys H4 hxj ⟨us,rfl,s4,hD4,hus,hue⟩;rw [List.getElem?_map] at hxj;obtain ⟨z,hz,rfl⟩:=Option.map_eq_some_iff.mp hxj;have hzm:=List.mem_of_getElem? hz;have hj:j<zs.length:=(List.getElem?_eq_some_iff.mp hz).1;have zc:z.2.length<=i:=(OK (n:=i) (by rw [<-hzs];exact List.mem_map.mpr ⟨z,hzm,rfl⟩)).2;have ul:us.length=j:=by
     have:=congrArg List.length hue;rw [List.length_map,List.length_map,List.length_take] at this
     lia
    refine ⟨⟨rfl,trivial⟩,?_⟩;unfold Yi;refine G5 ?_;refine ⟨_,rfl,_,rfl,by show 1<=sizeLine;lia,λo1 ho1=>?_⟩;have s5:Same H4 (upd H4 o1 (.lst [.int (i:Int)])):=Same.new ho1;have eo1:upd H4 o1 (.lst [.int (i:Int)]) o1=some (.lst [.int (i:Int)]):=Gb;generalize upd H4 o1 (.lst [.int (i:Int)])=H5 at s5 eo1 ⊢;refine ⟨z.1,o1,_,_,rfl,rfl,(s4.trans s5) _ _ (lz z hzm),eo1,by rw [List.length_map,List.length_singleton];lia,λp hp=>?_⟩;have pD:p≠D:=λy=>by rw [y,s5 _ _ hD4] at hp;cases hp
    have s6:Same H5 (upd H5 p (.lst (z.2.map V.int++[.int (i:Int)]))):=Same.new hp;have ep:upd H5 p (.lst (z.2.map V.int++[.int (i:Int)])) p=some (.lst ((z.2++[(i:Int)]).map V.int)):=by rw [Gb,List.map_append];rfl
    generalize upd H5 p (.lst (z.2.map V.int++[.int (i:Int)]))=H6 at s6 ep ⊢;have S6:=s4.trans (s5.trans s6);refine ⟨(s5.trans s6) _ _ hD4,by rw [List.length_map];lia,us++[(p,z.2++[(i:Int)])],by rw [List.map_append];rfl,S6.put hD,Gb,λy hy=>?_,?_⟩
    ·rcases List.mem_append.mp hy with hy | hy
     ·exact ⟨Gs ((s5.trans s6) _ _ (hus y hy).1) (hus y hy).2,(hus y hy).2⟩
     ·rw [List.mem_singleton.mp hy];exact ⟨Gs ep pD,pD⟩
    ·rw [List.map_append,hue,List.take_add_one,hz,List.map_append]
     rfl
   rintro ys H4 ⟨us,rfl,s4,hD4,hus,hue⟩;rw [List.length_map,List.take_length] at hue;have ul:us.length=zs.length:=by
    have:=congrArg List.length hue
    rwa [List.length_map,List.length_map] at this
   refine ⟨L,D,_,_,rfl,rfl,s4 _ _ eL,hD4,by rw [List.length_map,List.length_map];lia,λM hM=>?_⟩;have s5:Same H4 (upd H4 M (.lst ((zs.map λz=>V.ref z.1)++us.map λz=>V.ref z.1))):=Same.new hM;refine ⟨_,M,zs++us,rfl,s3.trans (s4.trans s5),by rw [Gb,List.map_append],λz hz=>?_,?_⟩
   ·rcases List.mem_append.mp hz with hz | hz
    ·exact (s4.trans s5) _ _ (lz z hz)
    ·exact s5 _ _ (hus z hz).1
   ·rw [List.map_append,hue,hzs];show _=OM i++(OM i).map _;rw [<-hzs,List.map_map]
    rfl
  ·rintro σ H3 ⟨v3,L,zs,rfl,s3,eL,lz,hzs⟩;exact ⟨_,rfl,q L zs H3 s3 eL lz hzs⟩
theorem ZcJ {H:Hp}{wb l:AD}{k:Nat}{xs:List V}{rs:List (Int×Int)}(W:WebAt H wb l (k:Int) xs rs){d:Int}(d0:0<=d)(d1:d<(rs.length:Int)):∃t,atI xs d=some (.ref t)/\H t=some (.tup [.int (rdAt rs d).1,.int (rdAt rs d).2]):=by
 have hxl:=W.p.len;have hx:xs[d.toNat]?=some xs[d.toNat]:=List.getElem?_eq_getElem (by lia);obtain ⟨t,r,et,ett,er⟩:=W.p.get hx;have er':rdAt rs d=r:=by unfold rdAt;rw [List.getD_eq_getElem?_getD,er];rfl
 refine ⟨t,?_,by rw [er'];exact ett⟩;have:=Go (xs:=xs) (j:=d.toNat) (v:=.ref t) (by rw [hx,et])
 rwa [show ((d.toNat:Nat):Int)=d by lia] at this
def Zhi:Sp:=λvs H Q _=>∃(wb l cl:AD)(k:Nat)(xs:List V)(rs:List (Int×Int))(c:LI),vs=[.ref wb,.ref cl]/\WebAt H wb l (k:Int) xs rs/\GS (k:Int) rs/\H cl=some (.lst (c.map V.int))/\(∀q∈c,0<=q/\q<(rs.length:Int))/\∀(p:AD)(H':Hp),Same H H'->H p=none->H' p=some (.lst ((GU k λx=>(degF rs c x:Int)).map V.int))->Q (.ref p) H'
theorem scDg:Gk ["web", "roads", "degrees", "number", "place"] ["web", "roads"] (Gf sDg):=⟨rfl,rfl,rfl,by decide +kernel,rfl,by decide +kernel,by decide +kernel⟩
theorem ZgS {f:AD}{fd:FuncData}(F:Fun K "_law_degrees" "_law_degrees" sDg f fd):GG P w K mg base CX0 1 f fd ["web", "roads"] Zhi:=by
 refine F.ok scDg (λvs H Q E h=>?_) (λcdv A outer s0 H vs Q E hr h=>?_)
 ·obtain ⟨_,_,_,_,_,_,_,rfl,_⟩:=h
  rfl
 ·obtain ⟨wb,l,cl,k,xs,rs,c,rfl,W,g,hc,hcr,q⟩:=h;have h16:(16777216:Nat)=sizeLine:=sizeLine_eq.symm;have gk:=g.2.1;refine ⟨_,(@Gc _ _ _ _ _ (@Gp _ _ 2 _ _ _ _ scDg.nd rfl (Or.inl rfl) (@GD _ _ _ _ _ _ _ _ ZcW (@GV _ _ _ _ (@Ga _ _ _ _ _ Gg Gd rfl)) (@Gx _ _ _ _ _ _ _ (J9 K) (pv 0) Gg (λ_ _=>rfl))) rfl (by first | exact .inl rfl | exact .inr rfl))
    (@Gc _ _ _ _ _ (@Jj _ _ _ _ _ _ _ _ PassesOwn.never rfl (JL K (pv 1)) (Gi (i:=3) scDg.nd rfl (Or.inl rfl))
    (@Ge _ _ _ (@Jj _ _ _ _ _ _ _ _ PassesOwn.never rfl (ZdQ K (@Gx _ _ _ _ _ _ _ (U4 K) (@Gx _ _ _ _ _ _ _ (J9 K) (pv 0) Gg (λ_ _=>rfl)) (pv 3) (λ_ _=>rfl))) (Gi (i:=4) scDg.nd rfl (Or.inl rfl))
    (@Ge _ _ _ (@J7 _ _ _ _ _ _ (@GD _ _ _ _ _ _ _ _ Jk (@Gx _ _ _ _ _ _ _ (U4 K) (pv 2) (pv 4) (λ_ _=>rfl)) Gg) (UX (pv 2) (pv 4) J0) rfl rfl rfl)) (by intro _;rfl))) (by intro _;rfl))
    (@Ge _ _ _ (@Gn _ _ _ _ (pv 2))))),?_⟩
  refine ⟨Nat.le_of_lt (by show 1<sizeLine;lia),λo ho=>?_⟩;have s1:Same H (upd H o (.lst [V.int 0])):=Same.new ho;refine ⟨_,rfl,wb,_,_,_,rfl,rfl,SqT.of (s1 _ _ W.w),Go (j:=0) rfl,o,_,_,rfl,rfl,Gb,by lia,by lia,(by show 1 * _<=_;lia),λp hp=>?_⟩;rw [Int.toNat_natCast,X1];have hp0:=s1.free hp;have s2:=s1.put (o:=.lst ((GU k λ_=>0).map V.int)) hp0;refine ⟨_,rfl,cl,rfl,⟨_,SqL.of (s2 _ _ hc)⟩,?_⟩;refine JZ (K:=K) (a:=cl) (xs:=c.map V.int) (λi σ H2=>∃v3 v4:Option V,σ=[some (.ref wb),some (.ref cl),some (.ref p),v3,v4]/\Same H H2/\H2 p=some (.lst ((GU k λx=>(degF rs (c.take i) x:Int)).map V.int))) ⟨none,none,rfl,s2,Gb⟩ (λi σ H2 _ ⟨_,_,_,s2,_⟩=>SqL.of (s2 _ _ hc)) ?_ ?_
  ·rintro i x σ H2 hxi ⟨v3,v4,rfl,s2,e2⟩;rw [List.getElem?_map] at hxi;obtain ⟨d,y,rfl⟩:=Option.map_eq_some_iff.mp hxi;obtain ⟨d0,d1⟩:=hcr d (List.mem_of_getElem? y);have W2:=W.same s2;obtain ⟨t,atd,ett⟩:=ZcJ W2 d0 d1;have gr:=g.2.2.2.1 (rdAt rs d) (Op (rs:=rs) (show d.toNat<rs.length by lia));refine ⟨_,rfl,wb,_,_,_,rfl,rfl,SqT.of W2.w,Go (j:=1) rfl,_,rfl,l,_,_,_,rfl,rfl,SqL.of W2.l,atd,t,rfl,⟨_,SqT.of ett⟩,?_⟩;refine ZP (K:=K) (a:=t) (xs:=[.int (rdAt rs d).1,.int (rdAt rs d).2]) (λj σ H3=>∃v4:Option V,σ=[some (.ref wb),some (.ref cl),some (.ref p),some (.int d),v4]/\Same H H3/\H3 t=some (.tup [.int (rdAt rs d).1,.int (rdAt rs d).2])/\H3 p=some (.lst ((GU k λx=>(degF rs (c.take i) x:Int)+(if 0<j/\x=(rdAt rs d).1 then 1 else 0)+(if 1<j/\x=(rdAt rs d).2 then 1 else 0)).map V.int)))
    ⟨_,rfl,s2,ett,by rw [e2];simp⟩ (λj σ H3 _ ⟨_,_,_,y,_⟩=>SqT.of y) ?_ ?_
   ·rintro j x σ H3 hxj ⟨v4,rfl,s3,et3,e3⟩;obtain ⟨a,rfl,a0,a1,hj⟩:∃a:Int,x=.int a/\0<=a/\a<(k:Int)/\((j=0/\a=(rdAt rs d).1)\/(j=1/\a=(rdAt rs d).2)):=by
     match j,hxj with
     | 0,h=>cases h;exact ⟨_,rfl,gr.1,by have:=gr.2.1;have:=gr.2.2;exact Int.lt_trans ‹_› ‹_›,.inl ⟨rfl,rfl⟩⟩
     | 1,h=>cases h;exact ⟨_,rfl,Int.le_of_lt (Int.lt_of_le_of_lt gr.1 gr.2.1),gr.2.2,.inr ⟨rfl,rfl⟩⟩
     | j+2,h=>simp at h
    dsimp only [GL];refine ⟨_,rfl,_,rfl,p,_,_,_,rfl,rfl,SqL.of e3,G3 a0 a1,_,_,rfl,rfl,_,rfl,_,rfl,p,_,a,_,rfl,rfl,e3,Uw a0 (by rw [List.length_map,JG];exact a1),?_⟩;rw [map_set,Zbc a0 a1];refine ⟨_,rfl,s3.put hp0,Gs et3 (G6 et3 e3 (λz=>by cases z)),?_⟩;rw [Gb]
    congr 3
    refine Vl λz _ _=>?_;have gr':(rdAt rs d).1<(rdAt rs d).2:=gr.2.1;rcases hj with ⟨rfl,rfl⟩ | ⟨rfl,rfl⟩
    ·by_cases hz:z=(rdAt rs d).1
     ·subst hz;simp <;> lia
     ·simp [hz]
    ·by_cases hz:z=(rdAt rs d).2
     ·subst hz;simp <;> lia
     ·simp [hz]
   ·rintro σ H3 ⟨v4,rfl,s3,et3,e3⟩;refine ⟨_,_,rfl,s3,?_⟩;rw [e3]
    congr 3
    refine Vl λx _ _=>?_;rw [List.take_add_one,y];show _=((degF rs (c.take i++[d]) x:Nat):Int);rw [JS];unfold Jr;show _+(if 0<2/\x=_ then 1 else 0)+(if 1<2/\x=_ then 1 else 0)=_;have gr':(rdAt rs d).1<(rdAt rs d).2:=gr.2.1;by_cases h1:x=(rdAt rs d).1
    ·have h2:x≠(rdAt rs d).2:=by lia
     rw [if_pos ⟨by decide,h1⟩,if_neg (λz=>h2 z.2),if_pos h1,if_neg h2]
     lia
    ·by_cases h2:x=(rdAt rs d).2
     ·rw [if_neg (λz=>h1 z.2),if_pos ⟨by decide,h2⟩,if_neg h1,if_pos h2]
      lia
     ·rw [if_neg (λz=>h1 z.2),if_neg (λz=>h2 z.2),if_neg h1,if_neg h2]
      lia
  ·rintro σ H2 ⟨v3,v4,rfl,s2,e2⟩;rw [List.length_map,List.take_length] at e2;exact ⟨_,rfl,q p H2 s2 hp0 e2⟩
end
end M
namespace M
open PySem L2
section
variable {P:PP}{w:Ab}{K:FF}{mg:Str->Option Aa}{base:Heap}
def Ker (k:Nat)(f lab:Int->Int):Prop:=∀x y,0<=x->x<(k:Int)->0<=y->y<(k:Int)->(f x=f y↔lab x=lab y)
def Zhj:Sp:=λvs H Q _=>∃(wb l cl:AD)(k:Nat)(xs:List V)(rs:List (Int×Int))(c:LI),vs=[.ref wb,.ref cl]/\WebAt H wb l (k:Int) xs rs/\GS (k:Int) rs/\H cl=some (.lst (c.map V.int))/\(∀q∈c,0<=q/\q<(rs.length:Int)) /\
 (∀H':Hp,Same H H'->OL rs c=none->Q .non H')/\∀(p:AD)(f lab:Int->Int)(H':Hp),Same H H'->OL rs c=some lab->Ker k f lab->H' p=some (.lst ((GU k f).map V.int))->Q (.ref p) H'
theorem scPi:Gk ["web", "roads", "piece", "number", "low", "high", "least", "most"] ["web", "roads"] (Gf sPi):=⟨rfl,rfl,rfl,by decide +kernel,rfl,by decide +kernel,by decide +kernel⟩
theorem ZgT {f:AD}{fd:FuncData}(F:Fun K "_law_pieces" "_law_pieces" sPi f fd)(mRange:mg "range" = none)(mLst:mg "list" = none)(mMin:mg "min" = none)(mMax:mg "max" = none):GG P w K mg base CX0 1 f fd ["web", "roads"] Zhj:=by
 refine F.ok scPi (λvs H Q E h=>?_) (λcdv A outer s0 H vs Q E hr h=>?_)
 ·obtain ⟨_,_,_,_,_,_,_,rfl,_⟩:=h
  rfl
 ·obtain ⟨wb,l,cl,k,xs,rs,c,rfl,W,g,hc,hcr,qn,qs⟩:=h;have h16:(16777216:Nat)=sizeLine:=sizeLine_eq.symm;have gk:=g.2.1;refine ⟨_,(@Gc _ _ _ _ _ (@Gp _ _ 2 _ _ _ _ scPi.nd rfl (Or.inl rfl) (GR (VW rfl) rfl mLst Oc (@Ga _ _ _ _ _ (ZdC rfl mRange (@Ga _ _ _ _ _ (@Gx _ _ _ _ _ _ _ (J9 K) (pv 0) Gg (λ_ _=>rfl)) Gd rfl)) Gd rfl)) rfl (by first | exact .inl rfl | exact .inr rfl))
    (@Gc _ _ _ _ _ (@Jj _ _ _ _ _ _ _ _ PassesOwn.never rfl (JL K (pv 1)) (Gi (i:=3) scPi.nd rfl (Or.inl rfl))
    (@Gc _ _ _ _ _ (@J7 _ _ _ _ _ _ (@Gx _ _ _ _ _ _ _ (U4 K) (@Gx _ _ _ _ _ _ _ (J9 K) (pv 0) Gg (λ_ _=>rfl)) (pv 3) (λ_ _=>rfl)) (Z7 K (n:=2) rfl (Gv (Gi (i:=4) scPi.nd rfl (Or.inl rfl)) (Gv (Gi (i:=5) scPi.nd rfl (Or.inl rfl)) Jy))) rfl rfl rfl)
    (@Gc _ _ _ _ _ (@Jd _ _ _ _ _ _ _ _ (Gr UB (@Gx _ _ _ _ _ _ _ (U4 K) (pv 2) (pv 4) (λ_ _=>rfl)) (@Gx _ _ _ _ _ _ _ (U4 K) (pv 2) (pv 5) (λ_ _=>rfl)) (Gz _)) (@Ge _ _ _ (@Gn _ _ _ _ JP)) GA)
    (@Gc _ _ _ _ _ (@Gp _ _ 6 _ _ _ _ scPi.nd rfl (Or.inr rfl) (Gw (ZY rfl) rfl mMin ZbU (@Ga _ _ _ _ _ (@Gx _ _ _ _ _ _ _ (U4 K) (pv 2) (pv 4) (λ_ _=>rfl)) (@Ga _ _ _ _ _ (@Gx _ _ _ _ _ _ _ (U4 K) (pv 2) (pv 5) (λ_ _=>rfl)) Gd rfl) rfl)) rfl (by first | exact .inl rfl | exact .inr rfl))
    (@Gc _ _ _ _ _ (@Gp _ _ 7 _ _ _ _ scPi.nd rfl (Or.inr rfl) (Gw (ZX rfl) rfl mMax ZcA (@Ga _ _ _ _ _ (@Gx _ _ _ _ _ _ _ (U4 K) (pv 2) (pv 4) (λ_ _=>rfl)) (@Ga _ _ _ _ _ (@Gx _ _ _ _ _ _ _ (U4 K) (pv 2) (pv 5) (λ_ _=>rfl)) Gd rfl) rfl)) rfl (by first | exact .inl rfl | exact .inr rfl))
    (@Ge _ _ _ (Ul (i:=2) scPi.nd rfl (Or.inl rfl) (own:=["one"]) rfl (Gj (fr:=[("least", 6),("most", 7)]) [(".0", .local),("one", .local),("least", .cell),("most", .cell)] rfl rfl (by decide +kernel) rfl (by decide +kernel) ⟨rfl,rfl,trivial⟩ ⟨λh=>GQ h,λh=>GQ h,λ_=>⟨_,rfl⟩,λ_=>⟨_,rfl⟩,trivial⟩ ⟨⟨rfl,.inl rfl,.inl rfl⟩,⟨rfl,.inl rfl,.inl rfl⟩,trivial⟩) (JL K (pv 2)) (λ_ _ _ _=>Gi (i:=0) (show List.Nodup (["one", "least", "most"]:List Str) by decide +kernel) rfl (Or.inl rfl)) (λ_ _ _ _=>GW) (λ_ _ _ _=>JY (Gr UB (pv 0) (pv 2) (Gz _)) (pv 1) (pv 0)))))))) (by intro _;rfl))
    (@Ge _ _ _ (@Gn _ _ _ _ (pv 2))))),?_⟩
  refine ⟨_,rfl,wb,_,_,_,rfl,rfl,SqT.of W.w,Go (j:=0) rfl,_,rfl,λr hr'=>⟨r,k,rfl,Gb,by lia,λp0 hp0=>?_⟩⟩;have s1:Same H (upd (upd H r (.rng 0 (k:Int))) p0 (.lst ((List.range k).map λi=>V.int ((i:Nat):Int)))):=(Same.new hr').trans (Same.new hp0);have e1:upd (upd H r (.rng 0 (k:Int))) p0 (.lst ((List.range k).map λi=>V.int ((i:Nat):Int))) p0=some (.lst ((GU k id).map V.int)):=by rw [Gb];unfold GU;rw [List.map_map];rfl
  generalize upd (upd H r (.rng 0 (k:Int))) p0 (.lst ((List.range k).map λi=>V.int ((i:Nat):Int)))=H1 at s1 e1 ⊢;dsimp only [GL];refine ⟨_,rfl,cl,rfl,⟨_,SqL.of (s1 _ _ hc)⟩,?_⟩;refine JZ (K:=K) (a:=cl) (xs:=c.map V.int) (λi σ H3=>∃(v3 v4 v5 v6 v7:Option V)(p:AD)(f lab:Int->Int),σ=[some (.ref wb),some (.ref cl),some (.ref p),v3,v4,v5,v6,v7]/\Same H H3/\OL rs (c.take i)=some lab/\Ker k f lab/\H3 p=some (.lst ((GU k f).map V.int))) ⟨none,none,none,none,none,p0,id,id,rfl,s1,rfl,λ_ _ _ _ _ _=>Iff.rfl,e1⟩ (λi σ H3 _ ⟨_,_,_,_,_,_,_,_,_,s3,_⟩=>SqL.of (s3 _ _ hc)) ?_ ?_
  ·rintro i x σ H3 hxi ⟨v3,v4,v5,v6,v7,p,f,lab,rfl,s3,hl,kr,e3⟩;rw [List.getElem?_map] at hxi;obtain ⟨d,y,rfl⟩:=Option.map_eq_some_iff.mp hxi;obtain ⟨d0,d1⟩:=hcr d (List.mem_of_getElem? y);have W3:=W.same s3;obtain ⟨t,atd,ett⟩:=ZcJ W3 d0 d1;have gr:=g.2.2.2.1 (rdAt rs d) (Op (rs:=rs) (show d.toNat<rs.length by lia));have next:OL rs (c.take (i+1))=if lab (rdAt rs d).1=lab (rdAt rs d).2 then none else some (Ji (rdAt rs d) lab):=by
    rw [List.take_add_one,y];show OL rs (c.take i++[d])=_;rw [JF,hl]
    rfl
   generalize rdAt rs d=rr at ett gr next
   have a1:rr.1<(k:Int):=by lia
   have b0:0<=rr.2:=by lia
   dsimp only [GL];refine ⟨_,rfl,wb,_,_,_,rfl,rfl,SqT.of W3.w,Go (j:=1) rfl,_,rfl,l,_,_,_,rfl,rfl,SqL.of W3.l,atd,t,_,rfl,SqT.of ett,rfl,_,_,rfl,_,_,rfl,rfl,?_⟩;dsimp only [GL];refine ⟨_,rfl,_,rfl,p,_,_,_,rfl,rfl,SqL.of e3,G3 gr.1 a1,_,rfl,_,rfl,p,_,_,_,rfl,rfl,SqL.of e3,G3 b0 gr.2.2,rfl,_,rfl,?_⟩;rw [G0];by_cases z:f rr.1=f rr.2
   ·rw [decide_eq_true z];rw [if_pos ((kr _ _ gr.1 a1 b0 gr.2.2).mp z)] at next
    exact G5 (qn _ s3 (Zbd next))
   rw [decide_eq_false z];rw [if_neg λu=>z ((kr _ _ gr.1 a1 b0 gr.2.2).mpr u)] at next
   refine Jw ?_;refine ⟨_,rfl,_,rfl,p,_,_,_,rfl,rfl,SqL.of e3,G3 gr.1 a1,_,rfl,_,rfl,p,_,_,_,rfl,rfl,SqL.of e3,G3 b0 gr.2.2,_,_,rfl,?_⟩;dsimp only [GL];refine ⟨_,rfl,_,rfl,p,_,_,_,rfl,rfl,SqL.of e3,G3 gr.1 a1,_,rfl,_,rfl,p,_,_,_,rfl,rfl,SqL.of e3,G3 b0 gr.2.2,_,_,rfl,?_⟩;dsimp only [GL];obtain ⟨lo,hlo⟩:∃lo,(if f rr.2<f rr.1 then f rr.2 else f rr.1)=lo:=⟨_,rfl⟩;obtain ⟨hi,hhi⟩:∃hi,(if f rr.2 > f rr.1 then f rr.2 else f rr.1)=hi:=⟨_,rfl⟩;rw [hlo,hhi];have two:(lo=f rr.1/\hi=f rr.2)\/(lo=f rr.2/\hi=f rr.1):=by
    split at hlo <;> split at hhi <;> lia
   refine ⟨_,rfl,p,rfl,⟨_,SqL.of e3⟩,λD2 hD2=>?_⟩;refine GM (K:=K) (a:=p) (xs:=(GU k f).map V.int) (λj ys H4=>Same H3 H4/\H4 D2=some (.lst ys)/\ys=(GU j λx=>if f x=hi then lo else f x).map V.int) ⟨Same.new hD2,Gb,rfl⟩ (λj ys H4 _ ⟨s4,_⟩=>SqL.of (s4 _ _ e3)) ?_ ?_
   ·rintro j x ys H4 hxj ⟨s4,hD4,rfl⟩;have hj:j<k:=by
     have:=(List.getElem?_eq_some_iff.mp hxj).1;rw [List.length_map,JG] at this;exact this
    rw [List.getElem?_map,ZD k f j hj] at hxj;cases hxj;refine ⟨⟨rfl,rfl,trivial⟩,?_⟩;unfold Yi;refine G5 ?_;refine ⟨_,rfl,_,rfl,rfl,_,rfl,?_⟩;rw [G0];have ln:((GU j λx=>if f x=hi then lo else f x).map V.int).length<sizeLine:=by rw [List.length_map,JG];lia
    refine WX (λu=>?_) (λu=>?_)
    ·exact ⟨_,rfl,hD4,ln,s4.put hD2,Gb,by rw [VM,List.map_append,if_pos (of_decide_eq_true u)];rfl⟩
    ·exact ⟨_,rfl,hD4,ln,s4.put hD2,Gb,by rw [VM,List.map_append,if_neg (λv=>u (decide_eq_true v))];rfl⟩
   rintro ys H4 ⟨s4,hD4,rfl⟩;rw [List.length_map,JG] at hD4;refine ⟨_,_,_,_,_,D2,_,_,rfl,s3.trans s4,next,λx y x0 x1 y0 y1=>?_,hD4⟩;rw [Jc,<-kr x y x0 x1 y0 y1,<-kr x _ x0 x1 gr.1 a1,<-kr x _ x0 x1 b0 gr.2.2,<-kr y _ y0 y1 gr.1 a1,<-kr y _ y0 y1 b0 gr.2.2];generalize f rr.1=a at *;generalize f rr.2=b at *;generalize f x=u at *;generalize f y=v at *;rcases two with ⟨rfl,rfl⟩ | ⟨rfl,rfl⟩ <;> split <;> split <;> lia
  ·rintro σ H3 ⟨v3,v4,v5,v6,v7,p,f,lab,rfl,s3,hl,kr,e3⟩;rw [List.length_map,List.take_length] at hl;exact ⟨_,rfl,qs p f lab H3 s3 hl kr e3⟩
end
end M
namespace M
open PySem L2
theorem ZcK {rs:List (Int×Int)}:∀(c:LI)(lab:Int->Int),OL rs c=some lab->∀q∈c,lab (rdAt rs q).1=lab (rdAt rs q).2:=by
 refine O9 (P:=λc=>∀(lab:Int->Int),OL rs c=some lab->∀q∈c,lab (rdAt rs q).1=lab (rdAt rs q).2) ?_ ?_
 ·intro lab _ q hq;cases hq
 ·intro c q ih lab e p hp;rw [JF] at e;obtain ⟨l0,e0,e1⟩:=Option.bind_eq_some_iff.mp e;split at e1
  ·cases e1
  ·cases e1;rw [Jc];rcases List.mem_append.mp hp with hp | hp
   ·exact .inl (ih l0 e0 p hp)
   ·rw [List.mem_singleton.mp hp];exact .inr ⟨.inl rfl,.inr rfl⟩
theorem Zbr {rs:List (Int×Int)}{x:Int}{n:Nat}(hn:n<=rs.length):Gq rs x<(n:Int)↔∀j,n<=j->j<rs.length->¬ ((rs.getD j (0,0)).1=x\/(rs.getD j (0,0)).2=x):=by
 constructor
 ·intro h j hj hl e;have:=OB (rs:=rs) (j:=j) hl e
  lia
 ·intro h;have key:∀m,m<=rs.length->JT rs x m<(n:Int):=by
   intro m
   induction m with
   | zero=>intro _;show (-1:Int)<_;lia
   | succ m ih=>
    intro hm;show (if _ then (m:Int) else JT rs x m)<_;by_cases e:(rs.getD m (0,0)).1=x\/(rs.getD m (0,0)).2=x
    ·rw [if_pos e];have:=h m;rcases Nat.lt_or_ge m n with z | z
     ·lia
     ·exact absurd e (this z (by lia))
    ·rw [if_neg e];exact ih (by lia)
  exact key rs.length (Nat.le_refl _)
section
variable {P:PP}{w:Ab}{K:FF}{mg:Str->Option Aa}{base:Heap}
def Zhk:Sp:=λvs H Q _=>∃(wb l cl:AD)(k n:Nat)(xs:List V)(rs:List (Int×Int))(c:LI)(s t:Int),vs=[.ref wb,.int s,.int t,.int (n:Int),.ref cl]/\WebAt H wb l (k:Int) xs rs/\GS (k:Int) rs/\s≠t/\(0<=s/\s<(k:Int))/\(0<=t/\t<(k:Int))/\n<=rs.length/\H cl=some (.lst (c.map V.int))/\(∀q∈c,0<=q/\q<(rs.length:Int))/\c.length<=100 /\
 ∀(b:Bool)(H':Hp),Same H H'->(b=true↔Hop rs k s t (n:Int) c)->Q (.bl b) H'
theorem scLh:Gk ["web", "one", "other", "many", "roads", "degrees", "piece", "place", "most", "over"] ["web", "one", "other", "many", "roads"] (Gf sLh):=⟨rfl,rfl,rfl,by decide +kernel,rfl,by decide +kernel,by decide +kernel⟩
theorem ZgU {f fDg fPi:AD}{fd fdDg fdPi:FuncData}(F:Fun K "_law_hopeful" "_law_hopeful" sLh f fd)(FDg:Fun K "_law_degrees" "_law_degrees" sDg fDg fdDg)(bDg:Binds K fdDg ["web", "roads"] [])(mDg:mg "_law_degrees" = some (.ref fDg))(GDg:GG P w K mg base CX0 1 fDg fdDg ["web", "roads"] Zhi)(FPi:Fun K "_law_pieces" "_law_pieces" sPi fPi fdPi)(bPi:Binds K fdPi ["web", "roads"] [])(mPi:mg "_law_pieces" = some (.ref fPi))(GPi:GG P w K mg base CX0 1 fPi fdPi ["web", "roads"] Zhj)(mRange:mg "range" = none)(mLen:mg "len" = none)(mInt:mg "int" = none)(mAll:mg "all" = none):GG P w K mg base CX0 2 f fd ["web", "one", "other", "many", "roads"] Zhk:=by
 refine F.ok scLh (λvs H Q E h=>?_) (λcdv A outer s0 H vs Q E hr h=>?_)
 ·obtain ⟨_,_,_,_,_,_,_,_,_,_,rfl,_⟩:=h
  rfl
 ·obtain ⟨wb,l,cl,k,n,xs,rs,c,s,t,rfl,W,g,hst,hs,ht,hn,hc,hcr,hcl,q⟩:=h;have h16:(16777216:Nat)=sizeLine:=sizeLine_eq.symm;have gk:=g.2.1;have g1:=g.1;have g30:=g.2.2.1;have hxl:=W.p.len;refine ⟨_,(@Gc _ _ _ _ _ (@Gp _ _ 5 _ _ _ _ scLh.nd rfl (Or.inl rfl) (@Gh _ _ _ _ _ _ _ _ _ _ _ _ _ _ _ _ GDg (hr.mono (by decide)) rfl mDg FDg.kp bDg .nil GN (@Ga _ _ _ _ _ (pv 0) (@Ga _ _ _ _ _ (pv 4) Gd rfl) rfl) (by decide) rfl rfl) rfl (by first | exact .inl rfl | exact .inr rfl))
    (@Gc _ _ _ _ _ (@Gp _ _ 6 _ _ _ _ scLh.nd rfl (Or.inr rfl) (@Gh _ _ _ _ _ _ _ _ _ _ _ _ _ _ _ _ GPi (hr.mono (by decide)) rfl mPi FPi.kp bPi .nil GN (@Ga _ _ _ _ _ (pv 0) (@Ga _ _ _ _ _ (pv 4) Gd rfl) rfl) (by decide) rfl rfl) rfl (by first | exact .inl rfl | exact .inr rfl))
    (@Gc _ _ _ _ _ (@Jd _ _ _ _ _ _ _ _ (Gr ZV (pv 6) JP (Gz _)) (@Ge _ _ _ (@Gn _ _ _ _ WI)) GA)
    (@Gc _ _ _ _ _ (@Jj _ _ _ _ _ _ _ _ PassesOwn.never rfl (OO rfl mRange (@Ga _ _ _ _ _ (@Gx _ _ _ _ _ _ _ (J9 K) (pv 0) Gg (λ_ _=>rfl)) Gd rfl)) (Gi (i:=7) scLh.nd rfl (Or.inr rfl))
    (@Gc _ _ _ _ _ (@Gp _ _ 8 _ _ _ _ scLh.nd rfl (Or.inl rfl) (@GD _ _ _ _ _ _ _ _ Vu Gg (GR ZZ rfl mInt ZbT (@Ga _ _ _ _ _ (Zeo (Jf UB (pv 7) (pv 1) (Gz _)) (ZcP (Jf UB (pv 7) (pv 2) (Gz _)))) Gd rfl))) rfl (by first | exact .inl rfl | exact .inr rfl))
    (@Gc _ _ _ _ _ (@Gp _ _ 9 _ _ _ _ scLh.nd rfl (Or.inl rfl) (Gw (Zf6 K rfl) rfl mAll UJ (@Ga _ _ _ _ _ (G7 (own:=["number"]) rfl (Gj (fr:=[("web", 0),("place", 7)]) [(".0", .local),("number", .local),("place", .cell),("web", .cell)] rfl rfl (by decide +kernel) rfl (by decide +kernel) ⟨rfl,rfl,trivial⟩ ⟨λh=>GQ h,λh=>GQ h,λ_=>⟨_,rfl⟩,λ_=>⟨_,rfl⟩,trivial⟩ ⟨⟨rfl,.inl rfl,.inl rfl⟩,⟨rfl,.inl rfl,.inl rfl⟩,trivial⟩) (UY rfl mRange (@Ga _ _ _ _ _ (pv 3) (@Ga _ _ _ _ _ (Gw (ZbA K) rfl mLen PySem.boot_len (@Ga _ _ _ _ _ (@Gx _ _ _ _ _ _ _ (J9 K) (pv 0) Gg (λ_ _=>rfl)) Gd rfl)) Gd rfl) rfl)) (λ_ _ _ _=>Gi (i:=0) (show List.Nodup (["number", "web", "place"]:List Str) by decide +kernel) rfl (Or.inl rfl)) (λ_ _ _ _=>GW) (λ_ _ _ _=>Jf (Yl K) (pv 2) (@Gx _ _ _ _ _ _ _ (U4 K) (@Gx _ _ _ _ _ _ _ (J9 K) (pv 1) Gg (λ_ _=>rfl)) (pv 0) (λ_ _=>rfl)) (by with_unfolding_all rfl))) Gd rfl)) rfl (by first | exact .inl rfl | exact .inr rfl))
    (@Ge _ _ _ (@Jd _ _ _ _ _ _ _ _ (PW.pt (WK (Gr Zev (@Gx _ _ _ _ _ _ _ (U4 K) (pv 5) (pv 7) (λ_ _=>rfl)) (pv 8) (Gz _)) (WJ (PW.pt (UW (Ju (pv 9) (λ_=>rfl)) (OI (Gr (Yl K) (@Gx _ _ _ _ _ _ _ (U4 K) (pv 5) (pv 7) (λ_ _=>rfl)) (@Gx _ _ _ _ _ _ _ (U4 K) (@GV _ _ _ _ (@Ga _ _ _ _ _ (@GV _ _ _ _ (@Ga _ _ _ _ _ Gg (@Ga _ _ _ _ _ Gg Gd rfl) rfl)) (@Ga _ _ _ _ _ (@GV _ _ _ _ (@Ga _ _ _ _ _ Gg Gd rfl)) Gd rfl) rfl)) (@GD _ _ _ _ _ _ _ _ Vu Gg (pv 8)) (λ_ _=>rfl)) (by with_unfolding_all rfl)))))))) (@Ge _ _ _ (@Gn _ _ _ _ WI)) GA)))) (by intro _;rfl))
    (@Gc _ _ _ _ _ (@Jd _ _ _ _ _ _ _ _ (Gr UB (@Gx _ _ _ _ _ _ _ (U4 K) (pv 6) (pv 1) (λ_ _=>rfl)) (@Gx _ _ _ _ _ _ _ (U4 K) (pv 6) (pv 2) (λ_ _=>rfl)) (Gz _)) (@Ge _ _ _ (@Gn _ _ _ _ (Gw (Zf6 K rfl) rfl mAll UJ (@Ga _ _ _ _ _ (G7 (own:=["number"]) rfl (Gj (fr:=[("web", 0),("one", 1),("piece", 6)]) [(".0", .local),("number", .local),("one", .cell),("piece", .cell),("web", .cell)] rfl rfl (by decide +kernel) rfl (by decide +kernel) ⟨rfl,rfl,rfl,trivial⟩ ⟨λh=>GQ h,λh=>GQ h,λ_=>⟨_,rfl⟩,λ_=>⟨_,rfl⟩,λ_=>⟨_,rfl⟩,trivial⟩ ⟨⟨rfl,.inl rfl,.inl rfl⟩,⟨rfl,.inl rfl,.inl rfl⟩,⟨rfl,.inl rfl,.inl rfl⟩,trivial⟩) (JL K (pv 4)) (λ_ _ _ _=>Gi (i:=0) (show List.Nodup (["number", "web", "one", "piece"]:List Str) by decide +kernel) rfl (Or.inl rfl)) (λ_ _ _ _=>GW) (λ_ _ _ _=>Jf UB (@Gx _ _ _ _ _ _ _ (U4 K) (pv 3) (@Gx _ _ _ _ _ _ _ (J9 K) (@Gx _ _ _ _ _ _ _ (U4 K) (@Gx _ _ _ _ _ _ _ (J9 K) (pv 1) Gg (λ_ _=>rfl)) (pv 0) (λ_ _=>rfl)) Gg (λ_ _=>rfl)) (λ_ _=>rfl)) (@Gx _ _ _ _ _ _ _ (U4 K) (pv 3) (pv 2) (λ_ _=>rfl)) (Gz _))) Gd rfl)))) GA)
    (@Ge _ _ _ (@Gn _ _ _ _ WI))))))),?_⟩
  refine ⟨_,rfl,_,rfl,wb,l,cl,k,xs,rs,c,rfl,W,g,hc,hcr,λdg H1 s1 hdg e1=>?_⟩;dsimp only [GL];refine Jg (λσ' H'=>∃v:V,σ'=[some (.ref wb),some (.int s),some (.int t),some (.int (n:Int)),some (.ref cl),some (.ref dg),some v,none,none,none]/\Same H1 H'/\((v=.non/\OL rs c=none)\/∃(p:AD)(f lab:Int->Int),v=.ref p/\OL rs c=some lab/\Ker k f lab/\H' p=some (.lst ((GU k f).map V.int)))) ?g2 ?g1
  case g1=>
   intro hk;refine ⟨_,rfl,_,rfl,wb,l,cl,k,xs,rs,c,rfl,W.same s1,g,s1 _ _ hc,hcr,λH' s' z=>?_,λp f lab H' s' z kr e'=>?_⟩
   ·exact hk _ _ ⟨_,rfl,s',.inl ⟨rfl,z⟩⟩
   ·exact hk _ _ ⟨_,rfl,s',.inr ⟨p,f,lab,rfl,z,kr,e'⟩⟩
  rintro σ' H2 ⟨v,rfl,s2,hv⟩;have S2:=s1.trans s2;have no:∀H',Same H H'->¬ Hop rs k s t (n:Int) c->Q (.bl false) H':=λH' s' z=>q false H' s' ⟨λy=>(by cases y),λy=>absurd y z⟩;refine ⟨_,rfl,rfl,_,rfl,?_⟩;rcases hv with ⟨rfl,hl⟩ | ⟨p,f0,lab,rfl,hl,kr,e2⟩
  ·exact G5 (no _ S2 λ⟨lab,h1,_⟩=>by rw [hl] at h1;cases h1)
  rw [decide_eq_false (by intro z;cases z)];refine Jw ?_;have e1':=s2 _ _ e1;have uni:∀{lab'},OL rs c=some lab'->lab'=lab:=λh=>by rw [hl] at h;cases h;rfl
  dsimp only [ZbI];have W2:=W.same S2;refine ⟨_,rfl,wb,_,_,_,rfl,rfl,SqT.of W2.w,Go (j:=0) rfl,_,rfl,by lia,by lia,?_⟩;rw [Int.toNat_natCast];refine Ob (lo:=0) (n:=k) (λj σ H3=>∃v7 v8 v9:Option V,σ=[some (.ref wb),some (.int s),some (.int t),some (.int (n:Int)),some (.ref cl),some (.ref dg),some (.ref p),v7,v8,v9]/\Same H2 H3/\∀x,0<=x->x<(j:Int)->degF rs c x<=2/\((x=s\/x=t)->degF rs c x<=1/\¬ (Gq rs x<(n:Int)/\degF rs c x=0))/\(x≠s->x≠t->¬ (Gq rs x<(n:Int)/\degF rs c x=1))) ⟨none,none,none,rfl,Same.refl _,λx x0 x1=>by lia⟩ ?_ ?_
  ·rintro j σ H3 hj ⟨v7,v8,v9,rfl,s3,hall'⟩;rw [Int.zero_add];have S3:=S2.trans s3;have W3:=W.same S3;have dgj:atI ((GU k λx=>(degF rs c x:Int)).map V.int) (j:Int)=some (.int (degF rs c (j:Int):Int)):=G3 (by lia) (by lia);dsimp only [GL];obtain ⟨mo,hmo⟩:∃mo:Int,mo=if (j:Int)=s\/(j:Int)=t then 1 else 2:=⟨_,rfl⟩
   refine Jg (λσ' H'=>σ'=[some (.ref wb),some (.int s),some (.int t),some (.int (n:Int)),some (.ref cl),some (.ref dg),some (.ref p),some (.int (j:Int)),some (.int mo),v9]/\H'=H3) ?h2 ?h1
   case h1=>
    intro hk;by_cases z1:(j:Int)=s
    ·refine ⟨_,rfl,_,rfl,rfl,true,by rw [G0,decide_eq_true z1],G5 (.inr ⟨true,rfl,_,_,rfl,rfl,hk _ _ ⟨?_,rfl⟩⟩)⟩;rw [hmo.trans (if_pos (.inl z1))]
     rfl
    ·refine ⟨_,rfl,_,rfl,rfl,false,by rw [G0,decide_eq_false z1],Jw ?_⟩;refine ⟨_,rfl,_,rfl,rfl,?_⟩;rw [G0];refine .inr ⟨_,rfl,_,_,rfl,rfl,hk _ _ ⟨?_,rfl⟩⟩;by_cases z2:(j:Int)=t
     ·rw [hmo.trans (if_pos (.inr z2)),decide_eq_true z2]
      rfl
     ·rw [hmo.trans (if_neg (λu=>u.elim z1 z2)),decide_eq_false z2]
      rfl
   rintro σ4 H4 ⟨rfl,rfl⟩;refine Jg (λσ' H'=>σ'=[some (.ref wb),some (.int s),some (.int t),some (.int (n:Int)),some (.ref cl),some (.ref dg),some (.ref p),some (.int (j:Int)),some (.int mo),some (.bl (decide (Gq rs (j:Int)<(n:Int))))]/\Same H4 H') ?i2 ?i1
   case i1=>
    intro hk;refine ⟨_,rfl,_,rfl,wb,_,_,_,rfl,rfl,SqT.of W3.w,Go (j:=1) rfl,l,_,rfl,.inl (SqL.of W3.l),_,_,rfl,⟨by lia,by lia,by lia,by lia⟩,λD hD=>?_⟩;rw [show ((xs.length:Int)-(n:Int)).toNat=rs.length-n by lia];refine VA (lo:=(n:Int)) (n:=rs.length-n) (λi ys H5=>Same H4 H5/\H5 D=some (.lst ys)/\ys=((List.range i).map λ(m:Nat)=>!decide ((j:Int)=(rs.getD (n+m) (0,0)).1\/(j:Int)=(rs.getD (n+m) (0,0)).2)).map V.bl) ⟨Same.new hD,Gb,rfl⟩ ?_ ?_
    ·rintro i ys H5 hi ⟨s5,hD5,rfl⟩;obtain ⟨tt,atd,ett⟩:=ZcJ (W3.same s5) (d:=((n+i:Nat):Int)) (by lia) (by lia);have erd:rdAt rs ((n+i:Nat):Int)=rs.getD (n+i) (0,0):=by unfold rdAt;rw [Int.toNat_natCast]
     rw [erd] at ett;have W5:=W3.same s5;refine ⟨⟨rfl,rfl,trivial⟩,?_⟩;unfold Yi;refine G5 ?_;rw [show (n:Int)+(i:Int)=((n+i:Nat):Int) by push_cast;rfl];refine ⟨_,rfl,_,rfl,wb,_,_,_,rfl,rfl,SqT.of W5.w,Go (j:=1) rfl,_,rfl,l,_,_,_,rfl,rfl,SqL.of W5.l,atd,tt,_,rfl,.inr (SqT.of ett),rfl,rfl,?_⟩;show H5 D=_/\_/\_;rw [show (if true=true then !inV (V.int (j:Int)) [.int (rs.getD (n+i) (0,0)).1,.int (rs.getD (n+i) (0,0)).2] else inV (V.int (j:Int)) [.int (rs.getD (n+i) (0,0)).1,.int (rs.getD (n+i) (0,0)).2])=!decide ((j:Int)=(rs.getD (n+i) (0,0)).1\/(j:Int)=(rs.getD (n+i) (0,0)).2) from congrArg not (ZfO _ _ _)];exact ⟨hD5,by rw [List.length_map,List.length_map,List.length_range];lia,s5.put hD,Gb,by rw [List.range_succ,List.map_append,List.map_append];rfl⟩
    ·rintro ys H5 ⟨s5,hD5,rfl⟩;refine ⟨D,_,rfl,SqL.of hD5,hk _ _ ⟨?_,s5⟩⟩
     congr 2
     have e:(((List.range (rs.length-n)).map λ(m:Nat)=>!decide ((j:Int)=(rs.getD (n+m) (0,0)).1\/(j:Int)=(rs.getD (n+m) (0,0)).2)).all id)=decide (Gq rs (j:Int)<(n:Int)):=by
      rw [Bool.eq_iff_iff,List.all_eq_true,decide_eq_true_eq,Zbr hn];constructor
      ·intro h m hm1 hm2 e;have:=h _ (List.mem_map.mpr ⟨m-n,List.mem_range.mpr (by lia),rfl⟩);rw [show n+(m-n)=m by lia] at this;simp at this;exact e.elim (λz=>this.1 z.symm) (λz=>this.2 z.symm)
      ·intro h b hb;obtain ⟨m,hm,rfl⟩:=List.mem_map.mp hb;have:=h (n+m) (by lia) (by have:=List.mem_range.mp hm;lia);have e2:¬ ((j:Int)=(rs.getD (n+m) (0,0)).1\/(j:Int)=(rs.getD (n+m) (0,0)).2):=λz=>this (z.imp Eq.symm Eq.symm);rw [decide_eq_false e2]
       rfl
     show [some (V.ref wb),_,_,_,_,_,_,_,_,some (V.bl _)]=_;rw [e]
   rintro σ5 H5 ⟨rfl,s5⟩;have e5:=(s3.trans s5) _ _ e1';have dle:(mo=1/\((j:Int)=s\/(j:Int)=t))\/(mo=2/\(j:Int)≠s/\(j:Int)≠t):=by
    by_cases z:(j:Int)=s\/(j:Int)=t
    ·exact .inl ⟨hmo.trans (if_pos z),z⟩
    ·exact .inr ⟨hmo.trans (if_neg z),λy=>z (.inl y),λy=>z (.inr y)⟩
   have go:degF rs c (j:Int)<=2->(((j:Int)=s\/(j:Int)=t)->degF rs c (j:Int)<=1/\¬ (Gq rs (j:Int)<(n:Int)/\degF rs c (j:Int)=0))->((j:Int)≠s->(j:Int)≠t->¬ (Gq rs (j:Int)<(n:Int)/\degF rs c (j:Int)=1))->∀x,0<=x->x<((j+1:Nat):Int)->degF rs c x<=2/\((x=s\/x=t)->degF rs c x<=1/\¬ (Gq rs x<(n:Int)/\degF rs c x=0))/\(x≠s->x≠t->¬ (Gq rs x<(n:Int)/\degF rs c x=1)):=λa b d x x0 x1=>by
    rcases (show x<(j:Int)\/x=(j:Int) by lia) with y | y
    ·exact hall' x x0 y
    ·subst y;exact ⟨a,b,d⟩
   have S5:=S3.trans s5;have S25:=s3.trans s5;refine ⟨_,rfl,_,rfl,dg,_,_,_,rfl,rfl,SqL.of e5,dgj,_,rfl,_,_,rfl,rfl,_,rfl,?_⟩;by_cases y1:mo<(degF rs c (j:Int):Int)
   ·rw [decide_eq_true y1];refine G5 (G5 (no _ S5 λ⟨lab',_,hb⟩=>?_));rcases dle with ⟨m1,z⟩ | ⟨m2,_⟩
    ·have:=(hb.en (j:Int) z).1
     lia
    ·have:=hb.two (j:Int)
     lia
   rw [decide_eq_false y1];refine Jw ?_;refine ⟨_,rfl,_,rfl,?_⟩;by_cases y2:Gq rs (j:Int)<(n:Int)
   ·rw [decide_eq_true y2];refine G5 ?_;refine ⟨_,rfl,_,rfl,dg,_,_,_,rfl,rfl,SqL.of e5,dgj,J8,λo1 ho1=>?_⟩;have t1:Same H5 (upd H5 o1 (.lst [.int 0,.int 2])):=Same.new ho1;have eo1:upd H5 o1 (.lst [.int 0,.int 2]) o1=some (.lst (([0,2]:LI).map V.int)):=Gb;generalize upd H5 o1 (.lst [.int 0,.int 2])=K1 at t1 eo1 ⊢;refine ⟨by show 1<=sizeLine;lia,λo2 ho2=>?_⟩;have t2:Same K1 (upd K1 o2 (.lst [.int 1])):=Same.new ho2;have eo2:upd K1 o2 (.lst [.int 1]) o2=some (.lst (([1]:LI).map V.int)):=Gb;generalize upd K1 o2 (.lst [.int 1])=K2 at t2 eo2 ⊢;refine ⟨J8,λo3 ho3=>?_⟩;have t3:Same K2 (upd K2 o3 (.lst [.ref o1,.ref o2])):=Same.new ho3;have eo3:upd K2 o3 (.lst [.ref o1,.ref o2]) o3=some (.lst [.ref o1,.ref o2]):=Gb;generalize upd K2 o3 (.lst [.ref o1,.ref o2])=K3 at t3 eo3 ⊢;have t13:=t1.trans (t2.trans t3);have SK:=S5.trans t13;have S2K:=S25.trans t13;rcases dle with ⟨m1,z⟩ | ⟨m2,z1,z2⟩
    ·rw [m1];refine ⟨_,rfl,_,_,rfl,rfl,o3,_,_,_,rfl,rfl,SqL.of eo3,Go (j:=1) rfl,o2,_,rfl,.inl (SqL.of (t3 _ _ eo2)),rfl,Ol _,_,rfl,?_⟩;show if (!inV (.int (degF rs c (j:Int):Int)) (([1]:LI).map V.int))=true then _ else _
     rw [Oz];by_cases y3:(degF rs c (j:Int):Int)∈([1]:LI)
     ·rw [decide_eq_true y3];have y3:=List.mem_singleton.mp y3;exact Jw ⟨_,_,_,rfl,S2K,go (by lia) (λ_=>⟨by lia,λu=>by lia⟩) (λa b=>absurd z (λu=>u.elim a b))⟩
     ·rw [decide_eq_false y3];refine G5 (no _ SK λ⟨lab',_,hb⟩=>?_);have y3:(degF rs c (j:Int):Int)≠1:=λu=>y3 (List.mem_singleton.mpr u);exact (hb.en (j:Int) z).2 ⟨y2,by lia⟩
    ·rw [m2];refine ⟨_,rfl,_,_,rfl,rfl,o3,_,_,_,rfl,rfl,SqL.of eo3,Go (j:=0) rfl,o1,_,rfl,.inl (SqL.of ((t2.trans t3) _ _ eo1)),rfl,Ol _,_,rfl,?_⟩;show if (!inV (.int (degF rs c (j:Int):Int)) (([0,2]:LI).map V.int))=true then _ else _
     rw [Oz];by_cases y3:(degF rs c (j:Int):Int)∈([0,2]:LI)
     ·rw [decide_eq_true y3];have y3:(degF rs c (j:Int):Int)=0\/(degF rs c (j:Int):Int)=2:=by simpa using y3
      exact Jw ⟨_,_,_,rfl,S2K,go (by lia) (λu=>absurd u (λv=>v.elim z1 z2)) (λ_ _ u=>by lia)⟩
     ·rw [decide_eq_false y3];refine G5 (no _ SK λ⟨lab',_,hb⟩=>?_);have y3:¬ ((degF rs c (j:Int):Int)=0\/(degF rs c (j:Int):Int)=2):=λu=>y3 (by simpa using u);exact hb.no (j:Int) (by lia) (by lia) z1 z2 ⟨y2,by lia⟩
   ·rw [decide_eq_false y2];refine Jw (Jw ⟨_,_,_,rfl,S25,go ?_ ?_ ?_⟩)
    ·rcases dle with z | z <;> lia
    ·intro z;rcases dle with ⟨m1,_⟩ | ⟨_,z1,z2⟩
     ·exact ⟨by lia,λu=>y2 u.1⟩
     ·exact absurd z (λu=>u.elim z1 z2)
    ·exact λ_ _ u=>y2 u.1
  ·rintro σ H3 ⟨v7,v8,v9,rfl,s3,hall'⟩;have S3:=S2.trans s3;have e3:=s3 _ _ e2;have two:∀x,degF rs c x<=2:=λx=>by
    by_cases hx:0<=x/\x<(k:Int)
    ·exact (hall' x hx.1 hx.2).1
    ·rw [Zbe g.2.2.2.1 hcr hx];decide
   have conds:HopB rs k s t (n:Int) (degF rs c) lab↔(degF rs c s≠0->lab s=lab t->∀x,0<=x->x<(k:Int)->degF rs c x=0\/lab x=lab s):=by
    refine ⟨λh=>h.dn,λh=>⟨two,λe he=>?_,λx x0 x1 xs xt=>(hall' x x0 x1).2.2 xs xt,h⟩⟩;rcases he with rfl | rfl
    ·exact (hall' e hs.1 hs.2).2.1 (.inl rfl)
    ·exact (hall' e ht.1 ht.2).2.1 (.inr rfl)
   have hop:Hop rs k s t (n:Int) c↔(degF rs c s≠0->lab s=lab t->∀x,0<=x->x<(k:Int)->degF rs c x=0\/lab x=lab s):=by
    rw [<-conds];constructor
    ·rintro ⟨lab',h1,h2⟩;rw [uni h1] at h2;exact h2
    ·intro h;exact ⟨lab,hl,h⟩
   have rdr:∀q∈c,0<=(rdAt rs q).1/\(rdAt rs q).1<(rdAt rs q).2/\(rdAt rs q).2<(k:Int):=λq hq=>by
    have:=hcr q hq;exact g.2.2.2.1 _ (Op (rs:=rs) (show q.toNat<rs.length by lia))
   refine ⟨_,rfl,_,rfl,p,_,_,_,rfl,rfl,SqL.of e3,G3 hs.1 hs.2,_,rfl,_,rfl,p,_,_,_,rfl,rfl,SqL.of e3,G3 ht.1 ht.2,rfl,_,rfl,?_⟩;rw [G0];by_cases y1:f0 s=f0 t
   ·have y1':lab s=lab t:=(kr s t hs.1 hs.2 ht.1 ht.2).mp y1;rw [decide_eq_true y1];refine G5 ?_;refine ⟨_,rfl,cl,rfl,⟨_,SqL.of (S3 _ _ hc)⟩,λD hD=>?_⟩;refine GM (K:=K) (a:=cl) (xs:=c.map V.int) (λi ys H4=>Same H3 H4/\H4 D=some (.lst ys)/\ys=((c.take i).map λq=>decide (f0 (rdAt rs q).1=f0 s)).map V.bl) ⟨Same.new hD,Gb,rfl⟩ (λi ys H4 _ ⟨s4,_⟩=>SqL.of ((S3.trans s4) _ _ hc)) ?_ ?_
    ·rintro i x ys H4 hxi ⟨s4,hD4,rfl⟩;rw [List.getElem?_map] at hxi;obtain ⟨d,y,rfl⟩:=Option.map_eq_some_iff.mp hxi;have hdm:=List.mem_of_getElem? y;have W4:=W.same (S3.trans s4);obtain ⟨tt,atd,ett⟩:=ZcJ W4 (hcr d hdm).1 (hcr d hdm).2;have gd:=rdr d hdm;refine ⟨⟨rfl,rfl,rfl,trivial⟩,?_⟩;unfold Yi;refine G5 ?_;refine ⟨_,rfl,_,rfl,wb,_,_,_,rfl,rfl,SqT.of W4.w,Go (j:=1) rfl,_,rfl,l,_,_,_,rfl,rfl,SqL.of W4.l,atd,tt,_,_,_,rfl,rfl,SqT.of ett,Go (j:=0) rfl,p,_,_,_,rfl,rfl,SqL.of (s4 _ _ e3),G3 gd.1 (by lia),_,rfl,_,rfl,p,_,_,_,rfl,rfl,SqL.of (s4 _ _ e3),G3 hs.1 hs.2,rfl,?_⟩;rw [G0];exact ⟨hD4,by rw [List.length_map,List.length_map,List.length_take];lia,s4.put hD,Gb,by rw [List.take_add_one,y,List.map_append,List.map_append];rfl⟩
    ·rintro ys H4 ⟨s4,hD4,rfl⟩;rw [List.length_map,List.take_length] at hD4;refine ⟨D,_,rfl,SqL.of hD4,q _ _ (S3.trans s4) ?_⟩;rw [hop,List.all_eq_true];constructor
     ·intro h _ _ x x0 x1;rcases Nat.eq_zero_or_pos (degF rs c x) with z | z
      ·exact .inl z
      ·obtain ⟨d,hd,hx⟩:=Yb z;have hd':=of_decide_eq_true (show decide _=true from h _ (List.mem_map.mpr ⟨d,hd,rfl⟩));have gd:=rdr d hd;have h1:=(kr _ _ gd.1 (by lia) hs.1 hs.2).mp hd';have h2:=ZcK c lab hl d hd;rcases hx with hx | hx
       ·exact .inr (by rw [<-hx];exact h1)
       ·exact .inr (by rw [<-hx,<-h2];exact h1)
     ·intro h b hb;obtain ⟨d,hd,rfl⟩:=List.mem_map.mp hb;have gd:=rdr d hd;have ds:degF rs c s≠0:=λz=>by
       have mt:=Ws rs c lab (λq hq=>by have:=rdr q hq;lia) hl two;obtain ⟨mate,M⟩:=mt;exact hst (M.z s t z y1').symm
      refine decide_eq_true ((kr _ _ gd.1 (by lia) hs.1 hs.2).mpr ?_);rcases h ds y1' (rdAt rs d).1 gd.1 (by lia) with z | z
      ·have:=J6 (rs:=rs) hd (.inl rfl)
       lia
      ·exact z
   ·rw [decide_eq_false y1];exact Jw (q true _ S3 ⟨λ_=>hop.mpr λ_ u=>absurd ((kr s t hs.1 hs.2 ht.1 ht.2).mpr u) y1,λ_=>rfl⟩)
end
end M
namespace M
open PySem L2
section
variable {K:FF}
def tiD (p:LI×Int):PyData:=.tuple [.tuple (p.1.map PyData.int),.int p.2]
theorem Zdl:∀ls:KI,PyData.canLayAll0 (ls.map tiD)=true
 | []=>by simp [PyData.canLayAll0]
 | l::ls=>by
  have ih:=Zdl ls;rw [List.map_cons];simp [tiD,PyData.canLayAll0,PyData.canLay0,UI l.1,ih]
theorem Y3:∀ls:KI,PyData.depthAll (ls.map tiD)<=3
 | []=>by simp [PyData.depthAll]
 | l::ls=>by
  have ih:=Y3 ls;have:=Ou l.1;rw [List.map_cons];simp only [tiD,PyData.depthAll,PyData.depth]
  lia
theorem JW (ls:KI):SeqAt.shaped (.list (ls.map tiD))=true:=by
 unfold SeqAt.shaped;rw [Bool.and_eq_true];refine ⟨by simp only [PyData.canLay0];exact Zdl ls,decide_eq_true ?_⟩;have:=Y3 ls;simp only [PyData.depth]
 lia
theorem Zdm:∀ls:KI,PyData.eqvAll (ls.map tiD) (ls.map tiD)=true
 | []=>by simp [PyData.eqvAll]
 | l::ls=>by
  have ih:=Zdm ls;have h:=OV l.1 l.1;rw [decide_eq_true rfl] at h;simp only [PyData.eqv] at h;rw [List.map_cons];simp only [PyData.eqvAll,tiD,PyData.eqv,h,ih,Bool.and_self,decide_true,beq_self_eq_true]
theorem Zbs (ls:KI):PyData.eqv (.list (ls.map tiD)) (.list (ls.map tiD))=true:=by
 simp only [PyData.eqv];exact Zdm ls
theorem WG {H:Hp}:∀{zs:List TI2},(∀z∈zs,H z.1=some (.tup [.ref z.2.1,.int z.2.2.2])/\H z.2.1=some (.tup (z.2.2.1.map V.int)))->DatVs K H (zs.map λz=>V.ref z.1) ((zs.map (·.2.2)).map tiD)
 | [],_=>.nil
 | z::zs,h=>.cons (.tup (SqT.of (h z (by simp)).1) (.cons (.tup (SqT.of (h z (by simp)).2) (G9 z.2.2.1)) (.cons (.int _) .nil))) (WG (zs:=zs) λy hy=>h y (by simp [hy]))
end
theorem Zdn {rs:List (Int×Int)}{k:Nat}{s t:Int}:∀n,(Jb rs k s t).isSome=true->((OM n).filterMap λc=>G4 rs k s t c n).Perm (RJ rs k s t n)
 | 0,h=>by
  obtain ⟨m,e⟩:=Option.isSome_iff_exists.mp h;show (([[]]:List (LI)).filterMap λc=>Jb rs k s t).Perm (Jb rs k s t).toList;rw [e];exact .refl _
 | n+1,h=>by
  have ih:=Zdn n h;have nx:∀c∈OM n,_:=λc hc=>YX (rs:=rs) (k:=k) (s:=s) (t:=t) (c:=c) (j:=n) λq hq=>((OK hc).1.2 q hq).2;show ((OM n++(OM n).map (·++[(n:Int)])).filterMap λc=>G4 rs k s t c (n+1)).Perm ((RJ rs k s t n).flatMap (fS rs s t n));rw [List.filterMap_append,List.filterMap_map];have e1:(OM n).filterMap (λc=>G4 rs k s t c (n+1))=((OM n).filterMap λc=>G4 rs k s t c n).flatMap λm=>(VJ rs s t m n false).toList:=by
   rw [<-Zbj,List.filterMap_filterMap];exact WA λc hc=>(nx c hc).1
  have e2:(OM n).filterMap ((λc=>G4 rs k s t c (n+1))∘λc=>c++[(n:Int)])=((OM n).filterMap λc=>G4 rs k s t c n).flatMap λm=>(VJ rs s t m n true).toList:=by
   rw [<-Zbj,List.filterMap_filterMap];exact WA λc hc=>(nx c hc).2
  rw [e1,e2];exact (YW _ _ _).trans (ih.flatMap_right _)
theorem Y4 {rs:List (Int×Int)}{k:Nat}{s t:Int}{c:LI}(h:¬ (Jb rs k s t).isSome=true):∀n,G4 rs k s t c n=none
 | 0=>by
  show Jb rs k s t=none;cases e:Jb rs k s t with
  | none=>rfl
  | some m=>exact absurd (by rw [e];rfl) h
 | n+1=>by
  show (G4 rs k s t c n).bind _=none;rw [Y4 h n]
  rfl
theorem Zbt {rs:List (Int×Int)}{k:Nat}{s t:Int}(h:¬ (Jb rs k s t).isSome=true):∀n,RJ rs k s t n=[]
 | 0=>by
  show (Jb rs k s t).toList=[];cases e:Jb rs k s t with
  | none=>rfl
  | some m=>exact absurd (by rw [e];rfl) h
 | n+1=>by
  show (RJ rs k s t n).flatMap _=[];rw [Zbt h n]
  rfl
theorem Vr {rs:List (Int×Int)}{k:Nat}{s t:Int}(n:Nat):((OM n).filterMap λc=>G4 rs k s t c n).Perm (RJ rs k s t n):=by
 by_cases h:(Jb rs k s t).isSome=true
 ·exact Zdn n h
 ·rw [Zbt h n,List.filterMap_eq_nil_iff.mpr λc _=>Y4 h n]
theorem UU:∀{n:Nat}{c:LI},Valid c n->c∈OM n
 | 0,c,h=>by
  cases c with
  | nil=>exact List.mem_singleton.mpr rfl
  | cons q c=>have:=h.2 q (List.mem_cons_self ..);lia
 | n+1,c,h=>by
  refine List.mem_append.mpr ?_;by_cases hc:(n:Int)∈c
  ·right;have e:c=c.filter (λq=>decide (q<(n:Int)))++[(n:Int)]:=by
    have e1:=Ud h.1 n;rw [if_pos hc,Wv (λq hq=>(h.2 q hq).2)] at e1;exact e1
   refine List.mem_map.mpr ⟨c.filter λq=>decide (q<(n:Int)),UU ⟨h.1.filter _,λq hq=>?_⟩,e.symm⟩;obtain ⟨h1,h2⟩:=List.mem_filter.mp hq;exact ⟨(h.2 q h1).1,of_decide_eq_true h2⟩
  ·left;refine UU ⟨h.1,λq hq=>?_⟩;have:=h.2 q hq;exact ⟨this.1,by
    have:q≠(n:Int):=λz=>hc (z▸hq)
    lia⟩
theorem Zbu:∀n,(OM n).Nodup
 | 0=>List.nodup_cons.mpr ⟨by simp,.nil⟩
 | n+1=>by
  show (OM n++(OM n).map (·++[(n:Int)])).Nodup;have ih:=Zbu n;refine List.nodup_append.mpr ⟨ih,?_,λa ha b hb e=>?_⟩
  ·unfold List.Nodup at *;rw [List.pairwise_map];exact ih.imp λh z=>h (List.append_cancel_right z)
  ·obtain ⟨c,hc,rfl⟩:=List.mem_map.mp hb;have:=(OK ha).1.2 (n:Int) (by rw [e];exact List.mem_append_right _ (List.mem_singleton.mpr rfl))
   lia
theorem Y5:∀(p a b:LI),Jq (p++a) (p++b)=Jq a b
 | [],_,_=>rfl
 | x::p,a,b=>by
  show (if x=x then Jq (p++a) (p++b) else _)=_;rw [if_pos rfl];exact Y5 p a b
def Uy (W:List (LI))(n:Nat)(c:LI):List (LI):=(W.filter λy=>decide (y.filter (λq=>decide (q<(n:Int)))=c)).map (·.drop c.length)
theorem Zbv {c:LI}(h:c.Pairwise (· < ·))(n:Nat):c=c.filter (λq=>decide (q<(n:Int)))++c.filter (λq=>!decide (q<(n:Int))):=by
 induction c with
 | nil=>rfl
 | cons q c ih=>
  obtain ⟨h1,h2⟩:=List.pairwise_cons.mp h;have ih:=ih h2;rw [List.filter_cons,List.filter_cons];by_cases z:q<(n:Int)
  ·rw [if_pos (decide_eq_true z),if_neg (by rw [decide_eq_true z];decide),List.cons_append,<-ih]
  ·rw [if_neg (by rw [decide_eq_false z];decide),if_pos (by rw [decide_eq_false z];rfl)];have e:c.filter (λq=>decide (q<(n:Int)))=[]:=List.filter_eq_nil_iff.mpr λy hy=>by
    have:=h1 y hy;rw [decide_eq_false (by lia)];decide
   rw [e] at ih ⊢;rw [List.nil_append] at ih ⊢;rw [<-ih]
theorem Y6 {rs:List (Int×Int)}{k n:Nat}{s t:Int}{W:List (LI)}(ok:VO rs k s t W){c:LI}(V:Valid c n)(o:LI):o∈Uy W n c↔c++o∈W/\∀q∈o,(n:Int)<=q:=by
 have cut:∀o:LI,(∀q∈o,(n:Int)<=q)->(c++o).filter (λq=>decide (q<(n:Int)))=c:=λo ho=>by
  rw [List.filter_append,List.filter_eq_self.mpr λq hq=>decide_eq_true (V.2 q hq).2,List.filter_eq_nil_iff.mpr λq hq=>by have:=ho q hq;rw [decide_eq_false (by lia)];decide,List.append_nil]
 unfold Uy;rw [List.mem_map];constructor
 ·rintro ⟨y,hy,rfl⟩;obtain ⟨h1,h2⟩:=List.mem_filter.mp hy;have h2:=of_decide_eq_true h2;have e:=Zbv (ok.va y h1).1 n;rw [h2] at e;have ed:y.drop c.length=y.filter (λq=>!decide (q<(n:Int))):=by rw [e,List.drop_left,<-e]
  rw [ed,<-e];refine ⟨h1,λq hq=>?_⟩;have:=(List.mem_filter.mp hq).2;simp at this;exact this
 ·rintro ⟨h1,h2⟩;exact ⟨c++o,List.mem_filter.mpr ⟨h1,decide_eq_true (cut o h2)⟩,List.drop_left⟩
theorem UV {rs:List (Int×Int)}{k n:Nat}{s t:Int}{W:List (LI)}(ok:VO rs k s t W){c:LI}:Srt (Uy W n c)/\(Uy W n c).Nodup:=by
 have pre:∀y∈W.filter (λy=>decide (y.filter (λq=>decide (q<(n:Int)))=c)),y=c++y.drop c.length:=λy hy=>by
  obtain ⟨h1,h2⟩:=List.mem_filter.mp hy;have h2:=of_decide_eq_true h2;have e:=Zbv (ok.va y h1).1 n;rw [h2] at e;rw [e,List.drop_left]
 unfold Uy;constructor
 ·unfold Srt;rw [List.pairwise_map];refine (List.Pairwise.filter _ ok.so).imp_of_mem λ{a b} ha hb h=>?_;rw [pre a ha,pre b hb,Y5] at h;exact h
 ·unfold List.Nodup;rw [List.pairwise_map];refine (List.Pairwise.filter _ ok.nd).imp_of_mem λ{a b} ha hb h z=>h ?_;rw [pre a ha,pre b hb,z]
theorem ZcL {rs:List (Int×Int)}{k n:Nat}{s t:Int}{W:List (LI)}(hst:s≠t)(hs:0<=s/\s<(k:Int))(ht:0<=t/\t<(k:Int))(hr:∀r∈rs,0<=r.1/\r.1<r.2/\r.2<(k:Int))(hn:n<=rs.length)(ok:VO rs k s t W){c c':LI}(V:Valid c n)(V':Valid c' n)(e:G4 rs k s t c n=G4 rs k s t c' n):Uy W n c=Uy W n c':=by
 have half:∀{c c':LI},Valid c n->Valid c' n->G4 rs k s t c n=G4 rs k s t c' n->∀o,(c++o∈W/\∀q∈o,(n:Int)<=q)->c'++o∈W:=λ{c c'} V V' e o ⟨h1,h2⟩=>by
  obtain ⟨p1,p2⟩:=ok.va _ h1;obtain ⟨q1,q2,q3⟩:=List.pairwise_append.mp p1;have p1':(c'++o).Pairwise (· < ·):=List.pairwise_append.mpr ⟨V'.1,q2,λa ha b hb=>by have:=(V'.2 a ha).2;have:=h2 b hb;lia⟩;have p2':∀q∈c'++o,0<=q/\q<(rs.length:Int):=λq hq=>by
   rcases List.mem_append.mp hq with hq | hq
   ·have:=V'.2 q hq;lia
   ·exact p2 q (List.mem_append_right _ hq)
  have w:=(Wy hst hs ht hr p1 p2).mp ((ok.iff _ p1 p2).mp h1);rw [Zd6 hn V.2 V'.2 h2 e] at w;exact (ok.iff _ p1' p2').mpr ((Wy hst hs ht hr p1' p2').mpr w)
 refine Zdh (UV ok).1 (UV ok).1 ((List.perm_ext_iff_of_nodup (UV ok).2 (UV ok).2).mpr λo=>?_);rw [Y6 ok V,Y6 ok V'];exact ⟨λh=>⟨half V V' e o h,h.2⟩,λh=>⟨half V' V e.symm o h,h.2⟩⟩
theorem Zbw {rs:List (Int×Int)}{k:Nat}{s t:Int}{W:List (LI)}(hst:s≠t)(hs:0<=s/\s<(k:Int))(ht:0<=t/\t<(k:Int))(g:GS (k:Int) rs)(ok:VO rs k s t W):(RJ rs k s t rs.length).map (wlM rs rs.length k)=List.replicate W.length [0]:=by
 have hr:=g.2.2.2.1;refine List.eq_replicate_iff.mpr ⟨?_,λb hb=>?_⟩
 ·rw [List.length_map,<-(Vr (rs:=rs) (k:=k) (s:=s) (t:=t) rs.length).length_eq];have e:∀l:List (LI),(l.filterMap λc=>G4 rs k s t c rs.length).length=(l.filter λc=>Zd5 rs k s t c).length:=by
   intro l
   induction l with
   | nil=>rfl
   | cons c l ih=>
    rw [List.filterMap_cons,List.filter_cons];unfold Zd5;cases h:G4 rs k s t c rs.length with
    | none=>exact ih
    | some m=>show _+1=_+1;rw [ih];rfl
  rw [e];refine List.Perm.length_eq ((List.perm_ext_iff_of_nodup ((Zbu _).filter _) ok.nd).mpr λc=>?_);rw [List.mem_filter];constructor
  ·rintro ⟨h1,h2⟩;have V:=(OK h1).1;exact (ok.iff c V.1 V.2).mpr ((Wy hst hs ht hr V.1 V.2).mpr h2)
  ·intro h;obtain ⟨p1,p2⟩:=ok.va c h;exact ⟨UU ⟨p1,p2⟩,(Wy hst hs ht hr p1 p2).mp ((ok.iff c p1 p2).mp h)⟩
 ·obtain ⟨m,hm,rfl⟩:=List.mem_map.mp hb;obtain ⟨c,V,_,lab,hl,hb,mate,_,mk⟩:=Zbm hst hs ht g (Nat.le_refl _) hm;obtain ⟨lab',hl',W'⟩:=(Zbh hst hs ht hr V.2).mpr ⟨lab,hl,hb⟩;have el:lab'=lab:=by rw [hl] at hl';cases hl';rfl
  subst el;have ds:=(W' s hs.1 hs.2).1 (.inl rfl);have dt:=(W' t ht.1 ht.2).1 (.inr rfl);have lt:=(W' t ht.1 ht.2).2.2 (by lia);have f:frL rs rs.length k=[]:=by
   unfold frL;refine List.filter_eq_nil_iff.mpr λp _ hp=>?_;have:=(of_decide_eq_true hp).2;have:=(Ua rs p rs.length).2;unfold Gq at *
   lia
  have hd:=mk.dn;rw [if_pos ⟨by lia,lt.symm⟩] at hd;unfold wlM;rw [f,mk.len,Nat.add_sub_cancel,if_pos hd]
  rfl
theorem Zec {M:Nat}{ps:KI}(h:Rep ps (List.replicate M [0])):ps=if M=0 then [] else [([0],(M:Int))]:=by
 by_cases z:M=0
 ·subst z;have:=h.len;exact List.eq_nil_of_length_eq_zero (by simpa using this)
 ·rw [if_neg z];have c:Rep [([0],(M:Int))] (List.replicate M [0]):=⟨by simp,λp hp=>by rw [List.mem_singleton.mp hp];show (0:Int)<(M:Int);lia,by
   rw [JU];show (List.replicate (M:Int).toNat ([0]:LI)++[]).Perm _;simp⟩
  exact List.perm_singleton.mp (h.same c)
end M
namespace M
open PySem L2
theorem Zbx {xs:List V}{m:Nat}(h:m<=xs.length):UC xs (some (m:Int)) none=xs.drop m:=by
 unfold UC;rw [HT.sIx_none,HT.sIx_nat,Nat.min_eq_left h,List.take_of_length_le (by rw [List.length_drop];exact Nat.le_refl _)]
section
variable {P:PP}{w:Ab}{K:FF}{mg:Str->Option Aa}{base:Heap}
def Zfx (a b:AD)(H H':Hp):Prop:=∀x u,x≠a->x≠b->H x=some u->H' x=some u
def LtOk (H:Hp)(rs:List (Int×Int))(k n:Nat)(s t:Int)(W:List (LI))(kv:List Key×V):Prop:=∃(a:AD)(zs:List (AD×LI))(c m:LI),kv=((wlM rs n k m).map Sum.inl,.ref a)/\Valid c n/\G4 rs k s t c n=some m/\H a=some (.lst (zs.map λz=>V.ref z.1))/\Lz H zs/\zs.map (·.2)=Uy W n c
theorem LtOk.same {H H':Hp}{rs:List (Int×Int)}{k n:Nat}{s t:Int}{W:List (LI)}{kv:List Key×V}(h:LtOk H rs k n s t W kv)(q:∀b ys,H b=some (.lst ys)->H' b=some (.lst ys)):LtOk H' rs k n s t W kv:=by
 obtain ⟨a,zs,c,m,e,V,r,h1,h2,h3⟩:=h;exact ⟨a,zs,c,m,e,V,r,q _ _ h1,λz hz=>q _ _ (h2 z hz),h3⟩
theorem ZcM {kvs:List (List Key×V)}{k:List Key}{v:V}(h:Od kvs k=some v):(k,v)∈kvs:=by
 unfold Od at h;obtain ⟨p,hp,rfl⟩:=Option.map_eq_some_iff.mp h;have e:=List.find?_some hp;have:p.1=k:=of_decide_eq_true e;rw [<-this];exact List.mem_of_find?_eq_some hp
theorem Zed {kvs:List (List Key×V)}{k:List Key}{v:V}{p:List Key×V}(h:p∈putK kvs k v):p∈kvs\/p=(k,v):=by
 unfold putK at h;split at h
 ·obtain ⟨q,hq,rfl⟩:=List.mem_map.mp h;split
  ·rename_i e;right;rw [e]
  ·exact .inl hq
 ·rcases List.mem_append.mp h with h | h
  ·exact .inl h
  ·exact .inr (List.mem_singleton.mp h)
theorem Zee (kvs:List (List Key×V))(k:List Key)(v:V):(putK kvs k v).length<=kvs.length+1:=by
 unfold putK;split
 ·rw [List.length_map];lia
 ·rw [List.length_append];exact Nat.le_refl _
def ZcN (K:FF):Sp:=λvs H Q _=>∃(a:AD)(ns:LI),vs=[.ref a]/\SqL K H a (ns.map V.int)/\ns.length<=63/\∀H',Q (.bl true) H'
theorem scLaw:Gk ["script", "web", "one", "other", "many", "ways", "counted", "later", "roads", "good", "found", "rest", "last"] ["script"] (Gf ZG):=⟨rfl,rfl,rfl,by decide +kernel,rfl,by decide +kernel,by decide +kernel⟩
theorem Zfy {f fCa fWe fTw fSs fAl fLh fHo fWo fWs C1 C2 C3:AD}{fd fdCa fdWe fdTw fdSs fdAl fdLh fdHo fdWo fdWs:FuncData}(F:Fun K "law" "law" ZG f fd)(FCa:Fun K "_law_cell_at" "_law_cell_at" Zeh fCa fdCa)(bCa:Binds K fdCa ["script", "k"] [])(mCa:mg "_law_cell_at" = some (.ref fCa))(GCa:GG P w K mg base CX0 1 fCa fdCa ["script", "k"] (Zct K))(FWe:Fun K "_law_web" "_law_web" ZfK fWe fdWe)(bWe:Binds K fdWe ["script", "most_places", "most_roads"] [])(mWe:mg "_law_web" = some (.ref fWe))(GWe:GG P w K mg base CX0 3 fWe fdWe ["script", "most_places", "most_roads"] (Zfu K))(FTw:Fun K "_law_two" "_law_two" ZfL fTw fdTw)(bTw:Binds K fdTw ["script", "many"] [])(mTw:mg "_law_two" = some (.ref fTw))(GTw:GG P w K mg base CX0 2 fTw fdTw ["script", "many"] (Zfs K))(FSs:Fun K "_law_sets" "_law_sets" Za4 fSs fdSs)(bSs:Binds K fdSs ["web", "one", "other"] [])(mSs:mg "_law_sets" = some (.ref fSs))(GSs:GG P w K mg base CX0 1 fSs fdSs ["web", "one", "other"] Zdk)(FAl:Fun K "_law_all" "_law_all" ZfM fAl fdAl)(bAl:Binds K fdAl ["low", "high"] [])(mAl:mg "_law_all" = some (.ref fAl))(GAl:GG P w K mg base CX0 1 fAl fdAl ["low", "high"] Zhh)(FLh:Fun K "_law_hopeful" "_law_hopeful" sLh fLh fdLh)(bLh:Binds K fdLh ["web", "one", "other", "many", "roads"] [])(mLh:mg "_law_hopeful" = some (.ref fLh))(GLh:GG P w K mg base CX0 2 fLh fdLh ["web", "one", "other", "many", "roads"] Zhk)(FHo:Fun K "hopeful" "hopeful" sHo fHo fdHo)(bHo:Binds K fdHo ["web", "one", "other", "i", "roads"] [])(mHo:mg "hopeful" = some (.ref fHo))(GHo:GG P w K mg base (CXr P w) 6 fHo fdHo ["web", "one", "other", "i", "roads"] (Zhc K C1 C2))(FWo:Fun K "wall_of" "wall_of" sWo fWo fdWo)(bWo:Binds K fdWo ["web", "one", "other", "i", "roads"] [])(mWo:mg "wall_of" = some (.ref fWo))(GWo:GG P w K mg base (CXr P w) 6 fWo fdWo ["web", "one", "other", "i", "roads"] (Zhd K C1 C2 C3))(FWs:Fun K "walls" "walls" sWs fWs fdWs)(bWs:Binds K fdWs ["web", "one", "other", "i"] [])(mWs:mg "walls" = some (.ref fWs))(GWs:GG P w K mg base (CXr P w) 6 fWs fdWs ["web", "one", "other", "i"] (Zhg C1 C2))(mLst:mg "list" = none)(mLen:mg "len" = none)(mSor:mg "sorted" = none):GG P w K mg base CX0 7 f fd ["script"] (ZcN K):=by
 refine F.ok scLaw (λvs H Q E h=>?_) (λcdv A outer s0 H vs Q E hr h=>?_)
 ·obtain ⟨a,ns,rfl,_⟩:=h
  rfl
 obtain ⟨a,ns,rfl,hS,qV,q⟩:=h;have h16:(16777216:Nat)=sizeLine:=sizeLine_eq.symm;have hu:(A.deeper (PyProof.Rows.envOfC "law" (Gf ZG) s0.heap.objs.size f cdv)).units+64<cLine:=by have:=hr.un;lia
 have hu1:(A.deeper (PyProof.Rows.envOfC "law" (Gf ZG) s0.heap.objs.size f cdv)).units+1<cLine:=by have:=hr.un;lia
 have hu71:(A.deeper (PyProof.Rows.envOfC "law" (Gf ZG) s0.heap.objs.size f cdv)).units+71<cLine:=by have:=hr.un;lia
 refine ⟨_,(@Gc _ _ _ _ _ (@Gp _ _ 1 _ _ _ _ scLaw.nd rfl (Or.inl rfl) (@Gh _ _ _ _ _ _ _ _ _ _ _ _ _ _ _ _ GWe (hr.mono (by decide)) rfl mWe FWe.kp bWe .nil GN (@Ga _ _ _ _ _ (pv 0) (@Ga _ _ _ _ _ Gg (@Ga _ _ _ _ _ Gg Gd rfl) rfl) rfl) (by decide) rfl rfl) rfl (by first | exact .inl rfl | exact .inr rfl))
    (@Gc _ _ _ _ _ (@J7 _ _ _ _ _ _ (@Gh _ _ _ _ _ _ _ _ _ _ _ _ _ _ _ _ GTw (hr.mono (by decide)) rfl mTw FTw.kp bTw .nil GN (@Ga _ _ _ _ _ (pv 0) (@Ga _ _ _ _ _ (@Gx _ _ _ _ _ _ _ (J9 K) (pv 1) Gg (λ_ _=>rfl)) Gd rfl) rfl) (by decide) rfl rfl) (Z7 K (n:=2) rfl (Gv (Gi (i:=2) scLaw.nd rfl (Or.inl rfl)) (Gv (Gi (i:=3) scLaw.nd rfl (Or.inl rfl)) Jy))) rfl rfl rfl)
    (@Gc _ _ _ _ _ (@Gp _ _ 4 _ _ _ _ scLaw.nd rfl (Or.inr rfl) (@GD _ _ _ _ _ _ _ _ OP (@GD _ _ _ _ _ _ _ _ UH (@Gh _ _ _ _ _ _ _ _ _ _ _ _ _ _ _ _ GCa (hr.mono (by decide)) rfl mCa FCa.kp bCa .nil GN (@Ga _ _ _ _ _ (pv 0) (@Ga _ _ _ _ _ Gg Gd rfl) rfl) (by decide) rfl rfl) Gg) (@GD _ _ _ _ _ _ _ _ Jk (Gw (ZbA K) rfl mLen PySem.boot_len (@Ga _ _ _ _ _ (@Gx _ _ _ _ _ _ _ (J9 K) (pv 1) Gg (λ_ _=>rfl)) Gd rfl)) Gg)) rfl (by first | exact .inl rfl | exact .inr rfl))
    (@Gc _ _ _ _ _ (@Gp _ _ 5 _ _ _ _ scLaw.nd rfl (Or.inl rfl) (@Gh _ _ _ _ _ _ _ _ _ _ _ _ _ _ _ _ GSs (hr.mono (by decide)) rfl mSs FSs.kp bSs .nil GN (@Ga _ _ _ _ _ (pv 1) (@Ga _ _ _ _ _ (pv 2) (@Ga _ _ _ _ _ (pv 3) Gd rfl) rfl) rfl) (by decide) rfl rfl) rfl (by first | exact .inl rfl | exact .inr rfl))
    (@Gc _ _ _ _ _ (@Gp _ _ 6 _ _ _ _ scLaw.nd rfl (Or.inl rfl) UK rfl (by first | exact .inl rfl | exact .inr rfl))
    (@Gc _ _ _ _ _ (@Gp _ _ 7 _ _ _ _ scLaw.nd rfl (Or.inl rfl) UK rfl (by first | exact .inl rfl | exact .inr rfl))
    (@Gc _ _ _ _ _ (@Jj _ _ _ _ _ _ _ _ PassesOwn.never rfl (JL K (@Gh _ _ _ _ _ _ _ _ _ _ _ _ _ _ _ _ GAl (hr.mono (by decide)) rfl mAl FAl.kp bAl .nil GN (@Ga _ _ _ _ _ Gg (@Ga _ _ _ _ _ (pv 4) Gd rfl) rfl) (by decide) rfl rfl)) (Gi (i:=8) scLaw.nd rfl (Or.inr rfl))
    (@Gc _ _ _ _ _ (@Gp _ _ 9 _ _ _ _ scLaw.nd rfl (Or.inl rfl) (@Gh _ _ _ _ _ _ _ _ _ _ _ _ _ _ _ _ GLh (hr.mono (by decide)) rfl mLh FLh.kp bLh .nil GN (@Ga _ _ _ _ _ (pv 1) (@Ga _ _ _ _ _ (pv 2) (@Ga _ _ _ _ _ (pv 3) (@Ga _ _ _ _ _ (pv 4) (@Ga _ _ _ _ _ (pv 8) Gd rfl) rfl) rfl) rfl) rfl) (by decide) rfl rfl) rfl (by first | exact .inl rfl | exact .inr rfl))
    (@Gc _ _ _ _ _ (@Jd _ _ _ _ _ _ _ _ (Gr ZfW (@Gh _ _ _ _ _ _ _ _ _ _ _ _ _ _ _ _ GHo (hr.mono (by decide)) rfl mHo FHo.kp bHo .nil Zd (@Ga _ _ _ _ _ (pv 1) (@Ga _ _ _ _ _ (pv 2) (@Ga _ _ _ _ _ (pv 3) (@Ga _ _ _ _ _ (pv 4) (@Ga _ _ _ _ _ (GR (VT K) rfl mLst Oc (@Ga _ _ _ _ _ (pv 8) Gd rfl)) Gd rfl) rfl) rfl) rfl) rfl) (by decide) rfl rfl) (pv 9) (Gz _)) (@Ge _ _ _ (@Gn _ _ _ _ WI)) GA)
    (@Ge _ _ _ (@Jd _ _ _ _ _ _ _ _ (Ju (pv 9) (λ_=>rfl)) (@Gc _ _ _ _ _ (@Gp _ _ 10 _ _ _ _ scLaw.nd rfl (Or.inl rfl) (@Gh _ _ _ _ _ _ _ _ _ _ _ _ _ _ _ _ GWo (hr.mono (by decide)) rfl mWo FWo.kp bWo .nil Zd (@Ga _ _ _ _ _ (pv 1) (@Ga _ _ _ _ _ (pv 2) (@Ga _ _ _ _ _ (pv 3) (@Ga _ _ _ _ _ (pv 4) (@Ga _ _ _ _ _ (GR (VT K) rfl mLst Oc (@Ga _ _ _ _ _ (pv 8) Gd rfl)) Gd rfl) rfl) rfl) rfl) rfl) (by decide) rfl rfl) rfl (by first | exact .inl rfl | exact .inr rfl))
    (@Gc _ _ _ _ _ (Ul (i:=11) scLaw.nd rfl (Or.inl rfl) (own:=["way"]) rfl (Gj (fr:=[("many", 4),("roads", 8)]) [(".0", .local),("way", .local),("len", .globalImplicit),("many", .cell),("roads", .cell)] rfl rfl (by decide +kernel) rfl (by decide +kernel) ⟨rfl,rfl,trivial⟩ ⟨λh=>GQ h,λh=>GQ h,λh=>GQ h,λ_=>⟨_,rfl⟩,λ_=>⟨_,rfl⟩,trivial⟩ ⟨⟨rfl,.inl rfl,.inl rfl⟩,⟨rfl,.inl rfl,.inl rfl⟩,trivial⟩) (JL K (pv 5)) (λ_ _ _ _=>Gi (i:=0) (show List.Nodup (["way", "many", "roads"]:List Str) by decide +kernel) rfl (Or.inl rfl)) (λ_ _ _ _=>J2 (Gr (Zf5 K hu) (G7 (own:=["number"]) rfl (Gj (fr:=[("many", 1)]) [(".0", .local),("number", .local),("many", .cell)] rfl rfl (by decide +kernel) rfl (by decide +kernel) ⟨rfl,trivial⟩ ⟨λh=>GQ h,λh=>GQ h,λ_=>⟨_,rfl⟩,trivial⟩ ⟨⟨rfl,.inl rfl,.inl rfl⟩,trivial⟩) (JL K (pv 0)) (λ_ _ _ _=>Gi (i:=0) (show List.Nodup (["number", "many"]:List Str) by decide +kernel) rfl (Or.inl rfl)) (λ_ _ _ _=>J2 (Gr Za (pv 0) (pv 1) (Gz _))) (λ_ _ _ _=>pv 0)) (pv 2) (Gz _))) (λ_ _ _ _=>OQ (kSl K) (pv 0) (U1 (Gw (ZbA K) rfl mLen PySem.boot_len (@Ga _ _ _ _ _ (pv 2) Gd rfl))) U0))
    (@Gc _ _ _ _ _ (@Jd _ _ _ _ _ _ _ _ (PW.pt (UW (ZcO (ZcZ hu1 (pv 10) (pv 7)) rfl) (OI (Gr (ZfD K hu) (VZ hu1 (pv 7) (pv 10) (λ_ _=>rfl)) (pv 11) (Gz _))))) (@Ge _ _ _ (@Gn _ _ _ _ WI)) GA)
    (@Gc _ _ _ _ _ (Um hu1 (pv 7) (pv 10) (pv 11) rfl)
    (@Ge _ _ _ (Um hu1 (pv 6) (pv 10) (@GD _ _ _ _ _ _ _ _ Jk (V1 hu1 (pv 6) (pv 10) Gg ⟨rfl,rfl,rfl,rfl⟩) Gg) rfl)))))) GA)))) (by intro _;rfl))
    (@Gc _ _ _ _ _ (@Jd _ _ _ _ _ _ _ _ (Gr (ZfD K hu) (@Gh _ _ _ _ _ _ _ _ _ _ _ _ _ _ _ _ GWs (hr.mono (by decide)) rfl mWs FWs.kp bWs .nil Zd (@Ga _ _ _ _ _ (pv 1) (@Ga _ _ _ _ _ (pv 2) (@Ga _ _ _ _ _ (pv 3) (@Ga _ _ _ _ _ (pv 4) Gd rfl) rfl) rfl) rfl) (by decide) rfl rfl) (Gw (ZdZ K rfl hu71) rfl mSor PyProof.Rows.boot_sorted (@Ga _ _ _ _ _ (ZcV PySem.F.plainAttrs_dict PySem.F.slot_dict_items PySem.F.type_dict_items Zcq (pv 6)) Gd rfl)) (Gz _)) (@Ge _ _ _ (@Gn _ _ _ _ WI)) GA)
    (@Gc _ _ _ _ _ (@Gp _ _ 12 _ _ _ _ scLaw.nd rfl (Or.inl rfl) (@Gh _ _ _ _ _ _ _ _ _ _ _ _ _ _ _ _ GWs (hr.mono (by decide)) rfl mWs FWs.kp bWs .nil Zd (@Ga _ _ _ _ _ (pv 1) (@Ga _ _ _ _ _ (pv 2) (@Ga _ _ _ _ _ (pv 3) (@Ga _ _ _ _ _ (Gw (ZbA K) rfl mLen PySem.boot_len (@Ga _ _ _ _ _ (@Gx _ _ _ _ _ _ _ (J9 K) (pv 1) Gg (λ_ _=>rfl)) Gd rfl)) Gd rfl) rfl) rfl) rfl) (by decide) rfl rfl) rfl (by first | exact .inl rfl | exact .inr rfl))
    (@Ge _ _ _ (@Gn _ _ _ _ (Jf (Zf5 K hu) (pv 12) (JY (Gr (Zf5 K hu) (pv 5) (@GV _ _ _ _ Gd) (Gz _)) (@GV _ _ _ _ Gd) (@GV _ _ _ _ (@Ga _ _ _ _ _ (@JH _ _ _ _ _ (@Ga _ _ _ _ _ (@JH _ _ _ _ _ (@Ga _ _ _ _ _ Gg Gd rfl)) (@Ga _ _ _ _ _ (Gw (ZbA K) rfl mLen PySem.boot_len (@Ga _ _ _ _ _ (pv 5) Gd rfl)) Gd rfl) rfl)) Gd rfl))) (Gz _))))))))))))),?_⟩
 refine ⟨_,rfl,a,ns,rfl,hS,λwb l k xs rs H1 s1 W g k2 k6 r9=>?_⟩;dsimp only [GL];refine ⟨_,rfl,_,rfl,wb,_,_,_,rfl,rfl,SqT.of W.w,Go (j:=0) rfl,a,ns,k,rfl,X8 hS s1,k2,k6,λp s t H2 s2 ep hst hs ht=>?_⟩;refine ⟨p,_,rfl,SqT.of ep,rfl,_,_,rfl,_,_,rfl,rfl,?_⟩;have S2:=s1.trans s2;have W2:=W.same s2;have hxl:=W.p.len;have hrr:=g.2.2.2.1;dsimp only [GL];refine ⟨_,rfl,a,ns,0,rfl,X8 hS S2,λz=>⟨_,_,rfl,rfl,⟨by decide,Uv⟩,_,rfl,wb,_,_,_,rfl,rfl,SqT.of W2.w,Go (j:=1) rfl,l,_,rfl,.inl (SqL.of W2.l),_,_,rfl,rfl,_,_,rfl,rfl,?pos,?_⟩⟩
 case pos=>show (0:Int)<(xs.length:Int)+1;lia
 obtain ⟨n,hn,hnl⟩:∃n:Nat,z / 5000 % ((xs.length:Int)+1)=(n:Int)/\n<=rs.length:=by
  have f0:0<=z / 5000 % ((xs.length:Int)+1):=Int.emod_nonneg _ (by lia);have f1:z / 5000 % ((xs.length:Int)+1)<(xs.length:Int)+1:=Int.emod_lt_of_pos _ (by lia);exact ⟨(z / 5000 % ((xs.length:Int)+1)).toNat,by lia,by lia⟩
 dsimp only [GL];rw [hn];refine ⟨_,rfl,_,rfl,_,rfl,wb,l,k,xs,rs,s,t,rfl,W2,g,k6,r9,hst,hs,ht,λwr wz H3 s3 ewr lw wlen ok=>?_⟩;dsimp only [GL];refine λcn hcn=>?_;have s4:Same H3 (upd H3 cn (.dT [])):=Same.new hcn;have e4:upd H3 cn (.dT []) cn=some (.dT (([]:KI).map kvI)):=Gb;generalize upd H3 cn (.dT [])=H4 at s4 e4 ⊢;dsimp only [GL];refine λlt hlt=>?_;have s5:Same H4 (upd H4 lt (.dT [])):=Same.new hlt;have e5:upd H4 lt (.dT []) lt=some (.dT []):=Gb;have ncl:cn≠lt:=λz=>by rw [<-z,e4] at hlt;cases hlt
 generalize upd H4 lt (.dT [])=H5 at s5 e5 ⊢;dsimp only [GL];have s35:=s4.trans s5;refine ⟨_,rfl,n,rfl,by lia,λar az H6 s6 ear la haz=>?_⟩;refine ⟨ar,rfl,⟨_,SqL.of ear⟩,?_⟩;have e46:=(s5.trans s6) _ _ e4;have e56:=s6 _ _ e5;have S3:=S2.trans s3;have W6:=W2.same (s3.trans (s35.trans s6));have ewr6:=(s35.trans s6) _ _ ewr;have lw6:Lz H6 wz:=λz hz=>(s35.trans s6) _ _ (lw z hz);have azl:az.length=2 ^ n:=by rw [<-UT n,<-haz,List.length_map]
 have p9:2 ^ n<=512:=Nat.le_trans (Nat.pow_le_pow_right (by decide) (show n<=9 by lia)) (by decide);refine JZ (K:=K) (a:=ar) (xs:=az.map λz=>V.ref z.1) (λi σ H7=>∃(v8 v9 v10 v11:Option V)(acc:KI)(kvs:List (List Key×V)),σ=[some (.ref a),some (.ref wb),some (.int s),some (.int t),some (.int (n:Int)),some (.ref wr),some (.ref cn),some (.ref lt),v8,v9,v10,v11,none]/\Zfx cn lt H6 H7/\H7 cn=some (.dT (acc.map kvI))/\H7 lt=some (.dT kvs)/\kvs.length<=i/\(∀kv∈kvs,LtOk H7 rs k n s t (wz.map (·.2)) kv)/\Rep acc ((((OM n).take i).filterMap λc=>G4 rs k s t c n).map (wlM rs n k)))
  ⟨none,none,none,none,[],[],rfl,λ_ _ _ _ y=>y,e46,e56,Nat.le_refl _,λkv hkv=>by (cases hkv),Rep.nil⟩ (λi σ H7 _ ⟨_,_,_,_,_,_,_,sz,_⟩=>SqL.of (sz _ _ (G6 ear e46 (λz=>by cases z)) (G6 ear e56 (λz=>by cases z)) ear)) ?_ ?_
 ·rintro i x σ H7 hxi ⟨v8,v9,v10,v11,acc,kvs,rfl,sz,ec7,el7,kl,hkv,rp⟩;rw [List.getElem?_map] at hxi;obtain ⟨z0,hz,rfl⟩:=Option.map_eq_some_iff.mp hxi;have hzm:=List.mem_of_getElem? hz;have hi:i<az.length:=(List.getElem?_eq_some_iff.mp hz).1;have hci:(OM n)[i]?=some z0.2:=by rw [<-haz,List.getElem?_map,hz];rfl
  obtain ⟨V0,cl⟩:=OK (List.mem_of_getElem? hci);have tk:(OM n).take (i+1)=(OM n).take i++[z0.2]:=by rw [List.take_add_one,hci];rfl
  have nl:∀{b ys},H6 b=some (.lst ys)->H7 b=some (.lst ys):=λy=>sz _ _ (G6 y e46 (λz=>by cases z)) (G6 y e56 (λz=>by cases z)) y;have nt:∀{b ys},H6 b=some (.tup ys)->H7 b=some (.tup ys):=λy=>sz _ _ (G6 y e46 (λz=>by cases z)) (G6 y e56 (λz=>by cases z)) y;have W7:WebAt H7 wb l (k:Int) xs rs:=⟨nt W6.w,nl W6.l,W6.p.keep λp ys y=>nt y⟩;have lw7:Lz H7 wz:=λz hz=>nl (lw6 z hz);have ewr7:=nl ewr6;have ec0:=nl (la z0 hzm);clear nl nt;have hcr:∀q∈z0.2,0<=q/\q<(rs.length:Int):=λq hq=>by have:=V0.2 q hq;lia
  dsimp only [GL];refine ⟨_,rfl,_,rfl,_,rfl,_,rfl,_,rfl,wb,l,z0.1,k,n,xs,rs,z0.2,s,t,rfl,W7,g,hst,hs,ht,hnl,ec0,hcr,by lia,λb H8 s8 hb=>?_⟩;dsimp only [GL];refine ⟨_,rfl,_,rfl,_,rfl,_,rfl,_,rfl,z0.1,_,rfl,.inl (SqL.of (s8 _ _ ec0)),λg1 hg1=>?_⟩;have s9:Same H8 (upd H8 g1 (.lst (z0.2.map V.int))):=Same.new hg1;have eg1:upd H8 g1 (.lst (z0.2.map V.int)) g1=some (.lst (z0.2.map V.int)):=Gb;generalize upd H8 g1 (.lst (z0.2.map V.int))=H9 at s9 eg1 ⊢;refine ⟨wb,l,g1,k,n,xs,rs,s,t,z0.2,rfl,W7.same (s8.trans s9),g,hst,hs,ht,hnl,SqL.of eg1,λH10 s10=>?_⟩;have S10:=s8.trans (s9.trans s10);have hbe:Zei rs k n s t z0.2=b:=by
   rw [Bool.eq_iff_iff,hopB_iff,hb];exact ⟨λh=>h.2,λh=>⟨V0,h⟩⟩
  refine ⟨_,rfl,rfl,_,rfl,?_⟩;rw [hbe,decide_eq_true rfl];refine Jw ?_;refine ⟨_,rfl,_,rfl,?_⟩;cases b with
  | false=>
   refine Jw ⟨_,_,_,_,acc,kvs,rfl,λx u h1 h2 y=>S10 _ _ (sz x u h1 h2 y),S10 _ _ ec7,S10 _ _ el7,by lia,λkv hkv'=>(hkv kv hkv').same λb ys y=>S10 _ _ y,?_⟩;have:G4 rs k s t z0.2 n=none:=by
    rcases Vk hst hs.1 hs.2 ht.1 ht.2 hrr hnl V0.2 V0.1 with ⟨m,e,lab,h1,h2,_⟩ | ⟨e,h⟩
    ·have:=hb.mpr ⟨lab,h1,h2⟩;cases this
    ·exact e
   rw [tk,List.filterMap_append,List.filterMap_cons,this];simp only [List.filterMap_nil,List.append_nil];exact rp
  | true=>
   have hop:=hb.mp rfl;refine G5 ?_;refine ⟨_,rfl,_,rfl,_,rfl,_,rfl,_,rfl,z0.1,_,rfl,.inl (SqL.of (S10 _ _ ec0)),λg2 hg2=>?_⟩;have s11:Same H10 (upd H10 g2 (.lst (z0.2.map V.int))):=Same.new hg2;have eg2:upd H10 g2 (.lst (z0.2.map V.int)) g2=some (.lst (z0.2.map V.int)):=Gb;generalize upd H10 g2 (.lst (z0.2.map V.int))=H11 at s11 eg2 ⊢;refine ⟨wb,l,g2,k,n,xs,rs,s,t,z0.2,rfl,W7.same (S10.trans s11),g,hst,hs,ht,hnl,SqL.of eg2,.inr ⟨⟨V0,λT m lab mate H12 s12 hrun hlab hB M mk eT=>?_⟩,hop⟩⟩;rw [<-Ux mk] at eT;have eT:H12 T=some (.tup ((wlM rs n k m).map V.int)):=eT;have S12:=S10.trans (s11.trans s12);have ec12:=S12 _ _ ec0;have lw12:Lz H12 wz:=λz hz=>S12 _ _ (lw7 z hz);have ewr12:=S12 _ _ ewr7;dsimp only [GL];refine ⟨_,rfl,wr,rfl,⟨_,SqL.of ewr12⟩,λD hD=>?_⟩;refine GM (K:=K) (a:=wr) (xs:=wz.map λz=>V.ref z.1) (λj ys H13=>∃us:List (AD×LI),ys=us.map (λz=>V.ref z.1)/\Same H12 H13/\H13 D=some (.lst ys)/\(∀z∈us,H13 z.1=some (.lst (z.2.map V.int))/\z.1≠D)/\us.map (·.2)=Uy ((wz.map (·.2)).take j) n z0.2) ⟨[],rfl,Same.new hD,Gb,λz hz=>(by cases hz),rfl⟩ (λj ys H13 _ ⟨_,_,y,_⟩=>SqL.of (y _ _ ewr12)) ?_ ?_
   ·rintro j x ys H13 hxj ⟨us,rfl,s13,hD13,hus,hue⟩;rw [List.getElem?_map] at hxj;obtain ⟨y0,hy,rfl⟩:=Option.map_eq_some_iff.mp hxj;have hym:=List.mem_of_getElem? hy;have hj:j<wz.length:=(List.getElem?_eq_some_iff.mp hy).1;have ey:=s13 _ _ (lw12 y0 hym);obtain ⟨yp,yr⟩:=ok.va y0.2 (List.mem_map.mpr ⟨y0,hym,rfl⟩);refine ⟨⟨rfl,rfl,trivial⟩,?_⟩;refine ⟨_,rfl,y0.1,rfl,⟨_,SqL.of ey⟩,λD3 hD3=>?_⟩;refine GM (K:=K) (a:=y0.1) (xs:=y0.2.map V.int) (λj2 qs H14=>Same H13 H14/\H14 D3=some (.lst qs)/\qs=((y0.2.take j2).filter λq=>decide (q<(n:Int))).map V.int) ⟨Same.new hD3,Gb,rfl⟩ (λj2 qs H14 _ ⟨y,_⟩=>SqL.of (y _ _ ey)) ?_ ?_
    ·rintro j2 x qs H14 hx2 ⟨s14,hD14,rfl⟩;rw [List.getElem?_map] at hx2;obtain ⟨q0,hq0,rfl⟩:=Option.map_eq_some_iff.mp hx2;have yl:y0.2.length<=100:=by
      have:=nodup_range (k:=rs.length) (yp.imp λh=>by lia) yr
      lia
     have hl2:((y0.2.take j2).filter λq=>decide (q<(n:Int))).length<=100:=by
      refine Nat.le_trans (List.length_filter_le _ _) ?_;rw [List.length_take]
      lia
     have tk2:(y0.2.take (j2+1)).filter (λq=>decide (q<(n:Int)))=(y0.2.take j2).filter (λq=>decide (q<(n:Int)))++(if q0<(n:Int) then [q0] else []):=by
      rw [List.take_add_one,hq0,List.filter_append]
      congr 1
      show List.filter _ [q0]=_;rw [List.filter_cons];by_cases u:q0<(n:Int)
      ·rw [if_pos (decide_eq_true u),if_pos u];rfl
      ·rw [if_neg (by rw [decide_eq_false u];decide),if_neg u];rfl
     refine ⟨⟨rfl,trivial⟩,?_⟩;refine ⟨_,rfl,_,rfl,_,_,rfl,rfl,_,rfl,WX (λu=>?_) (λu=>?_)⟩
     ·rw [if_pos (of_decide_eq_true u)] at tk2;exact ⟨_,rfl,hD14,by rw [List.length_map];lia,s14.put hD3,Gb,by rw [tk2,List.map_append];rfl⟩
     ·rw [if_neg (λv=>u (decide_eq_true v)),List.append_nil] at tk2;exact ⟨s14,hD14,by rw [tk2]⟩
    ·rintro qs H14 ⟨s14,hD14,rfl⟩;rw [List.length_map,List.take_length] at hD14;have s123:=s13.trans s14;refine ⟨_,rfl,.list _,.list _,.lst (SqL.of hD14) (G9 _),.lst (SqL.of (s123 _ _ ec12)) (G9 _),JB _,JB _,_,rfl,?_⟩;rw [OV,show ∀b:Bool,(false != b)=b from λb=>by cases b <;> rfl];have tk3:Uy ((wz.map (·.2)).take (j+1)) n z0.2=Uy ((wz.map (·.2)).take j) n z0.2++(if y0.2.filter (λq=>decide (q<(n:Int)))=z0.2 then [y0.2.drop z0.2.length] else []):=by
      unfold Uy;rw [List.take_add_one,List.getElem?_map,hy,List.filter_append,List.map_append]
      congr 1
      show List.map _ (List.filter _ [y0.2])=_;rw [List.filter_cons];by_cases u:y0.2.filter (λq=>decide (q<(n:Int)))=z0.2
      ·rw [if_pos (decide_eq_true u),if_pos u];rfl
      ·rw [if_neg (by rw [decide_eq_false u];decide),if_neg u];rfl
     have usl:us.length<=j:=by
      have:=congrArg List.length hue;unfold Uy at this;rw [List.length_map,List.length_map] at this;have h2:=List.length_filter_le (λy=>decide (y.filter (λq=>decide (q<(n:Int)))=z0.2)) ((wz.map (·.2)).take j);rw [List.length_take] at h2
      lia
     refine WX (λu=>?_) (λu=>?_)
     ·have u:=of_decide_eq_true u;rw [if_pos u] at tk3;refine ⟨_,rfl,_,rfl,z0.1,_,rfl,.inl (SqL.of (s123 _ _ ec12)),_,rfl,y0.1,_,rfl,SqL.of (s14 _ _ ey),λp hp=>?_⟩;have s15:Same H14 (upd H14 p (.lst (UC (y0.2.map V.int) (some ((z0.2.map V.int).length:Int)) none))):=Same.new hp;have ep:upd H14 p (.lst (UC (y0.2.map V.int) (some ((z0.2.map V.int).length:Int)) none)) p=some (.lst ((y0.2.drop z0.2.length).map V.int)):=by
       have hle:z0.2.length<=y0.2.length:=by rw [<-u];exact List.length_filter_le _ _
       rw [Gb,List.length_map,Zbx (by rw [List.length_map];exact hle),List.map_drop]
      have pD:p≠D:=λe=>by rw [e,s14 _ _ hD13] at hp;cases hp
      generalize upd H14 p (.lst (UC (y0.2.map V.int) (some ((z0.2.map V.int).length:Int)) none))=H15 at s15 ep ⊢;refine ⟨(s14.trans s15) _ _ hD13,by rw [List.length_map];lia,us++[(p,y0.2.drop z0.2.length)],by rw [List.map_append];rfl,(s123.trans s15).put hD,Gb,λy hy'=>?_,by rw [List.map_append,hue,tk3];rfl⟩;rcases List.mem_append.mp hy' with hy' | hy'
      ·exact ⟨Gs ((s14.trans s15) _ _ (hus y hy').1) (hus y hy').2,(hus y hy').2⟩
      ·rw [List.mem_singleton.mp hy'];exact ⟨Gs ep pD,pD⟩
     ·rw [if_neg (λv=>u (decide_eq_true v)),List.append_nil] at tk3;exact ⟨us,rfl,s123,s14 _ _ hD13,λy hy'=>⟨s14 _ _ (hus y hy').1,(hus y hy').2⟩,by rw [hue,tk3]⟩
   ·rintro ys H13 ⟨us,rfl,s13,hD13,hus,hue⟩;rw [List.length_map,show (wz.map (·.2)).take wz.length=wz.map (·.2) from by rw [List.take_of_length_le (by rw [List.length_map];exact Nat.le_refl _)]] at hue;have S13:=S12.trans s13;have eT13:=s13 _ _ eT;have ec13:=S13 _ _ ec7;have el13:=S13 _ _ el7;have hkv13:∀kv∈kvs,LtOk H13 rs k n s t (wz.map (·.2)) kv:=λkv h=>(hkv kv h).same λb ys y=>S13 _ _ y;have eTk:H13 T=some (.tup (((wlM rs n k m).map (Sum.inl:Int->Key)).map kV)):=by rw [Vh];exact eT13
    have luz:Lz H13 us:=λz hz=>(hus z hz).1;dsimp only [GL];have hmR:m∈RJ rs k s t n:=(Vr n).mem_iff.mp (List.mem_filterMap.mpr ⟨z0.2,List.mem_of_getElem? hci,hrun⟩);refine Jg (λσ' H'=>σ'=[some (.ref a),some (.ref wb),some (.int s),some (.int t),some (.int (n:Int)),some (.ref wr),some (.ref cn),some (.ref lt),some (.ref z0.1),some (.bl true),some (.ref T),some (.ref D),none]/\H'=H13) ?j2 ?j1
    case j1=>
     intro hk;cases hv:Od kvs ((wlM rs n k m).map (Sum.inl:Int->Key)) with
     | none=>
      refine ⟨_,rfl,_,rfl,lt,_,rfl,DGet.t el13 eTk,_,rfl,?_⟩;rw [hv];exact Jw (Jw (hk _ _ ⟨rfl,rfl⟩))
     | some v=>
      have dg:=DGet.t el13 eTk;rw [hv] at dg;refine ⟨_,rfl,_,rfl,lt,_,rfl,dg,_,rfl,G5 ?_⟩;obtain ⟨a',zs',c',m',e1,V',r',h1,h2,h3⟩:=hkv13 _ (ZcM hv);obtain ⟨e1',rfl⟩:=Prod.mk.inj e1;have em:wlM rs n k m=wlM rs n k m':=inl_inj.mp e1';have hmR':m'∈RJ rs k s t n:=(Vr n).mem_iff.mp (List.mem_filterMap.mpr ⟨c',UU V',r'⟩);have emm:=Zbn hst hs ht g hnl _ hmR _ hmR' em;have eR:zs'.map (·.2)=us.map (·.2):=by rw [h3,hue];exact ZcL hst hs ht hrr hnl ok V' V0 (by rw [r',hrun,emm])
      have d1:=WF (K:=K) h2;rw [eR] at d1;refine ⟨_,rfl,_,rfl,lt,_,rfl,dg,_,rfl,.list (WE (us.map (·.2))),.list (WE (us.map (·.2))),.lst (SqL.of h1) d1,.lst (SqL.of hD13) (WF luz),Uf _,Uf _,_,rfl,?_⟩;rw [Zfw];exact Jw (hk _ _ ⟨rfl,rfl⟩)
    rintro σ' H' ⟨rfl,rfl⟩;have kvl:kvs.length<=512:=by lia
    refine ⟨_,rfl,_,rfl,_,rfl,lt,_,rfl,DPut.t el13 eTk (by lia),?_⟩;have nel:∀{b ys},H' b=some (.lst ys)->b≠lt:=λy=>G6 y el13 (λz=>by cases z);have z14:∀x u,x≠lt->H' x=some u->upd H' lt (.dT (putK kvs ((wlM rs n k m).map (Sum.inl:Int->Key)) (.ref D))) x=some u:=λx u n y=>Gs y n;have el14:upd H' lt (.dT (putK kvs ((wlM rs n k m).map (Sum.inl:Int->Key)) (.ref D))) lt=some (.dT (putK kvs ((wlM rs n k m).map (Sum.inl:Int->Key)) (.ref D))):=Gb;have ec14:=z14 _ _ ncl ec13;have eT14:=z14 _ _ (G6 eTk el13 (λz=>by cases z)) eTk;have kv14:∀kv∈putK kvs ((wlM rs n k m).map (Sum.inl:Int->Key)) (.ref D),LtOk (upd H' lt (.dT (putK kvs ((wlM rs n k m).map (Sum.inl:Int->Key)) (.ref D)))) rs k n s t (wz.map (·.2)) kv:=λkv hkv'=>by
     rcases Zed hkv' with h | rfl
     ·exact (hkv13 kv h).same λb ys y=>z14 _ _ (nel y) y
     ·exact ⟨D,us,z0.2,m,rfl,V0,hrun,z14 _ _ (nel hD13) hD13,λz hz=>z14 _ _ (nel (luz z hz)) (luz z hz),hue⟩
    have sz14:Zfx cn lt H6 (upd H' lt (.dT (putK kvs ((wlM rs n k m).map (Sum.inl:Int->Key)) (.ref D)))):=λx u h1 h2 y=>z14 _ _ h2 (S13 _ _ (sz x u h1 h2 y));have pl:=Zee kvs ((wlM rs n k m).map (Sum.inl:Int->Key)) (.ref D);generalize putK kvs ((wlM rs n k m).map (Sum.inl:Int->Key)) (.ref D)=kvs2 at el14 ec14 eT14 kv14 sz14 pl ⊢;clear z14 nel;generalize upd H' lt (.dT kvs2)=H14 at el14 ec14 eT14 kv14 sz14 ⊢;have ev:(Od (acc.map kvI) ((wlM rs n k m).map Sum.inl)).getD (.int 0)=.int ((X4 acc (wlM rs n k m)).getD 0):=by rw [Wz];cases X4 acc (wlM rs n k m) <;> rfl
    have hal:acc.length<=512:=by
     refine Nat.le_trans rp.len ?_;rw [List.length_map];refine Nat.le_trans (List.length_filterMap_le _ _) ?_;rw [List.length_take]
     lia
    refine ⟨_,rfl,cn,rfl,.inr ⟨_,.inl ec14⟩,_,rfl,_,DGet.t ec14 eT14,?_⟩;rw [ev];refine ⟨_,_,rfl,rfl,?_⟩;refine ⟨_,rfl,_,rfl,cn,_,rfl,DPut.t ec14 eT14 (by rw [List.length_map];lia),?_⟩;rw [X5];refine ⟨_,_,_,_,ZcB acc (wlM rs n k m) ((X4 acc (wlM rs n k m)).getD 0+1),kvs2,rfl,λx u h1 h2 y=>Gs (sz14 x u h1 h2 y) h1,Gb,Gs el14 (Ne.symm ncl),by lia,λkv hkv'=>(kv14 kv hkv').same λb ys y=>Gs y (G6 y ec14 (λz=>by cases z)),?_⟩;have:=rp.put (m:=wlM rs n k m) (n:=1) (by decide);rw [tk,List.filterMap_append,List.map_append,List.filterMap_cons,hrun];exact this
 ·rintro σ H7 ⟨v8,v9,v10,v11,acc,kvs,rfl,sz,ec7,el7,kl,hkv,rp⟩;have azl2:(az.map λz=>V.ref z.1).length=(OM n).length:=by rw [List.length_map,<-haz,List.length_map]
  rw [azl2,List.take_length] at rp;have rpF:Rep acc ((RJ rs k s t n).map (wlM rs n k)):=rp.perm ((Vr n).map _);have nl:∀{b ys},H6 b=some (.lst ys)->H7 b=some (.lst ys):=λy=>sz _ _ (G6 y e46 (λz=>by cases z)) (G6 y e56 (λz=>by cases z)) y;have nt:∀{b ys},H6 b=some (.tup ys)->H7 b=some (.tup ys):=λy=>sz _ _ (G6 y e46 (λz=>by cases z)) (G6 y e56 (λz=>by cases z)) y;have W7:WebAt H7 wb l (k:Int) xs rs:=⟨nt W6.w,nl W6.l,W6.p.keep λp ys y=>nt y⟩;have lw7:Lz H7 wz:=λz hz=>nl (lw6 z hz);have ewr7:=nl ewr6;have hR:∀j,j<=rs.length->(RJ rs k s t j).length<=1000:=λj hj=>by
   rw [<-(Vr (rs:=rs) (k:=k) (s:=s) (t:=t) j).length_eq];refine Nat.le_trans (List.length_filterMap_le _ _) ?_;rw [UT];exact Nat.le_trans (Nat.pow_le_pow_right (by decide) (show j<=9 by lia)) (by decide)
  have al:acc.length<=1000:=by
   refine Nat.le_trans rpF.len ?_;rw [List.length_map];exact hR n hnl
  dsimp only;refine ⟨_,rfl,_,rfl,_,rfl,_,rfl,wb,l,k,n,xs,rs,s,t,rfl,W7,g,hst,hs,ht,hnl,λj hj=>hR j (by lia),λL zs ps H8 s8 hL eL hz pm rp8 so=>?_⟩;have ec8:=s8 _ _ ec7;refine ⟨_,rfl,.inr (.inr (.inl ⟨rfl,.inr ⟨_,ec8⟩⟩)),cn,_,rfl,rfl,ec8,λv hv=>?_⟩;have s9:Same H8 (upd H8 v (IVw v cn)):=Same.new hv;refine ⟨v,cn,acc,rfl,Gb,s9 _ _ ec8,al,λLr zs2 H10 s10 hLr eLr hz2 hp2 hs2=>?_⟩;have S10:=s9.trans s10;have ee:zs.map (·.2.2)=zs2.map (·.2.2):=VN ((pm.trans (rp8.same rpF)).trans hp2.symm) so hs2;have hz':∀z∈zs,H10 z.1=some (.tup [.ref z.2.1,.int z.2.2.2])/\H10 z.2.1=some (.tup (z.2.2.1.map V.int)):=λz h=>⟨S10 _ _ (hz z h).1,S10 _ _ (hz z h).2⟩;have dF:=WG (K:=K) hz';rw [ee] at dF;refine ⟨.list ((zs2.map (·.2.2)).map tiD),.list ((zs2.map (·.2.2)).map tiD),.lst (SqL.of (S10 _ _ eL)) dF,.lst (SqL.of eLr) (WG hz2),JW _,JW _,_,rfl,?_⟩;rw [Zbs];refine Jw ?_;have S710:=s8.trans S10;have W10:=W7.same S710;dsimp only [ZbI];refine ⟨_,rfl,_,rfl,_,rfl,_,rfl,wb,_,_,_,rfl,rfl,SqT.of W10.w,Go (j:=1) rfl,l,_,rfl,.inl (SqL.of W10.l),wb,l,k,rs.length,xs,rs,s,t,by rw [hxl];rfl,W10,g,hst,hs,ht,Nat.le_refl _,hR,λL2 zs3 ps3 H11 s11 hL2 eL2 hz3 pm3 rp3 so3=>?_⟩;rw [Zbw hst hs ht g ok] at rp3;have ep3:=Zec rp3;have S711:=S710.trans s11;dsimp only [GL];refine ⟨_,rfl,_,rfl,Nat.zero_le _,λn1 hn1=>?_⟩;have s12:Same H11 (upd H11 n1 (.lst [])):=Same.new hn1;have en1:upd H11 n1 (.lst []) n1=some (.lst []):=Gb;generalize upd H11 n1 (.lst [])=H12 at s12 en1 ⊢;have S712:=S711.trans s12;have lw12:Lz H12 wz:=λz hz=>S712 _ _ (lw7 z hz);refine ⟨.list (WE (wz.map (·.2))),.list [],.lst (SqL.of (S712 _ _ ewr7)) (WF lw12),.lst (SqL.of en1) .nil,Uf _,Uf [],_,rfl,?_⟩;have hz4:∀z∈zs3,H12 z.1=some (.tup [.ref z.2.1,.int z.2.2.2])/\H12 z.2.1=some (.tup (z.2.2.1.map V.int)):=λz h=>⟨s12 _ _ (hz3 z h).1,s12 _ _ (hz3 z h).2⟩;have eL12:=s12 _ _ eL2;rw [List.length_map] at ep3;have em3:zs3.map (·.2.2)=ps3:=by
   by_cases z:wz.length=0
   ·rw [if_pos z] at ep3;rw [ep3] at pm3 ⊢;exact pm3.eq_nil
   ·rw [if_neg z] at ep3;rw [ep3] at pm3 ⊢;exact List.perm_singleton.mp pm3
  cases hw:wz with
  | nil=>
   subst hw;rw [ep3.trans (if_pos rfl)] at em3;have hzn:zs3=[]:=List.map_eq_nil_iff.mp em3;subst hzn;refine G5 ⟨Nat.zero_le _,λn2 hn2=>?_⟩;have s13:Same H12 (upd H12 n2 (.lst [])):=Same.new hn2;refine ⟨.list (([]:KI).map tiD),.list (([]:KI).map tiD),.lst (SqL.of (s13 _ _ eL12)) .nil,.lst (SqL.of Gb) .nil,JW _,JW _,?_⟩;rw [Zbs];exact q _
  | cons y0 wz'=>
   have hwl:wz.length≠0:=by rw [hw];simp
   rw [if_neg hwl] at ep3;rw [ep3] at em3;have en:PyData.eqv (.list (WE ((y0::wz').map (·.2)))) (.list [])=false:=by simp [WE,PyData.eqv,PyData.eqvAll]
   rw [en];refine Jw ?_;refine ⟨by show 1<=sizeLine;lia,λp1 hp1=>?_⟩;have s13:Same H12 (upd H12 p1 (.tup [.int 0])):=Same.new hp1;have e13:upd H12 p1 (.tup [.int 0]) p1=some (.tup [.int 0]):=Gb;generalize upd H12 p1 (.tup [.int 0])=H13 at s13 e13 ⊢;refine ⟨_,rfl,wr,_,rfl,.inl (SqL.of ((S712.trans s13) _ _ ewr7)),J8,λp2 hp2'=>?_⟩;rw [List.length_map];have s14:Same H13 (upd H13 p2 (.tup [.ref p1,.int (wz.length:Nat)])):=Same.new hp2';have e14:upd H13 p2 (.tup [.ref p1,.int (wz.length:Nat)]) p2=some (.tup [.ref p1,.int (wz.length:Nat)]):=Gb;generalize upd H13 p2 (.tup [.ref p1,.int (wz.length:Nat)])=H14 at s14 e14 ⊢;refine ⟨by show 1<=sizeLine;lia,λp3 hp3=>?_⟩;have s15:Same H14 (upd H14 p3 (.lst [.ref p2])):=Same.new hp3;have e15:upd H14 p3 (.lst [.ref p2]) p3=some (.lst [.ref p2]):=Gb;generalize upd H14 p3 (.lst [.ref p2])=H15 at s15 e15 ⊢;have S15:=s13.trans (s14.trans s15);have d3:=WG (K:=K) (H:=H15) (zs:=zs3) λz h=>⟨S15 _ _ (hz4 z h).1,S15 _ _ (hz4 z h).2⟩;rw [em3] at d3;refine ⟨.list (([([0],(wz.length:Int))]:KI).map tiD),.list (([([0],(wz.length:Int))]:KI).map tiD),.lst (SqL.of (S15 _ _ eL12)) d3,.lst (SqL.of e15) (.cons (.tup (SqT.of (s15 _ _ e14)) (.cons (.tup (SqT.of ((s14.trans s15) _ _ e13)) (.cons (.int _) .nil)) (.cons (.int _) .nil))) .nil),JW _,JW _,?_⟩;rw [Zbs];exact q _
end
end M
section
open PySem PySem.W PyProof.Rows
def M.rowP:PP:=PySem.Challenge.rw_onceways_k42_whole_like_walls_go_on_alik.prog
def M.seenP:PP:={ M.rowP with main:={ M.rowP.main with body:=[1,2,3,4,5,7,8,9,10,12,13,14,15,16,17,18,19,20,21,22,23,24,25,26,27,28,29,31,33,34,35,36,37,38,39,40,41,43,44,45,46,47,48,49,50,51,52,53,54].filterMap (λi=>M.rowP.main.body[i]?) } }
def M.loosely:List Str:=[]
def M.hookX (s:SS):Bool:=xlAt M.seenP [] s && recOk (RowW.records (OpenRow.toRowW PySem.Challenge.rw_onceways_k42_whole_like_walls_go_on_alik.row)) s
noncomputable def M.atBoot (w:Ab)(os:OsState):SS:=⟨boot_heap w.params,Array.mk [],boot_drawn,boot_toks,os⟩
noncomputable def M.topOf (p:PP)(N:Nat)(w:Ab)(os:OsState):Option SS:=topRun treeTable p w (M.atBoot w os).heap.objs.size ((M.atBoot w os).heap.nsMap mainGlobals "__annotations__") N (M.atBoot w os) (topStub p)
theorem M.top_run {p:PP}{N:Nat}{w:Ab}{os:OsState}{s:SS}(h:topFrom treeTable p w N (M.atBoot w os)=some s):M.topOf p N w os=some s:=by
 unfold topFrom at h;split at h
 ·obtain ⟨s1,h1,h2⟩:=Option.bind_eq_some_iff.mp h;split at h2
  ·cases h2;exact h1
  ·cases h2
 ·cases h
theorem M.left_boot {p q:PP}{loose:List Str}{Xt:SS->Bool}{α:Type}{Yf:SS->α}{Ya:Ab->α}{N:Nat}(e:opening p=plainProg p.main.scope.names)(hN:Nat.ble 600 N=true)(f:∀s,fenceModules? p s=some s)(hc:∀(w:Ab)(os:OsState),(topFrom treeTable p w N (M.atBoot w os)).isSome=true)(ha:∀(w:Ab)(os:OsState),(M.topOf p N w os).map (openSeen q loose (importedModules p.main.body) Xt true)=some (openGood q loose))(hb:∀(w:Ab)(os:OsState),(M.topOf p N w os).map Yf=some (Ya w)) :
  LeftO p q loose Xt Yf Ya N:=λw=>by
 obtain ⟨⟨a,b,c,d,os⟩,e1,e2⟩:=Option.map_eq_some_iff.mp (boot_open e hN f w);obtain ⟨rfl,rfl,rfl,rfl⟩:a=boot_heap w.params/\b=Array.mk []/\c=boot_drawn/\d=boot_toks:=by simpa using e2
 obtain ⟨s,hs⟩:=Option.isSome_iff_exists.mp (hc w os);have h1:=ha w os;have h2:=hb w os;rw [M.top_run hs] at h1 h2;unfold openEnds;rw [e1];show (topFrom treeTable p w N (M.atBoot w os)).map _=_;rw [hs];simp only [Option.map_some,Option.some.injEq] at h1 h2 ⊢;rw [h1,h2]
set_option maxHeartbeats 0 in
theorem M.topA (w:Ab)(os:OsState):(M.topOf M.rowP 4748 w os).map (openSeen M.seenP M.loosely (importedModules M.rowP.main.body) M.hookX true)=some (openGood M.seenP M.loosely):=by
 unfold M.topOf;rw [W.Fast.te14082659384304107361,W.Fast.te14364793385576792824,W.Fast.te4187177175401517315];kernel_rfl
set_option maxHeartbeats 0 in
theorem M.topC (w:Ab)(os:OsState):(topFrom treeTable M.rowP w 4748 (M.atBoot w os)).isSome=true:=by
 unfold topFrom;rw [W.Fast.te14082659384304107361,W.Fast.te14364793385576792824];kernel_rfl
end
namespace M
open PySem L2
theorem all_mk {l:W.OpenLaw}{w:Ab}{K:FF}{h:Heap}{mg:Str->Option Aa}{fa f1 f2 f3 f4 f5 f6 f7 f8 f9 f10 f11 f12 f13 f14 f15 f16 f17 f18 f19 f20 f21 f22 f23 f24 f25 f26 f27 f28 f29 f30 f31 f32 f33 f34 f35 f36 f37 CE CP CS CW:AD}{u0 u1 u2 u3 u4 u5:Tok}(X:K.In h)(G:h.Ns mainGlobals mg)(hfa:mg "law" = some (.ref fa)){od an:Option AD}{sl:Array (Option Aa)}{oc kV dc pm cd ct:Aa}(qIp:FX K "is_place" sIs f1)(qCp:FX K "check_place" ZfG f2)(qBe:FX K "beside" ZfH f3)(qMe:FX K "marks_of_ends" sMe f4)(qLr:FX K "last_roads" sLr f5)(qSo:FX K "steps_of" sSo f6)(qFm:FX K "first_marks" sFm f7)(qId:FX K "is_done" sId f8)(qIl:FX K "is_loose" sIl f9)(qIf:FX K "is_full" sIf f10)(qIm:FX K "is_met" sIm f11)(qFe:FX K "far_end" sFe f12)(qWr:FX K "with_road" sWr f13)(qLb:FX K "left_behind" sLb f14)(qDe:FX K "decided" sDe f15)(qCe:FX K "check_ends" Zeg f16)(qCs:FX K "check_step" Zd0 f17)(qMb:FX K "marks_behind" sMb f18)(qHo:FX K "hopeful" sHo f19)(qP:FX K "places_on" ZfI f20)(qFr:FX K "front" Zfc f21)(qWi:FX K "wall_in" sWi f22)(qWo:FX K "wall_of" sWo f23)(qBs:FX K "behind_step" sBs f24)(qNb:FX K "numbers_behind" sNb f25)(qWs:FX K "walls" sWs f26)(qCa:FX K "_law_cell_at" Zeh f27)(qSt:FX K "_law_stir" Zcr f28)(qDt:FX K "_law_digit" ZfJ f29)(qWe:FX K "_law_web" ZfK f30)(qTw:FX K "_law_two" ZfL f31)(qSs:FX K "_law_sets" Za4 f32)(qAl:FX K "_law_all" ZfM f33)(qDg:FX K "_law_degrees" sDg f34)(qPi:FX K "_law_pieces" sPi f35)(qLh:FX K "_law_hopeful" sLh f36)(aL:W.nsIn K mainGlobals "law" = some (some (.ref f37)))(lL:K.lookup f37=some ⟨oc,od,.func (W.fnOf "law" "law" (J1 ZG) (Jz ZG) (Gf ZG) .none kV dc pm an cd ct),sl⟩)(cL:W.codeIn K cd "law" = true)(kL:W.keepIn K (.ref f37)=true)(gE:W.nsIn K mainGlobals "NoEnds" = some (some (.ref CE)))(gP:W.nsIn K mainGlobals "NoPlace" = some (some (.ref CP)))(gS:W.nsIn K mainGlobals "NoStep" = some (some (.ref CS)))(gW:W.nsIn K mainGlobals "NoWall" = some (some (.ref CW)))(xE:ExcC K CE)(xP:ExcC K CP)(xS:ExcC K CS)(xW:ExcC K CW)(gUSED:W.nsIn K mainGlobals "USED" = some (some (.int (-1) u1)))(gFREE:W.nsIn K mainGlobals "FREE" = some (some (.int (-2) u2)))(gFIRST:W.nsIn K mainGlobals "FIRST" = some (some (.int (-3) u3)))(gSECOND:W.nsIn K mainGlobals "SECOND" = some (some (.int (-4) u4)))(gBARRED:W.nsIn K mainGlobals "BARRED" = some (some (.int (-5) u5)))(gDONE:W.nsIn K mainGlobals "DONE" = some (some (.int 0 u0)))(nrange:W.nsIn K mainGlobals "range" = some none)(nlist:W.nsIn K mainGlobals "list" = some none)(nlen:W.nsIn K mainGlobals "len" = some none)(nmax:W.nsIn K mainGlobals "max" = some none)(nsorted:W.nsIn K mainGlobals "sorted" = some none)(nset:W.nsIn K mainGlobals "set" = some none)(nall:W.nsIn K mainGlobals "all" = some none)(nany:W.nsIn K mainGlobals "any" = some none)(nenumerate:W.nsIn K mainGlobals "enumerate" = some none)(ntuple:W.nsIn K mainGlobals "tuple" = some none)(nmin:W.nsIn K mainGlobals "min" = some none)(nint:W.nsIn K mainGlobals "int" = some none)
  : ∃fd:FuncData,(∀(s:SS)(v:Aa),BindsTo s fd ⟨[v],[]⟩ [("script", v)])/\∀base:Heap,K.In base->base.Ns mainGlobals mg->GG l.prog w K mg base CX0 7 fa fd ["script"] (ZcN K):=by
 have e:=hfa.symm.trans (W.mg_of X G aL);cases e;obtain ⟨_,FIp,bIp,mIp⟩:=qIp.go X G ["web", "place"] λ_ _ _ _ _ _ us hl=>by obtain ⟨_,_,rfl⟩:=Xv hl;rfl
 obtain ⟨_,FCp,bCp,mCp⟩:=qCp.go X G ["web", "place"] λ_ _ _ _ _ _ us hl=>by obtain ⟨_,_,rfl⟩:=Xv hl;rfl
 obtain ⟨_,FBe,bBe,mBe⟩:=qBe.go X G ["web", "place"] λ_ _ _ _ _ _ us hl=>by obtain ⟨_,_,rfl⟩:=Xv hl;rfl
 obtain ⟨_,FMe,bMe,mMe⟩:=qMe.go X G ["one", "other"] λ_ _ _ _ _ _ us hl=>by obtain ⟨_,_,rfl⟩:=Xv hl;rfl
 obtain ⟨_,FLr,bLr,mLr⟩:=qLr.go X G ["web"] λ_ _ _ _ _ _ us hl=>by obtain ⟨_,rfl⟩:=len1 hl;rfl
 obtain ⟨_,FSo,bSo,mSo⟩:=qSo.go X G ["web", "needed"] λ_ _ _ _ _ _ us hl=>by obtain ⟨_,_,rfl⟩:=Xv hl;rfl
 obtain ⟨_,FFm,bFm,mFm⟩:=qFm.go X G ["web", "needed"] λ_ _ _ _ _ _ us hl=>by obtain ⟨_,_,rfl⟩:=Xv hl;rfl
 obtain ⟨_,FId,bId,mId⟩:=qId.go X G ["marks"] λ_ _ _ _ _ _ us hl=>by obtain ⟨_,rfl⟩:=len1 hl;rfl
 obtain ⟨_,FIl,bIl,mIl⟩:=qIl.go X G ["mark"] λ_ _ _ _ _ _ us hl=>by obtain ⟨_,rfl⟩:=len1 hl;rfl
 obtain ⟨_,FIf,bIf,mIf⟩:=qIf.go X G ["mark"] λ_ _ _ _ _ _ us hl=>by obtain ⟨_,rfl⟩:=len1 hl;rfl
 obtain ⟨_,FIm,bIm,mIm⟩:=qIm.go X G ["mark"] λ_ _ _ _ _ _ us hl=>by obtain ⟨_,rfl⟩:=len1 hl;rfl
 obtain ⟨_,FFe,bFe,mFe⟩:=qFe.go X G ["marks", "place", "ends"] λ_ _ _ _ _ _ us hl=>by obtain ⟨_,_,_,rfl⟩:=ZbQ hl;rfl
 obtain ⟨_,FWr,bWr,mWr⟩:=qWr.go X G ["marks", "road", "ends"] λ_ _ _ _ _ _ us hl=>by obtain ⟨_,_,_,rfl⟩:=ZbQ hl;rfl
 obtain ⟨_,FLb,bLb,mLb⟩:=qLb.go X G ["marks", "leaving", "needed"] λ_ _ _ _ _ _ us hl=>by obtain ⟨_,_,_,rfl⟩:=ZbQ hl;rfl
 obtain ⟨_,FDe,bDe,mDe⟩:=qDe.go X G ["marks", "step", "ends", "chosen"] λ_ _ _ _ _ _ us hl=>by obtain ⟨_,_,_,_,rfl⟩:=ZeE hl;rfl
 obtain ⟨_,FCe,bCe,mCe⟩:=qCe.go X G ["web", "one", "other"] λ_ _ _ _ _ _ us hl=>by obtain ⟨_,_,_,rfl⟩:=ZbQ hl;rfl
 obtain ⟨_,FCs,bCs,mCs⟩:=qCs.go X G ["web", "i"] λ_ _ _ _ _ _ us hl=>by obtain ⟨_,_,rfl⟩:=Xv hl;rfl
 obtain ⟨_,FMb,bMb,mMb⟩:=qMb.go X G ["web", "ends", "i", "roads"] λ_ _ _ _ _ _ us hl=>by obtain ⟨_,_,_,_,rfl⟩:=ZeE hl;rfl
 obtain ⟨_,FHo,bHo,mHo⟩:=qHo.go X G ["web", "one", "other", "i", "roads"] λ_ _ _ _ _ _ us hl=>by obtain ⟨_,_,_,_,_,rfl⟩:=ZfB hl;rfl
 obtain ⟨_,FP,bP,mP⟩:=qP.go X G ["roads"] λ_ _ _ _ _ _ us hl=>by obtain ⟨_,rfl⟩:=len1 hl;rfl
 obtain ⟨_,FFr,bFr,mFr⟩:=qFr.go X G ["web", "i"] λ_ _ _ _ _ _ us hl=>by obtain ⟨_,_,rfl⟩:=Xv hl;rfl
 obtain ⟨_,FWi,bWi,mWi⟩:=qWi.go X G ["places", "marks"] λ_ _ _ _ _ _ us hl=>by obtain ⟨_,_,rfl⟩:=Xv hl;rfl
 obtain ⟨_,FWo,bWo,mWo⟩:=qWo.go X G ["web", "one", "other", "i", "roads"] λ_ _ _ _ _ _ us hl=>by obtain ⟨_,_,_,_,_,rfl⟩:=ZfB hl;rfl
 obtain ⟨_,FBs,bBs,mBs⟩:=qBs.go X G ["numbers", "step", "ends"] λ_ _ _ _ _ _ us hl=>by obtain ⟨_,_,_,rfl⟩:=ZbQ hl;rfl
 obtain ⟨_,FNb,bNb,mNb⟩:=qNb.go X G ["web", "ends", "needed", "i"] λ_ _ _ _ _ _ us hl=>by obtain ⟨_,_,_,_,rfl⟩:=ZeE hl;rfl
 obtain ⟨_,FWs,bWs,mWs⟩:=qWs.go X G ["web", "one", "other", "i"] λ_ _ _ _ _ _ us hl=>by obtain ⟨_,_,_,_,rfl⟩:=ZeE hl;rfl
 obtain ⟨_,FCa,bCa,mCa⟩:=qCa.go X G ["script", "k"] λ_ _ _ _ _ _ us hl=>by obtain ⟨_,_,rfl⟩:=Xv hl;rfl
 obtain ⟨_,FSt,bSt,mSt⟩:=qSt.go X G ["cell", "k"] λ_ _ _ _ _ _ us hl=>by obtain ⟨_,_,rfl⟩:=Xv hl;rfl
 obtain ⟨_,FDt,bDt,mDt⟩:=qDt.go X G ["cell", "k", "many"] λ_ _ _ _ _ _ us hl=>by obtain ⟨_,_,_,rfl⟩:=ZbQ hl;rfl
 obtain ⟨_,FWe,bWe,mWe⟩:=qWe.go X G ["script", "most_places", "most_roads"] λ_ _ _ _ _ _ us hl=>by obtain ⟨_,_,_,rfl⟩:=ZbQ hl;rfl
 obtain ⟨_,FTw,bTw,mTw⟩:=qTw.go X G ["script", "many"] λ_ _ _ _ _ _ us hl=>by obtain ⟨_,_,rfl⟩:=Xv hl;rfl
 obtain ⟨_,FSs,bSs,mSs⟩:=qSs.go X G ["web", "one", "other"] λ_ _ _ _ _ _ us hl=>by obtain ⟨_,_,_,rfl⟩:=ZbQ hl;rfl
 obtain ⟨_,FAl,bAl,mAl⟩:=qAl.go X G ["low", "high"] λ_ _ _ _ _ _ us hl=>by obtain ⟨_,_,rfl⟩:=Xv hl;rfl
 obtain ⟨_,FDg,bDg,mDg⟩:=qDg.go X G ["web", "roads"] λ_ _ _ _ _ _ us hl=>by obtain ⟨_,_,rfl⟩:=Xv hl;rfl
 obtain ⟨_,FPi,bPi,mPi⟩:=qPi.go X G ["web", "roads"] λ_ _ _ _ _ _ us hl=>by obtain ⟨_,_,rfl⟩:=Xv hl;rfl
 obtain ⟨_,FLh,bLh,mLh⟩:=qLh.go X G ["web", "one", "other", "many", "roads"] λ_ _ _ _ _ _ us hl=>by obtain ⟨_,_,_,_,_,rfl⟩:=ZfB hl;rfl
 have FL:=ZcX (st:=ZG) lL cL kL;refine ⟨W.fnOf "law" "law" (J1 ZG) (Jz ZG) (Gf ZG) .none kV dc pm an cd ct,λs v=>.of_eq rfl,λbase _ _=>?_⟩;have GCp:=Zfh (P:=l.prog) (w:=w) (base:=base) FCp FIp bIp mIp (W.mg_of X G gP) xP;have GBe:=Zfj (P:=l.prog) (w:=w) (base:=base) FBe FCp bCp mCp GCp (W.mg_none_of X G nsorted);have GCe:=Zfk (P:=l.prog) (w:=w) (base:=base) FCe FIp bIp mIp (W.mg_of X G gE) xE;have GCs:=Zfe (P:=l.prog) (w:=w) (base:=base) FCs (W.mg_of X G gS) xS (W.mg_none_of X G nlen);have GMe:=Zgn (P:=l.prog) (w:=w) (base:=base) FMe (W.mg_of X G gFIRST) (W.mg_of X G gSECOND);have GId:=Zgp (P:=l.prog) (w:=w) (base:=base) FId (W.mg_of X G gDONE);have GIl:=Zgq (P:=l.prog) (w:=w) (base:=base) FIl (W.mg_of X G gFIRST) (W.mg_of X G gSECOND);have GIf:=Zgr (P:=l.prog) (w:=w) (base:=base) FIf (W.mg_of X G gUSED) (W.mg_of X G gBARRED);have GIm:=Zgs (P:=l.prog) (w:=w) (base:=base) FIm (W.mg_of X G gFREE) (W.mg_of X G gBARRED);have GFe:=Zgt (P:=l.prog) (w:=w) (base:=base) FFe (W.mg_of X G gFREE);have GWr:=Zgu (P:=l.prog) (w:=w) (base:=base) FWr FId bId mId GId FIf bIf mIf GIf FFe bFe mFe GFe FIl bIl mIl GIl (W.mg_of X G gDONE) (W.mg_of X G gUSED) (W.mg_none_of X G nlist) (W.mg_none_of X G nany) (W.mg_none_of X G ntuple);have GLb:=Zgw (P:=l.prog) (w:=w) (base:=base) FLb FIl bIl mIl GIl FIm bIm mIm GIm (W.mg_of X G gFREE) (W.mg_none_of X G nlist) (W.mg_none_of X G nany) (W.mg_none_of X G nall) (W.mg_none_of X G ntuple);have GDe:=Zgz (P:=l.prog) (w:=w) (base:=base) FDe FWr bWr mWr GWr FLb bLb mLb GLb;have GLr:=ZgA (P:=l.prog) (w:=w) (base:=base) FLr (W.mg_none_of X G nenumerate);have GSo:=ZgC (P:=l.prog) (w:=w) (base:=base) FSo FLr bLr mLr GLr (W.mg_none_of X G nenumerate);have GFm:=ZgE (P:=l.prog) (w:=w) (base:=base) FFm FBe bBe mBe GBe (W.mg_of X G gFREE) (W.mg_none_of X G nall) (W.mg_none_of X G ntuple);have GMb:=ZgG (P:=l.prog) (w:=w) (base:=base) FMb FFm bFm mFm GFm FSo bSo mSo GSo FDe bDe mDe GDe (W.mg_none_of X G nenumerate) (W.mg_none_of X G nrange);have GHo:=ZgH (P:=l.prog) (w:=w) (base:=base) FHo FCe bCe mCe GCe FCs bCs mCs GCs FMb bMb mMb GMb FMe bMe mMe GMe;have GFr:=Zfo (P:=l.prog) (w:=w) (base:=base) FFr FP bP mP FCs bCs mCs GCs (W.mg_none_of X G nsorted) (W.mg_none_of X G nset);have GWi:=ZgL (P:=l.prog) (w:=w) (base:=base) FWi FId bId mId GId (W.mg_of X G gDONE) (W.mg_none_of X G ntuple);have GWo:=ZgM (P:=l.prog) (w:=w) (base:=base) FWo FCe bCe mCe GCe FCs bCs mCs GCs FMb bMb mMb GMb FMe bMe mMe GMe FFr bFr mFr GFr FWi bWi mWi GWi (W.mg_of X G gW) xW;have GBs:=ZgN (P:=l.prog) (w:=w) (base:=base) FBs FDe bDe mDe GDe;have GNb:=ZgO (P:=l.prog) (w:=w) (base:=base) FNb FFm bFm mFm GFm FSo bSo mSo GSo FBs bBs mBs GBs;have GWs:=ZgP (P:=l.prog) (w:=w) (base:=base) FWs FCe bCe mCe GCe FCs bCs mCs GCs FMe bMe mMe GMe FNb bNb mNb GNb FFr bFr mFr GFr FWi bWi mWi GWi (W.mg_none_of X G nsorted);have GCa:=Zfd (P:=l.prog) (w:=w) (base:=base) FCa (W.mg_none_of X G nlen);have GSt:=Zd7 (P:=l.prog) (w:=w) (base:=base) (mg:=mg) FSt;have GDt:=Zfr (P:=l.prog) (w:=w) (base:=base) FDt FSt bSt mSt GSt;have GWe:=Zfv (P:=l.prog) (w:=w) (base:=base) FWe FCa bCa mCa GCa FDt bDt mDt GDt (W.mg_none_of X G nrange) (W.mg_none_of X G nlen);have GTw:=Zft (P:=l.prog) (w:=w) (base:=base) FTw FCa bCa mCa GCa;have GSs:=Zeb (P:=l.prog) (w:=w) (base:=base) FSs (W.mg_none_of X G nrange) (W.mg_none_of X G nlen) (W.mg_none_of X G nsorted);have GAl:=ZgR (P:=l.prog) (w:=w) (base:=base) FAl (W.mg_none_of X G nrange);have GDg:=ZgS (P:=l.prog) (w:=w) (base:=base) (mg:=mg) FDg;have GPi:=ZgT (P:=l.prog) (w:=w) (base:=base) FPi (W.mg_none_of X G nrange) (W.mg_none_of X G nlist) (W.mg_none_of X G nmin) (W.mg_none_of X G nmax);have GLh:=ZgU (P:=l.prog) (w:=w) (base:=base) FLh FDg bDg mDg GDg FPi bPi mPi GPi (W.mg_none_of X G nrange) (W.mg_none_of X G nlen) (W.mg_none_of X G nint) (W.mg_none_of X G nall);exact Zfy FL FCa bCa mCa GCa FWe bWe mWe GWe FTw bTw mTw GTw FSs bSs mSs GSs FAl bAl mAl GAl FLh bLh mLh GLh FHo bHo mHo GHo FWo bWo mWo GWo FWs bWs mWs GWs (W.mg_none_of X G nlist) (W.mg_none_of X G nlen) (W.mg_none_of X G nsorted)
theorem walk {l:W.OpenLaw}{q:PP}{loose:List Str}{XP:(Str->Option Aa)->Heap->Prop}{YP:Ab->Heap->Prop}{d:DefRec}{K:Params->FF}(hn:l.most=some 63)(hdf:d.params.defaults=[])(hY:∀(w:Ab)(h:Heap),YP w h->(K w.params).In h)(F:∀(w:Ab)(mg:Str->Option Aa)(fa:AD)(h:Heap),(K w.params).In h->h.Ns mainGlobals mg->mg d.name=some (.ref fa) ->
   ∃fd:FuncData,(∀(s:SS)(u:Aa),BindsTo s fd ⟨[u],[]⟩ [("script", u)])/\∀base:Heap,(K w.params).In base->base.Ns mainGlobals mg->GG l.prog w (K w.params) mg base CX0 7 fa fd ["script"] (ZcN (K w.params))) :
  W.WalkO q loose XP YP l.row.toRowW d [] (λf vs=>PySem.call f vs):=
 L2.walk_of (n:=63) (k:=7) (x := "script") (CX:=λ_=>CX0) (sp:=λw=>ZcN (K w.params)) hn (by decide) hdf ⟨rfl,by decide,by decide⟩ hY F (λ_ _ a ns hl _ hS=>⟨a,ns,rfl,hS,hl,λ_=>rfl⟩) λ_ _ _ _ _ z=>z
end M
open PySem PySem.W PyProof.Rows
local macro_rules
 | `(tactic| o_head $H)=>`(tactic| (
  refine @holds_open _ M.seenP M.loosely M.hookX (XL M.seenP []) _ (Hook.obs $H) (Hook.val $H) (Hook.says $H) _ _ 4748
   (@M.left_boot M.rowP M.seenP M.loosely M.hookX _ (Hook.obs $H) (Hook.val $H) 4748 ?b1 ?b2 ?b3 M.topC M.topA ?hl)
   (Hook.of $H) (Hook.keeps $H) ?h1 XL.keeps (by rfl) (by rfl) (by rfl) ?h5 ?h6 ?h7 ?h8 ?h9 ?hw ?hc
  (case h1=>exact λs e=>xl_of s (Bool.and_eq_true_iff.mp e).1)
  (case h5=>exact λs e=>recFacts_of (Bool.and_eq_true_iff.mp e).2)
  (case h6=>rfl)
  (case h7=>first | assumption | decide +kernel)
  (case h8=>decide +kernel)
  (case h9=>exact ⟨rfl,rfl,rfl,rfl,rfl,by decide +kernel⟩)
  (case b1=>kernel_rfl)
  (case b2=>decide)
  (case b3=>(intro s;kernel_rfl))
  (case hl=>(intro w os;unfold M.topOf;rw [W.Fast.te14082659384304107361,W.Fast.te14364793385576792824];kernel_rfl))))
set_option maxRecDepth 100000 in
set_option maxHeartbeats 0 in
theorem PySem.Challenge.cw_onceways_k42_whole_like_walls_go_on_alik_holds : PySem.Challenge.rw_onceways_k42_whole_like_walls_go_on_alik.Holds := by
 w_on;o_law;k_head;(case hw=>w_witness2)
 k_fill
 refine M.walk (l:=PySem.Challenge.rw_onceways_k42_whole_like_walls_go_on_alik) rfl rfl (λw h Y=>W.kIn_of Y) ?F
 case F=>
  intro w mg fa h KX G hmg
  refine' M.all_mk KX G hmg ?_ ?_ ?_ ?_ ?_ ?_ ?_ ?_ ?_ ?_ ?_ ?_ ?_ ?_ ?_ ?_ ?_ ?_ ?_ ?_ ?_ ?_ ?_ ?_ ?_ ?_ ?_ ?_ ?_ ?_ ?_ ?_ ?_ ?_ ?_ ?_ ?aL ?lL ?cL ?kL ?gE ?gP ?gS ?gW ?xE ?xP ?xS ?xW ?gUSED ?gFREE ?gFIRST ?gSECOND ?gBARRED ?gDONE ?nrange ?nlist ?nlen ?nmax ?nsorted ?nset ?nall ?nany ?nenumerate ?ntuple ?nmin ?nint
  (case aL=>k_is)
  (case lL=>k_is)
  (case cL=>k_is)
  (case kL=>k_is)
  (case gE=>k_is)
  (case gP=>k_is)
  (case gS=>k_is)
  (case gW=>k_is)
  (case xE=>(unfold L2.ExcC;k_exc))
  (case xP=>(unfold L2.ExcC;k_exc))
  (case xS=>(unfold L2.ExcC;k_exc))
  (case xW=>(unfold L2.ExcC;k_exc))
  (case gUSED=>k_is)
  (case gFREE=>k_is)
  (case gFIRST=>k_is)
  (case gSECOND=>k_is)
  (case gBARRED=>k_is)
  (case gDONE=>k_is)
  (case nrange=>k_is)
  (case nlist=>k_is)
  (case nlen=>k_is)
  (case nmax=>k_is)
  (case nsorted=>k_is)
  (case nset=>k_is)
  (case nall=>k_is)
  (case nany=>k_is)
  (case nenumerate=>k_is)
  (case ntuple=>k_is)
  (case nmin=>k_is)
  (case nint=>k_is)
  any_goals exact L2.FX.mk (by k_is) (by k_is) (by k_is) (by k_is)
#print axioms PySem.Challenge.cw_onceways_k42_whole_like_walls_go_on_alik_holds
