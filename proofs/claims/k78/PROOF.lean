import PyProof.Rows.All
import Wide.All
import OpenK.AllK
import Wide.FinOn
import Lean
import PyProof.EqAt
import PyProof.EqKinds
import PyProof.TupleCall
import PyProof.SumAny
import PySem.Challenge.RW_onceways_k78_whole_wishes_of_ways
set_option Elab.async false
set_option linter.all false
set_option maxRecDepth 100000
set_option maxHeartbeats 4000000
namespace L2
open PySem PySem.Spec PyProof.Rows
abbrev Key:=Sum Int Str
def W4:Key->Value->Bool
 | .inl k,v=>Value.isInt k v
 | .inr x,v=>Value.isStrOf x v
def Zfz (w:World):Key->Int
 | .inl k=>hashInt k
 | .inr x=>hashStr w x
theorem Jk:∀{k:Key}{v:Value},W4 k v=true->(∃i t,k=Sum.inl i/\v=Value.int i t)\/(∃x t,k=Sum.inr x/\v=Value.str x t)
 | .inl i,v,h=>by
  obtain ⟨t,e⟩:=Value.isInt_shape (k:=i) (v:=v) h;exact .inl ⟨i,t,rfl,e⟩
 | .inr x,v,h=>by
  obtain ⟨t,e⟩:=Value.isStrOf_shape (x:=x) (v:=v) h;exact .inr ⟨x,t,rfl,e⟩
theorem XF (i:Int)(t:Tok):W4 (.inl i) (.int i t)=true:=by simp [W4,Value.isInt]
theorem XG (x:Str)(t:Tok):W4 (.inr x) (.str x t)=true:=by simp [W4,Value.isStrOf]
theorem Zcn (a b:Int):decide ((Sum.inl a:Key)=Sum.inl b)=(a == b):=by
 by_cases e:a=b
 ·subst e;simp
 ·have h:¬ (Sum.inl a:Key)=Sum.inl b:=λq=>e (Sum.inl.inj q);rw [decide_eq_false h];exact (beq_eq_false_iff_ne.mpr e).symm
theorem Zco (a b:Str):decide ((Sum.inr a:Key)=Sum.inr b)=decide (a=b):=by
 by_cases e:a=b
 ·subst e;simp
 ·have h:¬ (Sum.inr a:Key)=Sum.inr b:=λq=>e (Sum.inr.inj q);rw [decide_eq_false h,decide_eq_false e]
theorem Zcp (a:Int)(b:Str):decide ((Sum.inl a:Key)=Sum.inr b)=false:=decide_eq_false (λq=>nomatch q)
theorem Zcq (a:Str)(b:Int):decide ((Sum.inr a:Key)=Sum.inl b)=false:=decide_eq_false (λq=>nomatch q)
def Jh (prog:Program)(w:World):PySem.KeyKind prog w Key where
 is:=W4
 hash:=Zfz w
 inj:=λv a b ha hb=>by
  rcases Jk ha with ⟨i,t,rfl,rfl⟩ | ⟨x,t,rfl,rfl⟩
  ·rcases Jk hb with ⟨j,u,rfl,e⟩ | ⟨y,u,rfl,e⟩
   ·injection e with e1 _;rw [e1]
   ·exact nomatch e
  ·rcases Jk hb with ⟨j,u,rfl,e⟩ | ⟨y,u,rfl,e⟩
   ·exact nomatch e
   ·injection e with e1 _;rw [e1]
 byValue:=λk v h=>by
  rcases Jk h with ⟨i,t,rfl,rfl⟩ | ⟨x,t,rfl,rfl⟩ <;> rfl
 pyHash:=λhv h=>by
  rcases Jk hv with ⟨i,t,rfl,rfl⟩ | ⟨x,t,rfl,rfl⟩
  ·exact wpAny_pyHash_int h
  ·exact wpAny_pyHash_str h
 eqBool:=λhu hv h=>by
  rcases Jk hu with ⟨i,t,rfl,rfl⟩ | ⟨x,t,rfl,rfl⟩
  ·rcases Jk hv with ⟨j,u,rfl,rfl⟩ | ⟨y,u,rfl,rfl⟩
   ·rw [Zcn] at h;exact wpAny_eqBool_int h
   ·rw [Zcp] at h;exact SeqAt.EqAt.int_str i t y u _ _ _ _ h
  ·rcases Jk hv with ⟨j,u,rfl,rfl⟩ | ⟨y,u,rfl,rfl⟩
   ·rw [Zcq] at h;exact SeqAt.EqAt.str_int x t j u _ _ _ _ h
   ·rw [Zco] at h;exact wpAny_eqBool_str h
 «strs»:=λk x t v h=>by
  rcases Jk h with ⟨i,u,rfl,e⟩ | ⟨y,u,rfl,e⟩
  ·exact nomatch e
  ·injection e with e1 _
   subst e1;cases v <;> rfl
theorem VZ (prog:Program)(w:World)(i:Int)(t:Tok):(Jh prog w).is (.inl i) (.int i t)=true:=XF i t
theorem G3 (prog:Program)(w:World)(x:Str)(t:Tok):(Jh prog w).is (.inr x) (.str x t)=true:=XG x t
end L2
namespace L2
open PySem PySem.Spec PyProof.Rows
inductive V where
 | non | bl (b:Bool) | int (i:Int) | str (x:Str) | byt (b:Array UInt8) | flt (b:UInt64) | ref (a:Addr) | ty (n:String)
 deriving DecidableEq
def RelV:V->Value->Prop
 | .non,u=>u=Value.none
 | .bl b,u=>u=Value.bool b
 | .int i,u=>∃t,u=Value.int i t
 | .str x,u=>∃t,u=Value.str x t
 | .byt b,u=>∃t,u=Value.bytes b t
 | .flt b,u=>∃t,u=Value.float b t
 | .ref a,u=>u=Value.ref a
 | .ty n,u=>u=Value.type n
abbrev Vals:List V->List Value->Prop:=Paired RelV
theorem Vals.length {xs:List V}{us:List Value}(r:Vals xs us):xs.length=us.length:=Paired.length r
theorem Vals.get:∀{xs:List V}{us:List Value}{i:Nat}{x:V},Vals xs us->xs[i]?=some x->∃u,us[i]?=some u/\RelV x u
 | _,_,_,_,.nil,e=>by simp at e
 | _,_,0,_,.cons r _,e=>by simp at e;subst e;exact ⟨_,rfl,r⟩
 | _,_,i+1,x,.cons _ t,e=>by
  obtain ⟨u,h1,h2⟩:=Vals.get (i:=i) (x:=x) t (by simpa using e);exact ⟨u,by simpa using h1,h2⟩
theorem Vals.append:∀{xs ys:List V}{us ws:List Value},Vals xs us->Vals ys ws->Vals (xs++ys) (us++ws)
 | _,_,_,_,.nil,s=>s
 | _,_,_,_,.cons r t,s=>.cons r (Vals.append t s)
theorem Vals.take:∀{xs:List V}{us:List Value}(n:Nat),Vals xs us->Vals (xs.take n) (us.take n)
 | _,_,0,_=>.nil
 | _,_,_+1,.nil=>.nil
 | _,_,n+1,.cons r t=>.cons r (Vals.take n t)
theorem Vals.drop:∀{xs:List V}{us:List Value}(n:Nat),Vals xs us->Vals (xs.drop n) (us.drop n)
 | _,_,0,r=>r
 | _,_,_+1,.nil=>.nil
 | _,_,n+1,.cons _ t=>Vals.drop n t
def RelO:Option V->Option Value->Prop
 | some v,some u=>RelV v u
 | none,none=>True
 | _,_=>False
def KV {κ:Type}:List (κ×V)->List (κ×Value)->Prop:=Paired λ(p:κ×V) (q:κ×Value)=>p.1=q.1/\RelV p.2 q.2
def kV:Key->V
 | .inl i=>.int i
 | .inr x=>.str x
inductive HO where
  | lst (xs:List V)
  | tup (xs:List V)
  | dK (kvs:List (Key×V)) | dT (kvs:List (List Key×V))
  | set (S:Int->Bool) (n:Nat)
  | ins (C dx:Addr) (fs:List (Str×V))
  | own (x:Addr)
  | xd (fs:List (Str×V))
  | met (f x:Addr)
  | rng (lo hi:Int)
  | frz (o:Obj) (u:HO)
  | tbl (ps:Array Value)
  | ext (φ:Heap->Prop)
abbrev Hp:=Addr->Option HO
def upd (H:Hp)(a:Addr)(o:HO):Hp:=λb=>if b=a then some o else H b
theorem Gb {H:Hp}{a:Addr}{o:HO}:upd H a o a=some o:=by unfold upd;rw [if_pos rfl]
theorem Gu {H:Hp}{a b:Addr}{o:HO}(h:b≠a):upd H a o b=H b:=by unfold upd;rw [if_neg h]
theorem W6 {H:Hp}{a b:Addr}{o u:HO}(h:H a=some o)(h':H b=some u)(d:o≠u):a≠b:=by
 intro e;subst e;rw [h] at h';exact d (Option.some.inj h')
theorem Gn {H:Hp}{a b:Addr}{o:HO}(h:H a=some o)(h':H b=none):a≠b:=by
 intro e;subst e;rw [h] at h';cases h'
section
variable (P:Program)(w:World)
def ObjOk (H:Hp)(h:Heap)(a:Addr):HO->Prop
 | .lst xs=>xs.length<=sizeLine/\∃(its:List Value)(n:Nat),Vals xs its/\h.get? a=some { cls:=.type "list", data:=.seq its.toArray n }
 | .tup xs=>xs.length<=sizeLine/\∃its:List Value,Vals xs its/\IsTup h a its.toArray
 | .dK kvs=>kvs.length<=sizeLine/\(a == sysModules)=false/\∃vs,KV kvs vs/\h.DictOf (Jh P w) a vs
 | .dT kvs=>kvs.length<=sizeLine/\(a == sysModules)=false/\∃xs:List (List Key×Addr×Value),
   Paired (λ(p:List Key×V) (q:List Key×Addr×Value)=>p.1=q.1/\H q.2.1=some (.tup (p.1.map kV))/\RelV p.2 q.2.2) kvs xs /\
   ∃o es ep,h.get? a=some o/\o.ExactDict/\o.data=.dict es ep/\es.toList=xs.map (entryOfKey (tupleKind (Jh P w)))/\(xs.map (·.1)).Nodup
 | .set S n=>h.SetOf (intKind P w) a S n
 | .ins C dx fs=>H dx=some (.own a)/\fs.length<=1000/\dx≠a/\h.get? a=some (W.instObj C dx) /\
   ∃mA,h.Ns1 dx mA/\(∀f,RelO (fs.lookup f) (mA f))/\PySem.Within mA (fs.map (·.1))
 | .own _=>∃o,h.get? a=some o
 | .xd fs=>∃mA,h.Ns1 a mA/\∀f,RelO (fs.lookup f) (mA f)
 | .rng lo hi=>∃t u v,h.get? a=some { cls:=.type "range", data:=.fields #[.int lo t,.int hi u,.int 1 v] }
 | .frz o u=>h.get? a=some o/\ObjOk H h a u
 | .tbl ps=>h.get? a=some { cls:=.none,data:=.fields ps }
 | .met f x=>h.get? a=some (W.methodObj (.ref f) (.ref x))
 | .ext φ=>φ h/\(∃o,h.get? a=some o)/\∀h1 h2:Heap,φ h1->(∀o,h1.get? a=some o->h2.get? a=some o)->φ h2
def HOk (H:Hp)(h:Heap):Prop:=∀a o,H a=some o->ObjOk P w H h a o
end
section
variable {P:Program}{w:World}{H H':Hp}{h h':Heap}{a:Addr}{o:HO}
theorem ObjOk.lt (x:ObjOk P w H h a o):a<h.objs.size:=by
 cases o with
 | lst xs=>obtain ⟨_,_,_,_,e⟩:=x;exact Heap.lt_size e
 | tup xs=>obtain ⟨_,_,_,p⟩:=x;exact p.lt
 | dK kvs=>obtain ⟨_,_,_,_,o,_,_,e,_⟩:=x;exact Heap.lt_size e
 | dT kvs=>obtain ⟨_,_,_,_,o,_,_,e,_⟩:=x;exact Heap.lt_size e
 | set S n=>obtain ⟨o,_,_,_,e,_⟩:=x;exact Heap.lt_size e
 | ins C dx fs=>obtain ⟨_,_,_,e,_⟩:=x;exact Heap.lt_size e
 | own y=>obtain ⟨_,e⟩:=x;exact Heap.lt_size e
 | xd fs=>obtain ⟨_,⟨_,_,_,e,_⟩,_⟩:=x;exact Heap.lt_size e
 | rng lo hi=>obtain ⟨_,_,_,e⟩:=x;exact Heap.lt_size e
 | frz ob u=>obtain ⟨e,_⟩:=x;exact Heap.lt_size e
 | tbl ps=>exact Heap.lt_size (show h.get? a=some _ from x)
 | met f y=>exact Heap.lt_size (show h.get? a=some _ from x)
 | ext φ=>obtain ⟨_,⟨_,e⟩,_⟩:=x;exact Heap.lt_size e
theorem Paired.mapP {α β:Type}{F G:α->β->Prop}:∀{l₁:List α}{l₂:List β},Paired F l₁ l₂->(∀a b,F a b->G a b)->Paired G l₁ l₂
 | _,_,.nil,_=>.nil
 | _,_,.cons r t,f=>.cons (f _ _ r) (Paired.mapP t f)
theorem ObjOk.stay (x:ObjOk P w H h a o)(k:∀b u,(b=a\/H b=some (.own a))->h.get? b=some u->h'.get? b=some u)(ho:∀b,H b=some (.own a)->H' b=some (.own a))(ht:∀b xs,H b=some (.tup xs)->H' b=some (.tup xs)):ObjOk P w H' h' a o:=by
 induction o with
 | lst xs=>obtain ⟨z,its,n,r,e⟩:=x;exact ⟨z,its,n,r,k _ _ (.inl rfl) e⟩
 | tup xs=>obtain ⟨z,its,r,ob,e,c⟩:=x;exact ⟨z,its,r,ob,k _ _ (.inl rfl) e,c⟩
 | dK kvs=>obtain ⟨z,y,vs,r,ob,es,ep,e,c⟩:=x;exact ⟨z,y,vs,r,ob,es,ep,k _ _ (.inl rfl) e,c⟩
 | dT kvs=>
  obtain ⟨z,y,xs,r,ob,es,ep,e,c⟩:=x;exact ⟨z,y,xs,Paired.mapP r λp q z=>⟨z.1,ht _ _ z.2.1,z.2.2⟩,ob,es,ep,k _ _ (.inl rfl) e,c⟩
 | set S n=>obtain ⟨ob,es,ep,t,e,c⟩:=x;exact ⟨ob,es,ep,t,k _ _ (.inl rfl) e,c⟩
 | ins C dx fs=>
  obtain ⟨d,z,ne,e,mA,⟨od,es,ep,e2,c⟩,r⟩:=x;exact ⟨ho _ d,z,ne,k _ _ (.inl rfl) e,mA,⟨od,es,ep,k _ _ (.inr d) e2,c⟩,r⟩
 | own y=>obtain ⟨ob,e⟩:=x;exact ⟨ob,k _ _ (.inl rfl) e⟩
 | xd fs=>obtain ⟨mA,⟨od,es,ep,e,c⟩,r⟩:=x;exact ⟨mA,⟨od,es,ep,k _ _ (.inl rfl) e,c⟩,r⟩
 | rng lo hi=>obtain ⟨t,u,v,e⟩:=x;exact ⟨t,u,v,k _ _ (.inl rfl) e⟩
 | frz ob u ih=>obtain ⟨e,q⟩:=x;exact ⟨k _ _ (.inl rfl) e,ih q⟩
 | tbl ps=>
  have e:h.get? a=some { cls:=.none,data:=.fields ps }:=x;show h'.get? a=some { cls:=.none,data:=.fields ps };exact k a _ (.inl rfl) e
 | met f y=>
  have e:h.get? a=some (W.methodObj (.ref f) (.ref y)):=x;show h'.get? a=some (W.methodObj (.ref f) (.ref y));exact k a _ (.inl rfl) e
 | ext φ=>obtain ⟨p,⟨o,e⟩,st⟩:=x;exact ⟨st _ _ p λo q=>k _ _ (.inl rfl) q,⟨o,k _ _ (.inl rfl) e⟩,st⟩
theorem HOk.lt (x:HOk P w H h)(e:H a=some o):a<h.objs.size:=(x a o e).lt
theorem HOk.fresh (x:HOk P w H h)(e:h.objs.size<=a):H a=none:=by
 cases q:H a with
 | none=>rfl
 | some u=>exact absurd (Nat.lt_of_lt_of_le (x.lt q) e) (Nat.lt_irrefl _)
theorem HOk.kept (x:HOk P w H h)(k:∀b u,h.get? b=some u->h'.get? b=some u):HOk P w H h':=λa o e=>
 (x a o e).stay (λb u _ q=>k b u q) (λ_ q=>q) λ_ _ q=>q
theorem HOk.laid (x:HOk P w H h)(k:∀b u,h.get? b=some u->h'.get? b=some u)(hp:h.objs.size<=a)(new:ObjOk P w (upd H a o) h' a o):HOk P w (upd H a o) h':=λb u e=>by
 have hn:=x.fresh hp;by_cases hb:b=a
 ·subst hb;rw [Gb] at e;cases e;exact new
 ·rw [Gu hb] at e;exact (x b u e).stay (λc v _ q=>k c v q) (λc q=>by rw [Gu (Gn q hn)];exact q) λc xs q=>by rw [Gu (Gn q hn)];exact q
end
def Rd (H:Hp)(a:Addr)(u:HO):Prop:=H a=some u\/∃o,H a=some (.frz o u)
theorem Rd.ok {P:Program}{w:World}{H:Hp}{h:Heap}{a:Addr}{u:HO}(r:Rd H a u)(x:HOk P w H h):ObjOk P w H h a u:=by
 rcases r with r | ⟨o,r⟩
 ·exact x a u r
 ·obtain ⟨_,q⟩:=x a _ r;exact q
def Mut:Option HO->Prop
 | some (.lst _)=>True
 | some (.dK _)=>True
 | some (.dT _)=>True
 | some (.set _ _)=>True
 | some (.ins _ _ _)=>True
 | some (.ext _)=>True
 | _=>False
section
variable {P:Program}{w:World}{H:Hp}{h h':Heap}{x e:Addr}{o':HO}
theorem HOk.write (ok:HOk P w H h)(mu:Mut (H x))(he:e=x\/H e=some (.own x))(k:∀b u,b≠e->h.get? b=some u->h'.get? b=some u)(heo:∃u,h'.get? e=some u)(new:ObjOk P w (upd H x o') h' x o'):HOk P w (upd H x o') h':=λb u q=>by
 have nown:∀c y,H c=some (.own y)->c≠x:=λc y r z=>by subst z;rw [r] at mu;exact mu
 have ntup:∀c xs,H c=some (.tup xs)->c≠x:=λc xs r z=>by subst z;rw [r] at mu;exact mu
 by_cases hb:b=x
 ·subst hb;rw [Gb] at q;cases q;exact new
 ·rw [Gu hb] at q;by_cases hbe:b=e
  ·have q':H b=some (.own x):=by
    rcases he with z | z
    ·exact absurd (hbe.trans z) hb
    ·rw [hbe];exact z
   rw [q] at q';cases q';obtain ⟨v,hv⟩:=heo;exact ⟨v,by rw [hbe];exact hv⟩
  ·refine (ok b u q).stay (λc v hc r=>k c v ?_ r) (λc r=>by rw [Gu (nown c b r)];exact r) λc xs r=>by rw [Gu (ntup c xs r)];exact r
   rcases hc with rfl | hc
   ·exact hbe
   ·rintro rfl;rcases he with z | z
    ·exact nown c b hc z
    ·rw [hc] at z;cases z;exact hb rfl
end
structure Un (fs ex:List Addr)(H H':Hp)(h h':Heap):Prop where
 keep:∀b o,h.get? b=some o->H b=none->b ∉ fs->b ∉ ex->h'.get? b=some o
 slot:∀b o,h.get? b=some o->H b=none->b∈fs->b ∉ ex->∃sl,h'.get? b=some { o with slots:=sl }
 free:∀b o,h.get? b=some o->H b=none->b ∉ ex->H' b=none
 there:∀b o,h.get? b=some o->b ∉ ex->∃o',h'.get? b=some o'
 tups:∀b xs,H b=some (.tup xs)->H' b=some (.tup xs)
 frzs:∀b o u,H b=some (.frz o u)->H' b=some (.frz o u)
 tbls:∀b ps,H b=some (.tbl ps)->∃more,H' b=some (.tbl (ps++more))
section
variable {fs fs' ex ex':List Addr}{H H1 H2:Hp}{h h1 h2 h':Heap}{a x e:Addr}{o:HO}
theorem Un.any (u:Un fs ex H H1 h h1){b:Addr}{ob:Obj}(q:h.get? b=some ob)(n:H b=none)(hx:b ∉ ex):∃sl,h1.get? b=some { ob with slots:=sl }:=by
 by_cases hb:b∈fs
 ·exact u.slot b ob q n hb hx
 ·exact ⟨ob.slots,u.keep b ob q n hb hx⟩
theorem Un.trans (a:Un fs ex H H1 h h1)(b:Un fs ex H1 H2 h1 h2):Un fs ex H H2 h h2 where
 keep:=λc ob q n hc hx=>b.keep c ob (a.keep c ob q n hc hx) (a.free c ob q n hx) hc hx
 slot:=λc ob q n hc hx=>by
  obtain ⟨sl,e1⟩:=a.slot c ob q n hc hx;obtain ⟨sl',e2⟩:=b.slot c _ e1 (a.free c ob q n hx) hc hx;exact ⟨sl',e2⟩
 free:=λc ob q n hx=>by
  obtain ⟨o',e1⟩:=a.there c ob q hx;exact b.free c o' e1 (a.free c ob q n hx) hx
 there:=λc ob q hx=>by
  obtain ⟨o',e1⟩:=a.there c ob q hx;exact b.there c o' e1 hx
 tups:=λc xs q=>b.tups c xs (a.tups c xs q)
 frzs:=λc ob xs q=>b.frzs c ob xs (a.frzs c ob xs q)
 tbls:=λc ps q=>by
  obtain ⟨m1,e1⟩:=a.tbls c ps q;obtain ⟨m2,e2⟩:=b.tbls c _ e1;exact ⟨m1++m2,by rw [e2,Array.append_assoc]⟩
theorem Un.kept (k:∀b u,h.get? b=some u->h'.get? b=some u):Un fs ex H H h h':=
 ⟨λb ob q _ _ _=>k b ob q,λb ob q _ _ _=>⟨ob.slots,k b ob q⟩,λ_ _ _ n _=>n,λb ob q _=>⟨ob,k b ob q⟩,λ_ _ q=>q,λ_ _ _ q=>q,λ_ ps q=>⟨#[],by rw [q];simp⟩⟩
theorem Un.refl:Un fs ex H H h h:=Un.kept λ_ _ q=>q
theorem Un.laid (k:∀b u,h.get? b=some u->h'.get? b=some u)(hp:h.objs.size<=a)(hn:H a=none):Un fs ex H (upd H a o) h h' where
 keep:=λb u q _ _ _=>k b u q
 slot:=λb u q _ _ _=>⟨u.slots,k b u q⟩
 free:=λb u q n _=>by rw [Gu (Nat.ne_of_lt (Nat.lt_of_lt_of_le (Heap.lt_size q) hp))];exact n
 there:=λb u q _=>⟨u,k b u q⟩
 tups:=λb xs q=>by rw [Gu (Gn q hn)];exact q
 frzs:=λb u xs q=>by rw [Gu (Gn q hn)];exact q
 tbls:=λb ps q=>⟨#[],by rw [Gu (Gn q hn),q];simp⟩
theorem Un.write (mu:Mut (H x))(he:e=x\/H e=some (.own x))(k:∀b u,b≠e->h.get? b=some u->h'.get? b=some u)(heo:∃u,h'.get? e=some u):Un fs ex H (upd H x o) h h':=by
 have hx:∀b,H b=none->b≠x:=λb n z=>by subst z;rw [n] at mu;exact mu
 have hb:∀b,H b=none->b≠e:=λb n z=>by
  subst z;rcases he with r | r
  ·exact hx b n r
  ·rw [n] at r;cases r
 have hm:∀b u,H b=some u->¬ Mut (some u)->b≠x:=λb u q nm z=>by subst z;rw [q] at mu;exact nm mu
 refine ⟨λb u q n _ _=>k b u (hb b n) q,λb u q n _ _=>⟨u.slots,k b u (hb b n) q⟩,λb u q n _=>by rw [Gu (hx b n)];exact n,λb u q _=>?_,
  λb xs q=>by rw [Gu (hm b _ q λz=>z)];exact q,λb u xs q=>by rw [Gu (hm b _ q λz=>z)];exact q,λb ps q=>⟨#[],by rw [Gu (hm b _ q λz=>z),q];simp⟩⟩
 by_cases hbe:b=e
 ·subst hbe;exact heo
 ·exact ⟨u,k b u hbe q⟩
theorem Un.mono (u:Un fs ex H H1 h h1)(hs:∀b∈fs,b∈fs')(hx:∀b∈ex,b∈ex'):Un fs' ex' H H1 h h1:=
 ⟨λb ob q n hb he=>u.keep b ob q n (λz=>hb (hs b z)) λz=>he (hx b z),λ_ _ q n _ he=>u.any q n λz=>he (hx _ z),λb ob q n he=>u.free b ob q n λz=>he (hx b z),λb ob q he=>u.there b ob q λz=>he (hx b z),u.tups,u.frzs,u.tbls⟩
end
def trk (h:Heap)(H:Hp):List Addr:=(List.range h.objs.size).filter λa=>(H a).isSome
def XH (h:Heap)(H:Hp):Heap:=W.hideAll h (trk h H)
theorem XI (h:Heap)(H:Hp):(XH h H).objs.size=h.objs.size:=W.hideAll_size _ _
theorem Zd {h:Heap}{H:Hp}{b:Addr}{o:Obj}(e:h.get? b=some o)(n:H b=none):(XH h H).get? b=some o:=
 W.hideAll_get _ e λhm=>by
  have q:(H b).isSome=true:=(List.mem_filter.mp hm).2;rw [n] at q;simp at q
theorem ZaR {h:Heap}{H:Hp}{b:Addr}{o:Obj}(e:(XH h H).get? b=some o):h.get? b=some o/\H b=none:=by
 have e':h.get? b=some o:=W.of_hideAll (trk h H) e;refine ⟨e',?_⟩;cases q:H b with
 | none=>rfl
 | some x=>
  have hm:b∈trk h H:=List.mem_filter.mpr ⟨List.mem_range.mpr (Heap.lt_size e'),by simp [q]⟩;have z:(XH h H).get? b=none:=W.hideAll_none (trk h H) hm;rw [z] at e;cases e
end L2
namespace L2
open PySem PySem.Spec PyProof.Rows
structure Mod (K:W.Frag)(mg:Str->Option Value)(base:Heap):Prop where
 kin:K.In base
 glob:base.Ns mainGlobals mg
 blt:∃mb,base.Ns builtinsNs mb/\∀x:Str,x ≠ "__name__" -> mb x=bootBuiltins x
 nolimit:base.NoLimit
structure Cx where
 prog:Program
 w:World
 K:W.Frag
 mg:Str->Option Value
 base:Heap
 A:Around
 N:List Str
 s₀:Shared
 H₀:Hp
 env:Env
 outer:List Env
 stack:List Env
 ex:List Addr
 fn:Str->Bool
 calm:Bool
 pn:List (Addr×Obj)
 xe:Value->Shared->Prop
def frs (l:List Env):List Addr:=l.filterMap (·.frame)
abbrev Cx.fs (X:Cx):List Addr:=frs X.outer
def Vis (sc:Scope)(x:Str):Prop:=sc.names.lookup x=some .local\/sc.names.lookup x=some .cell\/sc.names.lookup x=some .free
def Loc (sc:Scope)(x:Str):Prop:=sc.names.lookup x=some .local\/sc.names.lookup x=some .cell
def ZfA (env:Env)(h:Heap)(m:Str->Option Value)(x:Str)(u:Value):Prop:=
 (env.kindOf x=some .local/\m x=some u)\/((env.kindOf x=some .cell\/env.kindOf x=some .free)/\∃c,env.cells.lookup x=some c/\h.IsCell c (some u))
structure Cx.Ok (X:Cx):Prop where
 mod:Mod X.K X.mg X.base
 kind:X.env.scope.kind=.function
 glob:X.env.globals=mainGlobals
 blt:X.env.builtins=builtinsNs
 above:X.s₀.heap.objs.size<=X.env.locals
 inj:∀x y c,X.env.cells.lookup x=some c->X.env.cells.lookup y=some c->x=y
 has:∀x,(X.env.kindOf x=some .cell\/X.env.kindOf x=some .free)->∃c,X.env.cells.lookup x=some c
 cab:∀x c,X.fn x=true->X.env.cells.lookup x=some c->X.s₀.heap.objs.size<=c
 hd:X.calm=true->X.A.handled=none
 frames:X.A.frames=some X.stack
 stk:X.stack=X.outer\/(X.stack=X.env::X.outer/\X.env.frame=some X.env.locals)
 exf:∀b∈X.ex,b≠X.env.locals/\∀x c,X.env.cells.lookup x=some c->c≠b
 bs:∀b o,X.base.get? b=some o->X.s₀.heap.get? b=some o/\X.H₀ b=none
 bsz:X.base.objs.size<=X.s₀.heap.objs.size
 noex:∀b o,X.base.get? b=some o->b ∉ X.ex
 exfs:∀b∈X.ex,b ∉ X.fs
 funs:X.s₀.heap.FunFrames X.base X.outer
 frf:∀b∈X.fs,X.H₀ b=none
structure Inv (X:Cx)(qQ:List (Addr×Obj))(σ:List (Option V))(H:Hp)(s:Shared):Prop where
 ok:X.Ok
 os:s.os=X.s₀.os
 bare:AllBare s.gens
 base:Un X.fs X.ex X.H₀ H X.s₀.heap s.heap
 loc:∃m,s.heap.Ns X.env.locals m/\∀(i:Nat)(x:Str)(v:V),X.N[i]?=some x->σ[i]?=some (some v)->Vis X.env.scope x->∃u,RelV v u/\ZfA X.env s.heap m x u
 cell:∀x c,X.env.cells.lookup x=some c->∃v,s.heap.IsCell c v
 free:H X.env.locals=none
 freeC:∀x c,X.env.cells.lookup x=some c->H c=none
 pin:∀p∈X.pn++qQ,s.heap.get? p.1=some p.2/\H p.1=none/\p.1≠X.env.locals/\p.1 ∉ X.fs/\∀v,p.2.data≠.cell v
 hok:HOk X.prog X.w H s.heap
 len:σ.length=X.N.length
section
variable {X:Cx}{qQ:List (Addr×Obj)}{σ:List (Option V)}{H H':Hp}{s:Shared}{h':Heap}
theorem Cx.Ok.nofr (ok:X.Ok){b:Addr}{o:Obj}(e:X.base.get? b=some o):b ∉ X.fs:=λhb=>by
 have:=(ok.funs.mem hb).1;rw [e] at this;cases this
theorem Inv.bs (I:Inv X qQ σ H s):∀b o,X.base.get? b=some o->s.heap.get? b=some o/\H b=none:=λb o e=>
 ⟨I.base.keep b o (I.ok.bs b o e).1 (I.ok.bs b o e).2 (I.ok.nofr e) (I.ok.noex b o e),I.base.free b o (I.ok.bs b o e).1 (I.ok.bs b o e).2 (I.ok.noex b o e)⟩
theorem Inv.bk (I:Inv X qQ σ H s):∀b o,X.base.get? b=some o->s.heap.get? b=some o:=λb o e=>(I.bs b o e).1
theorem Inv.mod (I:Inv X qQ σ H s):Mod X.K X.mg X.base:=I.ok.mod
theorem Inv.kIn (I:Inv X qQ σ H s):X.K.In s.heap:=I.ok.mod.kin.keeps I.bk
theorem Inv.lt (I:Inv X qQ σ H s):X.env.locals<s.heap.objs.size:=let ⟨_,hn,_⟩:=I.loc;hn.lt
theorem Inv.sz (I:Inv X qQ σ H s):X.s₀.heap.objs.size<=s.heap.objs.size:=Nat.le_trans I.ok.above (Nat.le_of_lt I.lt)
theorem Inv.nofs (I:Inv X qQ σ H s){a:Addr}(h:s.heap.objs.size<=a):a ∉ X.fs:=λhb=>by
 obtain ⟨_,o,ho,_⟩:=I.ok.funs.mem hb;exact absurd (Nat.lt_of_lt_of_le (Heap.lt_size ho) (Nat.le_trans I.sz h)) (Nat.lt_irrefl _)
theorem Inv.cne (I:Inv X qQ σ H s):∀x c,X.env.cells.lookup x=some c->c≠X.env.locals:=λx c e z=>by
 obtain ⟨v,o,ho,hd⟩:=I.cell x c e;obtain ⟨m,⟨o',es,ep,ho',hd',_⟩,_⟩:=I.loc;rw [z,ho'] at ho;cases ho;rw [hd'] at hd;cases hd
theorem Inv.funs (I:Inv X qQ σ H s):s.heap.FunFrames X.base X.outer:=by
 have all:∀(l:List Env),(∀b∈frs l,b∈X.fs)->X.s₀.heap.FunFrames X.base l->s.heap.FunFrames X.base l:=by
  intro l
  induction l with
  | nil=>intro _ _;trivial
  | cons env r ih=>
   intro hs hl;obtain ⟨hk,⟨L,o,hf,hn,ho,hd⟩,hr⟩:=hl;have hL:L∈X.fs:=hs L (by unfold frs;rw [List.filterMap_cons,hf];exact List.mem_cons_self);obtain ⟨sl,e⟩:=I.base.slot L o ho (I.ok.frf L hL) hL λz=>I.ok.exfs L z hL;exact ⟨hk,⟨L,_,hf,hn,e,hd⟩,ih (λb hb=>hs b (by unfold frs;rw [List.filterMap_cons,hf];exact List.mem_cons_of_mem _ hb)) hr⟩
 exact all X.outer (λ_ hb=>hb) I.ok.funs
theorem Inv.stack (I:Inv X qQ σ H s):s.heap.FunFrames X.base X.stack:=by
 rcases I.ok.stk with e | ⟨e,hf⟩
 ·rw [e];exact I.funs
 ·rw [e];obtain ⟨m,hn,_⟩:=I.loc;refine .cons (by rw [I.ok.kind];decide) hf hn ?_ I.funs;exact Heap.get?_none_of_le (Nat.le_trans I.ok.bsz I.ok.above)
theorem Inv.stkSub (I:Inv X qQ σ H s):∀b∈frs X.stack,b∈X.env.locals::X.fs:=λb hb=>by
 rcases I.ok.stk with e | ⟨e,hf⟩
 ·rw [e] at hb;exact List.mem_cons_of_mem _ hb
 ·rw [e] at hb;unfold frs at hb;rw [List.filterMap_cons,hf] at hb;exact hb
theorem Inv.stkFree (I:Inv X qQ σ H s):∀b∈frs X.stack,H b=none:=λb hb=>by
 rcases List.mem_cons.mp (I.stkSub b hb) with e | hb
 ·rw [e];exact I.free
 ·obtain ⟨_,o,ho,_⟩:=I.ok.funs.mem hb;exact I.base.free b o ho (I.ok.frf b hb) λz=>I.ok.exfs b z hb
theorem Inv.step {g':Array GenState}{t':Nat}{d':Drawn}{ch:List Addr}(I:Inv X qQ σ H s)(hch:∀b∈ch,(b∈X.ex\/X.s₀.heap.objs.size<=b)/\b≠X.env.locals/\(∀x c,X.env.cells.lookup x=some c->c≠b)/\∀p∈X.pn++qQ,p.1≠b)(keep:∀b o,b≠X.env.locals->b ∉ X.fs->b ∉ ch->s.heap.get? b=some o->H b=none->h'.get? b=some o)(slot:∀b o,b≠X.env.locals->b∈X.fs->b ∉ ch->s.heap.get? b=some o->H b=none->∃sl,h'.get? b=some { o with slots:=sl })(free:∀b o,b ∉ ch->s.heap.get? b=some o->H b=none->H' b=none)(there:∀b o,b ∉ ch->s.heap.get? b=some o->∃o',h'.get? b=some o')(tups:∀b xs,H b=some (.tup xs)->H' b=some (.tup xs))(frzs:∀b o u,H b=some (.frz o u)->H' b=some (.frz o u))(tbls:∀b ps,H b=some (.tbl ps)->∃more,H' b=some (.tbl (ps++more)))(ns:∀m,s.heap.Ns X.env.locals m->h'.Ns X.env.locals m)(hok:HOk X.prog X.w H' h')(hg:AllBare g') :
  Inv X qQ σ H' { s with heap:=h',gens:=g',drawn:=d',toks:=t' }:=by
 have neL:∀b o,X.s₀.heap.get? b=some o->b≠X.env.locals:=λb o e=>Nat.ne_of_lt (Nat.lt_of_lt_of_le (Heap.lt_size e) I.ok.above);have neC:∀b o,X.s₀.heap.get? b=some o->b ∉ X.ex->b ∉ ch:=λb o e hx hb=>by
  rcases (hch b hb).1 with z | z
  ·exact hx z
  ·exact absurd (Nat.lt_of_lt_of_le (Heap.lt_size e) z) (Nat.lt_irrefl _)
 have cellK:∀x c,X.env.cells.lookup x=some c->∀v,s.heap.IsCell c v->h'.IsCell c v:=λx c e v ⟨o,ho,hd⟩=>by
  have nch:c ∉ ch:=λz=>(hch c z).2.2.1 x c e rfl;by_cases hc:c∈X.fs
  ·obtain ⟨sl,q⟩:=slot c o (I.cne x c e) hc nch ho (I.freeC x c e);exact ⟨_,q,hd⟩
  ·exact ⟨o,keep c o (I.cne x c e) hc nch ho (I.freeC x c e),hd⟩
 refine ⟨I.ok,I.os,hg,⟨λb o e n hb hx=>?_,λb o e n hb hx=>?_,λb o e n hx=>?_,λb o e hx=>?_,λb xs e=>tups b xs (I.base.tups b xs e),λb o xs e=>frzs b o xs (I.base.frzs b o xs e),λb ps e=>?_⟩,?_,λx c e=>?_,?_,λx c e=>?_,λp hp=>?_,hok,I.len⟩
 ·exact keep b o (neL b o e) hb (neC b o e hx) (I.base.keep b o e n hb hx) (I.base.free b o e n hx)
 ·obtain ⟨sl,e1⟩:=I.base.slot b o e n hb hx;obtain ⟨sl',e2⟩:=slot b _ (neL b o e) hb (neC b o e hx) e1 (I.base.free b o e n hx);exact ⟨sl',e2⟩
 ·obtain ⟨o',e1⟩:=I.base.there b o e hx;exact free b o' (neC b o e hx) e1 (I.base.free b o e n hx)
 ·obtain ⟨o',e1⟩:=I.base.there b o e hx;exact there b o' (neC b o e hx) e1
 ·obtain ⟨m1,e1⟩:=I.base.tbls b ps e;obtain ⟨m2,e2⟩:=tbls b _ e1;exact ⟨m1++m2,by rw [e2,Array.append_assoc]⟩
 ·obtain ⟨m,hn,hl⟩:=I.loc;refine ⟨m,ns m hn,λi x v e1 e2 e3=>?_⟩;obtain ⟨u,r,l⟩:=hl i x v e1 e2 e3;refine ⟨u,r,?_⟩;rcases l with l | ⟨k,c,e,z⟩
  ·exact .inl l
  ·exact .inr ⟨k,c,e,cellK x c e _ z⟩
 ·obtain ⟨v,z⟩:=I.cell x c e;exact ⟨v,cellK x c e v z⟩
 ·obtain ⟨m,⟨o,_,_,ho,_⟩,_⟩:=I.loc;exact free _ o (λz=>(hch _ z).2.1 rfl) ho I.free
 ·obtain ⟨v,o,ho,hd⟩:=I.cell x c e;exact free c o (λz=>(hch c z).2.2.1 x c e rfl) ho (I.freeC x c e)
 ·obtain ⟨e,n,ne,nf,d⟩:=I.pin p hp;have nch:p.1 ∉ ch:=λz=>(hch p.1 z).2.2.2 p hp rfl;exact ⟨keep p.1 p.2 ne nf nch e n,free p.1 p.2 nch e n,ne,nf,d⟩
theorem Inv.un {t':Nat}(I:Inv X qQ σ H s)(u:Un X.fs [] H H' s.heap h')(hok:HOk X.prog X.w H' h'):Inv X qQ σ H' { s with heap:=h',toks:=t' }:=by
 obtain ⟨m,⟨o,es,ep,ho,r⟩,_⟩:=id I.loc;obtain ⟨sl,hL⟩:=u.any ho I.free (by simp);exact I.step (g':=s.gens) (d':=s.drawn) (ch:=[]) (λ_ z=>nomatch z) (λb o _ hb _ e n=>u.keep b o e n hb (by simp)) (λb o _ hb _ e n=>u.slot b o e n hb (by simp)) (λb o _ e n=>u.free b o e n (by simp)) (λb o _ e=>u.there b o e (by simp)) u.tups u.frzs u.tbls (λm' hm=>by
  obtain ⟨o',es',ep',ho',r'⟩:=hm;rw [ho] at ho';cases ho';exact ⟨_,es',ep',hL,r'⟩) hok I.bare
theorem Inv.call {g':Array GenState}{t':Nat}{d':Drawn}{ch:List Addr}(I:Inv X qQ σ H s)(u:Un (frs X.stack) ch H H' s.heap h')(hok:HOk X.prog X.w H' h')(hg:AllBare g')(hch:∀b∈ch,(b∈X.ex\/X.s₀.heap.objs.size<=b)/\b≠X.env.locals/\(∀x c,X.env.cells.lookup x=some c->c≠b)/\∀p∈X.pn++qQ,p.1≠b) :
  Inv X qQ σ H' { s with heap:=h',gens:=g',drawn:=d',toks:=t' }:=by
 obtain ⟨m,⟨o,es,ep,ho,r⟩,_⟩:=id I.loc;obtain ⟨sl,hL⟩:=u.any ho I.free λz=>(hch _ z).2.1 rfl;exact I.step (ch:=ch) hch (λb o hL hb hc e n=>u.keep b o e n (λz=>(List.mem_cons.mp (I.stkSub b z)).elim hL hb) hc) (λb o _ _ hc e n=>u.any e n hc) (λb o hc e n=>u.free b o e n hc) (λb o hc e=>u.there b o e hc) u.tups u.frzs u.tbls (λm' hm=>by
  obtain ⟨o',es',ep',ho',r'⟩:=hm;rw [ho] at ho';cases ho';exact ⟨_,es',ep',hL,r'⟩) hok hg
theorem Inv.turned {t':Nat}{it:Addr}(I:Inv X qQ σ H s)(k:∀b o,b≠it->s.heap.get? b=some o->h'.get? b=some o)(hn:H it=none)(hL:it≠X.env.locals)(h1:it∈X.ex\/X.s₀.heap.objs.size<=it)(h2:∀x c,X.env.cells.lookup x=some c->c≠it)(h3:∀p∈X.pn++qQ,p.1≠it):Inv X qQ σ H { s with heap:=h',toks:=t' }:=by
 have nit:∀b u,H b=some u->b≠it:=λb u e z=>by rw [z,hn] at e;cases e
 refine I.step (g':=s.gens) (d':=s.drawn) (ch:=[it]) (λb hb=>?_) (λb o _ _ hc e _=>k b o (λz=>hc (by simp [z])) e) (λb o _ _ hc e _=>⟨o.slots,k b o (λz=>hc (by simp [z])) e⟩) (λ_ _ _ _ n=>n)
  (λb o hc e=>⟨o,k b o (λz=>hc (by simp [z])) e⟩) (λ_ _ e=>e) (λ_ _ _ e=>e) (λb ps e=>⟨#[],by rw [e];simp⟩) (λm hm=>?_) (λb u e=>?_) I.bare
 ·have e:b=it:=by simpa using hb
  subst e;exact ⟨h1,hL,h2,h3⟩
 ·obtain ⟨o,es,ep,ho,r⟩:=hm;exact ⟨o,es,ep,k _ o (Ne.symm hL) ho,r⟩
 ·refine (I.hok b u e).stay (λc v hc q=>k c v ?_ q) (λ_ q=>q) λ_ _ q=>q;rcases hc with z | z
  ·rw [z];exact nit b u e
  ·exact nit c _ z
theorem Inv.tok (I:Inv X qQ σ H s)(t:Nat):Inv X qQ σ H { s with toks:=t }:=I.un (h':=s.heap) (t':=t) Un.refl I.hok
theorem Inv.kept {t':Nat}(I:Inv X qQ σ H s)(k:∀b u,s.heap.get? b=some u->h'.get? b=some u):Inv X qQ σ H { s with heap:=h',toks:=t' }:=I.un (Un.kept k) (I.hok.kept k)
theorem Inv.laid {a:Addr}{o:HO}{t':Nat}(I:Inv X qQ σ H s)(k:∀b u,s.heap.get? b=some u->h'.get? b=some u)(hp:s.heap.objs.size<=a)(new:ObjOk X.prog X.w (upd H a o) h' a o) :
  Inv X qQ σ (upd H a o) { s with heap:=h',toks:=t' }:=I.un (Un.laid k hp (I.hok.fresh hp)) (I.hok.laid k hp new)
theorem Inv.write {x e:Addr}{o:HO}{t':Nat}(I:Inv X qQ σ H s)(mu:Mut (H x))(he:e=x\/H e=some (.own x))(k:∀b u,b≠e->s.heap.get? b=some u->h'.get? b=some u)(heo:∃u,h'.get? e=some u)(new:ObjOk X.prog X.w (upd H x o) h' x o):Inv X qQ σ (upd H x o) { s with heap:=h',toks:=t' }:=I.un (Un.write mu he k heo) (I.hok.write mu he k heo new)
theorem Inv.weak {σ':List (Option V)}(I:Inv X qQ σ H s)(hl:σ'.length=σ.length)(w:∀(i:Nat) v,σ'[i]?=some (some v)->σ[i]?=some (some v)):Inv X qQ σ' H s:=
 ⟨I.ok,I.os,I.bare,I.base,let ⟨m,hn,hl'⟩:=I.loc;⟨m,hn,λi x v e1 e2 e3=>hl' i x v e1 (w i v e2) e3⟩,I.cell,I.free,I.freeC,I.pin,I.hok,hl.trans I.len⟩
theorem Inv.pins_of {pins':List (Addr×Obj)}(I:Inv X qQ σ H s)(h:∀p∈pins',s.heap.get? p.1=some p.2/\H p.1=none/\p.1≠X.env.locals/\p.1 ∉ X.fs/\∀v,p.2.data≠.cell v):Inv X pins' σ H s:=
 ⟨I.ok,I.os,I.bare,I.base,I.loc,I.cell,I.free,I.freeC,λp hp=>(List.mem_append.mp hp).elim (λz=>I.pin p (List.mem_append_left _ z)) (h p),I.hok,I.len⟩
theorem Wg {N:List Str}(hN:N.Nodup){i j:Nat}{x:Str}(a:N[i]?=some x)(b:N[j]?=some x):i=j:=by
 obtain ⟨h1,e1⟩:=List.getElem?_eq_some_iff.mp a;obtain ⟨h2,e2⟩:=List.getElem?_eq_some_iff.mp b;exact (List.getElem_inj hN).mp (e1.trans e2.symm)
theorem Vo {M:Model}{A:Around}{E:Value->Shared->Prop}{i:Nat}{x:Str}{v:V}{u:Value}{Q:Unit->Shared->Prop}(I:Inv X qQ σ H s)(hN:X.N.Nodup)(hi:X.N[i]?=some x)(hx:Loc X.env.scope x)(r:RelV v u)(h:∀s',Inv X qQ (σ.set i (some v)) H s'->(∃a,Heap.SameBut a s.heap s'.heap/\(a=X.env.locals\/X.env.cells.lookup x=some a))->Q () s')(hf:X.fn x=true\/X.env.scope.names.lookup x=some .local:=by first | exact .inl rfl | exact .inr rfl | assumption):wpAny M A (storeName X.env x u) Q E s:=by
 obtain ⟨m,hn,hl⟩:=id I.loc;have hcls:(X.env.scope.kind == .class || (X.env.scope.kind == .module && X.env.locals != X.env.globals))=false:=by rw [I.ok.kind];rfl
 have hiσ:i<σ.length:=by rw [I.len];exact (List.getElem?_eq_some_iff.mp hi).1
 have cne:=I.cne;have tracked:∀{a:Addr}{h':Heap},(∃o,s.heap.get? a=some o/\H a=none)->Heap.SameBut a s.heap h'->HOk X.prog X.w H h':=λ{a h'} ha hs b ob e=>by
  obtain ⟨_,_,hfree⟩:=ha;refine (I.hok b ob e).stay (λc w' hc q=>(hs.2 c ?_).trans q) (λ_ q=>q) λ_ _ q=>q;rintro rfl;rcases hc with rfl | hc
  ·rw [hfree] at e;cases e
  ·rw [hfree] at hc;cases hc
 rcases hx with hk | hk
 ·refine wpAny_storeName_local hk hn (λh' hn' hs=>?_) hcls;obtain ⟨oL,_,_,hoL,_⟩:=id hn;refine h _ ⟨I.ok,I.os,I.bare,⟨λb o e n hb hx=>?_,λb o e n hb hx=>?_,I.base.free,λb o e hx=>?_,I.base.tups,I.base.frzs,I.base.tbls⟩,⟨_,hn',λj y v' e1 e2 e3=>?_⟩,λy c e=>?_,I.free,I.freeC,λp hp=>?_,tracked ⟨oL,hoL,I.free⟩ hs,by simpa using I.len⟩ ⟨_,hs,.inl rfl⟩
  ·exact (hs.2 b (Nat.ne_of_lt (Nat.lt_of_lt_of_le (Heap.lt_size e) I.ok.above))).trans (I.base.keep b o e n hb hx)
  ·obtain ⟨sl,e1⟩:=I.base.slot b o e n hb hx;exact ⟨sl,(hs.2 b (Nat.ne_of_lt (Nat.lt_of_lt_of_le (Heap.lt_size e) I.ok.above))).trans e1⟩
  ·obtain ⟨o',e1⟩:=I.base.there b o e hx;exact ⟨o',(hs.2 b (Nat.ne_of_lt (Nat.lt_of_lt_of_le (Heap.lt_size e) I.ok.above))).trans e1⟩
  ·by_cases hj:j=i
   ·subst hj;rw [hi] at e1;cases e1;rw [List.getElem?_set_self hiσ] at e2;cases e2;exact ⟨u,r,.inl ⟨hk,by simp⟩⟩
   ·rw [List.getElem?_set_ne (Ne.symm hj)] at e2;obtain ⟨u',r',q⟩:=hl j y v' e1 e2 e3;refine ⟨u',r',?_⟩;rcases q with ⟨k,e⟩ | ⟨k,c,e,z⟩
    ·refine .inl ⟨k,?_⟩;have:y≠x:=λe=>hj (Wg hN e1 (e▸hi));simp [this,e]
    ·exact .inr ⟨k,c,e,z.sameBut hs (cne y c e)⟩
  ·obtain ⟨w',z⟩:=I.cell y c e;exact ⟨w',z.sameBut hs (cne y c e)⟩
  ·obtain ⟨e,n,ne,nf,d⟩:=I.pin p hp;exact ⟨(hs.2 p.1 ne).trans e,n,ne,nf,d⟩
 ·have hfn:X.fn x=true:=by
   rcases hf with z | z
   ·exact z
   ·rw [z] at hk;cases hk
  obtain ⟨c,hc⟩:=I.ok.has x (.inl hk);obtain ⟨w',z⟩:=I.cell x c hc;refine wpAny_storeName_cell I.ok.kind hk hc z (λh' hc' hs=>?_);obtain ⟨oc,hoc,hocd⟩:=id z;refine h { s with heap:=h' } ⟨I.ok,I.os,I.bare,⟨λb o e n hb hx=>?_,λb o e n hb hx=>?_,I.base.free,λb o e hx=>?_,I.base.tups,I.base.frzs,I.base.tbls⟩,⟨m,hn.sameBut hs (Ne.symm (cne x c hc)),λj y v' e1 e2 e3=>?_⟩,λy c' e=>?_,I.free,I.freeC,λp hp=>?_,tracked ⟨oc,hoc,I.freeC x c hc⟩ hs,by simpa using I.len⟩ ⟨c,hs,.inr hc⟩
  ·exact (hs.2 b (Nat.ne_of_lt (Nat.lt_of_lt_of_le (Heap.lt_size e) (I.ok.cab x c hfn hc)))).trans (I.base.keep b o e n hb hx)
  ·obtain ⟨sl,e1⟩:=I.base.slot b o e n hb hx;exact ⟨sl,(hs.2 b (Nat.ne_of_lt (Nat.lt_of_lt_of_le (Heap.lt_size e) (I.ok.cab x c hfn hc)))).trans e1⟩
  ·obtain ⟨o',e1⟩:=I.base.there b o e hx;exact ⟨o',(hs.2 b (Nat.ne_of_lt (Nat.lt_of_lt_of_le (Heap.lt_size e) (I.ok.cab x c hfn hc)))).trans e1⟩
  ·by_cases hj:j=i
   ·subst hj;rw [hi] at e1;cases e1;rw [List.getElem?_set_self hiσ] at e2;cases e2;exact ⟨u,r,.inr ⟨.inl hk,c,hc,hc'⟩⟩
   ·rw [List.getElem?_set_ne (Ne.symm hj)] at e2;obtain ⟨u',r',q⟩:=hl j y v' e1 e2 e3;refine ⟨u',r',?_⟩;rcases q with q | ⟨k,c',e,z'⟩
    ·exact .inl q
    ·refine .inr ⟨k,c',e,z'.sameBut hs ?_⟩;rintro rfl;exact hj (Wg hN e1 (I.ok.inj _ _ _ e hc▸hi))
  ·by_cases hcc:c'=c
   ·subst hcc;exact ⟨_,hc'⟩
   ·obtain ⟨w2,z2⟩:=I.cell y c' e;exact ⟨w2,z2.sameBut hs hcc⟩
  ·obtain ⟨e,n,ne,nf,d⟩:=I.pin p hp;refine ⟨(hs.2 p.1 ?_).trans e,n,ne,nf,d⟩;intro q;rw [q,hoc] at e;have q':oc=p.2:=Option.some.inj e;exact d w' (by rw [<-q'];exact hocd)
theorem O9 {M:Model}{A:Around}{E:Value->Shared->Prop}{i:Nat}{x:Str}{v:V}{u:Value}{Q:Unit->Shared->Prop}(I:Inv X qQ σ H s)(hN:X.N.Nodup)(hi:X.N[i]?=some x)(hx:Loc X.env.scope x)(r:RelV v u)(h:∀s',Inv X qQ (σ.set i (some v)) H s'->Q () s')(hf:X.fn x=true\/X.env.scope.names.lookup x=some .local:=by first | exact .inl rfl | exact .inr rfl | assumption):wpAny M A (storeName X.env x u) Q E s:=
 Vo I hN hi hx r (λs' I' _=>h s' I') hf
theorem Inv.call' {s':Shared}{ch:List Addr}(I:Inv X qQ σ H s)(ho:s'.os=s.os)(u:Un (frs X.stack) ch H H' s.heap s'.heap)(hok:HOk X.prog X.w H' s'.heap)(hg:AllBare s'.gens)(hch:∀b∈ch,(b∈X.ex\/X.s₀.heap.objs.size<=b)/\b≠X.env.locals/\(∀x c,X.env.cells.lookup x=some c->c≠b)/\∀p∈X.pn++qQ,p.1≠b):Inv X qQ σ H' s':=by
 obtain ⟨h',g',d',t',o'⟩:=s';have e:o'=s.os:=ho;subst e;exact I.call (g':=g') (t':=t') (d':=d') u hok hg hch
end
abbrev XK:=Value->Option Addr->Hp->Prop
abbrev St:=List (Option V)
abbrev VK:=V->Hp->Prop
abbrev TE:=St->Hp->VK->Prop
abbrev TT:=St->Hp->(Bool->Hp->Prop)->Prop
abbrev TA:=St->Hp->(List V->Hp->Prop)->Prop
structure Ends where
 nx:St->Hp->Prop
 rt:VK
 bk:St->Hp->Prop:=λ_ _=>False
 ct:St->Hp->Prop:=λ_ _=>False
abbrev TS:=Ends->St->Hp->Prop
def EP (X:Cx)(qQ:List (Addr×Obj))(σ:St)(Q:VK)(u:Value)(s':Shared):Prop:=∃v H',Inv X qQ σ H' s'/\RelV v u/\Q v H'
def TP (X:Cx)(qQ:List (Addr×Obj))(σ:St)(Q:Bool->Hp->Prop)(b:Bool)(s':Shared):Prop:=∃H',Inv X qQ σ H' s'/\Q b H'
def AP (X:Cx)(qQ:List (Addr×Obj))(σ:St)(Q:List V->Hp->Prop)(us:List Value)(s':Shared):Prop:=∃vs H',Inv X qQ σ H' s'/\Vals vs us/\Q vs H'
def SP (X:Cx)(qQ:List (Addr×Obj))(D:Ends)(f:Flow)(s':Shared):Prop:=
 match f with
 | .next=>∃ σ' H',Inv X qQ σ' H' s'/\D.nx σ' H'
 | .brk=>∃ σ' H',Inv X qQ σ' H' s'/\D.bk σ' H'
 | .cont=>∃ σ' H',Inv X qQ σ' H' s'/\D.ct σ' H'
 | .ret u=>∃v σ' H',Inv X qQ σ' H' s'/\RelV v u/\D.rt v H'
def PE (X:Cx)(e:Expr)(t:TE):Prop:=
 ∀(qQ:List (Addr×Obj))(s:Shared)(σ:St)(H:Hp)(Q:VK),Inv X qQ σ H s->t σ H Q->wpAny (model X.prog X.w) X.A (eval e X.env) (EP X qQ σ Q) X.xe s
def PT (X:Cx)(e:Expr)(t:TT):Prop:=
 ∀(qQ:List (Addr×Obj))(s:Shared)(σ:St)(H:Hp)(Q:Bool->Hp->Prop),Inv X qQ σ H s->t σ H Q->wpAny (model X.prog X.w) X.A (isTrue e X.env (eval e X.env)) (TP X qQ σ Q) X.xe s
def PW (X:Cx)(e:Expr)(t:TT):Prop:=
 ∀(whole:Sem Value)(qQ:List (Addr×Obj))(s:Shared)(σ:St)(H:Hp)(Q:Bool->Hp->Prop),Inv X qQ σ H s->t σ H Q->wpAny (model X.prog X.w) X.A (isTrue e X.env whole) (TP X qQ σ Q) X.xe s
theorem PW.pt {X:Cx}{e:Expr}{t:TT}(h:PW X e t):PT X e t:=h _
def PA (X:Cx)(es:List Expr)(t:TA):Prop:=
 ∀(pos:Pos)(qQ:List (Addr×Obj))(s:Shared)(σ:St)(H:Hp)(Q:List V->Hp->Prop),Inv X qQ σ H s->t σ H Q->wpAny (model X.prog X.w) X.A (spliced (backTo pos (starEach es X.env))) (AP X qQ σ Q) X.xe s
def PS (X:Cx)(st:Stmt)(t:TS):Prop:=
 ∀(qQ:List (Addr×Obj))(s:Shared)(σ:St)(H:Hp)(D:Ends),Inv X qQ σ H s->t D σ H->wpAny (model X.prog X.w) X.A (exec st X.env) (SP X qQ D) X.xe s
def PSs (X:Cx)(st:List Stmt)(t:TS):Prop:=
 ∀(qQ:List (Addr×Obj))(s:Shared)(σ:St)(H:Hp)(D:Ends),Inv X qQ σ H s->t D σ H->wpAny (model X.prog X.w) X.A (execs st X.env) (SP X qQ D) X.xe s
theorem thn {α:Type}{t:Sem α}{Q Q':α->Shared->Prop}{M:Model}{A:Around}{E:Value->Shared->Prop}{s:Shared}(h:wpAny M A t Q E s)(hQ:∀a s,Q a s->Q' a s):wpAny M A t Q' E s:=wpAny_mono h hQ λ_ _ x=>x
end L2
namespace L2
open PySem PySem.Spec PyProof.Rows
section
variable {X:Cx}
def Y5 (i:Nat):TE:=λσ H Q=>∃v,σ[i]?=some (some v)/\Q v H
def tC (v:V):TE:=λ_ H Q=>Q v H
theorem Zcr {i:Nat}{x:Str}{pos:Pos}(hN:X.N[i]?=some x)(hv:Vis X.env.scope x)(hd:(x == ("__debug__" : Str))=false:=by decide)(hcd:(x == ("__classdict__" : Str))=false:=by decide):PE X (.Name x pos) (Y5 i):=by
 intro qQ s σ H Q I h;obtain ⟨v,e,h⟩:=h;obtain ⟨m,hn,hl⟩:=I.loc;obtain ⟨u,r,l⟩:=hl i x v hN e hv;have fin:EP X qQ σ Q u s:=⟨v,H,I,r,h⟩;rcases l with ⟨hk,hm⟩ | ⟨hk,c,hc,qU⟩
 ·exact wpAny_Name (wpAny_loadName_local I.ok.kind hk hn hm fin) hd
 ·rcases hk with hk | hk
  ·exact wpAny_Name (wpAny_loadName_cell I.ok.kind hk hc qU fin) hd
  ·exact wpAny_Name (wpAny_loadName_free I.ok.kind hk hc qU fin hcd) hd
theorem Gc {i j pos}:PE X (.Constant (.int i) j pos) (tC (.int i)):=λ_ _ _ H _ I h=>wpAny_Constant_int ⟨.int i,H,I.tok _,⟨_,rfl⟩,h⟩
theorem Vp {b j pos}:PE X (.Constant (.bool b) j pos) (tC (.bl b)):=λ_ _ _ H _ I h=>Constant_bool ⟨.bl b,H,I,rfl,h⟩
theorem GQ {x j pos}:PE X (.Constant (.str x) j pos) (tC (.str x)):=λ_ _ _ H _ I h=>Calls.Constant_str ⟨.str x,H,I.tok _,⟨_,rfl⟩,h⟩
def Gl (X:Cx)(x:Str):Prop:=X.env.kindOf x=some .globalImplicit
theorem UZ {E:Value->Shared->Prop}{qQ:List (Addr×Obj)}{s:Shared}{σ:St}{H:Hp}{x:Str}{u:Value}{pos:Pos}{Q:Value->Shared->Prop}(I:Inv X qQ σ H s)(hg:Gl X x)(hm:X.mg x=some u)(h:Q u s)(hd:(x == ("__debug__" : Str))=false:=by decide):wpAny (model X.prog X.w) X.A (eval (.Name x pos) X.env) Q E s:=
 Calls.Name_function_global I.ok.kind hg (Calls.loadGlobal_global (by rw [I.ok.glob];exact I.mod.glob.keeps I.bk) hm h) hd
theorem Ob {E:Value->Shared->Prop}{qQ:List (Addr×Obj)}{s:Shared}{σ:St}{H:Hp}{x:Str}{u:Value}{pos:Pos}{Q:Value->Shared->Prop}(I:Inv X qQ σ H s)(hg:Gl X x)(hm:X.mg x=none)(hv:bootBuiltins x=some u)(h:Q u s)(hn:x ≠ "__name__" := by decide)(hd:(x == ("__debug__" : Str))=false:=by decide):wpAny (model X.prog X.w) X.A (eval (.Name x pos) X.env) Q E s:=by
 obtain ⟨mb,h1,h2⟩:=I.mod.blt;exact Calls.Name_function_global I.ok.kind hg (Calls.loadGlobal_builtin (by rw [I.ok.glob];exact I.mod.glob.keeps I.bk) hm (by rw [I.ok.blt];exact h1.keeps I.bk) ((h2 x hn).trans hv) h) hd
theorem ZaS {x:Str}{v:V}{u:Value}{pos:Pos}(hg:Gl X x)(hm:X.mg x=some u)(r:RelV v u)(hd:(x == ("__debug__" : Str))=false:=by decide):PE X (.Name x pos) (tC v):=
 λ_ _ _ H _ I h=>UZ I hg hm ⟨v,H,I,r,h⟩ hd
theorem ZaT {x:Str}{v:V}{u:Value}{pos:Pos}(hg:Gl X x)(hm:X.mg x=none)(hv:bootBuiltins x=some u)(r:RelV v u)(hn:x ≠ "__name__" := by decide)(hd:(x == ("__debug__" : Str))=false:=by decide):PE X (.Name x pos) (tC v):=
 λ_ _ _ H _ I h=>Ob I hg hm hv ⟨v,H,I,r,h⟩ hn hd
variable {a b:Expr}{ta tb:TE}{pos:Pos}
def PC (X:Cx)(op:CmpOp)(a b:Expr)(t:TE):Prop:=
 ∀(qQ:List (Addr×Obj))(s:Shared)(σ:St)(H:Hp)(Q:VK),Inv X qQ σ H s->t σ H Q ->
  wpAny (model X.prog X.w) X.A (eval a X.env) (λv s₁=>wpAny (model X.prog X.w) X.A (eval b X.env) (λu s₂=>wpAny (model X.prog X.w) X.A (compareOp op v u) (EP X qQ σ Q) X.xe s₂) X.xe s₁) X.xe s
def tB (t:TE):TT:=λσ H Q=>t σ H λx H1=>∃c,x=.bl c/\Q c H1
theorem Zcs {op:CmpOp}{t:TE}(h:PC X op a b t)(h1:behindInMarks op b=false:=by first | exact nobehind _ (by decide) (by decide) | rfl):PE X (.Compare a [op] [b] pos) t:=λqQ s σ H Q I hw=>wpAny_Compare1 (h qQ s σ H Q I hw) h1
theorem Zat {op:CmpOp}{t:TE}(h:PC X op a b t)(h1:behindInMarks op b=false:=by first | exact nobehind _ (by decide) (by decide) | rfl):PT X (.Compare a [op] [b] pos) (tB t):=by
 intro qQ s σ H Q I hw;refine wpAny_isTrue_Compare1 (thn (h qQ s σ H _ I hw) λv s1 h1=>thn h1 λu s2 h2=>thn h2 λc s3 ⟨x,H1,I1,r1,q1⟩=>?_) h1;obtain ⟨d,rfl,q⟩:=q1;cases r1;exact wpAny_truthy_bool ⟨H1,I1,q⟩
theorem OE {e:Expr}{t:TE}(h:PE X e t)(he:∀whole,isTrue e X.env whole=(do let v <- whole;standAt e.pos;holding [v] (truthy v)):=by intro _;rfl):PT X e (tB t):=by
 intro qQ s σ H Q I hw;refine isTrue_plain (thn (h qQ s σ H _ I hw) λv s1 ⟨x,H1,I1,r1,q1⟩=>?_) (he _);obtain ⟨d,rfl,q⟩:=q1;cases r1;exact wpAny_truthy_bool ⟨H1,I1,q⟩
variable {tA tB':TT}{rest:List Expr}
def ZfB (t u:TT):TT:=λσ H Q=>t σ H λc H1=>if c=true then u σ H1 Q else Q false H1
def tOr (t u:TT):TT:=λσ H Q=>t σ H λc H1=>if c=true then Q true H1 else u σ H1 Q
def ZfC (t:TT):TT:=λσ H Q=>t σ H λc H1=>Q (!c) H1
theorem Od (ha:PT X a tA):PW X (.BoolOp .And [a] pos) tA:=by
 intro wh qQ s σ H Q I h;refine isTrue_and (thn (ha qQ s σ H Q I h) λc s1 e=>?_);cases c with
 | true=>exact isTrue_and_nil e
 | false=>exact e
theorem Ow (ha:PT X a tA):PW X (.BoolOp .Or [a] pos) tA:=by
 intro wh qQ s σ H Q I h;refine isTrue_or (thn (ha qQ s σ H Q I h) λc s1 e=>?_);cases c with
 | false=>exact isTrue_or_nil e
 | true=>exact e
theorem Ox (ha:PT X a tA)(hb:PW X (.BoolOp .And (b::rest) pos) tB'):PW X (.BoolOp .And (a::b::rest) pos) (ZfB tA tB'):=by
 intro wh qQ s σ H Q I h;refine isTrue_and (thn (ha qQ s σ H _ I h) λc s1 ⟨H1,I1,q1⟩=>?_);cases c with
 | true=>exact hb wh qQ s1 σ H1 Q I1 q1
 | false=>exact ⟨H1,I1,q1⟩
theorem OU (ha:PT X a tA)(hb:PW X (.BoolOp .Or (b::rest) pos) tB'):PW X (.BoolOp .Or (a::b::rest) pos) (tOr tA tB'):=by
 intro wh qQ s σ H Q I h;refine isTrue_or (thn (ha qQ s σ H _ I h) λc s1 ⟨H1,I1,q1⟩=>?_);cases c with
 | true=>exact ⟨H1,I1,q1⟩
 | false=>exact hb wh qQ s1 σ H1 Q I1 q1
theorem OZ (ha:PT X a tA):PT X (.UnaryOp .Not a pos) (ZfC tA):=by
 intro qQ s σ H Q I h;exact isTrue_not (ha qQ s σ H (λc H1=>Q (!c) H1) I h)
def Zeo (ta tb:TE):TE:=λσ H Q=>ta σ H λx H1=>∃c,x=.bl c/\if c=true then tb σ H1 Q else Q (.bl false) H1
def ZfD (ta tb:TE):TE:=λσ H Q=>ta σ H λx H1=>∃c,x=.bl c/\if c=true then Q (.bl true) H1 else tb σ H1 Q
def Zep (ta:TE):TE:=λσ H Q=>ta σ H λx H1=>∃c,x=.bl c/\Q (.bl (!c)) H1
theorem Oe {op}{t:TE}(h:PE X a t):PE X (.BoolOp op [a] pos) t:=λqQ s σ H Q I hw=>BoolOp_one (h qQ s σ H Q I hw)
theorem O0 (ha:PE X a ta)(hb:PE X (.BoolOp .And (b::rest) pos) tb):PE X (.BoolOp .And (a::b::rest) pos) (Zeo ta tb):=by
 intro qQ s σ H Q I h;refine BoolOp_and (thn (ha qQ s σ H _ I h) λv s1 ⟨x,H1,I1,r1,q1⟩=>?_);obtain ⟨c,rfl,q1⟩:=q1;cases r1;refine wpAny_truthy_bool ?_;cases c with
 | true=>exact hb qQ s1 σ H1 Q I1 q1
 | false=>exact ⟨.bl false,H1,I1,rfl,q1⟩
theorem ZaU (ha:PE X a ta)(hb:PE X (.BoolOp .Or (b::rest) pos) tb):PE X (.BoolOp .Or (a::b::rest) pos) (ZfD ta tb):=by
 intro qQ s σ H Q I h;refine BoolOp_or (thn (ha qQ s σ H _ I h) λv s1 ⟨x,H1,I1,r1,q1⟩=>?_);obtain ⟨c,rfl,q1⟩:=q1;cases r1;refine wpAny_truthy_bool ?_;cases c with
 | false=>exact hb qQ s1 σ H1 Q I1 q1
 | true=>exact ⟨.bl true,H1,I1,rfl,q1⟩
theorem Wh (ha:PE X a ta):PE X (.UnaryOp .Not a pos) (Zep ta):=by
 intro qQ s σ H Q I h;refine UnaryOp_ (thn (ha qQ s σ H _ I h) λv s1 ⟨x,H1,I1,r1,q1⟩=>?_);obtain ⟨c,rfl,q1⟩:=q1;cases r1;exact not_of (wpAny_truthy_bool ⟨.bl (!c),H1,I1,rfl,q1⟩)
def tIf (t:TT)(ta tb:TE):TE:=λσ H Q=>t σ H λc H1=>if c=true then ta σ H1 Q else tb σ H1 Q
theorem Ze {c:Expr}(hc:PT X c tA)(ha:PE X a ta)(hb:PE X b tb):PE X (.IfExp c a b pos) (tIf tA ta tb):=by
 intro qQ s σ H Q I h;refine wpAny_IfExp (thn (hc qQ s σ H _ I h) λd s1 ⟨H1,I1,q1⟩=>?_);cases d with
 | true=>exact ha qQ s1 σ H1 Q I1 q1
 | false=>exact hb qQ s1 σ H1 Q I1 q1
end
end L2
namespace L2
open PySem PySem.Spec PyProof.Rows
def SqL (K:W.Frag)(H:Hp)(a:Addr)(xs:List V):Prop:=
 Rd H a (.lst xs) \/
  ∃(o:Obj)(its:Array Value)(n:Nat),K.lookup a=some o/\o.cls=.type "list" /\ o.dict=none/\o.data=.seq its n/\its.size<=sizeLine/\Vals xs its.toList
def SqT (K:W.Frag)(H:Hp)(a:Addr)(xs:List V):Prop:=
 Rd H a (.tup xs) \/
  ∃(o:Obj)(its:Array Value)(n:Nat),K.lookup a=some o/\o.cls=.type "tuple" /\ o.data=.seq its n/\its.size<=sizeLine/\Vals xs its.toList
def ZfE:Value->Option V
 | .none=>some .non
 | .bool b=>some (.bl b)
 | .int i _=>some (.int i)
 | .str x _=>some (.str x)
 | .bytes b _=>some (.byt b)
 | .float b _=>some (.flt b)
 | .ref a=>some (.ref a)
 | .type n=>some (.ty n)
 | _=>none
theorem RelV.abs {x:V}{u:Value}(r:RelV x u):ZfE u=some x:=by
 cases x with
 | non=>cases r;rfl
 | bl _=>cases r;rfl
 | int _=>obtain ⟨t,rfl⟩:=r;rfl
 | str _=>obtain ⟨t,rfl⟩:=r;rfl
 | byt _=>obtain ⟨t,rfl⟩:=r;rfl
 | flt _=>obtain ⟨t,rfl⟩:=r;rfl
 | ref _=>cases r;rfl
 | ty _=>cases r;rfl
theorem RelV.inj {x y:V}{u:Value}(r:RelV x u)(q:RelV y u):x=y:=Option.some.inj (r.abs.symm.trans q.abs)
theorem Vals.inj:∀{xs ys:List V}{us:List Value},Vals xs us->Vals ys us->xs=ys
 | _,_,_,.nil,.nil=>rfl
 | _,_,_,.cons r t,.cons r' t'=>by rw [r.inj r',Vals.inj t t']
section
variable {X:Cx}{qQ:List (Addr×Obj)}{σ:St}{H:Hp}{s:Shared}{a:Addr}{xs ys:List V}
theorem SqL.of {K:W.Frag}(h:H a=some (.lst xs)):SqL K H a xs:=.inl (.inl h)
theorem SqT.of {K:W.Frag}(h:H a=some (.tup xs)):SqT K H a xs:=.inl (.inl h)
theorem Inv.list (I:Inv X qQ σ H s)(h:SqL X.K H a xs):∃its:List Value,Vals xs its/\PlainL s.heap a its.toArray/\xs.length<=sizeLine:=by
 rcases h with h | ⟨o,its,n,hk,hc,hd,hs,hz,r⟩
 ·obtain ⟨z,its,n,r,e⟩:=h.ok I.hok;exact ⟨its,r,⟨_,n,e,rfl,rfl,rfl⟩,z⟩
 ·refine ⟨its.toList,r,⟨o,n,I.kIn a o hk,hc,hd,by simpa using hs⟩,?_⟩;have e:=r.length;simp only [Array.length_toList] at e
  lia
theorem Inv.tuple (I:Inv X qQ σ H s)(h:SqT X.K H a xs):∃its:List Value,Vals xs its/\IsTup s.heap a its.toArray/\xs.length<=sizeLine:=by
 rcases h with h | ⟨o,its,n,hk,hc,hs,hz,r⟩
 ·obtain ⟨z,its,r,p⟩:=h.ok I.hok;exact ⟨its,r,p,z⟩
 ·refine ⟨its.toList,r,⟨o,I.kIn a o hk,hc,n,by simpa using hs⟩,?_⟩;have e:=r.length;simp only [Array.length_toList] at e
  lia
theorem Inv.list_inj (I:Inv X qQ σ H s)(h:SqL X.K H a xs)(h':SqL X.K H a ys):xs=ys:=by
 obtain ⟨its,r,⟨o,n,e,_,_,d⟩,_⟩:=I.list h;obtain ⟨its',r',⟨o',n',e',_,_,d'⟩,_⟩:=I.list h';rw [e] at e';cases e';rw [d] at d';injection d' with d1 _
 have:its=its':=by simpa using congrArg Array.toList d1
 subst this;exact r.inj r'
theorem Inv.tuple_inj (I:Inv X qQ σ H s)(h:SqT X.K H a xs)(h':SqT X.K H a ys):xs=ys:=by
 obtain ⟨its,r,⟨o,e,_,n,d⟩,_⟩:=I.tuple h;obtain ⟨its',r',⟨o',e',_,n',d'⟩,_⟩:=I.tuple h';rw [e] at e';cases e';rw [d] at d';injection d' with d1 _
 have:its=its':=by simpa using congrArg Array.toList d1
 subst this;exact r.inj r'
end
abbrev Cx.wish (X:Cx)(E:Value->Shared->Prop):Cx:={ X with xe:=E }
abbrev Cx.nox (X:Cx):Cx:=X.wish λ_ _=>False
theorem Cx.Ok.wish {X:Cx}(ok:X.Ok)(E:Value->Shared->Prop):(X.wish E).Ok:=
 ⟨ok.mod,ok.kind,ok.glob,ok.blt,ok.above,ok.inj,ok.has,ok.cab,ok.hd,ok.frames,ok.stk,ok.exf,ok.bs,ok.bsz,ok.noex,ok.exfs,ok.funs,ok.frf⟩
theorem Cx.Ok.unwish {X:Cx}{E:Value->Shared->Prop}(ok:(X.wish E).Ok):X.Ok:=
 ⟨ok.mod,ok.kind,ok.glob,ok.blt,ok.above,ok.inj,ok.has,ok.cab,ok.hd,ok.frames,ok.stk,ok.exf,ok.bs,ok.bsz,ok.noex,ok.exfs,ok.funs,ok.frf⟩
section
variable {X:Cx}{qQ:List (Addr×Obj)}{σ:St}{H:Hp}{s:Shared}{E:Value->Shared->Prop}
theorem Inv.wish (I:Inv X qQ σ H s)(E:Value->Shared->Prop):Inv (X.wish E) qQ σ H s:=⟨I.ok.wish E,I.os,I.bare,I.base,I.loc,I.cell,I.free,I.freeC,I.pin,I.hok,I.len⟩
theorem Inv.unwish (I:Inv (X.wish E) qQ σ H s):Inv X qQ σ H s:=⟨I.ok.unwish,I.os,I.bare,I.base,I.loc,I.cell,I.free,I.freeC,I.pin,I.hok,I.len⟩
theorem SP.unwish {D:Ends}{f:Flow}{s':Shared}(h:SP (X.wish E) qQ D f s'):SP X qQ D f s':=by
 cases f with
 | next=>obtain ⟨σ',H',I,q⟩:=h;exact ⟨σ',H',I.unwish,q⟩
 | brk=>obtain ⟨σ',H',I,q⟩:=h;exact ⟨σ',H',I.unwish,q⟩
 | cont=>obtain ⟨σ',H',I,q⟩:=h;exact ⟨σ',H',I.unwish,q⟩
 | ret u=>obtain ⟨v,σ',H',I,r,q⟩:=h;exact ⟨v,σ',H',I.unwish,r,q⟩
theorem PSs.nox {st:List Stmt}{t:TS}(h:PSs X.nox st t):PSs X st t:=λqQ s σ H D I hw=>
 wpAny_mono (h qQ s σ H D (I.wish _) hw) (λ_ _ q=>q.unwish) λ_ _ z=>False.elim z
end
section
variable {X:Cx}{st:Stmt}{rest:List Stmt}{t u:TS}{e:Expr}{te:TE}{pos:Pos}
def Zf:TS:=λD σ H=>D.nx σ H
def Zeq (t u:TS):TS:=λD σ H=>t { D with nx:=u D } σ H
theorem GF:PSs X [] Zf:=λ_ _ σ H _ I h=>wpAny_execs_nil ⟨σ,H,I,h⟩
theorem Gh (h1:PS X st t)(h2:PSs X rest u):PSs X (st::rest) (Zeq t u):=by
 intro qQ s σ H D I h;refine wpAny_execs_cons (thn (h1 qQ s σ H { D with nx:=u D } I h) λf s1 q=>?_);cases f with
 | next=>
  obtain ⟨σ',H',I',q⟩:=q;exact h2 qQ s1 σ' H' D I' q
 | ret v=>exact q
 | brk=>exact q
 | cont=>exact q
theorem Gi (h1:PS X st t):PSs X [st] t:=by
 intro qQ s σ H D I h;refine wpAny_execs_cons (thn (h1 qQ s σ H D I h) λf s1 q=>?_);cases f with
 | next=>exact wpAny_execs_nil q
 | ret v=>exact q
 | brk=>exact q
 | cont=>exact q
theorem Inv.quiet {qQ:List (Addr×Obj)}{σ:St}{H:Hp}{s:Shared}(I:Inv X qQ σ H s):interactive X.env=false:=by simp [interactive,I.ok.kind]
def Zer (te:TE):TS:=λD σ H=>te σ H λ_ H1=>D.nx σ H1
theorem Ji (he:PE X e te)(hs:swapsWith e none pos.line X.env=pure false:=by rfl):PS X (.Expr e pos) (Zer te):=by
 intro qQ s σ H D I h;exact wpAny_Expr_any (thn (he qQ s σ H _ I h) λv s1 ⟨x,H1,I1,r1,q1⟩=>⟨σ,H1,I1,q1⟩) I.quiet hs
def ZfF (te:TE):TS:=λD σ H=>te σ H D.rt
theorem Gw (he:PE X e te):PS X (.Return (some e) pos) (ZfF te):=by
 intro qQ s σ H D I h;exact wpAny_Return_some (thn (he qQ s σ H _ I h) λv s1 ⟨x,H1,I1,r1,q1⟩=>⟨x,σ,H1,I1,r1,q1⟩)
def ZfG (c:TT)(t u:TS):TS:=λD σ H=>c σ H λb H1=>if b=true then t D σ H1 else u D σ H1
theorem Jj {c:Expr}{a b:List Stmt}{tc:TT}(hc:PT X c tc)(ha:PSs X a t)(hb:PSs X b u):PS X (.If c a b pos) (ZfG tc t u):=by
 intro qQ s σ H D I h;refine wpAny_If (thn (hc qQ s σ H _ I h) λd s1 ⟨H1,I1,q1⟩=>?_);cases d with
 | true=>exact ha qQ s1 σ H1 D I1 q1
 | false=>exact hb qQ s1 σ H1 D I1 q1
def Zct:TS:=λ_ _ _=>False
theorem XJ {sts:List Stmt}:PSs X sts Zct:=λ_ _ _ _ _ _ h=>h.elim
end
abbrev TG:=V->St->Hp->(St->Hp->Prop)->Prop
abbrev TGs:=List V->St->Hp->(St->Hp->Prop)->Prop
def PG (X:Cx)(qZ:Expr)(t:TG):Prop:=
 ∀(qQ:List (Addr×Obj))(s:Shared)(σ:St)(H:Hp)(v:V)(u:Value)(Q:St->Hp->Prop),Inv X qQ σ H s->RelV v u->t v σ H Q ->
  wpAny (model X.prog X.w) X.A (assign qZ X.env u) (λ_ s'=>∃ σ' H',Inv X qQ σ' H' s'/\Q σ' H') X.xe s
def PGs (X:Cx)(ts:List Expr)(t:TGs):Prop:=
 ∀(qQ:List (Addr×Obj))(s:Shared)(σ:St)(H:Hp)(vs:List V)(us:List Value)(Q:St->Hp->Prop),Inv X qQ σ H s->Vals vs us->t vs σ H Q ->
  wpAny (model X.prog X.w) X.A (assignInOrder ((assignEach ts X.env).map (·.2)) us) (λ_ s'=>∃ σ' H',Inv X qQ σ' H' s'/\Q σ' H') X.xe s
section
variable {X:Cx}{pos:Pos}
def Jm (i:Nat):TG:=λv σ H Q=>Q (σ.set i (some v)) H
theorem Gy {i:Nat}{x:Str}(hN:X.N.Nodup)(hi:X.N[i]?=some x)(hx:Loc X.env.scope x)(hf:X.fn x=true\/X.env.scope.names.lookup x=some .local:=by first | exact .inl rfl | exact .inr rfl | assumption):PG X (.Name x pos) (Jm i):=by
 intro qQ s σ H v u Q I r h;exact wpAny_assign_Name (O9 I hN hi hx r (λs' I'=>⟨_,H,I',h⟩) hf)
def ZfH:TGs:=λvs σ H Q=>vs=[]/\Q σ H
def Zes (t:TG)(u:TGs):TGs:=λvs σ H Q=>∃v r,vs=v::r/\t v σ H λσ' H'=>u r σ' H' Q
theorem Of:PGs X [] ZfH:=by
 intro qQ s σ H vs us Q I r h;obtain ⟨e,h⟩:=h;subst e;cases r;exact assignInOrder_nil ⟨σ,H,I,h⟩
theorem G7 {e:Expr}{es:List Expr}{t:TG}{u:TGs}(h1:PG X e t)(h2:PGs X es u)(hs:(assignEach (e::es) X.env).map (·.2)=assign e X.env::(assignEach es X.env).map (·.2):=by rfl):PGs X (e::es) (Zes t u):=by
 intro qQ s σ H vs us Q I r h;obtain ⟨v,vr,e1,h⟩:=h;subst e1;cases r with
 | cons r rr=>
  rw [hs];refine assignInOrder_cons (thn (h1 qQ s σ H _ _ _ I r h) λ_ s1 ⟨σ1,H1,I1,q1⟩=>?_);exact h2 qQ s1 σ1 H1 _ _ Q I1 rr q1
def Zfh (K:W.Frag)(n:Nat)(t:TGs):TG:=λv σ H Q=>∃a xs,v=.ref a/\SqT K H a xs/\xs.length=n/\t xs σ H Q
theorem Zcu {es:List Expr}{k:Nat}{t:TGs}{n:Nat}(hc:X.calm=true)(h:PGs X es t)(hn:(assignEach es X.env).length=n:=by rfl)(hst:(assignEach es X.env).findIdx? (·.1)=none:=by rfl):PG X (.Tuple es k pos) (Zfh X.K n t):=by
 intro qQ s σ H v u Q I r hw;obtain ⟨a,xs,e1,hq,hl,hw⟩:=hw;subst e1;cases r;obtain ⟨its,rv,ht,hz⟩:=I.tuple hq;refine assign_Tuple_tuple (I.ok.hd hc) ht (by simp [hn,<-hl,rv.length]) hst λh' hx=>?_;have I1:Inv X qQ σ H { s with heap:=h' }:=I.kept (t':=s.toks) λb o e=>hx b o (Nat.ne_of_lt (Heap.lt_size e)) e;exact h qQ _ σ H xs _ Q I1 (by simpa using rv) hw
def Zfi (te:TE)(g:TG):TS:=λD σ H=>te σ H λx H1=>g x σ H1 D.nx
theorem GE {i:Nat}{x:Str}{e:Expr}{te:TE}{pos':Pos}(hN:X.N.Nodup)(hi:X.N[i]?=some x)(hx:Loc X.env.scope x)(he:PE X e te)(hs:swapsWith e (some (.Name x pos')) pos.line X.env=pure false:=by rfl)(hf:X.fn x=true\/X.env.scope.names.lookup x=some .local:=by first | exact .inl rfl | exact .inr rfl | assumption) :
  PS X (.Assign [.Name x pos'] e pos) (Zfi te (Jm i)):=by
 intro qQ s σ H D I h;refine wpAny_Assign_Name (thn (he qQ s σ H _ I h) λv s1 ⟨y,H1,I1,r1,q1⟩=>?_) hs;exact O9 I1 hN hi hx r1 (λs2 I2=>⟨_,H1,I2,q1⟩) hf
def Zcv (c:TT)(tb:TS):TS:=λD σ H=>∃W:Nat->St->Hp->Prop,(∃m,W m σ H)/\∀m σ H,W m σ H ->
 c σ H λb H1=>if b=true then ∃N:St->Hp->Prop,(∀ σ' H',N σ' H'->∃m',m'<m/\W m' σ' H')/\tb { D with nx:=N,ct:=N,bk:=D.nx } σ H1 else D.nx σ H1
theorem U0 {c:Expr}{body:List Stmt}{tc:TT}{tb:TS}(hp:PassesOwn (model X.prog X.w) X.A X.env X.xe)(hc:PT X c tc)(hb:PSs X body tb):PS X (.While c body [] pos) (Zcv tc tb):=by
 intro qQ s σ H D I h;obtain ⟨W,⟨m0,w0⟩,turn⟩:=h;refine wpAny_While (codeAny_whileLoop (λn s'=>∃ σ' H',Inv X qQ σ' H' s'/\W n σ' H') ?_ m0 ⟨σ,H,I,w0⟩);rintro n s1 ⟨σ1,H1,I1,w1⟩;refine wpAny_passesOwn hp (thn (hc qQ s1 σ1 H1 _ I1 (turn n σ1 H1 w1)) λb s2 ⟨H2,I2,q2⟩=>?_);cases b with
 | true=>
  obtain ⟨N,hN,q2⟩:=q2;rw [if_pos rfl];refine wpAny_passesOwn hp (thn (hb qQ s2 σ1 H2 _ I2 q2) λf s3 q3=>?_);cases f with
  | next=>
   obtain ⟨σ3,H3,I3,n3⟩:=q3;obtain ⟨m',hm,w3⟩:=hN σ3 H3 n3;exact ⟨m',hm,σ3,H3,I3,w3⟩
  | cont=>
   obtain ⟨σ3,H3,I3,n3⟩:=q3;obtain ⟨m',hm,w3⟩:=hN σ3 H3 n3;exact ⟨m',hm,σ3,H3,I3,w3⟩
  | brk=>exact q3
  | ret v=>exact q3
 | false=>
  rw [if_neg Bool.false_ne_true];exact wpAny_execs_nil ⟨σ1,H2,I2,q2⟩
end
structure It where
 go:Nat->Hp->Prop
 yld:Nat->Hp->V->Hp->Prop
 stop:Nat->Hp->Prop
def Y6 (X:Cx)(qQ:List (Addr×Obj))(H:Hp)(b:Addr):Prop:=
 H b=none/\b≠X.env.locals/\b ∉ X.fs/\(b∈X.ex\/X.s₀.heap.objs.size<=b)/\(∀x c,X.env.cells.lookup x=some c->c≠b)/\∀p∈X.pn++qQ,p.1≠b
theorem Inv.fpOk {X:Cx}{qQ:List (Addr×Obj)}{σ:St}{H H':Hp}{s:Shared}{b:Addr}(I:Inv X qQ σ H s)(hb:s.heap.objs.size<=b)(hn:H' b=none):Y6 X qQ H' b:=by
 refine ⟨hn,Nat.ne_of_gt (Nat.lt_of_lt_of_le I.lt hb),I.nofs hb,.inr (Nat.le_trans I.sz hb),λx c e z=>?_,λp hp z=>?_⟩
 ·obtain ⟨v,q⟩:=I.cell x c e;exact absurd (Nat.lt_of_lt_of_le q.lt (by rw [z];exact hb)) (Nat.lt_irrefl _)
 ·exact absurd (Nat.lt_of_lt_of_le (Heap.lt_size (I.pin p hp).1) (by rw [z];exact hb)) (Nat.lt_irrefl _)
structure Zg (P:Program)(w:World)(K:W.Frag)(tg:Expr)(J:It)(fp:List Addr)(it:Addr)(tn:Nat->Heap->Prop):Prop where
 mem:it∈fp
 obj:∀i h,tn i h->∀b∈fp,∃o,h.get? b=some o/\∀v,o.data≠.cell v
 keep:∀i h h',tn i h->(∀b∈fp,∀o,h.get? b=some o->h'.get? b=some o)->tn i h'
 item:∀(X:Cx),X.prog=P->X.w=w->X.K=K->X.calm=true->∀(i:Nat)(qQ:List (Addr×Obj))(s:Shared)(σ:St)(H:Hp)(E:Value->Shared->Prop),Inv X qQ σ H s->(∀b∈fp,Y6 X qQ H b)->tn i s.heap->J.go i H ->
  wpAny (model P w) X.A (pyNext (.ref it)) (λr s1=>∃u,r=some u /\
   wpAny (model P w) X.A (letOwnedTupleGo tg (.ref it) u) (λ_ s2=>∃x H',Inv X qQ σ H' s2/\RelV x u/\J.yld i H x H'/\tn (i+1) s2.heap/\∀b∈fp,H' b=none) E s1) E s
 done:∀(X:Cx),X.prog=P->X.w=w->X.K=K->X.calm=true->∀(i:Nat)(qQ:List (Addr×Obj))(s:Shared)(σ:St)(H:Hp)(E:Value->Shared->Prop),Inv X qQ σ H s->(∀b∈fp,Y6 X qQ H b)->tn i s.heap->J.stop i H ->
  wpAny (model P w) X.A (pyNext (.ref it)) (λr s1=>r=none/\Inv X qQ σ H s1) E s
 self:∀(A:Around)(i:Nat)(s:Shared)(Q:Value->Shared->Prop)(E:Value->Shared->Prop),tn i s.heap->Q (.ref it) s->wpAny (model P w) A (pyIter (.ref it)) Q E s
abbrev TI:=St->Hp->(It->Hp->Prop)->Prop
def PIE (X:Cx)(qQ:List (Addr×Obj))(σ:St)(tg:Expr)(R:It->Hp->Prop)(itv:Value)(s2:Shared):Prop:=
 ∃(it:Addr)(fp:List Addr)(tn:Nat->Heap->Prop)(J:It)(H':Hp),itv=.ref it/\Inv X qQ σ H' s2/\Zg X.prog X.w X.K tg J fp it tn/\tn 0 s2.heap/\(∀b∈fp,Y6 X qQ H' b)/\R J H'
def PI (X:Cx)(tg iter:Expr)(wi:TI):Prop:=
 ∀(qQ:List (Addr×Obj))(s:Shared)(σ:St)(H:Hp)(R:It->Hp->Prop),Inv X qQ σ H s->wi σ H R ->
  wpAny (model X.prog X.w) X.A (eval iter X.env) (λv s1=>wpAny (model X.prog X.w) X.A (pyIter v) (PIE X qQ σ tg R) X.xe s1) X.xe s
theorem Zh {M:Model}{A:Around}{E:Value->Shared->Prop}{s:Shared}{tg:Expr}{it:Addr}{u:Value}{o:Obj}{n:String}{vs:Array Value}{Q:Unit->Shared->Prop}(ho:s.heap.get? it=some o)(hc:o.cls=.type n)(hd:o.data=.fields vs)(hn:["enumerate", "zip", "dict_itemiterator", "dict_reverseitemiterator", "odict_iterator", "itertools.zip_longest", "itertools.pairwise"].contains n=false)(hQ:Q () s):wpAny M A (letOwnedTupleGo tg (.ref it) u) Q E s:=by
 unfold letOwnedTupleGo;cases tg <;> first
  | exact wpAny_pure hQ
  | (cases u <;> first
    | exact wpAny_pure hQ
    | (refine wpAny_bind (wpAny_load ho ?_)
       rw [hc,hd];show wpAny M A (if (["enumerate", "zip", "dict_itemiterator", "dict_reverseitemiterator", "odict_iterator", "itertools.zip_longest", "itertools.pairwise"].contains n && vs[0]? == some (rawInt _))=true then _ else _) Q E s;rw [if_neg (by intro h;rw [hn,Bool.false_and] at h;cases h)];exact wpAny_pure hQ))
def Itl (K:W.Frag)(a:Addr):It:=
 ⟨λi H=>∃xs x,SqL K H a xs/\xs[i]?=some x,λi H x H'=>H'=H/\∀xs,SqL K H a xs->xs[i]?=some x,λi H=>∃xs,SqL K H a xs/\xs.length<=i⟩
def Itt (K:W.Frag)(a:Addr):It:=
 ⟨λi H=>∃xs x,SqT K H a xs/\xs[i]?=some x,λi H x H'=>H'=H/\∀xs,SqT K H a xs->xs[i]?=some x,λi H=>∃xs,SqT K H a xs/\xs.length<=i⟩
def Itr (lo:Int)(n:Nat):It:=⟨λi _=>i<n,λi H x H'=>H'=H/\x=.int (lo+i),λi _=>n<=i⟩
theorem XM {P:Program}{w:World}{K:W.Frag}{tg:Expr}(a it:Addr):Zg P w K tg (Itl K a) [it] it (λi h=>h.IsListIter it a i) where
 mem:=by simp
 obj:=λi h st b hb=>by
  have e:b=it:=by simpa using hb
  subst e;obtain ⟨o,e,c,d⟩:=st;exact ⟨o,e,λv z=>by rw [d] at z;cases z⟩
 keep:=λi h h' st k=>st.at λo e=>k it (by simp) o e
 item:=by
  intro X hP hw hK hc i qQ s σ H E I hf st hg;subst hP hw hK;obtain ⟨xs,x,hq,hx⟩:=hg;obtain ⟨its,rv,p,hz⟩:=I.list hq;obtain ⟨u,hu,ru⟩:=rv.get hx;obtain ⟨f0,f1,f2,f3,f4,f5⟩:=hf it (by simp);refine wpAny_pyNext_list_item st p.isList (x:=u) (by simpa using hu) λh' st' sb=>?_;have I1:Inv X qQ σ H { s with heap:=h' }:=I.turned (t':=s.toks) (λb o hb e=>(sb.2 b hb).trans e) f0 f1 f3 f4 f5;obtain ⟨o,e,c,d⟩:=id st';exact ⟨u,rfl,Zh (s:={ s with heap:=h' }) e c d (by decide) ⟨x,H,I1,ru,⟨rfl,λys hy=>by rw [I.list_inj hy hq];exact hx⟩,st',λb hb=>(hf b hb).1⟩⟩
 done:=by
  intro X hP hw hK hc i qQ s σ H E I hf st hg;subst hP hw hK;obtain ⟨xs,hq,hx⟩:=hg;obtain ⟨its,rv,p,hz⟩:=I.list hq;obtain ⟨f0,f1,f2,f3,f4,f5⟩:=hf it (by simp);have hl:=rv.length;exact wpAny_pyNext_list_end (I.ok.hd hc) st p.isList (by simp;lia) λh' eb=>⟨rfl,I.turned (t':=s.toks) (λb o hb e=>eb b o hb e) f0 f1 f3 f4 f5⟩
 self:=λ_ _ _ _ _ st h=>wpAny_pyIter_listiter st h
theorem Xa {P:Program}{w:World}{K:W.Frag}{tg:Expr}(a it:Addr):Zg P w K tg (Itt K a) [it] it (λi h=>h.IsTupleIter it a i) where
 mem:=by simp
 obj:=λi h st b hb=>by
  have e:b=it:=by simpa using hb
  subst e;obtain ⟨o,e,c,d⟩:=st;exact ⟨o,e,λv z=>by rw [d] at z;cases z⟩
 keep:=λi h h' st k=>st.at λo e=>k it (by simp) o e
 item:=by
  intro X hP hw hK hc i qQ s σ H E I hf st hg;subst hP hw hK;obtain ⟨xs,x,hq,hx⟩:=hg;obtain ⟨its,rv,p,hz⟩:=I.tuple hq;obtain ⟨u,hu,ru⟩:=rv.get hx;obtain ⟨f0,f1,f2,f3,f4,f5⟩:=hf it (by simp);refine wpAny_pyNext_tuple_item st (show s.heap.IsTuple a its.toArray from p) (x:=u) (by simpa using hu) λh' st' sb=>?_;have I1:Inv X qQ σ H { s with heap:=h' }:=I.turned (t':=s.toks) (λb o hb e=>(sb.2 b hb).trans e) f0 f1 f3 f4 f5;obtain ⟨o,e,c,d⟩:=id st';exact ⟨u,rfl,Zh (s:={ s with heap:=h' }) e c d (by decide) ⟨x,H,I1,ru,⟨rfl,λys hy=>by rw [I.tuple_inj hy hq];exact hx⟩,st',λb hb=>(hf b hb).1⟩⟩
 done:=by
  intro X hP hw hK hc i qQ s σ H E I hf st hg;subst hP hw hK;obtain ⟨xs,hq,hx⟩:=hg;obtain ⟨its,rv,p,hz⟩:=I.tuple hq;obtain ⟨f0,f1,f2,f3,f4,f5⟩:=hf it (by simp);have hl:=rv.length;exact wpAny_pyNext_tuple_end (I.ok.hd hc) st (show s.heap.IsTuple a its.toArray from p) (by simp;lia) λh' eb=>⟨rfl,I.turned (t':=s.toks) (λb o hb e=>eb b o hb e) f0 f1 f3 f4 f5⟩
 self:=λ_ _ _ _ _ st h=>wpAny_pyIter_tupleiter st h
theorem Xb {P:Program}{w:World}{K:PySem.W.Frag}{tg:Expr}(it:Addr)(lo:Int)(n:Nat):Zg P w K tg (Itr lo n) [it] it (λi h=>IsRangeIter h it (lo+(i:Nat) * 1) ((n:Int)-(i:Nat)) 1) where
 mem:=by simp
 obj:=λi h st b hb=>by
  have e:b=it:=by simpa using hb
  subst e;exact ⟨_,st,λv z=>by
   have z':Data.fields _=Data.cell v:=z;cases z'⟩
 keep:=λi h h' st k=>k it (by simp) _ st
 item:=by
  intro X hP hw hK hc i qQ s σ H E I hf st hg;subst hP hw hK;obtain ⟨f0,f1,f2,f3,f4,f5⟩:=hf it (by simp);have W:=Walks.range (prog:=X.prog) (w:=X.w) (I.ok.hd hc) it lo 1 n;refine W.item i s _ _ hg st λv h' tk hv st' kk=>?_;obtain ⟨t,rfl⟩:=hv;have I1:Inv X qQ σ H { s with heap:=h',toks:=tk }:=I.turned (λb o hb e=>kk b o (by simpa using hb) e) f0 f1 f3 f4 f5;refine ⟨_,rfl,Zh (s:={ s with heap:=h',toks:=tk }) (n := "range_iterator") st' rfl rfl (by decide) ⟨.int (lo+i),H,I1,⟨t,?_⟩,⟨rfl,rfl⟩,st',λb hb=>(hf b hb).1⟩⟩;rw [Int.mul_one]
 done:=by
  intro X hP hw hK hc i qQ s σ H E I hf st hg;subst hP hw hK;obtain ⟨f0,f1,f2,f3,f4,f5⟩:=hf it (by simp);exact wpAny_pyNext_range_end (I.ok.hd hc) st (by have:n<=i:=hg;lia) λh' eb=>⟨rfl,I.turned (t':=s.toks) (λb o hb e=>eb b o hb e) f0 f1 f3 f4 f5⟩
 self:=λ_ _ _ _ _ st h=>wpAny_pyIter_rangeiter st h
end L2
namespace L2
open PySem PySem.Spec PyProof.Rows
section
variable {X:Cx}{tg:Expr}
def Zcw (K:W.Frag)(tl:TE):TI:=λσ H R=>tl σ H λx H1=>∃a,x=.ref a/\(∃xs,SqL K H1 a xs)/\R (Itl K a) H1
def Zfj (K:W.Frag)(tl:TE):TI:=λσ H R=>tl σ H λx H1=>∃a,x=.ref a/\(∃xs,SqT K H1 a xs)/\R (Itt K a) H1
theorem ZaV {l:Expr}{tl:TE}(hl:PE X l tl):PI X tg l (Zcw X.K tl):=by
 intro qQ s σ H R I h;refine thn (hl qQ s σ H _ I h) λv s1 ⟨x,H1,I1,r1,q1⟩=>?_;obtain ⟨a,e,⟨xs,hq⟩,q⟩:=q1;subst e;cases r1;obtain ⟨its,rv,p,hz⟩:=I1.list hq;refine wpAny_pyIter_list p.isList ?_;refine ⟨s1.heap.objs.size,[s1.heap.objs.size],_,_,H1,rfl,I1.kept (t':=s1.toks) λb o e=>Heap.get?_push_of_some _ e,XM a _,⟨_,Heap.get?_push_size _ rfl,rfl,rfl⟩,λb hb=>?_,q⟩;have e:b=s1.heap.objs.size:=by simpa using hb
 subst e;exact I1.fpOk (Nat.le_refl _) (I1.hok.fresh (Nat.le_refl _))
theorem Zcx {l:Expr}{tl:TE}(hl:PE X l tl):PI X tg l (Zfj X.K tl):=by
 intro qQ s σ H R I h;refine thn (hl qQ s σ H _ I h) λv s1 ⟨x,H1,I1,r1,q1⟩=>?_;obtain ⟨a,e,⟨xs,hq⟩,q⟩:=q1;subst e;cases r1;obtain ⟨its,rv,p,hz⟩:=I1.tuple hq;refine wpAny_pyIter_tuple (show s1.heap.IsTuple a its.toArray from p) ?_;refine ⟨s1.heap.objs.size,[s1.heap.objs.size],_,_,H1,rfl,I1.kept (t':=s1.toks) λb o e=>Heap.get?_push_of_some _ e,Xa a _,⟨_,Heap.get?_push_size _ rfl,rfl,rfl⟩,λb hb=>?_,q⟩;have e:b=s1.heap.objs.size:=by simpa using hb
 subst e;exact I1.fpOk (Nat.le_refl _) (I1.hok.fresh (Nat.le_refl _))
theorem Wi {qQ:List (Addr×Obj)}{σ:St}{H:Hp}{s:Shared}{R:It->Hp->Prop}{E:Value->Shared->Prop}{lo hi:Int}{t u v:Tok}{tk:Nat}(I:Inv X qQ σ H s)(h1:-(2 ^ 62)<=lo)(h2:lo<2 ^ 62)(h3:-(2 ^ 62)<=hi)(h4:hi<2 ^ 62)(q:R (Itr lo (hi-lo).toNat) H):wpAny (model X.prog X.w) X.A (pyIter (.ref s.heap.objs.size)) (PIE X qQ σ tg R) E { s with heap:=s.heap.push { cls:=.type "range", data:=.fields #[.int lo t,.int hi u,.int 1 v] },toks:=tk }:=by
 refine wpAny_pyIter_range (IsRange.new ..) (small_one h1 h2 h3 h4) ?_;have I1:Inv X qQ σ H { s with heap:=s.heap.push { cls:=.type "range", data:=.fields #[.int lo t,.int hi u,.int 1 v] },toks:=tk }:=I.kept λb o e=>Heap.get?_push_of_some _ e;refine ⟨(s.heap.push { cls:=.type "range", data:=.fields #[.int lo t,.int hi u,.int 1 v] }).objs.size,[(s.heap.push { cls:=.type "range", data:=.fields #[.int lo t,.int hi u,.int 1 v] }).objs.size],_,_,H,rfl,
  I1.kept (t':=tk) λb o e=>Heap.get?_push_of_some _ e,Xb _ lo (hi-lo).toNat,?_,λb hb=>?_,q⟩
 ·have e1:lo+((0:Nat):Int) * 1=lo:=by simp
  have e2:(((hi-lo).toNat:Nat):Int)-((0:Nat):Int)=Builtin.Range.rangeSize lo hi 1:=by rw [rangeSize_one];split <;> lia
  show IsRangeIter _ _ (lo+((0:Nat):Int) * 1) ((((hi-lo).toNat:Nat):Int)-((0:Nat):Int)) 1;rw [e1,e2];exact Heap.get?_push_size _ rfl
 ·have e:b=(s.heap.push { cls:=.type "range", data:=.fields #[.int lo t,.int hi u,.int 1 v] }).objs.size:=by simpa using hb
  subst e;exact I1.fpOk (Nat.le_refl _) (I1.hok.fresh (Nat.le_refl _))
def Zet (ta:TA):TI:=λσ H R=>ta σ H λvs H1=>∃j:Int,vs=[.int j]/\-(2 ^ 62)<=j/\j<2 ^ 62/\R (Itr 0 j.toNat) H1
def Zeu (ta:TA):TI:=λσ H R=>ta σ H λvs H1=>∃i j:Int,vs=[.int i,.int j]/\(-(2 ^ 62)<=i/\i<2 ^ 62/\-(2 ^ 62)<=j/\j<2 ^ 62)/\R (Itr i (j-i).toNat) H1
theorem Jn {a:Expr}{ta:TA}{p pos:Pos}(hg:Gl X "range")(hm:X.mg "range" = none)(ha:PA X [a] ta)(hs:starEach [a] X.env=[(false,eval a X.env)]:=by rfl):PI X tg (.Call (.Name "range" p) [a] [] pos) (Zet ta):=by
 intro qQ s σ H R I h;refine Call_ (Ob I hg hm boot_range (PyProof.Rows.callWith_type1 (thn (ha pos qQ s σ H _ I h) λus s1 ⟨vs,H1,I1,r1,q1⟩=>?_) hs rfl));obtain ⟨j,e,q1,q2,q⟩:=q1;subst e;cases r1 with
 | cons r rr=>
  cases rr;obtain ⟨t,rfl⟩:=r;exact call_range_1 (Wi I1 (by lia) (by lia) q1 q2 (by simpa using q))
theorem Vq {a b:Expr}{ta:TA}{p pos:Pos}(hg:Gl X "range")(hm:X.mg "range" = none)(ha:PA X [a,b] ta)(hs:starEach [a,b] X.env=[(false,eval a X.env),(false,eval b X.env)]:=by rfl)(hs2:starEach [b] X.env=[(false,eval b X.env)]:=by rfl) :
  PI X tg (.Call (.Name "range" p) [a,b] [] pos) (Zeu ta):=by
 intro qQ s σ H R I h;refine Call_ (Ob I hg hm boot_range (PyProof.Rows.callWith_type1 (thn (ha pos qQ s σ H _ I h) λus s1 ⟨vs,H1,I1,r1,q1⟩=>?_) (by rw [hs,hs2]) (by rw [hs2];rfl)));obtain ⟨i,j,e,⟨q1,q2,q3,q4⟩,q⟩:=q1;subst e;cases r1 with
 | cons r rr=>
  cases rr with
  | cons r' rr=>
   cases rr;obtain ⟨t,rfl⟩:=r;obtain ⟨t',rfl⟩:=r';exact call_range_2 (Wi I1 q1 q2 q3 q4 q)
def ZfI (wi:TI)(g:TG)(tb:TS):TS:=λD σ H=>wi σ H λJ H1=>∃W:Nat->Nat->St->Hp->Prop,(∃m,W 0 m σ H1)/\∀i m σ H,W i m σ H ->
 (J.stop i H/\D.nx σ H)\/(J.go i H/\∃N:St->Hp->Prop,(∀ σ' H',N σ' H'->∃m',m'<m/\W (i+1) m' σ' H')/\∀x H',J.yld i H x H'->g x σ H' λσ2 H2=>tb { D with nx:=N,ct:=N,bk:=D.nx } σ2 H2)
def Vr (fp:List Addr)(h:Heap):List (Addr×Obj):=fp.filterMap λb=>(h.get? b).map λo=>(b,o)
theorem Op {fp:List Addr}{h:Heap}{b:Addr}{o:Obj}(hb:b∈fp)(e:h.get? b=some o):(b,o)∈Vr fp h:=List.mem_filterMap.mpr ⟨b,hb,by rw [e];rfl⟩
theorem XN {fp:List Addr}{h:Heap}{p:Addr×Obj}(hp:p∈Vr fp h):p.1∈fp/\h.get? p.1=some p.2:=by
 obtain ⟨b,hb,e⟩:=List.mem_filterMap.mp hp;cases q:h.get? b with
 | none=>rw [q] at e;cases e
 | some o=>
  rw [q] at e;have e':(b,o)=p:=Option.some.inj e;subst e';exact ⟨hb,q⟩
theorem Inv.pinned {qQ:List (Addr×Obj)}{σ:St}{H:Hp}{s:Shared}{fp:List Addr}(I:Inv X qQ σ H s)(hf:∀b∈fp,Y6 X qQ H b)(ho:∀b∈fp,∃o,s.heap.get? b=some o/\∀v,o.data≠.cell v):Inv X (qQ++Vr fp s.heap) σ H s:=
 I.pins_of λp hp=>(List.mem_append.mp hp).elim (λz=>I.pin p (List.mem_append_right _ z)) λz=>by
  obtain ⟨hb,e⟩:=XN z;obtain ⟨f0,f1,f2,_⟩:=hf p.1 hb;obtain ⟨o,e',d⟩:=ho p.1 hb;rw [e] at e';cases e';exact ⟨e,f0,f1,f2,d⟩
theorem Inv.unpinned {qQ pl:List (Addr×Obj)}{σ:St}{H:Hp}{s:Shared}(I:Inv X (qQ++pl) σ H s):Inv X qQ σ H s:=I.pins_of λp hp=>I.pin p (List.mem_append_right _ (List.mem_append_left _ hp))
theorem J1 {iter:Expr}{body:List Stmt}{wi:TI}{g:TG}{tb:TS}{pos:Pos}(hp:PassesOwn (model X.prog X.w) X.A X.env X.xe)(hc:X.calm=true)(hi:PI X tg iter wi)(hg:PG X tg g)(hb:PSs X body tb)(hs:∀x,foldedSetIterable iter X.env x=pure x:=by intro _;rfl):PS X (.For tg iter body [] pos) (ZfI wi g tb):=by
 intro qQ s σ H D I h;refine wpAny_For (thn (hi qQ s σ H _ I h) λv s1 h1=>thn h1 λitv s2 h2=>?_) hs;obtain ⟨it,fp,tn,J,H2,e,I2,T,st2,f2,W,⟨m0,w0⟩,turn⟩:=h2;subst e;have stat:∀{H':Hp},(∀b∈fp,H' b=none)->∀b∈fp,Y6 X qQ H' b:=λhn b hb=>⟨hn b hb,(f2 b hb).2⟩;refine codeAny_forLoop_any (λn s'=>∃i σ' H',Inv X qQ σ' H' s'/\tn i s'.heap/\(∀b∈fp,H' b=none)/\W i n σ' H') ?_ m0 ⟨0,σ,H2,I2,st2,λb hb=>(f2 b hb).1,w0⟩;rintro n s3 ⟨i,σ3,H3,I3,st3,fr3,w3⟩;rcases turn i n σ3 H3 w3 with ⟨stop,qn⟩ | ⟨go,N,hN,step⟩
 ·refine wpAny_passesOwn hp (thn (T.done X rfl rfl rfl hc i qQ s3 σ3 H3 X.xe I3 (stat fr3) st3 stop) λr s4 ⟨hr,I4⟩=>?_);subst hr;exact wpAny_execs_nil ⟨σ3,H3,I4,qn⟩
 ·refine wpAny_passesOwn hp (thn (T.item X rfl rfl rfl hc i qQ s3 σ3 H3 X.xe I3 (stat fr3) st3 go) λr s4 ⟨u,hr,h4⟩=>?_);subst hr;refine wpAny_passesOwn hp (thn h4 λ_ s5 ⟨x,H5,I5,r5,y5,st5,fr5⟩=>?_);have I5':=I5.pinned (stat fr5) (T.obj _ _ st5);refine wpAny_passesOwn hp (thn (hg _ s5 σ3 H5 x u _ I5' r5 (step x H5 y5)) λ_ s6 ⟨σ6,H6,I6,q6⟩=>?_);refine wpAny_passesOwn hp (thn (hb _ s6 σ6 H6 _ I6 q6) λf s7 q7=>?_);have again:∀{σ7:St}{H7:Hp},Inv X (qQ++Vr fp s5.heap) σ7 H7 s7->N σ7 H7->∃m,m<n/\∃i σ' H',Inv X qQ σ' H' s7/\tn i s7.heap/\(∀b∈fp,H' b=none)/\W i m σ' H':=λ{σ7 H7} I7 n7=>by
   obtain ⟨m',hm,w7⟩:=hN σ7 H7 n7;refine ⟨m',hm,i+1,σ7,H7,I7.unpinned,T.keep _ _ _ st5 λb hb o e=>(I7.pin (b,o) (List.mem_append_right _ (List.mem_append_right _ (Op hb e)))).1,λb hb=>?_,w7⟩;obtain ⟨o,e,d⟩:=T.obj _ _ st5 b hb;exact (I7.pin (b,o) (List.mem_append_right _ (List.mem_append_right _ (Op hb e)))).2.1
  cases f with
  | next=>obtain ⟨σ7,H7,I7,n7⟩:=q7;exact again I7 n7
  | cont=>obtain ⟨σ7,H7,I7,n7⟩:=q7;exact again I7 n7
  | brk=>obtain ⟨σ7,H7,I7,q7⟩:=q7;exact ⟨σ7,H7,I7.unpinned,q7⟩
  | ret v=>obtain ⟨x7,σ7,H7,I7,r7,q7⟩:=q7;exact ⟨x7,σ7,H7,I7.unpinned,r7,q7⟩
end
theorem U1 {K:PySem.W.Frag}{a:Addr}{xs:List V}{g:TG}{tb:TS}{D:Ends}{σ:St}{H:Hp}(Pv:Nat->St->Hp->Prop)(h0:Pv 0 σ H)(hl:∀i σ H,i<=xs.length->Pv i σ H->SqL K H a xs)(hs:∀i x σ H,xs[i]?=some x->Pv i σ H->g x σ H λσ2 H2=>tb { D with nx:=Pv (i+1),ct:=Pv (i+1),bk:=D.nx } σ2 H2)(hd:∀ σ H,Pv xs.length σ H->D.nx σ H) :
  ∃W:Nat->Nat->St->Hp->Prop,(∃m,W 0 m σ H)/\∀i m σ H,W i m σ H ->
   ((Itl K a).stop i H/\D.nx σ H)\/((Itl K a).go i H/\∃N:St->Hp->Prop,(∀ σ' H',N σ' H'->∃m',m'<m/\W (i+1) m' σ' H')/\∀x H',(Itl K a).yld i H x H'->g x σ H' λσ2 H2=>tb { D with nx:=N,ct:=N,bk:=D.nx } σ2 H2):=by
 refine ⟨λi m σ H=>m=xs.length-i/\i<=xs.length/\Pv i σ H,⟨xs.length,by simp,Nat.zero_le _,h0⟩,?_⟩;rintro i m σ H ⟨rfl,hi,p⟩;have q:=hl i σ H hi p;by_cases hlt:i<xs.length
 ·refine .inr ⟨⟨xs,xs[i],q,by simp [hlt]⟩,Pv (i+1),λσ' H' p'=>⟨xs.length-(i+1),by lia,rfl,hlt,p'⟩,λx H' y=>?_⟩;obtain ⟨e,y⟩:=y;subst e;exact hs i x σ _ (y xs q) p
 ·have e:i=xs.length:=by lia
  subst e;exact .inl ⟨⟨xs,q,Nat.le_refl _⟩,hd σ H p⟩
theorem JG {lo:Int}{n:Nat}{g:TG}{tb:TS}{D:Ends}{σ:St}{H:Hp}(Pv:Nat->St->Hp->Prop)(h0:Pv 0 σ H)(hs:∀i σ H,i<n->Pv i σ H->g (.int (lo+i)) σ H λσ2 H2=>tb { D with nx:=Pv (i+1),ct:=Pv (i+1),bk:=D.nx } σ2 H2)(hd:∀ σ H,Pv n σ H->D.nx σ H) :
  ∃W:Nat->Nat->St->Hp->Prop,(∃m,W 0 m σ H)/\∀i m σ H,W i m σ H ->
   ((Itr lo n).stop i H/\D.nx σ H)\/((Itr lo n).go i H/\∃N:St->Hp->Prop,(∀ σ' H',N σ' H'->∃m',m'<m/\W (i+1) m' σ' H')/\∀x H',(Itr lo n).yld i H x H'->g x σ H' λσ2 H2=>tb { D with nx:=N,ct:=N,bk:=D.nx } σ2 H2):=by
 refine ⟨λi m σ H=>m=n-i/\i<=n/\Pv i σ H,⟨n,by simp,Nat.zero_le _,h0⟩,?_⟩;rintro i m σ H ⟨rfl,hi,p⟩;by_cases hlt:i<n
 ·refine .inr ⟨hlt,Pv (i+1),λσ' H' p'=>⟨n-(i+1),by lia,rfl,hlt,p'⟩,λx H' y=>?_⟩;obtain ⟨e,y⟩:=y;subst e y;exact hs i σ _ hlt p
 ·have e:i=n:=by lia
  subst e;exact .inl ⟨Nat.le_refl _,hd σ H p⟩
end L2
namespace L2
open PySem PySem.Spec PyProof.Rows
abbrev R2:=V->V->Hp->VK->Prop
def OpR (X:Cx)(f:Value->Value->Sem Value)(r:R2):Prop:=
 ∀(qQ:List (Addr×Obj))(s:Shared)(σ:St)(H:Hp)(x y:V)(v u:Value)(Q:VK),Inv X qQ σ H s->RelV x v->RelV y u->r x y H Q ->
  wpAny (model X.prog X.w) X.A (f v u) (EP X qQ σ Q) X.xe s
def UnR (X:Cx)(f:Value->Sem Value)(r:V->Hp->VK->Prop):Prop:=
 ∀(qQ:List (Addr×Obj))(s:Shared)(σ:St)(H:Hp)(x:V)(v:Value)(Q:VK),Inv X qQ σ H s->RelV x v->r x H Q ->
  wpAny (model X.prog X.w) X.A (f v) (EP X qQ σ Q) X.xe s
def J2 (X:Cx)(f:Value)(r:List V->Hp->VK->Prop):Prop:=
 ∀(qQ:List (Addr×Obj))(s:Shared)(σ:St)(H:Hp)(xs:List V)(us:List Value)(Q:VK),Inv X qQ σ H s->Vals xs us->r xs H Q ->
  wpAny (model X.prog X.w) X.A (call f us) (EP X qQ σ Q) X.xe s
def ZfJ (X:Cx)(r:V->Hp->(Bool->Hp->Prop)->Prop):Prop:=
 ∀(qQ:List (Addr×Obj))(s:Shared)(σ:St)(H:Hp)(x:V)(v:Value)(Q:Bool->Hp->Prop),Inv X qQ σ H s->RelV x v->r x H Q ->
  wpAny (model X.prog X.w) X.A (truthy v) (TP X qQ σ Q) X.xe s
def tOp (r:R2)(ta tb:TE):TE:=λσ H Q=>ta σ H λx H1=>tb σ H1 λy H2=>r x y H2 Q
def tUn (r:V->Hp->VK->Prop)(ta:TE):TE:=λσ H Q=>ta σ H λx H1=>r x H1 Q
def rI (C:Int->Int->Prop)(g:Int->Int->V):R2:=λx y H Q=>∃i j,x=.int i/\y=.int j/\C i j/\Q (g i j) H
def rI0 (g:Int->Int->V):R2:=λx y H Q=>∃i j,x=.int i/\y=.int j/\Q (g i j) H
def rU (g:Int->V):V->Hp->VK->Prop:=λx H Q=>∃i,x=.int i/\Q (g i) H
section
variable {X:Cx}{a b c:Expr}{ta tb tc:TE}{pos:Pos}
theorem Zev (ha:PE X a ta)(hb:PE X b tb){qQ:List (Addr×Obj)}{s:Shared}{σ:St}{H:Hp}{R:V->V->Hp->Prop}(I:Inv X qQ σ H s)(h:ta σ H λx H1=>tb σ H1 λy H2=>R x y H2){Q:Value->Shared->Prop}{f:Value->Value->Sem Value}(hf:∀v u s2 x y H2,Inv X qQ σ H2 s2->RelV x v->RelV y u->R x y H2->wpAny (model X.prog X.w) X.A (f v u) Q X.xe s2) :
  wpAny (model X.prog X.w) X.A (eval a X.env) (λv s₁=>wpAny (model X.prog X.w) X.A (eval b X.env) (λu s₂=>wpAny (model X.prog X.w) X.A (f v u) Q X.xe s₂) X.xe s₁) X.xe s:=by
 refine thn (ha qQ s σ H _ I h) λv s1 ⟨x,H1,I1,r1,q1⟩=>?_;refine thn (hb qQ s1 σ H1 _ I1 q1) λu s2 ⟨y,H2,I2,r2,q2⟩=>?_;exact hf v u s2 x y H2 I2 r1 r2 q2
theorem GB {op:Operator}{r:R2}(ho:OpR X (binaryOp op) r)(ha:PE X a ta)(hb:PE X b tb):PE X (.BinOp a op b pos) (tOp r ta tb):=by
 intro qQ s σ H Q I h;exact wpAny_BinOp (Zev ha hb I h λv u s2 x y H2 I2 rx ry q=>ho qQ s2 σ H2 x y v u Q I2 rx ry q)
theorem OF {op:UnaryOp}{r:V->Hp->VK->Prop}(ho:UnR X (unaryOp op) r)(ha:PE X a ta):PE X (.UnaryOp op a pos) (tUn r ta):=by
 intro qQ s σ H Q I h;exact UnaryOp_ (thn (ha qQ s σ H _ I h) λv s1 ⟨x,H1,I1,r1,q1⟩=>ho qQ s1 σ H1 x v Q I1 r1 q1)
theorem opI {f:Value->Value->Sem Value}{C:Int->Int->Prop}{g:Int->Int->Int}(rule:∀(i j:Int)(t u:Tok)(s:Shared)(Q:Value->Shared->Prop)(E:Value->Shared->Prop),C i j->Q (.int (g i j) s.toks) { s with toks:=s.toks+1 }->wpAny (model X.prog X.w) X.A (f (.int i t) (.int j u)) Q E s) :
  OpR X f (rI C λi j=>.int (g i j)):=by
 intro qQ s σ H x y v u Q I rx ry h;obtain ⟨i,j,rfl,rfl,hc,q⟩:=h;obtain ⟨t,rfl⟩:=rx;obtain ⟨t',rfl⟩:=ry;exact rule i j t t' s _ _ hc ⟨.int (g i j),H,I.tok _,⟨_,rfl⟩,q⟩
theorem Zfk {f:Value->Value->Sem Value}{g:Int->Int->Int}(rule:∀(i j:Int)(t u:Tok)(s:Shared)(Q:Value->Shared->Prop)(E:Value->Shared->Prop),Q (.int (g i j) s.toks) { s with toks:=s.toks+1 }->wpAny (model X.prog X.w) X.A (f (.int i t) (.int j u)) Q E s) :
  OpR X f (rI0 λi j=>.int (g i j)):=by
 intro qQ s σ H x y v u Q I rx ry h;obtain ⟨i,j,rfl,rfl,q⟩:=h;obtain ⟨t,rfl⟩:=rx;obtain ⟨t',rfl⟩:=ry;exact rule i j t t' s _ _ ⟨.int (g i j),H,I.tok _,⟨_,rfl⟩,q⟩
theorem Zej {f:Value->Value->Sem Value}{g:Int->Int->Bool}(rule:∀(i j:Int)(t u:Tok)(s:Shared)(Q:Value->Shared->Prop)(E:Value->Shared->Prop),Q (.bool (g i j)) s->wpAny (model X.prog X.w) X.A (f (.int i t) (.int j u)) Q E s) :
  OpR X f (rI0 λi j=>.bl (g i j)):=by
 intro qQ s σ H x y v u Q I rx ry h;obtain ⟨i,j,rfl,rfl,q⟩:=h;obtain ⟨t,rfl⟩:=rx;obtain ⟨t',rfl⟩:=ry;exact rule i j t t' s _ _ ⟨.bl (g i j),H,I,rfl,q⟩
def ZfK (i j:Int):Prop:=0<=j/\j<=1000000/\i.natAbs<2 ^ 64
def CMul (i j:Int):Prop:=(-(2 ^ 64)<i/\i<2 ^ 64)\/(-(2 ^ 64)<j/\j<2 ^ 64)
theorem CMul.ok {i j:Int}(h:CMul i j):IntMulOk i j:=by
 rcases h with ⟨h1,h2⟩ | ⟨h1,h2⟩
 ·exact .of_left (intBits_le_64 h1 h2)
 ·exact .of_right (intBits_le_64 h1 h2)
theorem Jp:OpR X (binaryOp .Add) (rI0 λi j=>.int (i+j)):=Zfk λ_ _ _ _ _ _ _ q=>add_int q
theorem Vs:OpR X (binaryOp .Sub) (rI0 λi j=>.int (i-j)):=Zfk λ_ _ _ _ _ _ _ q=>sub_int q
theorem JN:OpR X (binaryOp .Mult) (rI CMul λi j=>.int (i * j)):=opI λ_ _ _ _ _ _ _ hc q=>mul_int q hc.ok
theorem G4:OpR X (binaryOp .Mod) (rI (λ_ j=>0<j) λi j=>.int (i % j)):=opI λi j _ _ _ _ _ hc q=>by
 have h1:(0:Int)<j:=hc;exact mod_int' (by lia) (by rw [Int.fmod_eq_emod_of_nonneg i (by lia)];exact q)
theorem Zcy:OpR X (binaryOp .Pow) (rI ZfK λi j=>.int (i ^ j.toNat)):=opI λ_ _ _ _ _ _ _ hc q=>pow_int_small hc.1 hc.2.1 hc.2.2 q
end
def Zfl:V->V->Bool
 | .non,.non=>true | .non,.int _=>true | .int _,.non=>true | .non,.bl _=>true | .bl _,.non=>true | .non,.str _=>true | .str _,.non=>true
 | .int _,.int _=>true | .bl _,.bl _=>true | .str _,.str _=>true | .byt _,.byt _=>true
 | .int _,.str _=>true | .str _,.int _=>true | .bl _,.str _=>true | .str _,.bl _=>true
 | _,_=>false
def rEq:R2:=λx y H Q=>Zfl x y=true/\Q (.bl (decide (x=y))) H
def rNe:R2:=λx y H Q=>Zfl x y=true/\Q (.bl (!decide (x=y))) H
theorem XO {i j:Int}:decide (V.int i=V.int j)=(i == j):=by
 rw [Bool.eq_iff_iff];simp
theorem Zau {i j:Bool}:decide (V.bl i=V.bl j)=(i == j):=by
 rw [Bool.eq_iff_iff];simp
theorem XQ {i j:Str}:decide (V.str i=V.str j)=(i == j):=by
 rw [Bool.eq_iff_iff];simp
theorem XR {i j:Array UInt8}:decide (V.byt i=V.byt j)=(i.toList == j.toList):=by
 rw [Bool.eq_iff_iff];cases i;cases j;simp
section
variable {X:Cx}{a b c:Expr}{ta tb tc:TE}{pos:Pos}
theorem G5 {qQ:List (Addr×Obj)}{σ:St}{H:Hp}{s:Shared}{Q:VK}{k k':Bool}(I:Inv X qQ σ H s)(q:Q (.bl k) H)(e:k=k'):EP X qQ σ Q (.bool k') s:=by
 subst e;exact ⟨.bl k,H,I,rfl,q⟩
theorem Jv:OpR X (compareOp .Eq) rEq:=by
 intro qQ s σ H x y v u Q I rx ry h;obtain ⟨hs,q⟩:=h;cases x with
 | non=>
  cases rx;cases y with
  | non=>cases ry;exact PySem.EqNone.eq_none_none (G5 I q (by simp))
  | bl j=>cases ry;exact PySem.EqNone.eq_none_bool (G5 I q (by simp))
  | int j=>obtain ⟨t',rfl⟩:=ry;exact PySem.EqNone.eq_none_int (G5 I q (by simp))
  | str j=>obtain ⟨t',rfl⟩:=ry;exact PySem.EqNone.eq_none_str (G5 I q (by simp))
  | _=>exact absurd (show false=true from hs) Bool.false_ne_true
 | bl i=>
  cases rx;cases y with
  | non=>cases ry;exact PySem.EqNone.eq_bool_none (G5 I q (by simp))
  | bl j=>cases ry;exact eq_bool (G5 I q Zau)
  | str j=>obtain ⟨t',rfl⟩:=ry;exact PySem.EqMixed.eq_bool_str (G5 I q (by simp))
  | _=>exact absurd (show false=true from hs) Bool.false_ne_true
 | int i=>
  obtain ⟨t,rfl⟩:=rx;cases y with
  | non=>cases ry;exact PySem.EqNone.eq_int_none (G5 I q (by simp))
  | int j=>obtain ⟨t',rfl⟩:=ry;exact eq_int (G5 I q XO)
  | str j=>obtain ⟨t',rfl⟩:=ry;exact PySem.EqMixed.eq_int_str (G5 I q (by simp))
  | _=>exact absurd (show false=true from hs) Bool.false_ne_true
 | str i=>
  obtain ⟨t,rfl⟩:=rx;cases y with
  | non=>cases ry;exact PySem.EqNone.eq_str_none (G5 I q (by simp))
  | bl j=>cases ry;exact PySem.EqMixed.eq_str_bool (G5 I q (by simp))
  | int j=>obtain ⟨t',rfl⟩:=ry;exact PySem.EqMixed.eq_str_int (G5 I q (by simp))
  | str j=>obtain ⟨t',rfl⟩:=ry;exact eq_str (G5 I q XQ)
  | _=>exact absurd (show false=true from hs) Bool.false_ne_true
 | byt i=>
  obtain ⟨t,rfl⟩:=rx;cases y with
  | byt j=>obtain ⟨t',rfl⟩:=ry;exact W.eq_bytes (G5 I q XR)
  | _=>exact absurd (show false=true from hs) Bool.false_ne_true
 | _=>cases y <;> exact absurd (show false=true from hs) Bool.false_ne_true
theorem Xc:OpR X (compareOp .NotEq) rNe:=by
 intro qQ s σ H x y v u Q I rx ry h;obtain ⟨hs,q⟩:=h;cases x with
 | non=>
  cases rx;cases y with
  | non=>cases ry;exact PySem.EqNone.ne_none_none (G5 I q (by simp))
  | bl j=>cases ry;exact PySem.EqNone.ne_none_bool (G5 I q (by simp))
  | int j=>obtain ⟨t',rfl⟩:=ry;exact PySem.EqNone.ne_none_int (G5 I q (by simp))
  | str j=>obtain ⟨t',rfl⟩:=ry;exact PySem.EqNone.ne_none_str (G5 I q (by simp))
  | _=>exact absurd (show false=true from hs) Bool.false_ne_true
 | bl i=>
  cases rx;cases y with
  | non=>cases ry;exact PySem.EqNone.ne_bool_none (G5 I q (by simp))
  | bl j=>cases ry;exact ne_bool (G5 I q (congrArg not Zau))
  | str j=>obtain ⟨t',rfl⟩:=ry;exact PySem.EqMixed.ne_bool_str (G5 I q (by simp))
  | _=>exact absurd (show false=true from hs) Bool.false_ne_true
 | int i=>
  obtain ⟨t,rfl⟩:=rx;cases y with
  | non=>cases ry;exact PySem.EqNone.ne_int_none (G5 I q (by simp))
  | int j=>obtain ⟨t',rfl⟩:=ry;exact ne_int (G5 I q (congrArg not XO))
  | str j=>obtain ⟨t',rfl⟩:=ry;exact PySem.EqMixed.ne_int_str (G5 I q (by simp))
  | _=>exact absurd (show false=true from hs) Bool.false_ne_true
 | str i=>
  obtain ⟨t,rfl⟩:=rx;cases y with
  | non=>cases ry;exact PySem.EqNone.ne_str_none (G5 I q (by simp))
  | bl j=>cases ry;exact PySem.EqMixed.ne_str_bool (G5 I q (by simp))
  | int j=>obtain ⟨t',rfl⟩:=ry;exact PySem.EqMixed.ne_str_int (G5 I q (by simp))
  | str j=>obtain ⟨t',rfl⟩:=ry;exact ne_str (G5 I q (congrArg not XQ))
  | _=>exact absurd (show false=true from hs) Bool.false_ne_true
 | byt i=>
  obtain ⟨t,rfl⟩:=rx;cases y with
  | byt j=>obtain ⟨t',rfl⟩:=ry;exact W.ne_bytes (G5 I q (congrArg not XR))
  | _=>exact absurd (show false=true from hs) Bool.false_ne_true
 | _=>cases y <;> exact absurd (show false=true from hs) Bool.false_ne_true
theorem U2:OpR X (compareOp .Lt) (rI0 λi j=>.bl (decide (i<j))):=Zej λ_ _ _ _ _ _ _ q=>lt_int q
theorem XS:OpR X (compareOp .LtE) (rI0 λi j=>.bl (decide (i<=j))):=Zej λ_ _ _ _ _ _ _ q=>le_int q
theorem Xd:OpR X (compareOp .Gt) (rI0 λi j=>.bl (decide (j<i))):=Zej λ_ _ _ _ _ _ _ q=>gt_int q
theorem Zew:OpR X (compareOp .GtE) (rI0 λi j=>.bl (decide (j<=i))):=Zej λ_ _ _ _ _ _ _ q=>ge_int q
theorem Gx (b:Expr){op:CmpOp}(h:op≠.In:=by decide)(h2:op≠.NotIn:=by decide):behindInMarks op b=false:=by
 have e1:(op == CmpOp.In)=false:=by cases op <;> first | rfl | exact absurd rfl h
 have e2:(op == CmpOp.NotIn)=false:=by cases op <;> first | rfl | exact absurd rfl h2
 cases b <;> simp [behindInMarks,e1,e2]
theorem G6 {op:CmpOp}{r:R2}(ho:OpR X (compareOp op) r)(ha:PE X a ta)(hb:PE X b tb)(hm:behindInMarks op b=false):PE X (.Compare a [op] [b] pos) (tOp r ta tb):=by
 intro qQ s σ H Q I h;exact wpAny_Compare1 (Zev ha hb I h λv u s2 x y H2 I2 rx ry q=>ho qQ s2 σ H2 x y v u Q I2 rx ry q) hm
def Zex (t:TE):TT:=λσ H Q=>t σ H λx H'=>∃k,x=.bl k/\Q k H'
theorem Gp {op:CmpOp}{r:R2}(ho:OpR X (compareOp op) r)(ha:PE X a ta)(hb:PE X b tb)(hm:behindInMarks op b=false):PT X (.Compare a [op] [b] pos) (Zex (tOp r ta tb)):=by
 intro qQ s σ H Q I h;refine wpAny_isTrue_Compare1 (thn (ha qQ s σ H _ I h) λv s1 ⟨x,H1,I1,r1,q1⟩=>thn (hb qQ s1 σ H1 _ I1 q1) λu s2 ⟨y,H2,I2,r2,q2⟩=>
  thn (ho qQ s2 σ H2 x y v u _ I2 r1 r2 q2) λc s3 ⟨z,H3,I3,r3,k,e,q3⟩=>?_) hm
 subst e;cases r3;exact wpAny_truthy_bool ⟨H3,I3,q3⟩
def Zcz (r r':R2)(ta tb tc:TE):TE:=λσ H Q=>ta σ H λx H1=>tb σ H1 λy H2=>r x y H2 λz H3=>∃k,z=.bl k /\
 (if k=true then tc σ H3 λw' H4=>r' y w' H4 Q else Q (.bl false) H3)
theorem Wj {op op':CmpOp}{r r':R2}(ho:OpR X (compareOp op) r)(ho':OpR X (compareOp op') r')(ha:PE X a ta)(hb:PE X b tb)(hc:PE X c tc)(hm:lastMarks [op,op'] [b,c]=false:=by with_unfolding_all rfl):PE X (.Compare a [op,op'] [b,c] pos) (Zcz r r' ta tb tc):=by
 intro qQ s σ H Q I h;refine Compare_chain (thn (ha qQ s σ H _ I h) λv s1 ⟨x,H1,I1,r1,q1⟩=>chain_link (thn (hb qQ s1 σ H1 _ I1 q1) λu s2 ⟨y,H2,I2,r2,q2⟩=>
  thn (ho qQ s2 σ H2 x y v u _ I2 r1 r2 q2) λd s3 ⟨z,H3,I3,r3,k,e,q3⟩=>?_)) hm
 subst e;cases r3;refine wpAny_truthy_bool ?_;cases k with
 | false=>exact ite_ff ⟨.bl false,H3,I3,rfl,q3⟩
 | true=>exact ite_tt (chain_last (thn (hc qQ s3 σ H3 _ I3 q3) λw' s4 ⟨z',H4,I4,r4,q4⟩=>ho' qQ s4 σ H4 y z' u w' Q I4 r2 r4 q4))
def Zfm (K:W.Frag)(x:V)(H:Hp)(k:Bool):Prop:=
 match x with
 | .non=>k=false
 | .bl b=>k=b
 | .int i=>k=(i != 0)
 | .str y=>y.length<=sizeLine/\k=((y.length:Int) != 0)
 | .byt y=>y.size<=sizeLine/\k=((y.size:Int) != 0)
 | .ref p=>(∃xs,SqL K H p xs/\k=!xs.isEmpty)\/(∃xs,SqT K H p xs/\k=!xs.isEmpty)\/∃kvs,H p=some (.dK kvs)/\k=!kvs.isEmpty
 | _=>False
theorem Xe {κ:Type}{kvs:List (κ×V)}{vs:List (κ×Value)}(r:KV kvs vs):(!vs.isEmpty)=!kvs.isEmpty:=by
 cases r <;> rfl
theorem UP {xs:List V}{its:List Value}(r:Vals xs its):(!its.toArray.isEmpty)=!xs.isEmpty:=by
 cases r <;> simp
theorem Wm:(sizeLine:Nat)<2 ^ 63:=by rw [sizeLine_eq];decide
theorem ZcA:ZfJ X (λx H Q=>∃k,Zfm X.K x H k/\Q k H):=by
 intro qQ s σ H x v Q I rx h;obtain ⟨k,e,q⟩:=h;have hl:=Wm;have hs:sizeLine=16777216:=sizeLine_eq;cases x with
 | non=>
  cases rx;have e':k=false:=e;subst e';exact truthy_none ⟨H,I,q⟩
 | bl b=>
  cases rx;have e':k=b:=e;subst e';exact wpAny_truthy_bool ⟨H,I,q⟩
 | int i=>
  obtain ⟨t,rfl⟩:=rx;have e':k=(i != 0):=e;subst e';exact PySem.P.truthy_int ⟨H,I,q⟩
 | str y=>
  obtain ⟨t,rfl⟩:=rx;obtain ⟨hy,e'⟩:y.length<=sizeLine/\k=((y.length:Int) != 0):=e;subst e';exact PySem.P.truthy_str (by lia) ⟨H,I.tok _,q⟩
 | byt y=>
  obtain ⟨t,rfl⟩:=rx;obtain ⟨hy,e'⟩:y.size<=sizeLine/\k=((y.size:Int) != 0):=e;subst e';exact W.truthy_bytes (by lia) ⟨H,I.tok _,q⟩
 | ref p=>
  cases rx;have e':(∃xs,SqL X.K H p xs/\k=!xs.isEmpty)\/(∃xs,SqT X.K H p xs/\k=!xs.isEmpty)\/∃kvs,H p=some (.dK kvs)/\k=!kvs.isEmpty:=e;rcases e' with ⟨xs,hx,e'⟩ | ⟨xs,hx,e'⟩ | ⟨kvs,hx,e'⟩
  ·subst e';obtain ⟨its,r,pl,hz⟩:=I.list hx;have qJ:=r.length;exact wpAny_truthy_list pl.isList (by simp only [List.size_toArray];lia) ⟨H,I.tok _,by rw [UP r];exact q⟩
  ·subst e';obtain ⟨its,r,pl,hz⟩:=I.tuple hx;have qJ:=r.length;exact truthy_tuple pl (by simp only [List.size_toArray];lia) ⟨H,I.tok _,by rw [UP r];exact q⟩
  ·subst e';obtain ⟨hz,hS,vs,r,m⟩:kvs.length<=sizeLine/\(p == sysModules)=false/\∃vs,KV kvs vs/\s.heap.DictOf (Jh X.prog X.w) p vs:=I.hok p _ hx;have qJ:kvs.length=vs.length:=Paired.length r;exact wpAny_truthy_dict hS m (by lia) ⟨H,I.tok _,by rw [Xe r];exact q⟩
 | _=>exact (show False from e).elim
theorem U3 (ha:PE X a ta)(he:∀whole,isTrue a X.env whole=(do let v <- whole;standAt a.pos;holding [v] (truthy v))) :
  PT X a (λσ H Q=>ta σ H λx H'=>∃k,Zfm X.K x H' k/\Q k H'):=by
 intro qQ s σ H Q I h;exact isTrue_plain (thn (ha qQ s σ H _ I h) λv s1 ⟨x,H1,I1,r1,q1⟩=>ZcA qQ s1 σ H1 x v Q I1 r1 q1) (he _)
theorem ZaW {x:V}{us:List Value}(r:Vals [x] us):∃u,us=[u]/\RelV x u:=by
 cases r with
 | cons r1 r2=>cases r2;exact ⟨_,rfl,r1⟩
theorem ZcB {x y:V}{us:List Value}(r:Vals [x,y] us):∃u w',us=[u,w']/\RelV x u/\RelV y w':=by
 cases r with
 | cons r1 r2=>
  cases r2 with
  | cons r3 r4=>cases r4;exact ⟨_,_,rfl,r1,r3⟩
theorem Og (hc:X.calm=true):J2 X (.builtin "max") (λxs H Q=>∃i j,xs=[.int i,.int j]/\Q (.int (if j > i then j else i)) H):=by
 intro qQ s σ H xs us Q I r h;obtain ⟨i,j,rfl,q⟩:=h;obtain ⟨u,w',rfl,⟨t,rfl⟩,⟨t',rfl⟩⟩:=ZcB r;refine max_two_ints (I.ok.hd hc) λh' tk k=>⟨_,H,I.kept k,?_,q⟩;by_cases hj:j > i
 ·rw [if_pos hj,if_pos hj];exact ⟨_,rfl⟩
 ·rw [if_neg hj,if_neg hj];exact ⟨_,rfl⟩
theorem OG (hc:X.calm=true):J2 X (.builtin "min") (λxs H Q=>∃i j,xs=[.int i,.int j]/\Q (.int (if j<i then j else i)) H):=by
 intro qQ s σ H xs us Q I r h;obtain ⟨i,j,rfl,q⟩:=h;obtain ⟨u,w',rfl,⟨t,rfl⟩,⟨t',rfl⟩⟩:=ZcB r;refine min_two_ints (I.ok.hd hc) λh' tk k=>⟨_,H,I.kept k,?_,q⟩;by_cases hj:j<i
 ·rw [if_pos hj,if_pos hj];exact ⟨_,rfl⟩
 ·rw [if_neg hj,if_neg hj];exact ⟨_,rfl⟩
end
end L2
namespace L2
open PySem PySem.Spec PyProof.Rows
structure ObjM (h:Heap)(x dx C:Addr)(mA:Str->Option Value):Prop where
 obj:h.get? x=some (W.instObj C dx)
 ns:h.Ns1 dx mA
 ne:dx≠x
theorem XT {h:Heap}{dx:Addr}{mA:Str->Option Value}(n:h.Ns1 dx mA):∃od,h.get? dx=some od/\∀name,W.lookIn name od=some (mA name):=by
 obtain ⟨o,es,ep,ho,hd,hk,_,hm⟩:=n;refine ⟨o,ho,λname=>?_⟩;have e:=hm name;unfold nsFind findBy at e;rw [<-Array.find?_toList] at e;unfold W.lookIn;rw [hd];dsimp only;split
 ·rename_i y q;rw [q] at e;exact congrArg some e
 ·rename_i q;rw [q] at e;have a:es.toList.any (·.refKey)=false:=by
   rw [List.any_eq_false];intro y hy;obtain ⟨z,t,hkey⟩:=hk y (Array.mem_toList_iff.mp hy);simp [DictEntry.refKey,hkey]
  have a':¬ es.toList.any (·.refKey)=true:=by rw [a];exact Bool.false_ne_true
  rw [if_neg a'];exact congrArg some e
theorem ObjM.look {h:Heap}{x dx C:Addr}{mA:Str->Option Value}(I:ObjM h x dx C mA):∃od,W.InstAt h x (W.instObj C dx) C (some od)/\∀name,W.lookIn name od=some (mA name):=
 let ⟨od,ho,hl⟩:=XT I.ns
 ⟨od,⟨I.obj,rfl,rfl,ho⟩,hl⟩
theorem RelO.some_of {v:V}{o:Option Value}(r:RelO (some v) o):∃u,o=some u/\RelV v u:=by
 cases o with
 | none=>exact (show False from r).elim
 | some u=>exact ⟨u,rfl,r⟩
section
variable {P:Program}{w:World}{H H':Hp}{h h':Heap}{a C dx:Addr}{fs fs':List (Str×V)}
theorem ZaX (hok:HOk P w H h)(e:H a=some (.ins C dx fs)):∃mA,ObjM h a dx C mA/\(∀f,RelO (fs.lookup f) (mA f))/\PySem.Within mA (fs.map (·.1))/\fs.length<=1000/\H dx=some (.own a):=by
 obtain ⟨d,z,ne,ob,mA,n,r,q⟩:=(show ObjOk P w H h a (.ins C dx fs) from hok a _ e);exact ⟨mA,⟨ob,n,ne⟩,r,q,z,d⟩
end
structure Cls (K:W.Frag)(C:Addr):Prop where
 pg:W.plainGet K C Str.empty=true
 hd:W.hasDictIn K C=true
 po:W.plainOver K C=true
 sa:W.findIn K (.ref C) "__setattr__" = some (some (.builtin "object.__setattr__"))
theorem Cls.get {K:W.Frag}{C:Addr}(c:Cls K C)(f:Str):W.plainGet K C f=true:=c.pg
section
variable {X:Cx}{qQ:List (Addr×Obj)}{σ:St}{H:Hp}{s:Shared}{A:Around}{E:Value->Shared->Prop}{Q:Value->Shared->Prop}{c:Value}{b:Bool}
inductive Xf (K:W.Frag)(H:Hp):V->Value->Prop where
 | non:Xf K H .non (.type "NoneType")
 | bl (x:Bool):Xf K H (.bl x) (.type "bool")
 | int (i:Int):Xf K H (.int i) (.type "int")
 | str (x:Str):Xf K H (.str x) (.type "str")
 | flt (x:UInt64):Xf K H (.flt x) (.type "float")
 | lst {a:Addr} {xs:List V} (e:H a=some (.lst xs)):Xf K H (.ref a) (.type "list")
 | frz {a:Addr} {o:Obj} {xs:List V} (e:H a=some (.frz o (.lst xs))):Xf K H (.ref a) (.type "list")
 | tup {a:Addr} {xs:List V} (e:H a=some (.tup xs)):Xf K H (.ref a) (.type "tuple")
 | dK {a:Addr} {kvs:List (Key×V)} (e:H a=some (.dK kvs)):Xf K H (.ref a) (.type "dict")
 | dT {a:Addr} {kvs:List (List Key×V)} (e:H a=some (.dT kvs)):Xf K H (.ref a) (.type "dict")
 | ins {a C dx:Addr} {fs:List (Str×V)} (e:H a=some (.ins C dx fs)) (cl:Cls K C) (ha:W.findIn K (.ref C) "__class__" = some (some (.builtin "object.__class__")))
   (hn:W.specialIn K (.builtin "object.__class__") "__get__" = some (some (.builtin "getset_descriptor.__get__"))) (htk:W.takesIn K (.builtin "object.__class__")=some true)
   (hm:W.mroIn K C (.type "object")=some true):Xf K H (.ref a) (.ref C)
theorem XU {x:V}{u t:Value}(I:Inv X qQ σ H s)(rx:RelV x u)(ty:Xf X.K H x t)(e:W.kitOne X.K t c=some b)(h:∀tk,Q (.bool b) { s with toks:=tk }) :
  wpAny (model X.prog X.w) A (call (.builtin "isinstance") [u,c]) Q E s:=by
 cases ty with
 | non=>cases (show u=Value.none from rx);exact W.kia_one W.kitx_none I.kIn True.intro e (λz=>nomatch z) h
 | bl y=>cases (show u=Value.bool y from rx);exact W.kia_one W.kitx_bool I.kIn True.intro e (λz=>nomatch z) h
 | int i=>obtain ⟨t,q⟩:=(show ∃t,u=Value.int i t from rx);cases q;exact W.kia_one W.kitx_int I.kIn True.intro e (λz=>nomatch z) h
 | str y=>obtain ⟨t,q⟩:=(show ∃t,u=Value.str y t from rx);cases q;exact W.kia_one W.kitx_str I.kIn True.intro e (λz=>nomatch z) h
 | flt y=>obtain ⟨t,q⟩:=(show ∃t,u=Value.float y t from rx);cases q;exact W.kia_one W.kitx_float I.kIn True.intro e (λz=>nomatch z) h
 | @lst a xs ea=>
  cases (show u=Value.ref a from rx);obtain ⟨_,_,n,_,h1⟩:=(show ObjOk X.prog X.w H s.heap a (.lst xs) from I.hok a _ ea);exact W.kia_one W.kitx_list I.kIn ⟨_,h1,rfl⟩ e (λz=>nomatch z) h
 | @frz a ob xs ea=>
  cases (show u=Value.ref a from rx);obtain ⟨_,_,_,n,_,h1⟩:=(show ObjOk X.prog X.w H s.heap a (.frz ob (.lst xs)) from I.hok a _ ea);exact W.kia_one W.kitx_list I.kIn ⟨_,h1,rfl⟩ e (λz=>nomatch z) h
 | @tup a xs ea=>
  cases (show u=Value.ref a from rx);obtain ⟨_,_,_,p⟩:=(show ObjOk X.prog X.w H s.heap a (.tup xs) from I.hok a _ ea);obtain ⟨o,h1,h2,_⟩:=p;exact W.kia_one W.kitx_tuple I.kIn ⟨o,h1,h2⟩ e (λz=>nomatch z) h
 | @dK a kvs ea=>
  cases (show u=Value.ref a from rx);obtain ⟨_,_,vs,_,p⟩:=(show ObjOk X.prog X.w H s.heap a (.dK kvs) from I.hok a _ ea);obtain ⟨o,es,ep,h1,h2,_⟩:=p;exact W.kia_one W.kitx_dict I.kIn ⟨o,h1,h2.1⟩ e (λz=>nomatch z) h
 | @dT a kvs ea=>
  cases (show u=Value.ref a from rx);obtain ⟨_,_,xs,_,o,es,ep,h1,h2,_⟩:=(show ObjOk X.prog X.w H s.heap a (.dT kvs) from I.hok a _ ea);exact W.kia_one W.kitx_dict I.kIn ⟨o,h1,h2.1⟩ e (λz=>nomatch z) h
 | @ins a C dx fs ea cl ha hn htk hm=>
  cases (show u=Value.ref a from rx);obtain ⟨mA,O,_⟩:=ZaX I.hok ea;obtain ⟨od,J,_⟩:=O.look;exact W.kia_one (W.kitx_own (cl.get _) cl.hd ha hn htk hm) I.kIn J e (λz=>nomatch z) h
end
end L2
namespace L2
open PySem PySem.Spec PyProof.Rows
structure Room (k:Nat)(A:Around):Prop where
 hd:A.handled=none
 dp:A.depth+3 * k+5<recursionLimit
 un:A.units+16 * k+200<cLine
theorem Room.mono {j k:Nat}{A:Around}(r:Room k A)(h:j<=k):Room j A:=⟨r.hd,by have:=r.dp;lia,by have:=r.un;lia⟩
theorem Room.deeper {k:Nat}{A:Around}(r:Room (k+1) A)(env:Env):Room k (A.deeper env):=
 ⟨r.hd,by have:=r.dp;show A.depth+1+3 * k+5<_;lia,by have:=r.un;show A.units+3+16 * k+200<_;lia⟩
theorem Room.depth {k:Nat}{A:Around}(r:Room k A):A.depth<recursionLimit:=by have:=r.dp;lia
theorem Room.units {k:Nat}{A:Around}(r:Room k A):A.units+64<cLine:=by have:=r.un;lia
def Zav:TA:=λ_ H Q=>Q [] H
def V0 (ta:TE)(tr:TA):TA:=λσ H Q=>ta σ H λx H1=>tr σ H1 λxs H2=>Q (x::xs) H2
section
variable {X:Cx}{e:Expr}{es:List Expr}{te:TE}{t:TA}{pos:Pos}
theorem Gf:PA X [] Zav:=λ_ _ _ _ H Q I h=>Calls.spliced_nil ⟨[],H,I,.nil,h⟩
theorem Ga (ha:PE X e te)(hr:PA X es t)(hs:starEach (e::es) X.env=(false,eval e X.env)::starEach es X.env:=by rfl):PA X (e::es) (V0 te t):=by
 intro pos qQ s σ H Q I h;rw [hs];show wpAny _ _ (spliced ((false,eval e X.env)::backTo pos (starEach es X.env))) _ _ s;refine Calls.spliced_cons (thn (ha qQ s σ H _ I h) λu s1 ⟨x,H1,I1,r1,q1⟩=>?_);exact thn (hr pos qQ s1 σ H1 _ I1 q1) λus s2 ⟨xs,H2,I2,r2,q2⟩=>⟨x::xs,H2,I2,.cons r1 r2,q2⟩
def ZfL (t:TA):TE:=λσ H Q=>t σ H λxs H1=>xs.length<=sizeLine/\∀p,H1 p=none->Q (.ref p) (upd H1 p (.tup xs))
def ZfM (t:TA):TE:=λσ H Q=>t σ H λxs H1=>xs.length<=sizeLine/\∀p,H1 p=none->Q (.ref p) (upd H1 p (.lst xs))
theorem Jf {x1}(h:PA X es t):PE X (.Tuple es x1 pos) (ZfL t):=by
 intro qQ s σ H Q I hq;refine wpAny_Tuple_spliced (thn (h pos qQ s σ H _ I hq) λus s1 ⟨xs,H1,I1,r,z,q⟩=>⟨by rw [<-r.length];exact z,?_⟩);have hf:H1 s1.heap.objs.size=none:=I1.hok.fresh (Nat.le_refl _);refine ⟨.ref s1.heap.objs.size,upd H1 s1.heap.objs.size (.tup xs),I1.laid (t':=s1.toks) (λb u e=>Heap.get?_push_of_some _ e) (Nat.le_refl _) ?_,rfl,q _ hf⟩;exact ⟨z,us,r,⟨_,Heap.get?_push_size _ rfl,rfl,_,rfl⟩⟩
theorem G8 (h:PA X es t):PE X (.List es pos) (ZfM t):=by
 intro qQ s σ H Q I hq;refine wpAny_List_spliced (thn (h pos qQ s σ H _ I hq) λus s1 ⟨xs,H1,I1,r,z,q⟩=>⟨by rw [<-r.length];exact z,?_⟩);have hf:H1 s1.heap.objs.size=none:=I1.hok.fresh (Nat.le_refl _);refine ⟨.ref s1.heap.objs.size,upd H1 s1.heap.objs.size (.lst xs),I1.laid (t':=s1.toks) (λb u e=>Heap.get?_push_of_some _ e) (Nat.le_refl _) ?_,rfl,q _ hf⟩;exact ⟨z,us,0,r,Heap.get?_push_size _ rfl⟩
end
abbrev Sp:=List V->Hp->VK->XK->Prop
abbrev CXT:=List Env->Hp->Shared->XK->Value->Shared->Prop
structure ZaY (P:Program)(w:World)(K:W.Frag)(mg:Str->Option Value)(base:Heap)(A:Around)(outer:List Env)(s:Shared)(H:Hp):Prop where
 frames:A.frames=some outer
 mod:Mod K mg base
 bs:∀b o,base.get? b=some o->s.heap.get? b=some o/\H b=none
 bsz:base.objs.size<=s.heap.objs.size
 funs:s.heap.FunFrames base outer
 frf:∀b∈frs outer,H b=none
 hok:HOk P w H s.heap
 bare:AllBare s.gens
def CE (outer:List Env)(P:Program)(w:World)(H:Hp)(s:Shared)(Q:VK)(u:Value)(s':Shared):Prop:=
 ∃v H',s'.os=s.os/\AllBare s'.gens/\Un (frs outer) [] H H' s.heap s'.heap/\HOk P w H' s'.heap/\RelV v u/\Q v H'
def CR (CX:CXT)(outer:List Env)(P:Program)(w:World)(H:Hp)(s:Shared)(Q:VK)(E:XK)(r:Result)(s':Shared):Prop:=
 match r with
 | .ok (.ret u)=>CE outer P w H s Q u s'
 | .ok _=>False
 | .error e=>CX outer H s E e s'
structure GS (P:Program)(w:World)(K:W.Frag)(mg:Str->Option Value)(base:Heap)(CX:CXT)(k:Nat)(f:Addr)(fd:FuncData)(ps:List Str)(sp:Sp):Prop where
 len:∀vs H Q E,sp vs H Q E->vs.length=ps.length
 run:∀(A:Around)(outer:List Env)(s:Shared)(H:Hp)(args:Args)(us:List Value)(vs:List V)(Q:VK)(E:XK),Room k A->ZaY P w K mg base A outer s H->BindsTo s fd args (ps.zip us)->Vals vs us->sp vs H Q E ->
  codeAny (model P w) A (.call (.ref f) args) (CR CX outer P w H s Q E) s
section
variable {X:Cx}{qQ:List (Addr×Obj)}{σ:St}{H:Hp}{s s':Shared}
theorem Inv.env0 (I:Inv X qQ σ H s):ZaY X.prog X.w X.K X.mg X.base X.A X.stack s H:=
 ⟨I.ok.frames,I.ok.mod,I.bs,Nat.le_trans I.ok.bsz I.sz,I.stack,I.stkFree,I.hok,I.bare⟩
theorem Inv.after {Q:VK}{u:Value}(I:Inv X qQ σ H s)(h:CE X.stack X.prog X.w H s Q u s'):EP X qQ σ Q u s':=by
 obtain ⟨v,H',os,bare,un,hok,r,q⟩:=h;obtain ⟨hh,g,d,t,os'⟩:=s';obtain rfl:os'=s.os:=os;exact ⟨v,H',I.call (h':=hh) (g':=g) (d':=d) (t':=t) (ch:=[]) un hok bare (λb z=>absurd z (by simp)),r,q⟩
end
def ZaZ (sp:Sp)(dvs:List V)(E:XK)(t:TA):TE:=λσ H Q=>t σ H λvs H1=>sp (vs++dvs) H1 Q E
def Binds (K:W.Frag)(fd:FuncData)(ps:List Str)(ds:List Value):Prop:=
 ∀(s:Shared)(us:List Value),K.In s.heap->(us++ds).length=ps.length->BindsTo s fd ⟨us,[]⟩ (ps.zip (us++ds))
theorem Binds.all {K:W.Frag}{fd:FuncData}{ps:List Str}(h:∀us:List Value,us.length=ps.length->bindArgs fd ⟨us,[]⟩=pure (ps.zip us)):Binds K fd ps []:=λs us _ hl=>by
 rw [List.append_nil] at hl ⊢;exact .of_eq (h us hl)
def O3 (CX:CXT)(X:Cx)(E:XK):Prop:=∀(qQ:List (Addr×Obj))(σ:St)(H:Hp)(s:Shared)(e:Value)(s':Shared),Inv X qQ σ H s->CX X.stack H s E e s'->X.xe e s'
section
variable {X:Cx}{CX:CXT}{k:Nat}{f C:Addr}{fd:FuncData}{ps:List Str}{sp:Sp}{dvs:List V}{ds:List Value}{E:XK}{x m:Str}{p pos apos:Pos}{e o:Expr}{es:List Expr}{ta:TE}{t:TA}
theorem Wn {qQ:List (Addr×Obj)}{σ:St}{H:Hp}{s:Shared}{Q:VK}{us:List Value}{vs:List V}(F:GS X.prog X.w X.K X.mg X.base CX k f fd ps sp)(hr:Room k X.A)(hb:Binds X.K fd ps ds)(hd:Vals dvs ds)(hx:O3 CX X E)(I:Inv X qQ σ H s)(r:Vals vs us)(h:sp (vs++dvs) H Q E):wpAny (model X.prog X.w) X.A (call (.ref f) us) (EP X qQ σ Q) X.xe s:=by
 have r2:Vals (vs++dvs) (us++ds):=r.append hd;have hl:(us++ds).length=ps.length:=by rw [<-r2.length];exact F.len _ _ _ _ h
 refine wpAny_call (codeAny_mono (F.run X.A X.stack s H ⟨us,[]⟩ (us++ds) (vs++dvs) Q E hr I.env0 (hb s us I.kIn hl) r2 h) λr s' hq=>?_);cases r with
 | error e=>exact hx qQ σ H s e s' I hq
 | ok fl=>
  cases fl with
  | ret u=>exact I.after hq
  | next=>exact False.elim hq
  | brk=>exact False.elim hq
  | cont=>exact False.elim hq
theorem Gs (F:GS X.prog X.w X.K X.mg X.base CX k f fd ps sp)(hr:Room k X.A)(hg:Gl X x)(hm:X.mg x=some (.ref f))(hk:W.keepIn X.K (.ref f)=true)(hb:Binds X.K fd ps ds)(hd:Vals dvs ds)(hx:O3 CX X E)(ha:PA X (e::es) t)(hdb:(x == ("__debug__" : Str))=false:=by decide)(he:starEach (e::es) X.env=(false,eval e X.env)::starEach es X.env:=by rfl)(hpl:(backTo pos (starEach es X.env)).any (·.1)=false:=by rfl) :
  PE X (.Call (.Name x p) (e::es) [] pos) (ZaZ sp dvs E t):=by
 intro qQ s σ H Q I h;refine wpAny_Call_Name_kw (UZ I hg hm ?_ hdb);refine W.callWith_K (h₀:=X.base) I.ok.mod.kin hk (thn (ha pos qQ s σ H _ I h) λus s1 ⟨vs,H1,I1,r,q⟩=>⟨I1.kIn,?_⟩) he hpl;exact Wn F hr hb hd hx I1 r q
end
def PK (X:Cx)(kws:List Keyword)(t:TA):Prop:=
 ∀(pos:Pos)(qQ:List (Addr×Obj))(s:Shared)(σ:St)(H:Hp)(Q:List V->Hp->Prop),Inv X qQ σ H s->t σ H Q->wpAny (model X.prog X.w) X.A (evalAll ((backToKw pos (keywordEach kws X.env)).map (·.2))) (AP X qQ σ Q) X.xe s
section
variable {X:Cx}{CX:CXT}{k:Nat}{f C:Addr}{fd:FuncData}{ps ks:List Str}{sp:Sp}{E:XK}{x m:Str}{p pos apos kpos:Pos}{e o:Expr}{es:List Expr}{kws:List Keyword}{te ta:TE}{t tk:TA}{nm:Option Str}
theorem ZcC:PK X [] Zav:=λ_ _ _ _ H Q I h=>wpAny_evalAll_nil ⟨[],H,I,.nil,h⟩
theorem Za0 (ha:PE X e te)(hr:PK X kws t):PK X (⟨nm,e,kpos⟩::kws) (V0 te t):=by
 intro pos qQ s σ H Q I h;show wpAny _ _ (evalAll ((do let v <- eval e X.env;standAt pos;pure v)::(backToKw pos (keywordEach kws X.env)).map (·.2))) _ _ s;refine wpAny_evalAll_cons (wpAny_bind (thn (ha qQ s σ H _ I h) λu s1 ⟨x,H1,I1,r1,q1⟩=>wpAny_bind (wpAny_standAt (wpAny_pure ?_))));exact thn (hr pos qQ s1 σ H1 _ I1 q1) λus s2 ⟨xs,H2,I2,r2,q2⟩=>⟨x::xs,H2,I2,.cons r1 r2,q2⟩
variable {g:List Value->List Value->List Value}{gV:List V->List V->List V}
end
structure Gv (N P:List Str)(sc:Scope):Prop where
 kind:sc.kind=.function
 co:sc.isCoroutine=false
 gen:sc.isGenerator=false
 nd:N.Nodup
 pre:N.take P.length=P
 par:∀x∈P,sc.names.lookup x=some .local\/sc.names.lookup x=some .cell
 nofree:∀y∈sc.names,y.2≠.free
theorem Vt {kindOf:Str->Option NameKind}{x:Str}:∀{binds:List (Str×Value)}{m:Str->Option Value},(∀v,(x,v) ∉ binds)->bindL kindOf binds m x=m x
 | [],_,_=>rfl
 | (n,v)::r,m,h=>by
  unfold bindL;rw [Vt λw hw=>h w (List.mem_cons_of_mem _ hw)];split
  ·have:x≠n:=by rintro rfl;exact h v List.mem_cons_self
   simp [this]
  ·rfl
theorem Vu {kindOf:Str->Option NameKind}{x:Str}:∀{binds:List (Str×Value)}{m:Str->Option Value},(∀v,(x,v) ∉ binds)->bindC kindOf binds m x=m x
 | [],_,_=>rfl
 | (n,v)::r,m,h=>by
  unfold bindC;rw [Vu λw hw=>h w (List.mem_cons_of_mem _ hw)];split
  ·rfl
  ·have:x≠n:=by rintro rfl;exact h v List.mem_cons_self
   simp [this]
theorem Vv {kindOf:Str->Option NameKind}{x:Str}{v:Value}:∀{P:List Str}{vs:List Value}{i:Nat}{m:Str->Option Value},P.Nodup->P[i]?=some x->vs[i]?=some v->kindOf x=some .local ->
  bindL kindOf (P.zip vs) m x=some v
 | [],_,_,_,_,h,_,_=>by simp at h
 | _::_,[],_,_,_,_,h,_=>by simp at h
 | p::P,w::vs,0,m,nd,h1,h2,hk=>by
  simp at h1 h2;subst h1;subst h2;show bindL kindOf ((p,w)::P.zip vs) m p=_;unfold bindL;rw [Vt λv hv=>(List.nodup_cons.mp nd).1 (List.of_mem_zip hv).1,if_pos hk];simp
 | p::P,w::vs,i+1,m,nd,h1,h2,hk=>by
  show bindL kindOf ((p,w)::P.zip vs) m x=_;unfold bindL;exact Vv (i:=i) (List.nodup_cons.mp nd).2 (by simpa using h1) (by simpa using h2) hk
theorem Vw {kindOf:Str->Option NameKind}{x:Str}{v:Value}:∀{P:List Str}{vs:List Value}{i:Nat}{m:Str->Option Value},P.Nodup->P[i]?=some x->vs[i]?=some v->kindOf x≠some .local ->
  bindC kindOf (P.zip vs) m x=some v
 | [],_,_,_,_,h,_,_=>by simp at h
 | _::_,[],_,_,_,_,h,_=>by simp at h
 | p::P,w::vs,0,m,nd,h1,h2,hk=>by
  simp at h1 h2;subst h1;subst h2;show bindC kindOf ((p,w)::P.zip vs) m p=_;unfold bindC;rw [Vu λv hv=>(List.nodup_cons.mp nd).1 (List.of_mem_zip hv).1,if_neg hk];simp
 | p::P,w::vs,i+1,m,nd,h1,h2,hk=>by
  show bindC kindOf ((p,w)::P.zip vs) m x=_;unfold bindC;exact Vw (i:=i) (List.nodup_cons.mp nd).2 (by simpa using h1) (by simpa using h2) hk
def start (N:List Str)(vs:List V):St:=vs.map some++List.replicate (N.length-vs.length) none
def XC (CX:CXT)(P:Program)(w:World)(K:W.Frag)(mg:Str->Option Value)(base:Heap)(N:List Str)(qual:Str)(scope:Scope)(f:Addr)(cd:Value)(A:Around)(outer:List Env)(s:Shared)(H:Hp)(E:XK):Cx where
 prog:=P
 w:=w
 K:=K
 mg:=mg
 base:=base
 A:=A.deeper (envOfC qual scope s.heap.objs.size f cd)
 N:=N
 s₀:=s
 H₀:=H
 env:=envOfC qual scope s.heap.objs.size f cd
 outer:=outer
 stack:=envOfC qual scope s.heap.objs.size f cd::outer
 ex:=[]
 calm:=true
 fn:=λ_=>true
 pn:=[]
 xe:=λe s'=>wpAny (model P w) (A.deeper (envOfC qual scope s.heap.objs.size f cd)) (leaving (envOfC qual scope s.heap.objs.size f cd) e) (λ_ s''=>CX outer H s E e s'') (λe' s''=>CX outer H s E e' s'') s'
theorem Wo {sc:Scope}{n:Nat}{x:Str}(h:sc.names.lookup x=some .cell):∃c,(cellsFrom n sc.names []).lookup x=some c:=by
 have q:=W.cellsFrom_some sc.names n [] (.inl h);exact Option.isSome_iff_exists.mp q
theorem XV {CX:CXT}{P:Program}{w:World}{K:W.Frag}{mg:Str->Option Value}{base:Heap}{N ps:List Str}{qual:Str}{scope:Scope}{f:Addr}{cd:Value}{A:Around}{outer:List Env}{s s1:Shared}{H:Hp}{E:XK}{us:List Value}{vs:List V}(S:Gv N ps scope)(hd:A.handled=none)(e0:ZaY P w K mg base A outer s H)(hl:vs.length=ps.length)(r:Vals vs us)(x:InCallC s s.heap.objs.size (bindL (envOfC qual scope s.heap.objs.size f cd).kindOf (ps.zip us) λ_=>none) (cellsFrom (s.heap.objs.size+1) scope.names []) (bindC (envOfC qual scope s.heap.objs.size f cd).kindOf (ps.zip us) λ_=>none) s1) :
  Inv (XC CX P w K mg base N qual scope f cd A outer s H E) [] (start N vs) H s1:=by
 have hpl:ps.length<=N.length:=by have:=congrArg List.length S.pre;rw [List.length_take] at this;lia
 obtain ⟨h1,tk,rfl,hk⟩:=x.done;have noA:∀b:Addr,b ∉ (XC CX P w K mg base N qual scope f cd A outer s H E).ex:=λb z=>absurd (show b∈([]:List Addr) from z) (by simp);refine ⟨⟨e0.mod,S.kind,rfl,rfl,Nat.le_refl _,λy z c h1 h2=>?_,λy hy=>?_,λy c _ h=>?_,λ_=>hd,Around.frames_deeper e0.frames,.inr ⟨rfl,rfl⟩,λb z=>absurd z (noA b),e0.bs,e0.bsz,λb _ _=>noA b,λb z=>absurd z (noA b),e0.funs,e0.frf⟩,
  rfl,e0.bare,Un.kept hk,⟨_,x.toInCall.ns,λi y v h1 h2 h3=>?_⟩,λy c h=>⟨_,x.cell y c h⟩,e0.hok.fresh (Nat.le_refl _),λy c h=>?_,λp hp=>absurd (show p∈([]:List (Addr×Obj)) from hp) (by simp),e0.hok.kept hk,?_⟩
 ·exact name_of_addr x.apart (PySem.mem_of_lookup h1) (PySem.mem_of_lookup h2)
 ·have hy:scope.names.lookup y=some .cell\/scope.names.lookup y=some .free:=hy;rcases hy with hy | hy
  ·exact Wo hy
  ·exact absurd rfl (S.nofree _ (PySem.mem_of_lookup hy))
 ·exact Nat.le_of_lt (x.above y c (PySem.mem_of_lookup h))
 ·have hi:i<vs.length:=by
   unfold start at h2;by_cases hi:i<vs.length
   ·exact hi
   ·rw [List.getElem?_append_right (by simpa using hi)] at h2;rw [List.getElem?_replicate] at h2;split at h2 <;> cases h2
  have ha:vs[i]?=some v:=by
   unfold start at h2;rw [List.getElem?_append_left (by simpa using hi),List.getElem?_map] at h2;cases e:vs[i]? with
   | none=>rw [e] at h2;cases h2
   | some a=>rw [e] at h2;cases h2;rfl
  obtain ⟨u,hu,rv⟩:=r.get ha;have hp:ps[i]?=some y:=by
   rw [<-S.pre,List.getElem?_take_of_lt (by lia)];exact h1
  have ndP:ps.Nodup:=by rw [<-S.pre];exact S.nd.sublist (List.take_sublist _ _)
  refine ⟨u,rv,?_⟩;rcases S.par y (List.mem_of_getElem? hp) with k | k
  ·exact .inl ⟨k,Vv ndP hp hu k⟩
  ·obtain ⟨c,e⟩:=Wo (n:=s.heap.objs.size+1) k;refine .inr ⟨.inl k,c,e,?_⟩;have q:=x.cell y c e;rw [Vw ndP hp hu (by show scope.names.lookup y≠_;rw [k];decide)] at q;exact q
 ·exact e0.hok.fresh (Nat.le_of_lt (x.above y c (PySem.mem_of_lookup h)))
 ·unfold start;show _=N.length;rw [List.length_append,List.length_map,List.length_replicate]
  lia
theorem Zi {CX:CXT}{P:Program}{w:World}{K:W.Frag}{mg:Str->Option Value}{base:Heap}{k:Nat}{f:Addr}{name qual:Str}{params:Arguments}{body:List Stmt}{scope:Scope}{dV kV doc pm cdv ct oc:Value}{an od:Option Addr}{osl:Array (Option Value)}{N ps:List Str}{sp:Sp}(lk:K.lookup f=some ⟨oc,od,.func (W.fnOf name qual params body scope dV kV doc pm an cdv ct),osl⟩)(hcd:W.codeIn K cdv qual=true)(S:Gv N ps scope)(len:∀vs H Q E,sp vs H Q E->vs.length=ps.length)(qW:∀(A:Around)(outer:List Env)(s:Shared)(H:Hp)(vs:List V)(Q:VK)(E:XK),Room k (A.deeper (envOfC qual scope s.heap.objs.size f cdv))->sp vs H Q E ->
   ∃t,PSs (XC CX P w K mg base N qual scope f cdv A outer s H E) body t/\t { nx:=λ_ H'=>Q .non H',rt:=Q } (start N vs) H) :
  GS P w K mg base CX (k+1) f (W.fnOf name qual params body scope dV kV doc pm an cdv ct) ps sp:=by
 refine ⟨len,λA outer s H args us vs Q E hr e0 hb r hsp=>?_⟩;have hl:=len _ _ _ _ hsp;have KX:K.In s.heap:=e0.mod.kin.keeps λb o e=>(e0.bs b o e).1;have lim:s.heap.NoLimit:=e0.mod.nolimit.keeps λb o e=>(e0.bs b o e).1;have hkind:∀y∈ps.zip us,scope.names.lookup y.1=some .local\/(scope.names.lookup y.1=some .cell/\((cellsFrom (s.heap.objs.size+1) scope.names []).lookup y.1).isSome=true):=λ⟨n,v⟩ hy=>by
  rcases S.par n (List.of_mem_zip hy).1 with q | q
  ·exact .inl q
  ·exact .inr ⟨q,W.cellsFrom_some _ _ _ (.inl q)⟩
 refine codeAny_call_function hr.depth (KX _ _ lk) rfl S.co S.gen rfl (W.codeRec_of KX hcd) (hb _ _ _ _ ?_);refine wpAny_newFunctionEnv_cells S.kind hkind λenv he s1 x=>?_;subst he;refine ⟨lim.keeps x.toInCall.keep,codeAny_func ?_⟩;obtain ⟨t,ht,hq⟩:=qW A outer s H vs Q E (hr.deeper _) hsp;have I:Inv (XC CX P w K mg base N qual scope f cdv A outer s H E) [] (start N vs) H s1:=XV S hr.hd e0 hl r x;refine wpAny_mono (ht [] s1 (start N vs) H _ I hq) (λfl s' hs=>?_) λe s' hs=>hs;have fin:∀{σ':St}{H':Hp}{v:V}{u:Value},Inv (XC CX P w K mg base N qual scope f cdv A outer s H E) [] σ' H' s'->RelV v u->Q v H'->CE outer P w H s Q u s':=
  λ{σ' H' v u} J rv q=>⟨v,H',J.os,J.bare,J.base,J.hok,rv,q⟩
 cases fl with
 | ret u=>
  obtain ⟨v,σ',H',J,rv,q⟩:=hs;exact fin J rv q
 | next=>
  obtain ⟨σ',H',J,q⟩:=hs;exact fin (v:=V.non) (u:=Value.none) J rfl q
 | brk=>
  obtain ⟨_,_,_,q⟩:=hs;exact False.elim q
 | cont=>
  obtain ⟨_,_,_,q⟩:=hs;exact False.elim q
end L2
namespace L2
open PySem PySem.Spec PyProof.Rows
section
variable {X:Cx}{x:Str}{p pos:Pos}{e:Expr}{es:List Expr}{t:TA}{id T:String}{r:List V->Hp->VK->Prop}
def tCB (r:List V->Hp->VK->Prop)(t:TA):TE:=λσ H Q=>t σ H λvs H1=>r vs H1 Q
theorem Gk (hc:J2 X (.builtin id) r)(hg:Gl X x)(hm:X.mg x=none)(hv:bootBuiltins x=some (.builtin id))(ha:PA X (e::es) t)(hn:x ≠ "__name__" := by decide)(hdb:(x == ("__debug__" : Str))=false:=by decide)(he:starEach (e::es) X.env=(false,eval e X.env)::starEach es X.env:=by rfl)(hpl:(backTo pos (starEach es X.env)).any (·.1)=false:=by rfl):PE X (.Call (.Name x p) (e::es) [] pos) (tCB r t):=by
 intro qQ s σ H Q I h;refine wpAny_Call_Name_kw (Ob I hg hm hv ?_ hn hdb);exact PyProof.Rows.callWith_builtin1 (thn (ha pos qQ s σ H _ I h) λus s1 ⟨vs,H1,I1,r1,q1⟩=>hc qQ s1 σ H1 vs us Q I1 r1 q1) he hpl
theorem Jx (hc:J2 X (.type T) r)(hg:Gl X x)(hm:X.mg x=none)(hv:bootBuiltins x=some (.type T))(ha:PA X (e::es) t)(hn:x ≠ "__name__" := by decide)(hdb:(x == ("__debug__" : Str))=false:=by decide)(he:starEach (e::es) X.env=(false,eval e X.env)::starEach es X.env:=by rfl)(hpl:(backTo pos (starEach es X.env)).any (·.1)=false:=by rfl):PE X (.Call (.Name x p) (e::es) [] pos) (tCB r t):=by
 intro qQ s σ H Q I h;refine wpAny_Call_Name_kw (Ob I hg hm hv ?_ hn hdb);exact PyProof.Rows.callWith_type1 (thn (ha pos qQ s σ H _ I h) λus s1 ⟨vs,H1,I1,r1,q1⟩=>hc qQ s1 σ H1 vs us Q I1 r1 q1) he hpl
end
end L2
namespace HT
open PySem PyProof.Rows
section
variable {prog:Program}{w:World}{A:Around}{E:Value->Shared->Prop}{s:Shared}
def sIx (n d:Nat):Option Int->Nat
 | none=>d
 | some v=>if v<0 then (v+(n:Int)).toNat else min v.toNat n
theorem sIx_none (n d:Nat):sIx n d none=d:=rfl
theorem sIx_nat (n d k:Nat):sIx n d (some (k:Int))=min k n:=by
 show (if (k:Int)<0 then ((k:Int)+(n:Int)).toNat else min (k:Int).toNat n)=min k n;rw [if_neg (by lia),Int.toNat_natCast]
theorem ZcD (n d:Nat)(hd:d<=n)(o:Option Int):sIx n d o<=n:=by
 cases o with
 | none=>exact hd
 | some v=>
  show (if v<0 then (v+(n:Int)).toNat else min v.toNat n)<=n;by_cases hv:v<0
  ·rw [if_pos hv];lia
  ·rw [if_neg hv];exact Nat.min_le_right _ _
theorem XW (v:Int)(n d:Nat):(if v<0 then max (v+(n:Int)) 0 else min v (n:Int))=((sIx n d (some v):Nat):Int):=by
 show (if v<0 then max (v+(n:Int)) 0 else min v (n:Int))=(((if v<0 then (v+(n:Int)).toNat else min v.toNat n):Nat):Int);by_cases hv:v<0
 ·simp only [if_pos hv];lia
 ·simp only [if_neg hv];lia
theorem Xg (lo hi:Option Int)(n:Nat):Builtin.Slice.sliceAdjust lo hi 1 (n:Int)=(((sIx n 0 lo:Nat):Int),((sIx n n hi:Nat):Int)):=by
 have h1:¬ ((1:Int)<0):=by lia
 unfold Builtin.Slice.sliceAdjust;simp only [h1,if_false];refine Prod.ext ?_ ?_
 ·cases lo with
  | none=>rfl
  | some v=>exact XW v n 0
 ·cases hi with
  | none=>rfl
  | some v=>exact XW v n n
theorem Xh (i j:Nat):Builtin.Slice.slicePlaces (i:Int) (j:Int) 1=j-i:=by
 unfold Builtin.Slice.slicePlaces;have h1:(1:Int) > 0:=by lia
 simp only [h1,if_true,Int.ediv_one];split <;> lia
theorem UQ {v:Value}{o:Option Int}{Q:Option Int->Shared->Prop}(p:IsPart v o)(h:Q o s):wpAny (model prog w) A (Builtin.Slice.slicePartIndex v) Q E s:=by
 cases p with
 | none=>exact slicePart_none h
 | int i t=>exact slicePart_int h
theorem O7 {sl:Addr}{vl vu:Value}{lo hi:Option Int}{n:Nat}{Q:Int×Int×Nat->Shared->Prop}(hs:s.heap.IsSliceOf sl vl vu .none)(pl:IsPart vl lo)(pu:IsPart vu hi)(h:Q (((sIx n 0 lo:Nat):Int),1,sIx n n hi-sIx n 0 lo) s):wpAny (model prog w) A (Builtin.Slice.sliceApplied (.ref sl) (pure (n:Int))) Q E s:=by
 obtain ⟨os,hos,hcs,hds⟩:=id hs;unfold Builtin.Slice.sliceApplied Builtin.Slice.sliceFields;refine wpAny_bind (wpAny_bind (wpAny_field hos hds (x:=vl) rfl (wpAny_bind (wpAny_field hos hds (x:=vu) rfl (wpAny_bind (wpAny_field hos hds (x:=.none) rfl (wpAny_pure ?_)))))));refine wpAny_bind (slicePart_none ?_);show wpAny _ _ (if ((1:Int) == 0)=true then _ else _) _ _ s;rw [if_neg (by decide)];refine wpAny_bind (UQ pl (wpAny_bind (UQ pu (wpAny_bind (wpAny_pure ?_)))));show wpAny _ _ (match Builtin.Slice.sliceAdjust lo hi 1 (n:Int) with | (lo,hi)=>pure (lo,(1:Int),Builtin.Slice.slicePlaces lo hi 1)) _ _ s;rw [Xg lo hi n];show wpAny _ _ (pure (((sIx n 0 lo:Nat):Int),(1:Int),Builtin.Slice.slicePlaces ((sIx n 0 lo:Nat):Int) ((sIx n n hi:Nat):Int) 1)) _ _ s;rw [Xh];exact wpAny_pure h
theorem Zj (xs:Array Value)(i k:Nat):((List.range k).filterMap λ(m:Nat)=>xs[((i:Int)+(m:Int) * 1).toNat]?).toArray=((xs.toList.drop i).take k).toArray:=by
 have e:(λ(m:Nat)=>xs[((i:Int)+(m:Int) * 1).toNat]?)=λm=>xs[i+m]?:=by
  funext m
  have:((i:Int)+(m:Int) * 1).toNat=i+m:=by lia
  rw [this]
 rw [e];have:=pick_run xs i k;rw [List.filterMap_map] at this;have e2:((λx=>xs[x]?)∘λx=>i+x)=λm=>xs[i+m]?:=rfl;rw [e2] at this;rw [this]
theorem getItem_tuple_cut {t sl:Addr}{items:Array Value}{vl vu:Value}{lo hi:Option Int}{Q:Value->Shared->Prop}(ht:IsTup s.heap t items)(hs:s.heap.IsSliceOf sl vl vu .none)(pl:IsPart vl lo)(pu:IsPart vu hi)(hw:¬ (sIx items.size 0 lo=0/\sIx items.size items.size hi=items.size))(h:Q (.ref s.heap.objs.size) { s with heap:=s.heap.push { cls:=.type "tuple", data:=.seq ((items.toList.drop (sIx items.size 0 lo)).take (sIx items.size items.size hi-sIx items.size 0 lo)).toArray } })(hsz:items.size<=sizeLine):wpAny (model prog w) A (getItem (.ref t) (.ref sl)) Q E s:=by
 have htake:sizeOk (.seq ((items.toList.drop (sIx items.size 0 lo)).take (sIx items.size items.size hi-sIx items.size 0 lo)).toArray):=by
  show ((items.toList.drop (sIx items.size 0 lo)).take (sIx items.size items.size hi-sIx items.size 0 lo)).toArray.size<=sizeLine;rw [List.size_toArray,List.length_take,List.length_drop,Array.length_toList]
  lia
 have hj:sIx items.size items.size hi<=items.size:=ZcD _ _ (Nat.le_refl _) hi;obtain ⟨os,hos,hcs,hds⟩:=id hs;have hTs:s.TypeIs (.ref sl) "slice" := ⟨os,hos,hcs⟩;unfold getItem
 try with_reducible refine wpAny_holding ?_
 first | refine wpAny_bind (wpAny_pure ?_) | skip
 refine wpAny_bind (wpAny_sequenceKey ht.typeIs (by decide) ?_);refine wpAny_bind (wpAny_callSpecial?_slot (name:=Str.ofString "__getitem__") ht.typeIs PyProof.Rows.slot_tuple_getitem
  (wpAny_call_entry PyProof.Rows.slot_tuple_getitem ht.typeIs entry_tuple_getitem ?_ (args_tuple_getitem _ _)))
 show wpAny _ _ (Builtin.Tuple.tupleItemsOf (.ref t) >>= _) _ _ s;refine wpAny_bind (tupleItemsOf_ ht ?_);refine wpAny_bind (wpAny_typeOf hTs ?_);rw [if_pos (by decide)];refine wpAny_bind (O7 hs pl pu ?_);have hno:¬ ((((sIx items.size 0 lo:Nat):Int) == 0 && (1:Int) == 1 && (sIx items.size items.size hi-sIx items.size 0 lo) == items.size)=true):=by
  intro q;rw [Bool.and_eq_true,Bool.and_eq_true] at q;have q1:((sIx items.size 0 lo:Nat):Int)=0:=eq_of_beq q.1.1;have q2:sIx items.size items.size hi-sIx items.size 0 lo=items.size:=eq_of_beq q.2;exact hw ⟨by lia,by lia⟩
 show wpAny _ _ (if (((sIx items.size 0 lo:Nat):Int) == 0 && (1:Int) == 1 && (sIx items.size items.size hi-sIx items.size 0 lo) == items.size)=true then _ else _) _ _ s;rw [if_neg hno,Zj]
 first
  | exact wpAny_bind (m:=Builtin.Tuple.tupleExact _) (wpAny_newObj_type (wpAny_pure ⟨_,rfl,wpAny_pure h⟩) htake)
  | exact wpAny_bind (m:=Builtin.Tuple.tupleExact _) (wpAny_newObj_type (wpAny_bind (wpAny_pure (wpAny_pure ⟨_,rfl,wpAny_pure h⟩))) htake)
  | exact wpAny_bind (wpAny_bind (m:=Builtin.Tuple.tupleExact _) (wpAny_newObj_type (wpAny_pure (wpAny_pure ⟨_,rfl,wpAny_pure h⟩)) htake))
  | exact wpAny_bind (wpAny_bind (m:=Builtin.Tuple.tupleExact _) (wpAny_newObj_type (wpAny_pure ⟨_,rfl,wpAny_pure h⟩) htake))
end
end HT
namespace L2
open PySem PySem.Spec PyProof.Rows
abbrev TO:=St->Hp->(Option Int->Hp->Prop)->Prop
def PO (X:Cx)(e:Option Expr)(t:TO):Prop:=
 ∀(qQ:List (Addr×Obj))(s:Shared)(σ:St)(H:Hp)(Q:Option Int->Hp->Prop),Inv X qQ σ H s->t σ H Q ->
  wpAny (model X.prog X.w) X.A (evalPart e X.env) (λu s'=>∃o H',Inv X qQ σ H' s'/\IsPart u o/\Q o H') X.xe s
def Za1:TO:=λ_ H Q=>Q none H
def Zey (t:TE):TO:=λσ H Q=>t σ H λx H1=>∃i,x=.int i/\Q (some i) H1
theorem Oq {ns:List Int}:∀{us:List Value},Vals (ns.map V.int) us->IntsAre us ns:=by
 induction ns with
 | nil=>intro us r;rw [List.map_nil] at r;cases r;exact .nil
 | cons n ns ih=>
  intro us r;rw [List.map_cons] at r;cases r with
  | cons r1 r2=>
   obtain ⟨t,e⟩:=r1;subst e;exact .cons n t (ih r2)
section
variable {X:Cx}{e:Expr}{te:TE}{lo hi:Option Expr}{tl th:TO}{pos p2:Pos}
theorem JJ:PO X none Za1:=by
 intro qQ s σ H Q I h;rw [evalPart_none];exact wpAny_pure ⟨none,H,I,.none,h⟩
theorem Jy (h:PE X e te):PO X (some e) (Zey te):=by
 intro qQ s σ H Q I hw;rw [evalPart_some];refine thn (h qQ s σ H _ I hw) λu s1 ⟨x,H1,I1,r1,q1⟩=>?_;obtain ⟨i,rfl,q⟩:=q1;obtain ⟨t,rfl⟩:=r1;exact ⟨some i,H1,I1,.int i t,q⟩
def SlR (X:Cx)(r:V->Option Int->Option Int->Hp->VK->Prop):Prop:=
 ∀(qQ:List (Addr×Obj))(s:Shared)(σ:St)(H:Hp)(x:V)(v vl vu:Value)(lo hi:Option Int)(sl:Addr)(Q:VK),Inv X qQ σ H s->RelV x v->s.heap.IsSliceOf sl vl vu .none->IsPart vl lo->IsPart vu hi->r x lo hi H Q ->
  ∃T id,typeLookup (.type T) "__getitem__" = pure (some (.builtin id))/\s.TypeIs v T/\wpAny (model X.prog X.w) X.A (getItem v (.ref sl)) (EP X qQ σ Q) X.xe s
def tSl (r:V->Option Int->Option Int->Hp->VK->Prop)(te:TE)(tl th:TO):TE:=λσ H Q=>te σ H λx H1=>tl σ H1 λl H2=>th σ H2 λu H3=>r x l u H3 Q
theorem Js {r:V->Option Int->Option Int->Hp->VK->Prop}(hr:SlR X r)(he:PE X e te)(hl:PO X lo tl)(hu:PO X hi th):PE X (.Subscript e (.Slice lo hi none p2) pos) (tSl r te tl th):=by
 intro qQ s σ H Q I h;refine Subscript_ (thn (he qQ s σ H _ I h) λv s1 ⟨x,H1,I1,r1,q1⟩=>?_);refine wpAny_Slice (thn (hl qQ s1 σ H1 _ I1 q1) λvl s2 ⟨l,H2,I2,pl,q2⟩=>thn (hu qQ s2 σ H2 _ I2 q2) λvu s3 ⟨u,H3,I3,pu,q3⟩=>?_);rw [evalPart_none];refine wpAny_pure ?_;have I4:Inv X qQ σ H3 { s3 with heap:=s3.heap.push { cls:=.type "slice", data:=.fields #[vl,vu,.none] } }:=I3.kept (t':=s3.toks) λb ob q=>Heap.get?_push_of_some _ q;obtain ⟨T,id,hT,ht,hg⟩:=hr qQ { s3 with heap:=s3.heap.push { cls:=.type "slice", data:=.fields #[vl,vu,.none] } } σ H3 x v vl vu l u s3.heap.objs.size Q I4 r1 (Heap.IsSliceOf.new ..) pl pu q3;show wpAny (model X.prog X.w) X.A (subscriptTail e (.Slice lo hi none p2) v (.ref s3.heap.objs.size)) (EP X qQ σ Q) X.xe { s3 with heap:=s3.heap.push { cls:=.type "slice", data:=.fields #[vl,vu,.none] } };exact tail_any (ops:=[.ref s3.heap.objs.size,v]) ht hT hg (by with_unfolding_all rfl)
def OV (xs:List V)(lo hi:Option Int):List V:=(xs.drop (HT.sIx xs.length 0 lo)).take (HT.sIx xs.length xs.length hi-HT.sIx xs.length 0 lo)
theorem Uh (xs:List V)(lo hi:Option Int):(OV xs lo hi).length<=xs.length:=by
 unfold OV;rw [List.length_take,List.length_drop]
 lia
def Zfn (K:W.Frag):V->Option Int->Option Int->Hp->VK->Prop:=λx lo hi H Q=>∃a xs,x=.ref a/\SqT K H a xs /\
 ¬ (HT.sIx xs.length 0 lo=0/\HT.sIx xs.length xs.length hi=xs.length)/\∀p,H p=none->Q (.ref p) (upd H p (.tup (OV xs lo hi)))
theorem ZcE:SlR X (Zfn X.K):=by
 intro qQ s σ H x v vl vu lo hi sl Q I rx hs pl pu h;obtain ⟨a,xs,rfl,hx,hw,q⟩:=h;cases rx;obtain ⟨its,r,ht,hz⟩:=I.tuple hx;have qJ:its.toArray.size=xs.length:=by rw [List.size_toArray];exact r.length.symm
 refine ⟨"tuple", _,PyProof.Rows.slot_tuple_getitem.lookup,ht.typeIs,?_⟩;refine HT.getItem_tuple_cut ht hs pl pu (by rw [qJ];exact hw) ?_ (by rw [qJ];exact hz);rw [qJ];refine ⟨.ref s.heap.objs.size,_,I.laid (t':=s.toks) (o:=.tup (OV xs lo hi)) (λb ob q=>Heap.get?_push_of_some _ q) (Nat.le_refl _) ?_,rfl,q _ (I.hok.fresh (Nat.le_refl _))⟩;exact ⟨Nat.le_trans (Uh xs lo hi) hz,_,(r.drop (HT.sIx xs.length 0 lo)).take (HT.sIx xs.length xs.length hi-HT.sIx xs.length 0 lo),IsTup.new _ _⟩
end
end L2
namespace L2
open PySem PySem.Spec PyProof.Rows
def ixN (n:Nat)(i:Int):Option Nat:=if 0<=i then (if i<n then some i.toNat else none) else if -(n:Int)<=i then some (i+n).toNat else none
def atI {α:Type}(xs:List α)(i:Int):Option α:=(ixN xs.length i).bind λj=>xs[j]?
theorem Za2 {n:Nat}{i:Int}{j:Nat}(h:ixN n i=some j):seqIndex? i n=some j/\j<n/\-(n:Int)<=i/\i<n:=by
 unfold ixN at h;by_cases h0:0<=i
 ·rw [if_pos h0] at h;by_cases h1:i<n
  ·rw [if_pos h1] at h;have e:i.toNat=j:=Option.some.inj h;exact ⟨by rw [seqIndex_of h0 h1,e],by lia,by lia,h1⟩
  ·rw [if_neg h1] at h;cases h
 ·rw [if_neg h0] at h;by_cases h1:-(n:Int)<=i
  ·rw [if_pos h1] at h;have e:(i+n).toNat=j:=Option.some.inj h;exact ⟨by rw [seqIndex_neg (by lia) h1,e],by lia,h1,by lia⟩
  ·rw [if_neg h1] at h;cases h
theorem XX {α:Type}{xs:List α}{i:Int}{v:α}(h:atI xs i=some v):∃j,seqIndex? i xs.length=some j/\xs[j]?=some v/\j<xs.length/\-(xs.length:Int)<=i/\i<xs.length:=by
 unfold atI at h;cases e:ixN xs.length i with
 | none=>rw [e] at h;cases h
 | some j=>
  rw [e] at h;obtain ⟨h1,h2,h3,h4⟩:=Za2 e;exact ⟨j,h1,h,h2,h3,h4⟩
theorem Ge {α:Type}{xs:List α}{j:Nat}{v:α}(h:xs[j]?=some v):atI xs (j:Int)=some v:=by
 have hj:j<xs.length:=(List.getElem?_eq_some_iff.mp h).1;have e:ixN xs.length (j:Int)=some j:=by
  unfold ixN;rw [if_pos (by lia),if_pos (by lia)];simp
 unfold atI;rw [e];exact h
theorem Zk {α:Type}(xs:List α)(v:α):atI (xs++[v]) (-1)=some v:=by
 have hl:(xs++[v]).length=xs.length+1:=by simp
 have e:ixN (xs++[v]).length (-1)=some xs.length:=by
  unfold ixN;rw [hl,if_neg (by decide),if_pos (by lia)]
  congr 1
  lia
 unfold atI;rw [e];show (xs++[v])[xs.length]?=some v;simp
def Za3 (b:Expr):Prop:=∀o i,subscripted b false o i=operate [o,i] (getItem o i)
def IxR (X:Cx)(r:R2):Prop:=
 ∀(value slice:Expr)(qQ:List (Addr×Obj))(s:Shared)(σ:St)(H:Hp)(x y:V)(v u:Value)(Q:VK),Inv X qQ σ H s->RelV x v->RelV y u->r x y H Q ->
  subscripted slice false v u=operate [v,u] (getItem v u)->wpAny (model X.prog X.w) X.A (subscriptTail value slice v u) (EP X qQ σ Q) X.xe s
def MtR (X:Cx)(id:String)(r:V->List V->Hp->VK->Prop):Prop:=
 ∀(qQ:List (Addr×Obj))(s:Shared)(σ:St)(H:Hp)(x:V)(xs:List V)(v:Value)(us:List Value)(Q:VK),Inv X qQ σ H s->RelV x v->Vals xs us->r x xs H Q ->
  wpAny (model X.prog X.w) X.A (call (.builtin id) (v::us)) (EP X qQ σ Q) X.xe s
section
variable {X:Cx}{a b:Expr}{ta tb:TE}{pos:Pos}
theorem Gj {r:R2}(hr:IxR X r)(ha:PE X a ta)(hb:PE X b tb)(hs:Za3 b):PE X (.Subscript a b pos) (tOp r ta tb):=by
 intro qQ s σ H Q I h;exact Subscript_ (Zev ha hb I h λv u s2 x y H2 I2 rx ry q=>hr a b qQ s2 σ H2 x y v u Q I2 rx ry q (hs _ _))
def Zfo (K:W.Frag):R2:=λx y H Q=>∃p xs i v,x=.ref p/\y=.int i/\SqL K H p xs/\atI xs i=some v/\Q v H
def Zfp (K:W.Frag):R2:=λx y H Q=>∃p xs i v,x=.ref p/\y=.int i/\SqT K H p xs/\atI xs i=some v/\Q v H
theorem Za4:IxR X (Zfo X.K):=by
 intro value slice qQ s σ H x y v u Q I rx ry h hs;obtain ⟨p,xs,i,z,rfl,rfl,hq,he,q⟩:=h;cases rx;obtain ⟨t,rfl⟩:=ry;obtain ⟨its,r,pl,hz⟩:=I.list hq;obtain ⟨j,h1,h2,h3,h4,h5⟩:=XX he;obtain ⟨w,ew,rw'⟩:=r.get h2;have hl:=r.length;have hn:=Wm;have fin:EP X qQ σ Q w s:=⟨z,H,I,rw',q⟩;by_cases h0:0<=i
 ·have hj:i.toNat=j:=by
   rw [seqIndex_of h0 h5] at h1;exact Option.some.inj h1
  exact item_listR pl.isList h0 (by lia) (by rw [hj];simpa using ew) fin hs
 ·have hj:(i+(its.toArray.size:Int)).toNat=j:=by
   rw [seqIndex_neg (by lia) h4] at h1;rw [List.size_toArray,<-hl];exact Option.some.inj h1
  exact subscriptTail_builtinR (x:=w) pl.isList.typeIs slot_list_getitem.lookup
   (wpAny_getItem_list_neg (Q:=λr s'=>r=w/\EP X qQ σ Q r s') pl.isList (by lia) (by rw [List.size_toArray] <;> lia) (by lia) (by rw [hj];simpa using ew) ⟨rfl,fin⟩) hs
theorem ZcF:IxR X (Zfp X.K):=by
 intro value slice qQ s σ H x y v u Q I rx ry h hs;obtain ⟨p,xs,i,z,rfl,rfl,hq,he,q⟩:=h;cases rx;obtain ⟨t,rfl⟩:=ry;obtain ⟨its,r,pl,hz⟩:=I.tuple hq;obtain ⟨j,h1,h2,h3,h4,h5⟩:=XX he;obtain ⟨w,ew,rw'⟩:=r.get h2;have hl:=r.length;have hn:=Wm;have fin:EP X qQ σ Q w s:=⟨z,H,I,rw',q⟩;exact subscriptTail_builtinR (x:=w) pl.typeIs slot_tuple_getitem.lookup
  (getItem_tuple (j:=j) (Q:=λr s'=>r=w/\EP X qQ σ Q r s') pl (by lia) (by lia) (by rw [List.size_toArray,<-hl];exact h1) (by simpa using ew) ⟨rfl,fin⟩) hs
theorem Vx (lo hi:Option Int)(n:Nat):(sliceBounds lo hi none n).1=((HT.sIx n 0 lo:Nat):Int)/\(sliceBounds lo hi none n).2.1=((HT.sIx n n hi:Nat):Int)/\(sliceBounds lo hi none n).2.2=1:=by
 refine ⟨?_,?_,rfl⟩
 ·cases lo with
  | none=>simp [sliceBounds,HT.sIx]
  | some i=>
   simp only [sliceBounds,HT.sIx,Option.getD_none,show (1:Int) > 0 by decide,if_true];by_cases h:i<0
   ·simp only [h,if_true] <;> lia
   ·simp only [h,if_false] <;> lia
 ·cases hi with
  | none=>simp [sliceBounds,HT.sIx]
  | some i=>
   simp only [sliceBounds,HT.sIx,Option.getD_none,show (1:Int) > 0 by decide,if_true];by_cases h:i<0
   ·simp only [h,if_true] <;> lia
   ·simp only [h,if_false] <;> lia
theorem U4 (its:List Value)(lo hi:Option Int):slicePick its.toArray lo hi none=((its.drop (HT.sIx its.length 0 lo)).take (HT.sIx its.length its.length hi-HT.sIx its.length 0 lo)).toArray:=by
 obtain ⟨h1,h2,h3⟩:=Vx lo hi its.toArray.size;unfold slicePick;rw [h1,h2,h3];simp only [sliceRange_one,pick_run,List.size_toArray] <;> rfl
def Zfq (K:W.Frag):V->Option Int->Option Int->Hp->VK->Prop:=λx lo hi H Q=>∃a xs,x=.ref a/\SqL K H a xs/\∀p,H p=none->Q (.ref p) (upd H p (.lst (OV xs lo hi)))
theorem Za5:SlR X (Zfq X.K):=by
 intro qQ s σ H x v vl vu lo hi sl Q I rx hs pl pu h;obtain ⟨a,xs,rfl,hx,q⟩:=h;cases rx;obtain ⟨its,r,ht,hz⟩:=I.list hx;have qJ:=r.length;refine ⟨"list", _,slot_list_getitem.lookup,ht.isList.typeIs,?_⟩;refine wpAny_getItem_list_slice ht.isList hs pl pu .none (by simp) ?_ (by rw [List.size_toArray] <;> lia);rw [U4,<-qJ];refine ⟨.ref s.heap.objs.size,_,I.laid (t':=s.toks) (o:=.lst (OV xs lo hi)) (λb ob q=>Heap.get?_push_of_some _ q) (Nat.le_refl _) ?_,rfl,q _ (I.hok.fresh (Nat.le_refl _))⟩;exact ⟨Nat.le_trans (Uh xs lo hi) hz,_,0,(r.drop (HT.sIx xs.length 0 lo)).take (HT.sIx xs.length xs.length hi-HT.sIx xs.length 0 lo),Heap.get?_push_size _ rfl⟩
def UL:V->Bool
 | .non=>true
 | .bl _=>true
 | .int _=>true
 | .str _=>true
 | _=>false
def eqV:V->V->Bool
 | .non,.non=>true
 | .bl a,.bl b=>a == b
 | .bl a,.int b=>(if a then 1 else 0) == b
 | .int a,.bl b=>a == (if b then 1 else 0)
 | .int a,.int b=>a == b
 | .str a,.str b=>a == b
 | _,_=>false
theorem ZcG {A:Around}{s:Shared}{y x:V}{u v:Value}(ry:RelV y u)(rx:RelV x v)(fy:UL y=true)(fx:UL x=true):SeqAt.EqAt A s u v (eqV y x):=by
 cases y with
 | non=>
  cases ry;cases x with
  | non=>cases rx;exact SeqAt.EqAt.same _
  | bl b=>cases rx;exact SeqAt.EqAt.none_bool b
  | int b=>obtain ⟨t,rfl⟩:=rx;exact SeqAt.EqAt.none_int b t
  | str b=>obtain ⟨t,rfl⟩:=rx;exact SeqAt.EqAt.none_str b t
  | _=>exact absurd (show false=true from fx) Bool.false_ne_true
 | bl a=>
  cases ry;cases x with
  | non=>cases rx;exact SeqAt.EqAt.bool_none a
  | bl b=>cases rx;exact SeqAt.EqAt.bool_bool a b
  | int b=>obtain ⟨t,rfl⟩:=rx;exact SeqAt.EqAt.bool_int a b t
  | str b=>obtain ⟨t,rfl⟩:=rx;exact SeqAt.EqAt.bool_str a b t
  | _=>exact absurd (show false=true from fx) Bool.false_ne_true
 | int a=>
  obtain ⟨t',rfl⟩:=ry;cases x with
  | non=>cases rx;exact SeqAt.EqAt.int_none a t'
  | bl b=>cases rx;exact SeqAt.EqAt.int_bool a t' b
  | int b=>obtain ⟨t,rfl⟩:=rx;exact SeqAt.EqAt.int_int a t' b t
  | str b=>obtain ⟨t,rfl⟩:=rx;exact SeqAt.EqAt.int_str a t' b t
  | _=>exact absurd (show false=true from fx) Bool.false_ne_true
 | str a=>
  obtain ⟨t',rfl⟩:=ry;cases x with
  | non=>cases rx;exact SeqAt.EqAt.str_none a t'
  | bl b=>cases rx;exact SeqAt.EqAt.str_bool a t' b
  | int b=>obtain ⟨t,rfl⟩:=rx;exact SeqAt.EqAt.str_int a t' b t
  | str b=>obtain ⟨t,rfl⟩:=rx;exact SeqAt.EqAt.str_str a t' b t
  | _=>exact absurd (show false=true from fx) Bool.false_ne_true
 | _=>exact absurd (show false=true from fy) Bool.false_ne_true
def eqU (x:V)(u:Value):Bool:=match u with
 | .none=>eqV .non x
 | .bool b=>eqV (.bl b) x
 | .int i _=>eqV (.int i) x
 | .str z _=>eqV (.str z) x
 | _=>false
theorem Zaw {x y:V}{u:Value}(r:RelV y u)(f:UL y=true):eqU x u=eqV y x:=by
 cases y with
 | non=>cases r;rfl
 | bl b=>cases r;rfl
 | int i=>obtain ⟨t,rfl⟩:=r;rfl
 | str z=>obtain ⟨t,rfl⟩:=r;rfl
 | _=>exact absurd (show false=true from f) Bool.false_ne_true
theorem Ui {x:V}:∀{xs:List V}{us:List Value},Vals xs us->xs.all UL=true->us.any (eqU x)=xs.any λy=>eqV y x
 | _,_,.nil,_=>rfl
 | y::xs,u::us,.cons r t,f=>by
  rw [List.all_cons,Bool.and_eq_true] at f;rw [List.any_cons,List.any_cons,Zaw r f.1,Ui t f.2]
theorem OH {A:Around}{s:Shared}{x:V}{v:Value}(rx:RelV x v)(fx:UL x=true):∀{xs:List V}{us:List Value},Vals xs us->xs.all UL=true->∀u∈us,SeqAt.EqAt A s u v (eqU x u)
 | _,_,.nil,_=>λu hu=>by cases hu
 | y::xs,u::us,.cons r t,f=>λu' hu=>by
  rw [List.all_cons,Bool.and_eq_true] at f;rcases List.mem_cons.mp hu with rfl | hu
  ·rw [Zaw r f.1];exact ZcG r rx f.1 fx
  ·exact OH rx fx t f.2 u' hu
def inV (x:V)(xs:List V):Bool:=xs.any λy=>eqV y x
def rIn (K:W.Frag)(neg:Bool):R2:=λx y H Q=>∃p xs,y=.ref p/\(SqL K H p xs\/SqT K H p xs)/\UL x=true/\xs.all UL=true/\Q (.bl (if neg then !inV x xs else inV x xs)) H
theorem XY:OpR X (compareOp .In) (rIn X.K false):=by
 intro qQ s σ H x y v u Q I rx ry h;obtain ⟨p,xs,rfl,hq,fx,fs,q⟩:=h;cases ry;rcases hq with hq | hq
 ·obtain ⟨its,r,pl,hz⟩:=I.list hq;refine SeqAt.in_listAt (eqU x) pl.isList (λw hw=>OH rx fx r fs w (by simpa using hw)) ⟨.bl _,H,I,rfl,?_⟩;rw [show its.toArray.any (eqU x)=its.any (eqU x) by simp,Ui r fs];exact q
 ·obtain ⟨its,r,pl,hz⟩:=I.tuple hq;refine SeqAt.in_tupleAt (eqU x) pl (λw hw=>OH rx fx r fs w (by simpa using hw)) ⟨.bl _,H,I,rfl,?_⟩;rw [show its.toArray.any (eqU x)=its.any (eqU x) by simp,Ui r fs];exact q
theorem Vy:OpR X (compareOp .NotIn) (rIn X.K true):=by
 intro qQ s σ H x y v u Q I rx ry h;obtain ⟨p,xs,rfl,hq,fx,fs,q⟩:=h;cases ry;rcases hq with hq | hq
 ·obtain ⟨its,r,pl,hz⟩:=I.list hq;refine SeqAt.notIn_listAt (eqU x) pl.isList (λw hw=>OH rx fx r fs w (by simpa using hw)) ⟨.bl _,H,I,rfl,?_⟩;rw [show its.toArray.any (eqU x)=its.any (eqU x) by simp,Ui r fs];exact q
 ·obtain ⟨its,r,pl,hz⟩:=I.tuple hq;refine SeqAt.notIn_tupleAt (eqU x) pl (λw hw=>OH rx fx r fs w (by simpa using hw)) ⟨.bl _,H,I,rfl,?_⟩;rw [show its.toArray.any (eqU x)=its.any (eqU x) by simp,Ui r fs];exact q
theorem Vz:J2 X (.builtin "len") (λxs H Q=>∃p ys,xs=[.ref p]/\(SqL X.K H p ys\/SqT X.K H p ys)/\Q (.int ys.length) H):=by
 intro qQ s σ H xs us Q I r h;obtain ⟨p,ys,rfl,hq,q⟩:=h;obtain ⟨u,rfl,rx⟩:=ZaW r;cases rx;have hn:=Wm;rcases hq with hq | hq
 ·obtain ⟨its,r',pl,hz⟩:=I.list hq;have qJ:=r'.length;exact Calls.call_len_list pl.isList (by simp only [List.size_toArray] <;> lia) ⟨.int ys.length,H,I.tok _,⟨s.toks+1,by rw [List.size_toArray,qJ]⟩,q⟩
 ·obtain ⟨its,r',pl,hz⟩:=I.tuple hq;have qJ:=r'.length;exact len_tuple pl (by simp only [List.size_toArray] <;> lia) ⟨.int ys.length,H,I.tok _,⟨s.toks+1,by rw [List.size_toArray,qJ]⟩,q⟩
theorem VA:J2 X (.type "list") (λxs H Q=>∃p ys,xs=[.ref p]/\(SqL X.K H p ys\/SqT X.K H p ys)/\∀l,H l=none->Q (.ref l) (upd H l (.lst ys))):=by
 intro qQ s σ H xs us Q I r h;obtain ⟨p,ys,rfl,hq,q⟩:=h;obtain ⟨u,rfl,rx⟩:=ZaW r;cases rx;have fin:∀(its:List Value),Vals ys its->ys.length<=sizeLine->∀(h':Heap)(c':Nat),(∀b o',s.heap.get? b=some o'->h'.get? b=some o') ->
   h'.get? s.heap.objs.size=some { cls:=.type "list", dict:=none,data:=.seq its.toArray c',slots:=#[] }->EP X qQ σ Q (.ref s.heap.objs.size) { s with heap:=h' }:=λits r' hz h' c' kp e=>
  ⟨.ref s.heap.objs.size,_,I.laid (t':=s.toks) kp (Nat.le_refl _) (show ObjOk X.prog X.w _ h' _ (.lst ys) from ⟨hz,its,c',r',e⟩),rfl,q _ (I.hok.fresh (Nat.le_refl _))⟩
 rcases hq with hq | hq
 ·obtain ⟨its,r',pl,hz⟩:=I.list hq;have qJ:=r'.length;obtain ⟨o,ho,hc,n,hd⟩:=pl.isList;exact call_list_seq p (.inl rfl) ho hc hd (λh' c' kp e=>fin its r' hz h' c' kp e) (by simp only [List.size_toArray] <;> lia)
 ·obtain ⟨its,r',pl,hz⟩:=I.tuple hq;have qJ:=r'.length;obtain ⟨o,ho,hc,n,hd⟩:=pl;exact call_list_seq p (.inr rfl) ho hc hd (λh' c' kp e=>fin its r' hz h' c' kp e) (by simp only [List.size_toArray] <;> lia)
theorem U5:J2 X (.type "tuple") (λxs H Q=>∃p ys,xs=[.ref p]/\((SqL X.K H p ys/\∀l,H l=none->Q (.ref l) (upd H l (.tup ys)))\/(SqT X.K H p ys/\Q (.ref p) H))):=by
 intro qQ s σ H xs us Q I r h;obtain ⟨p,ys,rfl,h⟩:=h;obtain ⟨u,rfl,rx⟩:=ZaW r;cases rx;rcases h with ⟨hq,q⟩ | ⟨hq,q⟩
 ·obtain ⟨its,r',pl,hz⟩:=I.list hq;have qJ:=r'.length;refine call_tuple_list pl.isList (λh' kp=>?_) (by simp only [List.size_toArray] <;> lia);have I1:Inv X qQ σ H { s with heap:=h' }:=I.kept (t':=s.toks) kp;have I2:Inv X qQ σ (upd H h'.objs.size (.tup ys)) { s with heap:=h'.push { cls:=.type "tuple", data:=.seq its.toArray } }:=
   I1.laid (t':=s.toks) (λb o e=>Heap.get?_push_of_some _ e) (Nat.le_refl _) (show ObjOk X.prog X.w _ _ _ (.tup ys) from ⟨hz,its,r',IsTup.new _ _⟩)
  exact ⟨.ref h'.objs.size,_,I2,rfl,q _ (I1.hok.fresh (Nat.le_refl _))⟩
 ·obtain ⟨its,r',pl,hz⟩:=I.tuple hq;exact call_tuple_same pl ⟨.ref p,H,I,rfl,q⟩
def tyV (K:W.Frag)(T:String)(x:V)(H:Hp):Prop:=match x with
 | .str _=>T = "str"
 | .int _=>T = "int"
 | .ref p=>(T = "list" /\ ∃xs,SqL K H p xs)\/(T = "tuple" /\ ∃o,K.lookup p=some o/\o.cls=.type "tuple" /\ o.dict=none) \/
   (T = "dict" /\ ((∃kvs,H p=some (.dK kvs))\/∃kvs,H p=some (.dT kvs)))\/(T = "set" /\ ∃S n,H p=some (.set S n))
 | _=>False
theorem Zax {qQ:List (Addr×Obj)}{σ:St}{H:Hp}{s:Shared}{T:String}{x:V}{v:Value}(I:Inv X qQ σ H s)(r:RelV x v)(ty:tyV X.K T x H) :
  s.TypeIs v T/\∀a,v=.ref a->∃ob,s.heap.get? a=some ob/\ob.dict=none:=by
 cases x with
 | str z=>
  obtain ⟨t,rfl⟩:=r;cases (show T = "str" from ty);exact ⟨typeIs_str s z t,λ_ e=>nomatch e⟩
 | int i=>
  obtain ⟨t,rfl⟩:=r;cases (show T = "int" from ty);exact ⟨typeIs_int s i t,λ_ e=>nomatch e⟩
 | ref p=>
  cases r;rcases ty with ⟨rfl,xs,hq⟩ | ⟨rfl,o,hk,hc,hd⟩ | ⟨rfl,hk⟩ | ⟨rfl,S,n,hk⟩
  ·obtain ⟨its,_,pl,_⟩:=I.list hq;refine ⟨pl.isList.typeIs,λa e=>?_⟩;cases e;obtain ⟨o,n,e,c,hd,_⟩:=pl;exact ⟨o,e,hd⟩
  ·refine ⟨⟨o,I.kIn p o hk,hc⟩,λa e=>?_⟩;cases e;exact ⟨o,I.kIn _ o hk,hd⟩
  ·have z:∃o,s.heap.get? p=some o/\o.ExactDict:=by
    rcases hk with ⟨kvs,hk⟩ | ⟨kvs,hk⟩
    ·obtain ⟨_,_,_,_,o,_,_,e,ex,_⟩:=I.hok p _ hk;exact ⟨o,e,ex⟩
    ·obtain ⟨_,_,_,_,o,_,_,e,ex,_⟩:=I.hok p _ hk;exact ⟨o,e,ex⟩
   obtain ⟨o,e,ex⟩:=z;refine ⟨⟨o,e,ex.1⟩,λa e2=>?_⟩;cases e2;exact ⟨o,e,ex.2.1⟩
  ·obtain ⟨o,_,_,_,e,ex,_⟩:=I.hok p _ hk;refine ⟨⟨o,e,ex.1⟩,λa e2=>?_⟩;cases e2;exact ⟨o,e,ex.2.1⟩
 | _=>exact False.elim ty
def ZfN (K:W.Frag)(T:String)(r:V->List V->Hp->VK->Prop)(to:TE):TE:=λσ H Q=>to σ H λx H1=>tyV K T x H1/\r x [] H1 Q
def tBM (K:W.Frag)(T:String)(r:V->List V->Hp->VK->Prop)(to:TE)(t:TA):TE:=λσ H Q=>to σ H λx H1=>tyV K T x H1/\t σ H1 λxs H2=>r x xs H2 Q
variable {o e:Expr}{es:List Expr}{to:TE}{t:TA}{name:Str}{apos qV:Pos}{T id:String}{r:V->List V->Hp->VK->Prop}
theorem Wp (pa:PlainAttrs T)(slot:Slot T name id)(hty:typeOf (.builtin id)=pure (.type "method_descriptor"))(hm:MtR X id r)(ho:PE X o to)(hbase:attributeBase o name X.env (eval o X.env)=eval o X.env:=by rfl)(hline:(apos.endLine == qV.line)=true:=by rfl):PE X (.Call (.Attribute o name apos) [] [] qV) (ZfN X.K T r to):=by
 intro qQ s σ H Q I h;refine wpAny_Call_method0_late hbase hline (thn (ho qQ s σ H _ I h) λv s1 ⟨x,H1,I1,r1,ty,q1⟩=>?_);obtain ⟨h1,h2⟩:=Zax I1 r1 ty;exact ⟨T,id,pa,slot,hty,h1,h2,Calls.callWith_builtin rfl (PySem.evalArgs_none (hm qQ s1 σ H1 x [] v [] Q I1 r1 .nil q1))⟩
theorem Ou (pa:PlainAttrs T)(slot:Slot T name id)(hty:typeOf (.builtin id)=pure (.type "method_descriptor"))(hm:MtR X id r)(ho:PE X o to)(ha:PA X (e::es) t)(hbase:attributeBase o name X.env (eval o X.env)=eval o X.env:=by rfl)(hfew:((backTo qV (starEach (e::es) X.env)).all (λx=>!x.1) && (backToKw qV (keywordEach [] X.env)).all (λx=>x.1.isSome)
   && decide ((e::es).length+([]:List Keyword).length+(if ([]:List Keyword).isEmpty then 0 else 1)<30))=true:=by rfl)(hline:(apos.endLine == qV.line)=true:=by rfl)(hs:starEach (e::es) X.env=(false,eval e X.env)::starEach es X.env:=by rfl)(hplain:(backTo qV (starEach es X.env)).any (·.1)=false:=by rfl) :
  PE X (.Call (.Attribute o name apos) (e::es) [] qV) (tBM X.K T r to t):=by
 intro qQ s σ H Q I h;refine wpAny_Call_method_late hbase hfew hline rfl (thn (ho qQ s σ H _ I h) λv s1 ⟨x,H1,I1,r1,ty,q1⟩=>?_);obtain ⟨h1,h2⟩:=Zax I1 r1 ty;refine ⟨T,id,pa,slot,hty,h1,h2,?_⟩;have hA:=ha qV qQ s1 σ H1 _ I1 q1;rw [hs] at hA ⊢;refine Calls.callWith_builtin (by show (false || (backTo qV (starEach es X.env)).any (·.1))=false;rw [hplain] <;> rfl) (Calls.evalArgs_plain ?_);exact thn hA λus s2 ⟨vs,H2,I2,r2,q2⟩=>hm qQ s2 σ H2 x vs v us Q I2 r1 r2 q2
/- xs.append(e),list.index on a module's tuple .. are MtR facts of 06m -/
end
end L2
namespace L2
open PySem PySem.Spec PyProof.Rows
def MtM (X:Cx)(id:String)(r:V->List V->Hp->VK->Prop):Prop:=
 ∀(qQ:List (Addr×Obj))(s:Shared)(σ:St)(H:Hp)(x:V)(xs:List V)(v:Value)(us:List Value)(Q:VK),Inv X qQ σ H s->RelV x v->Vals xs us->r x xs H Q ->
  wpAny (model X.prog X.w) X.A (call (.builtin id) (v::us)) (EP X qQ σ Q) X.xe s
theorem Vals.one:∀{x:V}{us:List Value},Vals [x] us->∃u,us=[u]/\RelV x u
 | _,_,.cons r .nil=>⟨_,rfl,r⟩
theorem Vals.two:∀{x y:V}{us:List Value},Vals [x,y] us->∃u v,us=[u,v]/\RelV x u/\RelV y v
 | _,_,_,.cons r (.cons q .nil)=>⟨_,_,rfl,r,q⟩
theorem Vals.zero:∀{us:List Value},Vals [] us->us=[]
 | _,.nil=>rfl
theorem Vals.dropLast {xs:List V}{us:List Value}(h:Vals xs us):Vals xs.dropLast us.dropLast:=by
 induction h with
 | nil=>exact .nil
 | cons r t ih=>
  cases t with
  | nil=>exact .nil
  | cons q t'=>exact .cons r ih
theorem Vals.eraseIdx:∀{xs:List V}{us:List Value}(i:Nat),Vals xs us->Vals (xs.eraseIdx i) (us.eraseIdx i)
 | _,_,_,.nil=>.nil
 | _,_,0,.cons _ t=>t
 | _,_,i+1,.cons r t=>.cons r (Vals.eraseIdx i t)
theorem Xi {α:Type}(l:List α):l.eraseIdx (l.length-1)=l.dropLast:=by
 induction l with
 | nil=>rfl
 | cons a r ih=>
  cases r with
  | nil=>rfl
  | cons b r=>
   have e:(a::b::r).length-1=((b::r).length-1)+1:=by
    have h1:(a::b::r).length=r.length+2:=rfl;have h2:(b::r).length=r.length+1:=rfl
    lia
   rw [e,List.eraseIdx_cons_succ,ih]
   all_goals rfl
theorem Uj {α:Type}:∀(l:List α)(i:Nat),(l.eraseIdx i).length<=l.length
 | [],_=>Nat.le_refl _
 | _::_,0=>Nat.le_succ _
 | _::r,i+1=>Nat.succ_le_succ (Uj r i)
section
variable {X:Cx}{qQ:List (Addr×Obj)}{σ:St}{H:Hp}{s:Shared}{l b:Addr}{xs ys zs:List V}
theorem Inv.lset {its its':List Value}{n:Nat}{f:Array Value->Array Value}{t':Nat}(I:Inv X qQ σ H s)(hH:H l=some (.lst xs))(e:s.heap.get? l=some { cls:=.type "list", data:=.seq its.toArray n })(hf:f its.toArray=its'.toArray)(hv:Vals ys its')(hz:ys.length<=sizeLine) :
  Inv X qQ σ (upd H l (.lst ys)) { s with heap:=s.heap.update l (Obj.mapSeq f),toks:=t' }:=by
 have q:=PySem.IsL.update e f;rw [hf] at q;refine I.write (x:=l) (e:=l) (by rw [hH];exact trivial) (.inl rfl) (λb' u hb hu=>(Heap.get?_update_other s.heap (Obj.mapSeq f) (Ne.symm hb)).trans hu) ⟨_,q⟩ ?_;exact ⟨hz,its',_,hv,q⟩
theorem Inv.lnew {its:List Value}{t':Nat}(I:Inv X qQ σ H s)(hv:Vals ys its)(hz:ys.length<=sizeLine) :
  Inv X qQ σ (upd H s.heap.objs.size (.lst ys)) { s with heap:=s.heap.push { cls:=.type "list", data:=.seq its.toArray },toks:=t' }:=
 I.laid (λ_ _ q=>Heap.get?_push_of_some _ q) (Nat.le_refl _) ⟨hz,its,0,hv,Heap.get?_push_size _ rfl⟩
theorem Inv.fresh (I:Inv X qQ σ H s):H s.heap.objs.size=none:=I.hok.fresh (Nat.le_refl _)
theorem Inv.lstM (I:Inv X qQ σ H s)(hH:H l=some (.lst xs)):xs.length<=sizeLine/\∃(its:List Value)(n:Nat),Vals xs its/\xs.length=its.length/\s.heap.get? l=some { cls:=.type "list", data:=.seq its.toArray n }:=by
 obtain ⟨z,its,n,r,e⟩:=I.hok l _ hH;exact ⟨z,its,n,r,r.length,e⟩
theorem Zl {n:Nat}(h:n<=sizeLine):Builtin.List.listTooLong n=false:=by
 unfold Builtin.List.listTooLong;exact decide_eq_false (by lia)
end
section
variable {X:Cx}
def Za6:V->List V->Hp->VK->Prop:=λx vs H Q=>∃l xs y,x=.ref l/\vs=[y]/\H l=some (.lst xs)/\xs.length<sizeLine/\Q .non (upd H l (.lst (xs++[y])))
theorem G9:MtM X "list.append" Za6:=by
 intro qQ s σ H x vs v us Q I rx rv h;obtain ⟨l,xs,y,rfl,rfl,hH,hz,q⟩:=h;cases rx;obtain ⟨u,rfl,ru⟩:=rv.one;obtain ⟨z,its,n,r,hl,e⟩:=I.lstM hH;refine call_meets F.slot_list_append ⟨_,e,rfl⟩ F.entry_list_append (F.args_list_append_2 _ _) (PySem.list_append l its.toArray n u (by rw [List.size_toArray];lia)) ⟨e,?_⟩;refine ⟨.non,_,I.lset (its':=its++[u]) hH e (by simp) (r.append (.cons ru .nil)) ?_,rfl,q⟩;rw [List.length_append,List.length_singleton]
 lia
def ZfO:V->List V->Hp->VK->Prop:=λx vs H Q=>∃l xs y,x=.ref l/\vs=[]/\H l=some (.lst xs)/\xs[xs.length-1]?=some y/\Q y (upd H l (.lst xs.dropLast))
theorem Wr:MtM X "list.pop" ZfO:=by
 intro qQ s σ H x vs v us Q I rx rv h;obtain ⟨l,xs,y,rfl,rfl,hH,hy,q⟩:=h;cases rx;have hus:=rv.zero;subst hus;obtain ⟨z,its,n,r,hl,e⟩:=I.lstM hH;obtain ⟨u,hu,ru⟩:=r.get hy;have hy':its.toArray[its.toArray.size-1]?=some u:=by
  show its.toArray[its.length-1]?=some u;rw [<-Array.getElem?_toList,<-hl];exact hu
 refine call_meets F.slot_list_pop ⟨_,e,rfl⟩ F.entry_list_pop (F.args_list_pop_1 _) (MeetsSeq.list_pop_last l its.toArray n u hy' (by rw [List.size_toArray];lia)) ⟨e,?_⟩;refine ⟨y,_,I.lset (its':=its.dropLast) hH e ?_ r.dropLast ?_,ru,q⟩
 ·show its.toArray.eraseIdxIfInBounds (its.toArray.size-1)=its.dropLast.toArray;rw [List.size_toArray,List.eraseIdxIfInBounds_toArray,Xi]
 ·rw [List.length_dropLast]
  lia
def ZfP:R2:=λx y H Q=>∃l b xs zs,x=.ref l/\y=.ref b/\H l=some (.lst xs)/\H b=some (.lst zs)/\xs.length+zs.length<=sizeLine/\∀p,H p=none->Q (.ref p) (upd H p (.lst (xs++zs)))
theorem Uk:OpR X (binaryOp .Add) ZfP:=by
 intro qQ s σ H x y v u Q I rx ry h;obtain ⟨l,b,xs,zs,rfl,rfl,hH,hB,hz,q⟩:=h;cases rx;cases ry;obtain ⟨z,its,n,r,hl,e⟩:=I.lstM hH;obtain ⟨z2,its2,n2,r2,hl2,e2⟩:=I.lstM hB;refine PySem.P.add_list e e2 ?_ (by rw [List.size_toArray,List.size_toArray];lia);have ea:its.toArray++its2.toArray=(its++its2).toArray:=by simp
 rw [ea];exact ⟨.ref _,_,I.lnew (t':=s.toks) (r.append r2) (by rw [List.length_append];lia),rfl,q _ I.fresh⟩
end
end L2
namespace Att
open PySem PySem.W PySem.Calls PyProof.Rows
theorem Ul {P:Params}{h:Heap}:∀(ns:List Int)(vs:List Value),WellAll P h vs (ns.map WData.int)->IntsAre vs ns:=by
 intro ns
 induction ns with
 | nil=>
  intro vs w;rw [List.map_nil] at w;cases w;exact .nil
 | cons n ns ih=>
  intro vs w;rw [List.map_cons] at w;cases w with
  | cons a b=>
   cases a;exact .cons _ _ (ih _ b)
theorem XZ {l:OpenLaw}{n:Nat}(hn:l.most=some n){P:Params}{h:Heap}{args:List WData}{vals:List Value}(hpre:l.row.toRowW.claim.pre args=true)(hwl:WellAll P h vals args) :
  ∃a vs ns,vals=[Value.ref a]/\args=[WData.list (ns.map WData.int)]/\h.get? a=some { cls:=.type "list", data:=.seq vs.toArray }/\IntsAre vs ns/\ns.length<=n:=by
 have hsh:WShape.hasAll [] args [.list .int]=true:=(pre_splitW hpre).1;have hc:l.pre.holds [] { args:=args }=true:=(pre_splitW hpre).2;obtain ⟨d,r,rfl,h1,h2⟩:=hasAllW_cons hsh;obtain rfl:=hasAllW_nil h2;obtain ⟨xs,rfl,h3⟩:=hasW_list h1;obtain ⟨ns,rfl⟩:=items_int h3;have qJ:ns.length<=n:=by
  unfold OpenLaw.pre at hc;have h4:(WTm.not (.lt (.lit (.int (n:Int))) (.len (.arg 0)))).holds [] { args:=[.list (ns.map .int)] }=true:=by
   have h4:=(holds_andW hc).1;rw [hn] at h4;exact h4
  have h5:=condW_of h4 (w_not (w_lt w_lit (w_len_list (w_arg rfl))));rw [List.length_map] at h5;refine Nat.le_of_not_lt λq=>?_;have q':(n:Int)<((ns.length:Nat):Int):=by lia
  first
   | (rw [decide_eq_true q'] at h5;exact absurd h5 (by decide))
   | (simp at h5;lia)
 cases hwl with
 | cons w1 w2=>
  cases w2;cases w1 with
  | list ho qX=>exact ⟨_,_,ns,rfl,rfl,ho,Ul ns _ qX,qJ⟩
theorem X0 (l:OpenLaw)(args:List WData):l.row.toRowW.claim.post args (.bool true) args=true:=
 postW_of (r:=l.row.toRowW) (X:=(true == true))
  (show WShape.has [] (.bool true) .bool=true by first | rfl | decide | simp [WShape.has,WShape.arms,WShape.armsAll])
  (show (WTm.eq .res (.lit (.bool true))).value [] { args:=args,res:=some (.bool true),after:=args }=some (.bool (true == true)) from w_eq_bool (w_res rfl) w_lit) rfl
theorem attach_call {l:OpenLaw}{n:Nat}{q:Program}{loose:List Str}{XP:(Str->Option Value)->Heap->Prop}{YP:World->Heap->Prop}{d:DefRec}(hn:l.most=some n)(hdf:d.params.defaults=[])(call:∀(w:World)(s₀ s₁:Shared)(mg mb:Str->Option Value)(fa:Addr)(o:Obj)(pm cd doc:Value)(a:Addr)(vs:List Value)(ns:List Int),
   Ground q loose [] XP w s₀ mg mb s₁.heap->YP w s₁.heap ->
   s₁.heap.get? fa=some o->o.data=.func (docDef d.name d.params d.body d.scope pm cd doc)->s₁.heap.CodeRec cd d.name->mg d.name=some (.ref fa) ->
   s₁.heap.get? a=some { cls:=.type "list", data:=.seq vs.toArray }->IntsAre vs ns->ns.length<=n->s₁.gens=#[] ->
   codeAny (model l.prog w) callerA (.call (.ref fa) ⟨[.ref a],[]⟩) (λr s'=>r=.ok (.ret (.bool true))/\OldK s₁.heap s'.heap/\s'.os=s₁.os/\AllBare s'.gens) s₁) :
  WalkO q loose XP YP l.row.toRowW d [] (λf vs=>PySem.call f vs):=by
 intro w s₀ s₁ mg mb G Y fa o pm cd doc dV kV ho hd hcd hD hmg hg args vals as hpre hlay hrd hwl hlo;obtain rfl:dV=.none:=Dflts.none hD hdf;obtain rfl:kV=.none:=Dflts.noKw hD;obtain ⟨a,vs,ns,rfl,rfl,hobj,hints,qJ⟩:=XZ hn hpre hwl;refine enter_call (codeAny_mono (call w s₀ s₁ mg mb fa o pm cd doc a vs ns G Y ho (fd_plain hd) hcd hmg hobj hints qJ hg) λr s' hq=>?_);obtain ⟨rfl,h2,h3,h4⟩:=hq;exact ⟨.inl ⟨.bool true,.bool true,[],rfl,λ_=>rfl,.bool true,X0 l _,λ_=>⟨List.Pairwise.nil,λ_ hm=>(nomatch hm)⟩⟩,h2,h3,h4⟩
end Att
namespace L2
open PySem PySem.Spec PyProof.Rows
theorem OI:∀{vs:List Value}{ns:List Int},IntsAre vs ns->Vals (ns.map V.int) vs
 | _,_,.nil=>.nil
 | _,_,.cons n t h=>.cons ⟨t,rfl⟩ (OI h)
end L2
/- THE LAST THEOREM (shape;LID,My.* are yours):
  My.Adr: a structure of the addresses that your layer names (classes,functions);My.Txt K t: a structure (Prop) of the equations over K;
  My.txt_mk:{K} {implicit addresses ..} (e1:nsIn K mainGlobals "law" = some (some (.ref f))) (e2:K.lookup f=some ⟨oc,od,.func (fnOf "law" "law" params body scope dV kV doc pm an cdv ct),sl⟩) (e3:codeIn K cdv "law" = true) ..:∃t,My.Txt K t
set_option maxRecDepth 100000 in
set_option maxHeartbeats 0 in
theorem PySem.Challenge.cw_LID_holds:PySem.Challenge.rw_LID.Holds:=by
 w_on;o_law;k_head;(case hw=>w_witness2)
 k_fill
 refine L2.walk_of (l:=PySem.Challenge.rw_LID) (n:=63) (k:=40) (x := "script") (CX:=λw=>..) (sp:=λ_=>My.sp_law) rfl (by decide) rfl ⟨rfl,by decide,by decide⟩ (λw h Y=>W.kIn_of Y) ?F ?S ?C
 case F=>
  intro w mg fa h KX G hmg;have T:∃t,My.Txt (L2.KOf KX) t:=by
   dsimp only [L2.KOf]                          -- K must stand as «<heap const> w.params» for k_is
   refine' My.txt_mk ?e1 ?e2 ?e3 ..
   (case e1=>W.k_is)                    -- in the order: a name->its address->its object->its parts
   (case e2=>W.k_is)
   ..
  obtain ⟨t,T⟩:=T;have e0:=hmg.symm.trans (W.mg_of KX G T.law);cases e0                                       -- fa is the law's own address;exact ⟨_,λs u=>.of_eq rfl,λbase kb nb=>My.law_fn T kb nb⟩     -- if «.of_eq rfl» comes too early: refine' ⟨_,?b,λbase kb nb=>My.law_fn T kb nb⟩;exact λs u=>.of_eq rfl
 case S=>exact λw H a ns hl hO hS=>..
 case C=>exact ..
(the tactic k_is has no namespace: write k_is) -/
namespace L2
open PySem PySem.Spec PyProof.Rows
def Gq (s:Stmt):Arguments:=match s with
 | .FunctionDef _ a _ _ _ _ _ _ _ _=>a
 | _=>{ posonlyargs:=[],args:=[],vararg:=none,kwonlyargs:=[],kw_defaults:=[],kwarg:=none,defaults:=[] }
def Go (s:Stmt):List Stmt:=match s with
 | .FunctionDef _ _ b _ _ _ _ _ _ _=>b
 | _=>[]
def Gg (s:Stmt):Scope:=match s with
 | .FunctionDef _ _ _ _ _ _ sc _ _ _=>sc
 | _=>{ kind:=.function,names:=[],isGenerator:=false,isCoroutine:=false }
abbrev CX0:CXT:=λ_ _ _ _ _ _=>False
abbrev E0:XK:=λ_ _ _=>False
theorem G2 {X:Cx}:O3 CX0 X E0:=λ_ _ _ _ _ _ _ h=>h.elim
structure Fun (K:W.Frag)(x qual:Str)(st:Stmt)(f:Addr)(fd:FuncData):Prop where
 ex:∃(oc:Value)(od:Option Addr)(kV doc pm:Value)(an:Option Addr)(cdv ct:Value)(osl:Array (Option Value)),
  fd=W.fnOf x qual (Gq st) (Go st) (Gg st) .none kV doc pm an cdv ct/\K.lookup f=some ⟨oc,od,.func fd,osl⟩/\W.codeIn K cdv qual=true
 kp:W.keepIn K (.ref f)=true
section
variable {P:Program}{w:World}{K:W.Frag}{mg:Str->Option Value}{base:Heap}
theorem ZfQ {α:Type}{l:List α}(h:l.length=0):l=[]:=List.length_eq_zero_iff.mp h
theorem Za7 {α:Type}{l:List α}{n:Nat}(h:l.length=n+1):∃a t,l=a::t/\t.length=n:=by
 cases l with
 | nil=>cases h
 | cons a t=>exact ⟨a,t,rfl,by simpa using h⟩
theorem Zay {α:Type}{l:List α}(h:l.length=1):∃a,l=[a]:=by
 obtain ⟨a,t,rfl,g⟩:=Za7 h;exact ⟨a,by rw [ZfQ g]⟩
theorem VB {α:Type}{l:List α}(h:l.length=2):∃x0 x1,l=[x0,x1]:=by
 obtain ⟨a,t,rfl,g⟩:=Za7 h;obtain ⟨x1,rfl⟩:=Zay g;exact ⟨a,x1,rfl⟩
theorem Y7 {α:Type}{l:List α}(h:l.length=3):∃x0 x1 x2,l=[x0,x1,x2]:=by
 obtain ⟨a,t,rfl,g⟩:=Za7 h;obtain ⟨x1,x2,rfl⟩:=VB g;exact ⟨a,x1,x2,rfl⟩
theorem XD {α:Type}{l:List α}(h:l.length=4):∃x0 x1 x2 x3,l=[x0,x1,x2,x3]:=by
 obtain ⟨a,t,rfl,g⟩:=Za7 h;obtain ⟨x1,x2,x3,rfl⟩:=Y7 g;exact ⟨a,x1,x2,x3,rfl⟩
theorem ZfR {α:Type}{l:List α}(h:l.length=5):∃x0 x1 x2 x3 x4,l=[x0,x1,x2,x3,x4]:=by
 obtain ⟨a,t,rfl,g⟩:=Za7 h;obtain ⟨x1,x2,x3,x4,rfl⟩:=XD g;exact ⟨a,x1,x2,x3,x4,rfl⟩
theorem ZfS {α:Type}{l:List α}(h:l.length=6):∃x0 x1 x2 x3 x4 x5,l=[x0,x1,x2,x3,x4,x5]:=by
 obtain ⟨a,t,rfl,g⟩:=Za7 h;obtain ⟨x1,x2,x3,x4,x5,rfl⟩:=ZfR g;exact ⟨a,x1,x2,x3,x4,x5,rfl⟩
theorem Zf4 {α:Type}{l:List α}(h:l.length=7):∃x0 x1 x2 x3 x4 x5 x6,l=[x0,x1,x2,x3,x4,x5,x6]:=by
 obtain ⟨a,t,rfl,g⟩:=Za7 h;obtain ⟨x1,x2,x3,x4,x5,x6,rfl⟩:=ZfS g;exact ⟨a,x1,x2,x3,x4,x5,x6,rfl⟩
theorem Fun.ok {x qual:Str}{st:Stmt}{f:Addr}{fd:FuncData}{N ps:List Str}{k:Nat}{sp:Sp}(F:Fun K x qual st f fd)(S:Gv N ps (Gg st))(len:∀vs H Q E,sp vs H Q E->vs.length=ps.length)(qW:∀(cdv:Value)(A:Around)(outer:List Env)(s:Shared)(H:Hp)(vs:List V)(Q:VK)(E:XK),Room k (A.deeper (envOfC qual (Gg st) s.heap.objs.size f cdv))->sp vs H Q E ->
   ∃t,PSs (XC CX0 P w K mg base N qual (Gg st) f cdv A outer s H E).nox (Go st) t/\t { nx:=λ_ H'=>Q .non H',rt:=Q } (start N vs) H):GS P w K mg base CX0 (k+1) f fd ps sp:=by
 obtain ⟨oc,od,kV,doc,pm,an,cdv,ct,osl,rfl,lk,hcd⟩:=F.ex;refine Zi lk hcd S len λA outer s H vs Q E hr hsp=>?_;obtain ⟨t,h,q⟩:=qW cdv A outer s H vs Q E hr hsp;exact ⟨t,h.nox,q⟩
theorem Fun.binds {x qual:Str}{st:Stmt}{f:Addr}{fd:FuncData}{ps:List Str}(F:Fun K x qual st f fd)(h:∀(kV doc pm:Value)(an:Option Addr)(cdv ct:Value)(us:List Value),us.length=ps.length->bindArgs (W.fnOf x qual (Gq st) (Go st) (Gg st) .none kV doc pm an cdv ct) ⟨us,[]⟩=pure (ps.zip us)):Binds K fd ps []:=by
 obtain ⟨oc,od,kV,doc,pm,an,cdv,ct,osl,rfl,lk,hcd⟩:=F.ex;exact .all (h kV doc pm an cdv ct)
theorem GM {x qual:Str}{st:Stmt}{f:Addr}{oc:Value}{od an:Option Addr}{osl:Array (Option Value)}{kV doc pm cdv ct:Value}(l:K.lookup f=some ⟨oc,od,.func (W.fnOf x qual (Gq st) (Go st) (Gg st) .none kV doc pm an cdv ct),osl⟩)(c:W.codeIn K cdv qual=true)(k:W.keepIn K (.ref f)=true):Fun K x qual st f (W.fnOf x qual (Gq st) (Go st) (Gg st) .none kV doc pm an cdv ct):=⟨⟨oc,od,kV,doc,pm,an,cdv,ct,osl,rfl,l,c⟩,k⟩
end
section
variable {X:Cx}
theorem pv (i:Nat){x:Str}{pos:Pos}(hN:X.N[i]?=some x:=by rfl)(hv:Vis X.env.scope x:=by first | exact Or.inl rfl | exact Or.inr (Or.inl rfl) | exact Or.inr (Or.inr rfl))(hd:(x == ("__debug__" : Str))=false:=by decide)(hcd:(x == ("__classdict__" : Str))=false:=by decide):PE X (.Name x pos) (Y5 i):=Zcr hN hv hd hcd
end
theorem GG {A B:Prop}(h:B):if false=true then A else B:=by
 rw [if_neg Bool.false_ne_true];exact h
theorem Jg {A B:Prop}(h:A):if true=true then A else B:=by
 rw [if_pos rfl];exact h
theorem O4 {c A B:Prop}[Decidable c](h1:c->A)(h2:¬ c->B):if c then A else B:=by
 by_cases h:c
 ·rw [if_pos h];exact h1 h
 ·rw [if_neg h];exact h2 h
def Same (H H':Hp):Prop:=∀b o,H b=some o->H' b=some o
theorem Same.refl (H:Hp):Same H H:=λ_ _ h=>h
theorem Same.trans {H H1 H2:Hp}(a:Same H H1)(b:Same H1 H2):Same H H2:=λc o h=>b c o (a c o h)
theorem Same.free {H H':Hp}(e:Same H H'){l:Addr}(h:H' l=Option.none):H l=Option.none:=by
 cases q:H l with
 | none=>rfl
 | some o=>
  rw [e l o q] at h;cases h
theorem Same.seq {K:W.Frag}{H H':Hp}{a:Addr}{xs:List V}(e:Same H H')(h:SqL K H a xs):SqL K H' a xs:=by
 rcases h with (h | ⟨o,h⟩) | h
 ·exact .inl (.inl (e _ _ h))
 ·exact .inl (.inr ⟨o,e _ _ h⟩)
 ·exact .inr h
end L2
namespace L2
open PySem PySem.Spec PyProof.Rows
section
variable {prog:Program}{w:World}{A:Around}{R:Result->Shared->Prop}{s:Shared}
theorem VC {elt qZ iter:Expr}{ifs:List Expr}{scope:Scope}{pos:Pos}{it acc:Value}{env:Env}(I:Nat->Shared->Prop)(turn:∀n s,I n s->wpAny (model prog w) A (pyNext it) (λr s1=>match r with
   | none=>R (.ok .next) s1
   | some v=>wpAny (model prog w) A (letOwnedTupleGo qZ it v) (λ_ s1'=>wpAny (model prog w) A (assign qZ env v) (λ_ s2=>
     wpAny (model prog w) A (forIn ifs true λc r=>if r=true then do let ok <- isTrue c env (eval c env);pure (ForInStep.yield ok) else pure (ForInStep.yield r)) (λok s3=>
      if ok=true then wpAny (model prog w) A (eval elt env) (λx s4=>
       wpAny (model prog w) A (call (.builtin "list.append") [acc,x]) (λ_ s5=>∃m,m<n/\I m s5) (λ_ _=>False) s4) (λ_ _=>False) s3
      else ∃m,m<n/\I m s3) (λ_ _=>False) s2) (λ_ _=>False) s1') (λ_ _=>False) s1) (λ_ _=>False) s)(n:Nat)(h:I n s) :
  codeAny (model prog w) A (.compLoop (.ListComp elt [⟨qZ,iter,ifs,0⟩] scope pos) 0 it acc env) R s:=by
 have ff:∀{E:Value->Shared->Prop},∀(x:Value)(s:Shared),(λ(_:Value) (_:Shared)=>False) x s->E x s:=λ_ _ z=>False.elim z;refine codeAny_loop rfl I (λn s hI=>?_) n h;show wpAny _ A ((compTurn (.ListComp elt [⟨qZ,iter,ifs,0⟩] scope pos) 0 it acc env).onRaise (λx=>do noteFrame x env;theTreesLotGoes x)) _ _ s;refine wpAny_noted ?_;rw [compTurn_list];refine wpAny_bind (wpAny_standAt (wpAny_bind (wpAny_mono (turn n s hI) (λr s1 h1=>?_) ff)));cases r with
 | none=>exact wpAny_pure h1
 | some v=>
  refine wpAny_bind (wpAny_mono h1 (λ_ s1' h1'=>?_) ff);refine wpAny_bind (wpAny_mono h1' (λ_ s2 h2=>wpAny_bind (wpAny_mono h2 (λok s3 h3=>?_) ff)) ff);cases ok with
  | false=>exact wpAny_pure ⟨rfl,h3⟩
  | true=>
   exact wpAny_bind (wpAny_bind (wpAny_mono h3 (λx s4 h4=>wpAny_bind (wpAny_mono h4 (λ_ s5 h5=>wpAny_pure (wpAny_pure ⟨rfl,h5⟩)) ff)) ff))
end
def Cx.comp (X:Cx)(scope:Scope)(cl:List (Str×Addr))(N:List Str)(C:Addr)(s:Shared)(H:Hp)(fp:List Addr):Cx:=
 { X with N:=N,s₀:=s,H₀:=H,env:=compEnvC scope cl C X.env,outer:=X.stack,ex:=fp,fn:=λ_=>false,pn:=[],xe:=λ_ _=>False }
def ZcH (X:Cx)(ifs:List Expr)(t:TT):Prop:=
 ∀(qQ:List (Addr×Obj))(s:Shared)(σ:St)(H:Hp)(Q:Bool->Hp->Prop),Inv X qQ σ H s->t σ H Q ->
  wpAny (model X.prog X.w) X.A (forIn ifs true λc r=>if r=true then do let ok <- isTrue c X.env (eval c X.env);pure (ForInStep.yield ok) else pure (ForInStep.yield r)) (TP X qQ σ Q) X.xe s
def UR:TT:=λ_ H Q=>Q true H
theorem Ja {X:Cx}:ZcH X [] UR:=λ_ _ _ H _ I h=>wpAny_tests_nil ⟨H,I,h⟩
theorem J7 {X:Cx}{c:Expr}{t:TT}(h:PT X c t):ZcH X [c] t:=λqQ s σ H Q I hw=>wpAny_tests_one (h qQ s σ H Q I hw)
structure J3 (X:Cx)(scope:Scope)(cl:List (Str×Addr))(own:List Str)(fr:List (Str×Nat)):Prop where
 clos:closureFor scope X.env=pure cl
 nocell:∀y∈scope.names,y.2≠.cell
 kind:scope.kind=.function
 names:∀y∈scope.names,y.2=.local->scope.names.lookup y.1=some .local
 cls:∀y c,cl.lookup y=some c->X.env.cells.lookup y=some c
 has:∀y,((relabel scope X.env).names.lookup y=some .cell\/(relabel scope X.env).names.lookup y=some .free)->∃c,cl.lookup y=some c
 free:∀p∈fr,X.N[p.2]?=some p.1/\(X.env.kindOf p.1=some .cell\/X.env.kindOf p.1=some .free)/\((relabel scope X.env).names.lookup p.1=some .cell\/(relabel scope X.env).names.lookup p.1=some .free)
def Oy (own:List Str)(fr:List (Str×Nat))(σ:St):St:=own.map (λ_=>none)++fr.map λp=>(σ[p.2]?).join
def OJ:St->St->Prop
 | [],[]=>True
 | none::r,_::r'=>OJ r r'
 | some v::r,some v'::r'=>v=v'/\OJ r r'
 | _,_=>False
theorem Os:∀{a b:St},OJ a b->∀(i:Nat)(v:V),a[i]?=some (some v)->b[i]?=some (some v)
 | [],[],_,i,v,h=>by simp at h
 | [],_::_,z,_,_,_=>z.elim
 | none::r,[],z,_,_,_=>z.elim
 | some _::r,[],z,_,_,_=>z.elim
 | some _::r,none::_,z,_,_,_=>z.elim
 | none::r,_::r',z,0,v,h=>by simp at h
 | none::r,_::r',z,i+1,v,h=>by
  have:=Os (a:=r) (b:=r') z i v (by simpa using h);simpa using this
 | some x::r,some x'::r',z,0,v,h=>by
  obtain ⟨e,_⟩:=z;subst e;simpa using h
 | some x::r,some x'::r',z,i+1,v,h=>by
  have:=Os (a:=r) (b:=r') z.2 i v (by simpa using h);simpa using this
def JO (J:It)(D:Addr)(g:TG)(tc:TT)(te:TE)(σ0:St)(W:Nat->Nat->List V->Hp->Prop)(R:Hp->Prop):Prop:=
 ∀i m ys H2,W i m ys H2->(J.stop i H2/\R H2)\/(J.go i H2/\∃N:List V->Hp->Prop,(∀ys' H',N ys' H'->∃m',m'<m/\W (i+1) m' ys' H')/\∀x H3,J.yld i H2 x H3->g x σ0 H3 λσ4 H4=>OJ σ0 σ4/\tc σ4 H4 λb H5=>
  if b=true then te σ4 H5 λy H6=>H6 D=some (.lst ys)/\ys.length<sizeLine/\N (ys++[y]) (upd H6 D (.lst (ys++[y])))
  else N ys H5)
def ZcI (wi:TI)(g:TG)(tc:TT)(te:TE)(own:List Str)(fr:List (Str×Nat)):TE:=λσ H Q=>wi σ H λJ H1=>∀D,H1 D=none ->
 ∃W:Nat->Nat->List V->Hp->Prop,(∃m,W 0 m [] (upd H1 D (.lst [])))/\JO J D g tc te (Oy own fr σ) W λH2=>Q (.ref D) H2
section
variable {X:Cx}{qZ iter elt:Expr}{ifs:List Expr}{scope:Scope}{cl:List (Str×Addr)}{own:List Str}{fr:List (Str×Nat)}{pos:Pos}{wi:TI}{g:TG}{tc:TT}{te:TE}
theorem Inv.sub_pins {qQ pins':List (Addr×Obj)}{σ:St}{H:Hp}{s:Shared}(I:Inv X qQ σ H s)(h:∀p∈pins',p∈qQ):Inv X pins' σ H s:=I.pins_of λp hp=>I.pin p (List.mem_append_right _ (h p hp))
theorem Za8 {qQ:List (Addr×Obj)}{σ:St}{H:Hp}{s:Shared}{C:Addr}{fp:List Addr}(S:J3 X scope cl own fr)(I:Inv X qQ σ H s)(hf:∀b∈fp,Y6 X qQ H b)(hC:s.heap.objs.size<=C)(hfl:∀b∈fp,b<s.heap.objs.size) :
  (X.comp scope cl (own++fr.map (·.1)) C s H fp).Ok:=by
 refine ⟨I.ok.mod,?_,I.ok.glob,I.ok.blt,hC,λx y c h1 h2=>I.ok.inj x y c (S.cls x c h1) (S.cls y c h2),S.has,λx c z=>absurd z (by simp [Cx.comp]),I.ok.hd,I.ok.frames,.inl rfl,
  λb hb=>⟨Nat.ne_of_lt (Nat.lt_of_lt_of_le (hfl b hb) hC),λx c h=>(hf b hb).2.2.2.2.1 x c (S.cls x c h)⟩,I.bs,Nat.le_trans I.ok.bsz I.sz,λb o e hb=>?_,λb hb z=>?_,I.stack,I.stkFree⟩
 ·show (relabel scope X.env).kind=.function;exact S.kind
 ·rcases (hf b hb).2.2.2.1 with z | z
  ·exact I.ok.noex b o e z
  ·exact absurd (Nat.lt_of_lt_of_le (Heap.lt_size e) (Nat.le_trans I.ok.bsz z)) (Nat.lt_irrefl _)
 ·rcases List.mem_cons.mp (I.stkSub b z) with q | q
  ·exact (hf b hb).2.1 q
  ·exact (hf b hb).2.2.1 q
theorem US (own:List Str)(fr:List (Str×Nat))(σ:St):(Oy own fr σ).length=(own++fr.map (·.1)).length:=by
 unfold Oy;simp
theorem UT {qQ:List (Addr×Obj)}{σ:St}{H:Hp}{s:Shared}{it:Addr}{fp:List Addr}{tn:Nat->Heap->Prop}{J:It}{E:Value->Shared->Prop}{RR:Value->Addr->Result->Shared->Prop}{Rf:Addr->Hp->Prop}(hc:X.calm=true)(S:J3 X scope cl own fr)(I:Inv X qQ σ H s)(T:Zg X.prog X.w X.K qZ J fp it tn)(st:tn 0 s.heap)(hf:∀b∈fp,Y6 X qQ H b)(hg:∀C s H fp,PG (X.comp scope cl (own++fr.map (·.1)) C s H fp) qZ g)(ht:∀C s H fp,ZcH (X.comp scope cl (own++fr.map (·.1)) C s H fp) ifs tc)(he:∀C s H fp,PE (X.comp scope cl (own++fr.map (·.1)) C s H fp) elt te)(hw:∀D,H D=none->∃W:Nat->Nat->List V->Hp->Prop,(∃m,W 0 m [] (upd H D (.lst [])))/\JO J D g tc te (Oy own fr σ) W (Rf D))(hRR:∀D C s' H',s.heap.objs.size<=C->C≠D->(∃m,s'.heap.Ns C m)->H' C=none->Un (frs X.stack) fp H H' s.heap s'.heap->HOk X.prog X.w H' s'.heap->AllBare s'.gens->s'.os=s.os->Rf D H'->RR (.ref D) C (.ok .next) s') :
  wpAny (model X.prog X.w) X.A (newList []) (λacc s3=>wpAny (model X.prog X.w) X.A (newFunctionEnv scope X.env.globals cl [] X.env.qual none .none (some X.env)) (λcenv s4=>
   codeAny (model X.prog X.w) X.A (.compStart (.ListComp elt [⟨qZ,iter,ifs,0⟩] scope pos) 0 (.ref it) acc { cenv with scope:=relabel scope X.env }) (RR acc cenv.locals) s4) E s3) E s:=by
 have hfl:∀b∈fp,b<s.heap.objs.size:=λb hb=>by
  obtain ⟨o,e,_⟩:=T.obj 0 s.heap st b hb;exact Heap.lt_size e
 have hD:H s.heap.objs.size=none:=I.fresh;obtain ⟨W,⟨m0,w0⟩,turns⟩:=hw s.heap.objs.size hD;have I1:Inv X qQ σ (upd H s.heap.objs.size (.lst [])) { s with heap:=s.heap.push { cls:=.type "list", data:=.seq ([]:List Value).toArray },toks:=s.toks }:=I.lnew .nil (Nat.zero_le _);refine wpAny_newObj_type (wpAny_newFunctionEnv S.nocell (by intro y hy;simp at hy) (λh1 hns1 hsb1=>?_) S.kind);dsimp only at hns1 hsb1 ⊢;generalize hH2:s.heap.push { cls:=.type "list", dict:=none,data:=.seq ([]:List Value).toArray }=H2 at hns1 hsb1 ⊢ I1;have hCs:H2.objs.size=s.heap.objs.size+1:=by rw [<-hH2,Heap.size_push]
 have hCle:s.heap.objs.size<=H2.objs.size:=by lia
 have hDC:s.heap.objs.size≠H2.objs.size:=by lia
 have up1:∀b o,H2.get? b=some o->h1.get? b=some o:=λb o e=>hsb1.extBut b o (Nat.ne_of_lt (Heap.lt_size e)) (Heap.get?_push_of_some _ e);have up:∀b o,s.heap.get? b=some o->h1.get? b=some o:=λb o e=>up1 b o (hH2▸Heap.get?_push_of_some _ e);have okY:=Za8 (C:=H2.objs.size) S I hf hCle hfl;have I0:∀tk,Inv (X.comp scope cl (own++fr.map (·.1)) H2.objs.size s H fp) [] (Oy own fr σ) (upd H s.heap.objs.size (.lst [])) { s with heap:=h1,toks:=tk }:=by
  intro tk;have hok1:HOk X.prog X.w (upd H s.heap.objs.size (.lst [])) h1:=I1.hok.kept up1;refine ⟨okY,rfl,I.bare,⟨λb o e n _ _=>up b o e,λb o e n _ _=>⟨o.slots,up b o e⟩,λb o e n _=>?_,λb o e _=>⟨o,up b o e⟩,λb xs q=>?_,λb o u q=>?_,λb ps q=>⟨#[],?_⟩⟩,
   ⟨_,hns1,λi x v e1 e2 e3=>?_⟩,λx c e=>?_,?_,λx c e=>?_,λp hp=>?_,hok1,US own fr σ⟩
  ·have e':s.heap.get? b=some o:=e;show upd H s.heap.objs.size (.lst []) b=none;rw [Gu (Nat.ne_of_lt (Heap.lt_size e'))];exact n
  ·rw [Gu (Gn q hD)];exact q
  ·rw [Gu (Gn q hD)];exact q
  ·have q':H b=some (.tbl ps):=q;rw [Gu (Gn q' hD),q'];simp
  ·-- the free names
   have e2':(Oy own fr σ)[i]?=some (some v):=e2;have e1':(own++fr.map (·.1))[i]?=some x:=e1;unfold Oy at e2';by_cases hi:i<own.length
   ·rw [List.getElem?_append_left (by simpa using hi),List.getElem?_map] at e2';cases q:own[i]? with
    | none=>rw [q] at e2';cases e2'
    | some y=>rw [q] at e2';cases e2'
   ·rw [List.getElem?_append_right (by simpa using hi),List.length_map,List.getElem?_map] at e2';rw [List.getElem?_append_right (by lia),List.getElem?_map] at e1';cases q:fr[i-own.length]? with
    | none=>rw [q] at e2';cases e2'
    | some p=>
     rw [q] at e1' e2';have ex:p.1=x:=Option.some.inj e1';have ev:(σ[p.2]?).join=some v:=Option.some.inj e2';have ev':σ[p.2]?=some (some v):=by
      cases z:σ[p.2]? with
      | none=>rw [z] at ev;cases ev
      | some o=>rw [z] at ev;cases o with
       | none=>cases ev
       | some v'=>have:v'=v:=Option.some.inj ev;rw [this]
     obtain ⟨f1,f2,f3⟩:=S.free p (List.mem_of_getElem? q);subst ex;obtain ⟨m,hn,hl⟩:=I.loc;have vis:Vis X.env.scope p.1:=by
      rcases f2 with f2 | f2
      ·exact .inr (.inl f2)
      ·exact .inr (.inr f2)
     obtain ⟨u,ru,lk⟩:=hl p.2 p.1 v f1 ev' vis;refine ⟨u,ru,?_⟩;rcases lk with ⟨k,_⟩ | ⟨k,c,e,z⟩
     ·rcases f2 with f2 | f2 <;> (rw [f2] at k;cases k)
     ·obtain ⟨c',hc'⟩:=S.has p.1 f3;have e':=S.cls _ _ hc';rw [e] at e';cases e';obtain ⟨oc,ho,hd⟩:=z;exact .inr ⟨f3,c,hc',⟨oc,up _ _ ho,hd⟩⟩
  ·obtain ⟨v,oc,ho,hd⟩:=I.cell x c (S.cls x c e);exact ⟨v,oc,up _ _ ho,hd⟩
  ·show upd H s.heap.objs.size (.lst []) H2.objs.size=none;rw [Gu (Ne.symm hDC)];exact I.hok.fresh hCle
  ·obtain ⟨v,z⟩:=I.cell x c (S.cls x c e);show upd H s.heap.objs.size (.lst []) c=none;rw [Gu (Nat.ne_of_lt z.lt)];exact I.freeC x c (S.cls x c e)
  ·exact absurd (show p∈([]:List (Addr×Obj)) from hp) (by simp)
 have fpf:∀b∈fp,upd H s.heap.objs.size (.lst []) b=none:=λb hb=>by rw [Gu (Nat.ne_of_lt (hfl b hb))];exact (hf b hb).1
 have st1:tn 0 h1:=T.keep 0 _ _ st λb hb o e=>up b o e;have stat:∀{H':Hp},(∀b∈fp,H' b=none)->∀b∈fp,Y6 (X.comp scope cl (own++fr.map (·.1)) H2.objs.size s H fp) [] H' b:=λhn b hb=>
  ⟨hn b hb,(okY.exf b hb).1,okY.exfs b hb,.inl hb,(okY.exf b hb).2,λp hp=>absurd (show p∈([]:List (Addr×Obj)) from hp) (by simp)⟩
 have loop:∀s3:Shared,(∃tk,s3={ s with heap:=h1,toks:=tk }) ->
   codeAny (model X.prog X.w) X.A (.compLoop (.ListComp elt [⟨qZ,iter,ifs,0⟩] scope pos) 0 (.ref it) (.ref s.heap.objs.size) (compEnvC scope cl H2.objs.size X.env)) (RR (.ref s.heap.objs.size) H2.objs.size) s3:=by
  rintro s3 ⟨tk,rfl⟩;refine VC (λn s'=>∃i ys H',Inv (X.comp scope cl (own++fr.map (·.1)) H2.objs.size s H fp) [] (Oy own fr σ) H' s'/\tn i s'.heap/\(∀b∈fp,H' b=none)/\W i n ys H') ?_ m0 ⟨0,[],_,I0 tk,st1,fpf,w0⟩;rintro n s4 ⟨i,ys,H4,I4,st4,fr4,w4⟩;rcases turns i n ys H4 w4 with ⟨stop,q⟩ | ⟨go,N,hN,step⟩
  ·refine thn (T.done (X.comp scope cl (own++fr.map (·.1)) H2.objs.size s H fp) rfl rfl rfl hc i [] s4 _ H4 _ I4 (stat fr4) st4 stop) λr s5 ⟨hr,I5⟩=>?_;subst hr;exact hRR _ _ s5 H4 hCle (Ne.symm hDC) ⟨_,I5.loc.choose_spec.1⟩ I5.free I5.base I5.hok I5.bare I5.os q
  ·refine thn (T.item (X.comp scope cl (own++fr.map (·.1)) H2.objs.size s H fp) rfl rfl rfl hc i [] s4 _ H4 _ I4 (stat fr4) st4 go) λr s5 ⟨u,hr,h5⟩=>?_;subst hr;refine thn h5 λ_ s6 ⟨x,H6,I6,r6,y6,st6,fr6⟩=>?_;have I6':=I6.pinned (stat fr6) (T.obj _ _ st6);refine thn (hg H2.objs.size s H fp _ s6 _ H6 x u _ I6' r6 (step x H6 y6)) λ_ s7 ⟨σ7,H7,I7,k7,q7⟩=>?_;refine thn (ht H2.objs.size s H fp _ s7 σ7 H7 _ I7 q7) λok s8 ⟨H8,I8,q8⟩=>?_;have again:∀{s9:Shared}{σ9:St}{H9:Hp}{zs:List V},Inv (X.comp scope cl (own++fr.map (·.1)) H2.objs.size s H fp) ([]++Vr fp s6.heap) σ9 H9 s9->(∀(i:Nat) v,(Oy own fr σ)[i]?=some (some v)->σ9[i]?=some (some v))->(∃m',m'<n/\W (i+1) m' zs H9) ->
     ∃m,m<n/\∃i ys H',Inv (X.comp scope cl (own++fr.map (·.1)) H2.objs.size s H fp) [] (Oy own fr σ) H' s9/\tn i s9.heap/\(∀b∈fp,H' b=none)/\W i m ys H':=by
    intro s9 σ9 H9 zs I9 hσ ⟨m',hm,w9⟩;refine ⟨m',hm,i+1,zs,H9,(I9.sub_pins (λp hp=>absurd (show p∈([]:List (Addr×Obj)) from hp) (by simp))).weak ?_ hσ,T.keep _ _ _ st6 λb hb o e=>(I9.pin (b,o) (List.mem_append_right _ (List.mem_append_right _ (Op hb e)))).1,λb hb=>?_,w9⟩
    ·rw [I9.len];exact US own fr σ
    ·obtain ⟨o,e,d⟩:=T.obj _ _ st6 b hb;exact (I9.pin (b,o) (List.mem_append_right _ (List.mem_append_right _ (Op hb e)))).2.1
   cases ok with
   | false=>exact (if_neg Bool.false_ne_true).mpr (again I8 (Os k7) (hN _ _ ((if_neg Bool.false_ne_true).mp q8)))
   | true=>
    refine (if_pos rfl).mpr ?_;have q8':=(if_pos rfl).mp q8;refine thn (he H2.objs.size s H fp _ s8 σ7 H8 _ I8 q8') λy s9 ⟨yv,H9,I9,r9,hD9,hz,q9⟩=>?_;refine thn (G9 _ s9 σ7 H9 (.ref s.heap.objs.size) [yv] (.ref s.heap.objs.size) [y] (λ_ H'=>H'=upd H9 s.heap.objs.size (.lst (ys++[yv]))) I9 rfl (.cons r9 .nil) ⟨_,ys,yv,rfl,rfl,hD9,hz,rfl⟩) λ_ s10 ⟨_,H10,I10,_,e10⟩=>?_;subst e10;exact again I10 (Os k7) (hN _ _ q9)
 exact codeAny_compStart_list (loop _ ⟨_,rfl⟩) (T.self _ 0 _ _ _ st1 (loop _ ⟨_,rfl⟩))
theorem UU {qQ:List (Addr×Obj)}{σ:St}{H H':Hp}{s s':Shared}{fp:List Addr}(I:Inv X qQ σ H s)(hf:∀b∈fp,Y6 X qQ H b)(un:Un (frs X.stack) fp H H' s.heap s'.heap)(hok:HOk X.prog X.w H' s'.heap)(bare:AllBare s'.gens)(os:s'.os=s.os):Inv X qQ σ H' s':=
 I.call' os un hok bare λb hb=>⟨(hf b hb).2.2.2.1,(hf b hb).2.1,(hf b hb).2.2.2.2.1,(hf b hb).2.2.2.2.2⟩
theorem Wt {qQ:List (Addr×Obj)}{σ σ':St}{H H':Hp}{s s':Shared}{C:Addr}{h':Heap}(I:Inv X qQ σ H s)(hC:s.heap.objs.size<=C)(hn:H' C=none)(I':Inv X qQ σ' H' s')(sb:Heap.SameBut C s'.heap h') :
  Inv X qQ σ' H' { s' with heap:=h' }:=by
 obtain ⟨f0,f1,f2,f3,f4,f5⟩:=I.fpOk hC hn;exact I'.turned (t':=s'.toks) (λb o hb e=>(sb.2 b hb).trans e) f0 f1 f3 f4 f5
theorem Jl (hc:X.calm=true)(S:J3 X scope cl own fr)(hi:PI X qZ iter wi)(hg:∀C s H fp,PG (X.comp scope cl (own++fr.map (·.1)) C s H fp) qZ g)(ht:∀C s H fp,ZcH (X.comp scope cl (own++fr.map (·.1)) C s H fp) ifs tc)(he:∀C s H fp,PE (X.comp scope cl (own++fr.map (·.1)) C s H fp) elt te)(hs:∀x,foldedSetIterable iter X.env x=pure x:=by intro _;rfl):PE X (.ListComp elt [⟨qZ,iter,ifs,0⟩] scope pos) (ZcI wi g tc te own fr):=by
 intro qQ s σ H Q I h;rw [eval_ListComp];refine wpAny_comprehension_free (use:=none) rfl hs S.clos S.kind S.names (thn (hi qQ s σ H _ I h) λv s1 h1=>thn h1 λitv s2 h2=>?_);obtain ⟨it,fp,tn,J,H2,e,I2,T,st2,f2,hw⟩:=h2;subst e;refine UT (RR:=λacc C=>compPost (model X.prog X.w) X.A X.xe none (EP X qQ σ Q) acc C) hc S I2 T st2 f2 hg ht he hw ?_;rintro D C s' H' hC hDC ⟨m,hn⟩ hCf un hok bare os q;refine ⟨m,hn,λh' hs'=>⟨.ref D,H',?_,rfl,q⟩⟩;exact Wt (C:=C) (σ:=σ) I2 hC hCf (UU I2 f2 un hok bare os) hs'
theorem Um {i:Nat}{y:Str}{py spos:Pos}(hN:X.N.Nodup)(hi':X.N[i]?=some y)(hx:Loc X.env.scope y)(hc:X.calm=true)(S:J3 X scope cl own fr)(hi:PI X qZ iter wi)(hg:∀C s H fp,PG (X.comp scope cl (own++fr.map (·.1)) C s H fp) qZ g)(ht:∀C s H fp,ZcH (X.comp scope cl (own++fr.map (·.1)) C s H fp) ifs tc)(he:∀C s H fp,PE (X.comp scope cl (own++fr.map (·.1)) C s H fp) elt te)(hf:X.fn y=true\/X.env.scope.names.lookup y=some .local:=by first | exact .inl rfl | exact .inr rfl | assumption)(hsw:swapsWith (.ListComp elt [⟨qZ,iter,ifs,0⟩] scope pos) (some (.Name y py)) spos.line X.env=pure true:=by rfl)(hs:∀x,foldedSetIterable iter X.env x=pure x:=by intro _;rfl):PS X (.Assign [.Name y py] (.ListComp elt [⟨qZ,iter,ifs,0⟩] scope pos) spos) (Zfi (ZcI wi g tc te own fr) (Jm i)):=by
 intro qQ s σ H Dn I h;rw [exec_Assign_Name_used _ _ _ _ hsw];refine wpAny_bind (wpAny_standAt (wpAny_bind ?_));show wpAny _ X.A (do let _ <- comprehension (.ListComp elt [⟨qZ,iter,ifs,0⟩] scope pos) scope X.env _ (newList []) false (eval iter X.env) (some (assign (.Name y py) X.env))) _ _ s;refine wpAny_bind (wpAny_mono (wpAny_comprehension_free (use:=some (assign (.Name y py) X.env)) (Q:=λ_ s'=>SP X qQ Dn .next s') rfl hs S.clos S.kind S.names (thn (hi qQ s σ H _ I h) λv s1 h1=>thn h1 λitv s2 h2=>?_))
  (λ_ s' hq=>wpAny_pure (wpAny_pure hq)) λ_ _ e=>e)
 obtain ⟨it,fp,tn,J,H2,e,I2,T,st2,f2,hw⟩:=h2;subst e;refine UT (RR:=λacc C=>compPost (model X.prog X.w) X.A X.xe (some (assign (.Name y py) X.env)) (λ_ s'=>SP X qQ Dn .next s') acc C) hc S I2 T st2 f2 hg ht he hw ?_;rintro D C s' H' hC hDC ⟨m,hn⟩ hCf un hok bare os q;have I3:Inv X qQ σ H' s':=UU I2 f2 un hok bare os;show wpAny _ X.A (assign (.Name y py) X.env (.ref D)) _ _ s';refine wpAny_assign_Name (Vo I3 hN hi' hx (v:=.ref D) rfl (λs4 I4 ⟨a,hsa,ha⟩=>?_) hf);have hCa:C≠a:=by
  rcases ha with z | z
  ·rw [z];exact Nat.ne_of_gt (Nat.lt_of_lt_of_le I2.lt hC)
  ·obtain ⟨v,q⟩:=I2.cell y a z;exact Nat.ne_of_gt (Nat.lt_of_lt_of_le q.lt hC)
 refine ⟨m,hn.sameBut hsa hCa,λh' hs'=>⟨_,H',Wt (C:=C) (σ:=σ) I2 hC hCf I4 hs',q⟩⟩
end
theorem JH {K:PySem.W.Frag}{a D:Addr}{xs:List V}{g:TG}{tc:TT}{te:TE}{σ0:St}{R:Hp->Prop}{H1:Hp}(Pv:Nat->List V->Hp->Prop)(h0:Pv 0 [] (upd H1 D (.lst [])))(hl:∀i ys H,i<=xs.length->Pv i ys H->SqL K H a xs)(hs:∀i x ys H,xs[i]?=some x->Pv i ys H->g x σ0 H λσ4 H4=>OJ σ0 σ4/\tc σ4 H4 λb H5=>if b=true then te σ4 H5 λy H6=>H6 D=some (.lst ys)/\ys.length<sizeLine/\Pv (i+1) (ys++[y]) (upd H6 D (.lst (ys++[y]))) else Pv (i+1) ys H5)(hd:∀ys H,Pv xs.length ys H->R H):∃W:Nat->Nat->List V->Hp->Prop,(∃m,W 0 m [] (upd H1 D (.lst [])))/\JO (Itl K a) D g tc te σ0 W R:=by
 refine ⟨λi m ys H=>m=xs.length-i/\i<=xs.length/\Pv i ys H,⟨_,rfl,Nat.zero_le _,h0⟩,?_⟩;rintro i m ys H ⟨rfl,hi,p⟩;have q:=hl i ys H hi p;by_cases hlt:i<xs.length
 ·refine .inr ⟨⟨xs,xs[i],q,by simp [hlt]⟩,Pv (i+1),λys' H' p'=>⟨xs.length-(i+1),by lia,rfl,hlt,p'⟩,λx H' y=>?_⟩;obtain ⟨e,y⟩:=y;subst e;exact hs i x ys _ (y xs q) p
 ·have e:i=xs.length:=by lia
  subst e;exact .inl ⟨⟨xs,q,Nat.le_refl _⟩,hd ys H p⟩
theorem Jw {lo:Int}{n:Nat}{D:Addr}{g:TG}{tc:TT}{te:TE}{σ0:St}{R:Hp->Prop}{H1:Hp}(Pv:Nat->List V->Hp->Prop)(h0:Pv 0 [] (upd H1 D (.lst [])))(hs:∀i ys H,i<n->Pv i ys H->g (.int (lo+i)) σ0 H λσ4 H4=>OJ σ0 σ4/\tc σ4 H4 λb H5=>if b=true then te σ4 H5 λy H6=>H6 D=some (.lst ys)/\ys.length<sizeLine/\Pv (i+1) (ys++[y]) (upd H6 D (.lst (ys++[y]))) else Pv (i+1) ys H5)(hd:∀ys H,Pv n ys H->R H):∃W:Nat->Nat->List V->Hp->Prop,(∃m,W 0 m [] (upd H1 D (.lst [])))/\JO (Itr lo n) D g tc te σ0 W R:=by
 refine ⟨λi m ys H=>m=n-i/\i<=n/\Pv i ys H,⟨_,rfl,Nat.zero_le _,h0⟩,?_⟩;rintro i m ys H ⟨rfl,hi,p⟩;by_cases hlt:i<n
 ·refine .inr ⟨hlt,Pv (i+1),λys' H' p'=>⟨n-(i+1),by lia,rfl,hlt,p'⟩,λx H' y=>?_⟩;obtain ⟨e,y⟩:=y;subst e y;exact hs i ys _ hlt p
 ·have e:i=n:=by lia
  subst e;exact .inl ⟨Nat.le_refl _,hd ys H p⟩
theorem Jz {X:Cx}{scope:Scope}{own:List Str}(hf:∀y∈scope.names,y.2≠.free)(hc:∀y∈scope.names,y.2≠.cell)(hk:scope.kind=.function)(hn:∀y∈scope.names,y.2=.local->scope.names.lookup y.1=some .local):J3 X scope [] own []:=by
 have rel:(relabel scope X.env).names=scope.names:=by
  unfold relabel;dsimp only;refine (List.map_congr_left λp hp=>?_).trans (List.map_id _);obtain ⟨n,k⟩:=p;have:(k == NameKind.free)=false:=by
   have:=hf _ hp;cases k <;> first | rfl | exact absurd rfl this
  simp [this]
 refine ⟨closureFor_none hf,hc,hk,hn,λy c h=>by simp at h,λy h=>?_,λp hp=>by simp at hp⟩;rw [rel] at h;rcases h with h | h
 ·exact absurd rfl (hc _ (PySem.mem_of_lookup h))
 ·exact absurd rfl (hf _ (PySem.mem_of_lookup h))
end L2
namespace L2
open PySem PySem.Spec PyProof.Rows
def Zm (a C:Addr)(h:Heap):Prop:=∃ob vs,h.get? a=some ob/\ob.cls=.ref C/\ob.data=.fields vs
def Zfr (a C:Addr):HO:=.ext (Zm a C)
theorem ObjOk.there {P:Program}{w:World}{H:Hp}{h:Heap}{a:Addr}{u:HO}(ok:ObjOk P w H h a u):∃v,h.get? a=some v:=by
 cases u with
 | lst xs=>obtain ⟨_,_,_,_,e⟩:=ok;exact ⟨_,e⟩
 | tup xs=>obtain ⟨_,_,_,o,e,_⟩:=ok;exact ⟨_,e⟩
 | dK kvs=>obtain ⟨_,_,_,_,o,_,_,e,_⟩:=ok;exact ⟨_,e⟩
 | dT kvs=>obtain ⟨_,_,_,_,o,_,_,e,_⟩:=ok;exact ⟨_,e⟩
 | set S n=>obtain ⟨o,_,_,_,e,_⟩:=ok;exact ⟨_,e⟩
 | ins C dx fs=>obtain ⟨_,_,_,e,_⟩:=ok;exact ⟨_,e⟩
 | own y=>obtain ⟨_,e⟩:=ok;exact ⟨_,e⟩
 | xd fs=>obtain ⟨_,⟨_,_,_,e,_⟩,_⟩:=ok;exact ⟨_,e⟩
 | rng lo hi=>obtain ⟨_,_,_,e⟩:=ok;exact ⟨_,e⟩
 | frz ob u=>obtain ⟨e,_⟩:=ok;exact ⟨_,e⟩
 | tbl ps=>exact ⟨_,show h.get? a=some _ from ok⟩
 | met f y=>exact ⟨_,show h.get? a=some _ from ok⟩
 | ext φ=>obtain ⟨_,⟨_,e⟩,_⟩:=ok;exact ⟨_,e⟩
def Zez (P:Program)(w:World)(outer:List Env)(H H':Hp)(s:Shared)(a C:Addr)(s':Shared):Prop:=
 ∃(t:Addr)(B:Heap),s'.os=s.os/\AllBare s'.gens/\Un (frs outer) [] H H' s.heap s'.heap/\HOk P w H' s'.heap/\Heap.FlyingW B outer a (.ref C) (.ref t) s'.heap /\
  (∀b o,s'.heap.get? b=some o->H' b≠none->B.get? b=some o)/\(∀b o0 o,s.heap.get? b=some o0->s'.heap.get? b=some o->b ∉ frs outer->B.get? b=some o)
def CXr (P:Program)(w:World):CXT:=λouter H s E e s'=>∃(a C:Addr)(H':Hp),e=.ref a/\Zez P w outer H H' s a C s'/\E (.ref C) none H'
section
variable {X:Cx}{qQ:List (Addr×Obj)}{σ:St}{H:Hp}{s:Shared}
def Wu (X:Cx)(E:XK):Prop:=∀(qQ:List (Addr×Obj))(σ:St)(H:Hp)(s:Shared)(h':Heap)(a C:Addr)(vs:List Value),Inv X qQ σ H s->Heap.MadeExcOf s.heap h' a (.ref C) vs->E (.ref C) none H->X.xe (.ref a) { s with heap:=h' }
theorem JU {P:Program}{w:World}{K:W.Frag}{mg:Str->Option Value}{base:Heap}{N:List Str}{qual:Str}{scope:Scope}{f:Addr}{cd:Value}{A:Around}{outer:List Env}{s:Shared}{H:Hp}{E:XK} :
  Wu (XC (CXr P w) P w K mg base N qual scope f cd A outer s H E) E:=by
 intro qQ σ H1 s1 h' a C vs I hx hE;have hfr:=I.ok.frames;have hst:s1.heap.FunFrames base (envOfC qual scope s.heap.objs.size f cd::outer):=I.stack;have hin:∀env∈(envOfC qual scope s.heap.objs.size f cd::outer),∀b,env.frame=some b->b∈frs (envOfC qual scope s.heap.objs.size f cd::outer):=λenv he b hb=>List.mem_filterMap.mpr ⟨env,he,hb⟩;have inB:∀b o,s1.heap.get? b=some o->b ∉ frs (envOfC qual scope s.heap.objs.size f cd::outer)->(W.hideAll s1.heap (frs (envOfC qual scope s.heap.objs.size f cd::outer))).get? b=some o:=λb o e n=>W.hideAll_get _ e n;refine wpAny_leaves_madeW (base:=W.hideAll s1.heap (frs (envOfC qual scope s.heap.objs.size f cd::outer))) hfr rfl (λb o q=>W.of_hideAll _ q) (W.funFrames_hide hst hin) hx λh2 t fl tu tn sm=>?_;refine ⟨a,C,H1,rfl,⟨t,_,I.os,I.bare,⟨λb o e n hb _=>?_,λb o e n hb _=>?_,λb o e n _=>?_,λb o e _=>?_,I.base.tups,I.base.frzs,I.base.tbls⟩,λb u e=>?_,fl,λb o e n=>?_,λb o0 o e0 e nb=>?_⟩,hE⟩
 ·have e1:s1.heap.get? b=some o:=I.base.keep b o e n hb (by intro z;exact absurd (show b∈([]:List Addr) from z) (by simp));refine fl.1 b o (inB b o e1 λz=>?_);rcases List.mem_cons.mp (I.stkSub b z) with q | q
  ·exact absurd (Nat.lt_of_lt_of_le (Heap.lt_size e) I.ok.above) (by rw [q];exact Nat.lt_irrefl _)
  ·exact hb q
 ·obtain ⟨sl,e1⟩:=I.base.slot b o e n hb (by intro z;exact absurd (show b∈([]:List Addr) from z) (by simp));have nf:∀vs,o.data≠.fields vs:=by
   obtain ⟨_,o',ho',hnf⟩:=I.funs.mem (show b∈(outer.filterMap (·.frame)) from hb);rw [e1] at ho';cases ho';exact hnf
  obtain ⟨sl',e2⟩:=sm b { o with slots:=sl } (hx.keeps b _ e1) nf;exact ⟨sl',e2⟩
 ·exact I.base.free b o e n (by intro z;exact absurd (show b∈([]:List Addr) from z) (by simp))
 ·obtain ⟨o1,e1⟩:=I.base.there b o e (by intro z;exact absurd (show b∈([]:List Addr) from z) (by simp));by_cases hb:b∈frs (envOfC qual scope s.heap.objs.size f cd::outer)
  ·obtain ⟨_,o',ho',hnf⟩:=hst.mem hb;rw [e1] at ho';cases ho';obtain ⟨sl',e2⟩:=sm b o1 (hx.keeps b _ e1) hnf;exact ⟨_,e2⟩
  ·exact ⟨o1,fl.1 b o1 (inB b o1 e1 hb)⟩
 ·have trk:∀c v,s1.heap.get? c=some v->H1 c≠none->h2.get? c=some v:=λc v q hc=>fl.1 c v (inB c v q λz=>hc (I.stkFree c z));refine (I.hok b u e).stay (λc v hc q=>trk c v q ?_) (λ_ q=>q) λ_ _ q=>q;rcases hc with z | z
  ·rw [z,e];simp
  ·rw [z];simp
 ·cases q':H1 b with
  | none=>exact absurd q' n
  | some u=>
   obtain ⟨v,q⟩:=(I.hok b u q').there;have nb:b ∉ frs (envOfC qual scope s.heap.objs.size f cd::outer):=λz=>n (I.stkFree b z);have e2:=fl.1 b v (inB b v q nb);rw [e] at e2;cases e2;exact inB b _ q nb
 ·obtain ⟨o1,e1⟩:=I.base.there b o0 e0 (by intro z;exact absurd (show b∈([]:List Addr) from z) (by simp));have nb':b ∉ frs (envOfC qual scope s.heap.objs.size f cd::outer):=λz=>by
   rcases List.mem_cons.mp (I.stkSub b z) with q | q
   ·exact absurd (Nat.lt_of_lt_of_le (Heap.lt_size e0) I.ok.above) (by rw [q];exact Nat.lt_irrefl _)
   ·exact nb q
  have e2:=fl.1 b o1 (inB b o1 e1 nb');have e':h2.get? b=some o:=e;rw [e'] at e2;cases e2;exact inB b _ e1 nb'
theorem Zn {P:Program}{w:World}{outer:List Env}{H H':Hp}{s s':Shared}{a C t:Addr}{B h2:Heap}(un:Un (frs outer) [] H H' s.heap s'.heap)(hok:HOk P w H' s'.heap)(fr:s'.heap.FunFrames B outer)(trk:∀b o,s'.heap.get? b=some o->H' b≠none->B.get? b=some o)(old:∀b o0 o,s.heap.get? b=some o0->s'.heap.get? b=some o->b ∉ frs outer->B.get? b=some o)(st:B.StaysIn h2)(sm:s'.heap.UpToSlots h2) :
  Un (frs outer) [] H H' s.heap h2/\HOk P w H' h2:=by
 refine ⟨⟨λb o e n hb hx=>st b o (old b o o e (un.keep b o e n hb hx) hb),λb o e n hb hx=>?_,un.free,λb o e hx=>?_,un.tups,un.frzs,un.tbls⟩,λb u e=>?_⟩
 ·obtain ⟨sl,e1⟩:=un.slot b o e n hb hx;obtain ⟨_,o',ho',hnf⟩:=fr.mem hb;rw [e1] at ho';cases ho';obtain ⟨sl',e2⟩:=sm b _ e1 hnf;exact ⟨sl',e2⟩
 ·obtain ⟨o1,e1⟩:=un.there b o e hx;by_cases hb:b∈frs outer
  ·obtain ⟨_,o',ho',hnf⟩:=fr.mem hb;rw [e1] at ho';cases ho';obtain ⟨sl',e2⟩:=sm b _ e1 hnf;exact ⟨_,e2⟩
  ·exact ⟨o1,st b o1 (old b o o1 e e1 hb)⟩
 ·refine (hok b u e).stay (λc v hc q=>st c v (trk c v q ?_)) (λ_ q=>q) λ_ _ q=>q;rcases hc with z | z
  ·rw [z,e];simp
  ·rw [z];simp
end
end L2
namespace L2
open PySem PySem.Spec PyProof.Rows
abbrev Zfs:List Value:=[.type "ValueError", .type "Exception", .type "BaseException", .type "object"]
abbrev ExcC (K:W.Frag)(C:Addr):Prop:=W.excIn K C Zfs "ValueError.__new__" = true
theorem V1 {K:W.Frag}{h:Heap}{C:Addr}(KX:K.In h)(ex:ExcC K C):∃mro' ns' mN',(∃nm' qn' bs' hd' sn' sub' ab' col' dd' j0 j1 j2 j3 j5,
  h.get? C=some (excClassObj nm' qn' C ns' bs' mro' hd' sn' sub' ab' col' dd' j0 j1 j2 j3 j5 "ValueError.__new__"))/\h.Ns ns' mN'/\mN' "__init__" = none/\OwnTail h Zfs mro':=by
 have ex':=ex;unfold ExcC W.excIn at ex';split at ex'
 ·rename_i dd' cd' sl' lk;have lk':=KX _ _ lk;split at ex'
  ·rename_i C' rest' j0 j1 j2 j3 n' j5 hm hs;rw [Bool.and_eq_true,Bool.and_eq_true,Bool.and_eq_true,Bool.and_eq_true,Bool.and_eq_true,beq_iff_eq,beq_iff_eq,beq_iff_eq] at ex';obtain ⟨⟨⟨⟨⟨z1,z2⟩,z3⟩,z4⟩,z5⟩,z6⟩:=ex';have z3':cd'.hasDel=false:=by simpa using z3
   subst z1 z2;cases cd' with
   | mk a1 a2 a3 a4 a5 a6 a7 a8 a9 a10 a11=>
    have hm':a3=.ref C'::rest':=hm;have h11:a11=false:=z3';subst hm' h11;have es:sl'=#[j0,j1,j2,j3,some (.builtin "ValueError.__new__"),j5]:=by
     cases sl' with
     | mk l=>exact congrArg Array.mk hs
    subst es;exact ⟨rest',a4,_,⟨_,_,_,_,_,_,_,_,_,_,_,_,_,_,lk'⟩,.of_isNs (W.isNs_of_in KX z5),W.nsMap_none_of_in KX z5 z6,W.tail_of_in KX z4⟩
  ·cases ex'
 ·cases ex'
section
variable {X:Cx}
def ZcJ (C:Addr)(E:XK)(t:TA):TS:=λ_ σ H=>t σ H λvs H1=>vs.length<=sizeLine/\E (.ref C) none H1
theorem Ua {C:Addr}{E:XK}{x:Str}{np qV pos:Pos}{e:Expr}{es:List Expr}{t:TA}(hc:X.calm=true)(hR:Wu X E)(hg:Gl X x)(hm:X.mg x=some (.ref C))(ex:ExcC X.K C)(ha:PA X (e::es) t)(hdb:(x == ("__debug__" : Str))=false:=by decide)(he:starEach (e::es) X.env=(false,eval e X.env)::starEach es X.env:=by rfl)(hpl:(backTo qV (starEach es X.env)).any (·.1)=false:=by rfl) :
  PS X (.Raise (some (.Call (.Name x np) (e::es) [] qV)) none pos) (ZcJ C E t):=by
 intro qQ s σ H D I h;obtain ⟨mro',ns',mN',⟨nm',qn',bs',hd',sn',sub',ab',col',dd',j0,j1,j2,j3,j5,hC⟩,hN,hni,T⟩:=V1 I.mod.kin ex;refine wpAny_Raise_call_subT (C:=C) (nm:=nm') (q:=qn') (N:=ns') (bs:=bs') (bm:=mro') (hdct:=hd') (sn:=sn') (sub:=sub') (ab:=ab') (col:=col') (dd:=dd') (k0:=j0) (k1:=j1) (k2:=j2) (k3:=j3) (k5:=j5)
  PySem.F.excBase_ValueError (mN:=mN') (T.hasType PySem.F.excBase_ValueError.hasBase) (I.ok.hd hc) (by rw [he];show (false || (backTo qV (starEach es X.env)).any (·.1))=false;rw [hpl];rfl) hni (UZ I hg hm ⟨rfl,?_⟩ hdb)
 have hA:=ha qV qQ s σ H _ I h;rw [he] at hA ⊢;refine Calls.evalArgs_plain (thn hA λus s2 ⟨vs,H2,I2,r2,hl,q2⟩=>?_);exact ⟨rfl,by rw [<-r2.length];exact hl,I2.bk _ _ hC,hN.keeps I2.bk,T.keeps I2.bk,λh' a hm=>hR qQ σ H2 s2 h' a C us I2 hm q2⟩
variable {qQ:List (Addr×Obj)}{σ:St}{H:Hp}{s:Shared}
end
end L2
namespace L2
open PySem PySem.Spec PyProof.Rows
theorem Wv {M:Model}{h:Heap}{a C:Addr}(hx:Zm a C h):W.Looks M h (typeOf (.ref a)) (.ref C):=by
 obtain ⟨ob,vs,e,c,d⟩:=hx;exact c▸(W.Looks.ld e).andThen .now
end L2
namespace L2
open PySem PySem.Spec PyProof.Rows
theorem X1 {K:W.Frag}{prog:Program}{w:World}{A:Around}{E:Value->Shared->Prop}{Q:Option Value->Shared->Prop}{s:Shared}{a C:Addr}(KX:K.In s.heap)(hx:Zm a C s.heap)(hga:W.findIn K (.ref C) "__getattribute__" = some (some (.builtin "BaseException.__getattribute__")))(hnga:W.findIn K (.ref C) "__getattr__" = some none)(hcl:W.findIn K (.ref C) "__class__" = some (some (.builtin "object.__class__")))(hm:W.mroIn K C (.type "object")=some true)(hB:W.subIn K (.ref C) (.type "BaseException")=some true)(h:Q (some (.ref C)) { s with toks:=s.toks+1 }):wpAny (model prog w) A (getAttr? (.ref a) "__class__") Q E s:=by
 have L0:=Wv (M:=model prog w) hx;have L1:=W.looks_findIn (M:=model prog w) KX hga;have L2:=W.looks_findIn (M:=model prog w) KX hnga;have L3:=W.looks_findIn (M:=model prog w) KX hcl;have L4:=W.looks_subIn (M:=model prog w) KX hB;obtain ⟨h0,g,d,t,os⟩:=s;have f3:=PySem.F.attr_ValueError.ga.bind (.ref a);unfold getAttr? getAttrBy? getAttrBy;refine wpAny_bind (wpAny_mkText (wpAny_bind (wpAny_attempt (wpAny_holding (wpAny_bind (L0.at (wpAny_bind (L1.at ?_))))))));dsimp only;have hx2:(onTheHeap (Value.ref C) && Value.builtin "BaseException.__getattribute__" == Value.builtin "object.__getattribute__")=false:=by
  have z:(Value.builtin "BaseException.__getattribute__" == Value.builtin "object.__getattribute__")=false:=by decide +kernel
  rw [z,Bool.and_false]
 rw [hx2];simp only [Bool.false_eq_true,if_false];unfold getAttrByItsOwn
 repeat (any_goals (first | assumption | with_reducible refine L0.at ?_ | with_reducible refine L2.at ?_ | wp_step))
 have hsp:splitId "BaseException.__getattribute__" = some ("BaseException", "__getattribute__"):=by decide +kernel
 have hkd:builtinKind "BaseException.__getattribute__" = some .slot:=by decide +kernel
 have har:=PySem.F.args_bexc_ga (.ref a) (.str (Str.ofString "__class__") t);refine codeAny_call_builtin PySem.F.attr_ValueError.ga.plain PySem.F.entry_bexc_ga ?_;show wpAny _ _ (checkBuiltinCall "BaseException.__getattribute__" ⟨[.ref a,.str (Str.ofString "__class__") t],[]⟩) _ _ _;simp only [checkBuiltinCall,hkd,hsp];refine wpAny_bind ?_;unfold isInstance;have f5:=PySem.F.typeOf_object_class;have f6:=PySem.F.slot_gs_get.lookup;have f7:=PySem.F.slot_gs_set.lookup;have hT5:(⟨h0,g,d,t+1,os⟩:Shared).TypeIs (.builtin "object.__class__") "getset_descriptor" := PySem.F.typeOf_object_class;refine wpAny_bind (L0.at (L4.at ?_))
 repeat (any_goals (first | assumption | with_reducible refine L0.at ?_ | with_reducible refine L3.at ?_ | wp_step))
 have Lo:W.Looks (model prog w) h0 (isSubtype (.ref C) (.type (".".intercalate ("object.__class__".cutAt '.').dropLast))) true:=by
  rw [PySem.F.owner_object_class];exact W.looks_mroIn KX hm
 have hT6:(⟨h0,g,d,t+1,os⟩:Shared).TypeIs (.builtin "object.__class__") "getset_descriptor" := PySem.F.typeOf_object_class;refine codeAny_call_builtin PySem.F.slot_gs_get.plain PySem.F.entry_gs_get (PySem.F.slot_gs_get.check _ _ _ _ _ _ _ _ hT6 (PySem.F.args_gs_get _ _ _) ?_)
 repeat (any_goals (first | assumption | with_reducible refine L0.at ?_ | with_reducible refine Lo.at ?_ | wp_step))
 refine ⟨Code.quiet_builtin _ (by decide +kernel),codeAny_builtin PySem.F.entry_object_class ?_⟩
 repeat (any_goals (first | assumption | with_reducible refine L0.at ?_ | wp_step))
end L2
namespace L2
open PySem PySem.Spec PyProof.Rows
structure ZeA (K:W.Frag)(C:Addr):Prop where
 ex:ExcC K C
 ga:W.findIn K (.ref C) "__getattribute__" = some (some (.builtin "BaseException.__getattribute__"))
 nga:W.findIn K (.ref C) "__getattr__" = some none
 cl:W.findIn K (.ref C) "__class__" = some (some (.builtin "object.__class__"))
 ob:W.mroIn K C (.type "object")=some true
 be:W.subIn K (.ref C) (.type "BaseException")=some true
theorem Ww {K:W.Frag}{a C:Addr}(k:ZeA K C):W.KitX K (.ref a) (.ref C) (Zm a C) where
 ty:=λ_ _ _ p=>Wv p
 it:=λM h KX _=>by
  obtain ⟨_,_,_,⟨_,_,_,_,_,_,_,_,_,_,_,_,_,_,hC⟩,_⟩:=V1 KX k.ex;intro A Q E s kk q;unfold isType loadHead;exact wpAny_bind (wpAny_loadPart (kk _ _ hC) (wpAny_pure q))
 ne:=λh tp dd its n sl KX htp=>by
  obtain ⟨_,_,_,⟨_,_,_,_,_,_,_,_,_,_,_,_,_,_,hC⟩,_⟩:=V1 KX k.ex;refine Bool.eq_false_iff.mpr λq=>?_;have e:C=tp:=Value.ref.inj (beq_iff_eq.mp q);rw [<-e,hC] at htp;have z:=congrArg Obj.data (Option.some.inj htp);unfold excClassObj at z;cases z
 ca:=λKX p q=>X1 KX p k.ga k.nga k.cl k.ob k.be q
def VD:V->Value
 | .ty n=>.type n
 | .ref a=>.ref a
 | _=>.none
def X2:V->Bool
 | .ty _=>true
 | .ref _=>true
 | _=>false
theorem RelV.cls {c:V}{u:Value}(r:RelV c u)(h:X2 c=true):u=VD c:=by
 cases c with
 | ty n=>exact r
 | ref a=>exact r
 | _=>cases h
theorem Vals.cls:∀{cs:List V}{us:List Value},Vals cs us->cs.all X2=true->us=cs.map VD
 | _,_,.nil,_=>rfl
 | _,_,.cons r t,h=>by
  rw [List.all_cons,Bool.and_eq_true] at h;rw [List.map_cons,r.cls h.1,Vals.cls t h.2]
def Zft (K:W.Frag):List V->Hp->VK->Prop:=λxs H Q=>∃x c b,xs=[x,c]/\Q (.bl b) H /\
 ((∃t,Xf K H x t/\X2 c=true/\W.kitOne K t (VD c)=some b) \/
  (∃a C,x=.ref a/\H a=some (Zfr a C)/\ZeA K C/\X2 c=true/\W.kitOne K (.ref C) (VD c)=some b) \/
  (∃a C tp cs,x=.ref a/\H a=some (Zfr a C)/\ZeA K C/\c=.ref tp/\H tp=some (.tup cs)/\cs.all X2=true/\W.kitAny K (.ref C) (cs.map VD)=some b))
theorem Zo {X:Cx}:J2 X (.builtin "isinstance") (Zft X.K):=by
 intro qQ s σ H xs us Q I rv h;obtain ⟨x,c,b,rfl,q,h⟩:=h;obtain ⟨u,cv,rfl,ru,rc⟩:=rv.two;have fin:∀tk,EP X qQ σ Q (.bool b) { s with toks:=tk }:=λtk=>⟨.bl b,H,I.tok tk,rfl,q⟩;rcases h with ⟨t,ty,hc,e⟩ | ⟨a,C,rfl,ha,k,hc,e⟩ | ⟨a,C,tp,cs,rfl,ha,k,rfl,ht,hc,e⟩
 ·rw [rc.cls hc];exact XU I ru ty e fin
 ·rw [rc.cls hc];cases (show u=Value.ref a from ru);obtain ⟨p,_⟩:=I.hok a _ ha;exact W.kia_one (Ww k) I.kIn p e (λz=>nomatch z) fin
 ·cases (show u=Value.ref a from ru);cases (show cv=Value.ref tp from rc);obtain ⟨p,_⟩:=I.hok a _ ha;obtain ⟨_,its,r,o,eo,co,n,dn⟩:=I.hok tp _ ht;obtain ⟨ocl,odi,oda,osl⟩:=o;cases (show ocl=.type "tuple" from co);cases (show oda=.seq its.toArray n from dn);exact W.kia_tup (its:=its) (Ww k) I.kIn p eo (by rw [r.cls hc];exact e) (λz=>nomatch z) fin
mutual
inductive DatV (K:W.Frag)(H:Hp):V->PyData->Prop
 | non:DatV K H .non .none
 | bl (b:Bool):DatV K H (.bl b) (.bool b)
 | int (i:Int):DatV K H (.int i) (.int i)
 | str (x:Str):DatV K H (.str x) (.str x)
 | lst {a:Addr} {xs:List V} {ds:List PyData}:SqL K H a xs->DatVs K H xs ds->DatV K H (.ref a) (.list ds)
 | tup {a:Addr} {xs:List V} {ds:List PyData}:SqT K H a xs->DatVs K H xs ds->DatV K H (.ref a) (.tuple ds)
inductive DatVs (K:W.Frag)(H:Hp):List V->List PyData->Prop
 | nil:DatVs K H [] []
 | cons {x:V} {d:PyData} {xs:List V} {ds:List PyData}:DatV K H x d->DatVs K H xs ds->DatVs K H (x::xs) (d::ds)
end
section
variable {X:Cx}{qQ:List (Addr×Obj)}{σ:St}{H:Hp}{s:Shared}
mutual
theorem DatV.reads (I:Inv X qQ σ H s):∀{x:V}{d:PyData}{u:Value},DatV X.K H x d->RelV x u->∃as,Reads s.heap u d as
 | _,_,_,.non,r=>by cases r;exact ⟨_,.none⟩
 | _,_,_,.bl b,r=>by cases r;exact ⟨_,.bool b⟩
 | _,_,_,.int i,r=>by obtain ⟨t,rfl⟩:=r;exact ⟨_,.int i t⟩
 | _,_,_,.str x,r=>by obtain ⟨t,rfl⟩:=r;exact ⟨_,.str x t⟩
 | _,_,_,.lst hq hs,r=>by
  cases r;obtain ⟨its,rv,⟨o,n,e,c,dd,dt⟩,_⟩:=I.list hq;obtain ⟨as,ra⟩:=DatVs.reads I hs rv;exact ⟨_,.list e c dt (by simpa using ra)⟩
 | _,_,_,.tup hq hs,r=>by
  cases r;obtain ⟨its,rv,⟨o,e,c,n,dt⟩,_⟩:=I.tuple hq;obtain ⟨as,ra⟩:=DatVs.reads I hs rv;exact ⟨_,.tuple e c dt (by simpa using ra)⟩
theorem DatVs.reads (I:Inv X qQ σ H s):∀{xs:List V}{ds:List PyData}{us:List Value},DatVs X.K H xs ds->Vals xs us->∃as,ReadsAll s.heap us ds as
 | _,_,_,.nil,.nil=>⟨_,.nil⟩
 | _,_,_,.cons h hs,.cons r rs=>by
  obtain ⟨as,ra⟩:=DatV.reads I h r;obtain ⟨bs,rb⟩:=DatVs.reads I hs rs;exact ⟨_,.cons ra rb⟩
end
end
def Zek (K:W.Frag)(neg:Bool):R2:=λx y H Q=>∃d1 d2,DatV K H x d1/\DatV K H y d2/\SeqAt.shaped d1=true/\SeqAt.shaped d2=true/\Q (.bl (neg != PyData.eqv d1 d2)) H
theorem ZcK {X:Cx}(hu:X.A.units+64<cLine):OpR X (compareOp .Eq) (Zek X.K false):=by
 intro qQ s σ H x y v u Q I rx ry h;obtain ⟨d1,d2,h1,h2,s1,s2,q⟩:=h;obtain ⟨as,r1⟩:=h1.reads I rx;obtain ⟨bs,r2⟩:=h2.reads I ry;exact eq_dataH r1 r2 s1 s2 hu ⟨.bl _,H,I,by cases PyData.eqv d1 d2 <;> rfl,q⟩
theorem ZcL {X:Cx}(hu:X.A.units+64<cLine):OpR X (compareOp .NotEq) (Zek X.K true):=by
 intro qQ s σ H x y v u Q I rx ry h;obtain ⟨d1,d2,h1,h2,s1,s2,q⟩:=h;obtain ⟨as,r1⟩:=h1.reads I rx;obtain ⟨bs,r2⟩:=h2.reads I ry;exact ne_dataH r1 r2 s1 s2 hu ⟨.bl _,H,I,by cases PyData.eqv d1 d2 <;> rfl,q⟩
def Lt2 (p:Nat)(a:Int):Prop:=a.natAbs<2 ^ p
def ZeB (i j:Int):Prop:=0<j/\Lt2 9000 j
theorem U6 {X:Cx}:OpR X (binaryOp .FloorDiv) (rI ZeB λi j=>.int (i / j)):=opI λi j _ _ _ _ _ hc q=>by
 have h1:(0:Int)<j:=hc.1;have h2:j.natAbs<2 ^ 9000:=hc.2;refine floordiv_int (by lia) (by rw [Int.fdiv_eq_ediv_of_nonneg i (by lia)];exact q) (.inl (PyProof.noPylong_of_log2 ?_));exact (Nat.log2_lt (by lia)).mpr h2
theorem Same.new {H:Hp}{p:Addr}{o:HO}(h:H p=none):Same H (upd H p o):=λb u e=>by rw [Gu (Gn e h)];exact e
theorem Same.put {H H1:Hp}{p:Addr}{o:HO}(s:Same H H1)(h:H p=none):Same H (upd H1 p o):=λb u e=>by rw [Gu (Gn e h)];exact s b u e
theorem G0 {H:Hp}{p b:Addr}{o u:HO}(h:H b=some u)(n:b≠p):upd H p o b=some u:=by rw [Gu n];exact h
inductive Prs (H:Hp):List V->List (Int×Int)->Prop
 | nil:Prs H [] []
 | cons {p:Addr} {a b:Int} {xs:List V} {rs:List (Int×Int)}:H p=some (.tup [.int a,.int b])->Prs H xs rs->Prs H (.ref p::xs) ((a,b)::rs)
theorem Prs.len {H:Hp}{xs:List V}{rs:List (Int×Int)}(h:Prs H xs rs):xs.length=rs.length:=by
 induction h with
 | nil=>rfl
 | cons _ _ ih=>rw [List.length_cons,List.length_cons,ih]
theorem Prs.snoc {H:Hp}{xs:List V}{rs:List (Int×Int)}(h:Prs H xs rs){p:Addr}{a b:Int}(e:H p=some (.tup [.int a,.int b])):Prs H (xs++[.ref p]) (rs++[(a,b)]):=by
 induction h with
 | nil=>exact .cons e .nil
 | cons e1 _ ih=>exact .cons e1 ih
theorem Prs.keep {H H':Hp}{xs:List V}{rs:List (Int×Int)}(h:Prs H xs rs)(k:∀p ys,H p=some (.tup ys)->H' p=some (.tup ys)):Prs H' xs rs:=by
 induction h with
 | nil=>exact .nil
 | cons e1 _ ih=>exact .cons (k _ _ e1) ih
theorem Prs.same {H H':Hp}{xs:List V}{rs:List (Int×Int)}(h:Prs H xs rs)(k:Same H H'):Prs H' xs rs:=h.keep λp ys e=>k p _ e
theorem OK {H:Hp}{l:Addr}{zs:List V}{o:HO}(h:H l=some (.lst zs)):∀p ys,H p=some (.tup ys)->upd H l o p=some (.tup ys):=λp ys e=>G0 e (W6 e h (λz=>by cases z))
theorem Wx {H:Hp}{l:Addr}{o:HO}(h:H l=none):∀p ys,H p=some (.tup ys)->upd H l o p=some (.tup ys):=λp ys e=>G0 e (Gn e h)
def prD (r:Int×Int):PyData:=.tuple [.int r.1,.int r.2]
theorem Prs.dats {K:W.Frag}{H:Hp}{xs:List V}{rs:List (Int×Int)}(h:Prs H xs rs):DatVs K H xs (rs.map prD):=by
 induction h with
 | nil=>exact .nil
 | cons e _ ih=>exact .cons (.tup (SqT.of e) (.cons (.int _) (.cons (.int _) .nil))) ih
theorem X3 (r q:Int×Int):PyData.eqv (prD r) (prD q)=decide (r=q):=by
 obtain ⟨a,b⟩:=r;obtain ⟨c,d⟩:=q;simp only [prD,PyData.eqv,PyData.eqvAll,Prod.mk.injEq];by_cases h1:a=c <;> by_cases h2:b=d <;> simp [h1,h2]
end L2
namespace L2
open PySem PySem.Spec PyProof.Rows
section
variable {P:Program}{w:World}{K:W.Frag}{mg:Str->Option Value}{base:Heap}
theorem Fun.okR {x qual:Str}{st:Stmt}{f:Addr}{fd:FuncData}{N ps:List Str}{k:Nat}{sp:Sp}(F:Fun K x qual st f fd)(S:Gv N ps (Gg st))(len:∀vs H Q E,sp vs H Q E->vs.length=ps.length)(qW:∀(cdv:Value)(A:Around)(outer:List Env)(s:Shared)(H:Hp)(vs:List V)(Q:VK)(E:XK),Room k (A.deeper (envOfC qual (Gg st) s.heap.objs.size f cdv))->sp vs H Q E ->
   ∃t,PSs (XC (CXr P w) P w K mg base N qual (Gg st) f cdv A outer s H E) (Go st) t/\t { nx:=λ_ H'=>Q .non H',rt:=Q } (start N vs) H):GS P w K mg base (CXr P w) (k+1) f fd ps sp:=by
 obtain ⟨oc,od,kV,doc,pm,an,cdv,ct,osl,rfl,lk,hcd⟩:=F.ex;refine Zi lk hcd S len λA outer s H vs Q E hr hsp=>?_;obtain ⟨t,h,q⟩:=qW cdv A outer s H vs Q E hr hsp;exact ⟨t,h,q⟩
theorem X4 {X:Cx}:O3 (CXr X.prog X.w) X E0:=λ_ _ _ _ _ _ _ ⟨_,_,_,_,_,h⟩=>h.elim
end
section
variable {X:Cx}
theorem Uo {x:Str}{a:Addr}{pos:Pos}(hm:X.mg x=some (.ref a))(hg:Gl X x:=by rfl)(hd:(x == ("__debug__" : Str))=false:=by decide):PE X (.Name x pos) (tC (.ref a)):=ZaS hg hm rfl hd
theorem ZcM {x:Str}{T:String}{pos:Pos}(hm:X.mg x=none)(hv:bootBuiltins x=some (.type T))(hg:Gl X x:=by rfl)(hn:x ≠ "__name__" := by decide)(hd:(x == ("__debug__" : Str))=false:=by decide):PE X (.Name x pos) (tC (.ty T)):=ZaT hg hm hv rfl hn hd
end
theorem Zp:bootBuiltins "isinstance" = some (.builtin "isinstance"):=by first | rfl | decide +kernel
theorem UV:bootBuiltins "tuple" = some (.type "tuple"):=by first | rfl | decide +kernel
theorem JP:bootBuiltins "list" = some (.type "list"):=by first | rfl | decide +kernel
theorem X5:bootBuiltins "bool" = some (.type "bool"):=by first | rfl | decide +kernel
theorem Zq {K:W.Frag}{t:Value}:W.kitOne K t t=some true:=by
 unfold W.kitOne;rw [if_pos (beq_self_eq_true t)]
section
variable {X:Cx}(K:W.Frag)
theorem ZfT (h:X.K=K:=by rfl):J2 X (.builtin "isinstance") (Zft K):=h▸Zo
theorem Jt (h:X.K=K:=by rfl):IxR X (Zfo K):=h▸Za4
theorem Je (h:X.K=K:=by rfl):IxR X (Zfp K):=h▸ZcF
theorem kIn (h:X.K=K:=by rfl):OpR X (compareOp .In) (rIn K false):=h▸XY
theorem VE (h:X.K=K:=by rfl):OpR X (compareOp .NotIn) (rIn K true):=h▸Vy
theorem O5 (h:X.K=K:=by rfl):J2 X (.builtin "len") (λxs H Q=>∃p ys,xs=[.ref p]/\(SqL K H p ys\/SqT K H p ys)/\Q (.int ys.length) H):=h▸Vz
theorem Up (h:X.K=K:=by rfl):J2 X (.type "list") (λxs H Q=>∃p ys,xs=[.ref p]/\(SqL K H p ys\/SqT K H p ys)/\∀l,H l=none->Q (.ref l) (upd H l (.lst ys))):=h▸VA
theorem Za9 (hu:X.A.units+64<cLine)(h:X.K=K:=by rfl):OpR X (compareOp .Eq) (Zek K false):=h▸ZcK hu
theorem Zel (hu:X.A.units+64<cLine)(h:X.K=K:=by rfl):OpR X (compareOp .NotEq) (Zek K true):=h▸ZcL hu
theorem kSl (h:X.K=K:=by rfl):SlR X (Zfq K):=h▸Za5
theorem Zaz {es:List Expr}{k:Nat}{t:TGs}{n:Nat}{pos:Pos}(hc:X.calm=true)(h:PGs X es t)(hK:X.K=K:=by rfl)(hn:(assignEach es X.env).length=n:=by rfl)(hst:(assignEach es X.env).findIdx? (·.1)=none:=by rfl):PG X (.Tuple es k pos) (Zfh K n t):=hK▸Zcu hc h hn hst
theorem Uq {tg l:Expr}{tl:TE}(hl:PE X l tl)(h:X.K=K:=by rfl):PI X tg l (Zcw K tl):=h▸ZaV hl
end
end L2
namespace L2
open PySem
def Xj (r c:Nat)(p:Nat):List (Int×Int):=
 (if ((p:Int)+1) % (c:Int)=0 then [] else [((p:Int),(p:Int)+1)])++(if (p:Int)+(c:Int)<(r:Int) * (c:Int) then [((p:Int),(p:Int)+(c:Int))] else [])
def OL (r c i:Nat):List (Int×Int):=(List.range i).flatMap (Xj r c)
theorem OA (r c i:Nat):OL r c (i+1)=OL r c i++Xj r c i:=by
 unfold OL;rw [List.range_succ,List.flatMap_append,List.flatMap_singleton]
theorem Wz {H H2:Hp}{l t:Addr}{xs:List V}{rs:List (Int×Int)}{a b:Int}(s:Same H H2)(hl:H l=none)(h2:H2 l=some (.lst xs))(hp:Prs H2 xs rs)(ht:H2 t=none) :
  Same H (upd (upd H2 t (.tup [.int a,.int b])) l (.lst (xs++[.ref t])))/\upd (upd H2 t (.tup [.int a,.int b])) l (.lst (xs++[.ref t])) l=some (.lst (xs++[.ref t])) /\
   Prs (upd (upd H2 t (.tup [.int a,.int b])) l (.lst (xs++[.ref t]))) (xs++[.ref t]) (rs++[(a,b)]):=by
 have hne:t≠l:=λz=>by rw [z,h2] at ht;cases ht
 have s1:Same H (upd H2 t (.tup [.int a,.int b])):=s.put (s.free ht);refine ⟨s1.put hl,Gb,?_⟩;have k1:=hp.keep (Wx (o:=.tup [.int a,.int b]) ht);have k2:=k1.keep (OK (H:=upd H2 t (.tup [.int a,.int b])) (l:=l) (zs:=xs) (o:=.lst (xs++[.ref t])) (G0 h2 (Ne.symm hne)));exact k2.snoc (by rw [Gu hne,Gb])
end L2
namespace L2
open PySem PySem.Spec PyProof.Rows
def AllP {α:Type}(P:α->Prop):List α->Prop
 | []=>True
 | x::r=>P x/\AllP P r
theorem AllP.mem {α:Type}{P:α->Prop}:∀{l:List α},AllP P l->∀x∈l,P x
 | _::_,h,_,.head _=>h.1
 | _::_,h,x,.tail _ m=>AllP.mem h.2 x m
theorem Gr {X:Cx}{scope:Scope}{cl:List (Str×Addr)}{own:List Str}{fr:List (Str×Nat)}(L:List (Str×NameKind))(hcl:closureFor scope X.env=pure cl)(hL:(relabel scope X.env).names=L)(hc:∀y∈scope.names,y.2≠.cell)(hk:scope.kind=.function)(hn:∀y∈scope.names,y.2=.local->scope.names.lookup y.1=some .local)(hcs:AllP (λp=>X.env.cells.lookup p.1=some p.2) cl)(qX:AllP (λp=>(p.2=.cell\/p.2=.free)->∃c,cl.lookup p.1=some c) L)(hfr:AllP (λp=>X.N[p.2]?=some p.1/\(X.env.kindOf p.1=some .cell\/X.env.kindOf p.1=some .free)/\(L.lookup p.1=some .cell\/L.lookup p.1=some .free)) fr):J3 X scope cl own fr:=
 ⟨hcl,hc,hk,hn,λy c h=>hcs.mem (y,c) (PySem.mem_of_lookup h),λy h=>by
  rw [hL] at h;rcases h with h | h
  ·exact qX.mem _ (PySem.mem_of_lookup h) (.inl rfl)
  ·exact qX.mem _ (PySem.mem_of_lookup h) (.inr rfl),λp hp=>by
  rw [hL];exact hfr.mem p hp⟩
theorem GT {k:NameKind}{P:Prop}(h:k=.cell\/k=.free)(h1:(k == .cell)=false:=by rfl)(h2:(k == .free)=false:=by rfl):P:=by
 rcases h with z | z
 ·subst z;exact absurd h1 (by decide)
 ·subst z;exact absurd h2 (by decide)
theorem Ub:bootBuiltins "min" = some (.builtin "min"):=by first | rfl | decide +kernel
def Gz (n:Int)(rs:List (Int×Int)):Prop:=1<=n/\n<=16/\rs.length<=30/\(∀p∈rs,0<=p.1/\p.1<p.2/\p.2<n)/\rs.Nodup
instance (n:Int) (rs:List (Int×Int)):Decidable (Gz n rs):=by unfold Gz;infer_instance
theorem X6 {r c:Nat}(hr0:1<=r)(hr:r<=3)(hc0:1<=c)(hc:c<=4):Gz ((r:Int) * (c:Int)) (OL r c (r * c)):=by
 have h1:r=1\/r=2\/r=3:=by lia
 have h2:c=1\/c=2\/c=3\/c=4:=by lia
 rcases h1 with rfl | rfl | rfl <;> rcases h2 with rfl | rfl | rfl | rfl <;> decide +kernel
theorem Prs.get {H:Hp}:∀{xs:List V}{rs:List (Int×Int)},Prs H xs rs->∀{i:Nat}{x:V},xs[i]?=some x->∃t r,x=.ref t/\H t=some (.tup [.int r.1,.int r.2])/\rs[i]?=some r
 | _,_,.nil,_,_,h=>by simp at h
 | _,_,.cons (a:=a) (b:=b) e _,0,_,h=>by
  simp at h;subst h;exact ⟨_,(a,b),rfl,e,rfl⟩
 | _,_,.cons _ r,i+1,x,h=>by
  obtain ⟨t,q,h1,h2,h3⟩:=Prs.get r (i:=i) (x:=x) (by simpa using h);exact ⟨t,q,h1,h2,by simpa using h3⟩
theorem Prs.app {H:Hp}{xs ys:List V}{rs qs:List (Int×Int)}(h:Prs H xs rs)(k:Prs H ys qs):Prs H (xs++ys) (rs++qs):=by
 induction h with
 | nil=>exact k
 | cons e _ ih=>exact .cons e ih
theorem Prs.erase {H:Hp}:∀{xs:List V}{rs:List (Int×Int)},Prs H xs rs->∀i:Nat,Prs H (xs.eraseIdx i) (rs.eraseIdx i)
 | _,_,.nil,_=>.nil
 | _,_,.cons _ r,0=>r
 | _,_,.cons e r,i+1=>.cons e (Prs.erase r i)
theorem JA {t u:TS}{D:Ends}{σ:St}{H:Hp}(Pm:St->Hp->Prop)(h2:∀ σ' H',Pm σ' H'->u D σ' H')(h1:(∀ σ' H',Pm σ' H'->u D σ' H')->t { D with nx:=u D } σ H):Zeq t u D σ H:=h1 h2
end L2
namespace L2
open PySem PySem.Spec PyProof.Rows
theorem WA:∀{xs:List V}{us:List Value},xs.length=us.length->(∀(i:Nat) x u,xs[i]?=some x->us[i]?=some u->RelV x u)->Vals xs us
 | [],[],_,_=>.nil
 | [],_::_,h,_=>by simp at h
 | _::_,[],h,_=>by simp at h
 | x::xs,u::us,h,k=>.cons (k 0 x u rfl rfl) (WA (by simpa using h) λi y v e1 e2=>k (i+1) y v (by simpa using e1) (by simpa using e2))
section
variable {X:Cx}(K:W.Frag)
def X7:List V->Hp->VK->Prop:=λxs H Q=>∃(p:Addr)(ns:List Int),xs=[.ref p]/\SqL K H p (ns.map V.int)/\ns.length<64/\∀(l:Addr)(ns':List Int),H l=none->ns'.Perm ns->ns'.Pairwise (· <= ·)->Q (.ref l) (upd H l (.lst (ns'.map V.int)))
theorem OB (h:X.K=K:=by rfl):J2 X (.builtin "sorted") (X7 K):=by
 subst h;intro qQ s σ H xs us Q I rv h;obtain ⟨p,ns,rfl,hq,h64,q⟩:=h;obtain ⟨u,rfl,ru⟩:=rv.one;cases ru;obtain ⟨its,r,pl,hz⟩:=I.list hq;have hl:=r.length;rw [List.length_map] at hl;refine sorted_ints pl.isList (Oq r) (by lia) λout ns' h1 h2 h3=>?_;obtain ⟨e,he⟩:=sortedAll_at s.heap its out;have rv':=OI h1;have qJ:(ns'.map V.int).length<=sizeLine:=by
  have:=h2.length_eq;rw [List.length_map] at hz ⊢
  lia
 refine ⟨.ref _,_,I.laid (a:=s.heap.objs.size+1) (t':=s.toks) (o:=.lst (ns'.map V.int)) (λb o e=>sortedAll_old e) (Nat.le_succ _) ⟨qJ,out.toList,e,rv',he⟩,rfl,q _ ns' (I.hok.fresh (Nat.le_succ _)) h2 h3⟩
end
section
variable {X:Cx}
theorem Zba {a:Expr}{ta:TA}{p pos:Pos}(hg:Gl X "range")(hm:X.mg "range" = none)(ha:PA X [a] ta)(hs:starEach [a] X.env=[(false,eval a X.env)]:=by rfl) :
  PE X (.Call (.Name "range" p) [a] [] pos) (λσ H Q=>ta σ H λvs H1=>∃j:Int,vs=[.int j]/\∀r,H1 r=none->Q (.ref r) (upd H1 r (.rng 0 j))):=by
 intro qQ s σ H Q I h;refine Call_ (Ob I hg hm boot_range (PyProof.Rows.callWith_type1 (thn (ha pos qQ s σ H _ I h) λus s1 ⟨vs,H1,I1,r1,q1⟩=>?_) hs rfl));obtain ⟨j,rfl,q⟩:=q1;obtain ⟨u,rfl,ru⟩:=r1.one;obtain ⟨t,rfl⟩:=ru;refine call_range_1 ?_;exact ⟨.ref _,_,I1.laid (o:=.rng 0 j) (λb o e=>Heap.get?_push_of_some _ e) (Nat.le_refl _) ⟨_,_,_,Heap.get?_push_size _ rfl⟩,rfl,q _ I1.fresh⟩
theorem U7 (hc:X.calm=true):J2 X (.type "list") (λxs H Q=>∃r n,xs=[.ref r]/\H r=some (.rng 0 (n:Nat))/\n<=1000/\∀l,H l=none->Q (.ref l) (upd H l (.lst ((List.range n).map λi=>V.int ((i:Nat):Int))))):=by
 intro qQ s σ H xs us Q I rv h;obtain ⟨r,n,rfl,hr,hn,q⟩:=h;obtain ⟨u,rfl,ru⟩:=rv.one;cases ru;obtain ⟨t,u,v,e⟩:=I.hok r _ hr;have h16:(16777216:Nat)=sizeLine:=sizeLine_eq.symm;refine call_list_range (n:=n) (I.ok.hd hc) e (small_one (by lia) (by lia) (by lia) (by lia)) (by rw [rangeSize_one];split <;> lia) (by lia) λh' tk acc' c' hk hS hit=>?_;refine ⟨.ref _,_,I.laid (o:=.lst ((List.range n).map λi=>V.int ((i:Nat):Int))) hk (Nat.le_refl _) ⟨by rw [List.length_map,List.length_range];lia,acc'.toList,c',?_,hS⟩,rfl,q _ I.fresh⟩;refine WA (by rw [List.length_map,List.length_range,Array.length_toList];exact hit.1.symm) λi x u e1 e2=>?_;rw [Array.getElem?_toList] at e2;obtain ⟨tk',rfl⟩:=hit.2 i u e2;rw [List.getElem?_map] at e1;cases z:(List.range n)[i]? with
 | none=>rw [z] at e1;cases e1
 | some k=>
  rw [z] at e1;have hk:k=i:=by
   obtain ⟨h1,h2⟩:=List.getElem?_eq_some_iff.mp z;rw [List.getElem_range] at h2;exact h2.symm
  subst hk;cases e1;exact ⟨tk',by rw [Int.mul_one,Int.zero_add]⟩
theorem JB:UnR X (unaryOp .USub) (rU λi=>.int (-i)):=by
 intro qQ s σ H x v Q I rx h;obtain ⟨i,rfl,q⟩:=h;obtain ⟨t,rfl⟩:=rx;exact neg_int ⟨.int (-i),H,I.tok _,⟨_,rfl⟩,q⟩
end
theorem WB {xs:List V}{k:Nat}:OV xs none (some (k:Int))=xs.take k:=by
 unfold OV;rw [HT.sIx_none,HT.sIx_nat,List.drop_zero,Nat.sub_zero];by_cases h:k<=xs.length
 ·rw [Nat.min_eq_left h]
 ·rw [Nat.min_eq_right (by lia),List.take_length,List.take_of_length_le (by lia)]
theorem OM {xs:List V}{k:Nat}:OV xs (some (k:Int)) none=xs.drop k:=by
 unfold OV;rw [HT.sIx_none,HT.sIx_nat];by_cases h:k<=xs.length
 ·rw [Nat.min_eq_left h,List.take_of_length_le (by rw [List.length_drop];exact Nat.le_refl _)]
 ·rw [Nat.min_eq_right (by lia),List.drop_length,List.drop_of_length_le (by lia),List.take_nil]
theorem GP {K:W.Frag}{H:Hp}:∀ns:List Int,DatVs K H (ns.map V.int) (ns.map PyData.int)
 | []=>.nil
 | n::ns=>.cons (.int n) (GP ns)
theorem Uc:∀ns:List Int,PyData.canLayAll0 (ns.map PyData.int)=true
 | []=>by simp [PyData.canLayAll0]
 | n::ns=>by
  rw [List.map_cons];simp [PyData.canLayAll0,PyData.canLay0,Uc ns]
theorem JM:∀ns:List Int,PyData.depthAll (ns.map PyData.int)<=1
 | []=>by simp [PyData.depthAll]
 | n::ns=>by
  have ih:=JM ns;rw [List.map_cons];simp only [PyData.depthAll,PyData.depth]
  lia
theorem GD (ns:List Int):SeqAt.shaped (.list (ns.map PyData.int))=true:=by
 unfold SeqAt.shaped;rw [Bool.and_eq_true];have:=JM ns;refine ⟨by simp only [PyData.canLay0];exact Uc ns,decide_eq_true ?_⟩;simp only [PyData.depth]
 lia
theorem JE (ns ms:List Int):PyData.eqv (.list (ns.map PyData.int)) (.list (ms.map PyData.int))=decide (ns=ms):=by
 rw [<-W.ked_eqvAll];simp only [PyData.eqv]
end L2
namespace L2
open PySem PySem.Spec PyProof.Rows
theorem Zr {P:Program}{w:World}{K:W.Frag}{mg:Str->Option Value}{base:Heap}{N:List Str}{qual:Str}{scope:Scope}{f:Addr}{cd:Value}{A:Around}{outer:List Env}{s:Shared}{H:Hp}{E:XK} :
  O3 (CXr P w) (XC (CXr P w) P w K mg base N qual scope f cd A outer s H E) E:=by
 intro qQ σ H1 s1 ev s' I h;obtain ⟨a,C,H',rfl,⟨t,B,os,bare,un,hok,fl,trk,old⟩,hE⟩:=h;have hfr:=I.ok.frames;have nox:∀b:Addr,b ∉ (XC (CXr P w) P w K mg base N qual scope f cd A outer s H E).ex:=λb z=>absurd (show b∈([]:List Addr) from z) (by simp);refine wpAny_leaves_onW hfr rfl fl λh2 fl2 sm=>?_;obtain ⟨u2,k2⟩:=Zn (t:=t) (a:=a) (C:=C) un hok fl.2.2.1 trk old fl2.1 sm;have u1:Un (frs (envOfC qual scope s.heap.objs.size f cd::outer)) [] H H1 s.heap s1.heap:=Un.mono I.base (λb hb=>by
  have hb':b∈frs outer:=hb;obtain ⟨env,he,q⟩:=List.mem_filterMap.mp hb';exact List.mem_filterMap.mpr ⟨env,List.mem_cons_of_mem _ he,q⟩) (λb hb=>absurd hb (nox b))
 have u3:=u1.trans u2;have nst:∀b o,s.heap.get? b=some o->b ∉ frs outer->b ∉ frs (envOfC qual scope s.heap.objs.size f cd::outer):=λb o e hb z=>by
  rcases List.mem_cons.mp (I.stkSub b z) with q | q
  ·exact absurd (Nat.lt_of_lt_of_le (Heap.lt_size e) I.ok.above) (by rw [q];exact Nat.lt_irrefl _)
  ·exact hb q
 have inst:∀b,b∈frs outer->b∈frs (envOfC qual scope s.heap.objs.size f cd::outer):=λb hb=>by
  obtain ⟨env,he,q⟩:=List.mem_filterMap.mp hb;exact List.mem_filterMap.mpr ⟨env,List.mem_cons_of_mem _ he,q⟩
 refine ⟨a,C,H',rfl,⟨t,B,os.trans I.os,bare,⟨λb o e n hb hx=>u3.keep b o e n (nst b o e hb) hx,λb o e n hb hx=>u3.slot b o e n (inst b hb) hx,u3.free,u3.there,u3.tups,u3.frzs,u3.tbls⟩,k2,fl2,λb o e n=>?_,λb o0 o e0 e nb=>?_⟩,hE⟩
 ·cases q':H' b with
  | none=>exact absurd q' n
  | some u=>
   obtain ⟨v,q⟩:=(hok b u q').there;have e1:=trk b v q n;have e2:=fl2.1 b v e1;have e':h2.get? b=some o:=e;rw [e'] at e2;cases e2;exact e1
 ·obtain ⟨o1,e1⟩:=u1.there b o0 e0 (by simp);obtain ⟨o2,e2⟩:=un.there b o1 e1 (by simp);have e3:=old b o1 o2 e1 e2 (nst b o0 e0 nb);have e4:=fl2.1 b o2 e3;have e':h2.get? b=some o:=e;rw [e'] at e4;cases e4;exact e3
section
variable {X:Cx}
open Classical in
noncomputable def V2 (h:Heap)(u:Value):PyData:=if q:∃d as,Reads h u d as/\SeqAt.shaped d=true then choose q else .none
theorem Zs {h:Heap}{u:Value}{d:PyData}{as:List Addr}(r:Reads h u d as)(hs:SeqAt.shaped d=true):V2 h u=d:=by
 have q:∃d as,Reads h u d as/\SeqAt.shaped d=true:=⟨d,as,r,hs⟩;unfold V2;rw [dif_pos q];obtain ⟨as',r',s'⟩:=Classical.choose_spec q;exact SeqAt.Reads.unique _ _ _ _ _ (SeqAt.canLay_of_shaped s') r' r
theorem ZaA {h:Heap}:∀{us:List Value}{ds:List PyData}{as:List Addr},ReadsAll h us ds as->(∀e∈ds,SeqAt.shaped e=true)->(∀u∈us,∃as',Reads h u (V2 h u) as'/\SeqAt.shaped (V2 h u)=true)/\us.map (V2 h)=ds
 | _,_,_,.nil,_=>⟨λu hu=>by simp at hu,rfl⟩
 | _,_,_,.cons r rs,hs=>by
  obtain ⟨i1,i2⟩:=ZaA rs λe he=>hs e (List.mem_cons_of_mem _ he);have h0:=hs _ (List.mem_cons_self ..);have e0:=Zs r h0;refine ⟨λu hu=>?_,by rw [List.map_cons,e0,i2]⟩;rcases List.mem_cons.mp hu with rfl | hu
  ·rw [e0];exact ⟨_,r,h0⟩
  ·exact i1 u hu
theorem UW (r:Int×Int):SeqAt.shaped (prD r)=true:=by
 unfold SeqAt.shaped prD;simp [PyData.canLay0,PyData.canLayAll0,PyData.depth,PyData.depthAll]
theorem Zt (rs:List (Int×Int)):∀e∈rs.map prD,SeqAt.shaped e=true:=λe he=>by
 obtain ⟨r,_,rfl⟩:=List.mem_map.mp he;exact UW r
end
end L2
namespace L2
open PySem PySem.Spec PyProof.Rows
section
variable {X:Cx}
def Ite (K:W.Frag)(a:Addr):It:=
 ⟨λi H=>∃xs x,SqL K H a xs/\xs[i]?=some x,λi H x H'=>∃T y,x=.ref T/\H T=none/\H'=upd H T (.tup [.int (i:Nat),y])/\∀xs,SqL K H a xs->xs[i]?=some y,λi H=>∃xs,SqL K H a xs/\xs.length<=i⟩
theorem X8 {P:Program}{w:World}{K:W.Frag}{elts:List Expr}{k:Nat}{pos:Pos}(a e it:Addr)(hne:e≠it) :
  Zg P w K (.Tuple elts k pos) (Ite K a) [e,it] e (λi h=>(∃old,IsEnum h e it ((i:Nat):Int) old)/\h.IsListIter it a i) where
 mem:=by simp
 obj:=λi h st b hb=>by
  obtain ⟨⟨old,he⟩,⟨o,ei,c,d⟩⟩:=st;rcases List.mem_cons.mp hb with rfl | hb
  ·exact ⟨_,he,λv z=>by
    have z':Data.fields _=Data.cell v:=z;cases z'⟩
  ·have eb:b=it:=by simpa using hb
   subst eb;exact ⟨o,ei,λv z=>by rw [d] at z;cases z⟩
 keep:=λi h h' st q=>by
  obtain ⟨⟨old,he⟩,hi⟩:=st;exact ⟨⟨old,q e (by simp) _ he⟩,hi.at λo ho=>q it (by simp) o ho⟩
 item:=by
  intro X hP hw hK hc i qQ s σ H E I hf st hg;subst hP hw hK;obtain ⟨xs,x,hq,hx⟩:=hg;obtain ⟨its,rv,p,hz⟩:=I.list hq;obtain ⟨u,hu,ru⟩:=rv.get hx;obtain ⟨⟨old,he⟩,hit⟩:=st;refine wpAny_pyNext_enum_item he hit p.isList (x:=u) (by simpa using hu) hne λh1 heo hit1 ht1 hz1 hk1=>?_;refine ⟨_,rfl,wpAny_letOwnedTupleGo_enum (s:={ s with heap:=h1,toks:=s.toks+1 }) heo λh2 he2 hs2=>?_⟩;have hs2':Heap.SameBut e h1 h2:=hs2;have hfr:H s.heap.objs.size=none:=I.fresh;have hel:e<s.heap.objs.size:=Heap.lt_size he;have kk:∀b o,b ∉ [e,it]->s.heap.get? b=some o->h2.get? b=some o:=λb o hb q=>by
   have n1:b≠e:=λz=>hb (by simp [z]);have n2:b≠it:=λz=>hb (by simp [z]);exact (hs2'.2 b n1).trans (hk1 b o n1 n2 q)
  have nT:∀b o,s.heap.get? b=some o->b≠s.heap.objs.size:=λb o q=>Nat.ne_of_lt (Heap.lt_size q);have trk:∀c u,H c=some u->c ∉ [e,it]:=λc u q z=>by
   rw [(hf c z).1] at q;cases q
  refine ⟨.ref s.heap.objs.size,upd H s.heap.objs.size (.tup [.int (i:Nat),x]),I.call' (ch:=[e,it]) rfl ⟨λb o q _ _ hb=>kk b o hb q,λb o q _ _ hb=>⟨o.slots,kk b o hb q⟩,λb o q n _=>by rw [Gu (nT b o q)];exact n,
   λb o q hb=>⟨o,kk b o hb q⟩,λb ys q=>by rw [Gu (Gn q hfr)];exact q,λb o u q=>by rw [Gu (Gn q hfr)];exact q,λb ps q=>⟨#[],by rw [Gu (Gn q hfr),q];simp⟩⟩ (λb v q=>?_) I.bare (λb hb=>?_),
   rfl,⟨_,x,rfl,hfr,rfl,λys hy=>by rw [I.list_inj hy hq];exact hx⟩,⟨⟨_,by rw [Int.natCast_add];exact he2⟩,hit1.extBut hs2'.extBut (Ne.symm hne)⟩,λb hb=>?_⟩
  ·by_cases hb:b=s.heap.objs.size
   ·subst hb;rw [Gb] at q;cases q;refine ⟨by have h16:(16777216:Nat)=sizeLine:=sizeLine_eq.symm;rw [<-h16];show 2<=16777216;lia,[.int (i:Nat) s.toks,u],.cons ⟨_,rfl⟩ (.cons ru .nil),⟨_,(hs2'.2 _ (Nat.ne_of_gt hel)).trans ht1,rfl,_,rfl⟩⟩
   ·rw [Gu hb] at q;refine (I.hok b v q).stay (λc v' hc z=>kk c v' ?_ z) (λc z=>by rw [Gu (Gn z hfr)];exact z) λc ys z=>by rw [Gu (Gn z hfr)];exact z
    rcases hc with rfl | hc
    ·exact trk _ _ q
    ·exact trk _ _ hc
  ·obtain ⟨f0,f1,f2,f3,f4,f5⟩:=hf b hb;exact ⟨f3,f1,f4,f5⟩
  ·have ho:∃o,s.heap.get? b=some o:=by
    rcases List.mem_cons.mp hb with rfl | hb
    ·exact ⟨_,he⟩
    ·have eb:b=it:=by simpa using hb
     subst eb;obtain ⟨o,ei,_⟩:=hit;exact ⟨o,ei⟩
   obtain ⟨o,ho⟩:=ho;rw [Gu (nT b o ho)];exact (hf b hb).1
 done:=by
  intro X hP hw hK hc i qQ s σ H E I hf st hg;subst hP hw hK;obtain ⟨xs,hq,hx⟩:=hg;obtain ⟨its,rv,p,hz⟩:=I.list hq;obtain ⟨⟨old,he⟩,hit⟩:=st;obtain ⟨f0,f1,f2,f3,f4,f5⟩:=hf it (by simp);have hl:=rv.length;exact wpAny_pyNext_enum_end (I.ok.hd hc) he hit p.isList (by simp;lia) λh' eb=>⟨rfl,I.turned (t':=s.toks) (λb o hb q=>eb b o hb q) f0 f1 f3 f4 f5⟩
 self:=λ_ _ _ _ _ ⟨⟨_,he⟩,_⟩ h=>wpAny_pyIter_enum he h
def ZcN (K:W.Frag)(ta:TA):TI:=λσ H R=>ta σ H λvs H1=>∃a xs,vs=[.ref a]/\SqL K H1 a xs/\R (Ite K a) H1
theorem Zbb {elts:List Expr}{k:Nat}{p0:Pos}{l:Expr}{ta:TA}{p pos:Pos}(hg:Gl X "enumerate")(hm:X.mg "enumerate" = none)(ha:PA X [l] ta)(hs:starEach [l] X.env=[(false,eval l X.env)]:=by rfl) :
  PI X (.Tuple elts k p0) (.Call (.Name "enumerate" p) [l] [] pos) (ZcN X.K ta):=by
 intro qQ s σ H R I h;refine Call_ (Ob I hg hm boot_enumerate (PyProof.Rows.callWith_type1 (thn (ha pos qQ s σ H _ I h) λus s1 ⟨vs,H1,I1,r1,q1⟩=>?_) hs rfl));obtain ⟨a,xs,e,hq,q⟩:=q1;subst e;obtain ⟨u,rfl,ru⟩:=r1.one;cases ru;obtain ⟨its,rv,pl,hz⟩:=I1.list hq;refine call_enumerate_list pl.isList λh' hE hI hsz hk=>?_;refine wpAny_pyIter_enum hE ?_;refine ⟨s1.heap.objs.size+1,[s1.heap.objs.size+1,s1.heap.objs.size],_,_,H1,rfl,I1.kept (t':=s1.toks) hk,X8 a _ _ (Nat.succ_ne_self _),⟨⟨_,hE⟩,hI⟩,λb hb=>?_,q⟩;have e:s1.heap.objs.size<=b:=by
  rcases List.mem_cons.mp hb with rfl | hb
  ·exact Nat.le_succ _
  ·have eb:b=s1.heap.objs.size:=by simpa using hb
   rw [eb];exact Nat.le_refl _
 exact I1.fpOk e (I1.hok.fresh e)
theorem Zbc (K:W.Frag){elts:List Expr}{k:Nat}{p0:Pos}{l:Expr}{ta:TA}{p pos:Pos}(hg:Gl X "enumerate")(hm:X.mg "enumerate" = none)(ha:PA X [l] ta)(h:X.K=K:=by rfl)(hs:starEach [l] X.env=[(false,eval l X.env)]:=by rfl) :
  PI X (.Tuple elts k p0) (.Call (.Name "enumerate" p) [l] [] pos) (ZcN K ta):=h▸Zbb hg hm ha hs
end
theorem VF {K:PySem.W.Frag}{a D:Addr}{xs:List V}{g:TG}{tc:TT}{te:TE}{σ0:St}{R:Hp->Prop}{H1:Hp}(Pv:Nat->List V->Hp->Prop)(h0:Pv 0 [] (upd H1 D (.lst [])))(hl:∀i ys H,i<=xs.length->Pv i ys H->SqL K H a xs)(hs:∀i x ys H T,xs[i]?=some x->Pv i ys H->H T=none->g (.ref T) σ0 (upd H T (.tup [.int (i:Nat),x])) λσ4 H4=>OJ σ0 σ4/\tc σ4 H4 λb H5=>if b=true then te σ4 H5 λy H6=>H6 D=some (.lst ys)/\ys.length<sizeLine/\Pv (i+1) (ys++[y]) (upd H6 D (.lst (ys++[y]))) else Pv (i+1) ys H5)(hd:∀ys H,Pv xs.length ys H->R H):∃W:Nat->Nat->List V->Hp->Prop,(∃m,W 0 m [] (upd H1 D (.lst [])))/\JO (Ite K a) D g tc te σ0 W R:=by
 refine ⟨λi m ys H=>m=xs.length-i/\i<=xs.length/\Pv i ys H,⟨_,rfl,Nat.zero_le _,h0⟩,?_⟩;rintro i m ys H ⟨rfl,hi,p⟩;have q:=hl i ys H hi p;by_cases hlt:i<xs.length
 ·refine .inr ⟨⟨xs,xs[i],q,by simp [hlt]⟩,Pv (i+1),λys' H' p'=>⟨xs.length-(i+1),by lia,rfl,hlt,p'⟩,λx H' y=>?_⟩;obtain ⟨T,y',rfl,hT,rfl,y⟩:=y;exact hs i y' ys _ T (y xs q) p hT
 ·have e:i=xs.length:=by lia
  subst e;exact .inl ⟨⟨xs,q,Nat.le_refl _⟩,hd ys H p⟩
end L2
namespace L2
open PySem PySem.Spec PyProof.Rows
section
variable {X:Cx}{a b c d:Expr}{ta tb tc td:TE}{pos:Pos}
theorem Ot:bootBuiltins "all" = some (.builtin "all"):=by first | rfl | decide +kernel
theorem Zu:bootBuiltins "set" = some (.type "set"):=by first | rfl | decide +kernel
theorem Ur:∀{bs:List Bool}{us:List Value},Vals (bs.map V.bl) us->us=bs.map Value.bool
 | [],_,.nil=>rfl
 | b::bs,_,.cons r t=>by rw [List.map_cons,<-Ur t];cases r;rfl
theorem X9 (bs:List Bool):(List.range bs.length).all (λi=>bs.getD i false)=bs.all id:=by
 induction bs with
 | nil=>rfl
 | cons b bs ih=>
  rw [List.length_cons,List.range_succ_eq_map,List.all_cons,List.all_map,List.all_cons];show (b && _)=(b && _)
  congr 1
theorem Zb9 (K:W.Frag)(hc:X.calm=true)(h:X.K=K:=by rfl):J2 X (.builtin "all") (λxs H Q=>∃(p:Addr)(bs:List Bool),xs=[.ref p]/\SqL K H p (bs.map V.bl)/\Q (.bl (bs.all id)) H):=by
 subst h;intro qQ s σ H xs us Q I rv h;obtain ⟨p,bs,rfl,hq,q⟩:=h;obtain ⟨u,rfl,ru⟩:=rv.one;cases ru;obtain ⟨its,r,pl,hz⟩:=I.list hq;have e:=Ur r;have hh:X.A.in1.handled=none:=I.ok.hd hc;obtain ⟨o,eo,_⟩:=id pl.isList;have hlt:p<s.heap.objs.size:=Heap.lt_size eo;refine call_all_walk (wpAny_pyIter_list pl.isList ?_);refine ⟨s.heap.objs.size,_,_,_,_,_,λi=>bs.getD i false,rfl,Walks.list hh s.heap.objs.size p (Nat.ne_of_lt hlt) its.toArray,⟨⟨_,Heap.get?_push_size _ rfl,rfl,rfl⟩,pl.isList.at λo e=>Heap.get?_push_of_some _ e⟩,?_,λh' tk hk=>?_⟩
 ·intro i v s' Q' E' hv hq';have hv':its[i]?=some v:=by simpa using hv
  rw [e,List.getElem?_map] at hv';cases z:bs[i]? with
  | none=>rw [z] at hv';cases hv'
  | some b=>
   rw [z] at hv';cases hv';have eb:bs.getD i false=b:=by rw [List.getD_eq_getElem?_getD,z];rfl
   exact wpAny_truthy_bool (by rw [<-eb];exact hq')
 ·have hl:its.toArray.size=bs.length:=by rw [List.size_toArray,e,List.length_map]
  have I1:Inv X qQ σ H { s with heap:=s.heap.push { cls:=.type "list_iterator", data:=.fields #[.ref p,.int 0 0] } }:=I.kept (t':=s.toks) λb o e=>Heap.get?_push_of_some _ e;refine ⟨.bl _,H,I.kept λb o e'=>hk b o ?_ (Heap.get?_push_of_some _ e'),?_,q⟩
  ·intro z;have:b=s.heap.objs.size:=by simpa using z
   exact absurd (Heap.lt_size e') (by rw [this];exact Nat.lt_irrefl _)
  ·show Value.bool _=Value.bool _;rw [hl,X9]
theorem ZeC (K:W.Frag)(hc:X.calm=true)(h:X.K=K:=by rfl):J2 X (.type "set") (λxs H Q=>∃(p:Addr)(ns:List Int),xs=[.ref p]/\SqL K H p (ns.map V.int)/\ns.length<1000 /\
  ∀l,H l=none->Q (.ref l) (upd H l (.set (λk'=>(firstMet (λi=>ns.getD i 0) ns.length).any (· == k')) (firstMet (λi=>ns.getD i 0) ns.length).length))):=by
 subst h;intro qQ s σ H xs us Q I rv h;obtain ⟨p,ns,rfl,hq,hn,q⟩:=h;obtain ⟨u,rfl,ru⟩:=rv.one;cases ru;obtain ⟨its,r,pl,hz⟩:=I.list hq;have hl:=r.length;rw [List.length_map] at hl;refine call_set_list (I.ok.hd hc) pl.isList (by simpa using Oq r) (by rw [List.size_toArray,<-hl];exact Nat.lt_of_lt_of_le (Nat.succ_lt_succ hn) (by decide)) λh' tk hS hk=>?_;have es:its.toArray.size=ns.length:=by rw [List.size_toArray];exact hl.symm
 rw [es] at hS;exact ⟨.ref _,_,I.laid (o:=.set _ _) (λb o e=>hk b o (Heap.lt_size e) e) (Nat.le_refl _) hS,rfl,q _ I.fresh⟩
theorem Zbd:J2 X (.builtin "len") (λxs H Q=>∃p S n,xs=[.ref p]/\H p=some (.set S n)/\n<2 ^ 60/\Q (.int (n:Nat)) H):=by
 intro qQ s σ H xs us Q I rv h;obtain ⟨p,S,n,rfl,hp,hn,q⟩:=h;obtain ⟨u,rfl,ru⟩:=rv.one;cases ru;obtain ⟨o,es,ep,t,e1,e2,e3,e4,e5,e6,e7,rfl⟩:=I.hok p _ hp;refine call_len_set e1 e2 e3 e7 (by lia) ?_;exact ⟨.int _,H,I.tok _,⟨_,rfl⟩,q⟩
end
end L2
namespace L2
open PySem PySem.Spec PyProof.Rows
section
variable {κ:Type}[DecidableEq κ]
def OT (kvs:List (κ×V))(k:κ):Option V:=(kvs.find? λkv=>decide (kv.1=k)).map (·.2)
def VY (kvs:List (κ×V))(k:κ)(v:V):List (κ×V):=
 if (kvs.any λkv=>decide (kv.1=k))=true then kvs.map (λkv=>if kv.1=k then (kv.1,v) else kv) else kvs++[(k,v)]
theorem JC {p:κ×V}{r:List (κ×V)}{k:κ}(e:p.1=k):OT (p::r) k=some p.2:=by simp [OT,List.find?_cons,e]
theorem JD {p:κ×V}{r:List (κ×V)}{k:κ}(e:¬ p.1=k):OT (p::r) k=OT r k:=by simp [OT,List.find?_cons,e]
theorem Ud (k:κ):∀kvs:List (κ×V),(kvs.any λkv=>decide (kv.1=k))=(OT kvs k).isSome
 | []=>rfl
 | p::r=>by
  rw [List.any_cons];by_cases e:p.1=k
  ·simp only [JC e,decide_eq_true e,Bool.true_or,Option.isSome_some]
  ·rw [JD e,decide_eq_false e,Bool.false_or];exact Ud k r
theorem WC (k j:κ)(y:V):∀kvs:List (κ×V),OT (kvs.map λkv=>if kv.1=k then (kv.1,y) else kv) j=(OT kvs j).map λx=>if j=k then y else x
 | []=>rfl
 | p::r=>by
  have ih:=WC k j y r;rw [List.map_cons];by_cases h:p.1=k
  ·rw [if_pos h];by_cases e:p.1=j
   ·rw [JC (p:=(p.1,y)) e,JC e,Option.map_some,if_pos (e.symm.trans h)]
   ·rw [JD (p:=(p.1,y)) e,JD e,ih]
  ·rw [if_neg h];by_cases e:p.1=j
   ·rw [JC (p:=p) e,JC e,Option.map_some,if_neg (λz=>h (e.trans z))]
   ·rw [JD (p:=p) e,JD e,ih]
theorem VG (k j:κ)(y:V):∀kvs:List (κ×V),OT kvs k=none->OT (kvs++[(k,y)]) j=if j=k then some y else OT kvs j
 | [],_=>by
  by_cases e:k=j
  ·rw [if_pos e.symm];exact JC (p:=(k,y)) e
  ·rw [if_neg (λz=>e z.symm)];exact JD (p:=(k,y)) e
 | p::r,hn=>by
  rw [List.cons_append];have hk:¬ p.1=k:=λz=>by rw [JC z] at hn;cases hn
  rw [JD hk] at hn;have ih:=VG k j y r hn;by_cases e:p.1=j
  ·rw [JC e,JC e,if_neg (λz=>hk (e.trans z))]
  ·rw [JD e,JD e,ih]
theorem U8 (kvs:List (κ×V))(k j:κ)(y:V):OT (VY kvs k y) j=if j=k then some y else OT kvs j:=by
 unfold VY;by_cases a:(kvs.any λkv=>decide (kv.1=k))=true
 ·rw [if_pos a,WC];rw [Ud] at a;by_cases e:j=k
  ·obtain ⟨x,hx⟩:=Option.isSome_iff_exists.mp a;rw [if_pos e,e,hx,Option.map_some,if_pos rfl]
  ·rw [if_neg e];cases OT kvs j with
   | none=>rfl
   | some x=>rw [Option.map_some,if_neg e]
 ·rw [if_neg a];refine VG k j y kvs ?_;rw [Ud] at a;cases q:OT kvs k with
  | none=>rfl
  | some x=>rw [q] at a;exact (a rfl).elim
theorem JQ (kvs:List (κ×V))(k:κ)(v:V):(VY kvs k v).length<=kvs.length+1:=by
 unfold VY;split
 ·rw [List.length_map];lia
 ·rw [List.length_append,List.length_cons,List.length_nil];lia
theorem RelO.isSome_eq {o:Option V}{u:Option Value}(r:RelO o u):o.isSome=u.isSome:=by
 cases o with
 | none=>cases u with
  | none=>rfl
  | some _=>exact (show False from r).elim
 | some _=>cases u with
  | none=>exact (show False from r).elim
  | some _=>rfl
theorem KV.val {kvs:List (κ×V)}{vs:List (κ×Value)}(r:KV kvs vs)(k:κ):RelO (OT kvs k) (valueAt vs k):=by
 unfold KV at r
 induction r with
 | nil=>exact True.intro
 | @cons p q ps qs h t ih=>
  obtain ⟨h1,h2⟩:=h;by_cases e:p.1=k
  ·have e':q.1=k:=h1.symm.trans e;have b:valueAt (q::qs) k=some q.2:=by simp [valueAt,List.find?_cons,e']
   rw [JC e,b];exact h2
  ·have e':¬ q.1=k:=λz=>e (h1.trans z);have b:valueAt (q::qs) k=valueAt qs k:=by simp [valueAt,List.find?_cons,e']
   rw [JD e,b];exact ih
theorem KV.any {kvs:List (κ×V)}{vs:List (κ×Value)}(r:KV kvs vs)(k:κ):(kvs.any λkv=>decide (kv.1=k))=vs.any λkv=>decide (kv.1=k):=by
 unfold KV at r
 induction r with
 | nil=>rfl
 | cons h t ih=>rw [List.any_cons,List.any_cons,ih,h.1]
theorem KV.repl {kvs:List (κ×V)}{vs:List (κ×Value)}(r:KV kvs vs)(k:κ){y:V}{u:Value}(ry:RelV y u) :
  KV (kvs.map λkv=>if kv.1=k then (kv.1,y) else kv) (vs.map λkv=>if kv.1=k then (kv.1,u) else kv):=by
 unfold KV at r ⊢
 induction r with
 | nil=>exact .nil
 | @cons p q ps qs h t ih=>
  rw [List.map_cons,List.map_cons];refine .cons ?_ ih;obtain ⟨h1,h2⟩:=h;by_cases e:p.1=k
  ·rw [if_pos e,if_pos (h1.symm.trans e)];exact ⟨h1,ry⟩
  ·rw [if_neg e,if_neg (λz=>e (h1.trans z))];exact ⟨h1,h2⟩
theorem KV.put {kvs:List (κ×V)}{vs:List (κ×Value)}(r:KV kvs vs)(k:κ){y:V}{u:Value}(ry:RelV y u):KV (VY kvs k y) (stored vs k u):=by
 unfold VY stored;rw [r.any k];by_cases e:(vs.any λkv=>decide (kv.1=k))=true
 ·rw [if_pos e,if_pos e];exact r.repl k ry
 ·rw [if_neg e,if_neg e];exact Paired.snoc r ⟨rfl,ry⟩
theorem KV.length {kvs:List (κ×V)}{vs:List (κ×Value)}(r:KV kvs vs):kvs.length=vs.length:=Paired.length r
end
theorem Yb {P:Program}{w:World}{k:Key}{u:Value}(r:RelV (kV k) u):(Jh P w).is k u=true:=by
 cases k with
 | inl i=>obtain ⟨t,e⟩:=(show ∃t,u=Value.int i t from r);subst e;exact VZ P w i t
 | inr x=>obtain ⟨t,e⟩:=(show ∃t,u=Value.str x t from r);subst e;exact G3 P w x t
theorem VH {P:Program}{w:World}:∀{ks:List Key}{us:List Value},Vals (ks.map kV) us->ItemsAre (Jh P w) ks us
 | [],_,r=>by rw [List.map_nil] at r;cases r;exact .nil
 | k::ks,_,r=>by
  rw [List.map_cons] at r;cases r with
  | cons h t=>exact .cons (Yb h) (VH t)
abbrev KT (H:Hp):List (List Key×V)->List (List Key×Addr×Value)->Prop:=Paired λp q=>p.1=q.1/\H q.2.1=some (.tup (p.1.map kV))/\RelV p.2 q.2.2
theorem KT.val {H:Hp}{kvs:List (List Key×V)}{xs:List (List Key×Addr×Value)}(r:KT H kvs xs)(k:List Key):RelO (OT kvs k) ((atKey xs k).map (·.2)):=by
 induction r with
 | nil=>exact True.intro
 | @cons p q ps qs h t ih=>
  obtain ⟨h1,_,h2⟩:=h;by_cases e:p.1=k
  ·have e':q.1=k:=h1.symm.trans e;have b:atKey (q::qs) k=some q.2:=by simp [atKey,List.find?_cons,e']
   rw [JC e,b];exact h2
  ·have e':¬ q.1=k:=λz=>e (h1.trans z);have b:atKey (q::qs) k=atKey qs k:=by simp [atKey,List.find?_cons,e']
   rw [JD e,b];exact ih
theorem KT.repl {H:Hp}{kvs:List (List Key×V)}{xs:List (List Key×Addr×Value)}(r:KT H kvs xs)(k:List Key){y:V}{u:Value}(ry:RelV y u) :
  KT H (kvs.map λkv=>if kv.1=k then (kv.1,y) else kv) (xs.map (putAt k u)):=by
 induction r with
 | nil=>exact .nil
 | @cons p q ps qs h t ih=>
  rw [List.map_cons,List.map_cons];refine .cons ?_ ih;obtain ⟨h1,h2,h3⟩:=h;unfold putAt;by_cases e:p.1=k
  ·rw [if_pos e,if_pos (h1.symm.trans e)];exact ⟨h1,h2,ry⟩
  ·rw [if_neg e,if_neg (λz=>e (h1.trans z))];exact ⟨h1,h2,h3⟩
theorem KT.put {H:Hp}{kvs:List (List Key×V)}{xs:List (List Key×Addr×Value)}(r:KT H kvs xs)(k:List Key){b:Addr}{y:V}{u:Value}(hb:H b=some (.tup (k.map kV)))(ry:RelV y u) :
  KT H (VY kvs k y) (storedH xs k b u):=by
 have e:(kvs.any λkv=>decide (kv.1=k))=(atKey xs k).isSome:=by
  rw [Ud,(r.val k).isSome_eq,Option.isSome_map]
 unfold VY storedH;rw [e];by_cases q:(atKey xs k).isSome=true
 ·rw [if_pos q,if_pos q];exact r.repl k ry
 ·rw [if_neg q,if_neg q];exact Paired.snoc r ⟨rfl,hb,ry⟩
theorem KT.keeps {H H':Hp}{kvs:List (List Key×V)}{xs:List (List Key×Addr×Value)}(r:KT H kvs xs)(ht:∀b ys,H b=some (.tup ys)->H' b=some (.tup ys)):KT H' kvs xs:=
 Paired.mapP r λ_ _ z=>⟨z.1,ht _ _ z.2.1,z.2.2⟩
section
variable {P:Program}{w:World}{H:Hp}{h:Heap}{a:Addr}
theorem ZcO {u:HO}(ok:HOk P w H h)(e:Rd H a u):ObjOk P w H h a u:=e.ok ok
theorem Zv {kvs:List (Key×V)}(ok:HOk P w H h)(e:Rd H a (.dK kvs)):kvs.length<=sizeLine/\(a == sysModules)=false/\∃vs,KV kvs vs/\h.DictOf (Jh P w) a vs:=
 show ObjOk P w H h a (.dK kvs) from ZcO ok e
theorem ZeD {kvs:List (Key×V)}(ok:HOk P w H h)(e:H a=some (.dK kvs)):kvs.length<=sizeLine/\(a == sysModules)=false/\∃vs,KV kvs vs/\h.DictOf (Jh P w) a vs:=Zv ok (.inl e)
theorem WD {ks:List Key}(ok:HOk P w H h)(e:H a=some (.tup (ks.map kV))):(tupleKind (Jh P w)).is h ks a:=by
 obtain ⟨_,its,r,o,h1,h2,n,h3⟩:=(show ObjOk P w H h a (.tup (ks.map kV)) from ok a _ e);exact ⟨o,its.toArray,n,h1,h2,h3,by simpa using VH r⟩
theorem Zw {kvs:List (List Key×V)}(ok:HOk P w H h)(e:Rd H a (.dT kvs)):kvs.length<=sizeLine/\(a == sysModules)=false /\
  ∃xs,KT H kvs xs/\h.DictOfH (tupleKind (Jh P w)) a xs:=by
 obtain ⟨z,y,xs,r,o,es,ep,h1,h2,h3,h4,h5⟩:=(show ObjOk P w H h a (.dT kvs) from ZcO ok e);refine ⟨z,y,xs,r,o,es,ep,h1,h2,h3,h4,λx hx=>?_,h5⟩;have all:∀{l:List (List Key×V)}{m:List (List Key×Addr×Value)},KT H l m->∀x∈m,(tupleKind (Jh P w)).is h x.1 x.2.1:=by
  intro l m q
  induction q with
  | nil=>intro x hx;exact nomatch hx
  | @cons p q ps qs hq t ih=>
   intro x hx;rcases List.mem_cons.mp hx with e | hx
   ·subst e;exact WD ok (by rw [<-hq.1];exact hq.2.1)
   ·exact ih x hx
 exact all r x hx
theorem ZeE {kvs:List (List Key×V)}(ok:HOk P w H h)(e:H a=some (.dT kvs)):kvs.length<=sizeLine/\(a == sysModules)=false /\
  ∃xs,KT H kvs xs/\h.DictOfH (tupleKind (Jh P w)) a xs:=Zw ok (.inl e)
end
def DGet (H:Hp)(a:Addr)(y:V)(r:Option V):Prop:=
 (∃kvs k,Rd H a (.dK kvs)/\y=kV k/\r=OT kvs k)\/∃kvs k b,Rd H a (.dT kvs)/\y=.ref b/\H b=some (.tup (k.map kV))/\r=OT kvs k
def DPut (H:Hp)(a:Addr)(y v:V)(H':Hp):Prop:=
 (∃kvs k,H a=some (.dK kvs)/\y=kV k/\kvs.length<sizeLine/\H'=upd H a (.dK (VY kvs k v))) \/
 ∃kvs k b,H a=some (.dT kvs)/\y=.ref b/\H b=some (.tup (k.map kV))/\kvs.length<sizeLine/\H'=upd H a (.dT (VY kvs k v))
theorem DGet.t {H:Hp}{a b:Addr}{kvs:List (List Key×V)}{k:List Key}(e:H a=some (.dT kvs))(eb:H b=some (.tup (k.map kV))):DGet H a (.ref b) (OT kvs k):=.inr ⟨kvs,k,b,.inl e,rfl,eb,rfl⟩
theorem DPut.t {H:Hp}{a b:Addr}{kvs:List (List Key×V)}{k:List Key}{v:V}(e:H a=some (.dT kvs))(eb:H b=some (.tup (k.map kV)))(hl:kvs.length<sizeLine) :
  DPut H a (.ref b) v (upd H a (.dT (VY kvs k v))):=.inr ⟨kvs,k,b,e,rfl,eb,hl,rfl⟩
section
variable {X:Cx}{qQ:List (Addr×Obj)}{σ:St}{H:Hp}{s:Shared}{a:Addr}{y v:V}{u r:Value}{o:Option V}{A:Around}{E:Value->Shared->Prop}
theorem Inv.big (I:Inv X qQ σ H s):sysModules<s.heap.objs.size:=by
 have h:mainGlobals<s.heap.objs.size:=(I.mod.glob.keeps I.bk).lt;exact Nat.lt_trans (by decide) h
theorem Yc {Q:Value->Shared->Prop}(hu:A.units+1<cLine)(I:Inv X qQ σ H s)(g:DGet H a y (some v))(ry:RelV y u)(h:∀w' s',Inv X qQ σ H s'->RelV v w'->Q w' s') :
  wpAny (model X.prog X.w) A (getItem (.ref a) u) Q E s:=by
 rcases g with ⟨kvs,k,e,ey,l⟩ | ⟨kvs,k,b,e,ey,eb,l⟩
 ·subst ey;obtain ⟨z,hd,vs,rel,dd⟩:=Zv I.hok e;obtain ⟨w',hw,rw'⟩:=RelO.some_of (v:=v) (o:=valueAt vs k) (by rw [l];exact rel.val k);exact wpAny_getItem_of (Yb ry) dd.mapOf hw (h w' _ (I.tok _) rw')
 ·subst ey;cases (show u=Value.ref b from ry);obtain ⟨z,hd,xs,rel,dd⟩:=Zw I.hok e;obtain ⟨w',hw,rw'⟩:=RelO.some_of (v:=v) (o:=(atKey xs k).map (·.2)) (by rw [l];exact rel.val k);obtain ⟨p,hp,hp2⟩:=Option.map_eq_some_iff.mp hw;refine wpAny_getItem_heap (tupleKind_room_in1 hu) (WD I.hok eb) dd hp ?_;rw [hp2];exact h w' _ (I.tok _) rw'
theorem ZfU {Q:Value->Shared->Prop}(hu:A.units+1<cLine)(I:Inv X qQ σ H s)(g:DGet H a y o)(ry:RelV y u)(h:∀s',Inv X qQ σ H s'->Q (.bool o.isSome) s') :
  wpAny (model X.prog X.w) A (compareOp .In u (.ref a)) Q E s:=by
 rcases g with ⟨kvs,k,e,ey,l⟩ | ⟨kvs,k,b,e,ey,eb,l⟩
 ·subst ey;obtain ⟨z,hd,vs,rel,dd⟩:=Zv I.hok e;refine wpAny_in_of (Yb ry) hd dd.mapOf ?_;rw [<-(rel.val k).isSome_eq,<-l];exact h _ (I.tok _)
 ·subst ey;cases (show u=Value.ref b from ry);obtain ⟨z,hd,xs,rel,dd⟩:=Zw I.hok e;refine wpAny_in_heap (tupleKind_room_in1 hu) (WD I.hok eb) hd dd ?_;have q:=(rel.val k).isSome_eq;rw [Option.isSome_map] at q;rw [<-q,<-l];exact h _ (I.tok _)
theorem Yd {h':Heap}{t':Nat}{ob:HO}(I:Inv X qQ σ H s)(mu:Mut (H a))(hs:Heap.SameBut a s.heap h')(he:∃q,h'.get? a=some q)(new:ObjOk X.prog X.w (upd H a ob) h' a ob) :
  Inv X qQ σ (upd H a ob) { s with heap:=h',toks:=t' }:=
 I.write (x:=a) (e:=a) mu (.inl rfl) (λb q hb z=>(hs.2 b hb).trans z) he new
theorem ZcP {P:Program}{w:World}{H':Hp}{h':Heap}{kvs:List (Key×V)}{vs:List (Key×Value)}(z:kvs.length<=sizeLine)(hd:(a == sysModules)=false)(rel:KV kvs vs)(dd:h'.DictOf (Jh P w) a vs) :
  ObjOk P w H' h' a (.dK kvs):=⟨z,hd,vs,rel,dd⟩
theorem Ye {H':Hp}{Q:Unit->Shared->Prop}(hu:A.units+1<cLine)(I:Inv X qQ σ H s)(g:DPut H a y v H')(ry:RelV y u)(rv:RelV v r)(h:∀s',Inv X qQ σ H' s'->Q () s') :
  wpAny (model X.prog X.w) A (setItem (.ref a) u r) Q E s:=by
 rcases g with ⟨kvs,k,e,ey,l,eH⟩ | ⟨kvs,k,b,e,ey,eb,l,eH⟩
 ·subst ey eH;obtain ⟨z,hd,vs,rel,dd⟩:=ZeD I.hok e;have hz:vs.length<=sizeLine:=by rw [<-rel.length];exact z
  have hl:(VY kvs k v).length<=sizeLine:=by have:=JQ kvs k v;lia
  refine wpAny_setItem_pairs (hsz:=hz) (Yb ry) dd λh' dd' hs=>h _ ?_;have he:∃q,h'.get? a=some q:=let ⟨q,_,_,hq,_⟩:=dd';⟨q,hq⟩;exact Yd I (by rw [e];exact True.intro) hs he (ZcP hl hd (rel.put k rv) dd')
 ·subst ey eH;cases (show u=Value.ref b from ry);obtain ⟨z,hd,xs,rel,dd⟩:=ZeE I.hok e;have hz:xs.length<=sizeLine:=by rw [<-Paired.length rel];exact z
  have hl:(VY kvs k v).length<=sizeLine:=by have:=JQ kvs k v;lia
  refine wpAny_setItem_heap (hsz:=hz) (tupleKind_room_in1 hu) (WD I.hok eb) dd λh' dd' hs=>h _ ?_;obtain ⟨q,es,ep,hq,h2,h3,h4,_,h5⟩:=dd';refine Yd I (by rw [e];exact True.intro) hs ⟨q,hq⟩ ⟨hl,hd,_,(rel.put k eb rv).keeps λc ys ec=>?_,q,es,ep,hq,h2,h3,h4,h5⟩;rw [Gu (W6 ec e (λz=>nomatch z))];exact ec
end
def ZeF (i:Expr):Prop:=∀ov iv,subscripted i false ov iv=operate [ov,iv] (getItem ov iv)
theorem Yg {prog:Program}{w:World}{A:Around}{E:Value->Shared->Prop}{s:Shared}{env:Env}{value slice:Expr}{pos:Pos}{T id:String}{Q:Value->Shared->Prop}(hl:typeLookup (.type T) "__getitem__" = pure (some (.builtin id)))(hs:ZeF slice)(h:wpAny (model prog w) A (eval value env) (λo s₁=>wpAny (model prog w) A (eval slice env) (λi s₂=>s₂.TypeIs o T/\wpAny (model prog w) A (getItem o i) Q E s₂) E s₁) E s) :
  wpAny (model prog w) A (eval (.Subscript value slice pos) env) Q E s:=by
 refine Subscript_ (wpAny_mono h (λo s₁ h₁=>wpAny_mono h₁ (λi s₂ h₂=>?_) λ_ _ x=>x) λ_ _ x=>x);obtain ⟨hT,h₂⟩:=h₂;unfold subscriptTail;refine wpAny_bind ?_;rw [getitemInPython_of_ne hT.not_modules];refine wpAny_bind (wpAny_specialOf hT hl ?_);have fin:wpAny (model prog w) A (subscripted slice false o i) (λr s₃=>wpAny (model prog w) A (letTemporaryGo value o r >>= λ_=>pure r) Q E s₃) E s₂:=by
  rw [hs o i];exact wpAny_operating (wpAny_mono h₂ (λr s₃ h₃=>wpAny_bind (wpAny_letTemporaryGo (wpAny_pure h₃))) λ_ _ x=>x)
 first
  | exact wpAny_pure (wpAny_bind fin)
  | exact wpAny_bind (wpAny_pure (wpAny_bind fin))
  | exact wpAny_bind fin
theorem V3 {X:Cx}{qQ:List (Addr×Obj)}{σ:St}{H:Hp}{s:Shared}{a:Addr}{y:V}{o:Option V}(I:Inv X qQ σ H s)(g:DGet H a y o):s.TypeIs (.ref a) "dict" := by
 rcases g with ⟨kvs,k,e,_,_⟩ | ⟨kvs,k,b,e,_,_,_⟩
 ·obtain ⟨_,_,vs,_,dd⟩:=Zv I.hok e;exact dd.typeIs
 ·obtain ⟨_,_,xs,_,dd⟩:=Zw I.hok e;exact dd.typeIs
def ZeG (td ty:TE):TE:=λσ H Q=>td σ H λx H1=>ty σ H1 λy H2=>∃a v,x=.ref a/\DGet H2 a y (some v)/\Q v H2
def ZfV (ty td:TE):TE:=λσ H Q=>ty σ H λy H1=>td σ H1 λx H2=>∃a o,x=.ref a/\DGet H2 a y o/\Q (.bl o.isSome) H2
def ZeH (td ty tv:TE):TS:=λD σ H=>tv σ H λv H1=>td σ H1 λx H2=>ty σ H2 λy H3=>∃a H4,x=.ref a/\DPut H3 a y v H4/\D.nx σ H4
section
variable {X:Cx}{o i e value:Expr}{pos pos' tpos:Pos}{td ty tv:TE}
theorem V4 (hu:X.A.units+1<cLine)(ho:PE X o td)(hi:PE X i ty)(hs:ZeF i):PE X (.Subscript o i pos) (ZeG td ty):=by
 intro qQ s σ H Q I h;refine Yg PySem.F.slot_dict_getitem.lookup hs (thn (ho qQ s σ H _ I h) λu s1 ⟨x,H1,I1,rx,q1⟩=>thn (hi qQ s1 σ H1 _ I1 q1) λiv s2 ⟨y,H2,I2,ry,a,v,ex,g,q2⟩=>?_);subst ex;obtain rfl:u=Value.ref a:=rx;exact ⟨V3 I2 g,Yc hu I2 g ry λw' s3 I3 rw'=>⟨v,H2,I3,rw',q2⟩⟩
theorem Yh (hu:X.A.units+1<cLine)(hi:PE X i ty)(ho:PE X o td):PC X .In i o (ZfV ty td):=by
 intro qQ s σ H Q I h;refine thn (hi qQ s σ H _ I h) λiv s1 ⟨y,H1,I1,ry,q1⟩=>thn (ho qQ s1 σ H1 _ I1 q1) λu s2 ⟨x,H2,I2,rx,a,ov,ex,g,q2⟩=>?_;subst ex;obtain rfl:u=Value.ref a:=rx;exact ZfU hu I2 g ry λs3 I3=>⟨.bl ov.isSome,H2,I3,rfl,q2⟩
theorem V5 (hu:X.A.units+1<cLine)(ho:PE X o td)(hi:PE X i ty)(hv:PE X value tv)(hs:swapsWith value (some (.Subscript o i pos')) pos.line X.env=pure false) :
  PS X (.Assign [.Subscript o i pos'] value pos) (ZeH td ty tv):=by
 intro qQ s σ H D I h;refine wpAny_Assign_Subscript (thn (hv qQ s σ H _ I h) λr s1 ⟨v,H1,I1,rv,q1⟩=>thn (ho qQ s1 σ H1 _ I1 q1) λu s2 ⟨x,H2,I2,rx,q2⟩=>thn (hi qQ s2 σ H2 _ I2 q2) λiv s3 ⟨y,H3,I3,ry,a,H4,ex,g,q3⟩=>?_) hs;subst ex;obtain rfl:u=Value.ref a:=rx;exact Ye hu I3 g ry rv λs4 I4=>⟨σ,H4,I4,q3⟩
end
theorem Zx {P:Program}{w:World}{H:Hp}(h:Heap)(hb:sysModules<h.objs.size):ObjOk P w H (h.push { cls:=.type "dict", data:=.dict #[] }) h.objs.size (.dT []):=
 ⟨Nat.zero_le _,beq_eq_false_iff_ne.mpr (Ne.symm (Nat.ne_of_lt hb)),[],.nil,_,#[],0,Heap.get?_push_size _ rfl,⟨rfl,rfl,rfl⟩,rfl,rfl,List.nodup_nil⟩
def ZcQ:TE:=λ_ H Q=>∀p,H p=none->Q (.ref p) (upd H p (.dT []))
section
variable {X:Cx}{pos:Pos}
theorem WE:PE X (.Dict [] [] pos) ZcQ:=λqQ s σ H Q I h=>
 wpAny_Dict_empty ⟨.ref s.heap.objs.size,_,I.laid (a:=s.heap.objs.size) (o:=.dT []) (t':=s.toks) (λ_ _ q=>Heap.get?_push_of_some _ q) (Nat.le_refl _) (Zx s.heap I.big),rfl,h _ (I.hok.fresh (Nat.le_refl _))⟩
end
end L2
namespace L2
open PySem PySem.Spec PyProof.Rows
section
variable {X:Cx}
theorem kBm {T:String}{name:Str}{id:String}{r:V->List V->Hp->VK->Prop}{o e:Expr}{es:List Expr}{to:TE}{t:TA}{apos qV:Pos}(K:W.Frag)(pa:PlainAttrs T)(slot:Slot T name id)(hty:typeOf (.builtin id)=pure (.type "method_descriptor"))(hm:MtM X id r)(ho:PE X o to)(ha:PA X (e::es) t)(hK:X.K=K:=by rfl)(hbase:attributeBase o name X.env (eval o X.env)=eval o X.env:=by rfl)(hfew:((backTo qV (starEach (e::es) X.env)).all (λx=>!x.1) && (backToKw qV (keywordEach [] X.env)).all (λx=>x.1.isSome)
   && decide ((e::es).length+([]:List Keyword).length+(if ([]:List Keyword).isEmpty then 0 else 1)<30))=true:=by rfl)(hline:(apos.endLine == qV.line)=true:=by rfl)(hs:starEach (e::es) X.env=(false,eval e X.env)::starEach es X.env:=by rfl)(hplain:(backTo qV (starEach es X.env)).any (·.1)=false:=by rfl) :
  PE X (.Call (.Attribute o name apos) (e::es) [] qV) (tBM K T r to t):=hK▸Ou pa slot hty hm ho ha hbase hfew hline hs hplain
end
end L2
namespace L2
open PySem PySem.Spec PyProof.Rows
structure Lane where
 it:Addr
 l:Addr
 xs:Array Value
def Lane.On (r:Lane)(k:Nat)(h:Heap):Prop:=h.IsListIter r.it r.l k/\h.IsList r.l r.xs
theorem Lane.On.keep {r:Lane}{k:Nat}{h h':Heap}(x:r.On k h)(e:∀c,c=r.it\/c=r.l->∀o,h.get? c=some o->h'.get? c=some o):r.On k h':=
 ⟨x.1.at (e _ (.inl rfl)),x.2.at (e _ (.inr rfl))⟩
structure ZcR (rs:List Lane):Prop where
 nd:(rs.map Lane.it).Nodup
 ls:∀r∈rs,∀q∈rs,q.l≠r.it
abbrev V6 (h:Heap)(z TI TO:Addr)(f0:Value)(f1:Bool):Prop:=
 h.get? z=some { cls:=.type "zip", dict:=none,data:=.fields #[f0,.bool f1,.bool false,.ref TI,.ref TO],slots:=#[] }
section
variable {prog:Program}{w:World}{A:Around}{E:Value->Shared->Prop}{s:Shared}
theorem Yi {z TI TO T:Addr}{f1:Bool}{o:Obj}{Q:Bool->Shared->Prop}(hz:V6 s.heap z TI TO (rawInt T) f1)(hT:s.heap.get? T=some o)(h:∀h',V6 h' z TI TO (rawInt T) true->Heap.SameBut z s.heap h'->Q false { s with heap:=h' }):wpAny (model prog w) A (Builtin.SmallTypes.ownedTupleIsFree (.ref z)) Q E s:=by
 wp_walk using wpAny_field hz rfl rfl
 refine W.kdx_alive (a:=T) hT ?_;cases f1
 ·wp_walk using wpAny_field hz rfl rfl
  exact h _ (Heap.get?_update_self _ hz rfl) (Heap.SameBut.update ..)
 ·wp_walk using wpAny_field hz rfl rfl
  exact h s.heap hz ⟨rfl,λ_ _=>rfl⟩
theorem Zy {z TI TO T:Addr}{f1:Bool}{o:Obj}{rs:List Lane}{k:Nat}{Q:Value->Shared->Prop}(hh:A.handled=none)(ap:ZcR rs)(hz:V6 s.heap z TI TO (rawInt T) f1)(hT:s.heap.get? T=some o)(hr:∀r∈rs,r.it≠z/\r.l≠z)(hTI:s.heap.get? TI=some { cls:=.type "tuple", data:=.seq (rs.map λr=>Value.ref r.it).toArray })(h0:rs≠[])(hl:rs.length<=64)(on:∀r∈rs,r.On k s.heap)(hQ:∀(vs:List Value) h',rs.map (λr=>r.xs[k]?)=vs.map some->V6 h' z TI TO (rawInt T) true->(∀r∈rs,r.On (k+1) h')->h'.get? s.heap.objs.size=some { cls:=.type "tuple", data:=.seq vs.toArray }->h'.objs.size=s.heap.objs.size+1 ->
   (∀c o,c≠z->c ∉ rs.map Lane.it->s.heap.get? c=some o->h'.get? c=some o)->Q (.ref s.heap.objs.size) { s with heap:=h' })(hE:∀h' e,(∃r∈rs,r.xs[k]?=none)->(∀c o,c≠z->c ∉ rs.map Lane.it->s.heap.get? c=some o->h'.get? c=some o)->(∃o,h'.get? e=some o/\o.cls=.type "StopIteration")->E (.ref e) { s with heap:=h' }) :
  wpAny (model prog w) A (Builtin.«zip.__next__» ⟨[.ref z],[]⟩) (λfin s'=>∃v,fin=.done (.ret v)/\Q v s') E s:=by
 have hne:(rs.map λr=>Value.ref r.it).toArray.isEmpty=false:=by cases rs with
  | nil=>exact absurd rfl h0
  | cons=>rfl
 wp_walk using wpAny_field hz rfl rfl,wpAny_seqItems hTI rfl,Yi hz hT
 intro h1 z1 s1
 wp_walk
 refine MeetsSeq2.wpAny_forIn_array _ (λrest b s'=>∃dn rm h',rs=dn++rm/\rest=rm.map (λr=>Value.ref r.it)/\b.1=none/\dn.map (λr=>r.xs[k]?)=b.2.toList.map some/\s'={ s with heap:=h' }/\h'.objs.size=s.heap.objs.size /\
   (∀r∈dn,r.On (k+1) h')/\(∀r∈rm,r.On k h')/\∀c o,c ∉ rs.map Lane.it->h1.get? c=some o->h'.get? c=some o) _ ?_ ?_ _ _ ?_
 ·rintro x rest ⟨b1,b2⟩ s' ⟨dn,rm,h',hd,hx,hb,hv,rfl,hsz,on1,on0,kp⟩;cases rm with
  | nil=>cases hx
  | cons r rm=>
   obtain ⟨rfl,rfl⟩:x=Value.ref r.it/\rest=rm.map (λr=>Value.ref r.it):=by cases hx;exact ⟨rfl,rfl⟩
   have mr:r∈rs:=by rw [hd];simp
   have nd:=ap.nd;rw [hd,List.map_append,List.map_cons,List.nodup_append] at nd;obtain ⟨-,nd2,nd3⟩:=nd;have nr:∀q,q∈dn\/q∈rm->q.it≠r.it/\q.l≠r.it:=λq hq=>⟨hq.elim (λy=>nd3 _ (List.mem_map_of_mem y) _ List.mem_cons_self) (λy e=>(List.nodup_cons.1 nd2).1 (e▸List.mem_map_of_mem y)),ap.ls r mr q (by rw [hd];rcases hq with y | y <;> simp [y])⟩;have o0:=on0 r List.mem_cons_self;refine wpAny_bind (wpAny_holding (?_:wpAny _ _ (Builtin.SmallTypes.nextOf (.ref r.it) >>= λv=>pure (some v)) _ _ _));cases e:r.xs[k]? with
   | none=>
    refine wpAny_bind (wpAny_nextOf_list_end hh o0.1 o0.2 e λh2 e2 x2 c2=>?_);exact hE h2 e2 ⟨r,mr,e⟩ (λc o c1 c3 q=>x2 c o (λy=>c3 (y▸List.mem_map_of_mem mr)) (kp c o c3 (by rw [s1.2 c c1];exact q))) c2
   | some v=>
    refine wpAny_bind (wpAny_nextOf_list_item o0.1 o0.2 e λh2 on2 x2=>?_)
    wp_walk
    have ot:∀q,q∈dn\/q∈rm->∀c,c=q.it\/c=q.l->∀o,h'.get? c=some o->h2.get? c=some o:=λq hq c hc o y=>by
     rw [x2.2 c (hc.elim (λy=>y▸(nr q hq).1) (λy=>y▸(nr q hq).2))];exact y
    refine ⟨dn++[r],rm,h2,by rw [hd];simp,rfl,rfl,?_,rfl,x2.1.trans hsz,λq hq=>?_,λq hq=>(on0 q (List.mem_cons_of_mem _ hq)).keep (ot q (.inr hq)),λc o c1 q=>?_⟩
    ·rw [List.map_append,hv];simp [e]
    ·rcases List.mem_append.1 hq with y | y
     ·exact (on1 q y).keep (ot q (.inl y))
     ·cases List.mem_singleton.1 y;exact ⟨on2,o0.2.at λo y=>by rw [x2.2 _ (ap.ls r mr r mr)];exact y⟩
    ·rw [x2.2 c (λy=>c1 (y▸List.mem_map_of_mem mr))];exact kp c o c1 q
 ·rintro ⟨b1,b2⟩ s' ⟨dn,rm,h',hd,hx,hb,hv,rfl,hsz,on1,on0,kp⟩;cases rm with
  | cons=>cases hx
  | nil=>
   cases hb;rw [List.append_nil] at hd;subst hd;have hlv:b2.toList.length<=sizeLine:=by
    have:=congrArg List.length hv;rw [List.length_map,List.length_map] at this;rw [<-this,sizeLine_eq];lia
   wp_walk using wpAny_newTuple (hsz:=hlv)
   have pu:∀c o,h'.get? c=some o->(h'.push { cls:=.type "tuple", data:=.seq b2.toList.toArray }).get? c=some o:=λc o=>Heap.get?_push_of_some _;refine ⟨_,rfl,?_⟩;rw [hsz];refine hQ b2.toList _ hv (pu _ _ (kp _ _ (λy=>?_) z1)) (λr y=>(on1 r y).keep λc _=>pu c) ?_ (by rw [Heap.size_push,hsz]) λc o c1 c2 q=>pu _ _ (kp _ _ c2 (by rw [s1.2 c c1];exact q))
   ·obtain ⟨r,y,e⟩:=List.mem_map.1 y;exact (hr r y).1 e
   ·rw [<-hsz];exact Heap.get?_push_size _ rfl
 ·exact ⟨[],rs,h1,rfl,rfl,rfl,rfl,rfl,s1.1,λ_ y=>absurd y (List.not_mem_nil),λr y=>(on r y).keep λc hc o q=>by rw [s1.2 c (hc.elim (λe=>e▸(hr r y).1) (λe=>e▸(hr r y).2))];exact q,λ_ _ _ q=>q⟩
theorem Zz {z TI TO T:Addr}{f1:Bool}{o:Obj}{rs:List Lane}{k:Nat}{Q:Option Value->Shared->Prop}(hh:A.in1.handled=none)(ap:ZcR rs)(hz:V6 s.heap z TI TO (rawInt T) f1)(hT:s.heap.get? T=some o)(hr:∀r∈rs,r.it≠z/\r.l≠z)(hTI:s.heap.get? TI=some { cls:=.type "tuple", data:=.seq (rs.map λr=>Value.ref r.it).toArray })(h0:rs≠[])(hl:rs.length<=64)(on:∀r∈rs,r.On k s.heap)(hQ:∀(vs:List Value) h',rs.map (λr=>r.xs[k]?)=vs.map some->V6 h' z TI TO (rawInt T) true->(∀r∈rs,r.On (k+1) h')->h'.get? s.heap.objs.size=some { cls:=.type "tuple", data:=.seq vs.toArray }->h'.objs.size=s.heap.objs.size+1 ->
   (∀c o,c≠z->c ∉ rs.map Lane.it->s.heap.get? c=some o->h'.get? c=some o)->Q (some (.ref s.heap.objs.size)) { s with heap:=h' })(hN:∀h',(∃r∈rs,r.xs[k]?=none)->(∀c o,c≠z->c ∉ rs.map Lane.it->s.heap.get? c=some o->h'.get? c=some o)->Q none { s with heap:=h' }):wpAny (model prog w) A (pyNext (.ref z)) Q E s:=by
 have ty:s.TypeIs (.ref z) "zip" := ⟨_,hz,rfl⟩;refine wpAny_bind (wpAny_attempt (wpAny_callSpecial?_slot ty F.slot_zip_next (wpAny_call_entry F.slot_zip_next ty F.entry_zip_next (Zy hh ap hz hT hr hTI h0 hl on ?_ ?_) (F.args_zip_next_1 _))))
 ·intro vs h' a1 a2 a3 a4 a5 a6
  wp_walk
  exact hQ vs h' a1 a2 a3 a4 a5 a6
 ·rintro h' e a1 a2 ⟨o',e1,e2⟩;exact wpAny_bind (wpAny_isInstance ⟨o',e1,e2⟩ isSubtype_stop (wpAny_pure (hN h' a1 a2)))
def ZipSt (S z TI TO:Addr)(a b:Lane)(i:Nat)(h:Heap):Prop:=
 ((IsZip h z TI TO .none/\∃x y,IsPair h TO x y)\/∃(T:Addr)(f1:Bool)(o:Obj),V6 h z TI TO (rawInt T) f1/\h.get? T=some o/\T≠z/\T≠a.it/\T≠b.it/\T≠S)/\IsPair h TI (.ref a.it) (.ref b.it)/\a.On i h/\b.On i h/\S<h.objs.size
abbrev Zap (z TI TO:Addr)(a b:Lane):Prop:=ZipApart z TI TO a.it b.it a.l b.l
theorem ZipSt.next {S z TI TO:Addr}{a b:Lane}{i:Nat}{Q:Option Value->Shared->Prop}(hh:A.in1.handled=none)(D:Zap z TI TO a b)(st:ZipSt S z TI TO a b i s.heap)(hQ:∀x y h',a.xs[i]?=some x->b.xs[i]?=some y->ZipSt S z TI TO a b (i+1) h'->IsPair h' s.heap.objs.size x y->h'.objs.size=s.heap.objs.size+1->(∀c o,c ∉ [z,TO,a.it,b.it]->s.heap.get? c=some o->h'.get? c=some o)->Q (some (.ref s.heap.objs.size)) { s with heap:=h' })(hN:∀h',a.xs[i]?=none\/b.xs[i]?=none->(∀c o,c ∉ [z,TO,a.it,b.it]->s.heap.get? c=some o->h'.get? c=some o)->Q none { s with heap:=h' }) :
  wpAny (model prog w) A (pyNext (.ref z)) Q E s:=by
 obtain ⟨st,hTI,oa,ob,lS⟩:=st;have new:∀c,(∃o,s.heap.get? c=some o)->s.heap.objs.size≠c:=λc ⟨o,y⟩ e=>Nat.lt_irrefl _ (e▸Heap.lt_size y);have na:=new a.it ⟨_,oa.1.choose_spec.1⟩;have nb:=new b.it ⟨_,ob.1.choose_spec.1⟩;have four:∀{c},c≠z->c≠TO->c≠a.it->c≠b.it->c ∉ [z,TO,a.it,b.it]:=λh1 h2 h3 h4 h=>by simp [h1,h2,h3,h4] at h
 have not4:∀{c},c ∉ [z,TO,a.it,b.it]->c≠z/\c≠TO/\c≠a.it/\c≠b.it:=λh=>by simpa using h
 rcases st with ⟨hz,p,q,hTO⟩ | ⟨T,f1,o,hz,hT,t1,t2,t3,t4⟩
 ·have nz:=new z ⟨_,hz⟩;cases ea:a.xs[i]? with
  | none=>exact wpAny_pyNext_zip_end hh D hz hTI hTO oa.1 ob.1 oa.2 ob.2 (.inl ea) λh' k1=>hN h' (.inl ea) λc o y=>k1 c o (not4 y).1 (not4 y).2.1 (not4 y).2.2.1 (not4 y).2.2.2
  | some x=>
   cases eb:b.xs[i]? with
   | none=>exact wpAny_pyNext_zip_end hh D hz hTI hTO oa.1 ob.1 oa.2 ob.2 (.inr eb) λh' k1=>hN h' (.inr eb) λc o y=>k1 c o (not4 y).1 (not4 y).2.1 (not4 y).2.2.1 (not4 y).2.2.2
   | some y=>
    refine wpAny_pyNext_zip_item D hz hTI hTO oa.1 ob.1 oa.2 ob.2 ea eb λh' b1 b2 b3 b4 b5 b6 k1=>hQ x y h' ea eb ⟨.inr ⟨_,_,_,b1,b5,nz,na,nb,Nat.ne_of_gt lS⟩,?_,⟨b3,oa.2.at λo=>?_⟩,⟨b4,ob.2.at λo=>?_⟩,by rw [b6];exact Nat.lt_succ_of_lt lS⟩ b5 b6 λc o y=>k1 c o (not4 y).1 (not4 y).2.1 (not4 y).2.2.1 (not4 y).2.2.2
    ·exact k1 _ _ D.TIz D.TITO D.TIi1 D.TIi2 hTI
    ·exact k1 _ o D.l1z D.l1TO D.l1i1 D.l1i2
    ·exact k1 _ o D.l2z D.l2TO D.l2i1 D.l2i2
 ·refine Zz (rs:=[a,b]) hh ⟨?_,?_⟩ hz hT ?_ hTI (by simp) (by simp) (k:=i) (λr hr=>?_) ?_ ?_
  ·simpa using D.i12
  ·simpa using ⟨⟨D.l1i1,D.l2i1⟩,D.l1i2,D.l2i2⟩
  ·simpa using ⟨⟨D.i1z,D.l1z⟩,D.i2z,D.l2z⟩
  ·simp only [List.mem_cons,List.not_mem_nil,or_false] at hr;rcases hr with rfl | rfl
   ·exact oa
   ·exact ob
  ·intro vs h' e b1 on b5 b6 k1
   match vs,e with
   | [x,y],e=>
    simp only [List.map_cons,List.map_nil,List.cons.injEq,and_true] at e;refine hQ x y h' e.1 e.2 ⟨.inr ⟨T,true,o,b1,k1 _ _ t1 (by simp [t2,t3]) hT,t1,t2,t3,t4⟩,k1 _ _ D.TIz (by simp [D.TIi1,D.TIi2]) hTI,on a (by simp),on b (by simp),by rw [b6];exact Nat.lt_succ_of_lt lS⟩ b5 b6 λc o y=>k1 c o (not4 y).1 (by simp [(not4 y).2.2.1,(not4 y).2.2.2])
   | [],e=>simp at e
   | [_],e=>simp at e
   | _::_::_::_,e=>simp at e
  ·intro h' e k1;refine hN h' (by simpa using e) λc o y=>k1 c o (not4 y).1 (by simp [(not4 y).2.2.1,(not4 y).2.2.2])
theorem ZipSt.aside {S z TI TO:Addr}{a b:Lane}{i:Nat}{h:Heap}(f:Obj->Obj)(hS:S ∉ [z,TI,TO,a.it,b.it,a.l,b.l])(st:ZipSt S z TI TO a b i h):ZipSt S z TI TO a b i (h.update S f):=by
 obtain ⟨st,hTI,oa,ob,lS⟩:=st;have kp:∀c o,c≠S->h.get? c=some o->(h.update S f).get? c=some o:=λc o hc y=>(Heap.get?_update_other _ _ (Ne.symm hc)).trans y;have k1:∀c,c∈[z,TI,TO,a.it,b.it,a.l,b.l]->∀o,h.get? c=some o->(h.update S f).get? c=some o:=λc hc o=>kp c o λe=>hS (e▸hc);refine ⟨st.imp (λ⟨hz,x,y,p⟩=>⟨k1 z (by simp) _ hz,x,y,k1 TO (by simp) _ p⟩) λ⟨T,f1,o,hz,hT,t1,t2,t3,t4⟩=>⟨T,f1,o,k1 z (by simp) _ hz,kp T o t4 hT,t1,t2,t3,t4⟩,k1 TI (by simp) _ hTI,oa.keep λc hc=>k1 c (by rcases hc with rfl | rfl <;> simp),
  ob.keep λc hc=>k1 c (by rcases hc with rfl | rfl <;> simp),by rw [Heap.size_update];exact lS⟩
end
end L2
namespace L2
open PySem PySem.Spec PyProof.Rows
theorem HOk.stayOn {P:Program}{w:World}{H:Hp}{h h':Heap}(x:HOk P w H h)(k:∀b u o,H b=some u->h.get? b=some o->h'.get? b=some o):HOk P w H h':=λa o e=>
 (x a o e).stay (λb u hb q=>hb.elim (λz=>k b o u (by rw [z];exact e) q) (λz=>k b _ u z q)) (λ_ q=>q) λ_ _ q=>q
def ZL (P:Program)(w:World)(H0:Hp)(h0:Heap)(z TO i1 i2 S:Addr)(ns ms:List Int)(i:Nat)(h:Heap)(acc:Array Value):Prop:=
 ∃(Hj:Hp)(vs:List V),Same H0 Hj/\(∀b o,Hj b=some o->H0 b=none->h0.objs.size<=b)/\(Hj z=none/\Hj TO=none/\Hj i1=none/\Hj i2=none/\Hj S=none)/\HOk P w Hj h/\Vals vs acc.toList/\Prs Hj vs ((ns.zip ms).take i) /\
  (∀b o,h0.get? b=some o->h.get? b=some o)/\h0.objs.size<=h.objs.size
section
variable {P:Program}{w:World}{H0:Hp}{h0:Heap}{z TO i1 i2 S:Addr}{ns ms:List Int}{i:Nat}{h h':Heap}{acc:Array Value}
theorem ZL.put (L:ZL P w H0 h0 z TO i1 i2 S ns ms i h acc)(hS:h0.objs.size<=S)(hk:∀b o,b≠S->h.get? b=some o->h'.get? b=some o)(hsz:h.objs.size<=h'.objs.size):ZL P w H0 h0 z TO i1 i2 S ns ms i h' acc:=by
 obtain ⟨Hj,vs,a1,a2,a3,a4,a5,a6,a7,a8⟩:=L;refine ⟨Hj,vs,a1,a2,a3,a4.stayOn λb u o e q=>hk b o (λy=>?_) q,a5,a6,λb o e=>hk b o (Nat.ne_of_lt (Nat.lt_of_lt_of_le (Heap.lt_size e) hS)) (a7 b o e),Nat.le_trans a8 hsz⟩;rw [y,a3.2.2.2.2] at e;cases e
theorem ZL.next {a b:Int}{x y:Value}(L:ZL P w H0 h0 z TO i1 i2 S ns ms i h acc)(hlt:z<h.objs.size/\TO<h.objs.size/\i1<h.objs.size/\i2<h.objs.size/\S<h.objs.size)(hge:h0.objs.size<=z/\h0.objs.size<=TO/\h0.objs.size<=i1/\h0.objs.size<=i2)(ha:ns[i]?=some a)(hb:ms[i]?=some b)(rx:RelV (.int a) x)(ry:RelV (.int b) y)(hT:IsPair h' h.objs.size x y)(hsz:h'.objs.size=h.objs.size+1)(hk:∀c o,c≠z->c≠TO->c≠i1->c≠i2->h.get? c=some o->h'.get? c=some o):ZL P w H0 h0 z TO i1 i2 S ns ms (i+1) h' (acc.push (.ref h.objs.size)):=by
 obtain ⟨Hj,vs,a1,a2,⟨f1,f2,f3,f4,f5⟩,a4,a5,a6,a7,a8⟩:=L;obtain ⟨l1,l2,l3,l4,l5⟩:=hlt;obtain ⟨g1,g2,g3,g4⟩:=hge;have hn:Hj h.objs.size=none:=a4.fresh (Nat.le_refl _);have nn:∀c o,Hj c=some o->c≠z/\c≠TO/\c≠i1/\c≠i2:=λc o e=>⟨λq=>(by rw [q,f1] at e;cases e),λq=>(by rw [q,f2] at e;cases e),λq=>(by rw [q,f3] at e;cases e),λq=>(by rw [q,f4] at e;cases e)⟩;have b1:HOk P w Hj h':=a4.stayOn λc u o e q=>hk c o (nn c u e).1 (nn c u e).2.1 (nn c u e).2.2.1 (nn c u e).2.2.2 q;have sm:Same Hj (upd Hj h.objs.size (.tup [.int a,.int b])):=Same.new hn;refine ⟨upd Hj h.objs.size (.tup [.int a,.int b]),vs++[.ref h.objs.size],a1.trans sm,λc o e n=>?_,⟨?_,?_,?_,?_,?_⟩,λc o e=>?_,?_,?_,λc o e=>?_,by lia⟩
 ·by_cases hc:c=h.objs.size
  ·rw [hc];exact a8
  ·rw [Gu hc] at e;exact a2 c o e n
 ·rw [Gu (Nat.ne_of_lt l1)];exact f1
 ·rw [Gu (Nat.ne_of_lt l2)];exact f2
 ·rw [Gu (Nat.ne_of_lt l3)];exact f3
 ·rw [Gu (Nat.ne_of_lt l4)];exact f4
 ·rw [Gu (Nat.ne_of_lt l5)];exact f5
 ·by_cases hc:c=h.objs.size
  ·subst hc;rw [Gb] at e;cases e;exact ⟨by show 2<=sizeLine;decide,[x,y],.cons rx (.cons ry .nil),⟨_,hT,rfl,_,rfl⟩⟩
  ·rw [Gu hc] at e;exact (b1 c o e).stay (λ_ _ _ q=>q) (λd q=>sm _ _ q) λd xs q=>sm _ _ q
 ·rw [Array.toList_push];exact a5.append (.cons rfl .nil)
 ·have e:(ns.zip ms)[i]?=some (a,b):=by
   rw [List.getElem?_zip_eq_some];exact ⟨ha,hb⟩
  rw [List.take_add_one,e];exact (a6.same sm).snoc Gb
 ·have hc:=Heap.lt_size e;exact hk c o (Nat.ne_of_lt (Nat.lt_of_lt_of_le hc g1)) (Nat.ne_of_lt (Nat.lt_of_lt_of_le hc g2)) (Nat.ne_of_lt (Nat.lt_of_lt_of_le hc g3)) (Nat.ne_of_lt (Nat.lt_of_lt_of_le hc g4)) (a7 c o e)
end
abbrev ZB (h:Heap)(S:Addr)(acc:Array Value)(c:Nat):Prop:=h.get? S=some { cls:=.type "list", dict:=none,data:=.seq acc c,slots:=#[] }
structure Fed (prog:Program)(w:World)(A:Around)(I S:Addr)(n:Nat)(St:Nat->Heap->Array Value->Prop)(Fi:Heap->Array Value->Prop):Prop where
 give:∀i (s:Shared) acc (Q:Option Value->Shared->Prop) E,i<n->St i s.heap acc ->
  (∀v h',(∀o,s.heap.get? S=some o->h'.get? S=some o)->St (i+1) h' (acc.push v)->Q (some v) { s with heap:=h' })->wpAny (model prog w) A (pyNext (.ref I)) Q E s
 stop:∀(s:Shared) acc (o:Obj) (Q:Option Value->Shared->Prop) E,s.heap.get? S=some o->St n s.heap acc->(∀h',(∀o,s.heap.get? S=some o->h'.get? S=some o)->Fi h' acc->Q none { s with heap:=h' })->wpAny (model prog w) A (pyNext (.ref I)) Q E s
 aside:∀i h f acc,St i h acc->St i (h.update S f) acc
section
variable {prog:Program}{w:World}{A:Around}{I S:Addr}{n:Nat}{St:Nat->Heap->Array Value->Prop}{Fi:Heap->Array Value->Prop}
theorem Fed.loop (W:Fed prog w A.in1 I S n St Fi)(hn:n<=1000)(res:Value){R:Result->Shared->Prop}:∀(k:Nat)(s:Shared)(acc:Array Value)(c:Nat),acc.size+k=n->St acc.size s.heap acc->ZB s.heap S acc c ->
  (∀h' acc' c',acc'.size=n->Fi h' acc'->ZB h' S acc' c'->R (.ok (.ret res)) { s with heap:=h' })->codeAny (model prog w) A (.builtin "list.extend.loop" ⟨[.ref S,.ref I,res],[]⟩) R s
 | 0,s,acc,c,e,st,hS,hR=>codeAny_builtin F.entry_extend_loop <| (Around.under_plainId F.plain_extend_loop _)▸wpAny_bind (W.stop s acc _ _ _ hS (by rw [Nat.add_zero] at e;exact e▸st) λh' k1 f=>wpAny_pure (hR h' acc c e f (k1 _ hS)))
 | k+1,s,acc,c,e,st,hS,hR=>codeAny_builtin F.entry_extend_loop <| (Around.under_plainId F.plain_extend_loop _)▸wpAny_bind (W.give _ s acc _ _ (by lia) st λv h' k1 st1=>by
   have h16:=sizeLine_eq;have hS1:=k1 _ hS;refine wpAny_bind (wpAny_updateSeq (s:={ s with heap:=h' }) (f:=(·.push v)) hS1 rfl (wpAny_pure ⟨plainId_quiet F.plain_extend_loop _,?_⟩) (by lia) (by rw [Array.size_push];lia));have es:acc.size+1=(acc.push v).size:=(Array.size_push ..).symm;exact W.loop hn res k _ (acc.push v) _ (by lia) (W.aside _ _ _ _ (es▸st1)) (Heap.get?_update_self _ hS1 rfl) hR)
end
section
variable {prog:Program}{w:World}{A:Around}{E:Value->Shared->Prop}{s:Shared}
namespace ZF
theorem no_len:typeLookup (.type "zip") "__len__" = pure none:=by rw [typeLookup_type,builtinLookup_eq_fast];kernel_rfl
theorem no_hint:typeLookup (.type "zip") "__length_hint__" = pure none:=by rw [typeLookup_type,builtinLookup_eq_fast];kernel_rfl
end ZF
theorem ZC {z TI TO:Addr}{f0:Value}{n:Nat}{St:Nat->Heap->Array Value->Prop}{Fi:Heap->Array Value->Prop}{Q:Value->Shared->Prop}(hz:IsZip s.heap z TI TO f0)(W:Fed prog w A.in1.in1 z s.heap.objs.size n St Fi)(hn:n<=1000)(st:St 0 (s.heap.push { cls:=.type "list", data:=.seq #[] }) #[])(hQ:∀h' acc c,acc.size=n->Fi h' acc->ZB h' s.heap.objs.size acc c->Q (.ref s.heap.objs.size) { s with heap:=h' }):wpAny (model prog w) A (call (.type "list") [.ref z]) Q E s:=by
 have hS:ZB (s.heap.push { cls:=.type "list", data:=.seq #[] }) s.heap.objs.size #[] 0:=Heap.get?_push_size _ rfl;have hz1:IsZip (s.heap.push { cls:=.type "list", data:=.seq #[] }) z TI TO f0:=Heap.get?_push_of_some _ hz;have nz:s.heap.objs.size≠z:=λe=>Nat.lt_irrefl _ (e▸Heap.lt_size hz);refine callType_codes F.called_list (F.typeCall_list_1 _) F.entry_list_init (code_list_new (.ref z) (Q₁:=λv t=>v=.ref s.heap.objs.size/\t.heap=s.heap.push { cls:=.type "list", data:=.seq #[] }/\t={ s with heap:=t.heap }) ⟨rfl,rfl,rfl⟩) ?_;rintro _ t ⟨rfl,ht,he⟩;rw [he,ht];clear he ht t;refine ⟨⟨_,hS,rfl⟩,F.args_list_init_2 _ _,?_⟩;generalize s.heap.push { cls:=.type "list", data:=.seq #[] }=h1 at *;generalize s.heap.objs.size=S at *
 wp_walk
 rw [if_neg (by simp [Builtin.List.listSameRef,nz])];have hz2:IsZip (h1.update S (Obj.mapSeq λ_=>#[])) z TI TO f0:=(Heap.get?_update_other _ _ nz).trans hz1;have hS2:=Heap.get?_update_self (Obj.mapSeq λ_=>(#[]:Array Value)) hS rfl;have st2:=W.aside 0 h1 (Obj.mapSeq λ_=>#[]) _ st;generalize h1.update S (Obj.mapSeq λ_=>#[])=h2 at *;refine wpAny_bind (wpAny_pyIter_zip hz2 ?_);have nl:=ZF.no_len;have nh:=ZF.no_hint;have ty:Shared.TypeIs { s with heap:=h2 } (.ref z) "zip" := ⟨_,hz2,rfl⟩
 wp_walk
 exact ⟨plainId_quiet F.plain_extend_loop _,W.loop hn .none n _ #[] _ (by simp) (W.aside _ _ _ _ (W.aside _ _ _ _ st2)) (Heap.get?_update_self _ (Heap.get?_update_self _ hS2 rfl) rfl) λh' acc c e f l=>⟨rfl,hQ h' acc c e f l⟩⟩
theorem Zbe {P:Program}{H0:Hp}{h0:Heap}{z TI TO S:Addr}{a b:Lane}{ns ms:List Int}(hh:A.in1.handled=none)(D:Zap z TI TO a b)(hS:S ∉ [z,TI,TO,a.it,b.it,a.l,b.l])(hlt:z<S/\TO<S/\a.it<S/\b.it<S)(hge:h0.objs.size<=z/\h0.objs.size<=TO/\h0.objs.size<=a.it/\h0.objs.size<=b.it)(hgS:h0.objs.size<=S)(vx:Vals (ns.map V.int) a.xs.toList)(vy:Vals (ms.map V.int) b.xs.toList) :
  Fed prog w A z S (min ns.length ms.length) (λi h acc=>ZipSt S z TI TO a b i h/\ZL P w H0 h0 z TO a.it b.it S ns ms i h acc) (ZL P w H0 h0 z TO a.it b.it S ns ms (min ns.length ms.length)):=by
 have S4:S ∉ [z,TO,a.it,b.it]:=λh=>hS (by simp only [List.mem_cons,List.not_mem_nil,or_false] at h ⊢;rcases h with h | h | h | h <;> simp [h]);have item:∀{ls:List Int}{r:Lane}{i:Nat},Vals (ls.map V.int) r.xs.toList->(hi:i<ls.length)->∃u,r.xs[i]?=some u/\RelV (.int ls[i]) u:=λ{ls r i} v hi=>by
  obtain ⟨u,g,x⟩:=v.get (show (ls.map V.int)[i]?=some (.int ls[i]) by rw [List.getElem?_map,List.getElem?_eq_getElem hi];rfl);exact ⟨u,by simpa using g,x⟩
 have last:∀{ls:List Int}{r:Lane}{i:Nat}{u:Value},Vals (ls.map V.int) r.xs.toList->r.xs[i]?=some u->i<ls.length:=λ{ls r i u} v e=>by
  have l:=v.length;rw [List.length_map] at l;rw [l,Array.length_toList];exact (Array.getElem?_eq_some_iff.1 e).1
 have out:∀{c},c≠z->c≠TO->c≠a.it->c≠b.it->c ∉ [z,TO,a.it,b.it]:=λh1 h2 h3 h4 h=>by simp [h1,h2,h3,h4] at h
 refine ⟨λi s acc Q E hi ⟨st,L⟩ hQ=>?_,λs acc oS Q E eS ⟨st,L⟩ hQ=>?_,λi h f acc ⟨st,L⟩=>⟨st.aside f hS,L.put hgS (λc o hc y=>(Heap.get?_update_other _ _ (Ne.symm hc)).trans y) (Nat.le_of_eq (Heap.size_update ..).symm)⟩⟩
 ·obtain ⟨x,ex,rx⟩:=item (i:=i) vx (by lia);obtain ⟨y,ey,ry⟩:=item (i:=i) vy (by lia);have lS:=st.2.2.2.2;refine st.next hh D (λx' y' h' fx fy st' p sz k1=>?_) λh' e=>?_
  ·rw [ex] at fx;rw [ey] at fy;cases fx;cases fy;exact hQ _ h' (λo=>k1 S o S4) ⟨st',L.next ⟨Nat.lt_trans hlt.1 lS,Nat.lt_trans hlt.2.1 lS,Nat.lt_trans hlt.2.2.1 lS,Nat.lt_trans hlt.2.2.2 lS,lS⟩ hge (List.getElem?_eq_getElem (by lia)) (List.getElem?_eq_getElem (by lia)) rx ry p sz λc o h1 h2 h3 h4=>k1 c o (out h1 h2 h3 h4)⟩
  ·rw [ex,ey] at e;simp at e
 ·refine st.next hh D (λx' y' h' fx fy=>?_) λh' e k1=>hQ h' (λo=>k1 S o S4) ?_
  ·have:=last vx fx;have:=last vy fy;lia
  ·obtain ⟨Hj,vs,a1,a2,a3,a4,a5,a6,a7,a8⟩:=L;have old:∀c,h0.objs.size > c->c ∉ [z,TO,a.it,b.it]:=λc hc=>out (Nat.ne_of_lt (Nat.lt_of_lt_of_le hc hge.1)) (Nat.ne_of_lt (Nat.lt_of_lt_of_le hc hge.2.1)) (Nat.ne_of_lt (Nat.lt_of_lt_of_le hc hge.2.2.1)) (Nat.ne_of_lt (Nat.lt_of_lt_of_le hc hge.2.2.2));have ours:∀c o,Hj c=some o->c ∉ [z,TO,a.it,b.it]:=λc o y h=>by
    simp only [List.mem_cons,List.not_mem_nil,or_false] at h;rcases h with rfl | rfl | rfl | rfl <;> simp [a3] at y
   exact ⟨Hj,vs,a1,a2,a3,a4.stayOn λc u o e y=>k1 c o (ours c u e) y,a5,a6,λc o y=>k1 c o (old c (Heap.lt_size y)) (a7 c o y),Nat.le_of_lt (Nat.lt_of_le_of_lt hgS (Heap.lt_size (k1 S oS S4 eS)))⟩
end
section
variable {X:Cx}
theorem VI:bootBuiltins "zip" = some (.type "zip"):=by first | rfl | decide +kernel
def ZD (K:W.Frag)(ta:TA):TE:=λσ H Q=>ta σ H λvs H1=>∃(l1 l2:Addr)(ns ms:List Int),vs=[.ref l1,.ref l2]/\SqL K H1 l1 (ns.map V.int)/\SqL K H1 l2 (ms.map V.int)/\ns.length<=1000 /\
 ∀(S:Addr)(ws:List V)(H':Hp),Same H1 H'->H1 S=none->H' S=some (.lst ws)->Prs H' ws (ns.zip ms)->Q (.ref S) H'
theorem Xk {a b:Expr}{ta:TA}{p p2 pos pos2:Pos}(K:W.Frag)(hc:X.calm=true)(hg:Gl X "list")(hm:X.mg "list" = none)(hg2:Gl X "zip")(hm2:X.mg "zip" = none)(ha:PA X [a,b] ta)(hK:X.K=K:=by rfl)(hs:starEach [Expr.Call (.Name "zip" p2) [a,b] [] pos2] X.env=[(false,eval (.Call (.Name "zip" p2) [a,b] [] pos2) X.env)]:=by rfl)(hs2:starEach [a,b] X.env=(false,eval a X.env)::starEach [b] X.env:=by rfl)(hp2:(backTo pos2 (starEach [b] X.env)).any (·.1)=false:=by rfl) :
  PE X (.Call (.Name "list" p) [.Call (.Name "zip" p2) [a,b] [] pos2] [] pos) (ZD K ta):=by
 subst hK;intro qQ s σ H Q I h;refine wpAny_Call_Name_kw (Ob I hg hm JP (PyProof.Rows.callWith_type1 ?_ hs rfl) (by decide) (by decide));rw [hs];refine Calls.spliced_cons ?_;refine wpAny_Call_Name_kw (Ob I hg2 hm2 VI (PyProof.Rows.callWith_type1 (thn (ha pos2 qQ s σ H _ I h) λus s1 ⟨vs,H1,I1,r1,q1⟩=>?_) hs2 hp2) (by decide) (by decide));obtain ⟨l1,l2,ns,ms,rfl,hq1,hq2,hn,q⟩:=q1;obtain ⟨u1,u2,rfl,ru1,ru2⟩:=r1.two;cases ru1;cases ru2;obtain ⟨xs,v1,p1,hz1⟩:=I1.list hq1;obtain ⟨ys,v2,p2',hz2⟩:=I1.list hq2;refine call_zip_2 p1.isList p2'.isList λh' hz hTI hTO hi1 hi2 hsz hk=>?_;refine Calls.spliced_nil ?_;have lt1:l1<s1.heap.objs.size:=by obtain ⟨_,e,_⟩:=p1.isList;exact Heap.lt_size e
 have lt2:l2<s1.heap.objs.size:=by obtain ⟨_,e,_⟩:=p2'.isList;exact Heap.lt_size e
 have D:ZipApart (s1.heap.objs.size+4) (s1.heap.objs.size+2) (s1.heap.objs.size+3) s1.heap.objs.size (s1.heap.objs.size+1) l1 l2:=by
  constructor <;> (first | exact Nat.ne_of_lt (by lia) | exact Nat.ne_of_gt (by lia) | (apply Nat.ne_of_lt;exact Nat.lt_of_lt_of_le (by assumption) (by lia)))
 have l1x:=v1.length;rw [List.length_map] at l1x;have fr:∀b,s1.heap.objs.size<=b->H1 b=none:=λb hb=>I1.hok.fresh hb;have hS:h'.objs.size ∉ [s1.heap.objs.size+4,s1.heap.objs.size+2,s1.heap.objs.size+3,s1.heap.objs.size,s1.heap.objs.size+1,l1,l2]:=by
  simp only [List.mem_cons,List.not_mem_nil,or_false];have g1:l1<h'.objs.size:=by rw [hsz];exact Nat.lt_of_lt_of_le lt1 (by lia)
  have g2:l2<h'.objs.size:=by rw [hsz];exact Nat.lt_of_lt_of_le lt2 (by lia)
  rintro (e | e | e | e | e | e | e) <;> first | lia | exact Nat.ne_of_gt g1 e | exact Nat.ne_of_gt g2 e
 have up:∀b o,s1.heap.get? b=some o->(h'.push { cls:=.type "list", data:=.seq #[] }).get? b=some o:=λb o e=>Heap.get?_push_of_some _ (hk b o e);have pu:∀b o,h'.get? b=some o->(h'.push { cls:=.type "list", data:=.seq #[] }).get? b=some o:=λb o e=>Heap.get?_push_of_some _ e;have l2x:=v2.length;rw [List.length_map] at l2x;refine ZC hz (Zbe (P:=X.prog) (H0:=H1) (h0:=s1.heap) (a:=⟨s1.heap.objs.size,l1,xs.toArray⟩) (b:=⟨s1.heap.objs.size+1,l2,ys.toArray⟩) (I1.ok.hd hc) D hS ⟨by show _<h'.objs.size;lia,by show _<h'.objs.size;lia,by show s1.heap.objs.size<h'.objs.size;lia,by show s1.heap.objs.size+1<h'.objs.size;lia⟩
  ⟨by lia,by lia,Nat.le_refl _,by show _<=s1.heap.objs.size+1;lia⟩ (by show _<=h'.objs.size;lia) v1 v2) (by lia)
  ⟨⟨.inl ⟨pu _ _ hz,_,_,pu _ _ hTO⟩,pu _ _ hTI,⟨hi1.at λo=>pu _ o,p1.isList.at λo=>up _ o⟩,⟨hi2.at λo=>pu _ o,p2'.isList.at λo=>up _ o⟩,by rw [Heap.size_push];exact Nat.lt_succ_self _⟩,
   H1,[],Same.refl _,λb o e n=>(by rw [n] at e;cases e),⟨fr _ (by lia),fr _ (by lia),fr _ (Nat.le_refl _),fr _ (by show _<=s1.heap.objs.size+1;lia),fr _ (by show _<=h'.objs.size;lia)⟩,I1.hok.kept λb u e=>up b u e,.nil,.nil,up,by rw [Heap.size_push];show _<=h'.objs.size+1;lia⟩ ?_
 ·intro h2 acc c z2 L e2;obtain ⟨Hj,ws,a1,a2,⟨f1,f2,f3,f4,f5⟩,a4,a5,a6,a7,a8⟩:=L;have h16:(16777216:Nat)=sizeLine:=sizeLine_eq.symm;have hzl:(ns.zip ms).take (min ns.length ms.length)=ns.zip ms:=List.take_of_length_le (by rw [List.length_zip];lia);rw [hzl] at a6;have hwl:ws.length<=sizeLine:=by rw [a5.length,Array.length_toList,z2];lia
  have sm:Same Hj (upd Hj h'.objs.size (.lst ws)):=Same.new f5;have S1:=a1.trans sm;refine ⟨.ref h'.objs.size,upd Hj h'.objs.size (.lst ws),I1.un (h':=h2) (t':=s1.toks) ⟨λb o e _ _ _=>a7 b o e,λb o e _ _ _=>⟨o.slots,a7 b o e⟩,λb o e n _=>?_,λb o e _=>⟨o,a7 b o e⟩,λb ys e=>S1 _ _ e,λb o u e=>S1 _ _ e,λb ps e=>⟨#[],by rw [S1 _ _ e];simp⟩⟩ (λb o e=>?_),rfl,?_⟩
  ·have hb:=Heap.lt_size e;rw [Gu (Nat.ne_of_lt (Nat.lt_of_lt_of_le hb (show s1.heap.objs.size<=h'.objs.size by lia)))];cases z:Hj b with
   | none=>rfl
   | some u=>exact absurd (Nat.lt_of_lt_of_le hb (a2 b u z n)) (Nat.lt_irrefl _)
  ·by_cases hb:b=h'.objs.size
   ·subst hb;rw [Gb] at e;cases e;exact ⟨hwl,acc.toList,c,a5,e2⟩
   ·rw [Gu hb] at e;exact (a4 b o e).stay (λ_ _ _ q=>q) (λd q=>sm _ _ q) λd xs q=>sm _ _ q
  ·refine q _ ws _ S1 ?_ Gb (a6.same sm);exact I1.hok.fresh (by lia)
end
end L2
namespace L2
open PySem PySem.Spec PyProof.Rows
theorem Us:bootBuiltins "min" = some (.builtin "min"):=by first | rfl | decide +kernel
section
variable {X:Cx}
theorem Zfu (K:W.Frag)(hc:X.calm=true)(h:X.K=K:=by rfl):J2 X (.builtin "min") (λxs H Q=>∃(p:Addr)(ns:List Int),xs=[.ref p]/\SqL K H p (ns.map V.int)/\ns≠[]/\∀m,m∈ns->(∀n∈ns,m<=n)->Q (.int m) H):=by
 subst h;intro qQ s σ H xs us Q I rv h;obtain ⟨p,ns,rfl,hq,hne,q⟩:=h;obtain ⟨u,rfl,ru⟩:=rv.one;cases ru;obtain ⟨its,r,pl,hz⟩:=I.list hq;have hh:X.A.in1.handled=none:=I.ok.hd hc;have hl:=r.length;rw [List.length_map] at hl;have hpos:0<ns.length:=List.length_pos_iff.mpr hne;obtain ⟨o,eo,_⟩:=id pl.isList;have hlt:p<s.heap.objs.size:=Heap.lt_size eo;have hval:∀(i:Nat)(v:Value),its.toArray[i]?=some v->∃t,v=Value.int (ns.getD i 0) t:=λi v hv=>by
  have hv':its[i]?=some v:=by simpa using hv
  have hi:i<its.length:=(List.getElem?_eq_some_iff.mp hv').1;have ex:(ns.map V.int)[i]?=some (.int (ns[i]'(by lia))):=by rw [List.getElem?_map,List.getElem?_eq_getElem (by lia)];rfl
  obtain ⟨u,gu,ru⟩:=r.get ex;rw [gu] at hv';cases hv';obtain ⟨t,rfl⟩:=ru;exact ⟨t,by rw [List.getD_eq_getElem?_getD,List.getElem?_eq_getElem (by lia)];rfl⟩
 refine call_min_walk (wpAny_pyIter_list pl.isList ?_);refine ⟨s.heap.objs.size,_,_,_,_,_,_,rfl,Walks.list hh s.heap.objs.size p (Nat.ne_of_lt hlt) its.toArray,⟨⟨_,Heap.get?_push_size _ rfl,rfl,rfl⟩,pl.isList.at λo e=>Heap.get?_push_of_some _ e⟩,?_,by rw [List.size_toArray];lia,CmpOf.ints_lt (λi=>ns.getD i 0) hval,λv h' tk hv hk=>?_⟩
 ·intro b hb;have e:b=s.heap.objs.size\/b=p:=by simpa using hb
  have hsz:(s.heap.push { cls:=.type "list_iterator", data:=.fields #[.ref p,.int 0 0] }).objs.size=s.heap.objs.size+1:=Heap.size_push ..;show b<(s.heap.push { cls:=.type "list_iterator", data:=.fields #[.ref p,.int 0 0] }).objs.size;rw [hsz];rcases e with e | e
  ·rw [e];exact Nat.lt_succ_self _
  ·rw [e];exact Nat.lt_succ_of_lt hlt
 ·obtain ⟨t,rfl⟩:=hval _ v hv;have hA:=argBest_lt (λi=>ns.getD i 0) (its.toArray.size-1);have hsz:its.toArray.size=ns.length:=by rw [List.size_toArray];exact hl.symm
  generalize hg:argBest (λi j=>decide (ns.getD i 0<ns.getD j 0)) (its.toArray.size-1)=g at hA ⊢;have hg1:g<ns.length:=by lia
  have eg:ns.getD g 0=ns[g]:=by rw [List.getD_eq_getElem?_getD,List.getElem?_eq_getElem hg1];rfl
  refine ⟨.int (ns.getD g 0),H,I.kept λb o e'=>hk b o ?_ (Heap.get?_push_of_some _ e'),⟨t,rfl⟩,q _ (by rw [eg];exact List.getElem_mem hg1) λn hn=>?_⟩
  ·intro z;have:b=s.heap.objs.size:=by simpa using z
   exact absurd (Heap.lt_size e') (by rw [this];exact Nat.lt_irrefl _)
  ·obtain ⟨j,hj,rfl⟩:=List.getElem_of_mem hn;have:=hA.2 j (by lia);have ej:ns.getD j 0=ns[j]:=by rw [List.getD_eq_getElem?_getD,List.getElem?_eq_getElem hj];rfl
   rw [<-ej];exact this
end
theorem ZE {K:PySem.W.Frag}{a:Addr}{xs:List V}{g:TG}{tb:TS}{D:Ends}{σ:St}{H:Hp}(Pv:Nat->St->Hp->Prop)(h0:Pv 0 σ H)(hl:∀i σ H,i<=xs.length->Pv i σ H->SqL K H a xs)(hs:∀i x σ H T,xs[i]?=some x->Pv i σ H->H T=none->g (.ref T) σ (upd H T (.tup [.int (i:Nat),x])) λσ2 H2=>tb { D with nx:=Pv (i+1),ct:=Pv (i+1),bk:=D.nx } σ2 H2)(hd:∀ σ H,Pv xs.length σ H->D.nx σ H) :
  ∃W:Nat->Nat->St->Hp->Prop,(∃m,W 0 m σ H)/\∀i m σ H,W i m σ H ->
   ((Ite K a).stop i H/\D.nx σ H)\/((Ite K a).go i H/\∃N:St->Hp->Prop,(∀ σ' H',N σ' H'->∃m',m'<m/\W (i+1) m' σ' H')/\∀x H',(Ite K a).yld i H x H'->g x σ H' λσ2 H2=>tb { D with nx:=N,ct:=N,bk:=D.nx } σ2 H2):=by
 refine ⟨λi m σ H=>m=xs.length-i/\i<=xs.length/\Pv i σ H,⟨xs.length,by simp,Nat.zero_le _,h0⟩,?_⟩;rintro i m σ H ⟨rfl,hi,p⟩;have q:=hl i σ H hi p;by_cases hlt:i<xs.length
 ·refine .inr ⟨⟨xs,xs[i],q,by simp [hlt]⟩,Pv (i+1),λσ' H' p'=>⟨xs.length-(i+1),by lia,rfl,hlt,p'⟩,λx H' y=>?_⟩;obtain ⟨T,y',rfl,hT,rfl,hy⟩:=y;exact hs i y' σ H T (hy xs q) p hT
 ·have e:i=xs.length:=by lia
  subst e;exact .inl ⟨⟨xs,q,Nat.le_refl _⟩,hd σ H p⟩
end L2
namespace L2
open PySem PySem.Spec PyProof.Rows
structure FunD (K:W.Frag)(x qual:Str)(st:Stmt)(dV:Value)(f:Addr)(fd:FuncData):Prop where
 ex:∃(oc:Value)(od:Option Addr)(kV doc pm:Value)(an:Option Addr)(cdv ct:Value)(osl:Array (Option Value)),
  fd=W.fnOf x qual (Gq st) (Go st) (Gg st) dV kV doc pm an cdv ct/\K.lookup f=some ⟨oc,od,.func fd,osl⟩/\W.codeIn K cdv qual=true
 kp:W.keepIn K (.ref f)=true
section
variable {P:Program}{w:World}{K:W.Frag}{mg:Str->Option Value}{base:Heap}
theorem FunD.ok {x qual:Str}{st:Stmt}{dV:Value}{f:Addr}{fd:FuncData}{N ps:List Str}{k:Nat}{sp:Sp}(F:FunD K x qual st dV f fd)(S:Gv N ps (Gg st))(len:∀vs H Q E,sp vs H Q E->vs.length=ps.length)(qW:∀(cdv:Value)(A:Around)(outer:List Env)(s:Shared)(H:Hp)(vs:List V)(Q:VK)(E:XK),Room k (A.deeper (envOfC qual (Gg st) s.heap.objs.size f cdv))->sp vs H Q E ->
   ∃t,PSs (XC CX0 P w K mg base N qual (Gg st) f cdv A outer s H E).nox (Go st) t/\t { nx:=λ_ H'=>Q .non H',rt:=Q } (start N vs) H):GS P w K mg base CX0 (k+1) f fd ps sp:=by
 obtain ⟨oc,od,kV,doc,pm,an,cdv,ct,osl,rfl,lk,hcd⟩:=F.ex;refine Zi lk hcd S len λA outer s H vs Q E hr hsp=>?_;obtain ⟨t,h,q⟩:=qW cdv A outer s H vs Q E hr hsp;exact ⟨t,h.nox,q⟩
theorem Zbf {x qual:Str}{st:Stmt}{f:Addr}{oc:Value}{od an:Option Addr}{osl:Array (Option Value)}{dV kV doc pm cdv ct:Value}(l:K.lookup f=some ⟨oc,od,.func (W.fnOf x qual (Gq st) (Go st) (Gg st) dV kV doc pm an cdv ct),osl⟩)(c:W.codeIn K cdv qual=true)(k:W.keepIn K (.ref f)=true):FunD K x qual st dV f (W.fnOf x qual (Gq st) (Go st) (Gg st) dV kV doc pm an cdv ct):=⟨⟨oc,od,kV,doc,pm,an,cdv,ct,osl,rfl,l,c⟩,k⟩
end
end L2
namespace L2
open PySem PySem.Spec PyProof.Rows
section
variable {X:Cx}
theorem O6 (k:Int):∀{vs:List Value}{ns:List Int},IntsAre vs ns->vs.countP (isInt k)=ns.count k
 | _,_,.nil=>rfl
 | _,_,.cons n t h=>by
  rw [List.countP_cons,List.count_cons,O6 k h]
  rfl
def ZcS:V->List V->Hp->VK->Prop:=λx vs H Q=>∃(l:Addr)(ns:List Int)(i:Int),x=.ref l/\vs=[.int i]/\H l=some (.lst (ns.map V.int))/\Q (.int ((ns.count i:Nat):Int)) H
theorem ZG:MtM X "list.count" ZcS:=by
 intro qQ s σ H x vs v us Q I rx rv h;obtain ⟨l,ns,k,rfl,rfl,hH,q⟩:=h;cases rx;obtain ⟨u,rfl,ru⟩:=rv.one;obtain ⟨t,rfl⟩:=ru;obtain ⟨z,its,n,r,hl,e⟩:=I.lstM hH;have hi:=Oq r;refine call_meets F.slot_list_count ⟨_,e,rfl⟩ F.entry_list_count (F.args_list_count_2 _ _)
  (PySem.SeqAt.list_countAt l its.toArray n _ _ (.int k t) (isInt k)) ⟨e,λy hy=>(eq_isInt k t hi y (by simpa using hy)).at _ _,?_⟩
 refine ⟨.int ((ns.count k:Nat):Int),H,I.tok _,⟨s.toks,?_⟩,q⟩;rw [O6 k hi]
end
end L2
namespace L2
open PySem PySem.Spec PyProof.Rows
section
variable {X:Cx}(K:W.Frag)
theorem Zfv (h:X.K=K:=by rfl):SlR X (Zfn K):=h▸ZcE
theorem V7 {tg:Expr}{l:Expr}{tl:TE}(hl:PE X l tl)(h:X.K=K:=by rfl):PI X tg l (Zfj K tl):=h▸Zcx hl
end
end L2
namespace L2
open PySem PySem.Spec PyProof.Rows
theorem JF {K:PySem.W.Frag}{a D:Addr}{xs:List V}{g:TG}{tc:TT}{te:TE}{σ0:St}{R:Hp->Prop}{H1:Hp}(Pv:Nat->List V->Hp->Prop)(h0:Pv 0 [] (upd H1 D (.lst [])))(hl:∀i ys H,i<=xs.length->Pv i ys H->SqT K H a xs)(hs:∀i x ys H,xs[i]?=some x->Pv i ys H->g x σ0 H λσ4 H4=>OJ σ0 σ4/\tc σ4 H4 λb H5=>if b=true then te σ4 H5 λy H6=>H6 D=some (.lst ys)/\ys.length<sizeLine/\Pv (i+1) (ys++[y]) (upd H6 D (.lst (ys++[y]))) else Pv (i+1) ys H5)(hd:∀ys H,Pv xs.length ys H->R H):∃W:Nat->Nat->List V->Hp->Prop,(∃m,W 0 m [] (upd H1 D (.lst [])))/\JO (Itt K a) D g tc te σ0 W R:=by
 refine ⟨λi m ys H=>m=xs.length-i/\i<=xs.length/\Pv i ys H,⟨_,rfl,Nat.zero_le _,h0⟩,?_⟩;rintro i m ys H ⟨rfl,hi,p⟩;have q:=hl i ys H hi p;by_cases hlt:i<xs.length
 ·refine .inr ⟨⟨xs,xs[i],q,by simp [hlt]⟩,Pv (i+1),λys' H' p'=>⟨xs.length-(i+1),by lia,rfl,hlt,p'⟩,λx H' y=>?_⟩;obtain ⟨e,y⟩:=y;subst e;exact hs i x ys _ (y xs q) p
 ·have e:i=xs.length:=by lia
  subst e;exact .inl ⟨⟨xs,q,Nat.le_refl _⟩,hd ys H p⟩
set_option maxRecDepth 8000 in
theorem Xl (l:Addr)(items:Array Value)(n:Nat)(b:Addr)(items2:Array Value)(n2:Nat)(dc:Option Addr)(sl:Array (Option Value))(hs0:¬(!items.isEmpty && Builtin.List.listTooLong (items.size+items2.size))=true)(hs1:items.size<=sizeLine)(hs2:items.size+items2.size<=sizeLine+1) :
  Meets (Builtin.«list.extend» ⟨[.ref l,.ref b],[]⟩) (λ_ R s=>s.heap.get? l=some { cls:=.type "list", dict:=none,data:=.seq items n,slots:=#[] }/\s.heap.get? b=some { cls:=.type "tuple", dict:=dc,data:=.seq items2 n2,slots:=sl }/\R (.ok (.ret Value.none)) { s with heap:=s.heap.update l (Obj.mapSeq λx=>x++items2),toks:=s.toks }):=
 .of_wp λprog w A R s h=>by
  obtain ⟨hp,g,d,tk,os⟩:=s;obtain ⟨hl,hb,h⟩:=h;have f1:=AutoSeq1.idx_int;have f2:=AutoSeq1.sub_tuple_tuple;have f3:=AutoSeq1.sub_list_list;have f4:=AutoSeq1.sub_tuple_list;have f5:=AutoSeq1.sub_list_tuple;have hz':(items++items2).size<=sizeLine+1:=by rw [Array.size_append];exact hs2
  wp_walk using (wpAny_updateSeq hl rfl (hz:=hs1) (_hz':=hz')),AutoSeq1.wpAny_loadPart' hl,AutoSeq1.wpAny_loadPart' hb
  exact ⟨_,rfl,h⟩
section
variable {X:Cx}
def ZH:V->List V->Hp->VK->Prop:=λx vs H Q=>∃l b xs zs,x=.ref l/\vs=[.ref b]/\H l=some (.lst xs)/\H b=some (.tup zs)/\xs.length+zs.length<=sizeLine/\Q .non (upd H l (.lst (xs++zs)))
theorem Xm:MtM X "list.extend" ZH:=by
 intro qQ s σ H x vs v us Q I rx rv h;obtain ⟨l,b,xs,zs,rfl,rfl,hH,hB,hz,q⟩:=h;cases rx;obtain ⟨u,rfl,ru⟩:=rv.one;cases ru;obtain ⟨z,its,n,r,hl,e⟩:=I.lstM hH;obtain ⟨_,its2,r2,o,ho,hc,n2,hd⟩:=I.hok b _ hB;have hl2:=r2.length;have hll:=r.length;have hsz:its.toArray.size+its2.toArray.size<=sizeLine:=by rw [List.size_toArray,List.size_toArray];lia
 have hlong:¬ (!its.toArray.isEmpty && Builtin.List.listTooLong (its.toArray.size+its2.toArray.size))=true:=by
  rw [Zl hsz,Bool.and_false];exact Bool.false_ne_true
 refine call_meets F.slot_list_extend ⟨_,e,rfl⟩ F.entry_list_extend (F.args_list_extend_2 _ _)
  (Xl l its.toArray n b its2.toArray n2 o.dict o.slots hlong (by rw [List.size_toArray];lia) (by lia)) ⟨e,?_,?_⟩
 ·rw [ho];cases o;simp only at hc hd;rw [hc,hd]
 refine ⟨.non,_,I.lset (its':=its++its2) hH e (by simp) (r.append r2) ?_,rfl,q⟩;rw [List.length_append]
 lia
end
end L2
namespace L2
open PySem PySem.Spec PyProof.Rows
mutual
inductive Th (H:Hp):V->PyData->Prop
 | non:Th H .non .none
 | bl (b:Bool):Th H (.bl b) (.bool b)
 | int (i:Int):Th H (.int i) (.int i)
 | str (x:Str):Th H (.str x) (.str x)
 | lst {a:Addr} {xs:List V} {ds:List PyData}:H a=some (.lst xs)->xs.length<=1000->Ths H xs ds->Th H (.ref a) (.list ds)
 | tup {a:Addr} {xs:List V} {ds:List PyData}:H a=some (.tup xs)->xs.length<=1000->Ths H xs ds->Th H (.ref a) (.tuple ds)
inductive Ths (H:Hp):List V->List PyData->Prop
 | nil:Ths H [] []
 | cons {x:V} {d:PyData} {xs:List V} {ds:List PyData}:Th H x d->Ths H xs ds->Ths H (x::xs) (d::ds)
end
mutual
theorem Th.same {H H':Hp}(s:Same H H'):∀{v:V}{d:PyData},Th H v d->Th H' v d
 | _,_,.non=>.non
 | _,_,.bl b=>.bl b
 | _,_,.int i=>.int i
 | _,_,.str x=>.str x
 | _,_,.lst e z h=>.lst (s _ _ e) z (Ths.same s h)
 | _,_,.tup e z h=>.tup (s _ _ e) z (Ths.same s h)
theorem Ths.same {H H':Hp}(s:Same H H'):∀{vs:List V}{ds:List PyData},Ths H vs ds->Ths H' vs ds
 | _,_,.nil=>.nil
 | _,_,.cons h t=>.cons (Th.same s h) (Ths.same s t)
end
theorem Ths.len {H:Hp}:∀{vs:List V}{ds:List PyData},Ths H vs ds->vs.length=ds.length
 | _,_,.nil=>rfl
 | _,_,.cons _ t=>by rw [List.length_cons,List.length_cons,Ths.len t]
theorem Ths.get {H:Hp}:∀{vs:List V}{ds:List PyData},Ths H vs ds->∀{i:Nat}{x:V},vs[i]?=some x->∃d,ds[i]?=some d/\Th H x d
 | _,_,.nil,_,_,h=>by simp at h
 | _,_,.cons h _,0,_,e=>by
  simp at e;subst e;exact ⟨_,rfl,h⟩
 | _,_,.cons _ t,i+1,_,e=>by
  rw [List.getElem?_cons_succ] at e ⊢;exact Ths.get t e
theorem Ths.at {H:Hp}{vs:List V}{ds:List PyData}(h:Ths H vs ds){i:Nat}{d:PyData}(e:ds[i]?=some d):∃x,vs[i]?=some x/\Th H x d:=by
 have hi:i<vs.length:=by rw [h.len];exact (List.getElem?_eq_some_iff.mp e).1
 obtain ⟨d',e',t⟩:=h.get (List.getElem?_eq_getElem hi);rw [e] at e';cases e';exact ⟨_,List.getElem?_eq_getElem hi,t⟩
theorem Ths.app {H:Hp}:∀{vs us:List V}{ds es:List PyData},Ths H vs ds->Ths H us es->Ths H (vs++us) (ds++es)
 | _,_,_,_,.nil,k=>k
 | _,_,_,_,.cons h t,k=>.cons h (Ths.app t k)
theorem Ths.take {H:Hp}:∀{vs:List V}{ds:List PyData},Ths H vs ds->∀n,Ths H (vs.take n) (ds.take n)
 | _,_,.nil,n=>by rw [List.take_nil,List.take_nil];exact .nil
 | _,_,.cons h t,0=>.nil
 | _,_,.cons h t,n+1=>.cons h (Ths.take t n)
theorem Ths.drop {H:Hp}:∀{vs:List V}{ds:List PyData},Ths H vs ds->∀n,Ths H (vs.drop n) (ds.drop n)
 | _,_,.nil,n=>by rw [List.drop_nil,List.drop_nil];exact .nil
 | _,_,.cons h t,0=>.cons h t
 | _,_,.cons h t,n+1=>Ths.drop t n
section
variable {X:Cx}{a:Expr}{ta:TE}{pos:Pos}
theorem ZaB (K:W.Frag)(h:X.K=K:=by rfl):J2 X (.type "tuple") (λxs H Q=>∃p ys,xs=[.ref p]/\((SqL K H p ys/\∀l,H l=none->Q (.ref l) (upd H l (.tup ys)))\/(SqT K H p ys/\Q (.ref p) H))):=h▸U5
end
def sJoin:List Str:=["and", "or", "but"]
def OW:List Str:=["closed", "shy", "all"]
def O8:List Str:=["open", "long"]
def Ut:List Str:=["with", "off", "over", "past"]
def U9:PyData->Bool
 | .int i=>decide (0<=i) && decide (i<=9999)
 | _=>false
def Jq (w:Str)(rest:List PyData):Bool:=
 if w∈OW then rest.isEmpty
 else if w∈O8 then (match rest with | [a,b]=>U9 a && U9 b | _=>false)
 else if w∈Ut then (match rest with | [.tuple ds]=>ds.all U9 | _=>false)
 else false
inductive Ws:PyData->Nat->Prop
 | leaf {w:Str} {rest:List PyData}:Jq w rest=true->Ws (.tuple (.str w::rest)) 1
 | join {w:Str} {a b:PyData} {m n:Nat}:w∈sJoin->Ws a m->Ws b n->Ws (.tuple [.str w,a,b]) (max m n+1)
theorem Uu {w:Str}{rest:List PyData}(h:w∈sJoin):Jq w rest=false:=by
 unfold Jq;have h1:w ∉ OW/\w ∉ O8/\w ∉ Ut:=by
  unfold sJoin at h;rcases List.mem_cons.mp h with rfl | h
  ·decide +kernel
  ·rcases List.mem_cons.mp h with rfl | h
   ·decide +kernel
   ·rw [List.mem_singleton] at h;subst h;decide +kernel
 rw [if_neg h1.1,if_neg h1.2.1,if_neg h1.2.2]
theorem Oh {w:Str}{rest:List PyData}(h:Jq w rest=true):w ∉ sJoin:=λz=>by rw [Uu z] at h;cases h
theorem Ws.pos {d:PyData}{m:Nat}(h:Ws d m):1<=m:=by
 cases h <;> lia
end L2
namespace L2
open PySem PySem.Spec PyProof.Rows
open AutoSeq1 (wpAny_loadPart') in
theorem V8 (L:Addr)(its:Array Value)(c:Nat)(y:Value)(ev:Value->Bool)(at_:Nat)(ha:at_<its.size)(yes:ev its[at_]=true)(room:its.size<=sizeLine):∀(left i:Nat),at_-i=left->i<=at_ ->
  (∀m (hm:m<its.size),i<=m->m<at_->ev its[m]=false)->Meets (Builtin.«list.remove.loop» ⟨[.ref L,y,rawInt i],[]⟩)
   (λA R s=>s.heap.get? L=some { cls:=.type "list", dict:=none,data:=.seq its c,slots:=#[] }/\(∀z,z∈its->SeqAt.EqAt A.in1 s z y (ev z))/\R (.ok (.ret .none)) { s with heap:=s.heap.update L (Obj.mapSeq λzs=>zs.eraseIdxIfInBounds at_) }):=by
 intro left
 induction left with
 | zero=>
  intro i hk hle no prog w A R s ⟨hl,he,h⟩;obtain ⟨hp,g,d,tk,os⟩:=s;have e:i=at_:=by lia
  subst e
  wp_walk using wpAny_loadPart' hl
  have g1:its[((i:Nat):Int).toNat]?=some its[i]:=by simp [ha]
  rw [g1];refine wpAny_bind (he _ (Array.getElem_mem ha) prog w _ _ ?_);rw [yes];have g2:(its.eraseIdxIfInBounds i).size<=sizeLine+1:=Nat.le_trans (MeetsSeq.size_erased its _) (Nat.le_succ_of_le room)
  wp_walk using (wpAny_updateSeq hl rfl (hz:=room) (_hz':=g2)),wpAny_loadPart' hl
  simpa using h
 | succ left ih=>
  intro i hk hle no prog w A R s ⟨hl,he,h⟩;obtain ⟨hp,g,d,tk,os⟩:=s;have hi:i<its.size:=by lia
  wp_walk using wpAny_loadPart' hl
  have g1:its[((i:Nat):Int).toNat]?=some its[i]:=by simp [hi]
  have g2:((i:Int)+1)=((i+1:Nat):Int):=by lia
  rw [g1];refine wpAny_bind (he _ (Array.getElem_mem hi) prog w _ _ ?_);rw [no i hi (Nat.le_refl _) (by lia)]
  wp_walk
  rw [g2];refine ⟨plainId_quiet MeetsSeq.plain_remove_loop _,codeAny_builtin MeetsSeq.entry_remove_loop ?_⟩;rw [Around.under_plainId MeetsSeq.plain_remove_loop _];exact ih (i+1) (by lia) (by lia) (λm hm m1 m2=>no m hm (by lia) m2) prog w A R _ ⟨hl,he,h⟩
open AutoSeq1 (wpAny_loadPart') in
theorem Xn (L:Addr)(its:Array Value)(c:Nat)(y:Value)(ev:Value->Bool)(at_:Nat)(ha:at_<its.size)(yes:ev its[at_]=true)(no:∀m (hm:m<its.size),m<at_->ev its[m]=false)(room:its.size<=sizeLine):Meets (Builtin.«list.remove» ⟨[.ref L,y],[]⟩)
   (λA R s=>s.heap.get? L=some { cls:=.type "list", dict:=none,data:=.seq its c,slots:=#[] }/\(∀z,z∈its->SeqAt.EqAt A.in1 s z y (ev z))/\R (.ok (.ret .none)) { s with heap:=s.heap.update L (Obj.mapSeq λzs=>zs.eraseIdxIfInBounds at_) }):=by
 intro prog w A R s ⟨hl,he,h⟩;obtain ⟨hp,g,d,tk,os⟩:=s
 wp_walk using wpAny_loadPart' hl
 refine ⟨plainId_quiet MeetsSeq.plain_remove_loop _,codeAny_builtin MeetsSeq.entry_remove_loop ?_⟩;rw [Around.under_plainId MeetsSeq.plain_remove_loop _];exact V8 L its c y ev at_ ha yes room _ 0 rfl (Nat.zero_le _) (λm hm _ m2=>no m hm m2) prog w A R _ ⟨hl,he,h⟩
section
variable {X:Cx}
def ZcT (K:W.Frag):V->List V->Hp->VK->Prop:=λx vs H Q=>∃l xs y d ds j,x=.ref l/\vs=[y]/\H l=some (.lst xs)/\DatV K H y d/\DatVs K H xs ds/\SeqAt.shaped d=true/\(∀e∈ds,SeqAt.shaped e=true) /\
 j<xs.length/\(∀e,ds[j]?=some e->PyData.eqv e d=true)/\(∀m,m<j->∀e,ds[m]?=some e->PyData.eqv e d=false)/\Q .non (upd H l (.lst (xs.eraseIdx j)))
theorem ZeI (K:W.Frag)(hu:X.A.units+65<cLine)(hK:X.K=K:=by rfl):MtM X "list.remove" (ZcT K):=by
 subst hK;intro qQ s σ H x vs v us Q I rx rv h;obtain ⟨l,xs,y,d,ds,j,rfl,rfl,hH,hd,hds,sd,sds,hj,yes,no,q⟩:=h;cases rx;obtain ⟨u,rfl,ru⟩:=rv.one;obtain ⟨z,its,n,r,hl,e⟩:=I.lstM hH;obtain ⟨as,ra⟩:=hd.reads I ru;obtain ⟨bs,rb⟩:=hds.reads I r;obtain ⟨k1,k2⟩:=ZaA rb sds;have hu1:X.A.in1.units+64<cLine:=by rw [Around.in1_units];lia
 have qJ:its.length=xs.length:=hl.symm;have at_:∀m (hm:m<its.length),ds[m]?=some (V2 s.heap its[m]):=λm hm=>by
  rw [<-k2,List.getElem?_map,List.getElem?_eq_getElem hm]
  rfl
 have room:its.toArray.size<=sizeLine:=by rw [List.size_toArray];lia
 refine call_meets PySem.F.slot_list_remove ⟨_,e,rfl⟩ PySem.F.entry_list_remove (PySem.F.args_list_remove_2 _ _) (Xn l its.toArray n u (λw=>PyData.eqv (V2 s.heap w) d) j (by rw [List.size_toArray];lia) (yes _ (at_ j (by lia))) (λm hm hlt=>no m hlt _ (at_ m (by simpa using hm))) room) ⟨e,λw hw=>?_,?_⟩
 ·obtain ⟨as',r',s'⟩:=k1 w (by simpa using hw);exact W.keq_at r' ra s' sd hu1
 ·refine ⟨.non,_,I.lset (its':=its.eraseIdx j) hH e ?_ (r.eraseIdx j) ?_,rfl,q⟩
  ·show its.toArray.eraseIdxIfInBounds j=(its.eraseIdx j).toArray;rw [List.eraseIdxIfInBounds_toArray]
  ·have:=Uj xs j
   lia
theorem ZfW {K:W.Frag}{H:Hp}{l p:Addr}{xs:List V}{rs:List (Int×Int)}{t:Int×Int}{Q:VK}(hl:H l=some (.lst xs))(pr:Prs H xs rs)(hp:H p=some (.tup [.int t.1,.int t.2]))(hm:t∈rs)(q:∀xs':List V,xs'.length<=xs.length->Prs H xs' (rs.erase t)->Q .non (upd H l (.lst xs'))):ZcT K (.ref l) [.ref p] H Q:=by
 have hj:rs.idxOf t<rs.length:=List.idxOf_lt_length_iff.mpr hm;have hx:=pr.len;refine ⟨l,xs,.ref p,prD t,rs.map prD,rs.idxOf t,rfl,rfl,hl,.tup (SqT.of hp) (.cons (.int _) (.cons (.int _) .nil)),pr.dats,UW t,Zt rs,by lia,λe he=>?_,λm hlt e he=>?_,?_⟩
 ·rw [List.getElem?_map,List.getElem?_eq_getElem hj] at he;cases he;rw [X3];exact decide_eq_true (List.getElem_idxOf hj)
 ·rw [List.getElem?_map,List.getElem?_eq_getElem (by lia)] at he;cases he;rw [X3];refine decide_eq_false λz=>?_;have:=List.not_of_lt_findIdx hlt;rw [z] at this;simp at this
 ·have:=Uj xs (rs.idxOf t);refine q _ (by lia) ?_;rw [List.erase_eq_eraseIdx_of_idxOf (i:=rs.idxOf t) rfl];exact pr.erase _
end
end L2
namespace L2
open PySem PySem.Spec PyProof.Rows
def ltP (x y:Int×Int):Bool:=decide (x.1<y.1) || (decide (x.1=y.1) && decide (x.2<y.2))
section
variable {prog:Program}{w:World}{A:Around}{E:Value->Shared->Prop}{s:Shared}
theorem lt_int {x y:Int}{t u:Tok}{Q:Value->Shared->Prop}(h:Q (.bool (decide (x<y))) s):wpAny (model prog w) A (richCompare .Lt (.int x t) (.int y u)) Q E s:=
 CmpOf.ints_lt (P:=λi v=>∃t,v=.int (if i=0 then x else y) t) (λi=>if i=0 then x else y) (λ_ _ p=>p) 0 1 _ _ s Q E ⟨t,rfl⟩ ⟨u,rfl⟩ h
theorem Zbg {a b:Addr}{x y:Int×Int}{t1 t2 u1 u2:Tok}{P:PySem.Fin->Shared->Prop}(ha:s.heap.IsTuple a #[.int x.1 t1,.int x.2 t2])(hb:s.heap.IsTuple b #[.int y.1 u1,.int y.2 u2])(h:P (.done (.ret (.bool (ltP x y)))) s) :
  wpAny (model prog w) A (Builtin.«tuple.__lt__» ⟨[.ref a,.ref b],[]⟩) P E s:=by
 obtain ⟨oa,ga,ca,na,da⟩:=ha;obtain ⟨ob,gb,cb,nb,db⟩:=hb;show wpAny _ _ (isInstance (.ref b) (.type "tuple") >>= _) _ _ s;refine wpAny_bind (wpAny_isInstance (T := "tuple") ⟨ob,gb,cb⟩ isSubtype_tuple_tuple ?_);simp only [Bool.not_true,Bool.false_eq_true,if_false];refine wpAny_bind (wpAny_tupleItemsOf ga da (wpAny_bind (wpAny_tupleItemsOf gb db (wpAny_bind ?_))));show wpAny _ _ (forIn [(Value.int x.1 t1,Value.int y.1 u1),(Value.int x.2 t2,Value.int y.2 u2)] _ _) _ _ s;rw [List.forIn_cons];refine wpAny_bind (wpAny_bind (wpAny_eqBool_int ?_));by_cases h1:x.1=y.1
 ·rw [show (x.1 == y.1)=true by rw [h1];exact beq_self_eq_true _];simp only [Bool.not_true,Bool.false_eq_true,if_false];refine wpAny_pure ?_;show wpAny _ _ (forIn [(Value.int x.2 t2,Value.int y.2 u2)] _ _) _ _ s;rw [List.forIn_cons];refine wpAny_bind (wpAny_bind (wpAny_eqBool_int ?_));by_cases h2:x.2=y.2
  ·rw [show (x.2 == y.2)=true by rw [h2];exact beq_self_eq_true _];simp only [Bool.not_true,Bool.false_eq_true,if_false];refine wpAny_pure ?_;show wpAny _ _ (forIn [] _ _) _ _ s;rw [List.forIn_nil];refine wpAny_pure (wpAny_pure ?_);have e:ltP x y=false:=by unfold ltP;rw [h1,h2];simp
   rw [e] at h;exact h
  ·rw [show (x.2 == y.2)=false by rw [beq_eq_false_iff_ne];exact h2];simp only [Bool.not_false,if_true];refine wpAny_bind (wpAny_rule (wpAny_bind (lt_int ?_)));have e:ltP x y=decide (x.2<y.2):=by unfold ltP;rw [h1];simp
   rw [e] at h;exact wpAny_bind (wpAny_pure (wpAny_pure (wpAny_pure (wpAny_pure h))))
 ·rw [show (x.1 == y.1)=false by rw [beq_eq_false_iff_ne];exact h1];simp only [Bool.not_false,if_true];refine wpAny_bind (wpAny_rule (wpAny_bind (lt_int ?_)));have e:ltP x y=decide (x.1<y.1):=by unfold ltP;rw [decide_eq_false h1];simp
  rw [e] at h;exact wpAny_bind (wpAny_pure (wpAny_pure (wpAny_pure (wpAny_pure h))))
theorem Zbh {a b:Addr}{x y:Int×Int}{t1 t2 u1 u2:Tok}{Q:Value->Shared->Prop}(ha:s.heap.IsTuple a #[.int x.1 t1,.int x.2 t2])(hb:s.heap.IsTuple b #[.int y.1 u1,.int y.2 u2])(hu:A.units<cLine)(h:Q (.bool (ltP x y)) s):wpAny (model prog w) A (richCompare .Lt (.ref a) (.ref b)) Q E s:=by
 have Ta:s.TypeIs (.ref a) "tuple" := ha.elim λo z=>⟨o,z.1,z.2.1⟩;have Tb:s.TypeIs (.ref b) "tuple" := hb.elim λo z=>⟨o,z.1,z.2.1⟩;exact wpAny_richCompare_same_room (op:=.Lt) Ta Tb F.slot_tuple_lt (wpAny_call_entry F.slot_tuple_lt Ta F.entry_tuple_lt (Zbg ha hb ⟨_,rfl,(λe=>nomatch e),h⟩) (F.args_tuple_lt_2 _ _)) hu
end
def ZcU (prog:Program)(w:World)(A:Around)(op:CmpOp)(J:Heap->Prop)(P:Nat->Value->Prop)(bt:Nat->Nat->Bool):Prop:=
 ∀(s:Shared)(i j:Nat)(vi vj:Value)(Q E:Value->Shared->Prop),J s.heap->P i vi->P j vj->Q (.bool (bt i j)) s->wpAny (model prog w) A (richCompare op vi vj) Q E s
section
variable {prog:Program}{w:World}{A:Around}{R:Result->Shared->Prop}{I:Addr}{fp wr:List Addr}{n:Nat}{P:Nat->Value->Prop}{St:Nat->Heap->Prop}{J:Heap->Prop}{kw:List (Str×Value)}
theorem Yj (W:Walks prog w A.in1 I fp wr n P St)(bt:Nat->Nat->Bool)(cmp:ZcU prog w A.in1 .Lt J P bt)(D:Addr)(hD:D ∉ fp)(keepJ:∀h h':Heap,J h->(∀b o,b ∉ wr->b≠D->h.get? b=some o->h'.get? b=some o)->J h') :
  ∀(left m:Nat)(s:Shared)(best:Value)(c:Nat),n-(m+1)=left->m+1<=n->St (m+1) s.heap->J s.heap->P (argBest bt m) best ->
  s.heap.get? D=some { cls:=.type "list", dict:=none,data:=.seq #[best,best] c,slots:=#[] } ->
  (∀v h' tk,P (argBest bt (n-1)) v->(∀b o,b ∉ wr->b≠D->s.heap.get? b=some o->h'.get? b=some o)->R (.ok (.ret v)) { s with heap:=h',toks:=tk }) ->
  codeAny (model prog w) A (.builtin "min.loop" ⟨[.ref I,.none,.ref D],kw⟩) R s:=by
 have hDw:D ∉ wr:=λz=>hD (W.sub _ z);have nm:(toString "min" ++ toString ".loop" : String) = "min.loop" := by decide
 intro left
 induction left with
 | zero=>
  intro m s best c hl hm st j pb gD hR;have en:m+1=n:=by lia
  refine codeAny_builtin F.entry_min_loop ?_;rw [Around.under_plainId F.plain_min_loop _];show wpAny _ A.in1 (seqItems? (.ref D) >>= _) _ _ s;refine wpAny_bind (wpAny_seqItems gD rfl (show wpAny _ A.in1 (tryCatch (pyNext (.ref I)) _ >>= _) _ _ s from wpAny_bind (wpAny_tryCatch (W.done s _ _ (en▸st) λh' tk kept=>?_))));show wpAny _ A.in1 (updateSeq D (λ_=>#[]) >>= _) _ _ _;refine wpAny_bind (wpAny_updateSeq (kept D _ hDw gD) rfl (wpAny_bind (wpAny_letGo (wpAny_pure (hR best _ tk (by rw [<-en];exact pb) λb o nw nD e=>?_)))));exact (Heap.get?_update_other _ _ (Ne.symm nD)).trans (kept b o nw e)
 | succ left ih=>
  intro m s best c hl hm st j pb gD hR;refine codeAny_builtin F.entry_min_loop ?_;rw [Around.under_plainId F.plain_min_loop _];show wpAny _ A.in1 (seqItems? (.ref D) >>= _) _ _ s;refine wpAny_bind (wpAny_seqItems gD rfl (show wpAny _ A.in1 (tryCatch (pyNext (.ref I)) _ >>= _) _ _ s from wpAny_bind (wpAny_tryCatch (W.item (m+1) s _ _ (by lia) st λv h' tk pv st' kept=>?_))));have gD':=kept D _ hDw gD;have j':J h':=keepJ _ _ j λb o nw _ e=>kept b o nw e;show wpAny _ A.in1 (tryCatch (holding [v,v] (richCompare .Lt v best >>= _)) _ >>= _) _ _ _;refine wpAny_bind (wpAny_tryCatch (wpAny_holding (wpAny_bind (cmp _ (m+1) (argBest bt m) v best _ _ j' pv pb (wpAny_bind (wpAny_holding (wpAny_truthy_bool (wpAny_bind (wpAny_letGo (wpAny_pure ?_))))))))));cases hb:bt (m+1) (argBest bt m) with
  | true=>
   simp only [if_true];refine wpAny_bind (wpAny_updateSeq gD' rfl (wpAny_bind (wpAny_letGo ?_)));rw [nm];refine wpAny_pure ⟨plainId_quiet F.plain_min_loop _,ih (m+1) _ v _ (by lia) (by lia) (W.frame _ _ _ st' λb bf o e=>?_) (keepJ _ _ j' λb o _ nD e=>(Heap.get?_update_other _ _ (Ne.symm nD)).trans e) (by simp only [argBest,hb,if_true];exact pv) (Heap.get?_update_self _ gD' rfl) λv' h2 tk2 pv' k2=>?_⟩
   ·exact (Heap.get?_update_other _ _ (λz:D=b=>hD (by rw [z];exact bf))).trans e
   ·exact hR v' h2 tk2 pv' λb o nw nD e=>k2 b o nw nD ((Heap.get?_update_other _ _ (Ne.symm nD)).trans (kept b o nw e))
  | false=>
   simp only [Bool.false_eq_true,if_false];refine wpAny_bind (wpAny_letGo ?_);rw [nm];refine wpAny_pure ⟨plainId_quiet F.plain_min_loop _,ih (m+1) _ best c (by lia) (by lia) st' j' (by simp only [argBest,hb,Bool.false_eq_true,if_false];exact pb) gD' λv' h2 tk2 pv' k2=>?_⟩;exact hR v' h2 tk2 pv' λb o nw nD e=>k2 b o nw nD (kept b o nw e)
theorem Xo (W:Walks prog w A.in1 I fp wr n P St)(bt:Nat->Nat->Bool)(cmp:ZcU prog w A.in1 .Lt J P bt)(D:Addr)(hD:D ∉ fp)(keepJ:∀h h':Heap,J h->(∀b o,b ∉ wr->b≠D->h.get? b=some o->h'.get? b=some o)->J h')(hn:0<n){s:Shared}{c:Nat}(st:St 0 s.heap)(j:J s.heap)(gD:s.heap.get? D=some { cls:=.type "list", dict:=none,data:=.seq #[] c,slots:=#[] })(hR:∀v h' tk,P (argBest bt (n-1)) v->(∀b o,b ∉ wr->b≠D->s.heap.get? b=some o->h'.get? b=some o)->R (.ok (.ret v)) { s with heap:=h',toks:=tk }) :
  codeAny (model prog w) A (.builtin "min.loop" ⟨[.ref I,.none,.ref D],kw⟩) R s:=by
 have hDw:D ∉ wr:=λz=>hD (W.sub _ z);have nm:(toString "min" ++ toString ".loop" : String) = "min.loop" := by decide
 refine codeAny_builtin F.entry_min_loop ?_;rw [Around.under_plainId F.plain_min_loop _];show wpAny _ A.in1 (seqItems? (.ref D) >>= _) _ _ s;refine wpAny_bind (wpAny_seqItems gD rfl (show wpAny _ A.in1 (tryCatch (pyNext (.ref I)) _ >>= _) _ _ s from wpAny_bind (wpAny_tryCatch (W.item 0 s _ _ hn st λv h' tk pv st' kept=>?_))));have gD':=kept D _ hDw gD;have j':J h':=keepJ _ _ j λb o nw _ e=>kept b o nw e;show wpAny _ A.in1 (updateSeq D (λ_=>#[v,v]) >>= _) _ _ _;refine wpAny_bind (wpAny_updateSeq gD' rfl ?_);rw [nm];refine wpAny_pure ⟨plainId_quiet F.plain_min_loop _,Yj W bt cmp D hD keepJ _ 0 _ v _ rfl hn (W.frame _ _ _ st' λb bf o e=>?_) (keepJ _ _ j' λb o _ nD e=>(Heap.get?_update_other _ _ (Ne.symm nD)).trans e) pv (Heap.get?_update_self _ gD' rfl) λv' h2 tk2 pv' k2=>?_⟩
 ·exact (Heap.get?_update_other _ _ (λz:D=b=>hD (by rw [z];exact bf))).trans e
 ·exact hR v' h2 tk2 pv' λb o nw nD e=>k2 b o nw nD ((Heap.get?_update_other _ _ (Ne.symm nD)).trans (kept b o nw e))
end
theorem ltP_iff {x y:Int×Int}:ltP x y=true↔x.1<y.1\/(x.1=y.1/\x.2<y.2):=by
 unfold ltP;rw [Bool.or_eq_true,Bool.and_eq_true,decide_eq_true_iff,decide_eq_true_iff,decide_eq_true_iff]
theorem VJ (f:Nat->Int×Int):∀k,argBest (λi j=>ltP (f i) (f j)) k<=k/\∀j,j<=k->ltP (f j) (f (argBest (λi j=>ltP (f i) (f j)) k))=false
 | 0=>⟨Nat.le_refl _,λj hj=>by
  have:j=0:=by lia
  subst this;rw [<-Bool.not_eq_true];intro z;have:=ltP_iff.mp z;have e:argBest (λi j=>ltP (f i) (f j)) 0=0:=rfl;rw [e] at this
  lia⟩
 | k+1=>by
  obtain ⟨i1,i2⟩:=VJ f k;have e:argBest (λi j=>ltP (f i) (f j)) (k+1)=if ltP (f (k+1)) (f (argBest (λi j=>ltP (f i) (f j)) k))=true then k+1 else argBest (λi j=>ltP (f i) (f j)) k:=rfl
  rw [e];generalize argBest (λi j=>ltP (f i) (f j)) k=g at i1 i2;by_cases z:ltP (f (k+1)) (f g)=true
  ·rw [if_pos z];refine ⟨Nat.le_refl _,λj hj=>?_⟩;rw [<-Bool.not_eq_true];intro y;have z1:=ltP_iff.mp z;have y1:=ltP_iff.mp y;by_cases hk:j=k+1
   ·subst hk;lia
   ·have:=i2 j (by lia);rw [<-Bool.not_eq_true,ltP_iff] at this
    lia
  ·rw [if_neg z];refine ⟨by lia,λj hj=>?_⟩;by_cases hk:j=k+1
   ·rw [hk];exact Bool.eq_false_iff.mpr z
   ·exact i2 j (by lia)
section
variable {X:Cx}
def ZaC (xs:List V)(rs:List (Int×Int))(t:Addr)(r:Int×Int):Prop:=(∃i:Nat,xs[i]?=some (.ref t)/\rs[i]?=some r)/\∀r'∈rs,ltP r' r=false
theorem ZI {qQ:List (Addr×Obj)}{s:Shared}{σ:St}{H:Hp}{Q:VK}{p:Addr}{xs:List V}{rs:List (Int×Int)}{its:List Value}{kw:List (Str×Value)}(hc:X.calm=true)(hu:X.A.units+1<cLine)(I:Inv X qQ σ H s)(r:Vals xs its)(pl:PlainL s.heap p its.toArray)(pr:Prs H xs rs)(hne:rs≠[])(q:∀t r,ZaC xs rs t r->Q (.ref t) H){R:Result->Shared->Prop}(hR:∀v s',EP X qQ σ Q v s'->R (.ok (.ret v)) s'):∀c:Nat,
  codeAny (model X.prog X.w) X.A (.builtin "min.loop" ⟨[.ref s.heap.objs.size,.none,.ref (s.heap.objs.size+1)],kw⟩) R { s with heap:=(s.heap.push { cls:=.type "list_iterator", data:=.fields #[.ref p,.int 0 0] }).push { cls:=.type "list", dict:=none,data:=.seq #[] c,slots:=#[] } }:=by
 intro c;have hl:=r.length;have hx:=pr.len;have hpos:0<rs.length:=List.length_pos_iff.mpr hne;have hh:X.A.in1.handled=none:=I.ok.hd hc;obtain ⟨o,eo,_⟩:=id pl.isList;have hlt:p<s.heap.objs.size:=Heap.lt_size eo;have e1:(s.heap.push { cls:=.type "list_iterator", data:=.fields #[.ref p,.int 0 0] }).objs.size=s.heap.objs.size+1:=Heap.size_push ..;have at_:∀i v,its[i]?=some v->∃t u1 u2,v=.ref t/\xs[i]?=some (.ref t)/\rs[i]?=some (rs.getD i (0,0))/\s.heap.IsTuple t #[.int (rs.getD i (0,0)).1 u1,.int (rs.getD i (0,0)).2 u2]:=λi v hv=>by
  have hi:i<its.length:=(List.getElem?_eq_some_iff.mp hv).1;have hxi:xs[i]?=some xs[i]:=List.getElem?_eq_getElem (by lia);obtain ⟨t,q',et,eh,er⟩:=pr.get hxi;obtain ⟨u,gu,ru⟩:=r.get hxi;rw [gu] at hv;cases hv;rw [et] at ru;cases ru;have eg:rs.getD i (0,0)=q':=by rw [List.getD_eq_getElem?_getD,er];rfl
  obtain ⟨its2,r2,pl2,_⟩:=I.tuple (SqT.of eh);cases r2 with
  | cons a1 r3=>
   cases r3 with
   | cons a2 r4=>
    cases r4;obtain ⟨u1,rfl⟩:=a1;obtain ⟨u2,rfl⟩:=a2;exact ⟨t,u1,u2,rfl,by rw [hxi,et],by rw [eg];exact er,by rw [eg];exact pl2⟩
 have kept0:∀b o,s.heap.get? b=some o->((s.heap.push { cls:=.type "list_iterator", data:=.fields #[.ref p,.int 0 0] }).push { cls:=.type "list", dict:=none,data:=.seq #[] c,slots:=#[] }).get? b=some o:=λb o e=>Heap.get?_push_of_some _ (Heap.get?_push_of_some _ e);have W:=Walks.list (prog:=X.prog) (w:=X.w) hh s.heap.objs.size p (Nat.ne_of_lt hlt) its.toArray;have hsz:its.toArray.size=rs.length:=by rw [List.size_toArray];lia
 refine Xo (J:=λh=>∀i t u1 u2,its[i]?=some (.ref t)->s.heap.IsTuple t #[.int (rs.getD i (0,0)).1 u1,.int (rs.getD i (0,0)).2 u2]->h.IsTuple t #[.int (rs.getD i (0,0)).1 u1,.int (rs.getD i (0,0)).2 u2]) W (λi j=>ltP (rs.getD i (0,0)) (rs.getD j (0,0))) ?cmp (s.heap.objs.size+1) ?hD ?kJ (by rw [hsz];exact hpos) ?st ?j (by rw [<-e1];exact Heap.get?_push_size _ rfl) ?fin
 case cmp=>
  intro s' i j vi vj Q' E' hJ hi hj hq;obtain ⟨a,u1,u2,rfl,_,_,ha⟩:=at_ i vi (by simpa using hi);obtain ⟨b,w1,w2,rfl,_,_,hb⟩:=at_ j vj (by simpa using hj);exact Zbh (hJ i a u1 u2 (by simpa using hi) ha) (hJ j b w1 w2 (by simpa using hj) hb) (by rw [Around.in1_units];exact hu) hq
 case hD=>
  intro z;have:s.heap.objs.size+1=s.heap.objs.size\/s.heap.objs.size+1=p:=by simpa using z
  rcases this with e | e
  ·exact absurd e (Nat.succ_ne_self _)
  ·exact absurd hlt (by rw [<-e];exact Nat.not_lt.mpr (Nat.le_succ _))
 case kJ=>
  intro h h' hJ kp i t u1 u2 hi hT;obtain ⟨o',g',rest⟩:=hJ i t u1 u2 hi hT;obtain ⟨o0,g0,_⟩:=hT;have ht:t<s.heap.objs.size:=Heap.lt_size g0;refine ⟨o',kp t o' (λz=>?_) (Nat.ne_of_lt (Nat.lt_succ_of_lt ht)) g',rest⟩;have:t=s.heap.objs.size:=by simpa using z
  exact absurd ht (by rw [this];exact Nat.lt_irrefl _)
 case st=>
  refine ⟨⟨_,Heap.get?_push_of_some _ (Heap.get?_push_size _ rfl),rfl,rfl⟩,pl.isList.at λo e=>kept0 _ _ e⟩
 case j=>
  intro i t u1 u2 hi hT;obtain ⟨o0,g0,rest⟩:=hT;exact ⟨o0,kept0 _ _ g0,rest⟩
 case fin=>
  intro v h' tk hv hk;obtain ⟨b1,b2⟩:=VJ (λi=>rs.getD i (0,0)) (its.toArray.size-1);generalize argBest (λi j=>ltP (rs.getD i (0,0)) (rs.getD j (0,0))) (its.toArray.size-1)=g at hv b1 b2;obtain ⟨t,u1,u2,rfl,ex,er,_⟩:=at_ g v (by simpa using hv);refine hR _ _ ⟨.ref t,H,I.kept λb o e'=>hk b o ?_ ?_ (kept0 b o e'),rfl,q t _ ⟨⟨g,ex,er⟩,λr' hr'=>?_⟩⟩
  ·intro z;have:b=s.heap.objs.size:=by simpa using z
   exact absurd (Heap.lt_size e') (by rw [this];exact Nat.lt_irrefl _)
  ·exact Nat.ne_of_lt (Nat.lt_succ_of_lt (Heap.lt_size e'))
  ·obtain ⟨j,hj,rfl⟩:=List.getElem_of_mem hr';have:=b2 j (by lia);rw [List.getD_eq_getElem?_getD,List.getElem?_eq_getElem hj] at this;exact this
def ZaD (X:Cx)(f:Value)(ks:List Str)(r:List V->List V->Hp->VK->Prop):Prop:=∀(qQ:List (Addr×Obj))(s:Shared)(σ:St)(H:Hp)(xs:List V)(us:List Value)(zs:List V)(ws:List Value)(Q:VK),Inv X qQ σ H s->Vals xs us->Vals zs ws->r xs zs H Q->wpAny (model X.prog X.w) X.A (call f us (ks.zip ws)) (EP X qQ σ Q) X.xe s
def ZfX (r:List V->List V->Hp->VK->Prop)(t tk:TA):TE:=λσ H Q=>t σ H λvs H1=>tk σ H1 λzs H2=>r vs zs H2 Q
theorem Yk {id:String}{ks:List Str}{r:List V->List V->Hp->VK->Prop}{x:Str}{p pos:Pos}{e:Expr}{es:List Expr}{kws:List Keyword}{t tk:TA}(hc:ZaD X (.builtin id) ks r)(hg:Gl X x)(hm:X.mg x=none)(hv:bootBuiltins x=some (.builtin id))(ha:PA X (e::es) t)(hkw:PK X kws tk)(hks:(backToKw pos (keywordEach kws X.env)).filterMap (·.1)=ks:=by rfl)(hn:x ≠ "__name__" := by decide)(hdb:(x == ("__debug__" : Str))=false:=by decide)(he:backTo pos (starEach (e::es) X.env)=(false,eval e X.env)::backTo pos (starEach es X.env):=by rfl)(hpl:(backTo pos (starEach (e::es) X.env)).any (·.1)=false:=by rfl)(qX:(backToKw pos (keywordEach kws X.env)).all (·.1.isSome)=true:=by rfl)(hno:(backToKw pos (keywordEach kws X.env)).any (·.1.isNone)=false:=by rfl):PE X (.Call (.Name x p) (e::es) kws pos) (ZfX r t tk):=by
 intro qQ s σ H Q I h;refine wpAny_Call_Name_kw (Ob I hg hm hv ?_ hn hdb);refine PyProof.Rows.callWith_kw (thn (ha pos qQ s σ H _ I h) λus s1 ⟨vs,H1,I1,r1,q1⟩=>thn (hkw pos qQ s1 σ H1 _ I1 q1) λws s2 ⟨zs,H2,I2,r2,q2⟩=>?_) he hpl qX hno;rw [hks];exact hc qQ s2 σ H2 vs us zs ws Q I2 r1 r2 q2
theorem VL {prog:Program}{w:World}{A:Around}{E:Value->Shared->Prop}{s:Shared}{id:String}{b:Builtin}{args:Args}{Q:Value->Shared->Prop}(nk:builtinKind id=none)(np:plainId id=true)(nb:entryFor table id=some b)(na:argsOk id args)(h:wpAny (model prog w) A.in1 (b args) (λfin z=>match fin with
   | .done f=>(match (Except.ok f:Result) with | .ok (.ret v)=>Q v z | .ok _=>False | .error e=>E e z)
   | .again c=>c.quiet=true/\codeAny (model prog w) A c (λr z=>match r with | .ok (.ret v)=>Q v z | .ok _=>False | .error e=>E e z) z) E s) :
  wpAny (model prog w) A (call (.builtin id) args.pos args.kw) Q E s:=by
 refine wpAny_call (codeAny_call_builtin np nb ?_);simp only [checkBuiltinCall,nk];cases sg:Manifest.signature? id with
 | none=>exact wpAny_pure h
 | some sig=>
  have na2:Bind.checkArgs id sig args=pure ():=by simpa only [argsOk,sg] using na
  show wpAny _ A.in1 (Bind.checkArgs id sig args) _ _ s;rw [na2];exact wpAny_pure h
theorem Yl (a b:Value):argsOk "min" ⟨[a],[(Str.ofString "default", b)]⟩:=by unfold argsOk;kernel_rfl
theorem ZcV (K:PySem.W.Frag)(hc:X.calm=true)(hu:X.A.units+1<cLine)(h:X.K=K:=by rfl):ZaD X (.builtin "min") ["default"] (λvs zs H Q=>∃(p:Addr)(xs:List V)(rs:List (Int×Int))(d:V),vs=[.ref p]/\zs=[d]/\SqL K H p xs/\Prs H xs rs/\(rs=[]->Q d H)/\∀t r,ZaC xs rs t r->Q (.ref t) H):=by
 subst h;intro qQ s σ H xs us zs ws Q I rv rz h;obtain ⟨p,xs,rs,d,rfl,rfl,hq,pr,q0,q⟩:=h;obtain ⟨u,rfl,ru⟩:=rv.one;obtain ⟨du,rfl,rd⟩:=rz.one;cases ru;obtain ⟨its,r,pl,hz⟩:=I.list hq;have nm:(toString "min" ++ toString ".loop" : String) = "min.loop" := by decide
 refine VL (args:=⟨[.ref p],[(Str.ofString "default", du)]⟩) F.kind_min F.plain_min F.entry_min (Yl _ _) ?_;refine wpAny_bind (wpAny_of_eq (show Builtin.Builtins.bindParams "min" ["key", "default"] 0 ⟨[],[(Str.ofString "default", du)]⟩=pure [none,some du] from rfl) (wpAny_bind (wpAny_pure (wpAny_bind (wpAny_pyIter_list pl.isList (wpAny_bind (wpAny_newObj_type ?_)))))));rw [nm];have e1:(s.heap.push { cls:=.type "list_iterator", data:=.fields #[.ref p,.int 0 0] }).objs.size=s.heap.objs.size+1:=Heap.size_push ..;refine wpAny_pure ⟨plainId_quiet F.plain_min_loop _,?_⟩;show codeAny _ _ (.builtin "min.loop" ⟨[.ref s.heap.objs.size,.none,.ref (s.heap.push { cls:=.type "list_iterator", data:=.fields #[.ref p,.int 0 0] }).objs.size],[(Str.ofString "default", du)]⟩) _ _;rw [e1];by_cases hne:rs=[]
 ·have hh:X.A.in1.handled=none:=I.ok.hd hc;obtain ⟨o,eo,_⟩:=id pl.isList;have hlt:p<s.heap.objs.size:=Heap.lt_size eo;have hi0:its=[]:=by
   have:=r.length;have:=pr.len;rw [hne,List.length_nil] at this;exact List.length_eq_zero_iff.mp (by lia)
  have W:=Walks.list (prog:=X.prog) (w:=X.w) hh s.heap.objs.size p (Nat.ne_of_lt hlt) its.toArray;refine codeAny_builtin F.entry_min_loop ?_;rw [Around.under_plainId F.plain_min_loop _];show wpAny _ X.A.in1 (seqItems? (.ref (s.heap.objs.size+1)) >>= _) _ _ _;refine wpAny_bind (wpAny_seqItems (by rw [<-e1];exact Heap.get?_push_size _ rfl) rfl ?_);refine wpAny_bind (wpAny_tryCatch (W.done _ _ _ ?_ λh' tk kept=>?_))
  ·rw [hi0];exact ⟨⟨_,Heap.get?_push_of_some _ (Heap.get?_push_size _ rfl),rfl,rfl⟩,by rw [<-hi0];exact pl.isList.at λo e=>Heap.get?_push_of_some _ (Heap.get?_push_of_some _ e)⟩
  ·refine wpAny_bind (wpAny_rule (wpAny_pure ⟨d,H,I.kept λb o e'=>kept b o ?_ (Heap.get?_push_of_some _ (Heap.get?_push_of_some _ e')),rd,q0 hne⟩));intro z;have:b=s.heap.objs.size:=by simpa using z
   exact absurd (Heap.lt_size e') (by rw [this];exact Nat.lt_irrefl _)
 ·exact ZI hc hu I r pl pr hne q (λv s' h=>h) 0
end
end L2
namespace L2
open PySem PySem.Spec PyProof.Rows
section
variable {X:Cx}
theorem Zfw (K:W.Frag)(hc:X.calm=true)(h:X.K=K:=by rfl):J2 X (.builtin "any") (λxs H Q=>∃(p:Addr)(bs:List Bool),xs=[.ref p]/\SqL K H p (bs.map V.bl)/\Q (.bl (bs.any id)) H):=by
 subst h;intro qQ s σ H xs us Q I rv h;obtain ⟨p,bs,rfl,hq,q⟩:=h;obtain ⟨u,rfl,ru⟩:=rv.one;cases ru;obtain ⟨its,r,pl,hz⟩:=I.list hq;have e:=Ur r;have hh:X.A.in1.handled=none:=I.ok.hd hc;obtain ⟨o,eo,_⟩:=id pl.isList;have hlt:p<s.heap.objs.size:=Heap.lt_size eo;refine call_any_walk (wpAny_pyIter_list pl.isList ?_);refine ⟨s.heap.objs.size,_,_,_,_,_,λi=>bs.getD i false,rfl,Walks.list hh s.heap.objs.size p (Nat.ne_of_lt hlt) its.toArray,⟨⟨_,Heap.get?_push_size _ rfl,rfl,rfl⟩,pl.isList.at λo e=>Heap.get?_push_of_some _ e⟩,?_,λh' tk hk=>?_⟩
 ·intro i v s' Q' E' hv hq';have hv':its[i]?=some v:=by simpa using hv
  rw [e,List.getElem?_map] at hv';cases z:bs[i]? with
  | none=>rw [z] at hv';cases hv'
  | some b=>
   rw [z] at hv';cases hv';have eb:bs.getD i false=b:=by rw [List.getD_eq_getElem?_getD,z];rfl
   exact wpAny_truthy_bool (by rw [<-eb];exact hq')
 ·have hl:its.toArray.size=bs.length:=by rw [List.size_toArray,e,List.length_map]
  refine ⟨.bl _,H,I.kept λb o e'=>hk b o ?_ (Heap.get?_push_of_some _ e'),?_,q⟩
  ·intro z;have:b=s.heap.objs.size:=by simpa using z
   exact absurd (Heap.lt_size e') (by rw [this];exact Nat.lt_irrefl _)
  ·show Value.bool _=Value.bool _
   congr 1
   rw [hl];clear hk hl hz pl r hq e q
   induction bs with
   | nil=>rfl
   | cons b bs ih=>
    rw [List.length_cons,List.range_succ_eq_map,List.any_cons,List.any_map,List.any_cons];show (b || _)=(b || _)
    congr 1
theorem WG:bootBuiltins "any" = some (.builtin "any"):=by first | rfl | decide +kernel
end
end L2
namespace L2
open PySem PySem.Spec PyProof.Rows
section
variable {X:Cx}
theorem Va {α β:Type}{F:α->β->Prop}{l:List α}{m:List β}(h:Paired F l m):∀{i:Nat}{x:α},l[i]?=some x->∃y,m[i]?=some y/\F x y:=by
 induction h with
 | nil=>intro i x e;simp at e
 | @cons p q _ _ r _ ih=>
  intro i x e;cases i with
  | zero=>simp at e;subst e;exact ⟨q,by simp,r⟩
  | succ i=>simp at e;obtain ⟨y,h1,h2⟩:=ih e;exact ⟨y,by simpa using h1,h2⟩
end
end L2
namespace L2
open PySem PySem.Spec PyProof.Rows
section
variable {prog:Program}{w:World}{A:Around}{E:Value->Shared->Prop}{s:Shared}
theorem ZJ {it l:Addr}{k:Nat}{items:Array Value}{x:Value}{Q:Value->Shared->Prop}(st:s.heap.get? it=some (revObj l (k:Int)))(hl:s.heap.IsList l items)(hx:items[k]?=some x)(q:∀h',h'.get? it=some (revObj l ((k:Int)-1))->Heap.SameBut it s.heap h'->Q x { s with heap:=h' }) :
  wpAny (model prog w) A (Builtin.«list_reverseiterator.__next__» ⟨[.ref it],[]⟩) (λfin s'=>∃v,fin=.done (.ret v)/\Q v s') E s:=by
 obtain ⟨ol,e1,e2,n,e3⟩:=hl
 wp_walk using wpAny_field st rfl (x:=rawInt (k:Int)) rfl
 rw [e3];refine wpAny_pure ?_;dsimp only;rw [Int.toNat_natCast,hx];dsimp only;refine wpAny_bind (wpAny_setField_rec st (by simp) λh' e' b'=>?_);exact wpAny_pure ⟨_,rfl,q h' e' b'⟩
theorem ZK {it l:Addr}{Q:Value->Shared->Prop}(hh:A.handled=none)(st:s.heap.get? it=some (revObj l (-1)))(q:∀h' e,(∀c o,s.heap.get? c=some o->h'.get? c=some o)->(∃o,h'.get? e=some o/\o.cls=.type "StopIteration")->E (.ref e) { s with heap:=h' }):wpAny (model prog w) A (Builtin.«list_reverseiterator.__next__» ⟨[.ref it],[]⟩) (λfin s'=>∃v,fin=.done (.ret v)/\Q v s') E s:=by
 wp_walk using wpAny_field st rfl (x:=rawInt (-1)) rfl,wpAny_raiseNew_none hh
 exact q _ _ (λc o e=>Heap.get?_push_of_some _ (Heap.get?_push_of_some _ e)) ⟨_,Heap.get?_push_size _ rfl,rfl⟩
theorem ZM {it l:Addr}{k:Nat}{items:Array Value}{x:Value}{Q:Option Value->Shared->Prop}(st:s.heap.get? it=some (revObj l (k:Int)))(hl:s.heap.IsList l items)(hx:items[k]?=some x)(q:∀h',h'.get? it=some (revObj l ((k:Int)-1))->Heap.SameBut it s.heap h'->Q (some x) { s with heap:=h' }):wpAny (model prog w) A (pyNext (.ref it)) Q E s:=by
 have T:s.TypeIs (.ref it) "list_reverseiterator" := ⟨_,st,rfl⟩;refine wpAny_bind (wpAny_attempt (wpAny_callSpecial?_slot T F.slot_lri_next (wpAny_call_entry F.slot_lri_next T F.entry_lri_next (ZJ st hl hx λh' a b=>?_) (F.args_lri_next_1 _))))
 wp_walk
 exact q h' a b
theorem ZN {it l:Addr}{Q:Option Value->Shared->Prop}(hh:A.in1.handled=none)(st:s.heap.get? it=some (revObj l (-1)))(q:∀h',(∀c o,s.heap.get? c=some o->h'.get? c=some o)->Q none { s with heap:=h' }):wpAny (model prog w) A (pyNext (.ref it)) Q E s:=by
 have T:s.TypeIs (.ref it) "list_reverseiterator" := ⟨_,st,rfl⟩;refine wpAny_bind (wpAny_attempt (wpAny_callSpecial?_slot T F.slot_lri_next (wpAny_call_entry F.slot_lri_next T F.entry_lri_next (ZK hh st ?_) (F.args_lri_next_1 _))));rintro h' e k ⟨o',e1,e2⟩;exact wpAny_bind (wpAny_isInstance ⟨o',e1,e2⟩ isSubtype_stop (wpAny_pure (q h' k)))
theorem WH {it l:Addr}{k:Int}{Q:Value->Shared->Prop}(st:s.heap.get? it=some (revObj l k))(q:Q (.ref it) s):wpAny (model prog w) A (pyIter (.ref it)) Q E s:=by
 have T:s.TypeIs (.ref it) "list_reverseiterator" := ⟨_,st,rfl⟩;refine wpAny_pyIter_slot T F.slot_lri_iter (wpAny_call_entry F.slot_lri_iter T F.entry_lri_iter ?_ (F.args_lri_iter_1 _))
 wp_walk
 exact ⟨_,rfl, "list_reverseiterator", _,T,F.slot_lri_next.lookup,q⟩
end
def Itv (K:W.Frag)(a:Addr)(n:Nat):It:=
 ⟨λi H=>i<n/\∃xs,SqL K H a xs/\xs.length=n,λi H x H'=>H'=H/\∀xs,SqL K H a xs->xs[n-1-i]?=some x,λi _=>i=n⟩
theorem ZO {P:Program}{w:World}{K:W.Frag}{tg:Expr}(a it:Addr)(n:Nat):Zg P w K tg (Itv K a n) [it] it (λi h=>h.get? it=some (revObj a ((n:Int)-1-i))) where
 mem:=by simp
 obj:=λi h st b hb=>by
  have e:b=it:=by simpa using hb
  subst e;exact ⟨_,st,λv z=>by cases z⟩
 keep:=λi h h' st k=>k it (by simp) _ st
 item:=by
  intro X hP hw hK hc i qQ s σ H E I hf st hg;subst hP hw hK;obtain ⟨hi,xs,hq,hl⟩:=hg;obtain ⟨its,rv,p,hz⟩:=I.list hq;have hx:xs[n-1-i]?=some xs[n-1-i]:=List.getElem?_eq_getElem (by lia);obtain ⟨u,hu,ru⟩:=rv.get hx;obtain ⟨f0,f1,f2,f3,f4,f5⟩:=hf it (by simp);have ek:((n:Int)-1-i)=((n-1-i:Nat):Int):=by lia
  rw [ek] at st;refine ZM st p.isList (x:=u) (by simpa using hu) λh' st' sb=>?_;have I1:Inv X qQ σ H { s with heap:=h' }:=I.turned (t':=s.toks) (λb o hb e=>(sb.2 b hb).trans e) f0 f1 f3 f4 f5;refine ⟨u,rfl,Zh (s:={ s with heap:=h' }) st' rfl rfl (by decide) ⟨xs[n-1-i],H,I1,ru,⟨rfl,λys hy=>by rw [I.list_inj hy hq];exact hx⟩,?_,λb hb=>(hf b hb).1⟩⟩;rw [show ((n:Int)-1-((i+1:Nat):Int))=((n-1-i:Nat):Int)-1 by lia];exact st'
 done:=by
  intro X hP hw hK hc i qQ s σ H E I hf st hg;subst hP hw hK;have hg:i=n:=hg;subst hg;obtain ⟨f0,f1,f2,f3,f4,f5⟩:=hf it (by simp);rw [show ((i:Int)-1-i)=-1 by lia] at st;exact ZN (I.ok.hd hc) st λh' eb=>⟨rfl,I.turned (t':=s.toks) (λb o _ e=>eb b o e) f0 f1 f3 f4 f5⟩
 self:=λ_ _ _ _ _ st h=>WH st h
section
variable {X:Cx}{tg:Expr}
def ZfY (K:W.Frag)(ta:TA):TI:=λσ H R=>ta σ H λvs H1=>∃a xs,vs=[.ref a]/\SqL K H1 a xs/\R (Itv K a xs.length) H1
theorem ZfZ (K:W.Frag){l:Expr}{ta:TA}{p pos:Pos}(hg:Gl X "reversed")(hm:X.mg "reversed" = none)(ha:PA X [l] ta)(hK:X.K=K:=by rfl)(hs:starEach [l] X.env=[(false,eval l X.env)]:=by rfl) :
  PI X tg (.Call (.Name "reversed" p) [l] [] pos) (ZfY K ta):=by
 subst hK;intro qQ s σ H R I h;refine Call_ (Ob I hg hm boot_reversed (PyProof.Rows.callWith_type1 (thn (ha pos qQ s σ H _ I h) λus s1 ⟨vs,H1,I1,r1,q1⟩=>?_) hs rfl));obtain ⟨a,xs,e,hq,q⟩:=q1;subst e;obtain ⟨u,rfl,ru⟩:=r1.one;cases ru;obtain ⟨its,rv,pl,hz⟩:=I1.list hq;refine call_reversed_list pl.isList ?_;have e0:((its.toArray.size:Int)-1)=((xs.length:Int)-1-(0:Nat)):=by
  have:=rv.length;simp
  lia
 have st:(s1.heap.push (revObj a ((its.toArray.size:Int)-1))).get? s1.heap.objs.size=some (revObj a ((xs.length:Int)-1-(0:Nat))):=by rw [<-e0];exact Heap.get?_push_size _ rfl
 refine WH (s:={ s1 with heap:=s1.heap.push (revObj a ((its.toArray.size:Int)-1)) }) st ?_;refine ⟨s1.heap.objs.size,[s1.heap.objs.size],_,_,H1,rfl,I1.kept (t':=s1.toks) λb o e=>Heap.get?_push_of_some _ e,ZO a _ xs.length,st,λb hb=>?_,q⟩;have e:b=s1.heap.objs.size:=by simpa using hb
 subst e;exact I1.fpOk (Nat.le_refl _) (I1.hok.fresh (Nat.le_refl _))
theorem Zbi {K:PySem.W.Frag}{a:Addr}{xs:List V}{g:TG}{tb:TS}{D:Ends}{σ:St}{H:Hp}(Pv:Nat->St->Hp->Prop)(h0:Pv 0 σ H)(hl:∀i σ H,i<=xs.length->Pv i σ H->SqL K H a xs)(hs:∀i x σ H,i<xs.length->xs[xs.length-1-i]?=some x->Pv i σ H->g x σ H λσ2 H2=>tb { D with nx:=Pv (i+1),ct:=Pv (i+1),bk:=D.nx } σ2 H2)(hd:∀ σ H,Pv xs.length σ H->D.nx σ H) :
  ∃W:Nat->Nat->St->Hp->Prop,(∃m,W 0 m σ H)/\∀i m σ H,W i m σ H ->
   ((Itv K a xs.length).stop i H/\D.nx σ H)\/((Itv K a xs.length).go i H/\∃N:St->Hp->Prop,(∀ σ' H',N σ' H'->∃m',m'<m/\W (i+1) m' σ' H')/\∀x H',(Itv K a xs.length).yld i H x H'->g x σ H' λσ2 H2=>tb { D with nx:=N,ct:=N,bk:=D.nx } σ2 H2):=by
 refine ⟨λi m σ H=>m=xs.length-i/\i<=xs.length/\Pv i σ H,⟨xs.length,by simp,Nat.zero_le _,h0⟩,?_⟩;rintro i m σ H ⟨rfl,hi,p⟩;have q:=hl i σ H hi p;by_cases hlt:i<xs.length
 ·refine .inr ⟨⟨hlt,xs,q,rfl⟩,Pv (i+1),λσ' H' p'=>⟨xs.length-(i+1),by lia,rfl,hlt,p'⟩,λx H' y=>?_⟩;obtain ⟨e,y⟩:=y;subst e;exact hs i x σ _ hlt (y xs q) p
 ·have e:i=xs.length:=by lia
  subst e;exact .inl ⟨rfl,hd σ H p⟩
end
end L2
namespace L2
open PySem PySem.Spec PyProof.Rows
def SameL (P:Addr)(H H':Hp):Prop:=∀a o,a≠P->H a=some o->H' a=some o
theorem SameL.of {P:Addr}{H H':Hp}(s:Same H H'):SameL P H H':=λa o _ e=>s a o e
theorem SameL.trans {P:Addr}{H H' H'':Hp}(a:SameL P H H')(b:SameL P H' H''):SameL P H H'':=λc o n e=>b c o n (a c o n e)
def ZcW (qual:Str)(oc:Obj):Prop:=∃vs t,oc.data=.fields vs/\vs[1]?=some (.str qual t)
end L2
namespace L2
open PySem PySem.Spec PyProof.Rows
def Zbj (P:Addr)(H:Hp):Prop:=∀b,b≠P->H b=none\/∃o xs,H b=some (.frz o (.lst xs))
theorem Ym {Pr:Program}{w:World}{K:W.Frag}{mg mb:Str->Option Value}{CX:CXT}{k:Nat}{fa a c P:Addr}{fd:FuncData}{x:Str}{sp:Sp}{s₁:Shared}{vs:List Value}{ns:List Int}(KX:K.In s₁.heap)(hns:s₁.heap.Ns mainGlobals mg)(hb:s₁.heap.Ns builtinsNs mb)(hbb:∀x:Str,x ≠ "__name__" -> mb x=bootBuiltins x)(hlim:s₁.heap.NoLimit)(hg:s₁.gens=#[])(C:W.CodeHd s₁.heap c P)(hP:s₁.heap.get? P=some (W.tabObj #[]))(hKP:K.lookup P=none)(hB:s₁.heap.BuiltinsAt mg P)(ha:s₁.heap.get? a=some { cls:=.type "list", data:=.seq vs.toArray })(hi:IntsAre vs ns)(hl:ns.length<=sizeLine)(hr:Room k callerA)(F:∀base:Heap,K.In base->base.Ns mainGlobals mg->W.CodeHd base c P->base.BuiltinsAt mg P->GS Pr w K mg base CX k fa fd [x] sp)(hbind:∀(s:Shared)(u:Value),BindsTo s fd ⟨[u],[]⟩ [(x,u)])(hsp:∀H:Hp,Zbj P H->H P=some (.tbl #[])->SqL K H a (ns.map V.int)->sp [.ref a] H (λv _=>v=.bl true) λ_ _ _=>False)(hCX:∀H e s',CX [] H s₁ (λ_ _ _=>False) e s'->False) :
  codeAny (model Pr w) callerA (.call (.ref fa) ⟨[.ref a],[]⟩) (λr s'=>r=.ok (.ret (.bool true))/\OldK s₁.heap s'.heap/\s'.os=s₁.os/\AllBare s'.gens) s₁:=by
 have rv:=OI hi;have lenV:=hi.length;have naP:a≠P:=λz=>by rw [z,hP] at ha;cases ha
 have core:∀H:Hp,Zbj P H->H P=some (.tbl #[])->SqL K H a (ns.map V.int)->HOk Pr w H s₁.heap->(∀b,H b≠none->b=a\/b=P)->(H a≠none->K.lookup a=none) ->
   codeAny (model Pr w) callerA (.call (.ref fa) ⟨[.ref a],[]⟩) (λr s'=>r=.ok (.ret (.bool true))/\OldK s₁.heap s'.heap/\s'.os=s₁.os/\AllBare s'.gens) s₁:=by
  intro H hO hHP hS hok hA hK;have base_of:∀{b:Addr}{o:Obj},s₁.heap.get? b=some o->H b=none->(XH s₁.heap H).get? b=some o:=λe n=>Zd e n;have noA:∀{b:Addr}{o:Obj},s₁.heap.get? b=some o->o.cls≠.type "list" -> o.cls≠.none->H b=none:=λ{b o} e d1 d2=>by
   cases q:H b with
   | none=>rfl
   | some u=>
    rcases hA b (by rw [q];simp) with e' | e'
    ·rw [e',ha] at e;cases e;exact absurd rfl d1
    ·rw [e',hP] at e;cases e;exact absurd rfl d2
  have noD:∀{b:Addr}{o:Obj}{es:Array DictEntry}{ep:Nat},s₁.heap.get? b=some o->o.data=.dict es ep->H b=none:=λ{b o es ep} e d=>by
   cases q:H b with
   | none=>rfl
   | some u=>
    rcases hA b (by rw [q];simp) with e' | e'
    ·rw [e',ha] at e;cases e;cases d
    ·rw [e',hP] at e;cases e;cases d
  have nsK:∀{b:Addr}{m:Str->Option Value},s₁.heap.Ns b m->(XH s₁.heap H).Ns b m:=λ{b m} ⟨o,es,ep,e,d,r⟩=>⟨o,es,ep,base_of e (noD e d),d,r⟩;have hKb:K.In (XH s₁.heap H):=λb o e=>base_of (KX b o e) (by
   cases q:H b with
   | none=>rfl
   | some u=>
    rcases hA b (by rw [q];simp) with e' | e'
    ·subst e';rw [hK (by rw [q];simp)] at e;cases e
    ·subst e';rw [hKP] at e;cases e)
  have hM:Mod K mg (XH s₁.heap H):=⟨hKb,nsK hns,⟨mb,nsK hb,hbb⟩,let ⟨mc,h1,h2⟩:=hlim;⟨mc,nsK h1,h2⟩⟩;have e0:ZaY Pr w K mg (XH s₁.heap H) callerA [] s₁ H:=⟨rfl,hM,λb o e=>ZaR e,Nat.le_of_eq (XI _ _),trivial,λb hb=>absurd (show b∈([]:List Addr) from hb) (by simp),hok,.of_eq hg⟩;have Cb:W.CodeHd (XH s₁.heap H) c P:=by
   obtain ⟨o,ws,file,tf,flags,tg,inF,text,tt,e1,r1,r2⟩:=C;exact ⟨o,ws,file,tf,flags,tg,inF,text,tt,base_of e1 (noA e1 (by rw [r1];decide) (by rw [r1];nofun)),r1,r2⟩
  have Bb:(XH s₁.heap H).BuiltinsAt mg P:=by
   obtain ⟨bm,o,h1,h2,h3,h4,h5,h6,h7⟩:=hB;exact ⟨bm,o,h1,h2,h3,h4,base_of h5 (noA h5 (by rw [h6];decide) (by rw [h6];nofun)),h6,h7⟩
  refine codeAny_mono ((F _ hKb (nsK hns) Cb Bb).run callerA [] s₁ H ⟨[.ref a],[]⟩ [.ref a] [.ref a] _ _ hr e0 (hbind s₁ (.ref a)) (.cons rfl .nil) (hsp H hO hHP hS)) λr s' h=>?_;cases r with
  | error e=>exact (hCX H e s' h).elim
  | ok fl=>
   cases fl with
   | next=>exact False.elim h
   | brk=>exact False.elim h
   | cont=>exact False.elim h
   | ret u=>
    obtain ⟨v,H',os,bare,un,hok',r',q⟩:=h;have q':v=.bl true:=q;subst q';obtain rfl:u=Value.bool true:=r';obtain ⟨more,eP⟩:=un.tbls P _ hHP;have hP':s'.heap.get? P=some { cls:=.none,data:=.fields (#[]++more) }:=hok' P _ eP;have kp:∀b o,b≠P->s₁.heap.get? b=some o->s'.heap.get? b=some o:=λb o hbP e=>by
     cases q:H b with
     | none=>exact un.keep b o e q (by intro z;exact absurd (show b∈([]:List Addr) from z) (by simp)) (by simp)
     | some u=>
      rcases hO b hbP with z | ⟨ob,xs,z⟩
      ·rw [q] at z;cases z
      ·have z2:=un.frzs b ob _ z;obtain ⟨e1,_⟩:=hok b _ z;obtain ⟨e2,_⟩:=hok' b _ z2;rw [e] at e1;cases e1;exact e2
    refine ⟨rfl,⟨λb o e=>?_,λb o e=>?_⟩,os,bare⟩
    ·by_cases hbP:b=P
     ·subst hbP;rw [hP] at e;cases e;exact .inr (.inl ⟨(C.tab hP).isCodeTable,rfl,#[],more,rfl,hP'⟩)
     ·exact .inl (kp b o hbP e)
    ·by_cases hbP:b=P
     ·rw [hbP];exact ⟨_,hP'⟩
     ·exact ⟨o,kp b o hbP e⟩
 cases hk:K.lookup a with
 | some o=>
  have e:=KX a o hk;rw [ha] at e;cases e;refine core (λb=>if b=P then some (.tbl #[]) else none) (λb hb=>.inl (if_neg hb)) (if_pos rfl) (.inr ⟨_,vs.toArray,_,hk,rfl,rfl,rfl,by rw [List.size_toArray,lenV];exact hl,by simpa using rv⟩) (λb u z=>?_) (λb z=>?_) λz=>absurd (if_neg naP) z
  ·by_cases hb:b=P
   ·have z':=(if_pos hb).symm.trans z;cases z';rw [hb];exact hP
   ·have z':=(if_neg hb).symm.trans z;cases z'
  ·by_cases hb:b=P
   ·exact .inr hb
   ·exact absurd (if_neg hb) z
 | none=>
  refine core (λb=>if b=P then some (.tbl #[]) else if b=a then some (.frz { cls:=.type "list", data:=.seq vs.toArray } (.lst (ns.map V.int))) else none) (λb hb=>?_) (if_pos rfl) (.inl (.inr ⟨{ cls:=.type "list", data:=.seq vs.toArray },(if_neg naP).trans (if_pos rfl)⟩)) (λb u z=>?_) (λb z=>?_) λ_=>hk
  ·by_cases hb2:b=a
   ·exact .inr ⟨_,_,(if_neg hb).trans (if_pos hb2)⟩
   ·exact .inl ((if_neg hb).trans (if_neg hb2))
  ·by_cases hb:b=P
   ·have z':=(if_pos hb).symm.trans z;cases z';rw [hb];exact hP
   ·by_cases hb2:b=a
    ·have z':=((if_neg hb).trans (if_pos hb2)).symm.trans z;cases z';subst hb2;exact ⟨ha,by rw [List.length_map];exact hl,vs,_,rv,ha⟩
    ·have z':=((if_neg hb).trans (if_neg hb2)).symm.trans z;cases z'
  ·by_cases hb:b=P
   ·exact .inr hb
   ·by_cases hb2:b=a
    ·exact .inl hb2
    ·exact absurd ((if_neg hb).trans (if_neg hb2)) z
theorem walk_ofT {l:W.OpenLaw}{n k:Nat}{q:Program}{loose:List Str}{XP:(Str->Option Value)->Heap->Prop}{YP:World->Heap->Prop}{d dd:DefRec}{K:Params->W.Frag}{CX:World->CXT}{sp:World->Addr->Sp}{x tn:Str}(hn:l.most=some n)(hn2:n<=sizeLine)(hdf:d.params.defaults=[])(hr:Room k callerA)(hY:∀(w:World)(h:Heap),YP w h->(K w.params).In h)(hrec:(recsOf q).find? (λe=>e.name == tn)=some dd)(F:∀(w:World)(mg:Str->Option Value)(fa:Addr)(h:Heap),(K w.params).In h->h.Ns mainGlobals mg->mg d.name=some (.ref fa) ->
   ∃(fd:FuncData)(c P:Addr),W.tabIn (K w.params) tn=some (c,P)/\(K w.params).lookup P=none/\(∀(s:Shared)(u:Value),BindsTo s fd ⟨[u],[]⟩ [(x,u)]) /\
    ∀base:Heap,(K w.params).In base->base.Ns mainGlobals mg->W.CodeHd base c P->base.BuiltinsAt mg P->GS l.prog w (K w.params) mg base (CX w) k fa fd [x] (sp w P))(hsp:∀(w:World)(P:Addr)(H:Hp)(a:Addr)(ns:List Int),ns.length<=n->Zbj P H->H P=some (.tbl #[])->SqL (K w.params) H a (ns.map V.int)->sp w P [.ref a] H (λv _=>v=.bl true) λ_ _ _=>False)(hCX:∀(w:World)(H:Hp)(s:Shared)(e:Value)(s':Shared),CX w [] H s (λ_ _ _=>False) e s'->False) :
  W.WalkO q loose XP YP l.row.toRowW d [] (λf vs=>PySem.call f vs):=by
 refine Att.attach_call hn hdf λw s₀ s₁ mg mb fa o pm cd doc a vs ns G Y ho hd hcd hmg hobj hints qJ hg=>?_;have KX:=hY w _ Y;obtain ⟨fd,c,P,htab,hKP,hb,hF⟩:=F w mg fa _ KX G.T.g hmg;obtain ⟨C,hP⟩:=W.tab_of G.T KX hrec htab;have hB:s₁.heap.BuiltinsAt mg P:=by
  obtain ⟨bm,ob,b1,b2,b3,b4,b5,b6⟩:=G.T.bmain;refine ⟨bm,ob,b1,b2,λz=>?_,λz=>?_,b3,b4,b5,b6⟩
  ·obtain ⟨o',es,ep,e,hd',_⟩:=G.T.g;rw [z,e] at b3;cases b3;rw [hd'] at b6;cases b6
  ·rw [z,hP] at b3;cases b3;cases b4
 exact Ym KX G.T.g G.T.b G.T.builtins G.T.nolimit hg C hP hKP hB hobj hints (Nat.le_trans qJ hn2) hr hF hb (λH hO hT hS=>hsp w P H a ns qJ hO hT hS) λH e s'=>hCX w H s₁ e s'
end L2
namespace L2
open PySem PySem.Spec PyProof.Rows
section
variable {P:Program}{w:World}{K:W.Frag}{mg:Str->Option Value}{base:Heap}
theorem Fun.okC {x qual:Str}{st:Stmt}{f c:Addr}{fd:FuncData}{N ps:List Str}{k:Nat}{sp:Sp}(F:Fun K x qual st f fd)(hc:fd.code=.ref c)(S:Gv N ps (Gg st))(len:∀vs H Q E,sp vs H Q E->vs.length=ps.length)(qW:∀(A:Around)(outer:List Env)(s:Shared)(H:Hp)(vs:List V)(Q:VK)(E:XK),Room k (A.deeper (envOfC qual (Gg st) s.heap.objs.size f (.ref c)))->sp vs H Q E ->
   ∃t,PSs (XC CX0 P w K mg base N qual (Gg st) f (.ref c) A outer s H E).nox (Go st) t/\t { nx:=λ_ H'=>Q .non H',rt:=Q } (start N vs) H):GS P w K mg base CX0 (k+1) f fd ps sp:=by
 obtain ⟨oc,od,kV,doc,pm,an,cdv,ct,osl,rfl,lk,hcd⟩:=F.ex;have e:cdv=.ref c:=hc;subst e;refine Zi lk hcd S len λA outer s H vs Q E hr hsp=>?_;obtain ⟨t,h,q⟩:=qW A outer s H vs Q E hr hsp;exact ⟨t,h.nox,q⟩
theorem SameL.lst {P:Addr}{H H':Hp}{a:Addr}{xs:List V}{ps:Array Value}(s:SameL P H H')(hP:H P=some (.tbl ps))(e:H a=some (.lst xs)):H' a=some (.lst xs):=s a _ (λz=>by rw [z,hP] at e;cases e) e
theorem SameL.tup {P:Addr}{H H':Hp}{a:Addr}{xs:List V}{ps:Array Value}(s:SameL P H H')(hP:H P=some (.tbl ps))(e:H a=some (.tup xs)):H' a=some (.tup xs):=s a _ (λz=>by rw [z,hP] at e;cases e) e
theorem SameL.put {P p:Addr}{H H':Hp}{o:HO}(s:SameL P H H')(h:H p=none):SameL P H (upd H' p o):=λa u n e=>G0 (s a u n e) (λz=>by rw [z,h] at e;cases e)
end
end L2
namespace L2
open PySem PySem.Spec PyProof.Rows
section
variable {X:Cx}
def ZcX (i:Nat)(f:Addr)(sp:Sp)(dvs:List V)(E:XK)(t:TA):TE:=λσ H Q=>σ[i]?=some (some (.ref f))/\ZaZ sp dvs E t σ H Q
theorem ZP {CX:CXT}{k i:Nat}{f:Addr}{fd:FuncData}{ps:List Str}{sp:Sp}{ds:List Value}{dvs:List V}{E:XK}{x:Str}{e:Expr}{es:List Expr}{t:TA}{p pos:Pos}(F:GS X.prog X.w X.K X.mg X.base CX k f fd ps sp)(hr:Room k X.A)(hv:PE X (.Name x p) (Y5 i))(hk:W.keepIn X.K (.ref f)=true)(hb:Binds X.K fd ps ds)(hd:Vals dvs ds)(hx:O3 CX X E)(ha:PA X (e::es) t)(he:starEach (e::es) X.env=(false,eval e X.env)::starEach es X.env:=by rfl)(hpl:(backTo pos (starEach es X.env)).any (·.1)=false:=by rfl):PE X (.Call (.Name x p) (e::es) [] pos) (ZcX i f sp dvs E t):=by
 intro qQ s σ H Q I h;refine wpAny_Call_Name_kw (thn (hv qQ s σ H (λv H'=>v=.ref f/\H'=H) I ⟨_,h.1,rfl,rfl⟩) λu s1 ⟨v,H1,I1,r1,ev,eH⟩=>?_);subst ev eH;obtain rfl:u=Value.ref f:=r1;refine W.callWith_K (h₀:=X.base) I1.ok.mod.kin hk (thn (ha pos qQ s1 σ H1 _ I1 h.2) λus s2 ⟨vs,H2,I2,r,q⟩=>⟨I2.kIn,?_⟩) he hpl;exact Wn F hr hb hd hx I2 r q
end
end L2
namespace L2
open PySem PySem.Spec PyProof.Rows
def CellAt (H:Hp)(c:Addr)(v:V):Prop:=∃o u,H c=some (.frz o (.own c))/\o.data=.cell (some u)/\RelV v u
abbrev UM:=List (Str×Addr)
def CellsAt (H:Hp)(cl:UM)(vs:List V):Prop:=Paired (λ(q:Str×Addr) v=>CellAt H q.2 v) cl vs
def hideC (cl:UM)(H:Hp):Hp:=λb=>if b∈cl.map (·.2) then none else H b
def VM (cl:UM)(H H':Hp):Hp:=λb=>if b∈cl.map (·.2) then H b else H' b
section
variable {cl:UM}{H H':Hp}{b:Addr}
theorem J8 (h:b∈cl.map (·.2)):hideC cl H b=none:=if_pos h
theorem Jb (h:b ∉ cl.map (·.2)):hideC cl H b=H b:=if_neg h
theorem V9 (h:b∈cl.map (·.2)):VM cl H H' b=H b:=if_pos h
theorem JV (h:b ∉ cl.map (·.2)):VM cl H H' b=H' b:=if_neg h
theorem CellAt.same {c:Addr}{v:V}(h:CellAt H c v)(s:Same H H'):CellAt H' c v:=let ⟨o,u,e,r⟩:=h;⟨o,u,s _ _ e,r⟩
theorem CellsAt.same {vs:List V}(h:CellsAt H cl vs)(s:Same H H'):CellsAt H' cl vs:=Paired.mapP h λ_ _ z=>z.same s
theorem CellsAt.frz:∀{cl:UM}{vs:List V},CellsAt H cl vs->∀c∈cl.map (·.2),∃o,H c=some (.frz o (.own c))
 | _,_,.nil,c,h=>by simp at h
 | _,_,.cons r t,c,h=>by
  rw [List.map_cons] at h;rcases List.mem_cons.mp h with rfl | h
  ·obtain ⟨o,u,e,_⟩:=r;exact ⟨o,e⟩
  ·exact CellsAt.frz t c h
theorem WI {P:Program}{w:World}{h:Heap}(ok:HOk P w H h)(hz:∀c∈cl.map (·.2),∃o,H c=some (.frz o (.own c))):HOk P w (hideC cl H) h:=λa o e=>by
 have ha:a ∉ cl.map (·.2):=λz=>by rw [J8 z] at e;cases e
 rw [Jb ha] at e;refine (ok a o e).stay (λ_ _ _ q=>q) (λd q=>?_) λd ys q=>?_
 ·rw [Jb (λz=>by obtain ⟨o',e'⟩:=hz d z;rw [e'] at q;cases q)];exact q
 ·rw [Jb (λz=>by obtain ⟨o',e'⟩:=hz d z;rw [e'] at q;cases q)];exact q
theorem ON {α:Type}:∀{l:List (Str×α)}{x:Str}{u:α},(l.map (·.1)).Nodup->(x,u)∈l->l.lookup x=some u
 | [],_,_,_,h=>by cases h
 | p::l,x,u,nd,h=>by
  rw [List.map_cons,List.nodup_cons] at nd;rw [List.lookup_cons];rcases List.mem_cons.mp h with rfl | h
  ·simp
  ·have hne:(x == p.1)=false:=by
    rw [beq_eq_false_iff_ne];exact λz=>nd.1 (by rw [<-z];exact List.mem_map.mpr ⟨_,h,rfl⟩)
   rw [hne];exact ON nd.2 h
theorem Xp {ps:List Str}{us:List Value}(hl:us.length=ps.length)(nd:ps.Nodup){i:Nat}{x:Str}{u:Value}(h1:ps[i]?=some x)(h2:us[i]?=some u):(ps.zip us).reverse.lookup x=some u:=by
 refine ON ?_ ?_
 ·rw [List.map_reverse,List.map_fst_zip (by lia)];unfold List.Nodup at nd ⊢;rw [List.pairwise_reverse];exact nd.imp λh=>Ne.symm h
 ·rw [List.mem_reverse];refine List.mem_of_getElem? (i:=i) ?_;rw [List.getElem?_zip_eq_some];exact ⟨h1,h2⟩
end
structure Vb (N ps fr:List Str)(sc:Scope):Prop where
 kind:sc.kind=.function
 co:sc.isCoroutine=false
 gen:sc.isGenerator=false
 nd:N.Nodup
 pre:N.take (ps++fr).length=ps++fr
 par:∀x∈ps,sc.names.lookup x=some .local
 frk:∀x∈fr,sc.names.lookup x=some .free
 nocell:∀y∈sc.names,y.2≠.cell
 free:∀y∈sc.names,y.2=.free->y.1∈fr
def UN (P:Program)(w:World)(K:W.Frag)(mg:Str->Option Value)(base:Heap)(N:List Str)(qual:Str)(scope:Scope)(clos:UM)(f:Addr)(cd:Value)(A:Around)(outer:List Env)(s:Shared)(H:Hp):Cx where
 prog:=P
 w:=w
 K:=K
 mg:=mg
 base:=base
 A:=A.deeper (W.envX qual scope s.heap.objs.size f cd clos)
 N:=N
 s₀:=s
 H₀:=hideC clos H
 env:=W.envX qual scope s.heap.objs.size f cd clos
 outer:=outer
 stack:=W.envX qual scope s.heap.objs.size f cd clos::outer
 ex:=[]
 calm:=true
 fn:=λ_=>false
 pn:=[]
 xe:=λ_ _=>False
section
variable {P:Program}{w:World}{K:W.Frag}{mg:Str->Option Value}{base:Heap}{N ps fr:List Str}{qual:Str}{scope:Scope}{clos:UM}{f:Addr}{cd:Value}{A:Around}{outer:List Env}{s:Shared}{H:Hp}{us:List Value}{vs fvs:List V}
theorem Zbk {h1:Heap}{tk:Nat}(S:Vb N ps fr scope)(hd:A.handled=none)(e0:ZaY P w K mg base A outer s H)(hl:vs.length=ps.length)(r:Vals vs us)(hc:CellsAt H clos fvs)(hfr:clos.map (·.1)=fr)(hnd:(clos.map (·.2)).Nodup)(hns:h1.Ns s.heap.objs.size (λx=>(ps.zip us).reverse.lookup x))(hk:∀b o,s.heap.get? b=some o->h1.get? b=some o) :
  Inv (UN P w K mg base N qual scope clos f cd A outer s H) [] (start N (vs++fvs)) (hideC clos H) { s with heap:=h1,toks:=tk }:=by
 have hfl:fvs.length=fr.length:=by rw [<-hfr,List.length_map];exact (Paired.length hc).symm
 have hpl:(vs++fvs).length<=N.length:=by
  have:=congrArg List.length S.pre;rw [List.length_take,List.length_append] at this;rw [List.length_append]
  lia
 have ndA:(ps++fr).Nodup:=by rw [<-S.pre];exact S.nd.sublist (List.take_sublist _ _)
 have ndP:ps.Nodup:=(List.nodup_append.mp ndA).1;have ndF:fr.Nodup:=(List.nodup_append.mp ndA).2.1;have cellOf:∀{i:Nat}{x:Str}{v:V},fr[i]?=some x->fvs[i]?=some v->∃c u,clos.lookup x=some c/\RelV v u/\h1.IsCell c (some u):=λ{i x v} e1 e2=>by
  rw [<-hfr,List.getElem?_map] at e1;obtain ⟨q,hq,rfl⟩:=Option.map_eq_some_iff.mp e1;obtain ⟨v',hv',o,u,ho,hd',rv⟩:=Va hc hq;rw [e2] at hv';cases hv';refine ⟨q.2,u,ON (by rw [hfr];exact ndF) (List.mem_of_getElem? hq),rv,o,hk _ _ ?_,hd'⟩;exact (show ObjOk P w H s.heap q.2 (.frz o (.own q.2)) from e0.hok _ _ ho).1
 have ofLook:∀{x:Str}{c:Addr},clos.lookup x=some c->c∈clos.map (·.2):=λ{x c} e=>List.mem_map.mpr ⟨_,PySem.mem_of_lookup e,rfl⟩;have nob:∀b:Addr,b ∉ (UN P w K mg base N qual scope clos f cd A outer s H).ex:=λb z=>absurd (show b∈([]:List Addr) from z) (by simp);refine ⟨⟨e0.mod,S.kind,rfl,rfl,Nat.le_refl _,λy z c h1 h2=>?_,λy hy=>?_,λy c h _=>(nomatch h),λ_=>hd,Around.frames_deeper e0.frames,.inr ⟨rfl,rfl⟩,λb z=>absurd z (nob b),λb o e=>⟨(e0.bs b o e).1,?_⟩,e0.bsz,λb _ _=>nob b,λb z=>absurd z (nob b),e0.funs,λb hb=>?_⟩,
  rfl,e0.bare,Un.kept hk,⟨_,hns,λi y v h1 h2 h3=>?_⟩,λy c h=>?_,?_,λy c h=>J8 (ofLook h),λp hp=>absurd (show p∈([]:List (Addr×Obj)) from hp) (by simp),(WI e0.hok hc.frz).kept hk,?_⟩
 ·have m1:=PySem.mem_of_lookup h1;have m2:=PySem.mem_of_lookup h2;have hp:clos.Pairwise λa b=>a.2≠b.2:=by unfold List.Nodup at hnd;rwa [List.pairwise_map] at hnd
  exact name_of_addr hp m1 m2
 ·have hy:scope.names.lookup y=some .cell\/scope.names.lookup y=some .free:=hy;rcases hy with hy | hy
  ·exact absurd rfl (S.nocell _ (PySem.mem_of_lookup hy))
  ·have hm:=S.free _ (PySem.mem_of_lookup hy) rfl;rw [<-hfr] at hm;obtain ⟨q,hq,rfl⟩:=List.mem_map.mp hm;exact ⟨q.2,ON (l:=clos) (by rw [hfr];exact ndF) hq⟩
 ·by_cases z:b∈clos.map (·.2)
  ·exact J8 z
  ·show hideC clos H b=none;rw [Jb z];exact (e0.bs b o e).2
 ·by_cases z:b∈clos.map (·.2)
  ·exact J8 z
  ·show hideC clos H b=none;rw [Jb z];exact e0.frf b hb
 ·have hi:i<(vs++fvs).length:=by
   unfold start at h2;by_cases hi:i<(vs++fvs).length
   ·exact hi
   ·rw [List.getElem?_append_right (by simpa using hi)] at h2;rw [List.getElem?_replicate] at h2;split at h2 <;> cases h2
  have ha:(vs++fvs)[i]?=some v:=by
   unfold start at h2;rw [List.getElem?_append_left (by rw [List.length_map];exact hi),List.getElem?_map] at h2;cases e:(vs++fvs)[i]? with
   | none=>rw [e] at h2;cases h2
   | some a=>rw [e] at h2;cases h2;rfl
  have hp:(ps++fr)[i]?=some y:=by
   rw [<-S.pre,List.getElem?_take_of_lt (by rw [List.length_append] at hi ⊢;lia)];exact h1
  by_cases hv:i<vs.length
  ·rw [List.getElem?_append_left hv] at ha;rw [List.getElem?_append_left (by lia)] at hp;obtain ⟨u,hu,rv⟩:=r.get ha;exact ⟨u,rv,.inl ⟨S.par y (List.mem_of_getElem? hp),Xp (by rw [<-hl];exact r.length.symm) ndP hp hu⟩⟩
  ·rw [List.getElem?_append_right (by lia)] at ha hp;rw [hl] at ha;obtain ⟨c,u,e1,rv,ic⟩:=cellOf hp ha;exact ⟨u,rv,.inr ⟨.inr (S.frk y (List.mem_of_getElem? hp)),c,e1,ic⟩⟩
 ·have hm:=PySem.mem_of_lookup h;obtain ⟨i,hi⟩:=List.getElem?_of_mem hm;obtain ⟨v,hv,o,u,ho,hd',rv⟩:=Va hc hi;exact ⟨some u,o,hk _ _ (show ObjOk P w H s.heap c (.frz o (.own c)) from e0.hok _ _ ho).1,hd'⟩
 ·have:H s.heap.objs.size=none:=e0.hok.fresh (Nat.le_refl _);show hideC clos H s.heap.objs.size=none;by_cases z:s.heap.objs.size∈clos.map (·.2)
  ·exact J8 z
  ·rw [Jb z];exact this
 ·unfold start;show _=N.length;rw [List.length_append,List.length_map,List.length_replicate]
  lia
theorem Yn {H':Hp}{s':Shared}{Q:VK}{u:Value}{v:V}{σ':St}(e0:ZaY P w K mg base A outer s H)(hc:CellsAt H clos fvs)(J:Inv (UN P w K mg base N qual scope clos f cd A outer s H) [] σ' H' s')(rv:RelV v u)(q:(∀c∈clos.map (·.2),H' c=none)->Q v (VM clos H H')) :
  CE outer P w H s Q u s':=by
 have hz:=hc.frz;have B:=J.base;have nH:∀{b:Addr}{o:HO},H b=some o->(∀ob,o≠.frz ob (.own b))->b ∉ clos.map (·.2):=λ{b o} e n z=>by
  obtain ⟨ob,e'⟩:=hz b z;rw [e] at e';cases e';exact n _ rfl
 have hn:∀{b:Addr},H b=none->hideC clos H b=none:=λ{b} n=>by
  by_cases z:b∈clos.map (·.2)
  ·exact J8 z
  ·rw [Jb z];exact n
 have nz:∀{b:Addr},H b=none->b ∉ clos.map (·.2):=λ{b} n z=>by
  obtain ⟨ob,e'⟩:=hz b z;rw [n] at e';cases e'
 have at0:∀{b:Addr}{ob:Obj},H b=some (.frz ob (.own b))->s.heap.get? b=some ob:=λ{b ob} e=>(show ObjOk P w H s.heap b (.frz ob (.own b)) from e0.hok _ _ e).1;have at1:∀{b:Addr}{ob:Obj},b∈clos.map (·.2)->H b=some (.frz ob (.own b))->s'.heap.get? b=some ob:=λ{b ob} z e=>B.keep b ob (at0 e) (J8 z) (λy=>by have:=e0.frf b y;rw [e] at this;cases this) (by simp [UN]);have fr0:∀{b:Addr},b∈clos.map (·.2)->H' b=none:=λ{b} z=>by
  obtain ⟨ob,e⟩:=hz b z;exact B.free b ob (at0 e) (J8 z) (by simp [UN])
 refine ⟨v,VM clos H H',J.os,J.bare,⟨λb o e n h1 h2=>B.keep b o e (hn n) h1 (by simp [UN]),λb o e n h1 h2=>B.slot b o e (hn n) h1 (by simp [UN]),λb o e n h1=>?_,λb o e h1=>B.there b o e (by simp [UN]),λb ys e=>?_,λb o y e=>?_,λb ys e=>?_⟩,λa o e=>?_,rv,q λc hc=>fr0 hc⟩
 ·rw [JV (nz n)];exact B.free b o e (hn n) (by simp [UN])
 ·have z:=nH e (λ_=>by simp);rw [JV z];exact B.tups b ys (by show hideC clos H b=_;rw [Jb z];exact e)
 ·by_cases z:b∈clos.map (·.2)
  ·rw [V9 z];exact e
  ·rw [JV z];exact B.frzs b o y (by show hideC clos H b=_;rw [Jb z];exact e)
 ·have z:=nH e (λ_=>by simp);rw [JV z];exact B.tbls b ys (by show hideC clos H b=_;rw [Jb z];exact e)
 ·by_cases z:a∈clos.map (·.2)
  ·obtain ⟨ob,e'⟩:=hz a z;rw [V9 z,e'] at e;cases e;exact ⟨at1 z e',_,at1 z e'⟩
  ·rw [JV z] at e;refine (J.hok a o e).stay (λ_ _ _ y=>y) (λd y=>?_) λd ys y=>?_
   ·rw [JV (λzz=>by rw [fr0 zz] at y;cases y)];exact y
   ·rw [JV (λzz=>by rw [fr0 zz] at y;cases y)];exact y
def CloFn (H:Hp)(f c:Addr)(qual:Str)(o:Obj):Prop:=H f=some (.frz o (.own f))/\∃oc,H c=some (.frz oc (.own c))/\ZcW qual oc
theorem CloFn.same {H H':Hp}{f c:Addr}{qual:Str}{o:Obj}(h:CloFn H f c qual o)(s:Same H H'):CloFn H' f c qual o:=⟨s _ _ h.1,h.2.elim λoc z=>⟨oc,s _ _ z.1,z.2⟩⟩
theorem CloFn.rec_ {f c:Addr}{o:Obj}(h:CloFn H f c qual o)(ok:HOk P w H s.heap):s.heap.get? f=some o/\s.heap.CodeRec (.ref c) qual:=by
 obtain ⟨h1,oc,h2,vs,t,hd,hv⟩:=h;exact ⟨(show ObjOk P w H s.heap f (.frz o (.own f)) from ok _ _ h1).1,c,oc,vs,t,rfl,(show ObjOk P w H s.heap c (.frz oc (.own c)) from ok _ _ h2).1,hd,hv⟩
theorem ZcY {k:Nat}{c':Addr}{name:Str}{params:Arguments}{body:List Stmt}{doc pm ctv:Value}{sp:Sp}(S:Vb N ps fr scope)(hfr:clos.map (·.1)=fr)(hnd:(clos.map (·.2)).Nodup)(len:∀vs H Q E,sp vs H Q E->vs.length=ps.length)(hsp:∀(A:Around)(outer:List Env)(s:Shared)(H:Hp)(vs:List V)(Q:VK)(E:XK),Room k (A.deeper (W.envX qual scope s.heap.objs.size f (.ref c') clos))->sp vs H Q E->CloFn H f c' qual (W.fnMade name qual params body scope clos doc pm c' ctv)/\∃fvs,CellsAt H clos fvs /\
   ∃t,PSs (UN P w K mg base N qual scope clos f (.ref c') A outer s H) body t/\t { nx:=λ_ H'=>(∀c∈clos.map (·.2),H' c=none)->Q .non (VM clos H H'),rt:=λv H'=>(∀c∈clos.map (·.2),H' c=none)->Q v (VM clos H H') } (start N (vs++fvs)) (hideC clos H)) :
  GS P w K mg base CX0 (k+1) f (W.fnX name qual params body scope clos .none .none doc pm none (.ref c') ctv) ps sp:=by
 refine ⟨len,λA outer s H args us vs Q E hr e0 hb r h=>?_⟩;have hl:=len _ _ _ _ h;obtain ⟨hf,fvs,hc,t,ht,q⟩:=hsp A outer s H vs Q E (hr.deeper _) h;obtain ⟨ho,hcd⟩:=hf.rec_ e0.hok;have lim:s.heap.NoLimit:=e0.mod.nolimit.keeps λb o e=>(e0.bs b o e).1;refine codeAny_call_function hr.depth ho rfl S.co S.gen rfl hcd (hb _ _ _ _ ?_);refine wpAny_newFunctionEnv S.nocell (λy hy=>S.par y.1 (List.of_mem_zip (show (y.1,y.2)∈ps.zip us from hy)).1) (λh1 hns hsb=>⟨lim.fresh _ hsb,codeAny_func ?_⟩) S.kind;have hk:∀b o,s.heap.get? b=some o->h1.get? b=some o:=λb o e=>hsb.extBut b o (Nat.ne_of_lt (Heap.lt_size e)) (Heap.get?_push_of_some _ e);have I:=Zbk (qual:=qual) (f:=f) (cd:=.ref c') (tk:=s.toks+(ps.zip us).length) S hr.hd e0 hl r hc hfr hnd hns hk;refine wpAny_mono (ht [] _ (start N (vs++fvs)) _ _ I q) (λfl s' hs=>?_) λe s' hs=>hs.elim;cases fl with
 | ret u=>
  obtain ⟨v,σ',H',J,rv,q⟩:=hs;exact Yn e0 hc J rv q
 | next=>
  obtain ⟨σ',H',J,q⟩:=hs;exact Yn (v:=V.non) (u:=Value.none) e0 hc J rfl q
 | brk=>
  obtain ⟨_,_,_,q⟩:=hs;exact False.elim q
 | cont=>
  obtain ⟨_,_,_,q⟩:=hs;exact False.elim q
end
end L2
namespace L2
open PySem PySem.Spec PyProof.Rows
structure Zca where
 line:Nat
 col:Nat
 qual:Str
 c:Addr
def Y8 (es:List Zca):List Value:=es.flatMap λe=>[rawInt e.line,rawInt e.col,.ref e.c]
def TabOn (P:Addr)(es:List Zca)(H:Hp):Prop:=H P=some (.tbl (Y8 es).toArray)/\∀e∈es,∃oc,H e.c=some (.frz oc (.own e.c))/\ZcW e.qual oc
theorem TabOn.same {P:Addr}{es:List Zca}{H H':Hp}(h:TabOn P es H)(s:Same H H'):TabOn P es H':=⟨s _ _ h.1,λe he=>(h.2 e he).elim λoc z=>⟨oc,s _ _ z.1,z.2⟩⟩
theorem Yo:∀es:List Zca,TriplesOk (Y8 es)
 | []=>trivial
 | e::es=>by
  show TriplesOk (rawInt e.line::rawInt e.col::.ref e.c::Y8 es);exact Yo es
theorem Yp (es:List Zca)(e:Zca):(Y8 (es++[e])).toArray=(Y8 es).toArray++#[rawInt e.line,rawInt e.col,.ref e.c]:=by
 unfold Y8;rw [List.flatMap_append];simp
section
variable {X:Cx}{qQ:List (Addr×Obj)}{σ:St}{H:Hp}{s:Shared}
theorem Zbl {P c':Addr}{ps more:Array Value}{h':Heap}{tk:Nat}{oc o:Obj}(I:Inv X qQ σ H s)(e0:H P=some (.tbl ps))(hx:Heap.ExtBut P s.heap h')(hge:s.heap.objs.size<=c')(hlt:c'<h'.objs.size)(hoc:h'.get? c'=some oc)(htb:h'.get? P=some (W.tabObj (ps++more)))(hrd:(h'.push o).get? h'.objs.size=some o) :
  ∃H',Inv X qQ σ H' { s with heap:=h'.push o,toks:=tk }/\SameL P H H'/\H' P=some (.tbl (ps++more))/\H' c'=some (.frz oc (.own c'))/\H' h'.objs.size=some (.frz o (.own h'.objs.size))/\H c'=none/\H h'.objs.size=none:=by
 have hP:s.heap.get? P=some (W.tabObj ps):=I.hok P _ e0;have hcP:c'≠P:=λz=>by rw [z] at hge;exact Nat.lt_irrefl _ (Nat.lt_of_lt_of_le (Heap.lt_size hP) hge)
 have hlP:P<h'.objs.size:=Heap.lt_size htb;have nc:H c'=none:=I.hok.fresh hge;have hsz:s.heap.objs.size<=h'.objs.size:=Nat.le_trans hge (Nat.le_of_lt hlt);have nf:H h'.objs.size=none:=I.hok.fresh hsz;have hcf:c'≠h'.objs.size:=Nat.ne_of_lt hlt;have hPf:P≠h'.objs.size:=Nat.ne_of_lt hlP;generalize hH':upd (upd (upd H P (.tbl (ps++more))) c' (.frz oc (.own c'))) h'.objs.size (.frz o (.own h'.objs.size))=H';have aP:H' P=some (.tbl (ps++more)):=by rw [<-hH',Gu hPf,Gu (Ne.symm hcP),Gb]
 have ac:H' c'=some (.frz oc (.own c')):=by rw [<-hH',Gu hcf,Gb]
 have af:H' h'.objs.size=some (.frz o (.own h'.objs.size)):=by rw [<-hH',Gb]
 have ao:∀b,b≠P->b≠c'->b≠h'.objs.size->H' b=H b:=λb h1 h2 h3=>by rw [<-hH',Gu h3,Gu h2,Gu h1]
 have sl:SameL P H H':=λb o hb e=>by
  rw [ao b hb (λz=>by rw [z,nc] at e;cases e) (λz=>by rw [z,nf] at e;cases e)];exact e
 have kp:∀b u,b≠P->s.heap.get? b=some u->(h'.push o).get? b=some u:=λb u hb e=>Heap.get?_push_of_some _ (hx b u hb e);have nP:∀b,H b=none->b≠P:=λb n z=>by rw [z,e0] at n;cases n
 have gf:=hrd;have I':Inv X qQ σ H' { s with heap:=h'.push o,toks:=tk }:=by
  refine I.un ⟨λb o e n _ _=>kp b o (nP b n) e,λb o e n _ _=>⟨o.slots,kp b o (nP b n) e⟩,λb o e n _=>?_,λb o e _=>?_,λb ys e=>sl b _ (λz=>by rw [z,e0] at e;cases e) e,λb o u e=>sl b _ (λz=>by rw [z,e0] at e;cases e) e,λb qs e=>?_⟩ λb u e=>?_
  ·rw [ao b (nP b n) (Nat.ne_of_lt (Nat.lt_of_lt_of_le (Heap.lt_size e) hge)) (Nat.ne_of_lt (Nat.lt_of_lt_of_le (Heap.lt_size e) hsz))];exact n
  ·by_cases z:b=P
   ·rw [z];exact ⟨_,Heap.get?_push_of_some _ htb⟩
   ·exact ⟨o,kp b o z e⟩
  ·by_cases z:b=P
   ·rw [z,e0] at e;cases e;exact ⟨more,by rw [z];exact aP⟩
   ·exact ⟨#[],by rw [sl b _ z e];simp⟩
  ·by_cases z:b=P
   ·rw [z,aP] at e;cases e;rw [z];exact Heap.get?_push_of_some _ htb
   ·by_cases z2:b=c'
    ·rw [z2,ac] at e;cases e;rw [z2];exact ⟨Heap.get?_push_of_some _ hoc,_,Heap.get?_push_of_some _ hoc⟩
    ·by_cases z3:b=h'.objs.size
     ·rw [z3,af] at e;cases e;rw [z3];exact ⟨gf,_,gf⟩
     ·rw [ao b z z2 z3] at e;refine (I.hok b u e).stay (λd y hd qd=>kp d y ?_ qd) (λd qd=>sl d _ (λy=>by rw [y,e0] at qd;cases qd) qd) λd ys qd=>sl d _ (λy=>by rw [y,e0] at qd;cases qd) qd;rcases hd with rfl | hd
      ·exact z
      ·exact λy=>by rw [y,e0] at hd;cases hd
 exact ⟨H',I',sl,aP,ac,af,nc,nf⟩
end
section
variable {X:Cx}
def tMk (P:Addr)(pos:Pos)(qual:Str)(o:Addr->Value->Value->Obj)(H:Hp)(Q:VK):Prop:=∃es,TabOn P es H /\
 ((codeAmong pos (Y8 es)=none/\∀(f c':Addr)(ctv doc:Value)(H':Hp),SameL P H H'->TabOn P (es++[⟨pos.line,pos.col,qual,c'⟩]) H'->H f=none->CloFn H' f c' qual (o c' ctv doc)->Q (.ref f) H') \/
  ∃e∈es,codeAmong pos (Y8 es)=some (.ref e.c)/\e.qual=qual/\∀(f:Addr)(ctv doc:Value)(H':Hp),Same H H'->H f=none->CloFn H' f e.c qual (o e.c ctv doc)->Q (.ref f) H')
def Zf0 (P:Addr)(pos:Pos)(qual:Str)(o:Addr->Value->Value->Obj)(i:Nat):TS:=λD σ H=>tMk P pos qual o H λv H'=>D.nx (σ.set i (some v)) H'
theorem Zbm {P:Addr}{ps:Array Value}{mg:Str->Option Value}{h:Heap}(hg:h.Ns mainGlobals mg)(hP:h.get? P=some (W.tabObj ps)):mainGlobals≠P:=λz=>by
 obtain ⟨o,es,ep,e,hd,_⟩:=hg;rw [z,hP] at e;cases e;cases hd
theorem ZcZ {i:Nat}{name qual:Str}{params:Arguments}{body:List Stmt}{scope:Scope}{pos:Pos}{clos:UM}{c P:Addr}(hN:X.N.Nodup)(hi:X.N[i]?=some name)(hx:Loc X.env.scope name)(hcl:closureFor scope X.env=pure clos)(hcode:X.env.code=.ref c)(C:W.CodeHd X.base c P)(hb:X.base.BuiltinsAt X.mg P)(hq:qualnameIn X.env name name=qual)(hd0:params.defaults=[]:=by rfl)(hk0:params.kw_defaults=[]:=by rfl)(ha:annTrees params none X.env=[]:=by rfl)(hf:X.fn name=true\/X.env.scope.names.lookup name=some .local:=by first | exact .inl rfl | exact .inr rfl | assumption) :
  PS X (.FunctionDef name params body [] none [] scope none name pos) (Zf0 P pos qual (λc' ctv doc=>W.fnMade name qual params body scope clos doc ((X.mg "__name__").getD .none) c' ctv) i):=by
 intro qQ s σ H D I h;refine W.nestDef_K hd0 hk0 ha ?_;rw [hq];have hg:s.heap.Ns mainGlobals X.mg:=I.ok.mod.glob.keeps I.bk;have hB:s.heap.BuiltinsAt X.mg P:=by
  obtain ⟨bm,o,h1,h2,h3,h4,h5,h6⟩:=hb;exact ⟨bm,o,h1,h2,h3,h4,I.bk _ _ h5,h6⟩
 obtain ⟨es,on,h⟩:=h;have hP:s.heap.get? P=some (W.tabObj (Y8 es).toArray):=I.hok P _ on.1;rcases h with ⟨hnf,q⟩ | ⟨e,he,hf',hqe,q⟩
 ·refine W.makeFunction_K (mg:=X.mg) hcl I.ok.glob hg hcode (C.keeps I.bk) hP (Yo es) hnf (Zbm hg hP) hB λc' ctv doc h' tk hx' hge hlt hrec htb=>?_;obtain ⟨c2,oc,vs,tq,ec,hoc,hd,hv⟩:=hrec;cases ec;obtain ⟨H',I',sl,aP,ac,af,nc,nf⟩:=Zbl (o:=W.fnMade name qual params body scope clos doc ((X.mg "__name__").getD .none) c' ctv) (tk:=tk) I on.1 hx' hge hlt hoc htb (Heap.get?_push_size _ rfl);refine O9 (v:=.ref h'.objs.size) I' hN hi hx rfl (λs' J=>⟨_,H',J,q _ c' ctv doc H' sl ⟨?_,λy hy=>?_⟩ nf ⟨af,oc,ac,vs,tq,hd,hv⟩⟩) hf
  ·rw [Yp];exact aP
  ·rcases List.mem_append.mp hy with hy | hy
   ·obtain ⟨oy,z1,z2⟩:=on.2 y hy;exact ⟨oy,sl _ _ (λz=>by rw [z,on.1] at z1;cases z1) z1,z2⟩
   ·rw [List.mem_singleton.mp hy];exact ⟨oc,ac,vs,tq,hd,hv⟩
 ·refine W.makeFunction_hit (cv:=.ref e.c) (mg:=X.mg) hcl I.ok.glob hg hcode (C.keeps I.bk) hP (Yo es) hf' hB λctv doc h' tk hk hsz=>?_;have nf:H h'.objs.size=none:=I.hok.fresh hsz;have I':=I.laid (a:=h'.objs.size) (o:=.frz (W.fnMade name qual params body scope clos doc ((X.mg "__name__").getD .none) e.c ctv) (.own h'.objs.size)) (h':=h'.push (W.fnMade name qual params body scope clos doc ((X.mg "__name__").getD .none) e.c ctv)) (t':=tk) (λb o e=>Heap.get?_push_of_some _ (hk b o e)) hsz ⟨Heap.get?_push_size _ rfl,_,Heap.get?_push_size _ rfl⟩;have sm:Same H (upd H h'.objs.size (.frz (W.fnMade name qual params body scope clos doc ((X.mg "__name__").getD .none) e.c ctv) (.own h'.objs.size))):=Same.new nf;obtain ⟨oc,z1,z2⟩:=on.2 e he;rw [hqe] at z2;exact O9 (v:=.ref h'.objs.size) I' hN hi hx rfl (λs' J=>⟨_,_,J,q _ ctv doc _ sm nf ⟨Gb,oc,sm _ _ z1,z2⟩⟩) hf
def FnIn (H:Hp)(f:Addr):Prop:=∃o u fd,H f=some (.frz o u)/\o.data=.func fd
theorem CloFn.fin {H:Hp}{f c:Addr}{qual:Str}{o:Obj}{fd:FuncData}(h:CloFn H f c qual o)(e:o.data=.func fd):FnIn H f:=⟨o,_,fd,h.1,e⟩
theorem FnIn.at_ {qQ:List (Addr×Obj)}{σ:St}{H:Hp}{s:Shared}{f:Addr}(h:FnIn H f)(I:Inv X qQ σ H s):W.FnAt f s.heap:=by
 obtain ⟨o,u,fd,e,hd⟩:=h;have hg:=(show ObjOk X.prog X.w H s.heap f (.frz o u) from I.hok _ _ e).1;obtain ⟨oc,od,dt,sl⟩:=o;cases hd;exact ⟨oc,od,fd,sl,hg⟩
def Zc0 (i:Nat)(f:Addr)(sp:Sp)(dvs:List V)(E:XK)(t:TA):TE:=λσ H Q=>σ[i]?=some (some (.ref f))/\FnIn H f/\t σ H λvs H1=>FnIn H1 f/\sp (vs++dvs) H1 Q E
theorem ZQ {CX:CXT}{k i:Nat}{f:Addr}{fd:FuncData}{ps:List Str}{sp:Sp}{ds:List Value}{dvs:List V}{E:XK}{x:Str}{e:Expr}{es:List Expr}{t:TA}{p pos:Pos}(F:GS X.prog X.w X.K X.mg X.base CX k f fd ps sp)(hr:Room k X.A)(hv:PE X (.Name x p) (Y5 i))(hb:Binds X.K fd ps ds)(hd:Vals dvs ds)(hx:O3 CX X E)(ha:PA X (e::es) t)(he:starEach (e::es) X.env=(false,eval e X.env)::starEach es X.env:=by rfl)(hpl:(backTo pos (starEach es X.env)).any (·.1)=false:=by rfl):PE X (.Call (.Name x p) (e::es) [] pos) (Zc0 i f sp dvs E t):=by
 intro qQ s σ H Q I h;refine wpAny_Call_Name_kw (thn (hv qQ s σ H (λv H'=>v=.ref f/\H'=H) I ⟨_,h.1,rfl,rfl⟩) λu s1 ⟨v,H1,I1,r1,ev,eH⟩=>?_);subst ev eH;obtain rfl:u=Value.ref f:=r1;refine W.callWith_F (h.2.1.at_ I1) (thn (ha pos qQ s1 σ H1 _ I1 h.2.2) λus s2 ⟨vs,H2,I2,r,hf,q⟩=>⟨hf.at_ I2,?_⟩) he hpl;exact Wn F hr hb hd hx I2 r q
end
end L2
namespace L2
open PySem PySem.Spec PyProof.Rows
theorem Paired.comp {α β γ:Type}{A:α->β->Prop}{B:β->γ->Prop}{C:α->γ->Prop}:∀{l:List α}{m:List β}{n:List γ},Paired A l m->Paired B m n->(∀a b c,A a b->B b c->C a c)->Paired C l n
 | _,_,_,.nil,.nil,_=>.nil
 | _,_,_,.cons a t,.cons b u,h=>.cons (h _ _ _ a b) (Paired.comp t u h)
def Zbn (cl:UM)(h:Heap)(H:Hp):Hp:=λb=>if b∈cl.map (·.2) then (h.get? b).map (λo=>HO.frz o (.own b)) else H b
section
variable {X:Cx}{qQ:List (Addr×Obj)}{σ:St}{H:Hp}{s:Shared}
def Zem (X:Cx)(cl:UM)(is:List Nat):Prop:=Paired (λ(q:Str×Addr) (i:Nat)=>X.N[i]?=some q.1/\X.env.scope.names.lookup q.1=some .cell/\X.env.cells.lookup q.1=some q.2/\X.fn q.1=true) cl is
theorem Uv {cl:UM}{is:List Nat}(h:Zem X cl is):∀c∈cl.map (·.2),∃x,X.env.cells.lookup x=some c/\X.fn x=true:=λc hc=>by
 obtain ⟨q,hq,rfl⟩:=List.mem_map.mp hc;obtain ⟨i,hi⟩:=List.getElem?_of_mem hq;obtain ⟨j,_,_,_,h1,h2⟩:=Va h hi;exact ⟨q.1,h1,h2⟩
theorem Zbo {cl:UM}{is:List Nat}{fvs:List V}(I:Inv X qQ σ H s)(hix:Zem X cl is)(hv:Paired (λ(i:Nat) v=>σ[i]?=some (some v)) is fvs) :
  ZaY X.prog X.w X.K X.mg X.base X.A X.stack s (Zbn cl s.heap H)/\CellsAt (Zbn cl s.heap H) cl fvs/\∀b∈cl.map (·.2),H b=none:=by
 have E:=I.env0;have inn:∀{b:Addr},b∈cl.map (·.2)->Zbn cl s.heap H b=(s.heap.get? b).map (λo=>HO.frz o (.own b)):=λ{b} z=>if_pos z;have out:∀{b:Addr},b ∉ cl.map (·.2)->Zbn cl s.heap H b=H b:=λ{b} z=>if_neg z;have hN:∀b∈cl.map (·.2),H b=none:=λb hb=>by
  obtain ⟨x,e,_⟩:=Uv hix b hb;exact I.freeC x b e
 have old:∀b∈cl.map (·.2),X.s₀.heap.objs.size<=b:=λb hb=>by
  obtain ⟨x,e,hf⟩:=Uv hix b hb;exact I.ok.cab x b hf e
 refine ⟨⟨E.frames,E.mod,λb o e=>⟨(E.bs b o e).1,?_⟩,E.bsz,E.funs,λb hb=>?_,λa o e=>?_,E.bare⟩,?_,hN⟩
 ·rw [out (λz=>Nat.lt_irrefl _ (Nat.lt_of_lt_of_le (Heap.lt_size (I.ok.bs b o e).1) (old b z)))];exact (E.bs b o e).2
 ·rw [out (λz=>?_)]
  ·exact E.frf b hb
  ·rcases List.mem_cons.mp (I.stkSub b hb) with y | y
   ·obtain ⟨x,e,_⟩:=Uv hix b z;exact I.cne x b e y
   ·obtain ⟨_,o,ho,_⟩:=I.ok.funs.mem y;exact Nat.lt_irrefl _ (Nat.lt_of_lt_of_le (Heap.lt_size ho) (old b z))
 ·by_cases z:a∈cl.map (·.2)
  ·rw [inn z] at e;obtain ⟨ob,ho,rfl⟩:=Option.map_eq_some_iff.mp e;exact ⟨ho,ob,ho⟩
  ·rw [out z] at e;refine (I.hok a o e).stay (λ_ _ _ y=>y) (λd y=>?_) λd ys y=>?_
   ·rw [out (λzz=>by rw [hN d zz] at y;cases y)];exact y
   ·rw [out (λzz=>by rw [hN d zz] at y;cases y)];exact y
 ·obtain ⟨m,_,hl⟩:=I.loc;have both:Paired (λ(q:Str×Addr) (i:Nat)=>(X.N[i]?=some q.1/\X.env.scope.names.lookup q.1=some .cell/\X.env.cells.lookup q.1=some q.2/\X.fn q.1=true)/\q.2∈cl.map (·.2)) cl is:=by
   have:∀{l:UM}{js:List Nat},Zem X l js->(∀q∈l,q.2∈cl.map (·.2))->Paired (λ(q:Str×Addr) (i:Nat)=>(X.N[i]?=some q.1/\X.env.scope.names.lookup q.1=some .cell/\X.env.cells.lookup q.1=some q.2/\X.fn q.1=true)/\q.2∈cl.map (·.2)) l js:=by
    intro l js h
    induction h with
    | nil=>intro _;exact .nil
    | cons r t ih=>intro hm;exact .cons ⟨r,hm _ (List.mem_cons_self ..)⟩ (ih λq hq=>hm q (List.mem_cons_of_mem _ hq))
   exact this hix λq hq=>List.mem_map.mpr ⟨q,hq,rfl⟩
  refine Paired.comp both hv λq i v ⟨⟨h1,h2,h3,h4⟩,h5⟩ hs=>?_;obtain ⟨u,rv,lk⟩:=hl i q.1 v h1 hs (.inr (.inl h2));rcases lk with ⟨k,_⟩ | ⟨_,c,hc,o,ho,hd⟩
  ·have k:X.env.scope.names.lookup q.1=some .local:=k;rw [h2] at k;cases k
  ·rw [h3] at hc;cases hc;refine ⟨o,u,?_,hd,rv⟩;rw [inn h5,ho]
   rfl
theorem Zf1 {cl:UM}{Q:VK}{u:Value}{s':Shared}(hN:∀b∈cl.map (·.2),H b=none)(hcs:∀b∈cl.map (·.2),∃o,s.heap.get? b=some o)(hst:∀b∈frs X.stack,b ∉ cl.map (·.2))(h:CE X.stack X.prog X.w (Zbn cl s.heap H) s (λv H'=>Q v (hideC cl H')) u s'):CE X.stack X.prog X.w H s Q u s':=by
 obtain ⟨v,H',os,bare,un,hok,rv,q⟩:=h;have inn:∀{b:Addr},b∈cl.map (·.2)->Zbn cl s.heap H b=(s.heap.get? b).map (λo=>HO.frz o (.own b)):=λ{b} z=>if_pos z;have out:∀{b:Addr},b ∉ cl.map (·.2)->Zbn cl s.heap H b=H b:=λ{b} z=>if_neg z;have fz:∀b∈cl.map (·.2),∃o,s.heap.get? b=some o/\H' b=some (.frz o (.own b)):=λb hb=>by
  obtain ⟨o,ho⟩:=hcs b hb;refine ⟨o,ho,un.frzs b o _ ?_⟩;rw [inn hb,ho]
  rfl
 have nz:∀{b:Addr}{o:HO},H b=some o->b ∉ cl.map (·.2):=λ{b o} e z=>by rw [hN b z] at e;cases e
 refine ⟨v,hideC cl H',os,bare,⟨λb o e n h1 h2=>?_,λb o e n h1 h2=>un.slot b o e (by rw [out (hst b h1)];exact n) h1 h2,λb o e n h1=>?_,un.there,λb ys e=>?_,λb o y e=>?_,λb ys e=>?_⟩,WI hok λc hc=>?_,rv,q⟩
 ·by_cases z:b∈cl.map (·.2)
  ·obtain ⟨o',ho,hz⟩:=fz b z;rw [e] at ho;cases ho;exact (show ObjOk X.prog X.w H' s'.heap b (.frz o (.own b)) from hok _ _ hz).1
  ·exact un.keep b o e (by rw [out z];exact n) h1 h2
 ·by_cases z:b∈cl.map (·.2)
  ·exact J8 z
  ·rw [Jb z];exact un.free b o e (by rw [out z];exact n) h1
 ·rw [Jb (nz e)];exact un.tups b ys (by rw [out (nz e)];exact e)
 ·rw [Jb (nz e)];exact un.frzs b o y (by rw [out (nz e)];exact e)
 ·rw [Jb (nz e)];exact un.tbls b ys (by rw [out (nz e)];exact e)
 ·obtain ⟨o,_,hz⟩:=fz c hc;exact ⟨o,hz⟩
def Zc1 (cl:UM)(is:List Nat)(sp:Sp)(dvs:List V)(E:XK)(t:TA):TE:=λσ H Q=>t σ H λvs H1=>∃fvs,Paired (λ(i:Nat) v=>σ[i]?=some (some v)) is fvs /\
 ∀H2:Hp,(∀b,b ∉ cl.map (·.2)->H2 b=H1 b)->(∀b∈cl.map (·.2),H1 b=none)->CellsAt H2 cl fvs->sp (vs++dvs) H2 (λv H'=>Q v (hideC cl H')) E
theorem ZR {CX:CXT}{k:Nat}{f:Addr}{fd:FuncData}{ps:List Str}{sp:Sp}{ds:List Value}{dvs:List V}{E:XK}{x:Str}{e:Expr}{es:List Expr}{t:TA}{p pos:Pos}{cl:UM}{is:List Nat}(hix:Zem X cl is)(F:GS X.prog X.w X.K X.mg X.base CX k f fd ps sp)(hr:Room k X.A)(hg:Gl X x)(hm:X.mg x=some (.ref f))(hk:W.keepIn X.K (.ref f)=true)(hb:Binds X.K fd ps ds)(hd:Vals dvs ds)(hx:∀{outer:List Env}{H:Hp}{s:Shared}{ev:Value}{s':Shared},CX outer H s E ev s'->False)(ha:PA X (e::es) t)(hdb:(x == ("__debug__" : Str))=false:=by decide)(he:starEach (e::es) X.env=(false,eval e X.env)::starEach es X.env:=by rfl)(hpl:(backTo pos (starEach es X.env)).any (·.1)=false:=by rfl) :
  PE X (.Call (.Name x p) (e::es) [] pos) (Zc1 cl is sp dvs E t):=by
 intro qQ s σ H Q I h;refine wpAny_Call_Name_kw (UZ I hg hm ?_ hdb);refine W.callWith_K (h₀:=X.base) I.ok.mod.kin hk (thn (ha pos qQ s σ H _ I h) λus s1 ⟨vs,H1,I1,r,fvs,hv,q⟩=>⟨I1.kIn,?_⟩) he hpl;obtain ⟨E0',hC,hN⟩:=Zbo I1 hix hv;have q:=q _ (λb z=>if_neg z) hN hC;have r2:Vals (vs++dvs) (us++ds):=r.append hd;have hl:(us++ds).length=ps.length:=by rw [<-r2.length];exact F.len _ _ _ _ q
 refine wpAny_call (codeAny_mono (F.run X.A X.stack s1 _ ⟨us,[]⟩ (us++ds) (vs++dvs) _ E hr E0' (hb s1 us I1.kIn hl) r2 q) λr s' hq=>?_);cases r with
 | error e=>exact (hx hq).elim
 | ok fl=>
  cases fl with
  | ret u=>
   refine I1.after (Zf1 hN (λb hb=>?_) (λb hb z=>?_) hq)
   ·obtain ⟨x',e',_⟩:=Uv hix b hb;obtain ⟨v',o,ho,_⟩:=I1.cell x' b e';exact ⟨o,ho⟩
   ·obtain ⟨x',e',hf⟩:=Uv hix b z;rcases List.mem_cons.mp (I1.stkSub b hb) with y | y
    ·exact I1.cne x' b e' y
    ·obtain ⟨_,o,ho,_⟩:=I1.ok.funs.mem y;exact Nat.lt_irrefl _ (Nat.lt_of_lt_of_le (Heap.lt_size ho) (I1.ok.cab x' b hf e'))
  | next=>exact False.elim hq
  | brk=>exact False.elim hq
  | cont=>exact False.elim hq
end
end L2
namespace L2
open PySem PySem.Spec PyProof.Rows
section
variable {X:Cx}{o i:Expr}{pos:Pos}{ty:TE}{to:TE}
def ZeJ (a:Addr)(kvs:List (Key×V))(to ty:TE):TE:=λσ H Q=>to σ H λx H1=>x=.ref a/\ty σ H1 λy H2=>∃k v,y=kV k/\OT kvs k=some v/\Q v H2
theorem Zbp {a:Addr}{ob:Obj}{kvs:List (Key×V)}{vs:List (Key×Value)}(hk:X.K.lookup a=some ob)(hd:ob.IsDictOf (Jh X.prog X.w) vs)(r:KV kvs vs)(ho:PE X o to)(hi:PE X i ty)(hs:ZeF i):PE X (.Subscript o i pos) (ZeJ a kvs to ty):=by
 intro qQ s σ H Q I h;refine Yg PySem.F.slot_dict_getitem.lookup hs (thn (ho qQ s σ H _ I h) λu s1 ⟨x,H1,I1,rx,ex,q1⟩=>thn (hi qQ s1 σ H1 _ I1 q1) λiv s2 ⟨y,H2,I2,ry,k,v,ey,l,q2⟩=>?_);subst ex ey;obtain rfl:u=Value.ref a:=rx;have dd:s2.heap.DictOf (Jh X.prog X.w) a vs:=Heap.dictOf_iff.mpr ⟨ob,I2.kIn a ob hk,hd⟩;obtain ⟨w',hw,rw'⟩:=RelO.some_of (v:=v) (o:=valueAt vs k) (by rw [<-l];exact r.val k);exact ⟨dd.typeIs,wpAny_getItem_of (Yb ry) dd.mapOf hw ⟨v,H2,I2.tok _,rw',q2⟩⟩
end
end L2
namespace L2
open PySem PySem.Spec PyProof.Rows
theorem Yq {X:Cx}(K:W.Frag)(h:X.K=K:=by rfl):J2 X (.builtin "sorted") (λxs H Q=>∃(p:Addr)(ns:List Int),xs=[.ref p]/\SqT K H p (ns.map V.int)/\ns.length<64 /\
  ∀(l:Addr)(ns':List Int),H l=none->ns'.Perm ns->ns'.Pairwise (· <= ·)->Q (.ref l) (upd H l (.lst (ns'.map V.int)))):=by
 subst h;intro qQ s σ H xs us Q I rv h;obtain ⟨p,ns,rfl,hp,h64,q⟩:=h;obtain ⟨u,rfl,ru⟩:=rv.one;cases ru;obtain ⟨its,r,⟨o,e0,ec,n0,ed⟩,_⟩:=I.tuple hp;have h16:(16777216:Nat)=sizeLine:=sizeLine_eq.symm;have hal:its.length=ns.length:=by have:=r.length;rw [List.length_map] at this;exact this.symm
 have hI:IntsAre its ns:=Oq r;refine Calls.call_function_entry kind_sorted plain_sorted entry_sorted (args_sorted1 _) ?_;unfold Builtin.«sorted»;refine wpAny_bind (m:=checkCount "sorted" 1 1 _) (wpAny_pure ?_);refine wpAny_bind (wpAny_collect_seq p (T := "tuple") (.inr rfl) e0 ec ed (λh' hk'=>?_) (by rw [List.size_toArray];lia));rw [List.toList_toArray];refine wpAny_bind (wpAny_newList ?_ (by rw [hal];lia));have hoL:(h'.push (seqObj "list" its.toArray 0)).get? h'.objs.size=some (seqObj "list" its.toArray 0):=Heap.get?_push_size _ rfl;refine wpAny_bind (wpAny_holding (wpAny_call_entry slot_list_sort ⟨_,hoL,rfl⟩ entry_list_sort (list_sort_tree hoL hI (by lia) λout ns' a1 a2 a3=>⟨_,rfl,?_⟩) (args_list_sort _)));refine wpAny_pure ⟨_,rfl,?_⟩;obtain ⟨e,he⟩:=sortedHeap_at (out:=out) hoL;have hkeep:∀b o,s.heap.get? b=some o->(sortedHeap (h'.push (seqObj "list" its.toArray 0)) h'.objs.size its out).get? b=some o:=λb o e=>by
  have e':=hk' b o e;have hb:=Heap.lt_size e';rw [sortedHeap_old (Nat.ne_of_lt hb) (by rw [Heap.size_push];exact Nat.lt_succ_of_lt hb)];exact Heap.get?_push_of_some _ e'
 have hl':(ns'.map V.int).length<=sizeLine:=by rw [List.length_map,a2.length_eq];lia
 have hn:H h'.objs.size=none:=by
  cases zz:H h'.objs.size with
  | none=>rfl
  | some o=>
   obtain ⟨x,ex⟩:∃x,s.heap.get? h'.objs.size=some x:=(I.hok _ _ zz).there;exact absurd (Heap.lt_size (hk' _ _ ex)) (Nat.lt_irrefl _)
 have sm:Same H (upd H h'.objs.size (.lst (ns'.map V.int))):=Same.new hn;refine ⟨.ref h'.objs.size,upd H h'.objs.size (.lst (ns'.map V.int)),I.un (t':=s.toks) ⟨λb o e _ _ _=>hkeep b o e,λb o e _ _ _=>⟨o.slots,hkeep b o e⟩,λb o e n _=>?_,λb o e _=>⟨o,hkeep b o e⟩,λb ys e=>sm _ _ e,λb o u e=>sm _ _ e,λb ps e=>⟨#[],by rw [sm _ _ e];simp⟩⟩ (λb o e'=>?_),rfl,q _ ns' hn a2 a3⟩
 ·rw [Gu (Nat.ne_of_lt (Heap.lt_size (hk' b o e)))];exact n
 ·by_cases hb:b=h'.objs.size
  ·subst hb;rw [Gb] at e';cases e';exact ⟨hl',out.toList,e,OI a1,he⟩
  ·rw [Gu hb] at e';exact (I.hok b o e').stay (λc v _ x=>hkeep c v x) (λd x=>sm _ _ x) λd ys x=>sm _ _ x
end L2
namespace L2
open PySem PySem.Spec PyProof.Rows
theorem Xq {a b:Expr}{env:Env}{p pos:Pos}{args:List Expr}{keywords:List Keyword}:eval (.Call (.Subscript a b p) args keywords pos) env=(eval (.Subscript a b p) env >>= λf=>callWith pos f [] (backTo pos (starEach args env)) (backToKw pos (keywordEach keywords env))):=by
 simp only [eval]
section
variable {X:Cx}
def Zc2 (tf:TE)(Cd:Addr->Sp->Prop)(dvs:List V)(E:XK)(t:TA):TE:=λσ H Q=>tf σ H λv H1=>∃f sp,v=.ref f/\Cd f sp/\ZaZ sp dvs E t σ H1 Q
theorem ZS {CX:CXT}{k:Nat}{ps:List Str}{Cd:Addr->Sp->Prop}{ds:List Value}{dvs:List V}{E:XK}{a b e:Expr}{es:List Expr}{tf:TE}{t:TA}{p pos:Pos}(hC:∀f sp,Cd f sp->∃fd,GS X.prog X.w X.K X.mg X.base CX k f fd ps sp/\W.keepIn X.K (.ref f)=true/\Binds X.K fd ps ds)(hr:Room k X.A)(hv:PE X (.Subscript a b p) tf)(hd:Vals dvs ds)(hx:O3 CX X E)(ha:PA X (e::es) t)(he:starEach (e::es) X.env=(false,eval e X.env)::starEach es X.env:=by rfl)(hpl:(backTo pos (starEach es X.env)).any (·.1)=false:=by rfl):PE X (.Call (.Subscript a b p) (e::es) [] pos) (Zc2 tf Cd dvs E t):=by
 intro qQ s σ H Q I h;show wpAny _ _ (eval _ _) _ _ _;rw [Xq];refine wpAny_bind (thn (hv qQ s σ H _ I h) λu s1 ⟨v,H1,I1,r1,f,sp,ev,hc,q⟩=>?_);subst ev;obtain rfl:u=Value.ref f:=r1;obtain ⟨fd,F,hk,hb⟩:=hC f sp hc;refine W.callWith_K (h₀:=X.base) I1.ok.mod.kin hk (thn (ha pos qQ s1 σ H1 _ I1 q) λus s2 ⟨vs,H2,I2,r,q⟩=>⟨I2.kIn,?_⟩) he hpl;exact Wn F hr hb hd hx I2 r q
end
end L2
namespace L2
open PySem PySem.Spec PyProof.Rows
structure Ln (it l:Addr)(xs:Array Value)(On:Nat->Heap->Prop):Prop where
 item:∀{prog:Program}{w:World}{A:Around}{E:Value->Shared->Prop}{s:Shared}{k:Nat}{x:Value}{Q:Value->Shared->Prop},On k s.heap->xs[k]?=some x->(∀h',On (k+1) h'->Heap.SameBut it s.heap h'->Q x { s with heap:=h' })->wpAny (model prog w) A (Builtin.SmallTypes.nextOf (.ref it)) Q E s
 stop:∀{prog:Program}{w:World}{A:Around}{E:Value->Shared->Prop}{s:Shared}{k:Nat}{Q:Value->Shared->Prop},A.handled=none->On k s.heap->xs[k]?=none->(∀h' e,Heap.ExtBut it s.heap h'->(∃o,h'.get? e=some o/\o.cls=.type "StopIteration")->E (.ref e) { s with heap:=h' })->wpAny (model prog w) A (Builtin.SmallTypes.nextOf (.ref it)) Q E s
 keep:∀k h h',On k h->(∀c,c=it\/c=l->∀o,h.get? c=some o->h'.get? c=some o)->On k h'
 obj:∀k h,On k h->∃o,h.get? it=some o/\∀v,o.data≠.cell v
theorem Zbq (it l:Addr)(xs:Array Value)(hne:l≠it):Ln it l xs (λk h=>h.IsListIter it l k/\h.IsList l xs) where
 item:=λ⟨h1,h2⟩ hx hQ=>wpAny_nextOf_list_item h1 h2 hx λh' a b=>hQ h' ⟨a,h2.extBut b.extBut hne⟩ b
 stop:=λhh ⟨h1,h2⟩ hx hE=>wpAny_nextOf_list_end hh h1 h2 hx hE
 keep:=λk h h' ⟨h1,h2⟩ kp=>⟨h1.at (kp _ (.inl rfl)),h2.at (kp _ (.inr rfl))⟩
 obj:=λk h ⟨⟨o,e,c,d⟩,_⟩=>⟨o,e,λv z=>by rw [d] at z;cases z⟩
theorem Zc3 (it l:Addr)(xs:Array Value)(hne:l≠it):Ln it l xs (λk h=>h.IsTupleIter it l k/\h.IsTuple l xs) where
 item:=by
  intro prog w A E s k x Q ⟨hit,ht⟩ hx hQ;obtain ⟨o,ho,hc,hd⟩:=id hit;obtain ⟨ol,hol,cl,nl,hdl⟩:=id ht;have ty:s.TypeIs (.ref it) "tuple_iterator" := ⟨o,ho,hc⟩;refine wpAny_bind (wpAny_callSpecial?_slot ty F.slot_tuple_iterator_next (wpAny_call_entry F.slot_tuple_iterator_next ty F.entry_tuple_iterator_next ?_ (F.args_tuple_iterator_next_1 _)))
  wp_walk using wpAny_field ho hd rfl
  rw [hdl]
  wp_walk
  rw [show ((k:Int).toNat)=k from rfl,hx]
  wp_walk using wpAny_setField ho hd (by simp)
  refine ⟨x,rfl,?_⟩
  wp_walk
  refine hQ _ ⟨⟨_,Heap.get?_update_self _ ho (Obj.isFreed_of_fields (Obj.data_mapFields hd _)),(Obj.cls_mapFields ..).trans hc,by rw [Obj.data_mapFields hd];simp [rawInt]⟩,ht.extBut (Heap.SameBut.update ..).extBut hne⟩ (Heap.SameBut.update ..)
 stop:=by
  intro prog w A E s k Q hh ⟨hit,ht⟩ hx hE;obtain ⟨o,ho,hc,hd⟩:=id hit;obtain ⟨ol,hol,cl,nl,hdl⟩:=id ht;have ty:s.TypeIs (.ref it) "tuple_iterator" := ⟨o,ho,hc⟩;refine wpAny_bind (wpAny_callSpecial?_slot ty F.slot_tuple_iterator_next (wpAny_call_entry F.slot_tuple_iterator_next ty F.entry_tuple_iterator_next ?_ (F.args_tuple_iterator_next_1 _)))
  wp_walk using wpAny_field ho hd rfl
  rw [hdl]
  wp_walk
  rw [show ((k:Int).toNat)=k from rfl,hx]
  wp_walk using wpAny_setField ho hd (by simp)
  wp_walk using wpAny_raiseNew_none (A:=A.in1) hh
  exact hE _ _ (λc o n e=>Heap.get?_push_of_some _ (Heap.get?_push_of_some _ ((Heap.SameBut.update ..).extBut c o n e))) ⟨_,Heap.get?_push_size _ rfl,rfl⟩
 keep:=λk h h' ⟨⟨o,e,r⟩,⟨o2,e2,r2⟩⟩ kp=>⟨⟨o,kp _ (.inl rfl) _ e,r⟩,⟨o2,kp _ (.inr rfl) _ e2,r2⟩⟩
 obj:=λk h ⟨⟨o,e,c,d⟩,_⟩=>⟨o,e,λv z=>by rw [d] at z;cases z⟩
structure ZA (z TI TO i1 i2 l1 l2:Addr):Prop where
 z1:z≠TI/\z≠TO/\z≠i1/\z≠i2/\z≠l1/\z≠l2
 t1:TO≠TI/\TO≠i1/\TO≠i2/\TO≠l1/\TO≠l2
 i1:i1≠TI/\i1≠i2/\i1≠l1/\i1≠l2
 i2:i2≠TI/\i2≠l1/\i2≠l2
section
variable {prog:Program}{w:World}{A:Around}{E:Value->Shared->Prop}{s:Shared}
theorem Zbr {z TI TO i1 i2 l1 l2:Addr}{xs ys:Array Value}{O1 O2:Nat->Heap->Prop}{k:Nat}{a b x y:Value}{Q:Value->Shared->Prop}(D:ZA z TI TO i1 i2 l1 l2)(L1:Ln i1 l1 xs O1)(L2:Ln i2 l2 ys O2)(hz:IsZip s.heap z TI TO .none)(hTI:IsPair s.heap TI (.ref i1) (.ref i2))(hTO:IsPair s.heap TO a b)(o1:O1 k s.heap)(o2:O2 k s.heap)(hx:xs[k]?=some x)(hy:ys[k]?=some y)(hQ:∀h',IsZip h' z TI TO (rawInt s.heap.objs.size)->IsPair h' TO x y->O1 (k+1) h'->O2 (k+1) h'->IsPair h' s.heap.objs.size x y->h'.objs.size=s.heap.objs.size+1->(∀c o,c ∉ [z,TO,i1,i2]->s.heap.get? c=some o->h'.get? c=some o)->Q (.ref s.heap.objs.size) { s with heap:=h' }) :
  wpAny (model prog w) A (Builtin.«zip.__next__» ⟨[.ref z],[]⟩) (λfin s'=>∃v,fin=.done (.ret v)/\Q v s') E s:=by
 have hne:(#[Value.ref i1,Value.ref i2]).isEmpty=false:=rfl
 wp_walk using wpAny_field hz rfl rfl,wpAny_seqItems hTI rfl,wpAny_setField_rec hz
 case hk=>exact (by decide:(0:Nat)<5)
 intro h1 z1 s1;simp only [List.zipIdx_cons,List.zipIdx_nil,List.forIn_cons,List.forIn_nil];obtain ⟨d1,d2,d3,d4⟩:=D;refine wpAny_bind (wpAny_bind (wpAny_bind (wpAny_onRaise (?_:wpAny _ _ (Builtin.SmallTypes.nextOf (.ref i1) >>= λv=>pure (some v)) _ _ _))));refine wpAny_bind (L1.item (L1.keep _ _ _ o1 λc hc o e=>s1.extBut c o (by rcases hc with rfl | rfl;exact d1.2.2.1.symm;exact d1.2.2.2.2.1.symm) e) hx λh2 o12 s2=>?_);have t2:IsPair h2 TO a b:=s2.extBut _ _ d2.2.1 (s1.extBut _ _ d1.2.1.symm hTO);refine wpAny_pure (wpAny_bind (wpAny_seqItems t2 rfl (wpAny_bind (wpAny_updateSeq t2 rfl (wpAny_bind (wpAny_letGo (wpAny_pure (?_))))))));have B3:Heap.SameBut TO h2 (h2.update TO (Obj.mapSeq λv=>v.setIfInBounds 0 x)):=Heap.SameBut.update ..;have t3:IsPair (h2.update TO (Obj.mapSeq λv=>v.setIfInBounds 0 x)) TO x b:=(Heap.get?_update_self _ t2 rfl).trans (by simp [Obj.mapSeq]);show wpAny _ _ (_ >>= _) _ _ { s with heap:=h2.update TO (Obj.mapSeq λv=>v.setIfInBounds 0 x) };generalize h2.update TO (Obj.mapSeq λv=>v.setIfInBounds 0 x)=h3 at B3 t3 ⊢;have S3:∀c o,c≠z->c≠TO->c≠i1->s.heap.get? c=some o->h3.get? c=some o:=λc o n1 n2 n3 e=>B3.extBut c o n2 (s2.extBut c o n3 (s1.extBut c o n1 e));refine wpAny_bind (wpAny_bind (wpAny_onRaise (?_:wpAny _ _ (Builtin.SmallTypes.nextOf (.ref i2) >>= λv=>pure (some v)) _ _ _)));refine wpAny_bind (L2.item (L2.keep _ _ _ o2 λc hc o e=>S3 c o (by rcases hc with rfl | rfl;exact d1.2.2.2.1.symm;exact d1.2.2.2.2.2.symm) (by rcases hc with rfl | rfl;exact d2.2.2.1.symm;exact d2.2.2.2.2.symm) (by rcases hc with rfl | rfl;exact d3.2.1.symm;exact d3.2.2.2.symm) e) hy λh4 o24 s4=>?_);have t4:IsPair h4 TO x b:=s4.extBut _ _ d2.2.2.1 t3;refine wpAny_pure (wpAny_bind (wpAny_seqItems t4 rfl (wpAny_bind (wpAny_updateSeq t4 rfl (wpAny_bind (wpAny_letGo (wpAny_pure (?_))))))));have B5:Heap.SameBut TO h4 (h4.update TO (Obj.mapSeq λv=>v.setIfInBounds (0+1) y)):=Heap.SameBut.update ..;have t5:IsPair (h4.update TO (Obj.mapSeq λv=>v.setIfInBounds (0+1) y)) TO x y:=(Heap.get?_update_self _ t4 rfl).trans (by simp [Obj.mapSeq]);show wpAny _ _ (pure _) _ _ { s with heap:=h4.update TO (Obj.mapSeq λv=>v.setIfInBounds (0+1) y) };generalize h4.update TO (Obj.mapSeq λv=>v.setIfInBounds (0+1) y)=h5 at B5 t5 ⊢;have S5:∀c o,c ∉ [z,TO,i1,i2]->s.heap.get? c=some o->h5.get? c=some o:=λc o n e=>by
  simp only [List.mem_cons,List.not_mem_nil,or_false,not_or] at n;exact B5.extBut c o n.2.1 (s4.extBut c o n.2.2.2 (S3 c o n.1 n.2.1 n.2.2.1 e))
 have z5:IsZip h5 z TI TO .ellipsis:=B5.extBut _ _ d1.2.1 (s4.extBut _ _ d1.2.2.2.1 (B3.extBut _ _ d1.2.1 (s2.extBut _ _ d1.2.2.1 z1)));have l5:h5.objs.size=s.heap.objs.size:=by rw [B5.1,s4.1,B3.1,s2.1,s1.1]
 have p1:O1 (k+1) h5:=L1.keep _ _ _ o12 λc hc o e=>B5.extBut c o (by rcases hc with rfl | rfl;exact d2.2.1.symm;exact d2.2.2.2.1.symm) (s4.extBut c o (by rcases hc with rfl | rfl;exact d3.2.1;exact d4.2.1.symm) (B3.extBut c o (by rcases hc with rfl | rfl;exact d2.2.1.symm;exact d2.2.2.2.1.symm) e));have p2:O2 (k+1) h5:=L2.keep _ _ _ o24 λc hc o e=>B5.extBut c o (by rcases hc with rfl | rfl;exact d2.2.2.1.symm;exact d2.2.2.2.2.symm) e
 wp_walk using wpAny_seqItems t5 rfl
 refine ⟨_,rfl,?_⟩;have z6:IsZip (h5.push { cls:=Value.type "tuple", data:=Data.seq #[x,y].toList.toArray }) z TI TO .ellipsis:=Heap.get?_push_of_some _ z5;have t6:(h5.push { cls:=Value.type "tuple", data:=Data.seq #[x,y].toList.toArray }).get? h5.objs.size=some { cls:=Value.type "tuple", data:=Data.seq #[x,y].toList.toArray }:=Heap.get?_push_size _ rfl;have l6:(h5.push { cls:=Value.type "tuple", data:=Data.seq #[x,y].toList.toArray }).objs.size=h5.objs.size+1:=Heap.size_push ..;have k6:∀c o,h5.get? c=some o->(h5.push { cls:=Value.type "tuple", data:=Data.seq #[x,y].toList.toArray }).get? c=some o:=λc o e=>Heap.get?_push_of_some _ e;generalize h5.push { cls:=Value.type "tuple", data:=Data.seq #[x,y].toList.toArray }=h6 at z6 t6 l6 k6 ⊢;have z7:=Heap.get?_update_self (Obj.mapFields λv=>v.setIfInBounds 0 (rawInt ↑h5.objs.size)) z6 rfl;have z8:=Heap.get?_update_self (Obj.mapFields λv=>v.setIfInBounds 1 (Value.bool false)) z7 rfl;have k8:∀c o,c≠z->h6.get? c=some o->((h6.update z (Obj.mapFields λv=>v.setIfInBounds 0 (rawInt ↑h5.objs.size))).update z (Obj.mapFields λv=>v.setIfInBounds 1 (Value.bool false))).get? c=some o:=λc o n e=>(Heap.SameBut.update ..).extBut c o n ((Heap.SameBut.update ..).extBut c o n e);have l8:((h6.update z (Obj.mapFields λv=>v.setIfInBounds 0 (rawInt ↑h5.objs.size))).update z (Obj.mapFields λv=>v.setIfInBounds 1 (Value.bool false))).objs.size=h6.objs.size:=by rw [Heap.size_update,Heap.size_update]
 generalize (h6.update z (Obj.mapFields λv=>v.setIfInBounds 0 (rawInt ↑h5.objs.size))).update z (Obj.mapFields λv=>v.setIfInBounds 1 (Value.bool false))=h8 at z8 k8 l8 ⊢;have nz:h5.objs.size≠z:=Nat.ne_of_gt (Heap.lt_size z5);rw [l5] at nz z8 t6 l6 ⊢;refine hQ h8 z8 (k8 _ _ d1.2.1.symm (k6 _ _ t5)) (L1.keep _ _ _ p1 λc hc o e=>k8 c o (by rcases hc with rfl | rfl;exact d1.2.2.1.symm;exact d1.2.2.2.2.1.symm) (k6 _ _ e)) (L2.keep _ _ _ p2 λc hc o e=>k8 c o (by rcases hc with rfl | rfl;exact d1.2.2.2.1.symm;exact d1.2.2.2.2.2.symm) (k6 _ _ e)) (k8 _ _ nz t6) (l8.trans l6) λc o n e=>k8 c o (λq=>n (by simp [q])) (k6 _ _ (S5 c o n e))
theorem Zc4 {z TI TO i1 i2 l1 l2:Addr}{xs:Array Value}{O1:Nat->Heap->Prop}{k:Nat}{a b:Value}{Q:PySem.Fin->Shared->Prop}(hh:A.handled=none)(D:ZA z TI TO i1 i2 l1 l2)(L1:Ln i1 l1 xs O1)(hz:IsZip s.heap z TI TO .none)(hTI:IsPair s.heap TI (.ref i1) (.ref i2))(hTO:IsPair s.heap TO a b)(o1:O1 k s.heap)(hx:xs[k]?=none)(hE:∀h' e,(∀c o,c ∉ [z,TO,i1,i2]->s.heap.get? c=some o->h'.get? c=some o)->(∃o,h'.get? e=some o/\o.cls=.type "StopIteration")->E (.ref e) { s with heap:=h' }) :
  wpAny (model prog w) A (Builtin.«zip.__next__» ⟨[.ref z],[]⟩) Q E s:=by
 have hne:(#[Value.ref i1,Value.ref i2]).isEmpty=false:=rfl
 wp_walk using wpAny_field hz rfl rfl,wpAny_seqItems hTI rfl,wpAny_setField_rec hz
 case hk=>exact (by decide:(0:Nat)<5)
 intro h1 z1 s1;simp only [List.zipIdx_cons,List.zipIdx_nil,List.forIn_cons,List.forIn_nil];obtain ⟨d1,d2,d3,d4⟩:=D;refine wpAny_bind (wpAny_bind (wpAny_bind (wpAny_onRaise (?_:wpAny _ _ (Builtin.SmallTypes.nextOf (.ref i1) >>= λv=>pure (some v)) _ _ _))));refine wpAny_bind (L1.stop hh (L1.keep _ _ _ o1 λc hc o e=>s1.extBut c o (by rcases hc with rfl | rfl;exact d1.2.2.1.symm;exact d1.2.2.2.2.1.symm) e) hx λh2 e s2 ⟨o,e1,e2⟩=>?_);have z2:=s2 _ _ d1.2.2.1 z1;have ne:e≠z:=λq=>by
  rw [q,z2] at e1;cases e1;simp at e2
 refine wpAny_setField_rec z2 (by decide:(0:Nat)<5) λh3 _ s3=>hE h3 e (λc o n q=>?_) ⟨o,s3.extBut _ _ ne e1,e2⟩;simp only [List.mem_cons,List.not_mem_nil,or_false,not_or] at n;exact s3.extBut c o n.1 (s2 c o n.2.2.1 (s1.extBut c o n.1 q))
end
end L2
namespace L2
open PySem PySem.Spec PyProof.Rows
def SqB (t:Bool)(K:W.Frag)(H:Hp)(a:Addr)(xs:List V):Prop:=if t=true then SqT K H a xs else SqL K H a xs
def ItB (t:Bool)(it a:Addr)(k:Nat)(h:Heap):Prop:=if t=true then h.IsTupleIter it a k else h.IsListIter it a k
def OnB (t:Bool)(a:Addr)(xs:Array Value)(h:Heap):Prop:=if t=true then h.IsTuple a xs else h.IsList a xs
theorem Zc5 (t:Bool)(it l:Addr)(xs:Array Value)(hne:l≠it):Ln it l xs (λk h=>ItB t it l k h/\OnB t l xs h):=by
 cases t
 ·exact Zbq it l xs hne
 ·exact Zc3 it l xs hne
theorem ItB.keep {t:Bool}{it a:Addr}{k:Nat}{h h':Heap}(x:ItB t it a k h)(q:∀o,h.get? it=some o->h'.get? it=some o):ItB t it a k h':=by
 cases t
 ·exact Heap.IsListIter.at x q
 ·obtain ⟨o,e,r⟩:=x;exact ⟨o,q o e,r⟩
theorem ItB.obj {t:Bool}{it a:Addr}{k:Nat}{h:Heap}(x:ItB t it a k h):∃o,h.get? it=some o/\∀v,o.data≠.cell v:=by
 cases t <;> (obtain ⟨o,e,c,d⟩:=x;exact ⟨o,e,λv z=>by rw [d] at z;cases z⟩)
theorem OnB.lt {t:Bool}{a:Addr}{xs:Array Value}{h:Heap}(x:OnB t a xs h):a<h.objs.size:=by
 cases t <;> (obtain ⟨o,e,_⟩:=x;exact Heap.lt_size e)
theorem Inv.sqB {X:Cx}{qQ:List (Addr×Obj)}{σ:St}{H:Hp}{s:Shared}{t:Bool}{a:Addr}{xs:List V}(I:Inv X qQ σ H s)(h:SqB t X.K H a xs):∃its,Vals xs its/\OnB t a its.toArray s.heap:=by
 cases t
 ·obtain ⟨its,rv,p,_⟩:=I.list h;exact ⟨its,rv,p.isList⟩
 ·obtain ⟨its,rv,p,_⟩:=I.tuple h;exact ⟨its,rv,p⟩
theorem Inv.sqB_inj {X:Cx}{qQ:List (Addr×Obj)}{σ:St}{H:Hp}{s:Shared}{t:Bool}{a:Addr}{xs ys:List V}(I:Inv X qQ σ H s)(h:SqB t X.K H a xs)(h':SqB t X.K H a ys):xs=ys:=by
 cases t
 ·exact I.list_inj h h'
 ·exact I.tuple_inj h h'
section
variable {prog:Program}{w:World}{A:Around}{E:Value->Shared->Prop}{s:Shared}
theorem Zbs (t:Bool)(l1 l2:Addr)(xs ys:Array Value)(h1:OnB t l1 xs s.heap)(h2:OnB t l2 ys s.heap){R:PySem.Fin->Shared->Prop}(h:∀h',IsZip h' (s.heap.objs.size+4) (s.heap.objs.size+2) (s.heap.objs.size+3) .none->IsPair h' (s.heap.objs.size+2) (.ref s.heap.objs.size) (.ref (s.heap.objs.size+1))->IsPair h' (s.heap.objs.size+3) .none .none ->
   ItB t s.heap.objs.size l1 0 h'->ItB t (s.heap.objs.size+1) l2 0 h'->(∀c o,s.heap.get? c=some o->h'.get? c=some o)->R (.done (.ret (.ref (s.heap.objs.size+4)))) { s with heap:=h' }) :
  wpAny (model prog w) A (Builtin.«zip.__new__» ⟨[.type "zip", .ref l1,.ref l2],[]⟩) R E s:=by
 have hsub:=sub_zip;cases t
 ·have h1:s.heap.IsList l1 xs:=h1;have h2:∀o,Heap.IsList (Shared.heap { s with heap:=s.heap.push o }) l2 ys:=λo=>Heap.IsList.push h2 _
  wp_walk using wpAny_pyIter_list h1,wpAny_pyIter_list (h2 _)
  simp only [Heap.size_push];refine h _ ?_ ?_ ?_ ⟨_,Heap.get?_push_of_some _ (Heap.get?_push_of_some _ (Heap.get?_push_of_some _ (Heap.get?_push_of_some _ (Heap.get?_push_size _ rfl)))),rfl,rfl⟩ ⟨_,Heap.get?_push_of_some _ (Heap.get?_push_of_some _ (Heap.get?_push_of_some _ (Heap.get?_push_at (by simp only [Heap.size_push]) rfl))),rfl,rfl⟩ λc o q=>Heap.get?_push_of_some _ (Heap.get?_push_of_some _ (Heap.get?_push_of_some _ (Heap.get?_push_of_some _ (Heap.get?_push_of_some _ q))))
  ·exact Heap.get?_push_at (by simp only [Heap.size_push]) rfl
  ·exact Heap.get?_push_of_some _ (Heap.get?_push_of_some _ (Heap.get?_push_at (by simp only [Heap.size_push]) rfl))
  ·exact Heap.get?_push_of_some _ (Heap.get?_push_at (by simp only [Heap.size_push]) rfl)
 ·have h1:s.heap.IsTuple l1 xs:=h1;have h2:∀o,Heap.IsTuple (Shared.heap { s with heap:=s.heap.push o }) l2 ys:=λo=>by
   obtain ⟨o',e,r⟩:=h2;exact ⟨o',Heap.get?_push_of_some _ e,r⟩
  wp_walk using wpAny_pyIter_tuple h1,wpAny_pyIter_tuple (h2 _)
  simp only [Heap.size_push];refine h _ ?_ ?_ ?_ ⟨_,Heap.get?_push_of_some _ (Heap.get?_push_of_some _ (Heap.get?_push_of_some _ (Heap.get?_push_of_some _ (Heap.get?_push_size _ rfl)))),rfl,rfl⟩ ⟨_,Heap.get?_push_of_some _ (Heap.get?_push_of_some _ (Heap.get?_push_of_some _ (Heap.get?_push_at (by simp only [Heap.size_push]) rfl))),rfl,rfl⟩ λc o q=>Heap.get?_push_of_some _ (Heap.get?_push_of_some _ (Heap.get?_push_of_some _ (Heap.get?_push_of_some _ (Heap.get?_push_of_some _ q))))
  ·exact Heap.get?_push_at (by simp only [Heap.size_push]) rfl
  ·exact Heap.get?_push_of_some _ (Heap.get?_push_of_some _ (Heap.get?_push_at (by simp only [Heap.size_push]) rfl))
  ·exact Heap.get?_push_of_some _ (Heap.get?_push_at (by simp only [Heap.size_push]) rfl)
end
end L2
namespace L2
open PySem PySem.Spec PyProof.Rows
section
variable {prog:Program}{w:World}{A:Around}{E:Value->Shared->Prop}{s:Shared}
theorem Zbt {z TI TO i1 i2 l1 l2:Addr}{xs ys:Array Value}{O1 O2:Nat->Heap->Prop}{k:Nat}{a b x y:Value}{Q:Option Value->Shared->Prop}(D:ZA z TI TO i1 i2 l1 l2)(L1:Ln i1 l1 xs O1)(L2:Ln i2 l2 ys O2)(hz:IsZip s.heap z TI TO .none)(hTI:IsPair s.heap TI (.ref i1) (.ref i2))(hTO:IsPair s.heap TO a b)(o1:O1 k s.heap)(o2:O2 k s.heap)(hx:xs[k]?=some x)(hy:ys[k]?=some y)(hQ:∀h',IsZip h' z TI TO (rawInt s.heap.objs.size)->IsPair h' TO x y->O1 (k+1) h'->O2 (k+1) h'->IsPair h' s.heap.objs.size x y->h'.objs.size=s.heap.objs.size+1->(∀c o,c ∉ [z,TO,i1,i2]->s.heap.get? c=some o->h'.get? c=some o)->Q (some (.ref s.heap.objs.size)) { s with heap:=h' }) :
  wpAny (model prog w) A (pyNext (.ref z)) Q E s:=by
 have ty:s.TypeIs (.ref z) "zip" := ⟨_,hz,rfl⟩;refine wpAny_bind (wpAny_attempt (wpAny_callSpecial?_slot ty F.slot_zip_next (wpAny_call_entry F.slot_zip_next ty F.entry_zip_next (Zbr D L1 L2 hz hTI hTO o1 o2 hx hy ?_) (F.args_zip_next_1 _))));intro h' a1 a2 a3 a4 a5 a6 a7
 wp_walk
 exact hQ h' a1 a2 a3 a4 a5 a6 a7
theorem Zbu {z TI TO i1 i2 l1 l2:Addr}{xs:Array Value}{O1:Nat->Heap->Prop}{k:Nat}{a b:Value}{Q:Option Value->Shared->Prop}(hh:A.in1.handled=none)(D:ZA z TI TO i1 i2 l1 l2)(L1:Ln i1 l1 xs O1)(hz:IsZip s.heap z TI TO .none)(hTI:IsPair s.heap TI (.ref i1) (.ref i2))(hTO:IsPair s.heap TO a b)(o1:O1 k s.heap)(hx:xs[k]?=none)(hN:∀h',(∀c o,c ∉ [z,TO,i1,i2]->s.heap.get? c=some o->h'.get? c=some o)->Q none { s with heap:=h' }):wpAny (model prog w) A (pyNext (.ref z)) Q E s:=by
 have ty:s.TypeIs (.ref z) "zip" := ⟨_,hz,rfl⟩;refine wpAny_bind (wpAny_attempt (wpAny_callSpecial?_slot ty F.slot_zip_next (wpAny_call_entry F.slot_zip_next ty F.entry_zip_next (Zc4 hh D L1 hz hTI hTO o1 hx ?_) (F.args_zip_next_1 _))));rintro h' e a2 ⟨o',e1,e2⟩;exact wpAny_bind (wpAny_isInstance ⟨o',e1,e2⟩ isSubtype_stop (wpAny_pure (hN h' a2)))
theorem Yr {t:Bool}{l1 l2:Addr}{xs ys:Array Value}{Q:Value->Shared->Prop}(h1:OnB t l1 xs s.heap)(h2:OnB t l2 ys s.heap)(h:∀h',IsZip h' (s.heap.objs.size+4) (s.heap.objs.size+2) (s.heap.objs.size+3) .none->IsPair h' (s.heap.objs.size+2) (.ref s.heap.objs.size) (.ref (s.heap.objs.size+1))->IsPair h' (s.heap.objs.size+3) .none .none ->
   ItB t s.heap.objs.size l1 0 h'->ItB t (s.heap.objs.size+1) l2 0 h'->(∀c o,s.heap.get? c=some o->h'.get? c=some o)->Q (.ref (s.heap.objs.size+4)) { s with heap:=h' }) :
  wpAny (model prog w) A (call (.type "zip") [.ref l1,.ref l2]) Q E s:=by
 refine callType_new F.called_zip (by decide) (F.typeCall_zip_2 _ _) (F.newCall_zip_2 _ _) (λobj=>F.args_object_init_3 obj _ _) F.entry_zip_new
  (Meets.of_wp (S:=λ_ R s=>OnB t l1 xs s.heap/\OnB t l2 ys s.heap/\∀h',IsZip h' (s.heap.objs.size+4) (s.heap.objs.size+2) (s.heap.objs.size+3) .none->IsPair h' (s.heap.objs.size+2) (.ref s.heap.objs.size) (.ref (s.heap.objs.size+1))->IsPair h' (s.heap.objs.size+3) .none .none ->
   ItB t s.heap.objs.size l1 0 h'->ItB t (s.heap.objs.size+1) l2 0 h'->(∀c o,s.heap.get? c=some o->h'.get? c=some o)->R (.ok (.ret (.ref (s.heap.objs.size+4)))) { s with heap:=h' }) λprog w A R s h=>Zbs t l1 l2 xs ys h.1 h.2.1 λh' a b c d e f=>⟨_,rfl,h.2.2 h' a b c d e f⟩) ⟨h1,h2,?_⟩
 intro h' a b c d e f;exact ⟨⟨_,a,rfl⟩,h h' a b c d e f⟩
end
section
variable {X:Cx}
def Itz (t:Bool)(K:W.Frag)(a b:Addr):It:=
 ⟨λi H=>∃xs ys x y,SqB t K H a xs/\SqB t K H b ys/\xs[i]?=some x/\ys[i]?=some y,λi H v H'=>∃T x y,v=.ref T/\H T=none/\H'=upd H T (.tup [x,y])/\(∀xs,SqB t K H a xs->xs[i]?=some x)/\∀ys,SqB t K H b ys->ys[i]?=some y,
  λi H=>∃xs,SqB t K H a xs/\xs.length<=i⟩
theorem Ue {P:Program}{w:World}{K:W.Frag}{elts:List Expr}{k:Nat}{pos:Pos}{t:Bool}{a b z TI TO i1 i2:Addr}(D:ZA z TI TO i1 i2 a b) :
  Zg P w K (.Tuple elts k pos) (Itz t K a b) [z,TI,TO,i1,i2] z (λi h=>IsZip h z TI TO .none/\IsPair h TI (.ref i1) (.ref i2)/\(∃x y,IsPair h TO x y)/\ItB t i1 a i h/\ItB t i2 b i h) where
 mem:=by simp
 obj:=λi h ⟨st,s1,⟨_,_,s2⟩,s3,s4⟩ c hc=>by
  simp only [List.mem_cons,List.not_mem_nil,or_false] at hc;rcases hc with rfl | rfl | rfl | rfl | rfl
  ·exact ⟨_,st,λv=>nofun⟩
  ·exact ⟨_,s1,λv=>nofun⟩
  ·exact ⟨_,s2,λv=>nofun⟩
  ·exact s3.obj
  ·exact s4.obj
 keep:=λi h h' ⟨st,s1,⟨x,y,s2⟩,s3,s4⟩ q=>⟨q z (by simp) _ st,q TI (by simp) _ s1,⟨x,y,q TO (by simp) _ s2⟩,s3.keep (q i1 (by simp)),s4.keep (q i2 (by simp))⟩
 item:=by
  intro X hP hw hK hc i qQ s σ H E I hf ⟨st,s1,⟨p,q,s2⟩,s3,s4⟩ hg;subst hP hw hK;obtain ⟨xs,ys,x,y,q1,q2,hx,hy⟩:=hg;obtain ⟨us,ru,o1⟩:=I.sqB q1;obtain ⟨vs,rv,o2⟩:=I.sqB q2;obtain ⟨u,hu,rx⟩:=ru.get hx;obtain ⟨v,hv,ry⟩:=rv.get hy;obtain ⟨d1,d2,d3,d4⟩:=id D;refine Zbt D (Zc5 t i1 a us.toArray d3.2.2.1.symm) (Zc5 t i2 b vs.toArray d4.2.2.symm) st s1 s2 ⟨s3,o1⟩ ⟨s4,o2⟩ (by simpa using hu) (by simpa using hv) λh1 z1 t1 p1 p2 pr sz kp=>?_;refine ⟨_,rfl,wpAny_letOwnedTupleGo_zip (s:={ s with heap:=h1 }) z1 λh2 z2 sb=>?_⟩;have sb:Heap.SameBut z h1 h2:=sb;have hfr:H s.heap.objs.size=none:=I.fresh;have kk:∀c o,c ∉ [z,TI,TO,i1,i2]->s.heap.get? c=some o->h2.get? c=some o:=λc o hc e=>by
   simp only [List.mem_cons,List.not_mem_nil,or_false,not_or] at hc;exact (sb.2 c hc.1).trans (kp c o (by simp [hc]) e)
  have nT:∀c o,s.heap.get? c=some o->c≠s.heap.objs.size:=λc o e=>Nat.ne_of_lt (Heap.lt_size e);have trk:∀c u,H c=some u->c ∉ [z,TI,TO,i1,i2]:=λc u e m=>by rw [(hf c m).1] at e;cases e
  have hzl:s.heap.objs.size≠z:=(nT z _ st).symm;refine ⟨.ref s.heap.objs.size,upd H s.heap.objs.size (.tup [x,y]),I.call' (ch:=[z,TI,TO,i1,i2]) rfl ⟨λc o e _ _ hb=>kk c o hb e,λc o e _ _ hb=>⟨o.slots,kk c o hb e⟩,λc o e n _=>by rw [Gu (nT c o e)];exact n,
   λc o e hb=>⟨o,kk c o hb e⟩,λc ys e=>by rw [Gu (Gn e hfr)];exact e,λc o u e=>by rw [Gu (Gn e hfr)];exact e,λc ps e=>⟨#[],by rw [Gu (Gn e hfr),e];simp⟩⟩ (λc v' e=>?_) I.bare (λc hb=>?_),
   rfl,⟨_,x,y,rfl,hfr,rfl,λxs' h'=>by rw [I.sqB_inj h' q1];exact hx,λys' h'=>by rw [I.sqB_inj h' q2];exact hy⟩,⟨z2,?_,⟨u,v,(sb.2 _ d1.2.1.symm).trans t1⟩,p1.1.keep λo e=>(sb.2 _ d1.2.2.1.symm).trans e,p2.1.keep λo e=>(sb.2 _ d1.2.2.2.1.symm).trans e⟩,λc hb=>?_⟩
  ·by_cases hb:c=s.heap.objs.size
   ·subst hb;rw [Gb] at e;cases e;exact ⟨by rw [sizeLine_eq];show 2<=16777216;decide,[u,v],.cons rx (.cons ry .nil),⟨_,(sb.2 _ hzl).trans pr,rfl,_,rfl⟩⟩
   ·rw [Gu hb] at e;refine (I.hok c v' e).stay (λc v' hc z=>kk c v' ?_ z) (λc z=>by rw [Gu (Gn z hfr)];exact z) λc ys z=>by rw [Gu (Gn z hfr)];exact z
    rcases hc with rfl | hc
    ·exact trk _ _ e
    ·exact trk _ _ hc
  ·obtain ⟨f0,f1,f2,f3,f4,f5⟩:=hf c hb;exact ⟨f3,f1,f4,f5⟩
  ·exact (sb.2 _ d1.1.symm).trans (kp _ _ (by simp only [List.mem_cons,List.not_mem_nil,or_false,not_or];exact ⟨d1.1.symm,d2.1.symm,d3.1.symm,d4.1.symm⟩) s1)
  ·have ho:∃o,s.heap.get? c=some o:=by
    simp only [List.mem_cons,List.not_mem_nil,or_false] at hb;rcases hb with rfl | rfl | rfl | rfl | rfl
    ·exact ⟨_,st⟩
    ·exact ⟨_,s1⟩
    ·exact ⟨_,s2⟩
    ·exact s3.obj.imp λ_ z=>z.1
    ·exact s4.obj.imp λ_ z=>z.1
   obtain ⟨o,ho⟩:=ho;rw [Gu (nT c o ho)];exact (hf c hb).1
 done:=by
  intro X hP hw hK hc i qQ s σ H E I hf ⟨st,s1,⟨p,q,s2⟩,s3,s4⟩ hg;subst hP hw hK;obtain ⟨xs,q1,hx⟩:=hg;obtain ⟨us,ru,o1⟩:=I.sqB q1;obtain ⟨d1,d2,d3,d4⟩:=id D;have hl:=ru.length;have hh:X.A.in1.handled=none:=I.ok.hd hc;refine Zbu hh D (Zc5 t i1 a us.toArray d3.2.2.1.symm) st s1 s2 ⟨s3,o1⟩ (by simp;lia) λh' kp=>⟨rfl,?_⟩;have kk:∀c o,c ∉ [z,TI,TO,i1,i2]->s.heap.get? c=some o->h'.get? c=some o:=λc o hc e=>kp c o (λm=>hc (by simp only [List.mem_cons,List.not_mem_nil,or_false] at m ⊢;rcases m with m | m | m | m <;> simp [m])) e;have trk:∀c u,H c=some u->c ∉ [z,TI,TO,i1,i2]:=λc u e m=>by rw [(hf c m).1] at e;cases e
  refine I.call' (ch:=[z,TI,TO,i1,i2]) rfl ⟨λc o e _ _ hb=>kk c o hb e,λc o e _ _ hb=>⟨o.slots,kk c o hb e⟩,λc o e n _=>n,λc o e hb=>⟨o,kk c o hb e⟩,λc ys e=>e,λc o u e=>e,λc ps e=>⟨#[],by rw [e];simp⟩⟩ (λc v' e=>?_) I.bare (λc hb=>?_)
  ·refine (I.hok c v' e).stay (λc v' hc z=>kk c v' ?_ z) (λ_ z=>z) λ_ _ z=>z;rcases hc with rfl | hc
   ·exact trk _ _ e
   ·exact trk _ _ hc
  ·obtain ⟨f0,f1,f2,f3,f4,f5⟩:=hf c hb;exact ⟨f3,f1,f4,f5⟩
 self:=λ_ _ _ _ _ ⟨hz,_⟩ h=>wpAny_pyIter_zip hz h
end
end L2
namespace L2
open PySem PySem.Spec PyProof.Rows
section
variable {prog:Program}{w:World}{A:Around}{E:Value->Shared->Prop}{s:Shared}
theorem ZT {z TI TO i1 i2 l1 l2:Addr}{xs ys:Array Value}{O1 O2:Nat->Heap->Prop}{k:Nat}{a b x:Value}{Q:PySem.Fin->Shared->Prop}(hh:A.handled=none)(D:ZA z TI TO i1 i2 l1 l2)(L1:Ln i1 l1 xs O1)(L2:Ln i2 l2 ys O2)(hz:IsZip s.heap z TI TO .none)(hTI:IsPair s.heap TI (.ref i1) (.ref i2))(hTO:IsPair s.heap TO a b)(o1:O1 k s.heap)(o2:O2 k s.heap)(hx:xs[k]?=some x)(hy:ys[k]?=none)(hE:∀h' e,(∀c o,c ∉ [z,TO,i1,i2]->s.heap.get? c=some o->h'.get? c=some o)->(∃o,h'.get? e=some o/\o.cls=.type "StopIteration")->E (.ref e) { s with heap:=h' }) :
  wpAny (model prog w) A (Builtin.«zip.__next__» ⟨[.ref z],[]⟩) Q E s:=by
 have hne:(#[Value.ref i1,Value.ref i2]).isEmpty=false:=rfl
 wp_walk using wpAny_field hz rfl rfl,wpAny_seqItems hTI rfl,wpAny_setField_rec hz
 case hk=>exact (by decide:(0:Nat)<5)
 intro h1 z1 s1;simp only [List.zipIdx_cons,List.zipIdx_nil,List.forIn_cons,List.forIn_nil];obtain ⟨d1,d2,d3,d4⟩:=D;refine wpAny_bind (wpAny_bind (wpAny_bind (wpAny_onRaise (?_:wpAny _ _ (Builtin.SmallTypes.nextOf (.ref i1) >>= λv=>pure (some v)) _ _ _))));refine wpAny_bind (L1.item (L1.keep _ _ _ o1 λc hc o e=>s1.extBut c o (by rcases hc with rfl | rfl;exact d1.2.2.1.symm;exact d1.2.2.2.2.1.symm) e) hx λh2 o12 s2=>?_);have t2:IsPair h2 TO a b:=s2.extBut _ _ d2.2.1 (s1.extBut _ _ d1.2.1.symm hTO);refine wpAny_pure (wpAny_bind (wpAny_seqItems t2 rfl (wpAny_bind (wpAny_updateSeq t2 rfl (wpAny_bind (wpAny_letGo (wpAny_pure (?_))))))));have B3:Heap.SameBut TO h2 (h2.update TO (Obj.mapSeq λv=>v.setIfInBounds 0 x)):=Heap.SameBut.update ..;show wpAny _ _ (_ >>= _) _ _ { s with heap:=h2.update TO (Obj.mapSeq λv=>v.setIfInBounds 0 x) };generalize h2.update TO (Obj.mapSeq λv=>v.setIfInBounds 0 x)=h3 at B3 ⊢;have S3:∀c o,c≠z->c≠TO->c≠i1->s.heap.get? c=some o->h3.get? c=some o:=λc o n1 n2 n3 e=>B3.extBut c o n2 (s2.extBut c o n3 (s1.extBut c o n1 e));have z3:IsZip h3 z TI TO .ellipsis:=B3.extBut _ _ d1.2.1 (s2.extBut _ _ d1.2.2.1 z1);refine wpAny_bind (wpAny_bind (wpAny_onRaise (?_:wpAny _ _ (Builtin.SmallTypes.nextOf (.ref i2) >>= λv=>pure (some v)) _ _ _)));refine wpAny_bind (L2.stop hh (L2.keep _ _ _ o2 λc hc o e=>S3 c o (by rcases hc with rfl | rfl;exact d1.2.2.2.1.symm;exact d1.2.2.2.2.2.symm) (by rcases hc with rfl | rfl;exact d2.2.2.1.symm;exact d2.2.2.2.2.symm) (by rcases hc with rfl | rfl;exact d3.2.1.symm;exact d3.2.2.2.symm) e) hy λh4 e s4 ⟨o,e1,e2⟩=>?_);have z4:=s4 _ _ d1.2.2.2.1 z3;have ne:e≠z:=λq=>by
  rw [q,z4] at e1;cases e1;simp at e2
 refine wpAny_setField_rec z4 (by decide:(0:Nat)<5) λh5 _ s5=>hE h5 e (λc o n q=>?_) ⟨o,s5.extBut _ _ ne e1,e2⟩;simp only [List.mem_cons,List.not_mem_nil,or_false,not_or] at n;exact s5.extBut c o n.1 (s4 c o n.2.2.2 (S3 c o n.1 n.2.1 n.2.2.1 q))
theorem ZU {z TI TO i1 i2 l1 l2:Addr}{xs ys:Array Value}{O1 O2:Nat->Heap->Prop}{k:Nat}{a b x:Value}{Q:Option Value->Shared->Prop}(hh:A.in1.handled=none)(D:ZA z TI TO i1 i2 l1 l2)(L1:Ln i1 l1 xs O1)(L2:Ln i2 l2 ys O2)(hz:IsZip s.heap z TI TO .none)(hTI:IsPair s.heap TI (.ref i1) (.ref i2))(hTO:IsPair s.heap TO a b)(o1:O1 k s.heap)(o2:O2 k s.heap)(hx:xs[k]?=some x)(hy:ys[k]?=none)(hN:∀h',(∀c o,c ∉ [z,TO,i1,i2]->s.heap.get? c=some o->h'.get? c=some o)->Q none { s with heap:=h' }):wpAny (model prog w) A (pyNext (.ref z)) Q E s:=by
 have ty:s.TypeIs (.ref z) "zip" := ⟨_,hz,rfl⟩;refine wpAny_bind (wpAny_attempt (wpAny_callSpecial?_slot ty F.slot_zip_next (wpAny_call_entry F.slot_zip_next ty F.entry_zip_next (ZT hh D L1 L2 hz hTI hTO o1 o2 hx hy ?_) (F.args_zip_next_1 _))));rintro h' e a2 ⟨o',e1,e2⟩;exact wpAny_bind (wpAny_isInstance ⟨o',e1,e2⟩ isSubtype_stop (wpAny_pure (hN h' a2)))
end
section
variable {X:Cx}
def Itw (t:Bool)(K:W.Frag)(a b:Addr):It:=
 ⟨(Itz t K a b).go,(Itz t K a b).yld,λi H=>∃xs ys x,SqB t K H a xs/\SqB t K H b ys/\xs[i]?=some x/\ys[i]?=none⟩
theorem Ys {P:Program}{w:World}{K:W.Frag}{elts:List Expr}{k:Nat}{pos:Pos}{t:Bool}{a b z TI TO i1 i2:Addr}(D:ZA z TI TO i1 i2 a b) :
  Zg P w K (.Tuple elts k pos) (Itw t K a b) [z,TI,TO,i1,i2] z (λi h=>IsZip h z TI TO .none/\IsPair h TI (.ref i1) (.ref i2)/\(∃x y,IsPair h TO x y)/\ItB t i1 a i h/\ItB t i2 b i h) where
 mem:=(Ue (P:=P) (w:=w) (K:=K) (elts:=elts) (k:=k) (pos:=pos) (t:=t) D).mem
 obj:=(Ue (P:=P) (w:=w) (K:=K) (elts:=elts) (k:=k) (pos:=pos) (t:=t) D).obj
 keep:=(Ue (P:=P) (w:=w) (K:=K) (elts:=elts) (k:=k) (pos:=pos) (t:=t) D).keep
 item:=(Ue (P:=P) (w:=w) (K:=K) (elts:=elts) (k:=k) (pos:=pos) (t:=t) D).item
 done:=by
  intro X hP hw hK hc i qQ s σ H E I hf ⟨st,s1,⟨p,q,s2⟩,s3,s4⟩ hg;subst hP hw hK;obtain ⟨xs,ys,x,q1,q2,hx,hy⟩:=hg;obtain ⟨us,ru,o1⟩:=I.sqB q1;obtain ⟨vs,rv,o2⟩:=I.sqB q2;obtain ⟨u,hu,rx⟩:=ru.get hx;obtain ⟨d1,d2,d3,d4⟩:=id D;have hl:=rv.length;have hyl:=List.getElem?_eq_none_iff.mp hy;have hh:X.A.in1.handled=none:=I.ok.hd hc;refine ZU hh D (Zc5 t i1 a us.toArray d3.2.2.1.symm) (Zc5 t i2 b vs.toArray d4.2.2.symm) st s1 s2 ⟨s3,o1⟩ ⟨s4,o2⟩ (by simpa using hu) (by simp;lia) λh' kp=>⟨rfl,?_⟩;have kk:∀c o,c ∉ [z,TI,TO,i1,i2]->s.heap.get? c=some o->h'.get? c=some o:=λc o hc e=>kp c o (λm=>hc (by simp only [List.mem_cons,List.not_mem_nil,or_false] at m ⊢;rcases m with m | m | m | m <;> simp [m])) e;have trk:∀c u,H c=some u->c ∉ [z,TI,TO,i1,i2]:=λc u e m=>by rw [(hf c m).1] at e;cases e
  refine I.call' (ch:=[z,TI,TO,i1,i2]) rfl ⟨λc o e _ _ hb=>kk c o hb e,λc o e _ _ hb=>⟨o.slots,kk c o hb e⟩,λc o e n _=>n,λc o e hb=>⟨o,kk c o hb e⟩,λc ys e=>e,λc o u e=>e,λc ps e=>⟨#[],by rw [e];simp⟩⟩ (λc v' e=>?_) I.bare (λc hb=>?_)
  ·refine (I.hok c v' e).stay (λc v' hc z=>kk c v' ?_ z) (λ_ z=>z) λ_ _ z=>z;rcases hc with rfl | hc
   ·exact trk _ _ e
   ·exact trk _ _ hc
  ·obtain ⟨f0,f1,f2,f3,f4,f5⟩:=hf c hb;exact ⟨f3,f1,f4,f5⟩
 self:=λ_ _ _ _ _ ⟨hz,_⟩ h=>wpAny_pyIter_zip hz h
def ZeK (t:Bool)(K:W.Frag)(ta:TA):TI:=λσ H R=>ta σ H λvs H1=>∃a b xs ys,vs=[.ref a,.ref b]/\SqB t K H1 a xs/\SqB t K H1 b ys/\R (Itw t K a b) H1
theorem ZeL (t:Bool)(K:W.Frag){elts:List Expr}{k:Nat}{p0:Pos}{l m:Expr}{ta:TA}{p pos:Pos}(hg:Gl X "zip")(hm:X.mg "zip" = none)(ha:PA X [l,m] ta)(h:X.K=K:=by rfl)(hs:starEach [l,m] X.env=(false,eval l X.env)::starEach [m] X.env:=by rfl)(hp:(backTo pos (starEach [m] X.env)).any (·.1)=false:=by rfl) :
  PI X (.Tuple elts k p0) (.Call (.Name "zip" p) [l,m] [] pos) (ZeK t K ta):=by
 subst h;intro qQ s σ H R I h;refine wpAny_Call_Name_kw (Ob I hg hm VI (PyProof.Rows.callWith_type1 (thn (ha pos qQ s σ H _ I h) λus s1 ⟨vs,H1,I1,r1,q1⟩=>?_) hs hp) (by decide) (by decide));obtain ⟨a,b,xs,ys,rfl,hq1,hq2,q⟩:=q1;obtain ⟨u1,u2,rfl,ru1,ru2⟩:=r1.two;cases ru1;cases ru2;obtain ⟨its,rv,o1⟩:=I1.sqB hq1;obtain ⟨its',rv',o2⟩:=I1.sqB hq2;have la:=o1.lt;have lb:=o2.lt;refine Yr o1 o2 λh' z1 z2 z3 z4 z5 kp=>wpAny_pyIter_zip z1 ?_;refine ⟨s1.heap.objs.size+4,[s1.heap.objs.size+4,s1.heap.objs.size+2,s1.heap.objs.size+3,s1.heap.objs.size,s1.heap.objs.size+1],_,_,H1,rfl,I1.kept (t':=s1.toks) kp,Ys (t:=t) (a:=a) (b:=b) ⟨?_,?_,?_,?_⟩,⟨z1,z2,⟨_,_,z3⟩,z4,z5⟩,λc hc=>?_,q⟩
 iterate 4 (refine ⟨?_,?_⟩ <;> first | lia | (refine ⟨?_,?_⟩ <;> first | lia | (refine ⟨?_,?_⟩ <;> first | lia | (refine ⟨?_,?_⟩ <;> first | lia | (refine ⟨?_,?_⟩ <;> lia)))))
 have e:s1.heap.objs.size<=c:=by
  simp only [List.mem_cons,List.not_mem_nil,or_false] at hc
  lia
 exact I1.fpOk e (I1.hok.fresh e)
theorem Yt {t:Bool}{K:PySem.W.Frag}{a b D:Addr}{xs ys:List V}{g:TG}{tc:TT}{te:TE}{σ0:St}{R:Hp->Prop}{H1:Hp}(Pv:Nat->List V->Hp->Prop)(h0:Pv 0 [] (upd H1 D (.lst [])))(hl:∀i zs H,i<=ys.length->Pv i zs H->SqB t K H a xs/\SqB t K H b ys)(hn:xs.length=ys.length+1)(hs:∀i x y zs H T,xs[i]?=some x->ys[i]?=some y->Pv i zs H->H T=none->g (.ref T) σ0 (upd H T (.tup [x,y])) λσ4 H4=>OJ σ0 σ4/\tc σ4 H4 λb H5=>if b=true then te σ4 H5 λy H6=>H6 D=some (.lst zs)/\zs.length<sizeLine/\Pv (i+1) (zs++[y]) (upd H6 D (.lst (zs++[y]))) else Pv (i+1) zs H5)(hd:∀zs H,Pv ys.length zs H->R H):∃W:Nat->Nat->List V->Hp->Prop,(∃m,W 0 m [] (upd H1 D (.lst [])))/\JO (Itw t K a b) D g tc te σ0 W R:=by
 refine ⟨λi m zs H=>m=ys.length-i/\i<=ys.length/\Pv i zs H,⟨_,rfl,Nat.zero_le _,h0⟩,?_⟩;rintro i m zs H ⟨rfl,hi,p⟩;obtain ⟨q1,q2⟩:=hl i zs H hi p;by_cases hlt:i<ys.length
 ·refine .inr ⟨⟨xs,ys,xs[i],ys[i],q1,q2,by simp,by simp [hlt]⟩,Pv (i+1),λys' H' p'=>⟨ys.length-(i+1),by lia,rfl,hlt,p'⟩,λv H' y=>?_⟩;obtain ⟨T,x,y,rfl,hT,rfl,y1,y2⟩:=y;exact hs i x y zs H T (y1 xs q1) (y2 ys q2) p hT
 ·have e:i=ys.length:=by lia
  subst e;exact .inl ⟨⟨xs,ys,xs[ys.length],q1,q2,by simp [hn],by simp⟩,hd zs H p⟩
end
end L2
namespace M
open PySem L2
def top (i:Nat):Stmt:=PySem.Challenge.pw_onceways_k78_whole_wishes_of_ways.main.body.getD i (.Pass ⟨0,0,0,0⟩)
abbrev ZaE:Stmt:=top 7
abbrev Zbv:Stmt:=top 8
abbrev Zbw:Stmt:=top 9
abbrev sIs:Stmt:=top 11
abbrev Zbx:Stmt:=top 12
abbrev Zby:Stmt:=top 13
abbrev Zbz:Stmt:=top 14
abbrev ZV:Stmt:=top 16
abbrev ZW:Stmt:=top 17
abbrev ZaF:Stmt:=top 18
abbrev ZX:Stmt:=top 19
abbrev ZbA:Stmt:=top 20
abbrev ZbB:Stmt:=top 21
abbrev Wa:Stmt:=top 22
abbrev ZY:Stmt:=top 23
abbrev ZZ:Stmt:=top 24
abbrev ZaG:Stmt:=top 25
abbrev Z0:Stmt:=top 26
abbrev ZbC:Stmt:=top 27
abbrev ZbD:Stmt:=top 31
abbrev ZbE:Stmt:=top 32
abbrev Zcb:Stmt:=top 33
abbrev Zcc:Stmt:=top 34
abbrev Zcd:Stmt:=top 35
abbrev Zce:Stmt:=top 36
abbrev Zcf:Stmt:=top 37
abbrev Zcg:Stmt:=top 38
abbrev Zch:Stmt:=top 39
abbrev Zci:Stmt:=top 40
abbrev Zcj:Stmt:=top 41
abbrev Zck:Stmt:=top 43
abbrev ZaH:Stmt:=top 44
abbrev ZbF:Stmt:=top 46
abbrev ZaI:Stmt:=top 47
abbrev ZbG:Stmt:=top 48
abbrev ZbH:Stmt:=top 49
abbrev ZaJ:Stmt:=top 50
abbrev ZbI:Stmt:=top 51
abbrev ZbJ:Stmt:=top 52
abbrev ZbK:Stmt:=top 53
abbrev ZbL:Stmt:=top 54
abbrev ZbM:Stmt:=top 55
abbrev ZbN:Stmt:=top 56
abbrev Z1:Stmt:=top 57
end M
namespace M
open PySem L2
theorem Jr:2<=sizeLine:=by decide
theorem Z2 (p:Int):∀ms:List Int,inV (.int p) (ms.map V.int)=decide (p∈ms):=by
 intro ms;unfold inV
 induction ms with
 | nil=>rfl
 | cons m ms ih=>
  rw [List.map_cons,List.any_cons,ih];by_cases h1:p=m <;> by_cases h2:p∈ms <;> simp [eqV,h1,h2] <;> (try lia) <;> (try (intro z;exact h1 z.symm))
theorem Yu (ms:List Int):(ms.map V.int).all UL=true:=by
 rw [List.all_map];exact List.all_eq_true.mpr λ_ _=>rfl
section
variable {P:Program}{w:World}{K:W.Frag}{mg:Str->Option Value}{base:Heap}
theorem OO:bootBuiltins "max" = some (.builtin "max"):=by first | rfl | decide +kernel
structure WebAt (H:Hp)(wb l:Addr)(k:Int)(xs:List V)(rs:List (Int×Int)):Prop where
 w:H wb=some (.tup [.int k,.ref l])
 l:H l=some (.lst xs)
 p:Prs H xs rs
theorem WebAt.same {H H':Hp}{wb l:Addr}{k:Int}{xs:List V}{rs:List (Int×Int)}(h:WebAt H wb l k xs rs)(s:Same H H'):WebAt H' wb l k xs rs:=⟨s _ _ h.w,s _ _ h.l,h.p.same s⟩
def Oc (rs:List (Int×Int))(p q:Int):Nat->Option V
 | 0=>none
 | i+1=>if rs.getD i (0,0)=(p,q)\/rs.getD i (0,0)=(q,p) then some (.int (i:Nat)) else Oc rs p q i
def ky (p q:Int):List Key:=[.inl p,.inl q]
theorem ky_inj {p q a b:Int}:ky p q=ky a b↔p=a/\q=b:=by
 unfold ky;constructor
 ·intro h;injection h with h1 h2
  injection h2 with h2 _
  exact ⟨Sum.inl.inj h1,Sum.inl.inj h2⟩
 ·rintro ⟨rfl,rfl⟩;rfl
def ZbO:Sp:=λvs H Q _=>∃(wb l:Addr)(k:Int)(xs:List V)(rs:List (Int×Int)),vs=[.ref wb]/\WebAt H wb l k xs rs/\xs.length<=30 /\
 ∀(d:Addr)(H':Hp)(kvs:List (List Key×V)),Same H H'->H d=none->H' d=some (.dT kvs)->(∀p q,OT kvs (ky p q)=Oc rs p q rs.length)->Q (.ref d) H'
theorem scNbs:Gv ["web", "numbers", "number", "road"] ["web"] (Gg ZW):=⟨rfl,rfl,rfl,by decide +kernel,rfl,by decide +kernel,by decide +kernel⟩
theorem ZaK {f:Addr}{fd:FuncData}(F:Fun K "numbers_by_step" "numbers_by_step" ZW f fd)(mEnum:mg "enumerate" = none):GS P w K mg base CX0 1 f fd ["web"] ZbO:=by
 refine F.ok scNbs (λvs H Q E h=>?_) (λcdv A outer s H vs Q E hr h=>?_)
 ·obtain ⟨_,_,_,_,_,rfl,_⟩:=h
  rfl
 ·obtain ⟨wb,l,k,xs,rs,rfl,W,hx,q⟩:=h;have hu1:(A.deeper (PyProof.Rows.envOfC "numbers_by_step" (Gg ZW) s.heap.objs.size f cdv)).units+1<cLine:=by have:=hr.un;lia
  have h16:(16777216:Nat)=sizeLine:=sizeLine_eq.symm;refine ⟨_,Gh (GE (i:=1) scNbs.nd rfl (Or.inl rfl) WE)
    (Gh (J1 PassesOwn.never rfl (Zbc K rfl mEnum (Ga (Gj (Je K) (pv 0) Gc (λ_ _=>rfl)) Gf)) (Zaz K (n:=2) rfl (G7 (Gy (i:=2) scNbs.nd rfl (Or.inl rfl)) (G7 (Gy (i:=3) scNbs.nd rfl (Or.inl rfl)) Of)))
    (Gh (V5 hu1 (pv 1) (pv 3) (pv 2) rfl)
    (Gi (V5 hu1 (pv 1) (Jf (Ga (Gj (Je K) (pv 3) Gc (λ_ _=>rfl)) (Ga (Gj (Je K) (pv 3) Gc (λ_ _=>rfl)) Gf))) (pv 2) rfl))))
    (Gi (Gw (pv 1)))),?_⟩
  refine λd hd=>?_;have s1:Same H (upd H d (.dT [])):=Same.new hd;refine ⟨_,rfl,wb,_,_,_,rfl,rfl,SqT.of (s1 _ _ W.w),Ge (j:=1) rfl,l,xs,rfl,SqL.of (s1 _ _ W.l),?_⟩;refine ZE (K:=K) (a:=l) (xs:=xs) (λi σ H2=>∃(v2 v3:Option V)(kvs:List (List Key×V)),σ=[some (.ref wb),some (.ref d),v2,v3]/\Same H H2/\H2 d=some (.dT kvs)/\kvs.length<=2 * i/\∀p q,OT kvs (ky p q)=Oc rs p q i)
   ⟨none,none,[],rfl,s1,Gb,Nat.zero_le _,λ_ _=>rfl⟩ (λi σ H2 _ ⟨_,_,_,_,s2,_⟩=>SqL.of (s2 _ _ W.l)) ?_ ?_
  ·rintro i x σ H2 T hxi ⟨v2,v3,kvs,rfl,s2,e2,len,val⟩ hT;obtain ⟨t,r,rfl,et,er⟩:=(W.same s2).p.get hxi;have hi:i<xs.length:=(List.getElem?_eq_some_iff.mp hxi).1;have s3:Same H (upd H2 T (.tup [.int (i:Nat),.ref t])):=s2.put (s2.free hT);have s23:Same H2 (upd H2 T (.tup [.int (i:Nat),.ref t])):=Same.new hT;have hdT:d≠T:=Gn e2 hT;refine ⟨T,_,rfl,SqT.of Gb,rfl,_,_,rfl,_,_,rfl,rfl,?_⟩;refine ⟨_,rfl,_,rfl,_,rfl,d,_,rfl,DPut.t (k:=ky r.1 r.2) (G0 e2 hdT) (s23 _ _ et) (by lia),?_⟩;have s4:=s3.put (o:=.dT (VY kvs (ky r.1 r.2) (.int (i:Nat)))) hd;have et4:upd (upd H2 T (.tup [.int (i:Nat),.ref t])) d (.dT (VY kvs (ky r.1 r.2) (.int (i:Nat)))) t=some (.tup [.int r.1,.int r.2]):=G0 (s23 _ _ et) (W6 (s23 _ _ et) (G0 e2 hdT) (λz=>by cases z));have hl1:=JQ kvs (ky r.1 r.2) (.int (i:Nat));refine ⟨_,rfl,_,rfl,_,rfl,t,_,_,_,rfl,rfl,SqT.of et4,Ge (j:=1) rfl,_,rfl,t,_,_,_,rfl,rfl,SqT.of et4,Ge (j:=0) rfl,(by show 2<=sizeLine;decide),λu hu=>?_⟩;have hdu:d≠u:=λz=>by rw [<-z,Gb] at hu;cases hu
   refine ⟨d,_,rfl,DPut.t (k:=ky r.2 r.1) (G0 Gb hdu) Gb (by lia),?_⟩;refine ⟨_,_,_,rfl,((s4.put (s4.free hu)).put hd),Gb,?_,λp q=>?_⟩
   ·have:=JQ (VY kvs (ky r.1 r.2) (.int (i:Nat))) (ky r.2 r.1) (.int (i:Nat))
    lia
   ·rw [U8,U8,val p q];have e:rs.getD i (0,0)=r:=by rw [List.getD_eq_getElem?_getD,er];rfl
    show _=if rs.getD i (0,0)=(p,q)\/rs.getD i (0,0)=(q,p) then some (V.int (i:Nat)) else Oc rs p q i
    rw [e];obtain ⟨r1,r2⟩:=r;by_cases h1:p=r2/\q=r1
    ·rw [if_pos (ky_inj.mpr h1),if_pos (.inr (by rw [h1.1,h1.2]))]
    ·rw [if_neg λz=>h1 (ky_inj.mp z)];by_cases h2:p=r1/\q=r2
     ·rw [if_pos (ky_inj.mpr h2),if_pos (.inl (by rw [h2.1,h2.2]))]
     ·rw [if_neg λz=>h2 (ky_inj.mp z),if_neg];rintro (z | z)
      ·injection z with z1 z2
       exact h2 ⟨z1.symm,z2.symm⟩
      ·injection z with z1 z2
       exact h1 ⟨z2.symm,z1.symm⟩
  ·rintro σ H2 ⟨v2,v3,kvs,rfl,s2,e2,len,val⟩;rw [W.p.len] at val;exact ⟨_,rfl,q d H2 kvs s2 hd e2 val⟩
def Gm (ns:List Int)(c:Bool):List (Int×Int):=ns.zip (ns.drop 1)++(if c=true then [(ns.getD (ns.length-1) 0,ns.getD 0 0)] else [])
def ZbP:Sp:=λvs H Q _=>∃(pl:Addr)(ns:List Int)(c:Bool),vs=[.ref pl,.bl c]/\H pl=some (.lst (ns.map V.int))/\ns.length<=100/\(c=true->ns≠[]) /\
 ∀(S:Addr)(ws:List V)(H':Hp),Same H H'->H S=none->H' S=some (.lst ws)->Prs H' ws (Gm ns c)->Q (.ref S) H'
theorem scSte:Gv ["places", "closed", "steps"] ["places", "closed"] (Gg ZaF):=⟨rfl,rfl,rfl,by decide +kernel,rfl,by decide +kernel,by decide +kernel⟩
theorem JR {ns:List Int}(h:ns≠[]):atI (ns.map V.int) (-1)=some (.int (ns.getD (ns.length-1) 0)):=by
 have hp:0<ns.length:=List.length_pos_iff.mpr h;have e:ixN (ns.map V.int).length (-1)=some (ns.length-1):=by
  unfold ixN;rw [if_neg (by decide),List.length_map,if_pos (by lia)]
  congr 1
  lia
 unfold atI;rw [e];show (ns.map V.int)[ns.length-1]?=_;rw [List.getElem?_map,List.getElem?_eq_getElem (show ns.length-1<ns.length by lia),List.getD_eq_getElem?_getD,List.getElem?_eq_getElem (show ns.length-1<ns.length by lia)]
 rfl
theorem Oi {ns:List Int}{i:Int}(h0:0<=i)(h1:i<ns.length):atI (ns.map V.int) i=some (.int (ns.getD i.toNat 0)):=by
 obtain ⟨k,rfl⟩:=Int.eq_ofNat_of_zero_le h0;have hk:k<ns.length:=by lia
 refine Ge ?_;show (ns.map V.int)[k]?=some (.int (ns.getD k 0));rw [List.getElem?_map,List.getD_eq_getElem?_getD,List.getElem?_eq_getElem hk]
 rfl
theorem ZaL {f:Addr}{fd:FuncData}(F:Fun K "steps_of" "steps_of" ZaF f fd)(mLst:mg "list" = none)(mZip:mg "zip" = none):GS P w K mg base CX0 1 f fd ["places", "closed"] ZbP:=by
 refine F.ok scSte (λvs H Q E h=>?_) (λcdv A outer s H vs Q E hr h=>?_)
 ·obtain ⟨_,_,_,rfl,_⟩:=h
  rfl
 ·obtain ⟨pl,ns,c,rfl,hp,hn,hc,q⟩:=h;have h16:(16777216:Nat)=sizeLine:=sizeLine_eq.symm;refine ⟨_,Gh (GE (i:=2) scSte.nd rfl (Or.inl rfl) (Xk K rfl rfl mLst rfl mZip (Ga (pv 0) (Ga (Js (kSl K) (pv 0) (Jy Gc) JJ) Gf))))
    (Gh (Jj (OE (pv 1)) (Gi (Ji (Ou PySem.F.plainAttrs_list PySem.F.slot_list_append PySem.F.type_list_append G9 (pv 2) (Ga (Jf (Ga (Gj (Jt K) (pv 0) (OF JB Gc) (λ_ _=>rfl)) (Ga (Gj (Jt K) (pv 0) Gc (λ_ _=>rfl)) Gf))) Gf)))) GF)
    (Gi (Gw (pv 2)))),?_⟩
  refine ⟨_,rfl,_,rfl,_,rfl,pl,_,rfl,SqL.of hp,λp2 hp2=>?_⟩;have s1:Same H (upd H p2 (.lst (OV (ns.map V.int) (some 1) none))):=Same.new hp2;have ec:OV (ns.map V.int) (some 1) none=(ns.drop 1).map V.int:=by rw [show (some (1:Int))=some ((1:Nat):Int) from rfl,OM,List.map_drop]
  refine ⟨pl,p2,ns,ns.drop 1,rfl,SqL.of (s1 _ _ hp),by rw [<-ec];exact SqL.of Gb,by lia,λS ws H2 s2 hS eS pS=>?_⟩;have s12:=s1.trans s2;have hS0:=s1.free hS;have lws:ws.length<=100:=by rw [pS.len,List.length_zip];lia
  refine ⟨_,rfl,c,rfl,?_⟩;refine O4 (λz=>?_) (λz=>?_)
  ·have hne:=hc z;have hpos:0<ns.length:=List.length_pos_iff.mpr hne;refine ⟨_,rfl,.inl ⟨rfl,_,SqL.of eS⟩,_,rfl,_,rfl,pl,_,_,_,rfl,rfl,SqL.of (s12 _ _ hp),JR hne,_,rfl,pl,_,_,_,rfl,rfl,SqL.of (s12 _ _ hp),Oi (i:=0) (by decide) (by lia),(by show 2<=sizeLine;decide),λt ht=>?_⟩;have hSt:S≠t:=Gn eS ht;refine ⟨S,_,_,rfl,rfl,G0 eS hSt,by lia,?_⟩;have s3:=(s12.put (o:=.tup [.int (ns.getD (ns.length-1) 0),.int (ns.getD 0 0)]) (s12.free ht));refine ⟨_,rfl,q S _ _ (s3.put hS0) hS0 Gb ?_⟩;unfold Gm;rw [if_pos z];have tg:∀p ys,(upd H2 t (.tup [.int (ns.getD (ns.length-1) 0),.int (ns.getD 0 0)])) p=some (.tup ys)->(upd (upd H2 t (.tup [.int (ns.getD (ns.length-1) 0),.int (ns.getD 0 0)])) S (.lst (ws++[.ref t]))) p=some (.tup ys):=λp ys e=>G0 e (W6 e (G0 eS hSt) (λz=>by cases z));exact Prs.keep (Prs.snoc (pS.same (Same.new ht)) Gb) tg
  ·refine ⟨_,rfl,q S ws H2 s12 hS0 eS ?_⟩;unfold Gm;rw [if_neg z,List.append_nil];exact pS
def Adj (rs:List (Int×Int))(p q:Int):Prop:=(p,q)∈rs\/(q,p)∈rs
theorem OC (rs:List (Int×Int))(p q:Int):∀i,(Oc rs p q i).isSome=true↔∃j,j<i/\(rs.getD j (0,0)=(p,q)\/rs.getD j (0,0)=(q,p))
 | 0=>⟨λh=>(by cases h),λ⟨j,hj,_⟩=>absurd hj (Nat.not_lt_zero j)⟩
 | i+1=>by
  have ih:=OC rs p q i;show (if rs.getD i (0,0)=(p,q)\/rs.getD i (0,0)=(q,p) then some (V.int (i:Nat)) else Oc rs p q i).isSome=true↔_;by_cases z:rs.getD i (0,0)=(p,q)\/rs.getD i (0,0)=(q,p)
  ·rw [if_pos z];exact ⟨λ_=>⟨i,Nat.lt_succ_self i,z⟩,λ_=>rfl⟩
  ·rw [if_neg z,ih];constructor
   ·rintro ⟨j,hj,e⟩;exact ⟨j,Nat.lt_succ_of_lt hj,e⟩
   ·rintro ⟨j,hj,e⟩;refine ⟨j,?_,e⟩;rcases Nat.lt_or_ge j i with h | h
    ·exact h
    ·have:j=i:=by lia
     subst this;exact absurd e z
theorem Vc (rs:List (Int×Int))(p q:Int):(Oc rs p q rs.length).isSome=true↔Adj rs p q:=by
 rw [OC];constructor
 ·rintro ⟨j,hj,e⟩;have hm:rs.getD j (0,0)∈rs:=by
   rw [List.getD_eq_getElem?_getD,List.getElem?_eq_getElem hj];exact List.getElem_mem hj
  rcases e with e | e
  ·exact .inl (e▸hm)
  ·exact .inr (e▸hm)
 ·rintro (h | h)
  ·obtain ⟨j,hj,e⟩:=List.getElem_of_mem h;exact ⟨j,hj,.inl (by rw [List.getD_eq_getElem?_getD,List.getElem?_eq_getElem hj];exact e)⟩
  ·obtain ⟨j,hj,e⟩:=List.getElem_of_mem h;exact ⟨j,hj,.inr (by rw [List.getD_eq_getElem?_getD,List.getElem?_eq_getElem hj];exact e)⟩
theorem Yv (ns:List Int):∀i,i<=ns.length->((PyProof.Rows.firstMet (λi=>ns.getD i 0) i).length=i↔(ns.take i).Nodup)
 | 0,_=>⟨λ_=>by rw [List.take_zero];exact List.nodup_nil,λ_=>rfl⟩
 | i+1,h=>by
  have ih:=Yv ns i (by lia);have hx:i<ns.length:=by lia
  have hle:=PyProof.Rows.firstMet_length_le (λi=>ns.getD i 0) i;have eg:ns.getD i 0=ns[i]:=by rw [List.getD_eq_getElem?_getD,List.getElem?_eq_getElem hx];rfl
  have eany:((List.range i).map λi=>ns.getD i 0)=ns.take i:=by
   refine List.ext_getElem (by rw [List.length_map,List.length_range,List.length_take];lia) λj h1 h2=>?_;rw [List.length_map,List.length_range] at h1;rw [List.getElem_map,List.getElem_range,List.getElem_take,List.getD_eq_getElem?_getD,List.getElem?_eq_getElem (by lia)]
   rfl
  have ea:=PyProof.Rows.firstMet_any (λi=>ns.getD i 0) i (ns.getD i 0);rw [eany] at ea;have emem:((ns.take i).any (· == ns.getD i 0))=decide (ns[i]∈ns.take i):=by
   rw [eg];by_cases z:ns[i]∈ns.take i
   ·rw [decide_eq_true z];exact List.any_eq_true.mpr ⟨_,z,by simp⟩
   ·rw [decide_eq_false z];refine List.any_eq_false.mpr λy hy e=>z ?_;have:y=ns[i]:=by simpa using e
    exact this▸hy
  rw [PyProof.Rows.firstMet_succ,List.take_add_one,List.getElem?_eq_getElem hx];show _↔(ns.take i++[ns[i]]).Nodup;have nd:(ns.take i++[ns[i]]).Nodup↔(ns.take i).Nodup/\ns[i] ∉ ns.take i:=by
   rw [List.nodup_append];constructor
   ·rintro ⟨h1,_,h3⟩;exact ⟨h1,λz=>h3 _ z _ (List.mem_singleton.mpr rfl) rfl⟩
   ·rintro ⟨h1,h2⟩;refine ⟨h1,List.nodup_cons.mpr ⟨List.not_mem_nil,List.nodup_nil⟩,λa ha b hb e=>?_⟩;rw [List.mem_singleton] at hb;subst hb;exact h2 (e▸ha)
  rw [nd,<-ih];by_cases z:ns[i]∈ns.take i
  ·rw [emem,decide_eq_true z] at ea;unfold PyProof.Rows.step_dedup;rw [if_pos ea];exact ⟨λe=>by lia,λe=>absurd z e.2⟩
  ·rw [emem,decide_eq_false z] at ea;unfold PyProof.Rows.step_dedup;rw [if_neg (by rw [ea];decide)];have el:∀(l:List Int)(x:Int),(l++[x]).length=l.length+1:=λl x=>by rw [List.length_append,List.length_singleton]
   first
    | (rw [el];exact ⟨λe=>⟨by lia,z⟩,λe=>by have:=e.1;lia⟩)
    | (rw [List.length_cons];exact ⟨λe=>⟨by lia,z⟩,λe=>by have:=e.1;lia⟩)
theorem Yw (ns:List Int):(PyProof.Rows.firstMet (λi=>ns.getD i 0) ns.length).length=ns.length↔ns.Nodup:=by
 have h:=Yv ns ns.length (Nat.le_refl _);rw [List.take_length] at h;exact h
def Y9 (rs:List (Int×Int))(ns:List Int)(c:Bool):Prop:=(∀t∈Gm ns c,Adj rs t.1 t.2)/\ns.Nodup
def ZbQ:Sp:=λvs H Q _=>∃(wb l pl:Addr)(k:Int)(xs:List V)(rs:List (Int×Int))(ns:List Int)(c:Bool),vs=[.ref wb,.ref pl,.bl c]/\WebAt H wb l k xs rs/\xs.length<=30/\H pl=some (.lst (ns.map V.int))/\ns.length<=100/\(c=true->ns≠[]) /\
 ∀(b:Bool)(H':Hp),Same H H'->(b=true↔Y9 rs ns c)->Q (.bl b) H'
theorem scOnc:Gv ["web", "places", "closed", "numbers", "by_roads"] ["web", "places", "closed"] (Gg ZX):=⟨rfl,rfl,rfl,by decide +kernel,rfl,by decide +kernel,by decide +kernel⟩
theorem Zc6 {f fU fV:Addr}{fd fdU fdV:FuncData}(F:Fun K "goes_once" "goes_once" ZX f fd)(FU:Fun K "numbers_by_step" "numbers_by_step" ZW fU fdU)(bU:Binds K fdU ["web"] [])(mU:mg "numbers_by_step" = some (.ref fU))(FV:Fun K "steps_of" "steps_of" ZaF fV fdV)(bV:Binds K fdV ["places", "closed"] [])(mV:mg "steps_of" = some (.ref fV))(mEnum:mg "enumerate" = none)(mLst:mg "list" = none)(mZip:mg "zip" = none)(mAll:mg "all" = none)(mSet:mg "set" = none)(mLen:mg "len" = none):GS P w K mg base CX0 2 f fd ["web", "places", "closed"] ZbQ:=by
 have GU:GS P w K mg base CX0 1 fU fdU ["web"] ZbO:=ZaK FU mEnum;have GV:GS P w K mg base CX0 1 fV fdV ["places", "closed"] ZbP:=ZaL FV mLst mZip;refine F.ok scOnc (λvs H Q E h=>?_) (λcdv A outer s H vs Q E hr h=>?_)
 ·obtain ⟨_,_,_,_,_,_,_,_,rfl,_⟩:=h
  rfl
 ·obtain ⟨wb,l,pl,k,xs,rs,ns,c,rfl,W,hx,hp,hn,hc,q⟩:=h;have hu1:(A.deeper (PyProof.Rows.envOfC "goes_once" (Gg ZX) s.heap.objs.size f cdv)).units+1<cLine:=by have:=hr.un;lia
  have h16:(16777216:Nat)=sizeLine:=sizeLine_eq.symm;refine ⟨_,Gh (GE (i:=3) scOnc.nd rfl (Or.inr rfl) (Gs GU (hr.mono (by decide)) rfl mU FU.kp bU .nil G2 (Ga (pv 0) Gf)))
    (Gh (GE (i:=4) scOnc.nd rfl (Or.inl rfl) (Gk (Zb9 K rfl) rfl mAll Ot (Ga (Jl (own:=["step"]) rfl (Gr (fr:=[("numbers", 3)]) [(".0", .local),("step", .local),("numbers", .cell)] rfl rfl (by decide +kernel) rfl (by decide +kernel) ⟨rfl,trivial⟩ ⟨λh=>GT h,λh=>GT h,λ_=>⟨_,rfl⟩,trivial⟩ ⟨⟨rfl,.inl rfl,.inl rfl⟩,trivial⟩) (Uq K (Gs GV (hr.mono (by decide)) rfl mV FV.kp bV .nil G2 (Ga (pv 1) (Ga (pv 2) Gf)))) (λ_ _ _ _=>Gy (i:=0) (show List.Nodup (["step", "numbers"]:List Str) by decide +kernel) rfl (Or.inl rfl)) (λ_ _ _ _=>Ja) (λ_ _ _ _=>Zcs (Yh hu1 (pv 0) (pv 1)) rfl)) Gf)))
    (Gi (Gw (O0 (pv 4) (Oe (G6 Jv (Gk Zbd rfl mLen PySem.boot_len (Ga (Jx (ZeC K rfl) rfl mSet Zu (Ga (pv 1) Gf)) Gf)) (Gk (O5 K) rfl mLen PySem.boot_len (Ga (pv 1) Gf)) (Gx _))))))),?_⟩
  refine ⟨_,rfl,wb,l,k,xs,rs,rfl,W,hx,λd H1 kvs s1 hd ed val=>?_⟩;refine ⟨_,rfl,_,rfl,pl,ns,c,rfl,s1 _ _ hp,hn,hc,λS ws H2 s2 hS eS pS=>?_⟩;have s12:=s1.trans s2;have ed2:=s2 _ _ ed;have lws:ws.length<=102:=by
   rw [pS.len];unfold Gm;rw [List.length_append,List.length_zip];split <;> simp <;> lia
  refine ⟨S,rfl,⟨_,SqL.of eS⟩,λD hD=>?_⟩;refine JH (K:=K) (a:=S) (xs:=ws) (λi ys H3=>Same H2 H3/\H3 D=some (.lst ys)/\ys=(((Gm ns c).take i).map λt=>(Oc rs t.1 t.2 rs.length).isSome).map V.bl) ⟨Same.new hD,Gb,rfl⟩ (λi ys H3 _ ⟨s3,_⟩=>SqL.of (s3 _ _ eS)) ?_ ?_
  ·rintro i x ys H3 hxi ⟨s3,hD3,rfl⟩;obtain ⟨t,r,rfl,et,er⟩:=(pS.same s3).get hxi;have hi:i<ws.length:=(List.getElem?_eq_some_iff.mp hxi).1;refine ⟨⟨rfl,trivial⟩,?_⟩;unfold UR;refine Jg ?_;refine ⟨_,rfl,_,rfl,d,_,rfl,DGet.t (k:=ky r.1 r.2) (s3 _ _ ed2) et,hD3,?_,s3.put hD,Gb,?_⟩
   ·rw [List.length_map,List.length_map,List.length_take]
    lia
   ·rw [List.take_add_one,er,List.map_append,List.map_append,val r.1 r.2]
    rfl
  rintro ys H3 ⟨s3,hD3,rfl⟩;rw [pS.len,List.take_length] at hD3;refine ⟨D,_,rfl,SqL.of hD3,?_⟩;refine ⟨_,rfl,_,rfl,?_⟩;have s13:=s12.trans s3;have eall:(((Gm ns c).map λt=>(Oc rs t.1 t.2 rs.length).isSome).all id=true)↔∀t∈Gm ns c,Adj rs t.1 t.2:=by
   rw [List.all_eq_true];constructor
   ·intro h t ht;exact (Vc rs t.1 t.2).mp (h _ (List.mem_map.mpr ⟨t,ht,rfl⟩))
   ·intro h y hy;obtain ⟨t,ht,rfl⟩:=List.mem_map.mp hy;exact (Vc rs t.1 t.2).mpr (h t ht)
  refine O4 (λz=>?_) (λz=>?_)
  ·refine ⟨_,rfl,pl,ns,rfl,SqL.of (s13 _ _ hp),by lia,λse hse=>?_⟩;have s4:Same H3 (upd H3 se (.set (λk'=>(PyProof.Rows.firstMet (λi=>ns.getD i 0) ns.length).any (· == k')) (PyProof.Rows.firstMet (λi=>ns.getD i 0) ns.length).length)):=Same.new hse;have hml:=PyProof.Rows.firstMet_length_le (λi=>ns.getD i 0) ns.length;refine ⟨se,_,_,rfl,Gb,by lia,_,rfl,pl,_,rfl,.inl (SqL.of (s4 _ _ (s13 _ _ hp))),rfl,?_⟩;refine q _ _ (s13.trans s4) ?_;rw [List.length_map];constructor
   ·intro e;have e1:=of_decide_eq_true e;have e2:(PyProof.Rows.firstMet (λi=>ns.getD i 0) ns.length).length=ns.length:=by
     have:=V.int.inj e1
     lia
    exact ⟨eall.mp z,(Yw ns).mp e2⟩
   ·rintro ⟨_,nd⟩;rw [(Yw ns).mpr nd];exact decide_eq_true rfl
  ·exact q _ _ s13 ⟨λe=>(by cases e),λo=>absurd (eall.mpr o.1) z⟩
end
end M
namespace M
open PySem L2
section
variable {P:Program}{w:World}{K:W.Frag}{mg:Str->Option Value}{base:Heap}
theorem JY {ns:List Int}{i:Nat}(h:i<ns.length):ns.getD i 0=ns[i]:=by
 rw [List.getD_eq_getElem?_getD,List.getElem?_eq_getElem h]
 rfl
theorem zip_mem {ns:List Int}{t:Int×Int}:t∈ns.zip (ns.drop 1)↔∃j,j+1<ns.length/\t=(ns.getD j 0,ns.getD (j+1) 0):=by
 constructor
 ·intro h;obtain ⟨j,hj,e⟩:=List.getElem_of_mem h;rw [List.length_zip,List.length_drop] at hj;have h1:j+1<ns.length:=by lia
  refine ⟨j,h1,?_⟩;rw [<-e,List.getElem_zip,List.getElem_drop,JY (by lia),JY h1]
  congr 2
  lia
 ·rintro ⟨j,hj,rfl⟩;have h1:j<(ns.zip (ns.drop 1)).length:=by rw [List.length_zip,List.length_drop];lia
  have e:(ns.zip (ns.drop 1))[j]=(ns.getD j 0,ns.getD (j+1) 0):=by
   rw [List.getElem_zip,List.getElem_drop,JY (by lia),JY hj]
   congr 2
   lia
  rw [<-e];exact List.getElem_mem h1
theorem JW {ns:List Int}{i:Nat}(h:i<ns.length):ns.getD i 0∈ns:=by
 rw [JY h];exact List.getElem_mem h
theorem J9 {ns:List Int}(nd:ns.Nodup){i j:Nat}(hi:i<ns.length)(hj:j<ns.length)(h:i≠j):ns.getD i 0≠ns.getD j 0:=by
 rw [JY hi,JY hj];exact λe=>h ((List.getElem_inj nd).mp e)
def Mt (rs:List (Int×Int))(p q:Int)(j:Nat):Prop:=rs.getD j (0,0)=(p,q)\/rs.getD j (0,0)=(q,p)
theorem Oj {rs:List (Int×Int)}{j:Nat}(h:j<rs.length):rs.getD j (0,0)∈rs:=by
 rw [List.getD_eq_getElem?_getD,List.getElem?_eq_getElem h];exact List.getElem_mem h
theorem OP {rs:List (Int×Int)}(nd:rs.Nodup){i j:Nat}(hi:i<rs.length)(hj:j<rs.length)(h:rs.getD i (0,0)=rs.getD j (0,0)):i=j:=by
 rw [List.getD_eq_getElem?_getD,List.getElem?_eq_getElem hi,List.getD_eq_getElem?_getD,List.getElem?_eq_getElem hj] at h;exact (List.getElem_inj nd).mp h
theorem Zc7 {k:Int}{rs:List (Int×Int)}(g:Gz k rs){p q:Int}{i j:Nat}(hi:i<rs.length)(hj:j<rs.length)(a:Mt rs p q i)(b:Mt rs p q j):i=j:=by
 have gi:=(g.2.2.2.1 _ (Oj hi)).2.1;have gj:=(g.2.2.2.1 _ (Oj hj)).2.1;rcases a with a | a <;> rcases b with b | b
 ·exact OP g.2.2.2.2 hi hj (a.trans b.symm)
 ·rw [a] at gi;rw [b] at gj;dsimp only at gi gj;lia
 ·rw [a] at gi;rw [b] at gj;dsimp only at gi gj;lia
 ·exact OP g.2.2.2.2 hi hj (a.trans b.symm)
theorem Uw {k:Int}{rs:List (Int×Int)}(g:Gz k rs){p q:Int}{j:Nat}(m:Mt rs p q j):∀i,j<i->i<=rs.length->Oc rs p q i=some (.int (j:Nat))
 | 0,h,_=>absurd h (Nat.not_lt_zero j)
 | i+1,h,hl=>by
  show (if rs.getD i (0,0)=(p,q)\/rs.getD i (0,0)=(q,p) then some (V.int (i:Nat)) else Oc rs p q i)=_;by_cases z:rs.getD i (0,0)=(p,q)\/rs.getD i (0,0)=(q,p)
  ·rw [if_pos z,Zc7 g (i:=i) (j:=j) (by lia) (by lia) z m]
  ·rw [if_neg z];refine Uw g m i ?_ (by lia);rcases Nat.lt_or_ge j i with h' | h'
   ·exact h'
   ·have:j=i:=by lia
    subst this;exact absurd m z
theorem Yx {rs:List (Int×Int)}{p q:Int}(h:Adj rs p q):∃j,j<rs.length/\Mt rs p q j:=by
 obtain ⟨j,hj,e⟩:=(OC rs p q rs.length).mp ((Vc rs p q).mpr h);exact ⟨j,hj,e⟩
def Oz (rs:List (Int×Int))(t:Int×Int):Int:=match Oc rs t.1 t.2 rs.length with
 | some (.int j)=>j
 | _=>0
theorem Wc {k:Int}{rs:List (Int×Int)}(g:Gz k rs){t:Int×Int}{j:Nat}(hj:j<rs.length)(m:Mt rs t.1 t.2 j):Oz rs t=(j:Int):=by
 unfold Oz;rw [Uw g m rs.length hj (Nat.le_refl _)]
theorem ZaM {ns:List Int}{i:Nat}(h:i+1<ns.length)(hz:i<(ns.zip (ns.drop 1)).length):(ns.zip (ns.drop 1))[i]=(ns.getD i 0,ns.getD (i+1) 0):=by
 rw [List.getElem_zip,List.getElem_drop,JY (by lia),JY h]
 congr 2
 lia
theorem Xr {ns:List Int}{c:Bool}(nd:ns.Nodup)(hc:c=true->3<=ns.length):(Gm ns c).Pairwise (λt u=>¬ (t=u\/t=(u.2,u.1))):=by
 unfold Gm;have zl:(ns.zip (ns.drop 1)).length=ns.length-1:=by rw [List.length_zip,List.length_drop];lia
 have hz:(ns.zip (ns.drop 1)).Pairwise (λt u=>¬ (t=u\/t=(u.2,u.1))):=by
  rw [List.pairwise_iff_getElem];intro i j hi hj hij;rw [ZaM (by lia) hi,ZaM (by lia) hj];rintro (e | e)
  ·injection e with e1 e2
   exact J9 nd (i:=i) (j:=j) (by lia) (by lia) (by lia) e1
  ·injection e with e1 e2
   exact J9 nd (i:=i) (j:=j+1) (by lia) (by lia) (by lia) e1
 cases c with
 | false=>rw [if_neg (by decide),List.append_nil];exact hz
 | true=>
  have h3:=hc rfl;rw [if_pos rfl,List.pairwise_append];refine ⟨hz,List.pairwise_singleton _ _,λt ht u hu=>?_⟩;rw [List.mem_singleton] at hu;subst hu;obtain ⟨i,hi,rfl⟩:=zip_mem.mp ht;rintro (e | e)
  ·injection e with e1 e2
   exact J9 nd (i:=i) (j:=ns.length-1) (by lia) (by lia) (by lia) e1
  ·injection e with e1 e2
   by_cases h0:i=0
   ·subst h0;exact J9 nd (i:=0+1) (j:=ns.length-1) (by lia) (by lia) (by lia) e2
   ·exact J9 nd (i:=i) (j:=0) (by lia) (by lia) h0 e1
def pvI (ns:List Int)(i:Nat):Int:=if i=0 then ns.getD (ns.length-1) 0 else ns.getD (i-1) 0
theorem Zc8 {rs:List (Int×Int)}(hlt:∀r∈rs,r.1<r.2)(x y:Int):((if y<x then y else x),(if y > x then y else x))∈rs↔Adj rs x y:=by
 unfold Adj;by_cases h1:y<x
 ·rw [if_pos h1,if_neg (show ¬ y > x by lia)];refine ⟨.inr,λh=>h.elim (λh=>?_) id⟩;have:=hlt _ h;dsimp only at this
  lia
 ·rw [if_neg h1];by_cases h2:y > x
  ·rw [if_pos h2];refine ⟨.inl,λh=>h.elim id (λh=>?_)⟩;have:=hlt _ h;dsimp only at this
   lia
  ·have e:x=y:=by lia
   subst e;rw [if_neg h2];exact ⟨.inl,λh=>h.elim id id⟩
theorem VN {k:Int}{rs:List (Int×Int)}(g:Gz k rs){x y:Int}(h:Adj rs x y):0<=y/\y<k:=by
 rcases h with h | h
 ·have:=g.2.2.2.1 _ h;dsimp only at this
  lia
 ·have:=g.2.2.2.1 _ h;dsimp only at this
  lia
def Zen:Sp:=λvs H Q _=>∃(wb l:Addr)(k p:Int),vs=[.ref wb,.int p]/\H wb=some (.tup [.int k,.ref l])/\Q (.bl (decide (0<=p/\p<k))) H
theorem Zf2:Gv ["web", "place"] ["web", "place"] (Gg sIs):=⟨rfl,rfl,rfl,by decide +kernel,rfl,by decide +kernel,by decide +kernel⟩
theorem ZbR {f:Addr}{fd:FuncData}(F:Fun K "is_place" "is_place" sIs f fd):GS P w K mg base CX0 1 f fd ["web", "place"] Zen:=by
 refine F.ok Zf2 (λvs H Q E h=>?_) (λcdv A outer s H vs Q E hr h=>?_)
 ·obtain ⟨_,_,_,_,rfl,_⟩:=h
  rfl
 ·obtain ⟨wb,l,k,p,rfl,hw,q⟩:=h;refine ⟨_,Gi (Gw (Wj XS U2 Gc (pv 1) (Gj (Je K) (pv 0) Gc (λ_ _=>rfl)))),?_⟩;refine ⟨_,rfl,_,_,rfl,rfl,_,rfl,O4 (λh0=>?_) (λh0=>?_)⟩
  ·refine ⟨_,rfl,wb,_,_,_,rfl,rfl,SqT.of hw,Ge (j:=0) rfl,_,_,rfl,rfl,?_⟩;have h0':=of_decide_eq_true h0;have e:decide (p<k)=decide (0<=p/\p<k):=by
    by_cases h1:p<k
    ·rw [decide_eq_true h1,decide_eq_true (⟨h0',h1⟩:0<=p/\p<k)]
    ·rw [decide_eq_false h1,decide_eq_false λz=>h1 z.2]
   show Q (.bl (decide (p<k))) H;rw [e];exact q
  ·have h0':¬ 0<=p:=λz=>h0 (decide_eq_true z);have e:decide (0<=p/\p<k)=false:=decide_eq_false λz=>h0' z.1;rw [e] at q;exact q
def Ends (k p q:Int):Prop:=(0<=p/\p<k)/\(0<=q/\q<k)/\p≠q
def Z3 (C:Addr):Sp:=λvs H Q E=>∃(wb l:Addr)(k p q:Int),vs=[.ref wb,.int p,.int q]/\H wb=some (.tup [.int k,.ref l])/\((Ends k p q/\Q .non H)\/(¬ Ends k p q/\E (.ref C) none H))
theorem ZeM:Gv ["web", "one", "other"] ["web", "one", "other"] (Gg ZV):=⟨rfl,rfl,rfl,by decide +kernel,rfl,by decide +kernel,by decide +kernel⟩
theorem Zc9 {f fI C:Addr}{fd fdI:FuncData}(F:Fun K "check_ends" "check_ends" ZV f fd)(FI:Fun K "is_place" "is_place" sIs fI fdI)(bI:Binds K fdI ["web", "place"] [])(mI:mg "is_place" = some (.ref fI))(mC:mg "NoEnds" = some (.ref C))(xC:ExcC K C) :
  GS P w K mg base (CXr P w) 2 f fd ["web", "one", "other"] (Z3 C):=by
 have GI:GS P w K mg base CX0 1 fI fdI ["web", "place"] Zen:=ZbR FI;refine F.okR ZeM (λvs H Q E h=>?_) (λcdv A outer s H vs Q E hr h=>?_)
 ·obtain ⟨_,_,_,_,_,rfl,_⟩:=h
  rfl
 ·obtain ⟨wb,l,k,p,q,rfl,hw,h⟩:=h;refine ⟨_,Gi (Jj (PW.pt (OU (OZ (OE (Gs GI (hr.mono (by decide)) rfl mI FI.kp bI .nil G2 (Ga (pv 0) (Ga (pv 1) Gf))))) (OU (OZ (OE (Gs GI (hr.mono (by decide)) rfl mI FI.kp bI .nil G2 (Ga (pv 0) (Ga (pv 2) Gf))))) (Ow (Gp Jv (pv 1) (pv 2) (Gx _)))))) (Gi (Ua (E:=E) rfl JU rfl mC xC (Ga GQ Gf))) GF),?_⟩;refine ⟨_,rfl,_,rfl,wb,l,k,p,rfl,hw,⟨_,rfl,?_⟩⟩;by_cases h1:0<=p/\p<k
  ·rw [decide_eq_true h1];refine GG ?_;refine ⟨_,rfl,_,rfl,wb,l,k,q,rfl,hw,⟨_,rfl,?_⟩⟩;by_cases h2:0<=q/\q<k
   ·rw [decide_eq_true h2];refine GG ?_;refine ⟨_,rfl,_,rfl,rfl,_,rfl,?_⟩;by_cases h3:p=q
    ·subst h3;rw [decide_eq_true rfl];refine Jg ?_;rcases h with ⟨g,_⟩ | ⟨_,e⟩
     ·exact absurd rfl g.2.2
     ·exact ⟨by decide,e⟩
    ·rw [decide_eq_false λe=>h3 (V.int.inj e)];refine GG ?_;rcases h with ⟨_,y⟩ | ⟨g,_⟩
     ·exact y
     ·exact absurd ⟨h1,h2,h3⟩ g
   ·rw [decide_eq_false h2];refine Jg ?_;rcases h with ⟨g,_⟩ | ⟨_,e⟩
    ·exact absurd g.2.1 h2
    ·exact ⟨by decide,e⟩
  ·rw [decide_eq_false h1];refine Jg ?_;rcases h with ⟨g,_⟩ | ⟨_,e⟩
   ·exact absurd g.1 h1
   ·exact ⟨by decide,e⟩
def Way (rs:List (Int×Int))(p q:Int)(ns:List Int):Prop:=ns≠[]/\ns.getD 0 0=p/\ns.getD (ns.length-1) 0=q/\Y9 rs ns false
def Zda (C:Addr):Sp:=λvs H Q E=>∃(wb l pl:Addr)(k p q:Int)(xs:List V)(rs:List (Int×Int))(ns:List Int),vs=[.ref wb,.int p,.int q,.ref pl]/\WebAt H wb l k xs rs/\xs.length<=30/\H pl=some (.lst (ns.map V.int))/\ns.length<=100 /\
 ((Ends k p q/\∀(b:Bool)(H':Hp),Same H H'->(b=true↔Way rs p q ns)->Q (.bl b) H')\/(¬ Ends k p q/\E (.ref C) none H))
theorem ZeN:Gv ["web", "one", "other", "places"] ["web", "one", "other", "places"] (Gg ZbA):=⟨rfl,rfl,rfl,by decide +kernel,rfl,by decide +kernel,by decide +kernel⟩
theorem Yy {x y:Int}(h:(!decide (V.int x=V.int y))=true):x≠y:=λe=>by rw [e,decide_eq_true rfl] at h;cases h
theorem WJ {x y:Int}(h:¬ (!decide (V.int x=V.int y))=true):x=y:=by
 by_cases e:x=y
 ·exact e
 ·rw [decide_eq_false λz=>e (V.int.inj z)] at h;exact absurd rfl h
theorem Zdb {f fH fO C:Addr}{fd fdH fdO:FuncData}(F:Fun K "is_way" "is_way" ZbA f fd)(FH:Fun K "check_ends" "check_ends" ZV fH fdH)(bH:Binds K fdH ["web", "one", "other"] [])(mH:mg "check_ends" = some (.ref fH))(GH:GS P w K mg base (CXr P w) 2 fH fdH ["web", "one", "other"] (Z3 C))(FO:Fun K "goes_once" "goes_once" ZX fO fdO)(bO:Binds K fdO ["web", "places", "closed"] [])(mO:mg "goes_once" = some (.ref fO))(GO:GS P w K mg base CX0 2 fO fdO ["web", "places", "closed"] ZbQ):GS P w K mg base (CXr P w) 3 f fd ["web", "one", "other", "places"] (Zda C):=by
 refine F.okR ZeN (λvs H Q E h=>?_) (λcdv A outer s H vs Q E hr h=>?_)
 ·obtain ⟨_,_,_,_,_,_,_,_,_,rfl,_⟩:=h
  rfl
 ·obtain ⟨wb,l,pl,k,p,q',xs,rs,ns,rfl,W,hx,hp,hn,h⟩:=h;refine ⟨_,Gh (Ji (Gs GH (hr.mono (by decide)) rfl mH FH.kp bH .nil Zr (Ga (pv 0) (Ga (pv 1) (Ga (pv 2) Gf)))))
    (Gh (Jj (PW.pt (OU (OZ (U3 (pv 3) (λ_=>rfl))) (OU (Gp Xc (Gj (Jt K) (pv 3) Gc (λ_ _=>rfl)) (pv 1) (Gx _)) (Ow (Gp Xc (Gj (Jt K) (pv 3) (OF JB Gc) (λ_ _=>rfl)) (pv 2) (Gx _)))))) (Gi (Gw Vp)) GF)
    (Gi (Gw (Gs GO (hr.mono (by decide)) rfl mO FO.kp bO .nil G2 (Ga (pv 0) (Ga (pv 3) (Ga Vp Gf))))))),?_⟩
  rcases h with ⟨g,q⟩ | ⟨g,e⟩
  ·have no:¬ Way rs p q' ns->Q (.bl false) H:=λz=>q false H (Same.refl _) ⟨λe=>(by cases e),λr=>absurd r z⟩;refine ⟨_,rfl,_,rfl,_,rfl,wb,l,k,p,q',rfl,W.w,.inl ⟨g,?_⟩⟩;refine ⟨_,rfl,_,.inl ⟨_,SqL.of hp,rfl⟩,?_⟩;by_cases hne:ns=[]
   ·subst hne;refine Jg ?_;exact no λz=>z.1 rfl
   have e1:(!(ns.map V.int).isEmpty)=true:=by
    cases ns with
    | nil=>exact absurd rfl hne
    | cons _ _=>rfl
   rw [e1];refine GG ?_;have hpos:0<ns.length:=List.length_pos_iff.mpr hne;refine ⟨_,rfl,pl,_,_,_,rfl,rfl,SqL.of hp,Oi (i:=0) (by decide) (by lia),_,rfl,rfl,_,rfl,?_⟩;refine O4 (λz=>no λy=>Yy z y.2.1) (λz=>?_);have z0:ns.getD 0 0=p:=WJ z;refine ⟨_,rfl,_,rfl,pl,_,_,_,rfl,rfl,SqL.of hp,JR hne,_,rfl,rfl,_,rfl,?_⟩;refine O4 (λz=>no λy=>Yy z y.2.2.1) (λz=>?_);have z1:=WJ z;refine ⟨_,rfl,_,rfl,wb,l,pl,k,xs,rs,ns,false,rfl,W,hx,hp,hn,λy=>(by cases y),λb H1 s1 hb=>q b H1 s1 ?_⟩;rw [hb];exact ⟨λo=>⟨hne,z0,z1,o⟩,λy=>y.2.2.2⟩
  ·exact ⟨_,rfl,_,rfl,_,rfl,wb,l,k,p,q',rfl,W.w,.inr ⟨g,e⟩⟩
theorem Yz {rs:List (Int×Int)}{ns:List Int}(hne:ns≠[]):(∀t∈Gm ns true,Adj rs t.1 t.2)↔∀i,i<ns.length->Adj rs (pvI ns i) (ns.getD i 0):=by
 unfold Gm;rw [if_pos rfl];constructor
 ·intro h i hi;unfold pvI;cases i with
  | zero=>
   rw [if_pos rfl];exact h _ (List.mem_append_right _ (List.mem_singleton.mpr rfl))
  | succ j=>
   rw [if_neg (Nat.succ_ne_zero j)];exact h _ (List.mem_append_left _ (zip_mem.mpr ⟨j,hi,rfl⟩))
 ·intro h t ht;rcases List.mem_append.mp ht with ht | ht
  ·obtain ⟨j,hj,rfl⟩:=zip_mem.mp ht;have:=h (j+1) hj;unfold pvI at this;rw [if_neg (Nat.succ_ne_zero j)] at this;exact this
  ·rw [List.mem_singleton] at ht;subst ht;have:=h 0 (List.length_pos_iff.mpr hne);unfold pvI at this;rw [if_pos rfl] at this;exact this
def Zcl (rs:List (Int×Int))(ns:List Int):Prop:=3<=ns.length/\(∀x∈ns,ns.getD 0 0<=x)/\ns.getD 1 0<ns.getD (ns.length-1) 0/\Y9 rs ns true
def Zdc:Sp:=λvs H Q _=>∃(wb l pl:Addr)(k:Int)(xs:List V)(rs:List (Int×Int))(ns:List Int),vs=[.ref wb,.ref pl]/\WebAt H wb l k xs rs/\xs.length<=30/\H pl=some (.lst (ns.map V.int))/\ns.length<=100 /\
 ∀(b:Bool)(H':Hp),Same H H'->(b=true↔Zcl rs ns)->Q (.bl b) H'
theorem ZeO:Gv ["web", "places"] ["web", "places"] (Gg ZbB):=⟨rfl,rfl,rfl,by decide +kernel,rfl,by decide +kernel,by decide +kernel⟩
theorem Zdd {f fO:Addr}{fd fdO:FuncData}(F:Fun K "is_closed" "is_closed" ZbB f fd)(FO:Fun K "goes_once" "goes_once" ZX fO fdO)(bO:Binds K fdO ["web", "places", "closed"] [])(mO:mg "goes_once" = some (.ref fO))(GO:GS P w K mg base CX0 2 fO fdO ["web", "places", "closed"] ZbQ)(mLen:mg "len" = none)(mMin:mg "min" = none):GS P w K mg base CX0 3 f fd ["web", "places"] Zdc:=by
 refine F.ok ZeO (λvs H Q E h=>?_) (λcdv A outer s H vs Q E hr h=>?_)
 ·obtain ⟨_,_,_,_,_,_,_,rfl,_⟩:=h
  rfl
 ·obtain ⟨wb,l,pl,k,xs,rs,ns,rfl,W,hx,hp,hn,q⟩:=h;have h16:(16777216:Nat)=sizeLine:=sizeLine_eq.symm;have no:¬ Zcl rs ns->Q (.bl false) H:=λz=>q false H (Same.refl _) ⟨λe=>(by cases e),λr=>absurd r z⟩;refine ⟨_,Gh (Jj (PW.pt (OU (Gp U2 (Gk (O5 K) rfl mLen PySem.boot_len (Ga (pv 1) Gf)) Gc (Gx _)) (OU (Gp Xc (Gj (Jt K) (pv 1) Gc (λ_ _=>rfl)) (Gk (Zfu K rfl) rfl mMin Us (Ga (pv 1) Gf)) (Gx _)) (Ow (Gp Xd (Gj (Jt K) (pv 1) Gc (λ_ _=>rfl)) (Gj (Jt K) (pv 1) (OF JB Gc) (λ_ _=>rfl)) (Gx _)))))) (Gi (Gw Vp)) GF)
    (Gi (Gw (Gs GO (hr.mono (by decide)) rfl mO FO.kp bO .nil G2 (Ga (pv 0) (Ga (pv 1) (Ga Vp Gf)))))),?_⟩
  refine ⟨_,rfl,pl,_,rfl,.inl (SqL.of hp),_,_,rfl,rfl,_,rfl,?_⟩;rw [List.length_map];refine O4 (λz=>no λr=>?_) (λz=>?_)
  ·have:=of_decide_eq_true z;have:=r.1
   lia
  have h3:3<=ns.length:=by
   have:¬ ((ns.length:Int)<3):=λy=>z (decide_eq_true y)
   lia
  have hne:ns≠[]:=λe=>by rw [e] at h3;exact absurd h3 (by decide)
  refine ⟨_,rfl,pl,_,_,_,rfl,rfl,SqL.of hp,Oi (i:=0) (by decide) (by lia),_,rfl,pl,ns,rfl,SqL.of hp,hne,λm hm hl=>⟨rfl,_,rfl,?_⟩⟩;refine O4 (λz=>no λr=>?_) (λz=>?_)
  ·have hle:=r.2.1 m hm;have hge:=hl _ (JW (show 0<ns.length by lia));have e:ns.getD 0 0=m:=Int.le_antisymm hle hge;have z':(!decide (V.int (ns.getD (0:Int).toNat 0)=V.int m))=true:=z;rw [show (0:Int).toNat=0 from rfl,e,decide_eq_true rfl] at z';cases z'
  have e0:ns.getD 0 0=m:=by
   by_cases y:ns.getD 0 0=m
   ·exact y
   ·exfalso;apply z;show (!decide (V.int (ns.getD 0 0)=V.int m))=true;rw [decide_eq_false λe=>y (V.int.inj e)]
    rfl
  refine ⟨_,rfl,pl,_,_,_,rfl,rfl,SqL.of hp,Oi (i:=1) (by decide) (by lia),_,rfl,_,rfl,pl,_,_,_,rfl,rfl,SqL.of hp,JR hne,_,_,rfl,rfl,_,rfl,?_⟩;refine O4 (λz=>no λr=>?_) (λz=>?_)
  ·have z':=of_decide_eq_true z;have:=r.2.2.1;rw [show (1:Int).toNat=1 from rfl] at z'
   lia
  have h1:ns.getD 1 0<=ns.getD (ns.length-1) 0:=by
   have:¬ (ns.getD (ns.length-1) 0<ns.getD (1:Int).toNat 0):=λy=>z (decide_eq_true y);rw [show (1:Int).toNat=1 from rfl] at this
   lia
  refine ⟨_,rfl,_,rfl,wb,l,pl,k,xs,rs,ns,true,rfl,W,hx,hp,hn,λ_=>hne,λb H1 s1 hb=>q b H1 s1 ?_⟩;rw [hb];refine ⟨λo=>⟨h3,λx hx=>by rw [e0];exact hl x hx,?_,o⟩,λr=>r.2.2.2⟩;have:=J9 o.2 (i:=1) (j:=ns.length-1) (by lia) (by lia) (by lia)
  lia
end
end M
namespace M
open PySem L2
def Jo (p q:Int):Int×Int:=((if q<p then q else p),(if q > p then q else p))
theorem JL {ls:List (Int×Int)}(hlt:∀r∈ls,r.1<r.2)(x y:Int):Jo x y∈ls↔Adj ls x y:=Zc8 hlt x y
def hit (p:Int)(t:Int×Int):Nat:=(if t.1=p then 1 else 0)+(if t.2=p then 1 else 0)
theorem Zde (p x y:Int):hit p (Jo x y)=hit p (x,y):=by
 unfold hit Jo;dsimp only;by_cases h1:y<x
 ·rw [if_pos h1,if_neg (show ¬ y > x by lia)];exact Nat.add_comm _ _
 ·rw [if_neg h1];by_cases h2:y > x
  ·rw [if_pos h2]
  ·rw [if_neg h2,show x=y by lia]
def Za (p:Int)(ls:List (Int×Int)):Nat:=(ls.map (hit p)).sum
theorem Ol {p:Int}{ls ms:List (Int×Int)}(h:ls.Perm ms):Za p ls=Za p ms:=(h.map (hit p)).sum_nat
theorem Ux (p:Int)(t:Int×Int)(ls:List (Int×Int)):Za p (t::ls)=hit p t+Za p ls:=by unfold Za;rw [List.map_cons,List.sum_cons]
def Ju (ns:List Int):List (Int×Int):=(ns.zip (ns.drop 1)).map λt=>Jo t.1 t.2
theorem Oa (a b:Int)(tl:List Int):Ju (a::b::tl)=Jo a b::Ju (b::tl):=rfl
def JZ (p q:Int):Nat:=if p=q then 1 else 0
theorem J4 (p:Int):∀(tl:List Int)(a:Int),Za p (Ju (a::tl))+JZ a p+JZ ((a::tl).getD tl.length 0) p=2 * (a::tl).count p
 | [],a=>by
  show 0+JZ a p+JZ a p=2 * List.count p [a];unfold JZ;by_cases h:a=p
  ·rw [if_pos h,h,List.count_singleton_self]
  ·rw [if_neg h,List.count_eq_zero_of_not_mem (λz=>h (List.mem_singleton.mp z).symm)]
 | b::tl,a=>by
  have ih:=J4 p tl b;rw [Oa,Ux,Zde];show hit p (a,b)+Za p (Ju (b::tl))+JZ a p+JZ ((b::tl).getD tl.length 0) p=_;rw [List.count_cons];have e1:hit p (a,b)=JZ a p+JZ b p:=rfl;have e2:(if (a == p)=true then 1 else 0)=JZ a p:=by
   unfold JZ;by_cases h:a=p
   ·rw [if_pos h,if_pos (by rw [h];exact beq_self_eq_true p)]
   ·rw [if_neg h,if_neg (by rw [beq_iff_eq];exact h)]
  rw [e1,e2]
  lia
inductive Wk:List (Int×Int)->Int->List Int->List (Int×Int)->Prop
 | stop {ls:List (Int×Int)} {p:Int}:(∀q,¬ Adj ls p q)->Wk ls p [] ls
 | go {ls rest:List (Int×Int)} {p q:Int} {row:List Int}:Adj ls p q->(∀q',Adj ls p q'->q<=q')->Wk (ls.erase (Jo p q)) q row rest->Wk ls p (q::row) rest
theorem Wk.det {ls e1:List (Int×Int)}{p:Int}{r1:List Int}(h:Wk ls p r1 e1):∀{r2:List Int}{e2:List (Int×Int)},Wk ls p r2 e2->r1=r2:=by
 induction h with
 | stop n=>
  intro r2 e2 k;cases k with
  | stop _=>rfl
  | go a _ _=>exact absurd a (n _)
 | go a l w ih=>
  intro r2 e2 k;cases k with
  | stop n=>exact absurd a (n _)
  | go a' l' w'=>
   have e:=Int.le_antisymm (l _ a') (l' _ a);subst e;rw [ih w']
theorem Vd {ls:List (Int×Int)}{t:Int×Int}(hlt:∀r∈ls,r.1<r.2):∀r∈ls.erase t,r.1<r.2:=λr hr=>hlt r (List.mem_of_mem_erase hr)
theorem Wk.perm {ls rest:List (Int×Int)}{p:Int}{row:List Int}(h:Wk ls p row rest)(hlt:∀r∈ls,r.1<r.2):ls.Perm (Ju (p::row)++rest):=by
 induction h with
 | stop _=>exact List.Perm.refl _
 | @go ls rest p q row a _ _ ih=>
  rw [Oa];exact (List.perm_cons_erase ((JL hlt _ _).mpr a)).trans ((ih (Vd hlt)).cons _)
theorem OX (a:Int)(tl:List Int):(Ju (a::tl)).length=tl.length:=by
 unfold Ju;rw [List.length_map,List.length_zip,List.length_drop,List.length_cons]
 lia
theorem Wk.len {ls rest:List (Int×Int)}{p:Int}{row:List Int}(h:Wk ls p row rest)(hlt:∀r∈ls,r.1<r.2):ls.length=row.length+rest.length:=by
 rw [(h.perm hlt).length_eq,List.length_append,OX]
def Ov (rs:List (Int×Int))(ks:List Int):Prop:=ks.Pairwise (· < ·)/\∀x∈ks,0<=x/\x<(rs.length:Int)
def road (rs:List (Int×Int))(x:Int):Int×Int:=rs.getD x.toNat (0,0)
def cho (rs:List (Int×Int))(ks:List Int)(i:Nat):List (Int×Int):=((List.range i).filter λ(j:Nat)=>decide ((j:Int)∈ks)).map λ(j:Nat)=>rs.getD j (0,0)
theorem WL (rs:List (Int×Int))(ks:List Int)(i:Nat):cho rs ks (i+1)=cho rs ks i++(if (i:Int)∈ks then [rs.getD i (0,0)] else []):=by
 unfold cho;rw [List.range_succ,List.filter_append,List.map_append];by_cases h:(i:Int)∈ks
 ·rw [if_pos h,List.filter_cons,if_pos (decide_eq_true h)];rfl
 ·rw [if_neg h,List.filter_cons,if_neg (by rw [decide_eq_false h];decide)];rfl
theorem Uy {rs:List (Int×Int)}{ks:List Int}{t:Int×Int}(h:t∈cho rs ks rs.length):t∈rs:=by
 unfold cho at h;obtain ⟨j,hj,rfl⟩:=List.mem_map.mp h;exact Oj (List.mem_range.mp (List.mem_filter.mp hj).1)
theorem Ve (rs:List (Int×Int))(ks:List Int)(i:Nat):(cho rs ks i).length<=i:=by
 unfold cho;rw [List.length_map];exact Nat.le_trans (List.length_filter_le _ _) (Nat.le_of_eq List.length_range)
theorem WM {xs ys:List Int}(hx:xs.Pairwise (· < ·))(hy:ys.Pairwise (· < ·))(h:∀z,z∈xs↔z∈ys):xs=ys:=by
 induction xs generalizing ys with
 | nil=>
  cases ys with
  | nil=>rfl
  | cons y ys=>exact absurd ((h y).mpr (List.mem_cons_self ..)) List.not_mem_nil
 | cons x xs ih=>
  cases ys with
  | nil=>exact absurd ((h x).mp (List.mem_cons_self ..)) List.not_mem_nil
  | cons y ys=>
   have hx':=List.pairwise_cons.mp hx;have hy':=List.pairwise_cons.mp hy;have e:x=y:=by
    rcases List.mem_cons.mp ((h x).mp (List.mem_cons_self ..)) with z | z
    ·exact z
    ·rcases List.mem_cons.mp ((h y).mpr (List.mem_cons_self ..)) with u | u
     ·exact u.symm
     ·have:=hy'.1 _ z;have:=hx'.1 _ u
      lia
   subst e;rw [ih hx'.2 hy'.2 λz=>⟨λhz=>?_,λhz=>?_⟩]
   ·rcases List.mem_cons.mp ((h z).mp (List.mem_cons_of_mem _ hz)) with u | u
    ·have:=hx'.1 _ hz;lia
    ·exact u
   ·rcases List.mem_cons.mp ((h z).mpr (List.mem_cons_of_mem _ hz)) with u | u
    ·have:=hy'.1 _ hz;lia
    ·exact u
theorem Uz {rs:List (Int×Int)}{ks:List Int}(h:Ov rs ks):cho rs ks rs.length=ks.map (road rs):=by
 have e:((List.range rs.length).filter λ(j:Nat)=>decide ((j:Int)∈ks)).map (λ(j:Nat)=>(j:Int))=ks:=by
  refine WM ?_ h.1 λz=>?_
  ·rw [List.pairwise_map];exact (List.pairwise_lt_range.filter _).imp λhlt=>by lia
  ·rw [List.mem_map];constructor
   ·rintro ⟨j,hj,rfl⟩;exact of_decide_eq_true (List.mem_filter.mp hj).2
   ·intro hz;obtain ⟨z0,z1⟩:=h.2 z hz;exact ⟨z.toNat,List.mem_filter.mpr ⟨List.mem_range.mpr (by lia),decide_eq_true (by rw [Int.toNat_of_nonneg z0];exact hz)⟩,Int.toNat_of_nonneg z0⟩
 unfold cho
 conv=>rhs;rw [<-e]
 rw [List.map_map]
 rfl
theorem Z4 {k:Int}{rs:List (Int×Int)}(g:Gz k rs){t:Int×Int}(h:t∈rs)(p:Int):hit p t=if t.1=p\/t.2=p then 1 else 0:=by
 have:=g.2.2.2.1 t h;unfold hit;by_cases h1:t.1=p
 ·rw [if_pos h1,if_neg (by lia),if_pos (.inl h1)]
 ·rw [if_neg h1];by_cases h2:t.2=p
  ·rw [if_pos h2,if_pos (.inr h2)]
  ·rw [if_neg h2,if_neg (λz=>z.elim h1 h2)]
def XE (rs:List (Int×Int))(ks:List Int)(p:Int):Nat:=(ks.filter λx=>decide ((road rs x).1=p\/(road rs x).2=p)).length
theorem Uf {rs:List (Int×Int)}{x:Int}(h:0<=x/\x<(rs.length:Int)):road rs x∈rs:=Oj (by lia)
theorem JS {k:Int}{rs:List (Int×Int)}(g:Gz k rs)(p:Int):∀{ks:List Int},(∀x∈ks,0<=x/\x<(rs.length:Int))->XE rs ks p=Za p (ks.map (road rs))
 | [],_=>rfl
 | x::ks,h=>by
  have ih:=JS g p (ks:=ks) λy hy=>h y (List.mem_cons_of_mem _ hy);have hx:=Z4 g (Uf (h x (List.mem_cons_self ..))) p;rw [List.map_cons,Ux,<-ih,hx];unfold XE;rw [List.filter_cons];by_cases z:(road rs x).1=p\/(road rs x).2=p
  ·rw [if_pos (decide_eq_true z),if_pos z,List.length_cons,Nat.add_comm]
  ·rw [if_neg (by rw [decide_eq_false z];decide),if_neg z,Nat.zero_add]
theorem YA {rs:List (Int×Int)}{p q:Int}{x:Int}(m:Mt rs p q x.toNat)(hlt:(road rs x).1<(road rs x).2):road rs x=Jo p q:=by
 unfold road at hlt ⊢;unfold Jo;rcases m with e | e
 ·rw [e] at hlt ⊢;dsimp only at hlt;rw [if_neg (by lia),if_pos (by lia)]
 ·rw [e] at hlt ⊢;dsimp only at hlt;rw [if_pos (by lia),if_neg (by lia)]
theorem Om {k:Int}{rs:List (Int×Int)}(g:Gz k rs){t:Int×Int}(a:Adj rs t.1 t.2):(0<=Oz rs t/\Oz rs t<(rs.length:Int))/\road rs (Oz rs t)=Jo t.1 t.2:=by
 obtain ⟨j,hj,m⟩:=Yx a;rw [Wc g hj m];have hr:0<=(j:Int)/\(j:Int)<(rs.length:Int):=by lia
 refine ⟨hr,YA ?_ (g.2.2.2.1 _ (Uf hr)).2.1⟩;rw [Int.toNat_natCast];exact m
theorem Z5 {k:Int}{rs:List (Int×Int)}(g:Gz k rs){x y:Int}(hx:0<=x/\x<(rs.length:Int))(hy:0<=y/\y<(rs.length:Int))(e:road rs x=road rs y):x=y:=by
 have:=OP g.2.2.2.2 (i:=x.toNat) (j:=y.toNat) (by lia) (by lia) e
 lia
theorem VO {k:Int}{rs:List (Int×Int)}(g:Gz k rs){xs ys:List Int}(hx:∀x∈xs,0<=x/\x<(rs.length:Int))(hy:∀y∈ys,0<=y/\y<(rs.length:Int))(p:(xs.map (road rs)).Perm (ys.map (road rs))):xs.Perm ys:=by
 induction xs generalizing ys with
 | nil=>
  have:=p.length_eq;rw [List.length_map,List.length_map] at this;cases ys with
  | nil=>exact .nil
  | cons y ys=>simp at this
 | cons x xs ih=>
  rw [List.map_cons] at p;have hm:road rs x∈ys.map (road rs):=p.mem_iff.mp (List.mem_cons_self ..);obtain ⟨y,hym,e⟩:=List.mem_map.mp hm;have exy:=Z5 g (hx x (List.mem_cons_self ..)) (hy y hym) e.symm;subst exy;have p2:=List.perm_cons_erase hym;have p3:(xs.map (road rs)).Perm ((ys.erase x).map (road rs)):=by
   have:=p.trans (p2.map (road rs));rw [List.map_cons] at this;exact this.cons_inv
  exact ((ih (λz hz=>hx z (List.mem_cons_of_mem _ hz)) (λz hz=>hy z (List.mem_of_mem_erase hz)) p3).cons x).trans p2.symm
theorem J5 {k:Int}{rs:List (Int×Int)}(g:Gz k rs):∀{ts:List (Int×Int)},(∀t∈ts,Adj rs t.1 t.2)->(ts.map (Oz rs)).map (road rs)=ts.map λt=>Jo t.1 t.2
 | [],_=>rfl
 | t::ts,h=>by
  rw [List.map_cons,List.map_cons,List.map_cons,(Om g (h t (List.mem_cons_self ..))).2,J5 g λu hu=>h u (List.mem_cons_of_mem _ hu)]
theorem UX {ms:List Int}(h:ms.Pairwise (· <= ·))(nd:ms.Nodup):ms.Pairwise (· < ·):=(h.and nd).imp λh=>by have:=h.1;have:=h.2;lia
theorem Vf {k:Int}{rs:List (Int×Int)}(g:Gz k rs){ns ms:List Int}{c:Bool}(o:Y9 rs ns c)(hc:c=true->3<=ns.length)(pm:ms.Perm ((Gm ns c).map (Oz rs)))(so:ms.Pairwise (· <= ·)):Ov rs ms:=by
 have nd:((Gm ns c).map (Oz rs)).Nodup:=by
  unfold List.Nodup;rw [List.pairwise_map];refine (Xr o.2 hc).imp_of_mem λ{t u} ht hu h e=>h ?_;have rt:=Om g (o.1 t ht);have ru:=Om g (o.1 u hu);have e2:Jo t.1 t.2=Jo u.1 u.2:=by rw [<-rt.2,<-ru.2,e]
  unfold Jo at e2;have e3:=Prod.mk.inj e2;obtain ⟨t1,t2⟩:=t;obtain ⟨u1,u2⟩:=u;dsimp only at e3 ⊢;rw [Prod.mk.injEq,Prod.mk.injEq];split at e3 <;> split at e3 <;> split at e3 <;> split at e3 <;> lia
 refine ⟨UX so (pm.nodup_iff.mpr nd),λx hx=>?_⟩;obtain ⟨t,ht,rfl⟩:=List.mem_map.mp (pm.mem_iff.mp hx);exact (Om g (o.1 t ht)).1
end M
namespace M
open PySem L2
theorem VP {k:Int}{rs:List (Int×Int)}(g:Gz k rs)(ks:List Int):∀r∈cho rs ks rs.length,r.1<r.2:=λr hr=>(g.2.2.2.1 r (Uy hr)).2.1
theorem Vg {ls rs:List (Int×Int)}(h:∀r∈ls,r∈rs){p q:Int}(a:Adj ls p q):Adj rs p q:=a.elim (λz=>.inl (h _ z)) λz=>.inr (h _ z)
theorem ZbS {ls:List (Int×Int)}{p q:Int}(a:Adj ls p q):Adj ls q p:=a.elim .inr .inl
theorem Wk.met {ls rest:List (Int×Int)}{p:Int}{row:List Int}(h:Wk ls p row rest):∀x∈row,∃y,Adj ls y x:=by
 induction h with
 | stop _=>exact λx hx=>absurd hx List.not_mem_nil
 | go a _ _ ih=>
  intro x hx;rcases List.mem_cons.mp hx with rfl | hx
  ·exact ⟨_,a⟩
  ·obtain ⟨y,hy⟩:=ih x hx;exact ⟨y,Vg (λr hr=>List.mem_of_mem_erase hr) hy⟩
theorem JI (ns:List Int):Ju ns=(Gm ns false).map λt=>Jo t.1 t.2:=by
 unfold Ju Gm;rw [if_neg Bool.false_ne_true,List.append_nil]
def ZeP (rs:List (Int×Int))(ks:List Int)(k one other:Int):Prop:=∀p,0<=p->p<k->if p=one\/p=other then XE rs ks p=1 else XE rs ks p=0\/XE rs ks p=2
theorem VQ {k:Int}{rs ls:List (Int×Int)}{ns:List Int}{c:Bool}(g:Gz k rs)(hs:∀r∈ls,r∈rs)(h:ls.Perm ((Gm ns c).map λt=>Jo t.1 t.2)):∀t∈Gm ns c,Adj rs t.1 t.2:=λt ht=>
 (JL (λr hr=>(g.2.2.2.1 r hr).2.1) _ _).mp (hs _ (h.mem_iff.mpr (List.mem_map.mpr ⟨t,ht,rfl⟩)))
theorem YB {k:Int}{rs:List (Int×Int)}{ns ks ms:List Int}{c:Bool}(g:Gz k rs)(S:Ov rs ks)(o:Y9 rs ns c)(hc:c=true->3<=ns.length)(h:(ks.map (road rs)).Perm ((Gm ns c).map λt=>Jo t.1 t.2))(pm:ms.Perm ((Gm ns c).map (Oz rs)))(so:ms.Pairwise (· <= ·)):ms=ks:=by
 have T:=Vf g o hc pm so;have p1:(ms.map (road rs)).Perm (ks.map (road rs)):=by
  have:=pm.map (road rs);rw [J5 g o.1] at this;exact this.trans h.symm
 have p2:=VO g T.2 S.2 p1;exact WM T.1 S.1 λz=>p2.mem_iff
theorem WN (a:Int)(tl:List Int):(a::tl).getD tl.length 0∈a::tl:=JW (by rw [List.length_cons];lia)
theorem WO {k:Int}{rs rest:List (Int×Int)}{ks tl:List Int}{one other:Int}(g:Gz k rs)(E:Ends k one other)(w:Wk (cho rs ks rs.length) one tl rest)(S:Ov rs ks)(D:ZeP rs ks k one other)(hl:tl.length=ks.length) :
  Way rs one other (one::tl)/\∀ms:List Int,ms.Perm ((Gm (one::tl) false).map (Oz rs))->ms.Pairwise (· <= ·)->ms=ks:=by
 have hlt:=VP g ks;have hsub:∀r∈cho rs ks rs.length,r∈rs:=λr hr=>Uy hr;have e:=Uz S;have ll:=w.len hlt;rw [e,List.length_map] at ll;have hr0:rest=[]:=List.length_eq_zero_iff.mp (by lia);have pm:=w.perm hlt;rw [hr0,List.append_nil,JI] at pm;have dg:∀p,XE rs ks p+JZ one p+JZ ((one::tl).getD tl.length 0) p=2 * (one::tl).count p:=λp=>by
  rw [JS g p S.2,<-e,Ol pm,<-JI];exact J4 p tl one
 have rng:∀x∈one::tl,0<=x/\x<k:=λx hx=>by
  rcases List.mem_cons.mp hx with rfl | hx
  ·exact E.1
  ·obtain ⟨y,hy⟩:=w.met x hx;exact VN g (Vg hsub hy)
 have hL:=WN one tl;generalize hLe:(one::tl).getD tl.length 0=L at dg hL;have rL:=rng L hL;have s1:∀p,JZ p p=1:=λp=>if_pos rfl;have s0:∀p q,p≠q->JZ p q=0:=λp q h=>if_neg h;have h1:L≠one:=λz=>by
  have:=dg one;have d1:=D one E.1.1 E.1.2;rw [if_pos (.inl rfl)] at d1;rw [z,s1,d1] at this
  lia
 have h2:L=other:=by
  have:=dg L;have d1:=D L rL.1 rL.2;rw [s1,s0 _ _ (Ne.symm h1)] at this;by_cases z:L=one\/L=other
  ·exact z.elim (λy=>absurd y h1) id
  ·rw [if_neg z] at d1
   lia
 subst h2;have nd:(one::tl).Nodup:=List.nodup_iff_count.mpr λp=>by
  by_cases hp:p∈one::tl
  ·have r:=rng p hp;have:=dg p;have d1:=D p r.1 r.2;by_cases z:p=one\/p=L
   ·rw [if_pos z] at d1;rcases z with z | z
    ·rw [z,s1,s0 _ _ h1] at this;rw [z] at d1 ⊢
     lia
    ·rw [z,s1,s0 _ _ (Ne.symm h1)] at this;rw [z] at d1 ⊢
     lia
   ·rw [if_neg z] at d1;rw [s0 _ _ (λy=>z (.inl y.symm)),s0 _ _ (λy=>z (.inr y.symm))] at this
    lia
  ·rw [List.count_eq_zero.mpr hp];exact Nat.zero_le _
 have o:Y9 rs (one::tl) false:=⟨VQ g hsub pm,nd⟩;refine ⟨⟨List.cons_ne_nil _ _,rfl,?_,o⟩,λms p so=>YB g S o (λz=>absurd z Bool.false_ne_true) (e▸pm) p so⟩;exact hLe
theorem Vh {k:Int}{rs:List (Int×Int)}{ks tl ms:List Int}{one other:Int}(g:Gz k rs)(E:Ends k one other)(W:Way rs one other (one::tl))(pm:ms.Perm ((Gm (one::tl) false).map (Oz rs)))(so:ms.Pairwise (· <= ·))(e:ms=ks) :
  Ov rs ks/\ZeP rs ks k one other/\tl.length=ks.length:=by
 subst e;have o:=W.2.2.2;have S:=Vf g o (λz=>absurd z Bool.false_ne_true) pm so;have lo:(one::tl).getD tl.length 0=other:=W.2.2.1;have hp:(ms.map (road rs)).Perm (Ju (one::tl)):=by
  have:=pm.map (road rs);rw [J5 g o.1,<-JI] at this;exact this
 refine ⟨S,λp p0 p1=>?_,?_⟩
 ·have dg:=J4 p tl one;rw [lo,<-Ol hp,<-JS g p S.2,o.2.count] at dg;have s1:∀p,JZ p p=1:=λp=>if_pos rfl;have s0:∀p q,p≠q->JZ p q=0:=λp q h=>if_neg h;have hne:=E.2.2;by_cases z:p=one\/p=other
  ·rw [if_pos z];rcases z with z | z
   ·rw [z,s1,s0 _ _ (Ne.symm hne),if_pos (List.mem_cons_self ..)] at dg;rw [z]
    lia
   ·rw [z,s1,s0 _ _ hne,if_pos (by rw [<-lo];exact WN one tl)] at dg;rw [z]
    lia
  ·rw [if_neg z];rw [s0 _ _ (λy=>z (.inl y.symm)),s0 _ _ (λy=>z (.inr y.symm))] at dg;split at dg <;> lia
 ·rw [pm.length_eq,List.length_map,<-OX one tl,JI,List.length_map]
theorem WP:∀(tl:List Int)(a x:Int),(a::(tl++[x])).zip (tl++[x])=(a::tl).zip tl++[((a::tl).getD tl.length 0,x)]
 | [],a,x=>rfl
 | b::tl,a,x=>by
  have ih:=WP tl b x;show (a,b)::(b::(tl++[x])).zip (tl++[x])=_;rw [ih]
  rfl
theorem Oo (s:Int)(tl:List Int):(Gm (s::tl) true).map (λt=>Jo t.1 t.2)=Ju (s::(tl++[s])):=by
 unfold Ju Gm;rw [if_pos rfl];show _=((s::(tl++[s])).zip (tl++[s])).map _;rw [WP]
 rfl
theorem UA (p s:Int)(tl:List Int):Za p (Ju (s::(tl++[s])))=2 * (s::tl).count p:=by
 have:=J4 p (tl++[s]) s;have e:(s::(tl++[s])).getD (tl++[s]).length 0=s:=by
  rw [List.length_append,List.length_singleton,List.getD_eq_getElem?_getD,List.getElem?_cons_succ,List.getElem?_append_right (Nat.le_refl _),Nat.sub_self]
  rfl
 have c:(s::(tl++[s])).count p=(s::tl).count p+JZ s p:=by
  rw [show s::(tl++[s])=(s::tl)++[s] from rfl,List.count_append]
  congr 1
  unfold JZ;by_cases h:s=p
  ·rw [if_pos h,h,List.count_singleton_self]
  ·rw [if_neg h,List.count_eq_zero_of_not_mem (λz=>h (List.mem_singleton.mp z).symm)]
 rw [e,c] at this
 lia
def ZeQ (rs:List (Int×Int))(ks:List Int)(k:Int):Prop:=∀p,0<=p->p<k->XE rs ks p=0\/XE rs ks p=2
def Begins (ls:List (Int×Int))(s:Int):Prop:=(∀t∈ls,s<=t.1)/\∃t∈ls,t.1=s
theorem Begins.one {ls:List (Int×Int)}{s t:Int}(a:Begins ls s)(b:Begins ls t):s=t:=by
 obtain ⟨u,hu,e⟩:=a.2;obtain ⟨v,hv,f⟩:=b.2;have:=a.1 v hv;have:=b.1 u hu
 lia
theorem Z6 {k:Int}{rs rest:List (Int×Int)}{ks tl:List Int}{s:Int}(g:Gz k rs)(w:Wk (cho rs ks rs.length) s tl rest)(B:Begins (cho rs ks rs.length) s)(S:Ov rs ks)(h3:3<=ks.length)(D:ZeQ rs ks k)(hl:tl.length=ks.length) :
  Zcl rs (s::tl).dropLast/\∀ms:List Int,ms.Perm ((Gm (s::tl).dropLast true).map (Oz rs))->ms.Pairwise (· <= ·)->ms=ks:=by
 have hlt:=VP g ks;have hsub:∀r∈cho rs ks rs.length,r∈rs:=λr hr=>Uy hr;have e:=Uz S;have ll:=w.len hlt;rw [e,List.length_map] at ll;have hr0:rest=[]:=List.length_eq_zero_iff.mp (by lia);have pm:=w.perm hlt;rw [hr0,List.append_nil] at pm;have rS:0<=s/\s<k:=by
  obtain ⟨t,ht,et⟩:=B.2;have:=g.2.2.2.1 t (hsub t ht)
  lia
 obtain ⟨tl',x,rfl⟩:∃tl' x,tl=tl'++[x]:=⟨tl.dropLast,tl.getLast (λz=>by rw [z] at hl;simp at hl;lia),(List.dropLast_concat_getLast _).symm⟩;have ex:x=s:=by
  have:=J4 s (tl'++[x]) s;have e2:(s::(tl'++[x])).getD (tl'++[x]).length 0=x:=by
   rw [List.length_append,List.length_singleton,List.getD_eq_getElem?_getD,List.getElem?_cons_succ,List.getElem?_append_right (Nat.le_refl _),Nat.sub_self]
   rfl
  rw [<-Ol pm,e,<-JS g s S.2,e2,show JZ s s=1 from if_pos rfl] at this;by_cases z:x=s
  ·exact z
  ·rw [show JZ x s=0 from if_neg z] at this;have:=D s rS.1 rS.2
   lia
 subst ex;have rng:∀y∈x::tl',(0<=y/\y<k)/\x<=y:=λy hy=>by
  rcases List.mem_cons.mp hy with rfl | hy
  ·exact ⟨rS,Int.le_refl _⟩
  ·obtain ⟨z,hz⟩:=w.met y (List.mem_append_left _ hy);refine ⟨VN g (Vg hsub hz),?_⟩;rcases hz with hz | hz
   ·have:=B.1 _ hz;have:=hlt _ hz;dsimp only at *
    lia
   ·exact B.1 _ hz
 have nd:(x::tl').Nodup:=List.nodup_iff_count.mpr λp=>by
  by_cases hp:p∈x::tl'
  ·have r:=(rng p hp).1;have:=UA p x tl';rw [<-Ol pm,e,<-JS g p S.2] at this;have:=D p r.1 r.2
   lia
  ·rw [List.count_eq_zero.mpr hp];exact Nat.zero_le _
 have ed:(x::(tl'++[x])).dropLast=x::tl':=by
  rw [show x::(tl'++[x])=(x::tl')++[x] from rfl,List.dropLast_concat]
 rw [ed];rw [List.length_append,List.length_singleton] at hl;rw [<-Oo] at pm;have o:Y9 rs (x::tl') true:=⟨VQ g hsub pm,nd⟩;have h3':3<=(x::tl').length:=by rw [List.length_cons];lia
 refine ⟨⟨h3',λy hy=>(rng y hy).2,?_,o⟩,λms p so=>YB g S o (λ_=>h3') (e▸pm) p so⟩;have hcl:Adj (cho rs ks rs.length) x ((x::tl').getD ((x::tl').length-1) 0):=by
  refine ZbS ((JL hlt _ _).mp (pm.mem_iff.mpr (List.mem_map.mpr ⟨((x::tl').getD ((x::tl').length-1) 0,x),?_,rfl⟩)));unfold Gm;rw [if_pos rfl];exact List.mem_append_right _ (List.mem_singleton.mpr rfl)
 cases tl' with
 | nil=>exact absurd h3' (by simp)
 | cons q t2=>
  have w':Wk (cho rs ks rs.length) x (q::(t2++[x])) rest:=w;cases w' with
  | go a least _=>
   have:=least _ hcl;have ne:=J9 nd (i:=1) (j:=(x::q::t2).length-1) (by lia) (by lia) (by lia);have e1:(x::q::t2).getD 1 0=q:=rfl;rw [e1] at ne ⊢
   lia
theorem Vi {k:Int}{rs:List (Int×Int)}{ks ns ms:List Int}(g:Gz k rs)(R:Zcl rs ns)(pm:ms.Perm ((Gm ns true).map (Oz rs)))(so:ms.Pairwise (· <= ·))(e:ms=ks) :
  Ov rs ks/\3<=ks.length/\ZeQ rs ks k/\ns.length=ks.length:=by
 subst e;have o:=R.2.2.2;have S:=Vf g o (λ_=>R.1) pm so;obtain ⟨s,tl,rfl⟩:∃s tl,ns=s::tl:=by
  cases ns with
  | nil=>exact absurd R.1 (by simp)
  | cons s tl=>exact ⟨s,tl,rfl⟩
 have hp:(ms.map (road rs)).Perm (Ju (s::(tl++[s]))):=by
  have:=pm.map (road rs);rw [J5 g o.1,Oo] at this;exact this
 have hl:(s::tl).length=ms.length:=by
  have:=hp.length_eq;rw [List.length_map,OX,List.length_append,List.length_singleton] at this;rw [List.length_cons]
  lia
 refine ⟨S,by have:=R.1;lia,λp _ _=>?_,hl⟩;rw [JS g p S.2,Ol hp,UA,o.2.count];split <;> lia
end M
namespace M
open PySem L2
section
variable {P:Program}{w:World}{K:W.Frag}{mg:Str->Option Value}{base:Heap}
def ZbT:Sp:=λvs H Q _=>∃(wb l pl:Addr)(k:Int)(xs:List V)(rs:List (Int×Int))(ns:List Int)(c:Bool),vs=[.ref wb,.ref pl,.bl c]/\WebAt H wb l k xs rs/\Gz k rs/\H pl=some (.lst (ns.map V.int))/\ns.length<=50/\(c=true->ns≠[])/\(∀t∈Gm ns c,Adj rs t.1 t.2) /\
 ∀(re:Addr)(ms:List Int)(H':Hp),Same H H'->H re=none->H' re=some (.lst (ms.map V.int))->ms.Perm ((Gm ns c).map (Oz rs))->ms.Pairwise (· <= ·)->Q (.ref re) H'
theorem scRds:Gv ["web", "places", "closed", "numbers"] ["web", "places", "closed"] (Gg Wa):=⟨rfl,rfl,rfl,by decide +kernel,rfl,by decide +kernel,by decide +kernel⟩
theorem Zdf {f fU fV:Addr}{dV:Value}{fd fdU fdV:FuncData}(F:FunD K "roads_of" "roads_of" Wa dV f fd)(FU:Fun K "numbers_by_step" "numbers_by_step" ZW fU fdU)(bU:Binds K fdU ["web"] [])(mU:mg "numbers_by_step" = some (.ref fU))(FV:Fun K "steps_of" "steps_of" ZaF fV fdV)(bV:Binds K fdV ["places", "closed"] [])(mV:mg "steps_of" = some (.ref fV))(mEnum:mg "enumerate" = none)(mLst:mg "list" = none)(mZip:mg "zip" = none)(mSor:mg "sorted" = none):GS P w K mg base CX0 2 f fd ["web", "places", "closed"] ZbT:=by
 have GU:GS P w K mg base CX0 1 fU fdU ["web"] ZbO:=ZaK FU mEnum;have GV:GS P w K mg base CX0 1 fV fdV ["places", "closed"] ZbP:=ZaL FV mLst mZip;refine F.ok scRds (λvs H Q E h=>?_) (λcdv A outer s H vs Q E hr h=>?_)
 ·obtain ⟨_,_,_,_,_,_,_,_,rfl,_⟩:=h
  rfl
 ·obtain ⟨wb,l,pl,k,xs,rs,ns,c,rfl,W,g,hp,hn,hc,adj,q⟩:=h;have hu1:(A.deeper (PyProof.Rows.envOfC "roads_of" (Gg Wa) s.heap.objs.size f cdv)).units+1<cLine:=by have:=hr.un;lia
  have h16:(16777216:Nat)=sizeLine:=sizeLine_eq.symm;have hx:xs.length<=30:=by rw [W.p.len];exact g.2.2.1
  refine ⟨_,Gh (GE (i:=3) scRds.nd rfl (Or.inr rfl) (Gs GU (hr.mono (by decide)) rfl mU FU.kp bU .nil G2 (Ga (pv 0) Gf)))
    (Gi (Gw (Gk (OB K) rfl mSor PyProof.Rows.boot_sorted (Ga (Jl (own:=["step"]) rfl (Gr (fr:=[("numbers", 3)]) [(".0", .local),("step", .local),("numbers", .cell)] rfl rfl (by decide +kernel) rfl (by decide +kernel) ⟨rfl,trivial⟩ ⟨λh=>GT h,λh=>GT h,λ_=>⟨_,rfl⟩,trivial⟩ ⟨⟨rfl,.inl rfl,.inl rfl⟩,trivial⟩) (Uq K (Gs GV (hr.mono (by decide)) rfl mV FV.kp bV .nil G2 (Ga (pv 1) (Ga (pv 2) Gf)))) (λ_ _ _ _=>Gy (i:=0) (show List.Nodup (["step", "numbers"]:List Str) by decide +kernel) rfl (Or.inl rfl)) (λ_ _ _ _=>Ja) (λ_ _ _ _=>V4 hu1 (pv 1) (pv 0) (λ_ _=>rfl))) Gf)))),?_⟩
  refine ⟨_,rfl,wb,l,k,xs,rs,rfl,W,hx,λd H1 kvs s1 hd ed val=>?_⟩;refine ⟨_,rfl,_,rfl,pl,ns,c,rfl,s1 _ _ hp,by lia,hc,λS ws H2 s2 hS eS pS=>?_⟩;have s12:=s1.trans s2;have ed2:=s2 _ _ ed;have lst:(Gm ns c).length<=51:=by
   unfold Gm;rw [List.length_append,List.length_zip];split <;> simp <;> lia
  have lws:ws.length<=51:=by rw [pS.len];exact lst
  refine ⟨S,rfl,⟨_,SqL.of eS⟩,λD hD=>?_⟩;refine JH (K:=K) (a:=S) (xs:=ws) (λi ys H3=>Same H2 H3/\H3 D=some (.lst ys)/\ys=(((Gm ns c).take i).map (Oz rs)).map V.int) ⟨Same.new hD,Gb,rfl⟩ (λi ys H3 _ ⟨s3,_⟩=>SqL.of (s3 _ _ eS)) ?_ ?_
  ·rintro i x ys H3 hxi ⟨s3,hD3,rfl⟩;obtain ⟨t,r,rfl,et,er⟩:=(pS.same s3).get hxi;have hi:i<ws.length:=(List.getElem?_eq_some_iff.mp hxi).1;obtain ⟨j,hj,mj⟩:=Yx (adj r (List.mem_of_getElem? er));refine ⟨⟨rfl,trivial⟩,?_⟩;unfold UR;refine Jg ?_;have dg:DGet H3 d (.ref t) (some (.int (j:Nat))):=by
    have:=DGet.t (k:=ky r.1 r.2) (s3 _ _ ed2) et;rw [val r.1 r.2,Uw g mj rs.length hj (Nat.le_refl _)] at this;exact this
   refine ⟨_,rfl,_,rfl,d,_,rfl,dg,hD3,?_,s3.put hD,Gb,?_⟩
   ·rw [List.length_map,List.length_map,List.length_take]
    lia
   ·rw [List.take_add_one,er,List.map_append,List.map_append];show _=_++[V.int (Oz rs r)];rw [Wc g hj mj]
  rintro ys H3 ⟨s3,hD3,rfl⟩;rw [pS.len,List.take_length] at hD3;refine ⟨D,_,rfl,SqL.of hD3,by rw [List.length_map];lia,λre ms hre pm so=>?_⟩;have s13:=s12.trans s3;exact q re ms _ (s13.put (s13.free hre)) (s13.free hre) Gb pm so
end
end M
namespace M
open PySem L2
section
variable {P:Program}{w:World}{K:W.Frag}{mg:Str->Option Value}{base:Heap}
def Zdg (C:Addr):Sp:=λvs H Q E=>∃(wb l:Addr)(k p:Int),vs=[.ref wb,.int p]/\H wb=some (.tup [.int k,.ref l])/\(((0<=p/\p<k)/\Q .non H)\/(¬ (0<=p/\p<k)/\E (.ref C) none H))
theorem ZeR:Gv ["web", "place"] ["web", "place"] (Gg Zbx):=⟨rfl,rfl,rfl,by decide +kernel,rfl,by decide +kernel,by decide +kernel⟩
theorem Zdh {f fI C:Addr}{fd fdI:FuncData}(F:Fun K "check_place" "check_place" Zbx f fd)(FI:Fun K "is_place" "is_place" sIs fI fdI)(bI:Binds K fdI ["web", "place"] [])(mI:mg "is_place" = some (.ref fI))(mC:mg "NoPlace" = some (.ref C))(xC:ExcC K C) :
  GS P w K mg base (CXr P w) 2 f fd ["web", "place"] (Zdg C):=by
 have GI:GS P w K mg base CX0 1 fI fdI ["web", "place"] Zen:=ZbR FI;refine F.okR ZeR (λvs H Q E h=>?_) (λcdv A outer s H vs Q E hr h=>?_)
 ·obtain ⟨_,_,_,_,rfl,_⟩:=h
  rfl
 ·obtain ⟨wb,l,k,p,rfl,hw,h⟩:=h;refine ⟨_,Gi (Jj (OZ (OE (Gs GI (hr.mono (by decide)) rfl mI FI.kp bI .nil G2 (Ga (pv 0) (Ga (pv 1) Gf))))) (Gi (Ua (E:=E) rfl JU rfl mC xC (Ga GQ Gf))) GF),?_⟩;refine ⟨_,rfl,_,rfl,wb,l,k,p,rfl,hw,⟨_,rfl,?_⟩⟩;rcases h with ⟨hin,q⟩ | ⟨hout,q⟩
  ·rw [decide_eq_true hin];refine GG ?_;exact q
  ·rw [decide_eq_false hout];refine Jg ?_;exact ⟨by decide,q⟩
def Xs (r:Int×Int)(p:Int):Bool:=decide (r.1=p\/r.2=p)
theorem Zf3 (p a b:Int):inV (.int p) [.int a,.int b]=Xs (a,b) p:=by
 unfold inV Xs;by_cases h1:a=p <;> by_cases h2:b=p <;> simp [eqV,h1,h2]
def YC (rs:List (Int×Int))(p:Int):List Int:=(rs.filter λr=>Xs r p).map λr=>r.1+r.2-p
theorem Z7 (rs:List (Int×Int))(p:Int):(YC rs p).length<=rs.length:=by
 unfold YC;rw [List.length_map];exact List.length_filter_le _ _
theorem YD (rs:List (Int×Int))(p:Int)(i:Nat){r:Int×Int}(h:rs[i]?=some r):YC (rs.take (i+1)) p=YC (rs.take i) p++(if Xs r p=true then [r.1+r.2-p] else []):=by
 unfold YC;rw [List.take_add_one,h];show List.map _ (List.filter _ (rs.take i++[r]))=_;rw [List.filter_append,List.map_append,List.filter_cons,List.filter_nil];by_cases z:Xs r p=true
 ·rw [if_pos z,if_pos z];rfl
 ·rw [if_neg z,if_neg z];rfl
def Zdi (C:Addr):Sp:=λvs H Q E=>∃(wb l:Addr)(k p:Int)(xs:List V)(rs:List (Int×Int)),vs=[.ref wb,.int p]/\WebAt H wb l k xs rs/\xs.length<=60 /\
 (((0<=p/\p<k)/\∀(r:Addr)(ns:List Int)(H':Hp),Same H H'->H r=none->H' r=some (.lst (ns.map V.int))->ns.Perm (YC rs p)->ns.Pairwise (· <= ·)->Q (.ref r) H')\/(¬ (0<=p/\p<k)/\E (.ref C) none H))
theorem ZeS:Gv ["web", "place"] ["web", "place"] (Gg Zby):=⟨rfl,rfl,rfl,by decide +kernel,rfl,by decide +kernel,by decide +kernel⟩
theorem Zdj {f fH C:Addr}{fd fdH:FuncData}(F:Fun K "beside" "beside" Zby f fd)(FH:Fun K "check_place" "check_place" Zbx fH fdH)(bH:Binds K fdH ["web", "place"] [])(mH:mg "check_place" = some (.ref fH))(GH:GS P w K mg base (CXr P w) 2 fH fdH ["web", "place"] (Zdg C))(mSor:mg "sorted" = none):GS P w K mg base (CXr P w) 3 f fd ["web", "place"] (Zdi C):=by
 refine F.okR ZeS (λvs H Q E h=>?_) (λcdv A outer s H vs Q E hr h=>?_)
 ·obtain ⟨_,_,_,_,_,_,rfl,_⟩:=h
  rfl
 ·obtain ⟨wb,l,k,p,xs,rs,rfl,W,hx,h⟩:=h;have h16:(16777216:Nat)=sizeLine:=sizeLine_eq.symm;refine ⟨_,Gh (Ji (Gs GH (hr.mono (by decide)) rfl mH FH.kp bH .nil Zr (Ga (pv 0) (Ga (pv 1) Gf))))
    (Gi (Gw (Gk (OB K) rfl mSor PyProof.Rows.boot_sorted (Ga (Jl (own:=["a", "b"]) rfl (Gr (fr:=[("place", 1)]) [(".0", .local),("a", .local),("b", .local),("place", .cell)] rfl rfl (by decide +kernel) rfl (by decide +kernel) ⟨rfl,trivial⟩ ⟨λh=>GT h,λh=>GT h,λh=>GT h,λ_=>⟨_,rfl⟩,trivial⟩ ⟨⟨rfl,.inl rfl,.inl rfl⟩,trivial⟩) (Uq K (Gj (Je K) (pv 0) Gc (λ_ _=>rfl))) (λ_ _ _ _=>Zaz K (n:=2) rfl (G7 (Gy (i:=0) (show List.Nodup (["a", "b", "place"]:List Str) by decide +kernel) rfl (Or.inl rfl)) (G7 (Gy (i:=1) (show List.Nodup (["a", "b", "place"]:List Str) by decide +kernel) rfl (Or.inl rfl)) Of))) (λ_ _ _ _=>J7 (Gp (kIn K) (pv 2) (Jf (Ga (pv 0) (Ga (pv 1) Gf))) (by with_unfolding_all rfl))) (λ_ _ _ _=>GB Vs (GB Jp (pv 0) (pv 1)) (pv 2))) Gf)))),?_⟩
  rcases h with ⟨hin,q⟩ | ⟨hout,q⟩
  ·refine ⟨_,rfl,_,rfl,wb,l,k,p,rfl,W.w,.inl ⟨hin,?_⟩⟩;refine ⟨_,rfl,wb,_,_,_,rfl,rfl,SqT.of W.w,Ge (j:=1) rfl,l,rfl,⟨_,SqL.of W.l⟩,λD hD=>?_⟩;refine JH (K:=K) (a:=l) (xs:=xs) (λi ys H2=>Same H H2/\H2 D=some (.lst ys)/\ys=(YC (rs.take i) p).map V.int) ⟨Same.new hD,Gb,rfl⟩ (λi ys H2 _ ⟨s2,_⟩=>SqL.of (s2 _ _ W.l)) ?_ ?_
   ·rintro i x ys H2 hxi ⟨s2,hD2,rfl⟩;obtain ⟨t,r,rfl,et,er⟩:=W.p.get hxi;have hi:i<xs.length:=(List.getElem?_eq_some_iff.mp hxi).1;refine ⟨t,_,rfl,SqT.of (s2 _ _ et),rfl,_,_,rfl,_,_,rfl,rfl,⟨rfl,trivial⟩,?_⟩;refine ⟨_,rfl,_,rfl,_,rfl,Jr,λT hT=>⟨T,_,rfl,.inr (SqT.of Gb),rfl,rfl,_,rfl,?_⟩⟩;show if (inV (.int p) [.int r.1,.int r.2])=true then _ else _
    have sc:=YD rs p i er;have s3:Same H (upd H2 T (.tup [.int r.1,.int r.2])):=s2.put (s2.free hT);have hDT:D≠T:=Gn hD2 hT;rw [Zf3];refine O4 (λz=>?_) (λz=>?_)
    ·rw [if_pos z] at sc;refine ⟨_,rfl,_,rfl,_,_,rfl,rfl,_,rfl,_,_,rfl,rfl,G0 hD2 hDT,?_,s3.put hD,Gb,by rw [sc,List.map_append];rfl⟩;rw [List.length_map];have:=Z7 (rs.take i) p;rw [List.length_take] at this
     lia
    ·rw [if_neg z,List.append_nil] at sc;exact ⟨s3,G0 hD2 hDT,by rw [sc]⟩
   ·rintro ys H2 ⟨s2,hD2,rfl⟩;rw [W.p.len,List.take_length] at hD2;refine ⟨D,_,rfl,SqL.of hD2,?_,λr ns hr hp hs=>q r ns _ (s2.put (s2.free hr)) (s2.free hr) Gb hp hs⟩;unfold YC;rw [List.length_map];have:=List.length_filter_le (λr=>Xs r p) rs;have:=W.p.len
    lia
  ·exact ⟨_,rfl,_,rfl,wb,l,k,p,rfl,W.w,.inr ⟨hout,q⟩⟩
end
end M
namespace M
open PySem L2
section
variable {P:Program}{w:World}{K:W.Frag}{mg:Str->Option Value}{base:Heap}
def Z8:Sp:=λvs H Q _=>∃(wb l kl:Addr)(k:Int)(xs:List V)(rs:List (Int×Int))(ks:List Int),vs=[.ref wb,.ref kl]/\WebAt H wb l k xs rs/\xs.length<=30/\H kl=some (.lst (ks.map V.int)) /\
 ∀(r:Addr)(ys:List V)(H':Hp),Same H H'->H r=none->H' r=some (.lst ys)->Prs H' ys (cho rs ks rs.length)->Q (.ref r) H'
theorem ZeT:Gv ["web", "roads"] ["web", "roads"] (Gg ZY):=⟨rfl,rfl,rfl,by decide +kernel,rfl,by decide +kernel,by decide +kernel⟩
theorem YE {f:Addr}{fd:FuncData}(F:Fun K "chosen_roads" "chosen_roads" ZY f fd)(mEnum:mg "enumerate" = none):GS P w K mg base CX0 1 f fd ["web", "roads"] Z8:=by
 refine F.ok ZeT (λvs H Q E h=>?_) (λcdv A outer s H vs Q E hr h=>?_)
 ·obtain ⟨_,_,_,_,_,_,_,rfl,_⟩:=h
  rfl
 ·obtain ⟨wb,l,kl,k,xs,rs,ks,rfl,W,hx,hk,q⟩:=h;have h16:(16777216:Nat)=sizeLine:=sizeLine_eq.symm;refine ⟨_,Gi (Gw (Jl (own:=["number", "road"]) rfl (Gr (fr:=[("roads", 1)]) [(".0", .local),("number", .local),("road", .local),("roads", .cell)] rfl rfl (by decide +kernel) rfl (by decide +kernel) ⟨rfl,trivial⟩ ⟨λh=>GT h,λh=>GT h,λh=>GT h,λ_=>⟨_,rfl⟩,trivial⟩ ⟨⟨rfl,.inl rfl,.inl rfl⟩,trivial⟩) (Zbc K rfl mEnum (Ga (Gj (Je K) (pv 0) Gc (λ_ _=>rfl)) Gf)) (λ_ _ _ _=>Zaz K (n:=2) rfl (G7 (Gy (i:=0) (show List.Nodup (["number", "road", "roads"]:List Str) by decide +kernel) rfl (Or.inl rfl)) (G7 (Gy (i:=1) (show List.Nodup (["number", "road", "roads"]:List Str) by decide +kernel) rfl (Or.inl rfl)) Of))) (λ_ _ _ _=>J7 (Gp (kIn K) (pv 0) (pv 2) (by with_unfolding_all rfl))) (λ_ _ _ _=>pv 1))),?_⟩;refine ⟨_,rfl,wb,_,_,_,rfl,rfl,SqT.of W.w,Ge (j:=1) rfl,l,xs,rfl,SqL.of W.l,λD hD=>?_⟩;refine VF (K:=K) (a:=l) (xs:=xs) (λi ys H2=>Same H H2/\H2 D=some (.lst ys)/\Prs H2 ys (cho rs ks i)) ⟨Same.new hD,Gb,.nil⟩ (λi ys H2 _ ⟨s2,_⟩=>SqL.of (s2 _ _ W.l)) ?_ ?_
  ·rintro i x ys H2 T hxi ⟨s2,hD2,pr⟩ hT;obtain ⟨t,r,rfl,et,er⟩:=W.p.get hxi;have hi:i<xs.length:=(List.getElem?_eq_some_iff.mp hxi).1;have s23:Same H2 (upd H2 T (.tup [.int (i:Nat),.ref t])):=Same.new hT;have s3:Same H (upd H2 T (.tup [.int (i:Nat),.ref t])):=s2.put (s2.free hT);have hDT:D≠T:=Gn hD2 hT;have eg:rs.getD i (0,0)=r:=by rw [List.getD_eq_getElem?_getD,er];rfl
   refine ⟨T,_,rfl,SqT.of Gb,rfl,_,_,rfl,_,_,rfl,rfl,⟨rfl,trivial⟩,?_⟩;refine ⟨_,rfl,_,rfl,kl,_,rfl,.inl (SqL.of (s3 _ _ hk)),rfl,Yu _,_,rfl,?_⟩;show if (inV (.int (i:Nat)) (ks.map V.int))=true then _ else _
   rw [Z2];have hcl:=Ve rs ks i;have hpl:=pr.len;refine O4 (λz=>?_) (λz=>?_)
   ·refine ⟨_,rfl,G0 hD2 hDT,by lia,s3.put hD,Gb,?_⟩;rw [WL,if_pos (of_decide_eq_true z),eg];exact Prs.keep (Prs.snoc (pr.same s23) (s3 _ _ et)) (OK (G0 hD2 hDT))
   ·refine ⟨s3,G0 hD2 hDT,?_⟩;rw [WL,if_neg (λy=>z (decide_eq_true y)),List.append_nil];exact pr.same s23
  ·rintro ys H2 ⟨s2,hD2,pr⟩;rw [W.p.len] at pr;exact q D ys H2 s2 hD hD2 pr
theorem mem_bes {ls:List (Int×Int)}{p x:Int}:x∈YC ls p↔Adj ls p x:=by
 unfold YC Adj;rw [List.mem_map];constructor
 ·rintro ⟨r,hr,rfl⟩;obtain ⟨h1,h2⟩:=List.mem_filter.mp hr;obtain ⟨a,b⟩:=r;rcases of_decide_eq_true h2 with e | e
  ·left;have:a=p:=e;subst this;rw [show a+b-a=b by lia];exact h1
  ·right;have:b=p:=e;subst this;rw [show a+b-b=a by lia];exact h1
 ·rintro (h | h)
  ·exact ⟨_,List.mem_filter.mpr ⟨h,decide_eq_true (.inl rfl)⟩,by dsimp only;lia⟩
  ·exact ⟨_,List.mem_filter.mpr ⟨h,decide_eq_true (.inr rfl)⟩,by dsimp only;lia⟩
def ZbU:Sp:=λvs H Q _=>∃(wb l kl:Addr)(k p:Int)(xs:List V)(rs:List (Int×Int))(ks:List Int),vs=[.ref wb,.int p,.ref kl]/\WebAt H wb l k xs rs/\Gz k rs/\H kl=some (.lst (ks.map V.int))/\(0<=p/\p<k) /\
 ∀(r:Addr)(tl:List Int)(rest:List (Int×Int))(H':Hp),Same H H'->H r=none->H' r=some (.lst ((p::tl).map V.int))->Wk (cho rs ks rs.length) p tl rest->Q (.ref r) H'
theorem scWal:Gv ["web", "start", "roads", "left", "places", "ahead"] ["web", "start", "roads"] (Gg ZZ):=⟨rfl,rfl,rfl,by decide +kernel,rfl,by decide +kernel,by decide +kernel⟩
theorem Zdk {f fC fZ C:Addr}{fd fdC fdZ:FuncData}(F:Fun K "walk" "walk" ZZ f fd)(FC:Fun K "chosen_roads" "chosen_roads" ZY fC fdC)(bC:Binds K fdC ["web", "roads"] [])(mC:mg "chosen_roads" = some (.ref fC))(FZ:Fun K "beside" "beside" Zby fZ fdZ)(bZ:Binds K fdZ ["web", "place"] [])(mZ:mg "beside" = some (.ref fZ))(GZ:GS P w K mg base (CXr P w) 3 fZ fdZ ["web", "place"] (Zdi C))(mEnum:mg "enumerate" = none)(mMin:mg "min" = none)(mMax:mg "max" = none):GS P w K mg base CX0 4 f fd ["web", "start", "roads"] ZbU:=by
 have GC:GS P w K mg base CX0 1 fC fdC ["web", "roads"] Z8:=YE FC mEnum;refine F.ok scWal (λvs H Q E h=>?_) (λcdv A outer s H vs Q E hr h=>?_)
 ·obtain ⟨_,_,_,_,_,_,_,_,rfl,_⟩:=h
  rfl
 ·obtain ⟨wb,l,kl,k,p,xs,rs,ks,rfl,W,g,hk,hp,q⟩:=h;have h16:(16777216:Nat)=sizeLine:=sizeLine_eq.symm;have hu5:(A.deeper (PyProof.Rows.envOfC "walk" (Gg ZZ) s.heap.objs.size f cdv)).units+65<cLine:=by have:=hr.un;lia
  have hx:xs.length<=30:=by rw [W.p.len];exact g.2.2.1
  refine ⟨_,Gh (GE (i:=3) scWal.nd rfl (Or.inl rfl) (Gs GC (hr.mono (by decide)) rfl mC FC.kp bC .nil G2 (Ga (pv 0) (Ga (pv 2) Gf))))
    (Gh (GE (i:=4) scWal.nd rfl (Or.inl rfl) (G8 (Ga (pv 1) Gf)))
    (Gh (GE (i:=5) scWal.nd rfl (Or.inl rfl) (Gs GZ (hr.mono (by decide)) rfl mZ FZ.kp bZ .nil X4 (Ga (Jf (Ga (Gj (Je K) (pv 0) Gc (λ_ _=>rfl)) (Ga (pv 3) Gf))) (Ga (pv 1) Gf))))
    (Gh (U0 PassesOwn.never (U3 (pv 5) (λ_=>rfl))
    (Gh (Ji (Ou PySem.F.plainAttrs_list PySem.F.slot_list_remove PySem.F.type_list_remove (ZeI K hu5) (pv 3) (Ga (Jf (Ga (Gk (OG rfl) rfl mMin Ub (Ga (Gj (Jt K) (pv 4) (OF JB Gc) (λ_ _=>rfl)) (Ga (Gj (Jt K) (pv 5) Gc (λ_ _=>rfl)) Gf))) (Ga (Gk (Og rfl) rfl mMax OO (Ga (Gj (Jt K) (pv 4) (OF JB Gc) (λ_ _=>rfl)) (Ga (Gj (Jt K) (pv 5) Gc (λ_ _=>rfl)) Gf))) Gf))) Gf)))
    (Gh (Ji (Ou PySem.F.plainAttrs_list PySem.F.slot_list_append PySem.F.type_list_append G9 (pv 4) (Ga (Gj (Jt K) (pv 5) Gc (λ_ _=>rfl)) Gf)))
    (Gi (GE (i:=5) scWal.nd rfl (Or.inl rfl) (Gs GZ (hr.mono (by decide)) rfl mZ FZ.kp bZ .nil X4 (Ga (Jf (Ga (Gj (Je K) (pv 0) Gc (λ_ _=>rfl)) (Ga (pv 3) Gf))) (Ga (Gj (Jt K) (pv 5) Gc (λ_ _=>rfl)) Gf))))))))
    (Gi (Gw (pv 4)))))),?_⟩
  refine ⟨_,rfl,_,rfl,wb,l,kl,k,xs,rs,ks,rfl,W,hx,hk,λla ys H1 s1 hla ela pla=>?_⟩;refine ⟨_,rfl,(by show 1<=sizeLine;lia),λpl hpl=>?_⟩;have s2:Same H1 (upd H1 pl (.lst [.int p])):=Same.new hpl;have epl:upd H1 pl (.lst [.int p]) pl=some (.lst ([p].map V.int)):=Gb;have hne:la≠pl:=Gn ela hpl;have hHpl:H pl=none:=s1.free hpl;generalize upd H1 pl (.lst [.int p])=H2 at s2 epl ⊢;have W2:=(W.same s1).same s2;refine ⟨_,rfl,wb,_,_,_,rfl,rfl,SqT.of W2.w,Ge (j:=0) rfl,_,rfl,Jr,λw1 hw1=>?_⟩;have s3:Same H2 (upd H2 w1 (.tup [.int k,.ref la])):=Same.new hw1;have ew1:upd H2 w1 (.tup [.int k,.ref la]) w1=some (.tup [.int k,.ref la]):=Gb;generalize upd H2 w1 (.tup [.int k,.ref la])=H3 at s3 ew1 ⊢;have S3:=(s1.trans s2).trans s3;have la3:H3 la=some (.lst ys):=s3 _ _ (s2 _ _ ela);have pr3:Prs H3 ys (cho rs ks rs.length):=(pla.same s2).same s3;have hcl:(cho rs ks rs.length).length<=30:=Nat.le_trans (Ve rs ks _) g.2.2.1;have hyl:=pr3.len;refine ⟨_,rfl,w1,la,k,p,ys,_,rfl,⟨ew1,la3,pr3⟩,by lia,.inl ⟨hp,λar ns H4 s4 har ear perm so=>?_⟩⟩;have hal:ar≠la:=λz=>by rw [z,la3] at har;cases har
  have hap:ar≠pl:=λz=>by rw [z,s3 _ _ epl] at har;cases har
  refine ⟨λm σ' H'=>∃(ar:Addr)(xl:List V)(ls:List (Int×Int))(front:List Int)(c:Int)(pre ns:List Int),σ'=[some (.ref wb),some (.int p),some (.ref kl),some (.ref la),some (.ref pl),some (.ref ar)]/\Same H H'/\H' la=some (.lst xl)/\Prs H' xl ls/\H' pl=some (.lst ((front++[c]).map V.int))/\H' ar=some (.lst (ns.map V.int))/\ns.Perm (YC ls c)/\ns.Pairwise (· <= ·)/\front++[c]=p::pre/\(0<=c/\c<k)/\(∀r∈ls,r∈rs)/\pre.length+ls.length<=30 /\
   (∀tl rest,Wk ls c tl rest->Wk (cho rs ks rs.length) p (pre++tl) rest)/\ar≠la/\ar≠pl/\m=ls.length,
   ⟨_,ar,ys,_,[],p,[],ns,rfl,S3.trans s4,s4 _ _ la3,pr3.same s4,s4 _ _ (s3 _ _ epl),ear,perm,so,rfl,hp,λr hr=>Uy hr,by rw [List.length_nil];lia,λtl rest h=>h,hal,hap,rfl⟩,?_⟩
  clear ear perm so hal hap har s4 pr3 la3 S3 s3 ew1 W2 epl s2 pla ela;rintro m σ' H' ⟨ar,xl,ls,front,c,pre,ns,rfl,s4,ela,pr,epl,ear,perm,so,efp,hc,sub,qJ,cont,hal,hap,rfl⟩;have hltl:∀r∈ls,r.1<r.2:=λr hr=>(g.2.2.2.1 r (sub r hr)).2.1;cases ns with
  | nil=>
   refine ⟨_,rfl,false,.inl ⟨_,SqL.of ear,rfl⟩,GG ?_⟩;have no:∀x,¬ Adj ls c x:=λx a=>by
    have:=perm.mem_iff.mpr (mem_bes.mpr a);cases this
   have wk:=cont [] ls (.stop no);rw [List.append_nil] at wk;rw [efp] at epl;exact ⟨_,rfl,q pl pre ls H' s4 hHpl epl wk⟩
  | cons x ns=>
   refine ⟨_,rfl,true,.inl ⟨_,SqL.of ear,rfl⟩,Jg ?_⟩;refine ⟨_,λ_ _ h=>h,?_⟩;have ax:Adj ls c x:=mem_bes.mp (perm.mem_iff.mp (List.mem_cons_self ..));have least:∀y,Adj ls c y->x<=y:=λy a=>by
    rcases List.mem_cons.mp (perm.mem_iff.mpr (mem_bes.mpr a)) with e | e
    ·lia
    ·exact (List.pairwise_cons.mp so).1 y e
   have mem:Jo c x∈ls:=(JL hltl _ _).mpr ax;have rx:=VN g (Vg sub ax);have hlast:atI ((front++[c]).map V.int) (-1)=some (.int c):=by
    rw [JR (by simp)]
    congr 2
    rw [List.length_append,List.length_singleton,Nat.add_sub_cancel,List.getD_eq_getElem?_getD,List.getElem?_append_right (Nat.le_refl _),Nat.sub_self]
    rfl
   have hfst:atI ((x::ns).map V.int) 0=some (.int x):=Ge (j:=0) rfl;have hfl:(front++[c]).length<=31:=by rw [efp,List.length_cons];lia
   refine ⟨_,rfl,.inl ⟨rfl,_,SqL.of ela⟩,_,rfl,_,rfl,pl,_,_,_,rfl,rfl,SqL.of epl,hlast,_,rfl,ar,_,_,_,rfl,rfl,SqL.of ear,hfst,_,_,rfl,?_⟩;refine ⟨_,rfl,_,rfl,pl,_,_,_,rfl,rfl,SqL.of epl,hlast,_,rfl,ar,_,_,_,rfl,rfl,SqL.of ear,hfst,_,_,rfl,Jr,λt ht=>?_⟩;have s5:Same H' (upd H' t (.tup [.int (Jo c x).1,.int (Jo c x).2])):=Same.new ht;have et:upd H' t (.tup [.int (Jo c x).1,.int (Jo c x).2]) t=some (.tup [.int (Jo c x).1,.int (Jo c x).2]):=Gb;dsimp only [Zav];refine ZfW (H:=upd H' t (.tup [.int (Jo c x).1,.int (Jo c x).2])) (t:=Jo c x) (s5 _ _ ela) (pr.same s5) et mem λxl' hxl pr'=>?_;generalize upd H' t (.tup [.int (Jo c x).1,.int (Jo c x).2])=H5 at s5 et pr' ⊢;have ela5:=s5 _ _ ela;have k6:=OK (o:=.lst xl') ela5;have s6:Same H (upd H5 la (.lst xl')):=(s4.trans s5).put hla;have ela6:upd H5 la (.lst xl') la=some (.lst xl'):=Gb;have epl6:upd H5 la (.lst xl') pl=some (.lst ((front++[c]).map V.int)):=G0 (s5 _ _ epl) (Ne.symm hne);have ear6:upd H5 la (.lst xl') ar=some (.lst ((x::ns).map V.int)):=G0 (s5 _ _ ear) hal;have pr6:=pr'.keep k6;generalize upd H5 la (.lst xl')=H6 at k6 s6 ela6 epl6 ear6 pr6 ⊢;refine ⟨_,rfl,.inl ⟨rfl,_,SqL.of epl6⟩,_,rfl,ar,_,_,_,rfl,rfl,SqL.of ear6,hfst,pl,_,_,rfl,rfl,epl6,by rw [List.length_map];lia,?_⟩;have k7:=OK (o:=.lst ((front++[c]).map V.int++[.int x])) epl6;have s7:Same H (upd H6 pl (.lst ((front++[c]).map V.int++[.int x]))):=s6.put hHpl;have ela7:upd H6 pl (.lst ((front++[c]).map V.int++[.int x])) la=some (.lst xl'):=G0 ela6 hne;have epl7:upd H6 pl (.lst ((front++[c]).map V.int++[.int x])) pl=some (.lst (((front++[c])++[x]).map V.int)):=by rw [Gb,List.map_append (l₁:=front++[c])];rfl
   have ear7:upd H6 pl (.lst ((front++[c]).map V.int++[.int x])) ar=some (.lst ((x::ns).map V.int)):=G0 ear6 hap;have pr7:=pr6.keep k7;generalize upd H6 pl (.lst ((front++[c]).map V.int++[.int x]))=H7 at k7 s7 ela7 epl7 ear7 pr7 ⊢;have W7:=W.same s7;refine ⟨_,rfl,wb,_,_,_,rfl,rfl,SqT.of W7.w,Ge (j:=0) rfl,_,rfl,Jr,λw2 hw2=>?_⟩;have s8:Same H7 (upd H7 w2 (.tup [.int k,.ref la])):=Same.new hw2;have ew2:upd H7 w2 (.tup [.int k,.ref la]) w2=some (.tup [.int k,.ref la]):=Gb;generalize upd H7 w2 (.tup [.int k,.ref la])=H8 at s8 ew2 ⊢;have hll:(ls.erase (Jo c x)).length+1=ls.length:=by
    rw [List.length_erase_of_mem mem];have:=List.length_pos_of_mem mem
    lia
   have hpx:=pr7.len;have ela8:=s8 _ _ ela7;have epl8:=s8 _ _ epl7;refine ⟨_,rfl,ar,_,_,_,rfl,rfl,SqL.of (s8 _ _ ear7),hfst,w2,la,k,x,xl',_,rfl,⟨ew2,ela8,pr7.same s8⟩,by lia,.inl ⟨rx,λar' ns' H9 s9 har' ear' perm' so'=>?_⟩⟩;have hal':ar'≠la:=λz=>by rw [z,ela8] at har';cases har'
   have hap':ar'≠pl:=λz=>by rw [z,epl8] at har';cases har'
   have efp':(front++[c])++[x]=p::(pre++[x]):=by rw [efp];rfl
   refine ⟨_,?_,ar',xl',_,front++[c],x,pre++[x],ns',rfl,(s7.trans s8).trans s9,s9 _ _ ela8,(pr7.same s8).same s9,s9 _ _ epl8,ear',perm',so',efp',rx,λr hr=>sub r (List.mem_of_mem_erase hr),?_,λtl rest h=>?_,hal',hap',rfl⟩
   ·lia
   ·rw [List.length_append,List.length_singleton]
    lia
   ·have:=cont (x::tl) rest (.go ax least h);rw [List.append_assoc];exact this
end
end M
namespace M
open PySem L2
section
variable {P:Program}{w:World}{K:W.Frag}{mg:Str->Option Value}{base:Heap}
def ZbV (rs:List (Int×Int))(ks:List Int)(k p q:Int)(tl:List Int):Prop:=Ov rs ks/\ZeP rs ks k p q/\tl.length=ks.length
def Zdl (C NW:Addr):Sp:=λvs H Q E=>∃(wb l kl:Addr)(k p q:Int)(xs:List V)(rs:List (Int×Int))(ks:List Int),vs=[.ref wb,.int p,.int q,.ref kl]/\WebAt H wb l k xs rs/\Gz k rs/\H kl=some (.lst (ks.map V.int)) /\
 ((Ends k p q/\∀(tl:List Int)(rest:List (Int×Int)),Wk (cho rs ks rs.length) p tl rest->(ZbV rs ks k p q tl->∀(r:Addr)(H':Hp),Same H H'->H r=none->H' r=some (.lst ((p::tl).map V.int))->Q (.ref r) H')/\(¬ ZbV rs ks k p q tl->∀H':Hp,Same H H'->E (.ref NW) none H'))\/(¬ Ends k p q/\E (.ref C) none H))
theorem scWof:Gv ["web", "one", "other", "roads", "places"] ["web", "one", "other", "roads"] (Gg ZaG):=⟨rfl,rfl,rfl,by decide +kernel,rfl,by decide +kernel,by decide +kernel⟩
theorem Wk.few {k:Int}{rs rest:List (Int×Int)}{ks tl:List Int}{p:Int}(g:Gz k rs)(w:Wk (cho rs ks rs.length) p tl rest):tl.length<=30:=by
 have h1:=w.len (VP g ks);have h2:=Ve rs ks rs.length;have h3:=g.2.2.1
 lia
theorem Zdm {f fH fK fY fR C NW:Addr}{dV:Value}{fd fdH fdK fdY fdR:FuncData}(F:Fun K "way_of" "way_of" ZaG f fd)(FH:Fun K "check_ends" "check_ends" ZV fH fdH)(bH:Binds K fdH ["web", "one", "other"] [])(mH:mg "check_ends" = some (.ref fH))(GH:GS P w K mg base (CXr P w) 2 fH fdH ["web", "one", "other"] (Z3 C))(FK:Fun K "walk" "walk" ZZ fK fdK)(bK:Binds K fdK ["web", "start", "roads"] [])(mK:mg "walk" = some (.ref fK))(GK:GS P w K mg base CX0 4 fK fdK ["web", "start", "roads"] ZbU)(FY:Fun K "is_way" "is_way" ZbA fY fdY)(bY:Binds K fdY ["web", "one", "other", "places"] [])(mY:mg "is_way" = some (.ref fY))(GY:GS P w K mg base (CXr P w) 3 fY fdY ["web", "one", "other", "places"] (Zda C))(FR:FunD K "roads_of" "roads_of" Wa dV fR fdR)(bR2:Binds K fdR ["web", "places", "closed"] [.bool false])(mR:mg "roads_of" = some (.ref fR))(GR:GS P w K mg base CX0 2 fR fdR ["web", "places", "closed"] ZbT)(mV:mg "NoWay" = some (.ref NW))(xV:ExcC K NW):GS P w K mg base (CXr P w) 5 f fd ["web", "one", "other", "roads"] (Zdl C NW):=by
 refine F.okR scWof (λvs H Q E h=>?_) (λcdv A outer s H vs Q E hr h=>?_)
 ·obtain ⟨_,_,_,_,_,_,_,_,_,rfl,_⟩:=h
  rfl
 ·obtain ⟨wb,l,kl,k,p,q',xs,rs,ks,rfl,W,g,hk,h⟩:=h;have hu:(A.deeper (PyProof.Rows.envOfC "way_of" (Gg ZaG) s.heap.objs.size f cdv)).units+64<cLine:=by have:=hr.un;lia
  have hx:xs.length<=30:=by rw [W.p.len];exact g.2.2.1
  refine ⟨_,Gh (Ji (Gs GH (hr.mono (by decide)) rfl mH FH.kp bH .nil Zr (Ga (pv 0) (Ga (pv 1) (Ga (pv 2) Gf)))))
    (Gh (GE (i:=4) scWof.nd rfl (Or.inl rfl) (Gs GK (hr.mono (by decide)) rfl mK FK.kp bK .nil G2 (Ga (pv 0) (Ga (pv 1) (Ga (pv 3) Gf)))))
    (Gh (Jj (PW.pt (OU (OZ (OE (Gs GY (hr.mono (by decide)) rfl mY FY.kp bY .nil Zr (Ga (pv 0) (Ga (pv 1) (Ga (pv 2) (Ga (pv 4) Gf))))))) (Ow (Gp (Zel K hu) (Gs (dvs:=[V.bl false]) GR (hr.mono (by decide)) rfl mR FR.kp bR2 (.cons rfl .nil) G2 (Ga (pv 0) (Ga (pv 4) Gf))) (pv 3) (Gx _))))) (Gi (Ua (E:=E) rfl JU rfl mV xV (Ga GQ Gf))) GF)
    (Gi (Gw (pv 4))))),?_⟩
  rcases h with ⟨en,h⟩ | ⟨en,e⟩
  ·refine ⟨_,rfl,_,rfl,_,rfl,wb,l,k,p,q',rfl,W.w,.inl ⟨en,?_⟩⟩;refine ⟨_,rfl,_,rfl,_,rfl,wb,l,kl,k,p,xs,rs,ks,rfl,W,g,hk,en.1,λr tl rest H1 s1 hr0 er wk=>?_⟩;obtain ⟨hyes,hno⟩:=h tl rest wk;have few:=wk.few g;have W1:=W.same s1;have hrl:(p::tl).length<=31:=by rw [List.length_cons];lia
   refine ⟨_,rfl,_,rfl,_,rfl,_,rfl,wb,l,r,k,p,q',xs,rs,p::tl,rfl,W1,hx,er,by lia,.inl ⟨en,λb H2 s2 hb=>?_⟩⟩;refine ⟨_,rfl,?_⟩;have raise:∀H3:Hp,Same H H3->¬ ZbV rs ks k p q' tl->E (.ref NW) none H3:=λH3 s3 n=>hno n H3 s3;cases b with
   | false=>
    refine Jg (Jg ⟨by decide,raise _ (s1.trans s2) λz=>?_⟩);have:=(WO g en wk z.1 z.2.1 z.2.2).1;exact absurd (hb.mpr this) Bool.false_ne_true
   | true=>
    refine GG ?_;have way:=hb.mp rfl;refine ⟨_,rfl,_,rfl,wb,l,r,k,xs,rs,p::tl,false,rfl,W1.same s2,g,s2 _ _ er,by lia,λz=>(by cases z),way.2.2.2.1,λre ms H3 s3 hre ere pm so=>?_⟩;refine ⟨_,rfl,.list (ms.map PyData.int),.list (ks.map PyData.int),.lst (SqL.of ere) (GP _),.lst (SqL.of (s3 _ _ (s2 _ _ (s1 _ _ hk)))) (GP _),GD _,GD _,_,rfl,?_⟩;rw [JE];have S3:=(s1.trans s2).trans s3;by_cases e:ms=ks
    ·rw [decide_eq_true e];refine GG ?_;exact ⟨_,rfl,hyes (Vh g en way pm so e) r H3 S3 hr0 (s3 _ _ (s2 _ _ er))⟩
    ·rw [decide_eq_false e];refine Jg ⟨by decide,raise _ S3 λz=>e ?_⟩;exact (WO g en wk z.1 z.2.1 z.2.2).2 ms pm so
  ·exact ⟨_,rfl,_,rfl,_,rfl,wb,l,k,p,q',rfl,W.w,.inr ⟨en,e⟩⟩
def Z9 (rs:List (Int×Int))(ks:List Int)(k:Int)(tl:List Int):Prop:=Ov rs ks/\3<=ks.length/\ZeQ rs ks k/\tl.length=ks.length
def Zdn (NW:Addr):Sp:=λvs H Q E=>∃(wb l kl:Addr)(k:Int)(xs:List V)(rs:List (Int×Int))(ks:List Int),vs=[.ref wb,.ref kl]/\WebAt H wb l k xs rs/\Gz k rs/\H kl=some (.lst (ks.map V.int)) /\
 ∀(s:Int)(tl:List Int)(rest:List (Int×Int)),(cho rs ks rs.length≠[]->Begins (cho rs ks rs.length) s)->Wk (cho rs ks rs.length) s tl rest->(Z9 rs ks k tl->∀(r:Addr)(H':Hp),Same H H'->H r=none->H' r=some (.lst ((s::tl).dropLast.map V.int))->Q (.ref r) H')/\(¬ Z9 rs ks k tl->∀H':Hp,Same H H'->E (.ref NW) none H')
theorem scCof:Gv ["web", "roads", "start", "places"] ["web", "roads"] (Gg Z0):=⟨rfl,rfl,rfl,by decide +kernel,rfl,by decide +kernel,by decide +kernel⟩
theorem Zdo (ns:List Int):OV (ns.map V.int) none (some (-1))=ns.dropLast.map V.int:=by
 unfold OV;rw [List.length_map,HT.sIx_none,List.drop_zero,Nat.sub_zero,List.dropLast_eq_take,List.map_take]
 congr 1
 unfold HT.sIx;by_cases h:ns.length=0
 ·rw [h];rfl
 ·simp only [show (-1:Int)<0 by decide,if_true]
  lia
theorem Zdp {f fC fK fL fR NW:Addr}{dV:Value}{fd fdC fdK fdL fdR:FuncData}(F:Fun K "closed_of" "closed_of" Z0 f fd)(FC:Fun K "chosen_roads" "chosen_roads" ZY fC fdC)(bC:Binds K fdC ["web", "roads"] [])(mC:mg "chosen_roads" = some (.ref fC))(FK:Fun K "walk" "walk" ZZ fK fdK)(bK:Binds K fdK ["web", "start", "roads"] [])(mK:mg "walk" = some (.ref fK))(GK:GS P w K mg base CX0 4 fK fdK ["web", "start", "roads"] ZbU)(FL:Fun K "is_closed" "is_closed" ZbB fL fdL)(bL:Binds K fdL ["web", "places"] [])(mL:mg "is_closed" = some (.ref fL))(GL:GS P w K mg base CX0 3 fL fdL ["web", "places"] Zdc)(FR:FunD K "roads_of" "roads_of" Wa dV fR fdR)(bR:Binds K fdR ["web", "places", "closed"] [])(mR:mg "roads_of" = some (.ref fR))(GR:GS P w K mg base CX0 2 fR fdR ["web", "places", "closed"] ZbT)(mEnum:mg "enumerate" = none)(mMin:mg "min" = none)(mV:mg "NoWay" = some (.ref NW))(xV:ExcC K NW):GS P w K mg base (CXr P w) 5 f fd ["web", "roads"] (Zdn NW):=by
 have GC:GS P w K mg base CX0 1 fC fdC ["web", "roads"] Z8:=YE FC mEnum;refine F.okR scCof (λvs H Q E h=>?_) (λcdv A outer s H vs Q E hr h=>?_)
 ·obtain ⟨_,_,_,_,_,_,_,rfl,_⟩:=h
  rfl
 ·obtain ⟨wb,l,kl,k,xs,rs,ks,rfl,W,g,hk,h⟩:=h;have hu:(A.deeper (PyProof.Rows.envOfC "closed_of" (Gg Z0) s.heap.objs.size f cdv)).units+64<cLine:=by have:=hr.un;lia
  have hu1:(A.deeper (PyProof.Rows.envOfC "closed_of" (Gg Z0) s.heap.objs.size f cdv)).units+1<cLine:=by have:=hr.un;lia
  have hx:xs.length<=30:=by rw [W.p.len];exact g.2.2.1
  refine ⟨_,Gh (GE (i:=2) scCof.nd rfl (Or.inl rfl) (Gj (Je K) (Yk (ZcV K rfl hu1) rfl mMin Us (Ga (Gs GC (hr.mono (by decide)) rfl mC FC.kp bC .nil G2 (Ga (pv 0) (Ga (pv 1) Gf))) Gf) (Za0 (Jf (Ga Gc (Ga Gc Gf))) ZcC)) Gc (λ_ _=>rfl)))
    (Gh (GE (i:=3) scCof.nd rfl (Or.inl rfl) (Js (kSl K) (Gs GK (hr.mono (by decide)) rfl mK FK.kp bK .nil G2 (Ga (pv 0) (Ga (pv 2) (Ga (pv 1) Gf)))) JJ (Jy (OF JB Gc))))
    (Gh (Jj (PW.pt (OU (OZ (OE (Gs GL (hr.mono (by decide)) rfl mL FL.kp bL .nil G2 (Ga (pv 0) (Ga (pv 3) Gf))))) (Ow (Gp (Zel K hu) (Gs GR (hr.mono (by decide)) rfl mR FR.kp bR .nil G2 (Ga (pv 0) (Ga (pv 3) (Ga Vp Gf)))) (pv 1) (Gx _))))) (Gi (Ua (E:=E) rfl JU rfl mV xV (Ga GQ Gf))) GF)
    (Gi (Gw (pv 3))))),?_⟩
  refine JA (λσ' H'=>∃a:Int,σ'=[some (.ref wb),some (.ref kl),some (.int a),none]/\Same H H'/\(0<=a/\a<k)/\(cho rs ks rs.length≠[]->Begins (cho rs ks rs.length) a)) ?sm ?fm
  case fm=>
   intro hkk;refine ⟨_,rfl,_,rfl,wb,l,kl,k,xs,rs,ks,rfl,W,hx,hk,λcl ys H1 s1 hcl ecl pcl=>?_⟩;refine ⟨Jr,λd0 hd0=>?_⟩;have s2:Same H1 (upd H1 d0 (.tup [.int 0,.int 0])):=Same.new hd0;have ed0:upd H1 d0 (.tup [.int 0,.int 0]) d0=some (.tup [.int 0,.int 0]):=Gb;generalize upd H1 d0 (.tup [.int 0,.int 0])=H2 at s2 ed0 ⊢;have S2:=s1.trans s2;have pcl2:=pcl.same s2;refine ⟨cl,ys,cho rs ks rs.length,.ref d0,rfl,rfl,SqL.of (s2 _ _ ecl),pcl2,λe0=>?_,λt r lp=>?_⟩
   ·refine ⟨d0,_,_,_,rfl,rfl,SqT.of ed0,Ge (j:=0) rfl,?_⟩;exact hkk _ _ ⟨0,rfl,S2,⟨by decide,by have:=g.1;lia⟩,λz=>absurd e0 z⟩
   ·obtain ⟨⟨i,ex,er⟩,lst⟩:=lp;obtain ⟨t',r',et',eh,er'⟩:=pcl2.get ex;cases et';rw [er] at er';cases er';have hm:r∈cho rs ks rs.length:=List.mem_of_getElem? er;have hg:=g.2.2.2.1 r (Uy hm);refine ⟨t,_,_,_,rfl,rfl,SqT.of eh,Ge (j:=0) rfl,?_⟩;refine hkk _ _ ⟨r.1,rfl,S2,⟨hg.1,by lia⟩,λ_=>⟨λu hu=>?_,r,hm,rfl⟩⟩;have:=lst u hu;rw [<-Bool.not_eq_true,ltP_iff] at this
    lia
  rintro σ' H1 ⟨a,rfl,s1,ra,bg⟩;have W1:=W.same s1;have hk1:=s1 _ _ hk;refine ⟨_,rfl,_,rfl,_,rfl,wb,l,kl,k,a,xs,rs,ks,rfl,W1,g,hk1,ra,λr tl rest H2 s2 hr0 er wk=>?_⟩;obtain ⟨hyes,hno⟩:=h a tl rest bg wk;have few:=wk.few g;refine ⟨_,rfl,_,rfl,r,_,rfl,SqL.of er,λpl hpl=>?_⟩;rw [show (-1:Int)=-1 from rfl,Zdo];have s3:Same H2 (upd H2 pl (.lst ((a::tl).dropLast.map V.int))):=Same.new hpl;have epl:upd H2 pl (.lst ((a::tl).dropLast.map V.int)) pl=some (.lst ((a::tl).dropLast.map V.int)):=Gb;generalize upd H2 pl (.lst ((a::tl).dropLast.map V.int))=H3 at s3 epl ⊢;have S3:=s2.trans s3;have hH:H pl=none:=s1.free (s2.free hpl);have hdl:(a::tl).dropLast.length<=30:=by rw [List.length_dropLast,List.length_cons];lia
  refine ⟨_,rfl,_,rfl,wb,l,pl,k,xs,rs,_,rfl,W1.same S3,hx,epl,by lia,λb H4 s4 hb=>?_⟩;refine ⟨_,rfl,?_⟩;have raise:∀H5:Hp,Same H1 H5->¬ Z9 rs ks k tl->E (.ref NW) none H5:=λH5 s5 n=>hno n H5 (s1.trans s5);have fwd:Z9 rs ks k tl->_:=λz=>Z6 g wk (bg λe=>by
   have:=Uz z.1;rw [e] at this;have l3:=z.2.1;have:ks=[]:=List.map_eq_nil_iff.mp this.symm;rw [this] at l3;exact absurd l3 (by decide)) z.1 z.2.1 z.2.2.1 z.2.2.2
  cases b with
  | false=>
   refine Jg (Jg ⟨by decide,raise _ (S3.trans s4) λz=>?_⟩);exact absurd (hb.mpr (fwd z).1) Bool.false_ne_true
  | true=>
   refine GG ?_;have ring:=hb.mp rfl;have ne:(a::tl).dropLast≠[]:=λz=>by have:=ring.1;rw [z] at this;exact absurd this (by decide)
   refine ⟨_,rfl,_,rfl,wb,l,pl,k,xs,rs,_,true,rfl,(W1.same S3).same s4,g,s4 _ _ epl,by lia,λ_=>ne,ring.2.2.2.1,λre ms H5 s5 hre ere pm so=>?_⟩;refine ⟨_,rfl,.list (ms.map PyData.int),.list (ks.map PyData.int),.lst (SqL.of ere) (GP _),.lst (SqL.of (s5 _ _ (s4 _ _ (S3 _ _ hk1)))) (GP _),GD _,GD _,_,rfl,?_⟩;rw [JE];have S5:=(S3.trans s4).trans s5;by_cases e:ms=ks
   ·rw [decide_eq_true e];refine GG ?_;refine ⟨_,rfl,hyes ?_ pl H5 (s1.trans S5) hH (s5 _ _ (s4 _ _ epl))⟩;obtain ⟨b1,b2,b3,b4⟩:=Vi g ring pm so e;refine ⟨b1,b2,b3,?_⟩;rw [List.length_dropLast,List.length_cons] at b4
    lia
   ·rw [decide_eq_false e];refine Jg ⟨by decide,raise _ S5 λz=>e ?_⟩;exact (fwd z).2 ms pm so
end
end M
namespace M
open PySem L2
theorem JX (w:Str):∀ws:List Str,inV (.str w) (ws.map V.str)=decide (w∈ws):=by
 intro ws;unfold inV
 induction ws with
 | nil=>rfl
 | cons m ms ih=>
  rw [List.map_cons,List.any_cons,ih];by_cases h1:w=m <;> by_cases h2:w∈ms <;> simp [eqV,h1,h2] <;> (try (intro z;exact h1 z.symm))
theorem G1 (ms:List Int):(ms.map V.int).all UL=true:=by
 rw [List.all_map];exact List.all_eq_true.mpr λ_ _=>rfl
theorem Jc (p:Int):∀ms:List Int,inV (.int p) (ms.map V.int)=decide (p∈ms):=by
 intro ms;unfold inV
 induction ms with
 | nil=>rfl
 | cons m ms ih=>
  rw [List.map_cons,List.any_cons,ih];by_cases h1:p=m <;> by_cases h2:p∈ms <;> simp [eqV,h1,h2] <;> (try lia) <;> (try (intro z;exact h1 z.symm))
theorem JT {H:Hp}:∀{vs:List V}{ns:List Int},Ths H vs (ns.map .int)->vs=ns.map V.int
 | _,[],.nil=>rfl
 | _,n::ns,.cons t r=>by
  cases t;rw [JT r]
  rfl
def ZbW:List PyData->List Int
 | [.tuple ds]=>ds.filterMap λd=>match d with | .int i=>some i | _=>none
 | _=>[]
theorem Jd (ns:List Int):ZbW [.tuple (ns.map .int)]=ns:=by
 show (ns.map PyData.int).filterMap _=ns
 induction ns with
 | nil=>rfl
 | cons n ns ih=>rw [List.map_cons,List.filterMap_cons];exact congrArg (n::·) ih
abbrev Xu:=Int->List (Int×Int)->List Int->List Int->List PyData->Bool
def UB:Xu:=λ_ _ ns ks _=>decide (ks.length=ns.length)
def Zdq:Xu:=λk _ ns _ _=>decide ((ns.length:Int)=k)
def Xv:Xu:=λ_ _ _ ks rest=>(ZbW rest).all λm=>decide (m∈ks)
def Zcm:Xu:=λ_ _ _ ks rest=>!(ZbW rest).any λm=>decide (m∈ks)
def Xw:Xu:=λ_ _ ns _ rest=>(ZbW rest).all λm=>decide (m∈ns)
def Xx:Xu:=λ_ _ ns _ rest=>!(ZbW rest).any λm=>decide (m∈ns)
def ZbX:Xu:=λ_ _ _ ks rest=>match rest with
 | [.int a,.int b]=>decide (a<=(ks.length:Int)) && decide ((ks.length:Int)<=b)
 | _=>false
def JK (rs:List (Int×Int))(ns:List Int)(i:Nat):List Int:=((List.range i).filter λ(j:Nat)=>decide ((rs.getD j (0,0)).1∈ns) && decide ((rs.getD j (0,0)).2∈ns)).map λ(j:Nat)=>(j:Int)
def Zdr:Xu:=λ_ rs ns ks _=>decide (JK rs ns rs.length=ks)
theorem OY (rs:List (Int×Int))(ns:List Int)(i:Nat):JK rs ns (i+1)=JK rs ns i++(if (decide ((rs.getD i (0,0)).1∈ns) && decide ((rs.getD i (0,0)).2∈ns))=true then [(i:Int)] else []):=by
 unfold JK;rw [List.range_succ,List.filter_append,List.map_append]
 congr 1
 rw [List.filter_cons];by_cases h:(decide ((rs.getD i (0,0)).1∈ns) && decide ((rs.getD i (0,0)).2∈ns))=true
 ·rw [if_pos h,if_pos h];rfl
 ·rw [if_neg h,if_neg h];rfl
theorem VR (rs:List (Int×Int))(ns:List Int)(i:Nat):(JK rs ns i).length<=i:=by
 unfold JK;rw [List.length_map];have:=List.length_filter_le (λ(j:Nat)=>decide ((rs.getD j (0,0)).1∈ns) && decide ((rs.getD j (0,0)).2∈ns)) (List.range i);rw [List.length_range] at this;exact this
structure HA (H:Hp)(wb l wy kl:Addr)(lv:V)(wd:Str)(rest:List PyData)(k:Int)(xs:List V)(rs:List (Int×Int))(ns ks:List Int):Prop where
 W:WebAt H wb l k xs rs
 t:Th H lv (.tuple (.str wd::rest))
 b:Jq wd rest=true
 n:H wy=some (.lst (ns.map V.int))
 r:H kl=some (.lst (ks.map V.int))
 rl:rs.length<=30
 nl:ns.length<=100
 kl:ks.length<=100
def OQ (wd:Str)(g:Xu):Sp:=λvs H Q _=>∃(wb l wy kl:Addr)(lv:V)(rest:List PyData)(k:Int)(xs:List V)(rs:List (Int×Int))(ns ks:List Int),vs=[.ref wb,lv,.ref wy,.ref kl]/\HA H wb l wy kl lv wd rest k xs rs ns ks/\ns≠[]/\∀H',Same H H'->Q (.bl (g k rs ns ks rest)) H'
theorem J6 {wd:Str}{rest:List PyData}(h:Jq wd rest=true)(h4:wd∈Ut):∃ms:List Int,rest=[.tuple (ms.map .int)]:=by
 have no:∀w∈Ut,w ∉ OW/\w ∉ O8:=by decide +kernel
 unfold Jq at h;rw [if_neg (no wd h4).1,if_neg (no wd h4).2,if_pos h4] at h
 match rest,h with
 | [.tuple ds],h=>
  refine ⟨ds.filterMap λd=>match d with | .int i=>some i | _=>none,?_⟩;have h:ds.all U9=true:=h
  congr 2
  induction ds with
  | nil=>rfl
  | cons d ds ih=>
   rw [List.all_cons,Bool.and_eq_true] at h;cases d with
   | int i=>rw [List.filterMap_cons];exact congrArg (PyData.int i::·) (ih h.2 h.2)
   | _=>exact absurd h.1 Bool.false_ne_true
theorem UC {wd:Str}{rest:List PyData}(h:Jq wd rest=true)(hp:wd∈O8):∃a b:Int,rest=[.int a,.int b]:=by
 have no:∀w∈O8,w ∉ OW:=by decide +kernel
 unfold Jq at h;rw [if_neg (no wd hp),if_pos hp] at h
 match rest,h with
 | [a,b],h=>
  rw [Bool.and_eq_true] at h;cases a with
  | int a=>cases b with
   | int b=>exact ⟨a,b,rfl⟩
   | _=>exact absurd h.2 Bool.false_ne_true
  | _=>exact absurd h.1 Bool.false_ne_true
section
variable {P:Program}{w:World}{K:W.Frag}{mg:Str->Option Value}{base:Heap}
theorem ZeU:Gv ["web", "leaf", "way", "roads"] ["web", "leaf", "way", "roads"] (Gg Zcc):=⟨rfl,rfl,rfl,by decide +kernel,rfl,by decide +kernel,by decide +kernel⟩
theorem Zds {f:Addr}{fd:FuncData}(F:Fun K "has_closed" "has_closed" Zcc f fd)(mLen:mg "len" = none):GS P w K mg base CX0 1 f fd ["web", "leaf", "way", "roads"] (OQ "closed" UB):=by
 refine F.ok ZeU (λvs H Q E h=>?_) (λcdv A outer s H vs Q E hr h=>?_)
 ·obtain ⟨_,_,_,_,_,_,_,_,_,_,_,rfl,_⟩:=h
  rfl
 ·obtain ⟨wb,l,wy,kl,lv,rest,k,xs,rs,ns,ks,rfl,A,hne,q⟩:=h;refine ⟨_,Gi (Gw (G6 Jv (Gk (O5 K) rfl mLen PySem.boot_len (Ga (pv 3) Gf)) (Gk (O5 K) rfl mLen PySem.boot_len (Ga (pv 2) Gf)) (Gx _))),?_⟩;refine ⟨_,rfl,kl,_,rfl,.inl (SqL.of A.r),_,rfl,wy,_,rfl,.inl (SqL.of A.n),rfl,?_⟩;have:=q H (Same.refl _);unfold UB at this;rw [List.length_map,List.length_map];have e:decide (V.int (ks.length:Int)=V.int (ns.length:Int))=decide (ks.length=ns.length):=by
   by_cases z:ks.length=ns.length
   ·rw [decide_eq_true z,z,decide_eq_true rfl]
   ·rw [decide_eq_false z];exact decide_eq_false λy=>z (by have:=V.int.inj y;lia)
  rw [e];exact this
theorem ZeV:Gv ["web", "leaf", "way", "roads"] ["web", "leaf", "way", "roads"] (Gg Zcj):=⟨rfl,rfl,rfl,by decide +kernel,rfl,by decide +kernel,by decide +kernel⟩
theorem Zdt {f:Addr}{fd:FuncData}(F:Fun K "has_all" "has_all" Zcj f fd)(mLen:mg "len" = none):GS P w K mg base CX0 1 f fd ["web", "leaf", "way", "roads"] (OQ "all" Zdq):=by
 refine F.ok ZeV (λvs H Q E h=>?_) (λcdv A outer s H vs Q E hr h=>?_)
 ·obtain ⟨_,_,_,_,_,_,_,_,_,_,_,rfl,_⟩:=h
  rfl
 ·obtain ⟨wb,l,wy,kl,lv,rest,k,xs,rs,ns,ks,rfl,A,hne,q⟩:=h;refine ⟨_,Gi (Gw (G6 Jv (Gk (O5 K) rfl mLen PySem.boot_len (Ga (pv 2) Gf)) (Gj (Je K) (pv 0) Gc (λ_ _=>rfl)) (Gx _))),?_⟩;refine ⟨_,rfl,wy,_,rfl,.inl (SqL.of A.n),_,rfl,wb,_,_,_,rfl,rfl,SqT.of A.W.w,Ge (j:=0) rfl,rfl,?_⟩;have:=q H (Same.refl _);unfold Zdq at this;rw [List.length_map];have e:decide (V.int (ns.length:Int)=V.int k)=decide ((ns.length:Int)=k):=by
   by_cases z:(ns.length:Int)=k
   ·rw [decide_eq_true z,z,decide_eq_true rfl]
   ·rw [decide_eq_false z];exact decide_eq_false λy=>z (V.int.inj y)
  rw [e];exact this
theorem ZeW:Gv ["web", "leaf", "way", "roads"] ["web", "leaf", "way", "roads"] (Gg Zch):=⟨rfl,rfl,rfl,by decide +kernel,rfl,by decide +kernel,by decide +kernel⟩
theorem Zdu {f:Addr}{fd:FuncData}(F:Fun K "has_long" "has_long" Zch f fd)(mLen:mg "len" = none):GS P w K mg base CX0 1 f fd ["web", "leaf", "way", "roads"] (OQ "long" ZbX):=by
 refine F.ok ZeW (λvs H Q E h=>?_) (λcdv A outer s H vs Q E hr h=>?_)
 ·obtain ⟨_,_,_,_,_,_,_,_,_,_,_,rfl,_⟩:=h
  rfl
 ·obtain ⟨wb,l,wy,kl,lv,rest,k,xs,rs,ns,ks,rfl,A,hne,q⟩:=h;refine ⟨_,Gi (Gw (Wj XS XS (Gj (Je K) (pv 1) Gc (λ_ _=>rfl)) (Gk (O5 K) rfl mLen PySem.boot_len (Ga (pv 3) Gf)) (Gj (Je K) (pv 1) Gc (λ_ _=>rfl)))),?_⟩;obtain ⟨a,b,rfl⟩:=UC A.b (by decide +kernel);have t:=A.t;cases t with
  | @tup ta vs1 _ e z hh=>
   cases hh with
   | cons t0 r0=>
    cases t0;cases r0 with
    | cons t1 r1=>
     cases t1;cases r1 with
     | cons t2 r2=>
      cases t2;cases r2;have this:Q (.bl (decide (a<=(ks.length:Int)) && decide ((ks.length:Int)<=b))) H:=q H (Same.refl _);refine ⟨_,rfl,ta,_,_,_,rfl,rfl,SqT.of e,Ge (j:=1) rfl,_,rfl,kl,_,rfl,.inl (SqL.of A.r),?_⟩;rw [List.length_map];refine ⟨_,_,rfl,rfl,?_⟩;dsimp only;by_cases c:a<=(ks.length:Int)
      ·rw [decide_eq_true c] at this ⊢;refine ⟨_,rfl,Jg ⟨_,rfl,ta,_,_,_,rfl,rfl,SqT.of e,Ge (j:=2) rfl,_,_,rfl,rfl,this⟩⟩
      ·rw [decide_eq_false c] at this ⊢;exact ⟨_,rfl,GG this⟩
theorem ZeX:Gv ["web", "leaf", "way", "roads"] ["web", "leaf", "way", "roads"] (Gg Zcd):=⟨rfl,rfl,rfl,by decide +kernel,rfl,by decide +kernel,by decide +kernel⟩
theorem Zdv {f:Addr}{fd:FuncData}(F:Fun K "has_with" "has_with" Zcd f fd)(mAll:mg "all" = none):GS P w K mg base CX0 1 f fd ["web", "leaf", "way", "roads"] (OQ "with" Xv):=by
 refine F.ok ZeX (λvs H Q E h=>?_) (λcdv A outer s H vs Q E hr h=>?_)
 ·obtain ⟨_,_,_,_,_,_,_,_,_,_,_,rfl,_⟩:=h
  rfl
 ·obtain ⟨wb,l,wy,kl,lv,rest,k,xs,rs,ns,ks,rfl,A,hne,q⟩:=h;have h16:(16777216:Nat)=sizeLine:=sizeLine_eq.symm;refine ⟨_,Gi (Gw (Gk (Zb9 K rfl) rfl mAll Ot (Ga (Jl (own:=["road"]) rfl (Gr (fr:=[("roads", 3)]) [(".0", .local),("road", .local),("roads", .cell)] rfl rfl (by decide +kernel) rfl (by decide +kernel) ⟨rfl,trivial⟩ ⟨λh=>GT h,λh=>GT h,λ_=>⟨_,rfl⟩,trivial⟩ ⟨⟨rfl,.inl rfl,.inl rfl⟩,trivial⟩) (V7 K (Gj (Je K) (pv 1) Gc (λ_ _=>rfl))) (λ_ _ _ _=>Gy (i:=0) (show List.Nodup (["road", "roads"]:List Str) by decide +kernel) rfl (Or.inl rfl)) (λ_ _ _ _=>Ja) (λ_ _ _ _=>G6 (kIn K) (pv 0) (pv 1) (by with_unfolding_all rfl))) Gf))),?_⟩;obtain ⟨ms,rfl⟩:=J6 A.b (by decide +kernel);have t:=A.t;cases t with
  | @tup ta vs1 _ e z hh=>
   cases hh with
   | cons t0 r0=>
    cases t0;cases r0 with
    | cons t1 r1=>
     cases r1;cases t1 with
     | @tup tb vs2 _ e2 z2 hh2=>
      obtain rfl:=JT hh2;rw [List.length_map] at z2;refine ⟨_,rfl,ta,_,_,_,rfl,rfl,SqT.of e,Ge (j:=1) rfl,tb,rfl,⟨_,SqT.of e2⟩,λD hD=>?_⟩;refine JF (K:=K) (a:=tb) (xs:=ms.map V.int) (λi vs H2=>Same H H2/\H2 D=some (.lst vs)/\vs=((ms.take i).map λm=>decide (m∈ks)).map V.bl) ⟨Same.new hD,Gb,rfl⟩ (λi vs H2 _ ⟨s2,_⟩=>SqT.of (s2 _ _ e2)) ?_ ?_
      ·rintro i x vs H2 hx ⟨s2,hD2,rfl⟩;rw [List.getElem?_map] at hx;obtain ⟨m,hm,rfl⟩:=Option.map_eq_some_iff.mp hx;refine ⟨⟨rfl,trivial⟩,?_⟩;unfold UR;refine Jg ?_;refine ⟨_,rfl,_,rfl,kl,_,rfl,.inl (SqL.of (s2 _ _ A.r)),rfl,G1 _,?_⟩;refine ⟨hD2,by rw [List.length_map,List.length_map,List.length_take];lia,s2.put hD,Gb,?_⟩;show _++[V.bl (inV (.int m) (ks.map V.int))]=_;rw [Jc,List.take_add_one,hm];simp
      ·rintro vs H2 ⟨s2,hD2,rfl⟩;rw [List.length_map,List.take_length] at hD2;refine ⟨D,_,rfl,SqL.of hD2,?_⟩;have:=q H2 s2;unfold Xv at this;rw [Jd] at this;rw [List.all_map];exact this
theorem ZeY:Gv ["web", "leaf", "way", "roads"] ["web", "leaf", "way", "roads"] (Gg Zce):=⟨rfl,rfl,rfl,by decide +kernel,rfl,by decide +kernel,by decide +kernel⟩
theorem Zdw {f:Addr}{fd:FuncData}(F:Fun K "has_off" "has_off" Zce f fd)(mAny:mg "any" = none):GS P w K mg base CX0 1 f fd ["web", "leaf", "way", "roads"] (OQ "off" Zcm):=by
 refine F.ok ZeY (λvs H Q E h=>?_) (λcdv A outer s H vs Q E hr h=>?_)
 ·obtain ⟨_,_,_,_,_,_,_,_,_,_,_,rfl,_⟩:=h
  rfl
 ·obtain ⟨wb,l,wy,kl,lv,rest,k,xs,rs,ns,ks,rfl,A,hne,q⟩:=h;have h16:(16777216:Nat)=sizeLine:=sizeLine_eq.symm;refine ⟨_,Gi (Gw (Wh (Gk (Zfw K rfl) rfl mAny WG (Ga (Jl (own:=["road"]) rfl (Gr (fr:=[("roads", 3)]) [(".0", .local),("road", .local),("roads", .cell)] rfl rfl (by decide +kernel) rfl (by decide +kernel) ⟨rfl,trivial⟩ ⟨λh=>GT h,λh=>GT h,λ_=>⟨_,rfl⟩,trivial⟩ ⟨⟨rfl,.inl rfl,.inl rfl⟩,trivial⟩) (V7 K (Gj (Je K) (pv 1) Gc (λ_ _=>rfl))) (λ_ _ _ _=>Gy (i:=0) (show List.Nodup (["road", "roads"]:List Str) by decide +kernel) rfl (Or.inl rfl)) (λ_ _ _ _=>Ja) (λ_ _ _ _=>G6 (kIn K) (pv 0) (pv 1) (by with_unfolding_all rfl))) Gf)))),?_⟩;obtain ⟨ms,rfl⟩:=J6 A.b (by decide +kernel);have t:=A.t;cases t with
  | @tup ta vs1 _ e z hh=>
   cases hh with
   | cons t0 r0=>
    cases t0;cases r0 with
    | cons t1 r1=>
     cases r1;cases t1 with
     | @tup tb vs2 _ e2 z2 hh2=>
      obtain rfl:=JT hh2;rw [List.length_map] at z2;refine ⟨_,rfl,ta,_,_,_,rfl,rfl,SqT.of e,Ge (j:=1) rfl,tb,rfl,⟨_,SqT.of e2⟩,λD hD=>?_⟩;refine JF (K:=K) (a:=tb) (xs:=ms.map V.int) (λi vs H2=>Same H H2/\H2 D=some (.lst vs)/\vs=((ms.take i).map λm=>decide (m∈ks)).map V.bl) ⟨Same.new hD,Gb,rfl⟩ (λi vs H2 _ ⟨s2,_⟩=>SqT.of (s2 _ _ e2)) ?_ ?_
      ·rintro i x vs H2 hx ⟨s2,hD2,rfl⟩;rw [List.getElem?_map] at hx;obtain ⟨m,hm,rfl⟩:=Option.map_eq_some_iff.mp hx;refine ⟨⟨rfl,trivial⟩,?_⟩;unfold UR;refine Jg ?_;refine ⟨_,rfl,_,rfl,kl,_,rfl,.inl (SqL.of (s2 _ _ A.r)),rfl,G1 _,?_⟩;refine ⟨hD2,by rw [List.length_map,List.length_map,List.length_take];lia,s2.put hD,Gb,?_⟩;show _++[V.bl (inV (.int m) (ks.map V.int))]=_;rw [Jc,List.take_add_one,hm];simp
      ·rintro vs H2 ⟨s2,hD2,rfl⟩;rw [List.length_map,List.take_length] at hD2;refine ⟨D,_,rfl,SqL.of hD2,?_⟩;have:=q H2 s2;unfold Zcm at this;rw [Jd] at this;rw [List.any_map];exact ⟨_,rfl,this⟩
theorem ZeZ:Gv ["web", "leaf", "way", "roads"] ["web", "leaf", "way", "roads"] (Gg Zcf):=⟨rfl,rfl,rfl,by decide +kernel,rfl,by decide +kernel,by decide +kernel⟩
theorem Zdx {f:Addr}{fd:FuncData}(F:Fun K "has_over" "has_over" Zcf f fd)(mAll:mg "all" = none):GS P w K mg base CX0 1 f fd ["web", "leaf", "way", "roads"] (OQ "over" Xw):=by
 refine F.ok ZeZ (λvs H Q E h=>?_) (λcdv A outer s H vs Q E hr h=>?_)
 ·obtain ⟨_,_,_,_,_,_,_,_,_,_,_,rfl,_⟩:=h
  rfl
 ·obtain ⟨wb,l,wy,kl,lv,rest,k,xs,rs,ns,ks,rfl,A,hne,q⟩:=h;have h16:(16777216:Nat)=sizeLine:=sizeLine_eq.symm;refine ⟨_,Gi (Gw (Gk (Zb9 K rfl) rfl mAll Ot (Ga (Jl (own:=["place"]) rfl (Gr (fr:=[("way", 2)]) [(".0", .local),("place", .local),("way", .cell)] rfl rfl (by decide +kernel) rfl (by decide +kernel) ⟨rfl,trivial⟩ ⟨λh=>GT h,λh=>GT h,λ_=>⟨_,rfl⟩,trivial⟩ ⟨⟨rfl,.inl rfl,.inl rfl⟩,trivial⟩) (V7 K (Gj (Je K) (pv 1) Gc (λ_ _=>rfl))) (λ_ _ _ _=>Gy (i:=0) (show List.Nodup (["place", "way"]:List Str) by decide +kernel) rfl (Or.inl rfl)) (λ_ _ _ _=>Ja) (λ_ _ _ _=>G6 (kIn K) (pv 0) (pv 1) (by with_unfolding_all rfl))) Gf))),?_⟩;obtain ⟨ms,rfl⟩:=J6 A.b (by decide +kernel);have t:=A.t;cases t with
  | @tup ta vs1 _ e z hh=>
   cases hh with
   | cons t0 r0=>
    cases t0;cases r0 with
    | cons t1 r1=>
     cases r1;cases t1 with
     | @tup tb vs2 _ e2 z2 hh2=>
      obtain rfl:=JT hh2;rw [List.length_map] at z2;refine ⟨_,rfl,ta,_,_,_,rfl,rfl,SqT.of e,Ge (j:=1) rfl,tb,rfl,⟨_,SqT.of e2⟩,λD hD=>?_⟩;refine JF (K:=K) (a:=tb) (xs:=ms.map V.int) (λi vs H2=>Same H H2/\H2 D=some (.lst vs)/\vs=((ms.take i).map λm=>decide (m∈ns)).map V.bl) ⟨Same.new hD,Gb,rfl⟩ (λi vs H2 _ ⟨s2,_⟩=>SqT.of (s2 _ _ e2)) ?_ ?_
      ·rintro i x vs H2 hx ⟨s2,hD2,rfl⟩;rw [List.getElem?_map] at hx;obtain ⟨m,hm,rfl⟩:=Option.map_eq_some_iff.mp hx;refine ⟨⟨rfl,trivial⟩,?_⟩;unfold UR;refine Jg ?_;refine ⟨_,rfl,_,rfl,wy,_,rfl,.inl (SqL.of (s2 _ _ A.n)),rfl,G1 _,?_⟩;refine ⟨hD2,by rw [List.length_map,List.length_map,List.length_take];lia,s2.put hD,Gb,?_⟩;show _++[V.bl (inV (.int m) (ns.map V.int))]=_;rw [Jc,List.take_add_one,hm];simp
      ·rintro vs H2 ⟨s2,hD2,rfl⟩;rw [List.length_map,List.take_length] at hD2;refine ⟨D,_,rfl,SqL.of hD2,?_⟩;have:=q H2 s2;unfold Xw at this;rw [Jd] at this;rw [List.all_map];exact this
theorem Ze0:Gv ["web", "leaf", "way", "roads"] ["web", "leaf", "way", "roads"] (Gg Zcg):=⟨rfl,rfl,rfl,by decide +kernel,rfl,by decide +kernel,by decide +kernel⟩
theorem Zdy {f:Addr}{fd:FuncData}(F:Fun K "has_past" "has_past" Zcg f fd)(mAny:mg "any" = none):GS P w K mg base CX0 1 f fd ["web", "leaf", "way", "roads"] (OQ "past" Xx):=by
 refine F.ok Ze0 (λvs H Q E h=>?_) (λcdv A outer s H vs Q E hr h=>?_)
 ·obtain ⟨_,_,_,_,_,_,_,_,_,_,_,rfl,_⟩:=h
  rfl
 ·obtain ⟨wb,l,wy,kl,lv,rest,k,xs,rs,ns,ks,rfl,A,hne,q⟩:=h;have h16:(16777216:Nat)=sizeLine:=sizeLine_eq.symm;refine ⟨_,Gi (Gw (Wh (Gk (Zfw K rfl) rfl mAny WG (Ga (Jl (own:=["place"]) rfl (Gr (fr:=[("way", 2)]) [(".0", .local),("place", .local),("way", .cell)] rfl rfl (by decide +kernel) rfl (by decide +kernel) ⟨rfl,trivial⟩ ⟨λh=>GT h,λh=>GT h,λ_=>⟨_,rfl⟩,trivial⟩ ⟨⟨rfl,.inl rfl,.inl rfl⟩,trivial⟩) (V7 K (Gj (Je K) (pv 1) Gc (λ_ _=>rfl))) (λ_ _ _ _=>Gy (i:=0) (show List.Nodup (["place", "way"]:List Str) by decide +kernel) rfl (Or.inl rfl)) (λ_ _ _ _=>Ja) (λ_ _ _ _=>G6 (kIn K) (pv 0) (pv 1) (by with_unfolding_all rfl))) Gf)))),?_⟩;obtain ⟨ms,rfl⟩:=J6 A.b (by decide +kernel);have t:=A.t;cases t with
  | @tup ta vs1 _ e z hh=>
   cases hh with
   | cons t0 r0=>
    cases t0;cases r0 with
    | cons t1 r1=>
     cases r1;cases t1 with
     | @tup tb vs2 _ e2 z2 hh2=>
      obtain rfl:=JT hh2;rw [List.length_map] at z2;refine ⟨_,rfl,ta,_,_,_,rfl,rfl,SqT.of e,Ge (j:=1) rfl,tb,rfl,⟨_,SqT.of e2⟩,λD hD=>?_⟩;refine JF (K:=K) (a:=tb) (xs:=ms.map V.int) (λi vs H2=>Same H H2/\H2 D=some (.lst vs)/\vs=((ms.take i).map λm=>decide (m∈ns)).map V.bl) ⟨Same.new hD,Gb,rfl⟩ (λi vs H2 _ ⟨s2,_⟩=>SqT.of (s2 _ _ e2)) ?_ ?_
      ·rintro i x vs H2 hx ⟨s2,hD2,rfl⟩;rw [List.getElem?_map] at hx;obtain ⟨m,hm,rfl⟩:=Option.map_eq_some_iff.mp hx;refine ⟨⟨rfl,trivial⟩,?_⟩;unfold UR;refine Jg ?_;refine ⟨_,rfl,_,rfl,wy,_,rfl,.inl (SqL.of (s2 _ _ A.n)),rfl,G1 _,?_⟩;refine ⟨hD2,by rw [List.length_map,List.length_map,List.length_take];lia,s2.put hD,Gb,?_⟩;show _++[V.bl (inV (.int m) (ns.map V.int))]=_;rw [Jc,List.take_add_one,hm];simp
      ·rintro vs H2 ⟨s2,hD2,rfl⟩;rw [List.length_map,List.take_length] at hD2;refine ⟨D,_,rfl,SqL.of hD2,?_⟩;have:=q H2 s2;unfold Xx at this;rw [Jd] at this;rw [List.any_map];exact ⟨_,rfl,this⟩
theorem Ze1:Gv ["word", "first", "second"] ["word", "first", "second"] (Gg Zck):=⟨rfl,rfl,rfl,by decide +kernel,rfl,by decide +kernel,by decide +kernel⟩
def UD (wd:Str)(a b:Bool):Bool:=if wd = "and" then a && b else if wd = "or" then a || b else a && !b
def Zdz:Sp:=λvs H Q _=>∃(wd:Str)(a b:Bool),vs=[.str wd,.bl a,.bl b]/\Q (.bl (UD wd a b)) H
theorem ZdA {f:Addr}{fd:FuncData}(F:Fun K "joined_has" "joined_has" Zck f fd):GS P w K mg base CX0 1 f fd ["word", "first", "second"] Zdz:=by
 refine F.ok Ze1 (λvs H Q E h=>?_) (λcdv A outer s H vs Q E hr h=>?_)
 ·obtain ⟨_,_,_,rfl,_⟩:=h
  rfl
 ·obtain ⟨wd,a,b,rfl,q⟩:=h;have ds:∀z:Str,decide (V.str wd=V.str z)=decide (wd=z):=λz=>by
   by_cases e:wd=z
   ·rw [decide_eq_true e,e,decide_eq_true rfl]
   ·rw [decide_eq_false e];exact decide_eq_false λy=>e (V.str.inj y)
  refine ⟨_,Gh (Jj (Gp Jv (pv 0) GQ (Gx _)) (Gi (Gw (O0 (pv 1) (Oe (pv 2))))) GF)
    (Gi (Gw (Ze (Gp Jv (pv 0) GQ (Gx _)) (ZaU (pv 1) (Oe (pv 2))) (O0 (pv 1) (Oe (Wh (pv 2))))))),?_⟩
  unfold UD at q;refine ⟨_,rfl,rfl,_,rfl,?_⟩;rw [ds];by_cases e1:wd = "and"
  ·rw [if_pos e1] at q;rw [decide_eq_true e1];refine Jg ⟨_,rfl,_,rfl,?_⟩;cases a with
   | true=>exact Jg ⟨_,rfl,q⟩
   | false=>exact GG q
  rw [if_neg e1] at q;rw [decide_eq_false e1];refine GG ⟨_,rfl,rfl,_,rfl,?_⟩;rw [ds];by_cases e2:wd = "or"
  ·rw [if_pos e2] at q;rw [decide_eq_true e2];refine Jg ⟨_,rfl,_,rfl,?_⟩;cases a with
   | true=>exact Jg q
   | false=>exact GG ⟨_,rfl,q⟩
  ·rw [if_neg e2] at q;rw [decide_eq_false e2];refine GG ⟨_,rfl,_,rfl,?_⟩;cases a with
   | true=>exact Jg ⟨_,rfl,_,rfl,q⟩
   | false=>exact GG q
theorem scHsh:Gv ["web", "leaf", "way", "roads", "joining"] ["web", "leaf", "way", "roads"] (Gg Zci):=⟨rfl,rfl,rfl,by decide +kernel,rfl,by decide +kernel,by decide +kernel⟩
theorem ZdB {f:Addr}{fd:FuncData}(F:Fun K "has_shy" "has_shy" Zci f fd)(mEnum:mg "enumerate" = none):GS P w K mg base CX0 1 f fd ["web", "leaf", "way", "roads"] (OQ "shy" Zdr):=by
 refine F.ok scHsh (λvs H Q E h=>?_) (λcdv A outer s H vs Q E hr h=>?_)
 ·obtain ⟨_,_,_,_,_,_,_,_,_,_,_,rfl,_⟩:=h
  rfl
 ·obtain ⟨wb,l,wy,kl,lv,rest,k,xs,rs,ns,ks,rfl,A,hne,q⟩:=h;have h16:(16777216:Nat)=sizeLine:=sizeLine_eq.symm;have hu:=hr.units;have hxl:=A.W.p.len;have hrl:=A.rl;refine ⟨_,Gh (Um (i:=4) scHsh.nd rfl (Or.inl rfl) (own:=["number", "road"]) rfl (Gr (fr:=[("way", 2)]) [(".0", .local),("number", .local),("road", .local),("way", .cell)] rfl rfl (by decide +kernel) rfl (by decide +kernel) ⟨rfl,trivial⟩ ⟨λh=>GT h,λh=>GT h,λh=>GT h,λ_=>⟨_,rfl⟩,trivial⟩ ⟨⟨rfl,.inl rfl,.inl rfl⟩,trivial⟩) (Zbc K rfl mEnum (Ga (Gj (Je K) (pv 0) Gc (λ_ _=>rfl)) Gf)) (λ_ _ _ _=>Zaz K (n:=2) rfl (G7 (Gy (i:=0) (show List.Nodup (["number", "road", "way"]:List Str) by decide +kernel) rfl (Or.inl rfl)) (G7 (Gy (i:=1) (show List.Nodup (["number", "road", "way"]:List Str) by decide +kernel) rfl (Or.inl rfl)) Of))) (λ_ _ _ _=>J7 (PW.pt (Ox (Gp (kIn K) (Gj (Je K) (pv 1) Gc (λ_ _=>rfl)) (pv 2) (by with_unfolding_all rfl)) (Od (Gp (kIn K) (Gj (Je K) (pv 1) Gc (λ_ _=>rfl)) (pv 2) (by with_unfolding_all rfl)))))) (λ_ _ _ _=>pv 0))
    (Gi (Gw (G6 (Za9 K hu) (pv 4) (pv 3) (Gx _)))),?_⟩
  refine ⟨_,rfl,wb,_,_,_,rfl,rfl,SqT.of A.W.w,Ge (j:=1) rfl,l,xs,rfl,SqL.of A.W.l,λD hD=>?_⟩;refine VF (K:=K) (a:=l) (xs:=xs) (λi ys H2=>Same H H2/\H2 D=some (.lst ys)/\ys=(JK rs ns i).map V.int) ⟨Same.new hD,Gb,rfl⟩ (λi ys H2 _ ⟨s2,_⟩=>SqL.of (s2 _ _ A.W.l)) ?_ ?_
  ·rintro i x ys H2 T hxi ⟨s2,hD2,rfl⟩ hT;obtain ⟨t,r,rfl,et,er⟩:=A.W.p.get hxi;have hi:i<xs.length:=(List.getElem?_eq_some_iff.mp hxi).1;have s3:Same H (upd H2 T (.tup [.int (i:Nat),.ref t])):=s2.put (s2.free hT);have hDT:D≠T:=Gn hD2 hT;have eg:rs.getD i (0,0)=r:=by rw [List.getD_eq_getElem?_getD,er];rfl
   have jl:=VR rs ns i;have js:=OY rs ns i;rw [eg] at js;refine ⟨T,_,rfl,SqT.of Gb,rfl,_,_,rfl,_,_,rfl,rfl,⟨rfl,trivial⟩,?_⟩;refine ⟨_,rfl,t,_,_,_,rfl,rfl,SqT.of (s3 _ _ et),Ge (j:=0) rfl,_,rfl,wy,_,rfl,.inl (SqL.of (s3 _ _ A.n)),rfl,G1 _,_,rfl,?_⟩;show if (inV (.int r.1) (ns.map V.int))=true then _ else _
   rw [Jc];have no:¬ (decide (r.1∈ns) && decide (r.2∈ns))=true->Same H (upd H2 T (.tup [.int (i:Nat),.ref t]))/\upd H2 T (.tup [.int (i:Nat),.ref t]) D=some (.lst ((JK rs ns i).map V.int))/\(JK rs ns i).map V.int=(JK rs ns (i+1)).map V.int:=λz=>⟨s3,G0 hD2 hDT,by rw [js,if_neg z,List.append_nil]⟩;by_cases c1:r.1∈ns
   ·rw [decide_eq_true c1];refine Jg ?_;refine ⟨_,rfl,t,_,_,_,rfl,rfl,SqT.of (s3 _ _ et),Ge (j:=1) rfl,_,rfl,wy,_,rfl,.inl (SqL.of (s3 _ _ A.n)),rfl,G1 _,_,rfl,?_⟩;show if (inV (.int r.2) (ns.map V.int))=true then _ else _
    rw [Jc];by_cases c2:r.2∈ns
    ·rw [decide_eq_true c2];refine Jg ?_;refine ⟨_,rfl,G0 hD2 hDT,by rw [List.length_map];lia,s3.put hD,Gb,?_⟩;rw [js,if_pos (by rw [decide_eq_true c1,decide_eq_true c2];rfl),List.map_append]
     rfl
    ·rw [decide_eq_false c2];refine GG (no ?_);rw [decide_eq_false c2,Bool.and_false];exact Bool.false_ne_true
   ·rw [decide_eq_false c1];refine GG (GG (no ?_));rw [decide_eq_false c1,Bool.false_and];exact Bool.false_ne_true
  ·rintro ys H2 ⟨s2,hD2,rfl⟩;rw [A.W.p.len] at hD2;refine ⟨_,rfl,_,rfl,.list ((JK rs ns rs.length).map PyData.int),.list (ks.map PyData.int),.lst (SqL.of hD2) (GP _),.lst (SqL.of (s2 _ _ A.r)) (GP _),GD _,GD _,?_⟩;rw [JE];have:=q H2 s2;unfold Zdr at this;rw [show (false != decide (JK rs ns rs.length=ks))=decide (JK rs ns rs.length=ks) by cases decide (JK rs ns rs.length=ks) <;> rfl];exact this
end
end M
namespace M
open PySem L2
def lo2 (a b:Int):Int:=if a<=b then a else b
def hi2 (a b:Int):Int:=if a<=b then b else a
theorem ZbY {ms:List Int}{a b:Int}(p:ms.Perm [a,b])(s:ms.Pairwise (· <= ·)):ms=[lo2 a b,hi2 a b]:=by
 have hl:=p.length_eq
 match ms,hl with
 | [x,y],_=>
  have h1:x<=y:=by
   have:=s;rw [List.pairwise_cons] at this;exact this.1 y (List.mem_singleton.mpr rfl)
  have hx:x=a\/x=b:=by simpa using p.mem_iff.mp (List.mem_cons_self (a:=x) (l:=[y]))
  have hxy:x+y=a+b:=by
   rcases hx with rfl | rfl
   ·have:=List.perm_singleton.mp (List.Perm.cons_inv p);injection this with this
    lia
   ·have:=List.perm_singleton.mp (List.Perm.cons_inv (p.trans (List.Perm.swap ..)));injection this with this
    lia
  unfold lo2 hi2;by_cases h:a<=b
  ·rw [if_pos h,if_pos h];rcases hx with rfl | rfl
   ·rw [show y=b by lia]
   ·rw [show y=a by lia];have:x=a:=by lia
    rw [this]
  ·rw [if_neg h,if_neg h];rcases hx with rfl | rfl
   ·lia
   ·rw [show y=a by lia]
def Zaa:Xu:=λ_ _ ns ks rest=>match rest with
 | [.int a,.int b]=>decide (ks.length<ns.length) && decide ([ns.getD 0 0,ns.getD (ns.length-1) 0]=[lo2 a b,hi2 a b])
 | _=>false
theorem Zab {ns:List Int}(h:ns≠[]):atI (ns.map V.int) 0=some (.int (ns.getD 0 0)):=by
 cases ns with
 | nil=>exact absurd rfl h
 | cons n ns=>exact Ge (j:=0) rfl
theorem ZdC {ns:List Int}(h:ns≠[]):atI (ns.map V.int) (-1)=some (.int (ns.getD (ns.length-1) 0)):=by
 rcases List.eq_nil_or_concat ns with rfl | ⟨ms,n,rfl⟩
 ·exact absurd rfl h
 rw [List.concat_eq_append,List.map_append];refine (Zk (ms.map V.int) (.int n)).trans ?_;simp
section
variable {P:Program}{w:World}{K:W.Frag}{mg:Str->Option Value}{base:Heap}
theorem Ze2:Gv ["web", "leaf", "way", "roads"] ["web", "leaf", "way", "roads"] (Gg Zcb):=⟨rfl,rfl,rfl,by decide +kernel,rfl,by decide +kernel,by decide +kernel⟩
theorem ZdD {f:Addr}{fd:FuncData}(F:Fun K "has_open" "has_open" Zcb f fd)(mLen:mg "len" = none)(mSor:mg "sorted" = none):GS P w K mg base CX0 1 f fd ["web", "leaf", "way", "roads"] (OQ "open" Zaa):=by
 refine F.ok Ze2 (λvs H Q E h=>?_) (λcdv A outer s H vs Q E hr h=>?_)
 ·obtain ⟨_,_,_,_,_,_,_,_,_,_,_,rfl,_⟩:=h
  rfl
 ·obtain ⟨wb,l,wy,kl,lv,rest,k,xs,rs,ns,ks,rfl,A,hne,q⟩:=h;have hu:=hr.units;refine ⟨_,Gi (Gw (O0 (G6 U2 (Gk (O5 K) rfl mLen PySem.boot_len (Ga (pv 3) Gf)) (Gk (O5 K) rfl mLen PySem.boot_len (Ga (pv 2) Gf)) (Gx _)) (Oe (G6 (Za9 K hu) (G8 (Ga (Gj (Jt K) (pv 2) Gc (λ_ _=>rfl)) (Ga (Gj (Jt K) (pv 2) (OF JB Gc) (λ_ _=>rfl)) Gf))) (Gk (Yq K) rfl mSor PyProof.Rows.boot_sorted (Ga (Js (Zfv K) (pv 1) (Jy Gc) JJ) Gf)) (Gx _))))),?_⟩;obtain ⟨a,b,rfl⟩:=UC A.b (by decide +kernel);have t:=A.t;cases t with
  | @tup ta vs1 _ e z hh=>
   cases hh with
   | cons t0 r0=>
    cases t0;cases r0 with
    | cons t1 r1=>
     cases t1;cases r1 with
     | cons t2 r2=>
      cases t2;cases r2;have this:∀H',Same H H'->Q (.bl (decide (ks.length<ns.length) && decide ([ns.getD 0 0,ns.getD (ns.length-1) 0]=[lo2 a b,hi2 a b]))) H':=q;refine ⟨_,rfl,kl,_,rfl,.inl (SqL.of A.r),_,rfl,wy,_,rfl,.inl (SqL.of A.n),?_⟩;rw [List.length_map,List.length_map];refine ⟨_,_,rfl,rfl,_,rfl,?_⟩;by_cases c:ks.length<ns.length
      ·rw [decide_eq_true c] at this;rw [decide_eq_true (show (ks.length:Int)<(ns.length:Int) by lia)];refine Jg ?_;refine ⟨_,rfl,wy,_,_,_,rfl,rfl,SqL.of A.n,Zab hne,_,rfl,_,rfl,wy,_,_,_,rfl,rfl,SqL.of A.n,ZdC hne,Jr,λp hp=>?_⟩;have s1:Same H (upd H p (.lst [.int (ns.getD 0 0),.int (ns.getD (ns.length-1) 0)])):=Same.new hp;have e1:upd H p (.lst [.int (ns.getD 0 0),.int (ns.getD (ns.length-1) 0)]) p=some (.lst ([ns.getD 0 0,ns.getD (ns.length-1) 0].map V.int)):=Gb;generalize upd H p (.lst [.int (ns.getD 0 0),.int (ns.getD (ns.length-1) 0)])=H1 at s1 e1 ⊢;refine ⟨_,rfl,1,rfl,ta,_,rfl,SqT.of (s1 _ _ e),?_,λt ht=>?_⟩
       ·intro hz;have:=hz.1;simp [HT.sIx] at this
       rw [show OV [V.str "open", .int a,.int b] (some 1) none=[.int a,.int b] from rfl];have s2:Same H1 (upd H1 t (.tup [.int a,.int b])):=Same.new ht;refine ⟨t,[a,b],rfl,SqT.of Gb,by show 2<64;decide,λm ms hm pm so=>?_⟩;have s3:=Same.new (o:=.lst (ms.map V.int)) hm;obtain rfl:=ZbY pm so;refine ⟨.list ([ns.getD 0 0,ns.getD (ns.length-1) 0].map PyData.int),.list ([lo2 a b,hi2 a b].map PyData.int),.lst (SqL.of (s3 _ _ (s2 _ _ e1))) (GP _),.lst (SqL.of Gb) (GP _),GD _,GD _,?_⟩;rw [JE];have:=this _ (s1.trans (s2.trans s3));rw [Bool.true_and] at this;rw [show (false != decide ([ns.getD 0 0,ns.getD (ns.length-1) 0]=[lo2 a b,hi2 a b]))=decide ([ns.getD 0 0,ns.getD (ns.length-1) 0]=[lo2 a b,hi2 a b]) by cases decide ([ns.getD 0 0,ns.getD (ns.length-1) 0]=[lo2 a b,hi2 a b]) <;> rfl];exact this
      ·rw [decide_eq_false c] at this;rw [decide_eq_false (show ¬ (ks.length:Int)<(ns.length:Int) by lia)];exact GG (this _ (Same.refl _))
end
end M
namespace M
open PySem L2
theorem UE {p q x y:Int}(h:Jo p q=Jo x y):(p=x/\q=y)\/(p=y/\q=x):=by
 unfold Jo at h;have h1:=congrArg Prod.fst h;have h2:=congrArg Prod.snd h;dsimp only at h1 h2;split at h1 <;> split at h1 <;> split at h2 <;> split at h2 <;> lia
theorem YF (x y:Int):Jo x y=Jo y x:=by
 unfold Jo;apply Prod.ext <;> dsimp only <;> split <;> split <;> lia
theorem Zac:∀{tl:List Int}{a p q:Int},Jo p q∈Ju (a::tl)->p∈a::tl
 | [],a,p,q,h=>by cases h
 | b::tl,a,p,q,h=>by
  rw [Oa] at h;rcases List.mem_cons.mp h with e | h
  ·rcases UE e with ⟨rfl,_⟩ | ⟨rfl,_⟩
   ·exact List.mem_cons_self ..
   ·exact List.mem_cons_of_mem _ (List.mem_cons_self ..)
  ·exact List.mem_cons_of_mem _ (Zac h)
theorem Wd:∀{tl:List Int}{p:Int}{ls:List (Int×Int)},(∀r∈ls,r.1<r.2)->(p::tl).Nodup->ls.Perm (Ju (p::tl))->Wk ls p tl []
 | [],p,ls,hlt,_,pm=>by
  have:ls=[]:=List.perm_nil.mp pm;subst this;exact .stop λq h=>by rcases h with h | h <;> cases h
 | q::tl,p,ls,hlt,nd,pm=>by
  rw [Oa] at pm;have hin:Jo p q∈ls:=pm.mem_iff.mpr (List.mem_cons_self ..);rw [List.nodup_cons] at nd;refine .go ((JL hlt p q).mp hin) (λq' ha=>?_) ?_
  ·have h:=pm.mem_iff.mp ((JL hlt p q').mpr ha);rcases List.mem_cons.mp h with e | h
   ·rcases UE e with ⟨_,rfl⟩ | ⟨rfl,_⟩
    ·exact Int.le_refl _
    ·exact absurd (List.mem_cons_self ..) nd.1
   ·exact absurd (Zac h) nd.1
  ·refine Wd (Vd hlt) nd.2 ?_;have:=pm.erase (Jo p q)
   rwa [List.erase_cons_head] at this
def WayK (k:Int)(rs:List (Int×Int))(ks ns:List Int)(c:Bool):Prop:=ks.Pairwise (· <= ·)/\ks.Perm ((Gm ns c).map (Oz rs))/\(c=false->∃p q tl,ns=p::tl/\p<q/\Ends k p q/\Way rs p q ns)/\(c=true->Zcl rs ns)
theorem UY {k:Int}{rs:List (Int×Int)}{ks ns:List Int}{c:Bool}(g:Gz k rs)(S:Ov rs ks)(pm:ks.Perm ((Gm ns c).map (Oz rs)))(o:Y9 rs ns c):(cho rs ks rs.length).Perm ((Gm ns c).map λt=>Jo t.1 t.2):=by
 rw [Uz S,<-J5 g o.1];exact pm.map _
theorem VS {k:Int}{rs:List (Int×Int)}{ks tl:List Int}{p q:Int}(g:Gz k rs)(S:Ov rs ks)(pm:ks.Perm ((Gm (p::tl) false).map (Oz rs)))(W:Way rs p q (p::tl)):Wk (cho rs ks rs.length) p tl []:=by
 refine Wd (VP g ks) W.2.2.2.2 ?_;rw [JI];exact UY g S pm W.2.2.2
theorem YG {k:Int}{rs:List (Int×Int)}{ks tl:List Int}{s:Int}(g:Gz k rs)(S:Ov rs ks)(pm:ks.Perm ((Gm (s::tl) true).map (Oz rs)))(R:Zcl rs (s::tl)):Wk (cho rs ks rs.length) s (tl++[s]) []/\Begins (cho rs ks rs.length) s:=by
 obtain ⟨h3,hmin,hlt2,o⟩:=R;have hp:=UY g S pm o;rw [Oo] at hp;have hlt:=VP g ks;have nd:=o.2;obtain ⟨n1,tl,rfl⟩:∃n1 tl',tl=n1::tl':=by
  cases tl with
  | nil=>rw [List.length_singleton] at h3;lia
  | cons a b=>exact ⟨a,b,rfl⟩
 rw [List.nodup_cons] at nd;have e1:Ju (s::((n1::tl)++[s]))=Jo s n1::Ju (n1::(tl++[s])):=rfl;rw [e1] at hp;have hin:Jo s n1∈cho rs ks rs.length:=hp.mem_iff.mpr (List.mem_cons_self ..);have hs1:s<=n1:=by have:=hmin n1 (by simp);simpa using this
 have ns1:s≠n1:=λz=>nd.1 (by rw [z];exact List.mem_cons_self ..);have hlast:n1<(n1::tl).getD tl.length 0:=by
  have:(s::n1::tl).getD 1 0<(s::n1::tl).getD ((s::n1::tl).length-1) 0:=hlt2;simpa using this
 refine ⟨.go ((JL hlt s n1).mp hin) (λq' ha=>?_) ?_,λt ht=>?_,?_⟩
 ·have h:=hp.mem_iff.mp ((JL hlt s q').mpr ha);rcases List.mem_cons.mp h with e | h
  ·rcases UE e with ⟨_,rfl⟩ | ⟨e,_⟩
   ·exact Int.le_refl _
   ·exact absurd e ns1
  ·-- the last step
   have key:∀(tl:List Int)(a:Int),s ∉ a::tl->Jo s q'∈Ju (a::(tl++[s]))->q'=(a::tl).getD tl.length 0:=by
    intro tl
    induction tl with
    | nil=>
     intro a ha h;have h:Jo s q'∈[Jo a s]:=h;rcases UE (List.mem_singleton.mp h) with ⟨e,_⟩ | ⟨_,e⟩
     ·exact absurd (by rw [e];exact List.mem_cons_self ..) ha
     ·exact e
    | cons b tl ih=>
     intro a ha h;have h:Jo s q'∈Jo a b::Ju (b::(tl++[s])):=h;rcases List.mem_cons.mp h with e | h
     ·rcases UE e with ⟨e,_⟩ | ⟨e,_⟩
      ·exact absurd (by rw [e];exact List.mem_cons_self ..) ha
      ·exact absurd (by rw [e];simp) ha
     ·have:=ih b (λz=>ha (List.mem_cons_of_mem _ z)) h;rw [this]
      rfl
   have:=key tl n1 nd.1 h
   lia
 ·refine Wd (Vd hlt) ?_ ?_
  ·have:((n1::tl)++[s]).Nodup:=by
    rw [List.nodup_append];exact ⟨nd.2,by simp,λa ha b hb=>by rw [List.mem_singleton] at hb;rw [hb];exact λz=>nd.1 (z▸ha)⟩
   exact this
  ·have:=hp.erase (Jo s n1)
   rwa [List.erase_cons_head] at this
 ·have ht':t∈Ju (s::((n1::tl)++[s])):=by rw [e1];exact hp.mem_iff.mp ht
  have hlt':=hlt t ht;obtain ⟨x,y,rfl⟩:∃x y,t=Jo x y:=by
   unfold Ju at ht';obtain ⟨u,_,rfl⟩:=List.mem_map.mp ht';exact ⟨_,_,rfl⟩
  have hx:=Zac ht';have hy:y∈s::((n1::tl)++[s]):=by
   refine Zac (q:=x) ?_;rw [YF];exact ht'
  have all:∀z∈s::((n1::tl)++[s]),s<=z:=λz hz=>by
   rcases List.mem_cons.mp hz with rfl | hz
   ·exact Int.le_refl _
   ·rcases List.mem_append.mp hz with hz | hz
    ·have:=hmin z (List.mem_cons_of_mem _ hz);simpa using this
    ·rw [List.mem_singleton.mp hz];exact Int.le_refl _
  have:=all x hx;have:=all y hy;show s<=(Jo x y).1;unfold Jo;dsimp only;split <;> assumption
 ·refine ⟨_,hin,?_⟩;show (if n1<s then n1 else s)=s;rw [if_neg (by lia)]
end M
namespace M
open PySem L2
structure WF (k:Int)(rs:List (Int×Int))(ns ks:List Int)(c:Bool):Prop where
 len:ks.length+(if c=true then 0 else 1)=ns.length
 set:Ov rs ks
 ends:∀x∈ks,(road rs x).1∈ns/\(road rs x).2∈ns
 nd:ns.Nodup
 rg:∀p∈ns,0<=p/\p<k
 ne:ns≠[]
def YH (ns:List Int)(c:Bool):List Int:=if c=true then [] else [ns.getD 0 0,ns.getD (ns.length-1) 0]
theorem WF.opn {k:Int}{rs:List (Int×Int)}{ns ks:List Int}{c:Bool}(h:WF k rs ns ks c)(a b:Int):decide (YH ns c=[lo2 a b,hi2 a b])=Zaa k rs ns ks [.int a,.int b]:=by
 show _=(decide (ks.length<ns.length) && decide ([ns.getD 0 0,ns.getD (ns.length-1) 0]=[lo2 a b,hi2 a b]));have:=h.len;unfold YH;cases c with
 | true=>rw [if_pos rfl] at this ⊢;rw [decide_eq_false (by simp),decide_eq_false (show ¬ ks.length<ns.length by lia)];rfl
 | false=>rw [if_neg Bool.false_ne_true] at this ⊢;rw [decide_eq_true (show ks.length<ns.length by lia),Bool.true_and]
theorem WF.cls {k:Int}{rs:List (Int×Int)}{ns ks:List Int}{c:Bool}(h:WF k rs ns ks c)(rest:List PyData):decide (YH ns c=[])=UB k rs ns ks rest:=by
 show _=decide (ks.length=ns.length);have:=h.len;unfold YH;cases c with
 | true=>rw [if_pos rfl] at this ⊢;rw [decide_eq_true rfl,decide_eq_true (by lia)]
 | false=>rw [if_neg Bool.false_ne_true] at this ⊢;rw [decide_eq_false (by simp),decide_eq_false (by lia)]
theorem joins_mem {rs:List (Int×Int)}{ns:List Int}{x:Int}:x∈JK rs ns rs.length↔(0<=x/\x<(rs.length:Int))/\(road rs x).1∈ns/\(road rs x).2∈ns:=by
 unfold JK road;rw [List.mem_map];constructor
 ·rintro ⟨j,hj,rfl⟩;obtain ⟨h1,h2⟩:=List.mem_filter.mp hj;rw [Bool.and_eq_true,decide_eq_true_eq,decide_eq_true_eq] at h2;have:=List.mem_range.mp h1;exact ⟨by lia,by simpa using h2⟩
 ·rintro ⟨h1,h2⟩;refine ⟨x.toNat,List.mem_filter.mpr ⟨List.mem_range.mpr (by lia),?_⟩,by lia⟩;rw [Bool.and_eq_true,decide_eq_true_eq,decide_eq_true_eq];exact h2
theorem WQ (rs:List (Int×Int))(ns:List Int):∀i,(JK rs ns i).Pairwise (· < ·)/\∀x∈JK rs ns i,x<(i:Int)
 | 0=>⟨List.Pairwise.nil,λx hx=>by cases hx⟩
 | i+1=>by
  obtain ⟨h1,h2⟩:=WQ rs ns i;rw [OY];split
  ·refine ⟨List.pairwise_append.mpr ⟨h1,List.pairwise_singleton _ _,λa ha b hb=>by rw [List.mem_singleton.mp hb];exact h2 a ha⟩,λx hx=>?_⟩;rcases List.mem_append.mp hx with hx | hx
   ·have:=h2 x hx;lia
   ·rw [List.mem_singleton.mp hx];lia
  ·rw [List.append_nil];exact ⟨h1,λx hx=>by have:=h2 x hx;lia⟩
theorem WF.shy {k:Int}{rs:List (Int×Int)}{ns ks:List Int}{c:Bool}(h:WF k rs ns ks c)(rest:List PyData):decide ((JK rs ns rs.length).filter (λx=>decide (x ∉ ks))=[])=Zdr k rs ns ks rest:=by
 show _=decide (JK rs ns rs.length=ks);rw [decide_eq_decide,List.filter_eq_nil_iff];constructor
 ·intro z;refine WM (WQ rs ns rs.length).1 h.set.1 λx=>⟨λhx=>?_,λhx=>joins_mem.mpr ⟨h.set.2 x hx,h.ends x hx⟩⟩;have:=z x hx;simpa using this
 ·intro z x hx;rw [z] at hx;simpa using hx
theorem VT {α:Type}[DecidableEq α]:∀{l m:List α},l.Nodup->(∀x∈l,x∈m)->l.length<=m.length
 | [],m,_,_=>Nat.zero_le _
 | x::l,m,nd,h=>by
  have hx:=h x (List.mem_cons_self ..);have ih:=VT (l:=l) (m:=m.erase x) (List.nodup_cons.mp nd).2 λy hy=>(List.mem_erase_of_ne (λe=>(List.nodup_cons.mp nd).1 (by rw [<-e];exact hy))).mpr (h y (List.mem_cons_of_mem _ hy));rw [List.length_erase_of_mem hx] at ih;have:=List.length_pos_of_mem hx;rw [List.length_cons]
  lia
theorem YI (n:Nat):((List.range n).map λ(i:Nat)=>(i:Int)).Pairwise (· < ·):=by
 rw [List.pairwise_map];exact (List.pairwise_lt_range).imp λh=>by lia
theorem WF.all {k:Int}{rs:List (Int×Int)}{ns ks ms:List Int}{c:Bool}(h:WF k rs ns ks c)(hk:0<=k)(pm:ms.Perm ns)(so:ms.Pairwise (· <= ·))(rest:List PyData):decide (ms=(List.range k.toNat).map λ(i:Nat)=>(i:Int))=Zdq k rs ns ks rest:=by
 show _=decide ((ns.length:Int)=k);rw [decide_eq_decide];constructor
 ·intro z;have:=congrArg List.length z;rw [List.length_map,List.length_range,pm.length_eq] at this
  lia
 ·intro z;refine WM (UX so (pm.nodup_iff.mpr h.nd)) (YI _) λx=>?_;have sub:∀y∈ns,y∈(List.range k.toNat).map λ(i:Nat)=>(i:Int):=λy hy=>by
   obtain ⟨h1,h2⟩:=h.rg y hy;exact List.mem_map.mpr ⟨y.toNat,List.mem_range.mpr (by lia),by lia⟩
  rw [pm.mem_iff];refine ⟨sub x,λhx=>?_⟩;by_cases hin:x∈ns
  ·exact hin
  ·have:=VT (List.nodup_cons.mpr ⟨hin,h.nd⟩) (λy hy=>(List.mem_cons.mp hy).elim (λe=>e▸hx) (sub y));rw [List.length_cons,List.length_map,List.length_range] at this
   lia
theorem WR (ms L:List Int):decide (ms.filter (λm=>decide (m ∉ L))=[])=ms.all λm=>decide (m∈L):=by
 induction ms with
 | nil=>rfl
 | cons m ms ih=>
  rw [List.filter_cons,List.all_cons];by_cases h:m∈L
  ·rw [decide_eq_true h,Bool.true_and,<-ih];simp [h]
  ·rw [decide_eq_false h,Bool.false_and];simp [h]
theorem VU (ms L:List Int):decide ((ms.filter (λm=>decide (m ∉ L))).length=ms.length)=!ms.any λm=>decide (m∈L):=by
 rw [Bool.eq_iff_iff,decide_eq_true_eq,List.length_filter_eq_length_iff,Bool.not_eq_true',List.any_eq_false];simp
section
variable {P:Program}{w:World}{K:W.Frag}{mg:Str->Option Value}{base:Heap}
def ZdE:Sp:=λvs H Q _=>∃(t pl:Addr)(a b:Int)(ns:List Int),vs=[.ref t,.ref pl]/\H t=some (.tup [.int a,.int b])/\H pl=some (.lst (ns.map V.int))/\Q (.bl (decide (a∈ns) && decide (b∈ns))) H
theorem Ze3:Gv ["road", "places"] ["road", "places"] (Gg ZbM):=⟨rfl,rfl,rfl,by decide +kernel,rfl,by decide +kernel,by decide +kernel⟩
theorem ZdF {f:Addr}{fd:FuncData}(F:Fun K "_law_between" "_law_between" ZbM f fd):GS P w K mg base CX0 1 f fd ["road", "places"] ZdE:=by
 refine F.ok Ze3 (λvs H Q E h=>?_) (λcdv A outer s H vs Q E hr h=>?_)
 ·obtain ⟨_,_,_,_,_,rfl,_⟩:=h
  rfl
 ·obtain ⟨t,pl,a,b,ns,rfl,et,ep,q⟩:=h;refine ⟨_,Gi (Gw (O0 (G6 (kIn K) (Gj (Je K) (pv 0) Gc (λ_ _=>rfl)) (pv 1) (by with_unfolding_all rfl)) (Oe (G6 (kIn K) (Gj (Je K) (pv 0) Gc (λ_ _=>rfl)) (pv 1) (by with_unfolding_all rfl))))),?_⟩;refine ⟨_,rfl,t,_,_,_,rfl,rfl,SqT.of et,Ge (j:=0) rfl,_,rfl,pl,_,rfl,.inl (SqL.of ep),rfl,G1 _,_,rfl,?_⟩;show if (inV (.int a) (ns.map V.int))=true then _ else _
  rw [Jc];by_cases c:a∈ns
  ·rw [decide_eq_true c] at q ⊢;rw [Bool.true_and] at q;refine Jg ⟨_,rfl,t,_,_,_,rfl,rfl,SqT.of et,Ge (j:=1) rfl,_,rfl,pl,_,rfl,.inl (SqL.of ep),rfl,G1 _,?_⟩;show Q (.bl (inV (.int b) (ns.map V.int))) H;rw [Jc];exact q
  ·rw [decide_eq_false c] at q ⊢;exact GG q
end
end M
namespace M
open PySem L2
theorem ZbZ {ns:List Int}{c:Bool}{t:Int×Int}(hne:ns≠[])(h:t∈Gm ns c):t.1∈ns/\t.2∈ns:=by
 have h0:0<ns.length:=List.length_pos_iff.mpr hne;unfold Gm at h;rcases List.mem_append.mp h with h | h
 ·obtain ⟨j,hj,rfl⟩:=zip_mem.mp h;exact ⟨JW (by lia),JW (by lia)⟩
 ·cases c with
  | false=>rw [if_neg Bool.false_ne_true] at h;cases h
  | true=>
   rw [if_pos rfl,List.mem_singleton] at h;rw [h];exact ⟨JW (by lia),JW h0⟩
theorem Zb0 {x y:Int}{ns:List Int}(hx:x∈ns)(hy:y∈ns):(Jo x y).1∈ns/\(Jo x y).2∈ns:=by
 unfold Jo;dsimp only;constructor
 ·split <;> assumption
 ·split <;> assumption
theorem YJ {ns:List Int}{p:Int}(h:p∈ns):∃i,i<ns.length/\ns.getD i 0=p:=by
 obtain ⟨i,hi,e⟩:=List.getElem_of_mem h;exact ⟨i,hi,by rw [JY hi];exact e⟩
theorem WayK.wf {k:Int}{rs:List (Int×Int)}{ks ns:List Int}{c:Bool}(g:Gz k rs)(h:WayK k rs ks ns c):WF k rs ns ks c:=by
 obtain ⟨w1,w2,w3,w4⟩:=h;have key:∀(hne:ns≠[])(o:Y9 rs ns c),∀x∈ks,(road rs x).1∈ns/\(road rs x).2∈ns:=λhne o x hx=>by
  obtain ⟨t,ht,rfl⟩:=List.mem_map.mp (w2.mem_iff.mp hx);rw [(Om g (o.1 t ht)).2];obtain ⟨a,b⟩:=ZbZ hne ht;exact Zb0 a b
 cases c with
 | false=>
  obtain ⟨p,q,tl,rfl,hpq,E,W⟩:=w3 rfl;obtain ⟨S,_,hl⟩:=Vh g E W w2 w1 rfl;have o:=W.2.2.2;refine ⟨by rw [if_neg Bool.false_ne_true,List.length_cons,hl],S,key (by simp) o,o.2,λx hx=>?_,by simp⟩;obtain ⟨i,hi,rfl⟩:=YJ hx;cases i with
  | zero=>exact E.1
  | succ i=>
   have:((p::tl).getD i 0,(p::tl).getD (i+1) 0)∈Gm (p::tl) false:=by
    unfold Gm;exact List.mem_append_left _ (zip_mem.mpr ⟨i,hi,rfl⟩)
   exact VN g (o.1 _ this)
 | true=>
  have R:=w4 rfl;obtain ⟨S,_,_,hl⟩:=Vi g R w2 w1 rfl;have o:=R.2.2.2;have hne:ns≠[]:=λz=>by have:=R.1;rw [z] at this;simp at this
  refine ⟨by rw [if_pos rfl];lia,S,key hne o,o.2,λx hx=>?_,hne⟩;obtain ⟨i,hi,rfl⟩:=YJ hx;exact VN g ((Yz hne).mp o.1 i hi)
end M
namespace M
open PySem L2
def wt:Nat->Nat
 | 0=>1
 | r+1=>1+(r+1) * wt r
theorem Ze4 {r:Nat}(h:r<=7):wt r<=13700:=by
 match r,h with
 | 0,_=>decide
 | 1,_=>decide
 | 2,_=>decide
 | 3,_=>decide
 | 4,_=>decide
 | 5,_=>decide
 | 6,_=>decide
 | 7,_=>decide
structure RwK (k:Int)(rs:List (Int×Int))(ns:List Int):Prop where
 ne:ns≠[]
 o:Y9 rs ns false
 rg:∀p∈ns,0<=p/\p<k
theorem RwK.one {k:Int}{rs:List (Int×Int)}{p:Int}(h:0<=p/\p<k):RwK k rs [p]:=⟨by simp,⟨λt ht=>by unfold Gm at ht;simp at ht,by simp⟩,λq hq=>by rw [List.mem_singleton.mp hq];exact h⟩
theorem Zad (ns:List Int)(x:Int)(h:ns≠[]):(ns++[x]).zip ((ns++[x]).drop 1)=ns.zip (ns.drop 1)++[(ns.getD (ns.length-1) 0,x)]:=by
 induction ns with
 | nil=>exact absurd rfl h
 | cons a tl ih=>
  cases tl with
  | nil=>rfl
  | cons b tl=>
   have:=ih (by simp);show (a,b)::((b::tl)++[x]).zip (((b::tl)++[x]).drop 1)=_;rw [this]
   rfl
theorem RwK.snoc {k:Int}{rs:List (Int×Int)}{ns:List Int}(h:RwK k rs ns){x:Int}(hx:0<=x/\x<k)(hn:x ∉ ns)(ha:Adj rs (ns.getD (ns.length-1) 0) x):RwK k rs (ns++[x]):=by
 refine ⟨by simp,⟨λt ht=>?_,?_⟩,λp hp=>?_⟩
 ·unfold Gm at ht;rw [if_neg Bool.false_ne_true,List.append_nil,Zad ns x h.ne] at ht;rcases List.mem_append.mp ht with ht | ht
  ·refine h.o.1 t ?_;unfold Gm;exact List.mem_append_left _ ht
  ·rw [List.mem_singleton.mp ht];exact ha
 ·rw [List.nodup_append];exact ⟨h.o.2,by simp,λa ha b hb=>by rw [List.mem_singleton] at hb;rw [hb];exact λz=>hn (z▸ha)⟩
 ·rcases List.mem_append.mp hp with hp | hp
  ·exact h.rg p hp
  ·rw [List.mem_singleton.mp hp];exact hx
theorem RwK.len {k:Int}{rs:List (Int×Int)}{ns:List Int}(h:RwK k rs ns):(ns.length:Int)<=k:=by
 by_cases hk:0<=k
 ·have:=VT h.o.2 (m:=(List.range k.toNat).map λ(i:Nat)=>(i:Int)) λy hy=>by
   obtain ⟨h1,h2⟩:=h.rg y hy;exact List.mem_map.mpr ⟨y.toNat,List.mem_range.mpr (by lia),by lia⟩
  rw [List.length_map,List.length_range] at this
  lia
 ·cases ns with
  | nil=>exact absurd rfl h.ne
  | cons a tl=>have:=h.rg a (List.mem_cons_self ..);lia
theorem RwK.way {k:Int}{rs:List (Int×Int)}{ns ks:List Int}(h:RwK k rs ns)(h1:1<ns.length)(hlt:ns.getD 0 0<ns.getD (ns.length-1) 0)(pm:ks.Perm ((Gm ns false).map (Oz rs)))(so:ks.Pairwise (· <= ·)):WayK k rs ks ns false:=by
 refine ⟨so,pm,λ_=>?_,λz=>by cases z⟩;obtain ⟨p,tl,rfl⟩:∃p tl,ns=p::tl:=by
  cases ns with
  | nil=>exact absurd rfl h.ne
  | cons a b=>exact ⟨a,b,rfl⟩
 have hlast:(p::tl).getD ((p::tl).length-1) 0∈p::tl:=JW (by lia);refine ⟨p,_,tl,rfl,hlt,⟨h.rg p (List.mem_cons_self ..),h.rg _ hlast,λz=>?_⟩,by simp,rfl,rfl,h.o⟩;have hlt:p<(p::tl).getD ((p::tl).length-1) 0:=hlt
 lia
theorem RwK.ring {k:Int}{rs:List (Int×Int)}{ns ks:List Int}(h:RwK k rs ns)(h3:2<ns.length)(hmin:∀x∈ns,ns.getD 0 0<=x)(hlt:ns.getD 1 0<ns.getD (ns.length-1) 0)(ha:Adj rs (ns.getD (ns.length-1) 0) (ns.getD 0 0))(pm:ks.Perm ((Gm ns true).map (Oz rs)))(so:ks.Pairwise (· <= ·)):WayK k rs ks ns true:=by
 refine ⟨so,pm,λz=>(by cases z),λ_=>⟨by lia,hmin,hlt,λt ht=>?_,h.o.2⟩⟩;unfold Gm at ht;rcases List.mem_append.mp ht with ht | ht
 ·refine h.o.1 t ?_;unfold Gm;exact List.mem_append_left _ ht
 ·rw [if_pos rfl,List.mem_singleton] at ht;rw [ht];exact ha
def wts (k:Nat)(R:List (List Int)):Nat:=(R.map λns=>wt (k-ns.length)).sum
theorem WS (k:Nat)(R:List (List Int))(ns:List Int):wts k (R++[ns])=wts k R+wt (k-ns.length):=by
 unfold wts;rw [List.map_append,List.sum_append];simp
theorem ZdG (r:Nat):1<=wt r:=by
 cases r with
 | zero=>exact Nat.le_refl _
 | succ r=>show 1<=1+(r+1) * wt r;lia
theorem Zb1 (k:Nat)(R:List (List Int)):R.length<=wts k R:=by
 unfold wts
 induction R with
 | nil=>exact Nat.le_refl _
 | cons ns R ih=>
  rw [List.map_cons,List.sum_cons,List.length_cons];have:=ZdG (k-ns.length)
  lia
end M
namespace M
open PySem L2
structure Wd3 (K:W.Frag)(aJ aR aL:Addr):Prop where
 j:∀H:Hp,SqT K H aJ (sJoin.map V.str)
 r:∀H:Hp,SqT K H aR [.str "with", .str "off"]
 l:∀H:Hp,SqT K H aL [.str "over", .str "past"]
inductive Pr:PyData->List PyData->Prop
 | leaf {w:Str} {rest:List PyData}:Jq w rest=true->Pr (.tuple (.str w::rest)) [.tuple (.str w::rest)]
 | join {w:Str} {a b:PyData} {ps qs:List PyData}:w∈sJoin->Pr a ps->Pr b qs->Pr (.tuple [.str w,a,b]) (.tuple [.str w,a,b]::(qs++ps))
theorem Zae {H:Hp}{us:List V}{ds:List PyData}{d:PyData}(h:Ths H us (ds++[d])):∃us' x,us=us'++[x]/\Ths H us' ds/\Th H x d:=by
 induction ds generalizing us with
 | nil=>
  cases h with
  | cons t r=>cases r;exact ⟨[],_,rfl,.nil,t⟩
 | cons e ds ih=>
  cases h with
  | cons t r=>
   obtain ⟨us',x,rfl,h1,h2⟩:=ih r;exact ⟨_::us',x,rfl,.cons t h1,h2⟩
theorem Pr.one_le {d:PyData}{ps:List PyData}(h:Pr d ps):1<=ps.length:=by
 cases h with
 | leaf _=>simp
 | join _ _ _=>simp
section
variable {P:Program}{w:World}{K:W.Frag}{mg:Str->Option Value}{base:Heap}
def Zb2:Sp:=λvs H Q _=>∃(v:V)(d:PyData)(ps:List PyData),vs=[v]/\Th H v d/\Pr d ps/\ps.length<=100000/\∀(l:Addr)(us:List V)(H':Hp),Same H H'->H l=none->H' l=some (.lst us)->Ths H us ps->Q (.ref l) H'
theorem scPar:Gv ["wish", "found", "pending", "part"] ["wish"] (Gg ZaE):=⟨rfl,rfl,rfl,by decide +kernel,rfl,by decide +kernel,by decide +kernel⟩
theorem ZdH {f aJ aR aL:Addr}{fd:FuncData}(F:Fun K "parts_of" "parts_of" ZaE f fd)(T:Wd3 K aJ aR aL)(mJoi:mg "JOINING" = some (.ref aJ)):GS P w K mg base CX0 1 f fd ["wish"] Zb2:=by
 refine F.ok scPar (λvs H Q E h=>?_) (λcdv A outer s H vs Q E hr h=>?_)
 ·obtain ⟨_,_,_,rfl,_⟩:=h
  rfl
 ·obtain ⟨v0,d0,ps,rfl,h0,pr0,hpl,q⟩:=h;have h16:(16777216:Nat)=sizeLine:=sizeLine_eq.symm;refine ⟨_,(@Gh _ _ _ _ _ (@GE _ _ 1 _ _ _ _ scPar.nd rfl (Or.inl rfl) (@G8 _ _ _ _ Gf) rfl (by first | exact .inl rfl | exact .inr rfl))
    (@Gh _ _ _ _ _ (@GE _ _ 2 _ _ _ _ scPar.nd rfl (Or.inl rfl) (@G8 _ _ _ _ (@Ga _ _ _ _ _ (pv 0) Gf rfl)) rfl (by first | exact .inl rfl | exact .inr rfl))
    (@Gh _ _ _ _ _ (U0 PassesOwn.never (U3 (pv 2) (λ_=>rfl))
    (@Gh _ _ _ _ _ (@GE _ _ 3 _ _ _ _ scPar.nd rfl (Or.inl rfl) (Wp PySem.F.plainAttrs_list PySem.F.slot_list_pop PySem.F.type_list_pop Wr (pv 2)) rfl (by first | exact .inl rfl | exact .inr rfl))
    (@Gh _ _ _ _ _ (Ji (Ou PySem.F.plainAttrs_list PySem.F.slot_list_append PySem.F.type_list_append G9 (pv 1) (@Ga _ _ _ _ _ (pv 3) Gf rfl)))
    (@Gi _ _ _ (@Jj _ _ _ _ _ _ _ _ (Gp (kIn K) (@Gj _ _ _ _ _ _ _ (Je K) (pv 3) Gc (λ_ _=>rfl)) (Uo mJoi) (by with_unfolding_all rfl)) (@Gi _ _ _ (Ji (Ou PySem.F.plainAttrs_list PySem.F.slot_list_extend PySem.F.type_list_extend Xm (pv 2) (@Ga _ _ _ _ _ (Js (Zfv K) (pv 3) (Jy Gc) JJ) Gf rfl)))) GF)))))
    (@Gi _ _ _ (@Gw _ _ _ _ (pv 1)))))),?_⟩
  refine ⟨Nat.zero_le _,λfl hfl=>?_⟩;have s1:Same H (upd H fl (.lst [])):=Same.new hfl;have ef0:upd H fl (.lst []) fl=some (.lst []):=Gb;generalize upd H fl (.lst [])=H1 at s1 ef0 ⊢;refine ⟨_,rfl,(by show 1<=sizeLine;lia),λpl hpl1=>?_⟩;have s2:Same H1 (upd H1 pl (.lst [v0])):=Same.new hpl1;have ep0:upd H1 pl (.lst [v0]) pl=some (.lst [v0]):=Gb;have hHpl:H pl=none:=s1.free hpl1;have nfp:fl≠pl:=Gn ef0 hpl1;have ef1:=s2 _ _ ef0;generalize upd H1 pl (.lst [v0])=H2 at s2 ep0 ef1 ⊢;dsimp only [Jm];refine ⟨λm σ' H'=>∃(fs us:List V)(Fd:List PyData)(pend:List (PyData×List PyData))(v3:Option V),σ'=[some v0,some (.ref fl),some (.ref pl),v3]/\Same H H'/\H' fl=some (.lst fs)/\H' pl=some (.lst us)/\Ths H fs Fd/\Ths H us (pend.map (·.1))/\(∀p∈pend,Pr p.1 p.2)/\ps=Fd++pend.reverse.flatMap (·.2)/\m=(pend.map λp=>p.2.length).sum,
   ⟨_,[],[v0],[],[(d0,ps)],none,rfl,s1.trans s2,ef1,ep0,.nil,.cons h0 .nil,λp hp=>by rw [List.mem_singleton.mp hp];exact pr0,by simp,rfl⟩,?_⟩
  clear s1 s2 ef0 ef1 ep0 hpl1;rintro m σ' H3 ⟨fs,us,Fd,pend,v3,rfl,s3,ef,ep,tf,tu,hpr,eps,rfl⟩;rcases List.eq_nil_or_concat pend with rfl | ⟨pend,⟨d,qs⟩,rfl⟩
  ·cases tu;refine ⟨_,rfl,false,.inl ⟨_,SqL.of ep,rfl⟩,GG ?_⟩;have eps:ps=Fd:=by simpa using eps
   rw [<-eps] at tf;exact ⟨_,rfl,q fl fs H3 s3 hfl ef tf⟩
  ·rw [List.concat_eq_append] at tu hpr eps ⊢;rw [List.map_append] at tu;obtain ⟨us,x,rfl,tu',tx⟩:=Zae tu;have hd:=hpr (d,qs) (by simp);have hsum:((pend++[(d,qs)]).map λp=>p.2.length).sum=(pend.map λp=>p.2.length).sum+qs.length:=by simp
   rw [hsum];have eps2:ps=Fd++(qs++pend.reverse.flatMap (·.2)):=by rw [eps];simp
   have hul:=tu'.len;have qJ:Fd.length+(qs.length+(pend.reverse.flatMap (·.2)).length)=ps.length:=by rw [eps2];simp
   have hq1:1<=qs.length:=Pr.one_le hd;have hpend:pend.length<=(pend.reverse.flatMap (·.2)).length:=by
    have:∀l:List (PyData×List PyData),(∀p∈l,Pr p.1 p.2)->l.length<=(l.flatMap (·.2)).length:=by
     intro l
     induction l with
     | nil=>simp
     | cons p l ih=>
      intro h;have h1:1<=p.2.length:=(h p (List.mem_cons_self ..)).one_le;have:=ih λz hz=>h z (List.mem_cons_of_mem _ hz);rw [List.flatMap_cons,List.length_append,List.length_cons]
      lia
    have:=this pend.reverse λp hp=>hpr p (List.mem_append_left _ (List.mem_reverse.mp hp));simpa using this
   rw [List.length_map] at hul;have hfl':=tf.len;refine ⟨_,rfl,true,.inl ⟨_,SqL.of ep,by cases us <;> rfl⟩,Jg ?_⟩;refine ⟨_,λ_ _ h=>h,?_⟩;have hlast:(us++[x])[(us++[x]).length-1]?=some x:=by simp
   refine ⟨_,rfl,.inl ⟨rfl,_,SqL.of ep⟩,pl,_,_,rfl,rfl,ep,hlast,?_⟩;rw [List.dropLast_concat];have s4:Same H (upd H3 pl (.lst us)):=s3.put hHpl;have ep4:upd H3 pl (.lst us) pl=some (.lst us):=Gb;have ef4:upd H3 pl (.lst us) fl=some (.lst fs):=G0 ef nfp;generalize upd H3 pl (.lst us)=H4 at s4 ep4 ef4 ⊢;dsimp only [Jm];refine ⟨_,rfl,.inl ⟨rfl,_,SqL.of ef4⟩,_,rfl,fl,_,_,rfl,rfl,ef4,by lia,?_⟩;have s5:Same H (upd H4 fl (.lst (fs++[x]))):=s4.put hfl;have ef5:upd H4 fl (.lst (fs++[x])) fl=some (.lst (fs++[x])):=Gb;have ep5:upd H4 fl (.lst (fs++[x])) pl=some (.lst us):=G0 ep4 (Ne.symm nfp);generalize upd H4 fl (.lst (fs++[x]))=H5 at s5 ef5 ep5 ⊢;dsimp only [Zf];cases hd with
   | @leaf wd rest hw=>
    cases tx with
    | @tup a xs1 _ e z hh=>
     cases hh with
     | @cons x1 _ vs1 _ tx1 hr1=>
      cases tx1;have e5:=s5 _ _ e;refine ⟨_,rfl,a,_,_,_,rfl,rfl,SqT.of e5,Ge (j:=0) rfl,aJ,_,rfl,.inr (T.j _),rfl,rfl,_,rfl,?_⟩;show if (inV (.str wd) (sJoin.map V.str))=true then _ else _
      rw [JX,decide_eq_false (Oh hw)];refine GG ?_;refine ⟨(pend.map λp=>p.2.length).sum,by simp,fs++[.ref a],us,Fd++[.tuple (.str wd::rest)],pend,_,rfl,s5,ef5,ep5,tf.app (.cons (.tup e z (.cons (.str _) hr1)) .nil),tu',λp hp=>hpr p (List.mem_append_left _ hp),by rw [eps2];simp,rfl⟩
   | @join wd da db pa pb hw ha hb=>
    cases tx with
    | @tup a xs1 _ e z hh=>
     cases hh with
     | @cons x1 _ vs1 _ tx1 hr1=>
      cases tx1;cases hr1 with
      | @cons va _ vs2 _ ta hr2=>
       cases hr2 with
       | @cons vb _ vs3 _ tb hr3=>
        cases hr3;have e5:=s5 _ _ e;refine ⟨_,rfl,a,_,_,_,rfl,rfl,SqT.of e5,Ge (j:=0) rfl,aJ,_,rfl,.inr (T.j _),rfl,rfl,_,rfl,?_⟩;show if (inV (.str wd) (sJoin.map V.str))=true then _ else _
        rw [JX,decide_eq_true hw];refine Jg ?_;refine ⟨_,rfl,.inl ⟨rfl,_,SqL.of ep5⟩,_,rfl,_,rfl,a,_,rfl,SqT.of e5,(by show ¬ (HT.sIx 3 0 (some 1)=0/\HT.sIx 3 3 none=3);decide),λt ht=>?_⟩;rw [show OV [V.str wd,va,vb] (some 1) none=[va,vb] from rfl];have s6:Same H5 (upd H5 t (.tup [va,vb])):=Same.new ht;have et:upd H5 t (.tup [va,vb]) t=some (.tup [va,vb]):=Gb;have ep6:=s6 _ _ ep5;have ef6:=s6 _ _ ef5;refine ⟨pl,t,_,[va,vb],rfl,rfl,ep6,et,by show us.length+2<=sizeLine;lia,?_⟩;generalize upd H5 t (.tup [va,vb])=H6 at s6 et ep6 ef6 ⊢;refine ⟨(pend.map λp=>p.2.length).sum+(pa.length+pb.length),by simp;lia,fs++[.ref a],us++[va,vb],Fd++[.tuple [.str wd,da,db]],pend++[(da,pa),(db,pb)],_,rfl,(s5.trans s6).put hHpl,G0 ef6 nfp,Gb,tf.app (.cons (.tup e z (.cons (.str _) (.cons ta (.cons tb .nil)))) .nil),?_,?_,?_,by simp⟩
        ·rw [List.map_append];exact tu'.app (.cons ta (.cons tb .nil))
        ·intro p hp;rcases List.mem_append.mp hp with h | h
         ·exact hpr p (List.mem_append_left _ h)
         ·rcases List.mem_cons.mp h with h | h
          ·rw [h];exact ha
          ·rw [List.mem_singleton.mp h];exact hb
        ·rw [eps2];simp
end
theorem Xy {H H':Hp}{v:V}{d:PyData}(h:U9 d=true)(t:Th H v d):Th H' v d:=by
 cases t with
 | int i=>exact .int i
 | _=>exact absurd h Bool.false_ne_true
theorem OD {H H':Hp}:∀{vs:List V}{ds:List PyData},ds.all U9=true->Ths H vs ds->Ths H' vs ds
 | _,_,_,.nil=>.nil
 | _,_,h,.cons a b=>by
  rw [List.all_cons,Bool.and_eq_true] at h;exact .cons (Xy h.1 a) (OD h.2 b)
theorem UF {H H':Hp}(k:∀t ys,H t=some (.tup ys)->H' t=some (.tup ys)){wd:Str}{rest:List PyData}{vs:List V}(h:Jq wd rest=true)(t:Ths H vs rest):Ths H' vs rest:=by
 unfold Jq at h;by_cases h1:wd∈OW
 ·rw [if_pos h1] at h
  match rest,h,t with
  | [],_,.nil=>exact .nil
 rw [if_neg h1] at h;by_cases h2:wd∈O8
 ·rw [if_pos h2] at h
  match rest,h,t with
  | [a,b],h,t=>
   exact OD (by simpa using h) t
 rw [if_neg h2] at h;by_cases h3:wd∈Ut
 ·rw [if_pos h3] at h
  match rest,h,t with
  | [.tuple ds],h,.cons (.tup e z hh) .nil=>exact .cons (.tup (k _ _ e) z (OD h hh)) .nil
 rw [if_neg h3] at h;cases h
inductive Hs (f:Str->List PyData->Bool):PyData->Bool->Prop
 | leaf {w:Str} {rest:List PyData}:Jq w rest=true->Hs f (.tuple (.str w::rest)) (f w rest)
 | join {w:Str} {a b:PyData} {s t:Bool}:w∈sJoin->Hs f a s->Hs f b t->Hs f (.tuple [.str w,a,b]) (UD w s t)
theorem Ws.hs (f:Str->List PyData->Bool){d:PyData}{m:Nat}(h:Ws d m):∃b,Hs f d b:=by
 induction h with
 | leaf h=>exact ⟨_,.leaf h⟩
 | join hw _ _ iha ihb=>
  obtain ⟨s,hs⟩:=iha;obtain ⟨t,ht⟩:=ihb;exact ⟨_,.join hw hs ht⟩
inductive EvB (f:Str->List PyData->Bool):List PyData->List Bool->List Bool->Prop
 | nil {S:List Bool}:EvB f [] S S
 | leaf {w:Str} {rest:List PyData} {ds:List PyData} {S R:List Bool}:Jq w rest=true->EvB f ds (S++[f w rest]) R->EvB f (.tuple (.str w::rest)::ds) S R
 | join {w:Str} {a b:PyData} {s t:Bool} {ds:List PyData} {S R:List Bool}:w∈sJoin->EvB f ds (S++[UD w s t]) R->EvB f (.tuple [.str w,a,b]::ds) (S++[s,t]) R
theorem ZdI {f:Str->List PyData->Bool}{d:PyData}{ps:List PyData}(h:Pr d ps):∀{s:Bool}{ds:List PyData}{S R:List Bool},Hs f d s->EvB f ds (S++[s]) R->EvB f (ps.reverse++ds) S R:=by
 induction h with
 | leaf hl=>
  intro s ds S R tx ev;cases tx with
  | leaf _=>exact .leaf hl ev
  | join hw _ _=>exact absurd hw (Oh hl)
 | join hw _ _ iha ihb=>
  intro s ds S R tx ev;cases tx with
  | leaf hl=>exact absurd hw (Oh hl)
  | join _ ta tb=>
   rw [List.reverse_cons,List.reverse_append,List.append_assoc,List.append_assoc];refine iha ta (ihb tb ?_);rw [List.append_assoc];exact .join hw ev
theorem YK {f:Str->List PyData->Bool}{p:PyData}{ds:List PyData}{S R:List Bool}(h:EvB f (p::ds) S R):(∃wd rest,p=.tuple (.str wd::rest)/\Jq wd rest=true/\EvB f ds (S++[f wd rest]) R)\/∃wd da db s t S',p=.tuple [.str wd,da,db]/\wd∈sJoin/\S=S'++[s,t]/\EvB f ds (S'++[UD wd s t]) R:=by
 cases h with
 | leaf a b=>exact .inl ⟨_,_,rfl,a,b⟩
 | join a b=>exact .inr ⟨_,_,_,_,_,_,rfl,a,rfl,b⟩
section
variable {P:Program}{w:World}{K:W.Frag}{mg:Str->Option Value}{base:Heap}
def Zfx (HG:Hp->Prop)(f:Str->List PyData->Bool):Sp:=λvs H Q _=>∃(v:V)(wd:Str)(rest:List PyData),vs=[v]/\HG H/\Th H v (.tuple (.str wd::rest))/\Jq wd rest=true/\∀H',Same H H'->Q (.bl (f wd rest)) H'
def ZdJ (P:Program)(w:World)(K:W.Frag)(mg:Str->Option Value)(base:Heap)(fJ:Addr):Sp:=λvs H Q _=>∃(v:V)(d:PyData)(ps:List PyData)(b:Bool)(f:Str->List PyData->Bool)(fTo:Addr)(fdTo:FuncData)(HG:Hp->Prop),vs=[v,.ref fTo,.ref fJ]/\Th H v d/\Pr d ps/\ps.length<=1000/\Hs f d b /\
 (∀H',Same H H'->HG H'/\FnIn H' fTo)/\Binds K fdTo ["leaf"] []/\GS P w K mg base CX0 2 fTo fdTo ["leaf"] (Zfx HG f)/\∀H',Same H H'->Q (.bl b) H'
theorem scFol:Gv ["wish", "told_of", "joined", "told", "part", "second", "first"] ["wish", "told_of", "joined"] (Gg Zbw):=⟨rfl,rfl,rfl,by decide +kernel,rfl,by decide +kernel,by decide +kernel⟩
theorem ZdK {f fPa fJ aJ aR aL:Addr}{fd fdPa fdJ:FuncData}(F:Fun K "folded" "folded" Zbw f fd)(FPa:Fun K "parts_of" "parts_of" ZaE fPa fdPa)(bPa:Binds K fdPa ["wish"] [])(mPa:mg "parts_of" = some (.ref fPa))(GPa:GS P w K mg base CX0 1 fPa fdPa ["wish"] Zb2)(kJn:W.keepIn K (.ref fJ)=true)(bJn:Binds K fdJ ["word", "first", "second"] [])(GJn:GS P w K mg base CX0 1 fJ fdJ ["word", "first", "second"] Zdz)(T:Wd3 K aJ aR aL)(mJoi:mg "JOINING" = some (.ref aJ))(mRev:mg "reversed" = none):GS P w K mg base CX0 3 f fd ["wish", "told_of", "joined"] (ZdJ P w K mg base fJ):=by
 refine F.ok scFol (λvs H Q E h=>?_) (λcdv A outer s H vs Q E hr h=>?_)
 ·obtain ⟨_,_,_,_,_,_,_,_,rfl,_⟩:=h
  rfl
 ·obtain ⟨v,d,ps,b,ff,fTo,fdTo,HG,rfl,th,pr,hpl,hb,hG,bTo,GTo,q⟩:=h;have h16:(16777216:Nat)=sizeLine:=sizeLine_eq.symm;refine ⟨_,(@Gh _ _ _ _ _ (@GE _ _ 3 _ _ _ _ scFol.nd rfl (Or.inl rfl) (@G8 _ _ _ _ Gf) rfl (by first | exact .inl rfl | exact .inr rfl))
    (@Gh _ _ _ _ _ (@J1 _ _ _ _ _ _ _ _ PassesOwn.never rfl (ZfZ K rfl mRev (@Ga _ _ _ _ _ (@Gs _ _ _ _ _ _ _ _ _ _ _ _ _ _ _ _ GPa (hr.mono (by decide)) rfl mPa FPa.kp bPa .nil G2 (@Ga _ _ _ _ _ (pv 0) Gf rfl) (by decide) rfl rfl) Gf rfl)) (Gy (i:=4) scFol.nd rfl (Or.inl rfl))
    (@Gi _ _ _ (@Jj _ _ _ _ _ _ _ _ (Gp (kIn K) (@Gj _ _ _ _ _ _ _ (Je K) (pv 4) Gc (λ_ _=>rfl)) (Uo mJoi) (by with_unfolding_all rfl)) (@Gh _ _ _ _ _ (@GE _ _ 5 _ _ _ _ scFol.nd rfl (Or.inl rfl) (Wp PySem.F.plainAttrs_list PySem.F.slot_list_pop PySem.F.type_list_pop Wr (pv 3)) rfl (by first | exact .inl rfl | exact .inr rfl))
    (@Gh _ _ _ _ _ (@GE _ _ 6 _ _ _ _ scFol.nd rfl (Or.inl rfl) (Wp PySem.F.plainAttrs_list PySem.F.slot_list_pop PySem.F.type_list_pop Wr (pv 3)) rfl (by first | exact .inl rfl | exact .inr rfl))
    (@Gi _ _ _ (Ji (Ou PySem.F.plainAttrs_list PySem.F.slot_list_append PySem.F.type_list_append G9 (pv 3) (@Ga _ _ _ _ _ (ZP GJn (hr.mono (by lia)) (pv 2) kJn bJn .nil G2 (@Ga _ _ _ _ _ (@Gj _ _ _ _ _ _ _ (Je K) (pv 4) Gc (λ_ _=>rfl)) (@Ga _ _ _ _ _ (pv 6) (@Ga _ _ _ _ _ (pv 5) Gf rfl) rfl) rfl)) Gf rfl)))))) (@Gi _ _ _ (Ji (Ou PySem.F.plainAttrs_list PySem.F.slot_list_append PySem.F.type_list_append G9 (pv 3) (@Ga _ _ _ _ _ (ZQ GTo (hr.mono (by lia)) (pv 1) bTo .nil G2 (@Ga _ _ _ _ _ (pv 4) Gf rfl)) Gf rfl)))))) (by intro _;rfl))
    (@Gi _ _ _ (@Gw _ _ _ _ (@Gj _ _ _ _ _ _ _ (Jt K) (pv 3) Gc (λ_ _=>rfl)))))),?_⟩
  refine ⟨Nat.zero_le _,λtl htl=>?_⟩;have s1:Same H (upd H tl (.lst [])):=Same.new htl;have e1:upd H tl (.lst []) tl=some (.lst []):=Gb;generalize upd H tl (.lst [])=H1 at s1 e1 ⊢;refine ⟨_,rfl,v,d,ps,rfl,th.same s1,pr,by lia,λfl us H2 s2 hfl efl tu=>?_⟩;have hul:=tu.len;refine ⟨fl,us,rfl,SqL.of efl,?_⟩;have nft:fl≠tl:=λz=>by rw [z,e1] at hfl;cases hfl
  have e2:=s2 _ _ e1;refine Zbi (K:=K) (a:=fl) (xs:=us) (λi σ H3=>∃(S:List Bool)(v4 v5 v6:Option V),σ=[some v,some (.ref fTo),some (.ref fJ),some (.ref tl),v4,v5,v6]/\Same H H3/\SameL tl H2 H3/\H3 tl=some (.lst (S.map V.bl))/\S.length<=i/\EvB ff (ps.reverse.drop i) S [b]) ⟨[],none,none,none,rfl,s1.trans s2,SameL.of (Same.refl _),e2,Nat.le_refl _,?_⟩ ?_ ?_ ?_
  ·have:=ZdI pr (S:=[]) (ds:=[]) (R:=[b]) hb .nil;rw [List.append_nil] at this;exact this
  ·rintro i σ H3 hi ⟨S,v4,v5,v6,rfl,s3,sl3,_⟩;exact SqL.of (sl3 _ _ nft efl)
  ·rintro i x σ H3 hi hx ⟨S,v4,v5,v6,rfl,s3,sl3,e3,hS,ev⟩;obtain ⟨p,ep,tp⟩:=(tu.same s2).get hx;have hps:ps.reverse[i]?=some p:=by
    rw [List.getElem?_reverse (by lia),<-hul];exact ep
   obtain ⟨hi',ep'⟩:=List.getElem?_eq_some_iff.mp hps;rw [List.drop_eq_getElem_cons hi',ep'] at ev;have kk:∀t ys,H2 t=some (.tup ys)->H3 t=some (.tup ys):=λt ys e=>sl3 _ _ (λz=>by rw [z,e2] at e;cases e) e;rcases YK ev with ⟨wd,rest,rfl,hl,ev'⟩ | ⟨wd,da,db,sa,sb,S',rfl,hw,rfl,ev'⟩
   ·cases tp with
    | @tup a xs1 _ e z hh=>
     cases hh with
     | @cons x1 _ vs1 _ tx1 hr1=>
      cases tx1;have e':=kk _ _ e;refine ⟨_,rfl,a,_,_,_,rfl,rfl,SqT.of e',Ge (j:=0) rfl,aJ,_,rfl,.inr (T.j _),rfl,rfl,_,rfl,?_⟩;show if (inV (.str wd) (sJoin.map V.str))=true then _ else _
      rw [JX,decide_eq_false (Oh hl)];refine GG ?_;refine ⟨_,rfl,.inl ⟨rfl,_,SqL.of e3⟩,rfl,(hG _ s3).2,_,rfl,(hG _ s3).2,.ref a,wd,rest,rfl,(hG _ s3).1,.tup e' z (.cons (.str _) (UF kk hl hr1)),hl,λH4 s4=>?_⟩;refine ⟨tl,_,_,rfl,rfl,s4 _ _ e3,by rw [List.length_map];lia,?_⟩;refine ⟨S++[ff wd rest],_,_,_,rfl,(s3.trans s4).put htl,λb o n eb=>?_,by rw [Gb,List.map_append];rfl,by rw [List.length_append,List.length_singleton];lia,ev'⟩;rw [Gu n];exact s4 _ _ (sl3 _ _ n eb)
   ·cases tp with
    | @tup a xs1 _ e z hh=>
     cases hh with
     | @cons x1 _ vs1 _ tx1 hr1=>
      cases tx1;have e':=kk _ _ e;refine ⟨_,rfl,a,_,_,_,rfl,rfl,SqT.of e',Ge (j:=0) rfl,aJ,_,rfl,.inr (T.j _),rfl,rfl,_,rfl,?_⟩;show if (inV (.str wd) (sJoin.map V.str))=true then _ else _
      rw [JX,decide_eq_true hw];refine Jg ?_;rw [List.length_append] at hS;have e3':H3 tl=some (.lst ((S'.map V.bl++[V.bl sa])++[V.bl sb])):=by rw [e3,List.map_append,List.append_assoc];rfl
      refine ⟨_,rfl,.inl ⟨rfl,_,SqL.of e3'⟩,tl,_,V.bl sb,rfl,rfl,e3',(by simp),?_⟩;rw [List.dropLast_concat];have s4:SameL tl H2 (upd H3 tl (.lst (S'.map V.bl++[V.bl sa]))):=λb o n eb=>by rw [Gu n];exact sl3 _ _ n eb
      have t4:Same H (upd H3 tl (.lst (S'.map V.bl++[V.bl sa]))):=s3.put htl;have e4:upd H3 tl (.lst (S'.map V.bl++[V.bl sa])) tl=some (.lst (S'.map V.bl++[V.bl sa])):=Gb;generalize upd H3 tl (.lst (S'.map V.bl++[V.bl sa]))=H4 at s4 t4 e4 ⊢;refine ⟨_,rfl,.inl ⟨rfl,_,SqL.of e4⟩,tl,_,V.bl sa,rfl,rfl,e4,(by simp),?_⟩;rw [List.dropLast_concat];have s5:SameL tl H2 (upd H4 tl (.lst (S'.map V.bl))):=λb o n eb=>by rw [Gu n];exact s4 _ _ n eb
      have t5:Same H (upd H4 tl (.lst (S'.map V.bl))):=t4.put htl;have e5:upd H4 tl (.lst (S'.map V.bl)) tl=some (.lst (S'.map V.bl)):=Gb;generalize upd H4 tl (.lst (S'.map V.bl))=H5 at s5 t5 e5 ⊢;have e5':=s5 _ _ (λz=>by rw [z,e2] at e;cases e) e;refine ⟨_,rfl,.inl ⟨rfl,_,SqL.of e5⟩,rfl,_,rfl,a,_,_,_,rfl,rfl,SqT.of e5',Ge (j:=0) rfl,_,rfl,_,rfl,wd,sa,sb,rfl,?_⟩;refine ⟨tl,_,_,rfl,rfl,e5,by rw [List.length_map];lia,?_⟩;refine ⟨S'++[UD wd sa sb],_,_,_,rfl,t5.put htl,λb o n eb=>?_,by rw [Gb,List.map_append];rfl,by rw [List.length_append,List.length_singleton];simp only [List.length_cons,List.length_nil] at hS;lia,ev'⟩;rw [Gu n];exact s5 _ _ n eb
  ·rintro σ H3 ⟨S,v4,v5,v6,rfl,s3,sl3,e3,hS,ev⟩;rw [List.drop_of_length_le (by rw [List.length_reverse];lia)] at ev;cases ev;exact ⟨_,rfl,tl,_,_,_,rfl,rfl,SqL.of e3,Ge (j:=0) rfl,q _ s3⟩
end
end M
namespace M
open PySem L2
theorem Zaf {d:PyData}{ps:List PyData}(h:Pr d ps):∀p∈ps,(∃w rest,p=.tuple (.str w::rest)/\Jq w rest=true)\/∃w a b,p=.tuple [.str w,a,b]/\w∈sJoin:=by
 induction h with
 | leaf h=>exact λp hp=>.inl ⟨_,_,List.mem_singleton.mp hp,h⟩
 | join hw _ _ iha ihb=>
  intro p hp;rcases List.mem_cons.mp hp with rfl | hp
  ·exact .inr ⟨_,_,_,rfl,hw⟩
  ·rcases List.mem_append.mp hp with hp | hp
   ·exact ihb p hp
   ·exact iha p hp
inductive Lvs (H:Hp)(ps:List PyData):List V->Prop
 | nil:Lvs H ps []
 | snoc {us:List V} {u:V} {w:Str} {rest:List PyData}:Lvs H ps us->Th H u (.tuple (.str w::rest))->Jq w rest=true->PyData.tuple (.str w::rest)∈ps->Lvs H ps (us++[u])
theorem Lvs.get {H:Hp}{ps:List PyData}{us:List V}(h:Lvs H ps us):∀u∈us,∃w rest,Th H u (.tuple (.str w::rest))/\Jq w rest=true/\PyData.tuple (.str w::rest)∈ps:=by
 induction h with
 | nil=>exact λu hu=>by cases hu
 | snoc _ t b m ih=>
  intro u hu;rcases List.mem_append.mp hu with hu | hu
  ·exact ih u hu
  ·rw [List.mem_singleton.mp hu];exact ⟨_,_,t,b,m⟩
def UG (k:Int)(n:Nat)(w:Str)(rest:List PyData):Prop:=(w = "open" -> ∃a b,rest=[.int a,.int b]/\Ends k a b)/\(w = "with" \/ w = "off" -> ∀m∈ZbW rest,m<(n:Int))/\(w = "over" \/ w = "past" -> ∀m∈ZbW rest,0<=m/\m<k)
section
variable {P:Program}{w:World}{K:W.Frag}{mg:Str->Option Value}{base:Heap}
def ZdL:Sp:=λvs H Q _=>∃(v:V)(d:PyData)(ps:List PyData),vs=[v]/\Th H v d/\Pr d ps/\ps.length<=1000/\∀(l:Addr)(us:List V)(H':Hp),Same H H'->H' l=some (.lst us)->Lvs H ps us->us.length<=1000->Q (.ref l) H'
theorem Ze5:Gv ["wish"] ["wish"] (Gg Zbv):=⟨rfl,rfl,rfl,by decide +kernel,rfl,by decide +kernel,by decide +kernel⟩
theorem ZdM {f fPa aJ aR aL:Addr}{fd fdPa:FuncData}(F:Fun K "leaves_of" "leaves_of" Zbv f fd)(FPa:Fun K "parts_of" "parts_of" ZaE fPa fdPa)(bPa:Binds K fdPa ["wish"] [])(mPa:mg "parts_of" = some (.ref fPa))(GPa:GS P w K mg base CX0 1 fPa fdPa ["wish"] Zb2)(T:Wd3 K aJ aR aL)(mJoi:mg "JOINING" = some (.ref aJ)):GS P w K mg base CX0 2 f fd ["wish"] ZdL:=by
 refine F.ok Ze5 (λvs H Q E h=>?_) (λcdv A outer s H vs Q E hr h=>?_)
 ·obtain ⟨_,_,_,rfl,_⟩:=h
  rfl
 ·obtain ⟨v,d,ps,rfl,th,pr,hpl,q⟩:=h;have h16:(16777216:Nat)=sizeLine:=sizeLine_eq.symm;refine ⟨_,Gi (Gw (Jl (own:=["part"]) rfl (Jz (by decide +kernel) (by decide +kernel) rfl (by decide +kernel)) (Uq K (Gs GPa (hr.mono (by decide)) rfl mPa FPa.kp bPa .nil G2 (Ga (pv 0) Gf))) (λ_ _ _ _=>Gy (i:=0) (show List.Nodup (["part"]:List Str) by decide +kernel) rfl (Or.inl rfl)) (λ_ _ _ _=>J7 (Gp (VE K) (Gj (Je K) (pv 0) Gc (λ_ _=>rfl)) (Uo mJoi) (by with_unfolding_all rfl))) (λ_ _ _ _=>pv 0))),?_⟩;refine ⟨_,rfl,v,d,ps,rfl,th,pr,by lia,λfl us H1 s1 hfl efl tu=>?_⟩;have hul:=tu.len;refine ⟨fl,rfl,⟨_,SqL.of efl⟩,λD hD=>?_⟩;refine JH (K:=K) (a:=fl) (xs:=us) (λi ys H2=>Same H1 H2/\H2 D=some (.lst ys)/\Lvs H ps ys/\ys.length<=i) ⟨Same.new hD,Gb,.nil,Nat.le_refl _⟩ (λi ys H2 _ ⟨s2,_⟩=>SqL.of (s2 _ _ efl)) ?_ ?_
  ·rintro i x ys H2 hxi ⟨s2,hD2,lv,hy⟩;obtain ⟨p,ep,tp⟩:=tu.get hxi;have hi:i<us.length:=(List.getElem?_eq_some_iff.mp hxi).1;have hp:=List.mem_of_getElem? ep;refine ⟨trivial,?_⟩;rcases Zaf pr p hp with ⟨wd,rest,rfl,hl⟩ | ⟨wd,a,b,rfl,hw⟩
   ·have tp':=tp;cases tp with
    | @tup t vs1 _ e z hh=>
     cases hh with
     | cons t0 r0=>
      cases t0;refine ⟨_,rfl,t,_,_,_,rfl,rfl,SqT.of (s2 _ _ (s1 _ _ e)),Ge (j:=0) rfl,aJ,_,rfl,.inr (T.j _),rfl,rfl,_,rfl,?_⟩;show if (!inV (.str wd) (sJoin.map V.str))=true then _ else _
      rw [JX,decide_eq_false (Oh hl)];refine Jg ?_;exact ⟨_,rfl,hD2,by lia,s2.put hD,Gb,lv.snoc tp' hl hp,by rw [List.length_append,List.length_singleton];lia⟩
   ·cases tp with
    | @tup t vs1 _ e z hh=>
     cases hh with
     | cons t0 r0=>
      cases t0;refine ⟨_,rfl,t,_,_,_,rfl,rfl,SqT.of (s2 _ _ (s1 _ _ e)),Ge (j:=0) rfl,aJ,_,rfl,.inr (T.j _),rfl,rfl,_,rfl,?_⟩;show if (!inV (.str wd) (sJoin.map V.str))=true then _ else _
      rw [JX,decide_eq_true hw];exact GG ⟨s2,hD2,lv,by lia⟩
  ·rintro ys H2 ⟨s2,hD2,lv,hy⟩;exact q D ys H2 (s1.trans s2) hD2 lv (by lia)
def ZdN:Sp:=λvs H Q _=>∃(wb l:Addr)(k:Int)(xs:List V)(rs:List (Int×Int))(lv:V)(wd:Str)(rest:List PyData),vs=[.ref wb,lv]/\WebAt H wb l k xs rs/\Th H lv (.tuple (.str wd::rest))/\Jq wd rest=true/\UG k rs.length wd rest/\∀H',Same H H'->Q (.bl true) H'
theorem Ze6:Gv ["web", "leaf"] ["web", "leaf"] (Gg ZbD):=⟨rfl,rfl,rfl,by decide +kernel,rfl,by decide +kernel,by decide +kernel⟩
theorem Vj (n:Nat):((List.replicate n true).all id)=true:=by simp
theorem ZdO {f fI aJ aR aL:Addr}{fd fdI:FuncData}(F:Fun K "is_of_web" "is_of_web" ZbD f fd)(FI:Fun K "is_place" "is_place" sIs fI fdI)(bI:Binds K fdI ["web", "place"] [])(mI:mg "is_place" = some (.ref fI))(GI:GS P w K mg base CX0 1 fI fdI ["web", "place"] Zen)(T:Wd3 K aJ aR aL)(mOfR:mg "OF_ROADS" = some (.ref aR))(mOfP:mg "OF_PLACES" = some (.ref aL))(mLen:mg "len" = none)(mAll:mg "all" = none):GS P w K mg base CX0 2 f fd ["web", "leaf"] ZdN:=by
 refine F.ok Ze6 (λvs H Q E h=>?_) (λcdv A outer s H vs Q E hr h=>?_)
 ·obtain ⟨_,_,_,_,_,_,_,_,rfl,_⟩:=h
  rfl
 ·obtain ⟨wb,l,k,xs,rs,lv,wd,rest,rfl,W,th,hl,⟨_,g2,g3⟩,q⟩:=h;have h16:(16777216:Nat)=sizeLine:=sizeLine_eq.symm;have hxl:=W.p.len;refine ⟨_,Gh (Jj (Gp (kIn K) (Gj (Je K) (pv 1) Gc (λ_ _=>rfl)) (Uo mOfR) (by with_unfolding_all rfl)) (Gi (Gw (Gk (Zb9 K rfl) rfl mAll Ot (Ga (Jl (own:=["number"]) rfl (Gr (fr:=[("web", 0)]) [(".0", .local),("number", .local),("len", .globalImplicit),("web", .cell)] rfl rfl (by decide +kernel) rfl (by decide +kernel) ⟨rfl,trivial⟩ ⟨λh=>GT h,λh=>GT h,λh=>GT h,λ_=>⟨_,rfl⟩,trivial⟩ ⟨⟨rfl,.inl rfl,.inl rfl⟩,trivial⟩) (V7 K (Gj (Je K) (pv 1) Gc (λ_ _=>rfl))) (λ_ _ _ _=>Gy (i:=0) (show List.Nodup (["number", "web"]:List Str) by decide +kernel) rfl (Or.inl rfl)) (λ_ _ _ _=>Ja) (λ_ _ _ _=>G6 U2 (pv 0) (Gk (O5 K) rfl mLen PySem.boot_len (Ga (Gj (Je K) (pv 1) Gc (λ_ _=>rfl)) Gf)) (Gx _))) Gf)))) GF)
    (Gi (Gw (ZaU (G6 (VE K) (Gj (Je K) (pv 1) Gc (λ_ _=>rfl)) (Uo mOfP) (by with_unfolding_all rfl)) (Oe (Gk (Zb9 K rfl) rfl mAll Ot (Ga (Jl (own:=["place"]) rfl (Gr (fr:=[("web", 0)]) [(".0", .local),("place", .local),("is_place", .globalImplicit),("web", .cell)] rfl rfl (by decide +kernel) rfl (by decide +kernel) ⟨rfl,trivial⟩ ⟨λh=>GT h,λh=>GT h,λh=>GT h,λ_=>⟨_,rfl⟩,trivial⟩ ⟨⟨rfl,.inl rfl,.inl rfl⟩,trivial⟩) (V7 K (Gj (Je K) (pv 1) Gc (λ_ _=>rfl))) (λ_ _ _ _=>Gy (i:=0) (show List.Nodup (["place", "web"]:List Str) by decide +kernel) rfl (Or.inl rfl)) (λ_ _ _ _=>Ja) (λ_ _ _ _=>Gs GI (hr.mono (by decide)) rfl mI FI.kp bI .nil G2 (Ga (pv 1) (Ga (pv 0) Gf)))) Gf)))))),?_⟩
  have four:wd∈Ut->∃(ta tb:Addr)(ms:List Int),lv=.ref ta/\rest=[.tuple (ms.map .int)]/\H ta=some (.tup [.str wd,.ref tb])/\H tb=some (.tup (ms.map V.int))/\ms.length<=1000:=λh4=>by
   obtain ⟨ms,rfl⟩:=J6 hl h4;cases th with
   | @tup ta vs1 _ e z hh=>
    cases hh with
    | cons t0 r0=>
     cases t0;cases r0 with
     | cons t1 r1=>
      cases r1;cases t1 with
      | @tup tb vs2 _ e2 z2 hh2=>
       obtain rfl:=JT hh2;exact ⟨ta,tb,ms,rfl,rfl,e,e2,by rw [List.length_map] at z2;exact z2⟩
  obtain ⟨ta,vs1,rfl,e⟩:∃(ta:Addr)(vs1:List V),lv=.ref ta/\H ta=some (.tup (.str wd::vs1)):=by
   cases th with
   | @tup ta vs1 _ e z hh=>
    cases hh with
    | cons t0 r0=>cases t0;exact ⟨ta,_,rfl,e⟩
  refine ⟨_,rfl,ta,_,_,_,rfl,rfl,SqT.of e,Ge (j:=0) rfl,aR,_,rfl,.inr (T.r _),rfl,rfl,_,rfl,?_⟩;show if (inV (.str wd) ((["with", "off"]:List Str).map V.str))=true then _ else _
  rw [JX];by_cases h1:wd∈(["with", "off"]:List Str)
  ·rw [decide_eq_true h1];refine Jg ?_;have hw:wd = "with" \/ wd = "off" := by simpa using h1
   obtain ⟨ta',tb,ms,ea,rfl,ee,e2,ml⟩:=four (by rcases hw with rfl | rfl <;> decide +kernel);cases ea;have gm:=g2 hw;rw [Jd] at gm;refine ⟨_,rfl,ta,_,_,_,rfl,rfl,SqT.of ee,Ge (j:=1) rfl,tb,rfl,⟨_,SqT.of e2⟩,λD hD=>?_⟩;refine JF (K:=K) (a:=tb) (xs:=ms.map V.int) (λi vs H2=>Same H H2/\H2 D=some (.lst vs)/\vs=(List.replicate i true).map V.bl) ⟨Same.new hD,Gb,rfl⟩ (λi vs H2 _ ⟨s2,_⟩=>SqT.of (s2 _ _ e2)) ?_ ?_
   ·rintro i x vs H2 hx ⟨s2,hD2,rfl⟩;rw [List.getElem?_map] at hx;obtain ⟨m,hm,rfl⟩:=Option.map_eq_some_iff.mp hx;have hi:=(List.getElem?_eq_some_iff.mp hm).1;have:=gm m (List.mem_of_getElem? hm);refine ⟨⟨rfl,trivial⟩,?_⟩;unfold UR;refine Jg ?_;refine ⟨_,rfl,_,rfl,wb,_,_,_,rfl,rfl,SqT.of (s2 _ _ W.w),Ge (j:=1) rfl,l,_,rfl,.inl (SqL.of (s2 _ _ W.l)),_,_,rfl,rfl,?_⟩;refine ⟨hD2,by rw [List.length_map,List.length_replicate];lia,s2.put hD,Gb,?_⟩;dsimp only;rw [decide_eq_true (show m<(xs.length:Int) by lia),List.replicate_succ',List.map_append]
    rfl
   ·rintro vs H2 ⟨s2,hD2,rfl⟩;refine ⟨D,_,rfl,SqL.of hD2,?_⟩;rw [Vj];exact q H2 s2
  rw [decide_eq_false h1];refine GG ?_;refine ⟨_,rfl,ta,_,_,_,rfl,rfl,SqT.of e,Ge (j:=0) rfl,aL,_,rfl,.inr (T.l _),rfl,rfl,_,rfl,?_⟩;show if (!inV (.str wd) ((["over", "past"]:List Str).map V.str))=true then _ else _
  rw [JX];by_cases h2:wd∈(["over", "past"]:List Str)
  ·rw [decide_eq_true h2];refine GG ?_;have hw:wd = "over" \/ wd = "past" := by simpa using h2
   obtain ⟨ta',tb,ms,ea,rfl,ee,e2,ml⟩:=four (by rcases hw with rfl | rfl <;> decide +kernel);cases ea;have gm:=g3 hw;rw [Jd] at gm;refine ⟨_,rfl,ta,_,_,_,rfl,rfl,SqT.of ee,Ge (j:=1) rfl,tb,rfl,⟨_,SqT.of e2⟩,λD hD=>?_⟩;refine JF (K:=K) (a:=tb) (xs:=ms.map V.int) (λi vs H2=>Same H H2/\H2 D=some (.lst vs)/\vs=(List.replicate i true).map V.bl) ⟨Same.new hD,Gb,rfl⟩ (λi vs H2 _ ⟨s2,_⟩=>SqT.of (s2 _ _ e2)) ?_ ?_
   ·rintro i x vs H2 hx ⟨s2,hD2,rfl⟩;rw [List.getElem?_map] at hx;obtain ⟨m,hm,rfl⟩:=Option.map_eq_some_iff.mp hx;have hi:=(List.getElem?_eq_some_iff.mp hm).1;have:=gm m (List.mem_of_getElem? hm);refine ⟨⟨rfl,trivial⟩,?_⟩;unfold UR;refine Jg ?_;refine ⟨_,rfl,_,rfl,wb,l,k,m,rfl,s2 _ _ W.w,?_⟩;refine ⟨hD2,by rw [List.length_map,List.length_replicate];lia,s2.put hD,Gb,?_⟩;rw [decide_eq_true this,List.replicate_succ',List.map_append]
    rfl
   ·rintro vs H2 ⟨s2,hD2,rfl⟩;refine ⟨D,_,rfl,SqL.of hD2,?_⟩;rw [Vj];exact q H2 s2
  ·rw [decide_eq_false h2];exact Jg (q H (Same.refl _))
def ZdP:Sp:=λvs H Q _=>∃(wb l:Addr)(k:Int)(xs:List V)(rs:List (Int×Int))(v:V)(d:PyData)(ps:List PyData),vs=[.ref wb,v]/\WebAt H wb l k xs rs/\Th H v d/\Pr d ps/\ps.length<=1000/\(∀w rest,PyData.tuple (.str w::rest)∈ps->Jq w rest=true->UG k rs.length w rest)/\∀H',Same H H'->Q .non H'
theorem scChg:Gv ["web", "wish", "leaves", "leaf"] ["web", "wish"] (Gg ZbE):=⟨rfl,rfl,rfl,by decide +kernel,rfl,by decide +kernel,by decide +kernel⟩
theorem ZdQ {f fLv fH fIo C:Addr}{fd fdLv fdH fdIo:FuncData}(F:Fun K "check_good" "check_good" ZbE f fd)(FLv:Fun K "leaves_of" "leaves_of" Zbv fLv fdLv)(bLv:Binds K fdLv ["wish"] [])(mLv:mg "leaves_of" = some (.ref fLv))(GLv:GS P w K mg base CX0 2 fLv fdLv ["wish"] ZdL)(FH:Fun K "check_ends" "check_ends" ZV fH fdH)(bH:Binds K fdH ["web", "one", "other"] [])(mH:mg "check_ends" = some (.ref fH))(GH:GS P w K mg base (CXr P w) 2 fH fdH ["web", "one", "other"] (Z3 C))(FIo:Fun K "is_of_web" "is_of_web" ZbD fIo fdIo)(bIo:Binds K fdIo ["web", "leaf"] [])(mIo:mg "is_of_web" = some (.ref fIo))(GIo:GS P w K mg base CX0 2 fIo fdIo ["web", "leaf"] ZdN)(mAll:mg "all" = none):GS P w K mg base CX0 3 f fd ["web", "wish"] ZdP:=by
 refine F.ok scChg (λvs H Q E h=>?_) (λcdv A outer s H vs Q E hr h=>?_)
 ·obtain ⟨_,_,_,_,_,_,_,_,rfl,_⟩:=h
  rfl
 ·obtain ⟨wb,l,k,xs,rs,v,d,ps,rfl,W,th,pr,hpl,good,q⟩:=h;have h16:(16777216:Nat)=sizeLine:=sizeLine_eq.symm;refine ⟨_,Gh (GE (i:=2) scChg.nd rfl (Or.inl rfl) (Gs GLv (hr.mono (by decide)) rfl mLv FLv.kp bLv .nil G2 (Ga (pv 1) Gf)))
    (Gh (J1 PassesOwn.never rfl (Uq K (pv 2)) (Gy (i:=3) scChg.nd rfl (Or.inl rfl))
    (Gi (Jj (Gp Jv (Gj (Je K) (pv 3) Gc (λ_ _=>rfl)) GQ (Gx _)) (Gi (Ji (Gs GH (hr.mono (by decide)) rfl mH FH.kp bH .nil X4 (Ga (pv 0) (Ga (Gj (Je K) (pv 3) Gc (λ_ _=>rfl)) (Ga (Gj (Je K) (pv 3) Gc (λ_ _=>rfl)) Gf)))))) GF)))
    (Gi (Jj (OZ (OE (Gk (Zb9 K rfl) rfl mAll Ot (Ga (Jl (own:=["leaf"]) rfl (Gr (fr:=[("web", 0)]) [(".0", .local),("leaf", .local),("is_of_web", .globalImplicit),("web", .cell)] rfl rfl (by decide +kernel) rfl (by decide +kernel) ⟨rfl,trivial⟩ ⟨λh=>GT h,λh=>GT h,λh=>GT h,λ_=>⟨_,rfl⟩,trivial⟩ ⟨⟨rfl,.inl rfl,.inl rfl⟩,trivial⟩) (Uq K (pv 2)) (λ_ _ _ _=>Gy (i:=0) (show List.Nodup (["leaf", "web"]:List Str) by decide +kernel) rfl (Or.inl rfl)) (λ_ _ _ _=>Ja) (λ_ _ _ _=>Gs GIo (hr.mono (by decide)) rfl mIo FIo.kp bIo .nil G2 (Ga (pv 1) (Ga (pv 0) Gf)))) Gf)))) XJ GF))),?_⟩
  refine ⟨_,rfl,v,d,ps,rfl,th,pr,hpl,λll us H1 s1 ell lvs hul=>?_⟩;dsimp only [Jm];refine JA (λσ2 H2=>∃v3:Option V,σ2=[some (.ref wb),some v,some (.ref ll),v3]/\Same H1 H2) ?_ ?_
  case _=>
   rintro σ2 H2 ⟨v3,rfl,s2⟩;refine ⟨_,rfl,ll,rfl,⟨_,SqL.of (s2 _ _ ell)⟩,λD hD=>?_⟩;refine JH (K:=K) (a:=ll) (xs:=us) (λi ys H3=>Same H2 H3/\H3 D=some (.lst ys)/\ys=(List.replicate i true).map V.bl) ⟨Same.new hD,Gb,rfl⟩ (λi ys H3 _ ⟨s3,_⟩=>SqL.of (s3 _ _ (s2 _ _ ell))) ?_ ?_
   ·rintro i x ys H3 hxi ⟨s3,hD3,rfl⟩;obtain ⟨wd,rest,tx,hl,hm⟩:=lvs.get x (List.mem_of_getElem? hxi);have hi:i<us.length:=(List.getElem?_eq_some_iff.mp hxi).1;have S3:=s1.trans (s2.trans s3);refine ⟨⟨rfl,trivial⟩,?_⟩;unfold UR;refine Jg ?_;refine ⟨_,rfl,_,rfl,wb,l,k,xs,rs,x,wd,rest,rfl,W.same S3,tx.same S3,hl,good wd rest hm hl,λH4 s4=>?_⟩;refine ⟨s4 _ _ hD3,by rw [List.length_map,List.length_replicate];lia,(s3.trans s4).put hD,Gb,?_⟩;rw [List.replicate_succ',List.map_append]
    rfl
   ·rintro ys H3 ⟨s3,hD3,rfl⟩;refine ⟨D,_,rfl,SqL.of hD3,?_⟩;rw [Vj];refine ⟨_,rfl,GG ?_⟩;exact q H3 (s1.trans (s2.trans s3))
  ·intro J;refine ⟨_,rfl,ll,rfl,⟨_,SqL.of ell⟩,?_⟩;refine U1 (K:=K) (a:=ll) (xs:=us) (λi σ2 H2=>∃v3:Option V,σ2=[some (.ref wb),some v,some (.ref ll),v3]/\Same H1 H2) ⟨none,rfl,Same.refl _⟩ (λi σ2 H2 _ ⟨_,_,s2⟩=>SqL.of (s2 _ _ ell)) ?_ (λσ2 H2 h2=>J _ _ h2);rintro i x σ2 H2 hxi ⟨v3,rfl,s2⟩;obtain ⟨wd,rest,tx,hl,hm⟩:=lvs.get x (List.mem_of_getElem? hxi);have S2:=s1.trans s2;have tx2:=tx.same S2;have gl:=good wd rest hm hl;cases tx2 with
   | @tup ta vs1 _ e z hh=>
    cases hh with
    | cons t0 r0=>
     cases t0;refine ⟨_,rfl,ta,_,_,_,rfl,rfl,SqT.of e,Ge (j:=0) rfl,rfl,_,rfl,?_⟩;by_cases c:wd = "open"
     ·subst c;obtain ⟨a,b,rfl,En⟩:=gl.1 rfl;cases r0 with
      | cons t1 r1=>
       cases t1;cases r1 with
       | cons t2 r2=>
        cases t2;cases r2;rw [decide_eq_true rfl];refine Jg ?_;refine ⟨_,rfl,_,rfl,ta,_,_,_,rfl,rfl,SqT.of e,Ge (j:=1) rfl,_,rfl,ta,_,_,_,rfl,rfl,SqT.of e,Ge (j:=2) rfl,?_⟩;exact ⟨wb,l,k,a,b,rfl,S2 _ _ W.w,.inl ⟨En,_,rfl,s2⟩⟩
     ·rw [decide_eq_false (λy=>c (V.str.inj y))];exact GG ⟨_,rfl,s2⟩
end
end M
namespace M
open PySem L2
theorem VV (p:Int):∀ls:List (Int×Int),(ls.map (·.1)++ls.map (·.2)).count p=Za p ls
 | []=>rfl
 | t::ls=>by
  rw [Ux,<-VV p ls,List.map_cons,List.map_cons,List.cons_append,List.count_cons,List.count_append,List.count_append,List.count_cons];unfold hit;by_cases h1:t.1=p <;> by_cases h2:t.2=p <;> simp [h1,h2] <;> lia
theorem YL {k:Int}{rs:List (Int×Int)}(g:Gz k rs){ks:List Int}(S:Ov rs ks){p:Int}(h:¬ (0<=p/\p<k)):XE rs ks p=0:=by
 unfold XE;rw [List.length_eq_zero_iff,List.filter_eq_nil_iff];intro x hx z;have hr:=Uf (S.2 x hx);have:=g.2.2.2.1 _ hr;rcases of_decide_eq_true z with e | e <;> lia
theorem Zb3 {k:Int}{rs:List (Int×Int)}(g:Gz k rs){ks:List Int}(S:Ov rs ks)(p:Int):((cho rs ks rs.length).map (·.1)++(cho rs ks rs.length).map (·.2)).count p=XE rs ks p:=by
 rw [VV,Uz S,JS g p S.2]
def loose (met:List Int):List Int:=met.filter λx=>decide (met.count x=1)
theorem YM {met:List Int}{p q:Int}(hne:p≠q)(h:∀x,met.count x=1↔x=p\/x=q):(loose met).Perm [p,q]:=by
 unfold loose;rw [List.perm_iff_count];intro a;by_cases ha:met.count a=1
 ·have hf:(met.filter λx=>decide (met.count x=1)).count a=met.count a:=by
   apply List.count_filter;simpa using ha
  rw [hf,ha];rcases (h a).mp ha with rfl | rfl
  ·rw [List.count_cons_self,List.count_cons_of_ne (by simpa using hne.symm)]
   rfl
  ·rw [List.count_cons_of_ne (by simpa using hne),List.count_cons_self]
   rfl
 ·have hn:a≠p/\a≠q:=⟨λz=>ha ((h a).mpr (.inl z)),λz=>ha ((h a).mpr (.inr z))⟩;have e1:(met.filter λx=>decide (met.count x=1)).count a=0:=by
   rw [List.count_eq_zero];exact λz=>ha (by simpa using (List.mem_filter.mp z).2)
  have e2:[p,q].count a=0:=by
   rw [List.count_eq_zero];simp [hn.1,hn.2]
  rw [e1,e2]
theorem Xz {met:List Int}(h:∀x,met.count x≠1):loose met=[]:=by
 unfold loose;rw [List.filter_eq_nil_iff];exact λx _ z=>h x (of_decide_eq_true z)
section
variable {P:Program}{w:World}{K:W.Frag}{mg:Str->Option Value}{base:Heap}
def ZdR:Sp:=λvs H Q _=>∃(l:Addr)(xs:List V)(rs:List (Int×Int)),vs=[.ref l]/\H l=some (.lst xs)/\Prs H xs rs/\rs.length<=1000/\∀(r:Addr)(H':Hp),Same H H'->H r=none->H' r=some (.lst ((rs.map (·.1)++rs.map (·.2)).map V.int))->Q (.ref r) H'
theorem Ze7:Gv ["roads"] ["roads"] (Gg Zbz):=⟨rfl,rfl,rfl,by decide +kernel,rfl,by decide +kernel,by decide +kernel⟩
theorem WT {α β:Type}{l:List α}{i:Nat}{x:α}(f:α->β)(h:l[i]?=some x):(l.take (i+1)).map f=(l.take i).map f++[f x]:=by
 rw [List.take_add_one,h,List.map_append]
 rfl
theorem ZdS {f:Addr}{fd:FuncData}(F:Fun K "places_on" "places_on" Zbz f fd):GS P w K mg base CX0 1 f fd ["roads"] ZdR:=by
 refine F.ok Ze7 (λvs H Q E h=>?_) (λcdv A outer s H vs Q E hr h=>?_)
 ·obtain ⟨_,_,_,rfl,_⟩:=h
  rfl
 ·obtain ⟨l,xs,rs,rfl,hl,pr,qJ,q⟩:=h;have h16:(16777216:Nat)=sizeLine:=sizeLine_eq.symm;have hxl:=pr.len;refine ⟨_,Gi (Gw (GB Uk (Jl (own:=["a", "b"]) rfl (Jz (by decide +kernel) (by decide +kernel) rfl (by decide +kernel)) (Uq K (pv 0)) (λ_ _ _ _=>Zaz K (n:=2) rfl (G7 (Gy (i:=0) (show List.Nodup (["a", "b"]:List Str) by decide +kernel) rfl (Or.inl rfl)) (G7 (Gy (i:=1) (show List.Nodup (["a", "b"]:List Str) by decide +kernel) rfl (Or.inl rfl)) Of))) (λ_ _ _ _=>Ja) (λ_ _ _ _=>pv 0)) (Jl (own:=["a", "b"]) rfl (Jz (by decide +kernel) (by decide +kernel) rfl (by decide +kernel)) (Uq K (pv 0)) (λ_ _ _ _=>Zaz K (n:=2) rfl (G7 (Gy (i:=0) (show List.Nodup (["a", "b"]:List Str) by decide +kernel) rfl (Or.inl rfl)) (G7 (Gy (i:=1) (show List.Nodup (["a", "b"]:List Str) by decide +kernel) rfl (Or.inl rfl)) Of))) (λ_ _ _ _=>Ja) (λ_ _ _ _=>pv 1)))),?_⟩;refine ⟨_,rfl,l,rfl,⟨_,SqL.of hl⟩,λD hD=>?_⟩;refine JH (K:=K) (a:=l) (xs:=xs) (λi ys H2=>Same H H2/\H2 D=some (.lst ys)/\ys=((rs.take i).map (·.1)).map V.int) ⟨Same.new hD,Gb,rfl⟩ (λi ys H2 _ ⟨s2,_⟩=>SqL.of (s2 _ _ hl)) ?_ ?_
  ·rintro i x ys H2 hxi ⟨s2,hD2,rfl⟩;obtain ⟨t,r,rfl,et,er⟩:=pr.get hxi;have hi:i<xs.length:=(List.getElem?_eq_some_iff.mp hxi).1;refine ⟨t,_,rfl,SqT.of (s2 _ _ et),rfl,_,_,rfl,_,_,rfl,rfl,trivial,?_⟩;unfold UR;refine Jg ?_;refine ⟨_,rfl,hD2,by rw [List.length_map,List.length_map,List.length_take];lia,s2.put hD,Gb,by rw [WT (·.1) er,List.map_append];rfl⟩
  rintro ys H2 ⟨s2,hD2,rfl⟩;rw [hxl,List.take_length] at hD2;refine ⟨_,rfl,l,rfl,⟨_,SqL.of (s2 _ _ hl)⟩,λD2 hD'=>?_⟩;refine JH (K:=K) (a:=l) (xs:=xs) (λi ys H3=>Same H2 H3/\H3 D2=some (.lst ys)/\ys=((rs.take i).map (·.2)).map V.int) ⟨Same.new hD',Gb,rfl⟩ (λi ys H3 _ ⟨s3,_⟩=>SqL.of (s3 _ _ (s2 _ _ hl))) ?_ ?_
  ·rintro i x ys H3 hxi ⟨s3,hD3,rfl⟩;obtain ⟨t,r,rfl,et,er⟩:=pr.get hxi;have hi:i<xs.length:=(List.getElem?_eq_some_iff.mp hxi).1;refine ⟨t,_,rfl,SqT.of (s3 _ _ (s2 _ _ et)),rfl,_,_,rfl,_,_,rfl,rfl,trivial,?_⟩;unfold UR;refine Jg ?_;refine ⟨_,rfl,hD3,by rw [List.length_map,List.length_map,List.length_take];lia,s3.put hD',Gb,by rw [WT (·.2) er,List.map_append];rfl⟩
  rintro ys H3 ⟨s3,hD3,rfl⟩;rw [hxl,List.take_length] at hD3;refine ⟨D,D2,_,_,rfl,rfl,s3 _ _ hD2,hD3,by rw [List.length_map,List.length_map,List.length_map,List.length_map];lia,λr hr'=>?_⟩;have s03:=s2.trans s3;exact q r _ (s03.put (s03.free hr')) (s03.free hr') (by rw [Gb,List.map_append])
def ZdT:Sp:=λvs H Q _=>∃(wb l kl:Addr)(k:Int)(xs:List V)(rs:List (Int×Int))(ks ns:List Int)(c:Bool),vs=[.ref wb,.ref kl]/\WebAt H wb l k xs rs/\Gz k rs/\xs.length<=30/\H kl=some (.lst (ks.map V.int))/\WayK k rs ks ns c/\∀(r:Addr)(H':Hp),Same H H'->H r=none->H' r=some (.lst (ns.map V.int))->Q (.ref r) H'
theorem scAnw:Gv ["web", "roads", "met", "loose"] ["web", "roads"] (Gg ZbC):=⟨rfl,rfl,rfl,by decide +kernel,rfl,by decide +kernel,by decide +kernel⟩
theorem ZdU {f fC fPo fX fZ C NW:Addr}{fd fdC fdPo fdX fdZ:FuncData}(F:Fun K "any_way_of" "any_way_of" ZbC f fd)(FC:Fun K "chosen_roads" "chosen_roads" ZY fC fdC)(bC:Binds K fdC ["web", "roads"] [])(mC:mg "chosen_roads" = some (.ref fC))(GC:GS P w K mg base CX0 1 fC fdC ["web", "roads"] Z8)(FPo:Fun K "places_on" "places_on" Zbz fPo fdPo)(bPo:Binds K fdPo ["roads"] [])(mPo:mg "places_on" = some (.ref fPo))(GPo:GS P w K mg base CX0 1 fPo fdPo ["roads"] ZdR)(FX:Fun K "way_of" "way_of" ZaG fX fdX)(bX:Binds K fdX ["web", "one", "other", "roads"] [])(mX:mg "way_of" = some (.ref fX))(GX:GS P w K mg base (CXr P w) 5 fX fdX ["web", "one", "other", "roads"] (Zdl C NW))(FZ:Fun K "closed_of" "closed_of" Z0 fZ fdZ)(bZ:Binds K fdZ ["web", "roads"] [])(mZ:mg "closed_of" = some (.ref fZ))(GZ:GS P w K mg base (CXr P w) 5 fZ fdZ ["web", "roads"] (Zdn NW))(mLen:mg "len" = none)(mSor:mg "sorted" = none):GS P w K mg base CX0 6 f fd ["web", "roads"] ZdT:=by
 refine F.ok scAnw (λvs H Q E h=>?_) (λcdv A outer s H vs Q E hr h=>?_)
 ·obtain ⟨_,_,_,_,_,_,_,_,_,rfl,_⟩:=h
  rfl
 ·obtain ⟨wb,l,kl,k,xs,rs,ks,ns,c,rfl,W,g,hxl,hk,WK,q⟩:=h;have h16:(16777216:Nat)=sizeLine:=sizeLine_eq.symm;have qJ:=W.p.len;have hcl:=Ve rs ks rs.length;refine ⟨_,Gh (GE (i:=2) scAnw.nd rfl (Or.inr rfl) (Gs GPo (hr.mono (by decide)) rfl mPo FPo.kp bPo .nil G2 (Ga (Gs GC (hr.mono (by decide)) rfl mC FC.kp bC .nil G2 (Ga (pv 0) (Ga (pv 1) Gf))) Gf)))
    (Gh (GE (i:=3) scAnw.nd rfl (Or.inl rfl) (Gk (OB K) rfl mSor PyProof.Rows.boot_sorted (Ga (Jl (own:=["place"]) rfl (Gr (fr:=[("met", 2)]) [(".0", .local),("place", .local),("met", .cell)] rfl rfl (by decide +kernel) rfl (by decide +kernel) ⟨rfl,trivial⟩ ⟨λh=>GT h,λh=>GT h,λ_=>⟨_,rfl⟩,trivial⟩ ⟨⟨rfl,.inl rfl,.inl rfl⟩,trivial⟩) (Uq K (pv 2)) (λ_ _ _ _=>Gy (i:=0) (show List.Nodup (["place", "met"]:List Str) by decide +kernel) rfl (Or.inl rfl)) (λ_ _ _ _=>J7 (Gp Jv (kBm K PySem.F.plainAttrs_list PySem.F.slot_list_count PySem.F.type_list_count ZG (pv 1) (Ga (pv 0) Gf)) Gc (Gx _))) (λ_ _ _ _=>pv 0)) Gf)))
    (Gh (Jj (Gp Jv (Gk (O5 K) rfl mLen PySem.boot_len (Ga (pv 3) Gf)) Gc (Gx _)) (Gi (Gw (Gs GX (hr.mono (by decide)) rfl mX FX.kp bX .nil X4 (Ga (pv 0) (Ga (Gj (Jt K) (pv 3) Gc (λ_ _=>rfl)) (Ga (Gj (Jt K) (pv 3) Gc (λ_ _=>rfl)) (Ga (pv 1) Gf))))))) GF)
    (Gi (Gw (Gs GZ (hr.mono (by decide)) rfl mZ FZ.kp bZ .nil X4 (Ga (pv 0) (Ga (pv 1) Gf))))))),?_⟩
  refine ⟨_,rfl,_,rfl,wb,l,kl,k,xs,rs,ks,rfl,W,hxl,hk,λr ys H1 s1 hr1 e1 pr1=>?_⟩;refine ⟨r,ys,_,rfl,e1,pr1,by lia,λmt H2 s2 hmt e2=>?_⟩;have ml:((cho rs ks rs.length).map (·.1)++(cho rs ks rs.length).map (·.2)).length<=60:=by rw [List.length_append,List.length_map,List.length_map];lia
  have hmet:∀(S:Ov rs ks)(p:Int),((cho rs ks rs.length).map (·.1)++(cho rs ks rs.length).map (·.2)).count p=XE rs ks p:=λS p=>Zb3 g S p;generalize (cho rs ks rs.length).map (·.1)++(cho rs ks rs.length).map (·.2)=met at e2 ml hmet;have S2:=s1.trans s2;dsimp only [Jm];refine JA (λσ3 H3=>∃(lo:Addr)(ms:List Int),σ3=[some (.ref wb),some (.ref kl),some (.ref mt),some (.ref lo)]/\Same H H3/\H3 lo=some (.lst (ms.map V.int))/\ms.Perm (loose met)/\ms.Pairwise (· <= ·)) ?_ ?_
  case _=>
   rintro σ3 H3 ⟨lo,ms,rfl,s3,e3,pm,so⟩;refine ⟨_,rfl,lo,_,rfl,.inl (SqL.of e3),rfl,_,rfl,?_⟩;rw [List.length_map];obtain ⟨w1,w2,w3,w4⟩:=WK;cases c with
   | false=>
    obtain ⟨p,q',tl,rfl,hpq,E',W'⟩:=w3 rfl;obtain ⟨S,dg,hl⟩:=Vh g E' W' w2 w1 rfl;have two:=(pm.trans (YM (p:=p) (q:=q') (by lia) λx=>by
     rw [hmet S];by_cases hx:0<=x/\x<k
     ·have:=dg x hx.1 hx.2;by_cases hxp:x=p\/x=q'
      ·rw [if_pos hxp] at this;exact ⟨λ_=>hxp,λ_=>this⟩
      ·rw [if_neg hxp] at this;exact ⟨λz=>by lia,λz=>absurd z hxp⟩
     ·rw [YL g S hx];obtain ⟨a1,a2,_⟩:=E';exact ⟨λz=>by lia,λz=>by rcases z with rfl | rfl <;> exact absurd (by assumption) hx⟩))
    have em:=ZbY two so;unfold lo2 hi2 at em;rw [if_pos (by lia),if_pos (by lia)] at em;subst em;refine Jg ?_;refine ⟨_,rfl,_,rfl,lo,_,_,_,rfl,rfl,SqL.of e3,Ge (j:=0) rfl,_,rfl,lo,_,_,_,rfl,rfl,SqL.of e3,Ge (j:=1) rfl,_,rfl,?_⟩;refine ⟨wb,l,kl,k,p,q',xs,rs,ks,rfl,W.same s3,g,s3 _ _ hk,.inl ⟨E',λtl' rest' wk'=>⟨λ_ r' H4 s4 hr4 e4=>?_,λng=>?_⟩⟩⟩
    ·have et:=(VS g S w2 W').det wk';subst et;exact q r' H4 (s3.trans s4) (s3.free hr4) e4
    ·have et:=(VS g S w2 W').det wk';subst et;exact absurd ⟨S,dg,hl⟩ ng
   | true=>
    have R:=w4 rfl;obtain ⟨S,h3,dg,hl⟩:=Vi g R w2 w1 rfl;have el:loose met=[]:=Xz λx=>by
     rw [hmet S];by_cases hx:0<=x/\x<k
     ·have:=dg x hx.1 hx.2
      lia
     ·rw [YL g S hx];lia
    rw [el] at pm;have em:=List.perm_nil.mp pm;subst em;refine GG ?_;obtain ⟨s0,tl,rfl⟩:∃s0 tl,ns=s0::tl:=by
     cases ns with
     | nil=>have:=R.1;rw [List.length_nil] at this;lia
     | cons a b=>exact ⟨a,b,rfl⟩
    obtain ⟨wk,B⟩:=YG g S w2 R;refine ⟨_,rfl,_,rfl,wb,l,kl,k,xs,rs,ks,rfl,W.same s3,g,s3 _ _ hk,λs' tl' rest' hB wk'=>?_⟩;have es:s0=s':=B.one (hB λz=>by obtain ⟨t,ht,_⟩:=B.2;rw [z] at ht;cases ht);subst es;have et:=wk.det wk';subst et;refine ⟨λ_ r' H4 s4 hr4 e4=>?_,λng=>?_⟩
    ·rw [show (s0::(tl++[s0])).dropLast=s0::tl by rw [<-List.cons_append,List.dropLast_concat]] at e4;exact q r' H4 (s3.trans s4) (s3.free hr4) e4
    ·refine absurd ⟨S,h3,dg,?_⟩ ng;rw [List.length_append,List.length_singleton];rw [List.length_cons] at hl;exact hl
  ·intro J;refine ⟨_,rfl,mt,rfl,⟨_,SqL.of e2⟩,λD hD=>?_⟩;refine JH (K:=K) (a:=mt) (xs:=met.map V.int) (λi ys H4=>Same H2 H4/\H4 D=some (.lst ys)/\ys=((met.take i).filter λx=>decide (met.count x=1)).map V.int) ⟨Same.new hD,Gb,rfl⟩ (λi ys H4 _ ⟨s4,_⟩=>SqL.of (s4 _ _ e2)) ?_ ?_
   ·rintro i x ys H4 hxi ⟨s4,hD4,rfl⟩;rw [List.getElem?_map] at hxi;obtain ⟨m,hm,rfl⟩:=Option.map_eq_some_iff.mp hxi;have hi:i<met.length:=(List.getElem?_eq_some_iff.mp hm).1;have et:(met.take (i+1)).filter (λx=>decide (met.count x=1))=(met.take i).filter (λx=>decide (met.count x=1))++(if met.count m=1 then [m] else []):=by
     rw [List.take_add_one,hm,List.filter_append]
     congr 1
     show [m].filter _=_;rw [List.filter_cons];by_cases z:met.count m=1
     ·rw [decide_eq_true z,if_pos rfl,if_pos z];rfl
     ·rw [decide_eq_false z,if_neg Bool.false_ne_true,if_neg z];rfl
    have fl:((met.take i).filter λx=>decide (met.count x=1)).length<=i:=by
     have:=List.length_filter_le (λx=>decide (met.count x=1)) (met.take i);rw [List.length_take] at this
     lia
    refine ⟨⟨rfl,trivial⟩,?_⟩;refine ⟨_,rfl,.inl ⟨rfl,_,SqL.of (s4 _ _ e2)⟩,_,rfl,mt,met,m,rfl,rfl,s4 _ _ e2,rfl,_,rfl,?_⟩;rw [et];by_cases z:met.count m=1
    ·rw [decide_eq_true (show V.int ((met.count m:Nat):Int)=V.int 1 by rw [z];rfl)];refine Jg ?_;refine ⟨_,rfl,hD4,by rw [List.length_map];lia,s4.put hD,Gb,?_⟩;rw [if_pos z,List.map_append]
     rfl
    ·rw [decide_eq_false (λy=>z (by have:=V.int.inj y;lia))];refine GG ?_;rw [if_neg z,List.append_nil];exact ⟨s4,hD4,rfl⟩
   ·rintro ys H4 ⟨s4,hD4,rfl⟩;rw [List.length_map,List.take_length] at hD4;have fl:=List.length_filter_le (λx=>decide (met.count x=1)) met;refine ⟨D,_,rfl,SqL.of hD4,by lia,λlo ms hlo pm so=>?_⟩;exact J _ _ ⟨lo,ms,rfl,S2.trans (s4.trans (Same.new hlo)),Gb,pm,so⟩
end
end M
namespace M
open PySem L2
abbrev Zb:Stmt:=(Go ZaH).getD 2 (.Pass ⟨0,0,0,0⟩)
def We (wd:Str):Xu:=if wd = "open" then Zaa else if wd = "closed" then UB else if wd = "with" then Xv else if wd = "off" then Zcm else if wd = "over" then Xw else if wd = "past" then Xx else if wd = "long" then ZbX else if wd = "shy" then Zdr else Zdq
def nineW:List Str:=["open", "closed", "with", "off", "over", "past", "long", "shy", "all"]
theorem UH {wd:Str}{rest:List PyData}(h:Jq wd rest=true):wd∈nineW:=by
 have h1:∀w∈OW++O8++Ut,w∈nineW:=by decide +kernel
 unfold Jq at h;by_cases a:wd∈OW
 ·exact h1 wd (by simp [a])
 ·rw [if_neg a] at h;by_cases b:wd∈O8
  ·exact h1 wd (by simp [b])
  ·rw [if_neg b] at h;by_cases c:wd∈Ut
   ·exact h1 wd (by simp [c])
   ·rw [if_neg c] at h;cases h
section
variable {P:Program}{w:World}{K:W.Frag}{mg:Str->Option Value}{base:Heap}
theorem Ze8:Vb ["leaf", "web", "way", "roads"] ["leaf"] ["web", "way", "roads"] (Gg Zb):=⟨rfl,rfl,rfl,by decide +kernel,rfl,by decide +kernel,by decide +kernel,by decide +kernel,by decide +kernel⟩
abbrev Zb4:Str:=Str.ofString "wished.<locals>.has_way"
abbrev Zag (clos:UM)(pm:Value)(c':Addr)(ctv doc:Value):Obj:=W.fnMade "has_way" Zb4 (Gq Zb) (Go Zb) (Gg Zb) clos doc pm c' ctv
structure HFw (f c':Addr)(clos:UM)(o:Obj)(wb l wy kl:Addr)(k:Int)(xs:List V)(rs:List (Int×Int))(ns ks:List Int)(H:Hp):Prop where
 fn:CloFn H f c' Zb4 o
 cs:CellsAt H clos [.ref wb,.ref wy,.ref kl]
 W:WebAt H wb l k xs rs
 n:H wy=some (.lst (ns.map V.int))
 r:H kl=some (.lst (ks.map V.int))
theorem HFw.same {f c':Addr}{clos:UM}{o:Obj}{wb l wy kl:Addr}{k:Int}{xs:List V}{rs:List (Int×Int)}{ns ks:List Int}{H H':Hp}(h:HFw f c' clos o wb l wy kl k xs rs ns ks H)(s:Same H H'):HFw f c' clos o wb l wy kl k xs rs ns ks H':=⟨h.fn.same s,h.cs.same s,h.W.same s,s _ _ h.n,s _ _ h.r⟩
theorem YN {H H':Hp}{clos:UM}(s:Same (hideC clos H) H'):Same H (VM clos H H'):=λa u e=>by
 by_cases z:a∈clos.map (·.2)
 ·rw [V9 z];exact e
 ·rw [JV z];exact s a u (by rw [Jb z];exact e)
def Ze9 (P:Program)(w:World)(K:W.Frag)(mg:Str->Option Value)(base:Heap)(kvs:List (Key×V)):Prop:=∀wd∈nineW,∃(f:Addr)(fd:FuncData),OT kvs (Sum.inr wd)=some (.ref f)/\W.keepIn K (.ref f)=true/\Binds K fd ["web", "leaf", "way", "roads"] []/\GS P w K mg base CX0 1 f fd ["web", "leaf", "way", "roads"] (OQ wd (We wd))
theorem ZdV {f c' aD wb l wy kl c1 c2 c3:Addr}{ob:Obj}{vs0:List (Key×Value)}{kvs:List (Key×V)}{pm ctv doc:Value}{k:Int}{xs:List V}{rs:List (Int×Int)}{ns ks:List Int}(hne:c1≠c2/\c1≠c3/\c2≠c3)(mLea:mg "LEAVES" = some (.ref aD))(hD:K.lookup aD=some ob)(hdD:ob.IsDictOf (Jh P w) vs0)(rD:KV kvs vs0)(LV:Ze9 P w K mg base kvs)(rl:rs.length<=30)(nl:ns.length<=100)(kl':ks.length<=100)(hns:ns≠[]) :
  GS P w K mg base CX0 2 f (W.fnX "has_way" Zb4 (Gq Zb) (Go Zb) (Gg Zb) [(Str.ofString "web", c1),(Str.ofString "way", c2),(Str.ofString "roads", c3)] .none .none doc pm none (.ref c') ctv) ["leaf"]
   (Zfx (HFw f c' [(Str.ofString "web", c1),(Str.ofString "way", c2),(Str.ofString "roads", c3)] (Zag [(Str.ofString "web", c1),(Str.ofString "way", c2),(Str.ofString "roads", c3)] pm c' ctv doc) wb l wy kl k xs rs ns ks) (λwd rest=>We wd k rs ns ks rest)):=by
 generalize hcl:[(Str.ofString "web", c1),(Str.ofString "way", c2),(Str.ofString "roads", c3)]=clos;refine ZcY (N:=["leaf", "web", "way", "roads"]) Ze8 (by rw [<-hcl];rfl) (by rw [<-hcl];simp [hne]) (λvs H Q E h=>?_) (λA outer s H vs Q E hr h=>?_)
 ·obtain ⟨_,_,_,rfl,_⟩:=h
  rfl
 ·obtain ⟨v,wd,rest,rfl,hf,th,hl,q⟩:=h;obtain ⟨fH,fdH,ev,kH,bH,GH⟩:=LV wd (UH hl);refine ⟨hf.fn,_,hf.cs,_,Gi (Gw (ZS (CX:=CX0) (k:=1) (ds:=[]) (E:=E0) (Cd:=λf sp=>∃wd fd,sp=OQ wd (We wd)/\W.keepIn K (.ref f)=true/\Binds K fd ["web", "leaf", "way", "roads"] []/\GS P w K mg base CX0 1 f fd ["web", "leaf", "way", "roads"] (OQ wd (We wd))) (λf sp ⟨wd,fd,e,h1,h2,h3⟩=>⟨fd,by rw [e];exact h3,h1,h2⟩) hr (Zbp hD hdD rD (Uo mLea) (Gj (Je K) (pv 0) Gc (λ_ _=>rfl)) (λ_ _=>rfl)) .nil G2 (Ga (pv 1) (Ga (pv 0) (Ga (pv 2) (Ga (pv 3) Gf)))))),?_⟩;have out:∀{a:Addr}{o:HO},H a=some o->(∀ob,o≠.frz ob (.own a))->hideC clos H a=some o:=λ{a o} e n=>by
   rw [Jb (λz=>?_)]
   ·exact e
   ·obtain ⟨o',e'⟩:=hf.cs.frz a z;rw [e] at e';cases e';exact n _ rfl
  have kk:∀t ys,H t=some (.tup ys)->hideC clos H t=some (.tup ys):=λt ys e=>out e λ_ z=>by cases z
  have W':WebAt (hideC clos H) wb l k xs rs:=⟨kk _ _ hf.W.w,out hf.W.l λ_ z=>(by cases z),hf.W.p.keep kk⟩;have n':hideC clos H wy=some (.lst (ns.map V.int)):=out hf.n λ_ z=>(by cases z);have r':hideC clos H kl=some (.lst (ks.map V.int)):=out hf.r λ_ z=>(by cases z);cases th with
  | @tup ta vs1 _ e z hh=>
   cases hh with
   | cons t0 r0=>
    cases t0;have e':=kk _ _ e;have th':Th (hideC clos H) (.ref ta) (.tuple (.str wd::rest)):=.tup e' z (.cons (.str _) (UF kk hl r0));have sb:∀{H':Hp},Same (hideC clos H) H'->Same H (VM clos H H'):=λs'=>YN s';generalize hideC clos H=Hh at e' th' W' n' r' sb ⊢;refine ⟨rfl,_,rfl,ta,_,_,_,rfl,rfl,SqT.of e',Ge (j:=0) rfl,Sum.inr wd,_,rfl,ev,fH,_,rfl,⟨wd,fdH,rfl,kH,bH,GH⟩,?_⟩;refine ⟨_,rfl,_,rfl,_,rfl,_,rfl,?_⟩;exact ⟨wb,l,wy,kl,.ref ta,rest,k,xs,rs,ns,ks,rfl,⟨W',th',hl,n',r',rl,nl,kl'⟩,hns,λH' s' hN=>q _ (sb s')⟩
end
end M
namespace M
open PySem L2
theorem Ug {α:Type}(p:α->Bool){l:List α}{i:Nat}{m:α}(h:l[i]?=some m):(l.take (i+1)).filter p=(l.take i).filter p++(if p m=true then [m] else []):=by
 rw [List.take_add_one,h,List.filter_append]
 congr 1
 show [m].filter p=_;rw [List.filter_cons]
 rfl
theorem Vk {α:Type}(p:α->Bool)(l:List α)(i:Nat):((l.take i).filter p).length<=i:=by
 have:=List.length_filter_le p (l.take i);rw [List.length_take] at this
 lia
theorem ZaN (a b:Nat):decide (V.int (a:Int)=V.int (b:Int))=decide (a=b):=by
 by_cases z:a=b
 ·rw [decide_eq_true z,z,decide_eq_true rfl]
 ·rw [decide_eq_false z];exact decide_eq_false λy=>z (by have:=V.int.inj y;lia)
section
variable {P:Program}{w:World}{K:W.Frag}{mg:Str->Option Value}{base:Heap}
structure WyAt (H:Hp)(t e r u:Addr)(ns ks:List Int)(c:Bool):Prop where
 t:H t=some (.tup [.ref e,.ref r,.ref u])
 e:H e=some (.lst ((YH ns c).map V.int))
 r:H r=some (.lst (ns.map V.int))
 u:H u=some (.lst (ks.map V.int))
theorem WyAt.same {H H':Hp}{t e r u:Addr}{ns ks:List Int}{c:Bool}(h:WyAt H t e r u ns ks c)(s:Same H H'):WyAt H' t e r u ns ks c:=⟨s _ _ h.t,s _ _ h.e,s _ _ h.r,s _ _ h.u⟩
def ZdW:Sp:=λvs H Q _=>∃(wb l t e r u:Addr)(lv:V)(wd:Str)(rest:List PyData)(k:Int)(xs:List V)(rs:List (Int×Int))(ns ks:List Int)(c:Bool),vs=[.ref wb,lv,.ref t]/\WebAt H wb l k xs rs/\Gz k rs/\Th H lv (.tuple (.str wd::rest))/\Jq wd rest=true/\WyAt H t e r u ns ks c/\WF k rs ns ks c/\ns.length<=16/\∀H',Same H H'->Q (.bl (We wd k rs ns ks rest)) H'
theorem scPlh:Gv ["web", "wish", "way", "there", "lacks"] ["web", "wish", "way"] (Gg ZbL):=⟨rfl,rfl,rfl,by decide +kernel,rfl,by decide +kernel,by decide +kernel⟩
theorem fb (b:Bool):(false != b)=b:=by cases b <;> rfl
theorem ZdX {f fBt:Addr}{fd fdBt:FuncData}(F:Fun K "_law_plain_has" "_law_plain_has" ZbL f fd)(FBt:Fun K "_law_between" "_law_between" ZbM fBt fdBt)(bBt:Binds K fdBt ["road", "places"] [])(mBt:mg "_law_between" = some (.ref fBt))(GBt:GS P w K mg base CX0 1 fBt fdBt ["road", "places"] ZdE)(mLen:mg "len" = none)(mSor:mg "sorted" = none)(mRange:mg "range" = none)(mLst:mg "list" = none):GS P w K mg base CX0 2 f fd ["web", "wish", "way"] ZdW:=by
 refine F.ok scPlh (λvs H Q E h=>?_) (λcdv A outer s H vs Q E hr h=>?_)
 ·obtain ⟨_,_,_,_,_,_,_,_,_,_,_,_,_,_,_,rfl,_⟩:=h
  rfl
 obtain ⟨wb,l,t,e0,r,u,lv,wd,rest,k,xs,rs,ns,ks,c,rfl,Wb,gw,th,hl,Wy,wf,nl,q⟩:=h;have h16:(16777216:Nat)=sizeLine:=sizeLine_eq.symm;have hu:=hr.units;have hxl:=Wb.p.len;have hrl:=gw.2.2.1;have hkl:ks.length<=16:=by have:=wf.len;split at this <;> lia
 have ew:=Wy.t;refine ⟨_,Gh (Jj (Gp Jv (Gj (Je K) (pv 1) Gc (λ_ _=>rfl)) GQ (Gx _)) (Gi (Gw (G6 (Za9 K hu) (Gj (Je K) (pv 2) Gc (λ_ _=>rfl)) (Gk (OB K) rfl mSor PyProof.Rows.boot_sorted (Ga (G8 (Ga (Gj (Je K) (pv 1) Gc (λ_ _=>rfl)) (Ga (Gj (Je K) (pv 1) Gc (λ_ _=>rfl)) Gf))) Gf)) (Gx _)))) GF)
    (Gh (Jj (Gp Jv (Gj (Je K) (pv 1) Gc (λ_ _=>rfl)) GQ (Gx _)) (Gi (Gw (G6 (Za9 K hu) (Gj (Je K) (pv 2) Gc (λ_ _=>rfl)) (G8 Gf) (Gx _)))) GF)
    (Gh (Jj (Gp Jv (Gj (Je K) (pv 1) Gc (λ_ _=>rfl)) GQ (Gx _)) (Gi (Gw (O0 (G6 XS (Gj (Je K) (pv 1) Gc (λ_ _=>rfl)) (Gk (O5 K) rfl mLen PySem.boot_len (Ga (Gj (Je K) (pv 2) Gc (λ_ _=>rfl)) Gf)) (Gx _)) (Oe (G6 XS (Gk (O5 K) rfl mLen PySem.boot_len (Ga (Gj (Je K) (pv 2) Gc (λ_ _=>rfl)) Gf)) (Gj (Je K) (pv 1) Gc (λ_ _=>rfl)) (Gx _)))))) GF)
    (Gh (Jj (Gp Jv (Gj (Je K) (pv 1) Gc (λ_ _=>rfl)) GQ (Gx _)) (Gi (Gw (G6 (Za9 K hu) (Jl (own:=["k"]) rfl (Gr (fr:=[("web", 0),("way", 2)]) [(".0", .local),("k", .local),("_law_between", .globalImplicit),("way", .cell),("web", .cell)] rfl rfl (by decide +kernel) rfl (by decide +kernel) ⟨rfl,rfl,trivial⟩ ⟨λh=>GT h,λh=>GT h,λh=>GT h,λ_=>⟨_,rfl⟩,λ_=>⟨_,rfl⟩,trivial⟩ ⟨⟨rfl,.inl rfl,.inl rfl⟩,⟨rfl,.inl rfl,.inl rfl⟩,trivial⟩) (Jn rfl mRange (Ga (Gk (O5 K) rfl mLen PySem.boot_len (Ga (Gj (Je K) (pv 0) Gc (λ_ _=>rfl)) Gf)) Gf)) (λ_ _ _ _=>Gy (i:=0) (show List.Nodup (["k", "web", "way"]:List Str) by decide +kernel) rfl (Or.inl rfl)) (λ_ _ _ _=>J7 (PW.pt (Ox (Gp (VE K) (pv 0) (Gj (Je K) (pv 2) Gc (λ_ _=>rfl)) (by with_unfolding_all rfl)) (Od (OE (Gs GBt (hr.mono (by decide)) rfl mBt FBt.kp bBt .nil G2 (Ga (Gj (Jt K) (Gj (Je K) (pv 1) Gc (λ_ _=>rfl)) (pv 0) (λ_ _=>rfl)) (Ga (Gj (Je K) (pv 2) Gc (λ_ _=>rfl)) Gf)))))))) (λ_ _ _ _=>pv 0)) (G8 Gf) (Gx _)))) GF)
    (Gh (Jj (Gp Jv (Gj (Je K) (pv 1) Gc (λ_ _=>rfl)) GQ (Gx _)) (Gi (Gw (G6 (Za9 K hu) (Gk (OB K) rfl mSor PyProof.Rows.boot_sorted (Ga (Gj (Je K) (pv 2) Gc (λ_ _=>rfl)) Gf)) (Jx (U7 rfl) rfl mLst JP (Ga (Zba rfl mRange (Ga (Gj (Je K) (pv 0) Gc (λ_ _=>rfl)) Gf)) Gf)) (Gx _)))) GF)
    (Gh (GE (i:=3) scPlh.nd rfl (Or.inr rfl) (Gj (Je K) (pv 2) Gc (λ_ _=>rfl)))
    (Gh (Jj (PW.pt (OU (Gp Jv (Gj (Je K) (pv 1) Gc (λ_ _=>rfl)) GQ (Gx _)) (Ow (Gp Jv (Gj (Je K) (pv 1) Gc (λ_ _=>rfl)) GQ (Gx _))))) (Gi (GE (i:=3) scPlh.nd rfl (Or.inr rfl) (Gj (Je K) (pv 2) Gc (λ_ _=>rfl)))) GF)
    (Gh (Um (i:=4) scPlh.nd rfl (Or.inl rfl) (own:=["one"]) rfl (Gr (fr:=[("there", 3)]) [(".0", .local),("one", .local),("there", .cell)] rfl rfl (by decide +kernel) rfl (by decide +kernel) ⟨rfl,trivial⟩ ⟨λh=>GT h,λh=>GT h,λ_=>⟨_,rfl⟩,trivial⟩ ⟨⟨rfl,.inl rfl,.inl rfl⟩,trivial⟩) (V7 K (Gj (Je K) (pv 1) Gc (λ_ _=>rfl))) (λ_ _ _ _=>Gy (i:=0) (show List.Nodup (["one", "there"]:List Str) by decide +kernel) rfl (Or.inl rfl)) (λ_ _ _ _=>J7 (Gp (VE K) (pv 0) (pv 1) (by with_unfolding_all rfl))) (λ_ _ _ _=>pv 0))
    (Gh (Jj (PW.pt (OU (Gp Jv (Gj (Je K) (pv 1) Gc (λ_ _=>rfl)) GQ (Gx _)) (Ow (Gp Jv (Gj (Je K) (pv 1) Gc (λ_ _=>rfl)) GQ (Gx _))))) (Gi (Gw (G6 (Za9 K hu) (pv 4) (G8 Gf) (Gx _)))) GF)
    (Gi (Gw (G6 Jv (Gk (O5 K) rfl mLen PySem.boot_len (Ga (pv 4) Gf)) (Gk (O5 K) rfl mLen PySem.boot_len (Ga (Gj (Je K) (pv 1) Gc (λ_ _=>rfl)) Gf)) (Gx _)))))))))))),?_⟩
 have n9:=UH hl;unfold nineW at n9;simp only [List.mem_cons,List.not_mem_nil,or_false] at n9;have four:wd∈Ut->∃(ta tb:Addr)(ms:List Int),lv=.ref ta/\rest=[.tuple (ms.map .int)]/\H ta=some (.tup [.str wd,.ref tb])/\H tb=some (.tup (ms.map V.int))/\ms.length<=1000:=λh4=>by
  obtain ⟨ms,rfl⟩:=J6 hl h4;cases th with
  | @tup ta vs1 _ e z hh=>
   cases hh with
   | cons t0 r0=>
    cases t0;cases r0 with
    | cons t1 r1=>
     cases r1;cases t1 with
     | @tup tb vs2 _ e2 z2 hh2=>
      obtain rfl:=JT hh2;exact ⟨ta,tb,ms,rfl,rfl,e,e2,by rw [List.length_map] at z2;exact z2⟩
 have pair:wd∈O8->∃(ta:Addr)(a b:Int),lv=.ref ta/\rest=[.int a,.int b]/\H ta=some (.tup [.str wd,.int a,.int b]):=λhp=>by
  obtain ⟨a,b,rfl⟩:=UC hl hp;cases th with
  | @tup ta vs1 _ e z hh=>
   cases hh with
   | cons t0 r0=>
    cases t0;cases r0 with
    | cons t1 r1=>
     cases t1;cases r1 with
     | cons t2 r2=>
      cases t2;cases r2;exact ⟨ta,a,b,rfl,rfl,e⟩
 obtain ⟨ta,vs1,rfl,e⟩:∃(ta:Addr)(vs1:List V),lv=.ref ta/\H ta=some (.tup (.str wd::vs1)):=by
  cases th with
  | @tup ta vs1 _ e z hh=>
   cases hh with
   | cons t0 r0=>cases t0;exact ⟨ta,_,rfl,e⟩
 rcases n9 with rfl | rfl | rfl | rfl | rfl | rfl | rfl | rfl | rfl
 ·obtain ⟨ta',a,b,ea,rfl,ee⟩:=pair (by decide +kernel);cases ea;refine ⟨_,rfl,ta,_,_,_,rfl,rfl,SqT.of e,Ge (j:=0) rfl,rfl,_,rfl,Jg ?_⟩;refine ⟨_,rfl,t,_,_,_,rfl,rfl,SqT.of ew,Ge (j:=0) rfl,_,rfl,ta,_,_,_,rfl,rfl,SqT.of ee,Ge (j:=1) rfl,_,rfl,ta,_,_,_,rfl,rfl,SqT.of ee,Ge (j:=2) rfl,Jr,λp hp=>?_⟩;have s1:Same H (upd H p (.lst [.int a,.int b])):=Same.new hp;refine ⟨p,[a,b],rfl,SqL.of Gb,by show 2<64;decide,λm ms hm pm so=>?_⟩;have s2:=Same.new (o:=.lst (ms.map V.int)) hm;obtain rfl:=ZbY pm so;refine ⟨.list ((YH ns c).map PyData.int),.list ([lo2 a b,hi2 a b].map PyData.int),.lst (SqL.of (s2 _ _ (s1 _ _ Wy.e))) (GP _),.lst (SqL.of Gb) (GP _),GD _,GD _,?_⟩;rw [JE,fb,wf.opn];exact q _ (s1.trans s2)
 ·refine ⟨_,rfl,ta,_,_,_,rfl,rfl,SqT.of e,Ge (j:=0) rfl,rfl,_,rfl,GG ?_⟩;refine ⟨_,rfl,ta,_,_,_,rfl,rfl,SqT.of e,Ge (j:=0) rfl,rfl,_,rfl,Jg ?_⟩;refine ⟨_,rfl,t,_,_,_,rfl,rfl,SqT.of ew,Ge (j:=0) rfl,Nat.zero_le _,λp hp=>?_⟩;have s1:Same H (upd H p (.lst [])):=Same.new hp;refine ⟨.list ((YH ns c).map PyData.int),.list (([]:List Int).map PyData.int),.lst (SqL.of (s1 _ _ Wy.e)) (GP _),.lst (SqL.of Gb) .nil,GD _,GD _,?_⟩;rw [JE,fb,wf.cls rest];exact q _ s1
 ·obtain ⟨ta',tb,ms,ea,rfl,ee,e2,ml⟩:=four (by decide +kernel);cases ea;refine ⟨_,rfl,ta,_,_,_,rfl,rfl,SqT.of e,Ge (j:=0) rfl,rfl,_,rfl,GG ?_⟩;refine ⟨_,rfl,ta,_,_,_,rfl,rfl,SqT.of e,Ge (j:=0) rfl,rfl,_,rfl,GG ?_⟩;refine ⟨_,rfl,ta,_,_,_,rfl,rfl,SqT.of e,Ge (j:=0) rfl,rfl,_,rfl,GG ?_⟩;refine ⟨_,rfl,ta,_,_,_,rfl,rfl,SqT.of e,Ge (j:=0) rfl,rfl,_,rfl,GG ?_⟩;refine ⟨_,rfl,ta,_,_,_,rfl,rfl,SqT.of e,Ge (j:=0) rfl,rfl,_,rfl,GG ?_⟩;refine ⟨_,rfl,t,_,_,_,rfl,rfl,SqT.of ew,Ge (j:=1) rfl,?_⟩;dsimp only [Jm];refine ⟨_,rfl,ta,_,_,_,rfl,rfl,SqT.of e,Ge (j:=0) rfl,rfl,_,rfl,Jg (Jg ?_)⟩;refine ⟨_,rfl,t,_,_,_,rfl,rfl,SqT.of ew,Ge (j:=2) rfl,?_⟩;dsimp only [Jm];refine ⟨_,rfl,ta,_,_,_,rfl,rfl,SqT.of ee,Ge (j:=1) rfl,tb,rfl,⟨_,SqT.of e2⟩,λD hD=>?_⟩;refine JF (K:=K) (a:=tb) (xs:=ms.map V.int) (λi ys H2=>Same H H2/\H2 D=some (.lst ys)/\ys=((ms.take i).filter λm=>decide (m ∉ ks)).map V.int) ⟨Same.new hD,Gb,rfl⟩ (λi ys H2 _ ⟨s2,_⟩=>SqT.of (s2 _ _ e2)) ?_ ?_
  ·rintro i x ys H2 hx ⟨s2,hD2,rfl⟩;rw [List.getElem?_map] at hx;obtain ⟨m,hm,rfl⟩:=Option.map_eq_some_iff.mp hx;have fl:=Vk (λm=>decide (m ∉ ks)) ms i;have hi:=(List.getElem?_eq_some_iff.mp hm).1;refine ⟨⟨rfl,trivial⟩,?_⟩;refine ⟨_,rfl,_,rfl,u,_,rfl,.inl (SqL.of (s2 _ _ Wy.u)),rfl,G1 _,_,rfl,?_⟩;show if (!inV (.int m) (ks.map V.int))=true then _ else _
   rw [Jc,Ug (λm=>decide (m ∉ ks)) hm];by_cases z:m∈ks
   ·rw [decide_eq_true z];refine GG ?_;rw [if_neg (by simp [z]),List.append_nil];exact ⟨s2,hD2,rfl⟩
   ·rw [decide_eq_false z];refine Jg ?_;refine ⟨_,rfl,hD2,by rw [List.length_map];lia,s2.put hD,Gb,?_⟩;rw [if_pos (by simp [z]),List.map_append]
    rfl
  ·rintro ys H2 ⟨s2,hD2,rfl⟩;rw [List.length_map,List.take_length] at hD2;dsimp only [Jm];have e':=s2 _ _ e;refine ⟨_,rfl,ta,_,_,_,rfl,rfl,SqT.of e',Ge (j:=0) rfl,rfl,_,rfl,Jg (Jg ?_)⟩;refine ⟨_,rfl,Nat.zero_le _,λp hp=>?_⟩;have s3:Same H2 (upd H2 p (.lst [])):=Same.new hp;refine ⟨.list ((ms.filter λm=>decide (m ∉ ks)).map PyData.int),.list (([]:List Int).map PyData.int),.lst (SqL.of (s3 _ _ hD2)) (GP _),.lst (SqL.of Gb) .nil,GD _,GD _,?_⟩;rw [JE,fb,WR];have:=q _ (s2.trans s3);rw [show We "with" = Xv from rfl] at this;unfold Xv at this;rw [Jd] at this;exact this
 ·obtain ⟨ta',tb,ms,ea,rfl,ee,e2,ml⟩:=four (by decide +kernel);cases ea;refine ⟨_,rfl,ta,_,_,_,rfl,rfl,SqT.of e,Ge (j:=0) rfl,rfl,_,rfl,GG ?_⟩;refine ⟨_,rfl,ta,_,_,_,rfl,rfl,SqT.of e,Ge (j:=0) rfl,rfl,_,rfl,GG ?_⟩;refine ⟨_,rfl,ta,_,_,_,rfl,rfl,SqT.of e,Ge (j:=0) rfl,rfl,_,rfl,GG ?_⟩;refine ⟨_,rfl,ta,_,_,_,rfl,rfl,SqT.of e,Ge (j:=0) rfl,rfl,_,rfl,GG ?_⟩;refine ⟨_,rfl,ta,_,_,_,rfl,rfl,SqT.of e,Ge (j:=0) rfl,rfl,_,rfl,GG ?_⟩;refine ⟨_,rfl,t,_,_,_,rfl,rfl,SqT.of ew,Ge (j:=1) rfl,?_⟩;dsimp only [Jm];refine ⟨_,rfl,ta,_,_,_,rfl,rfl,SqT.of e,Ge (j:=0) rfl,rfl,_,rfl,GG ?_⟩;refine ⟨_,rfl,ta,_,_,_,rfl,rfl,SqT.of e,Ge (j:=0) rfl,rfl,_,rfl,Jg ?_⟩;refine ⟨_,rfl,t,_,_,_,rfl,rfl,SqT.of ew,Ge (j:=2) rfl,?_⟩;dsimp only [Jm];refine ⟨_,rfl,ta,_,_,_,rfl,rfl,SqT.of ee,Ge (j:=1) rfl,tb,rfl,⟨_,SqT.of e2⟩,λD hD=>?_⟩;refine JF (K:=K) (a:=tb) (xs:=ms.map V.int) (λi ys H2=>Same H H2/\H2 D=some (.lst ys)/\ys=((ms.take i).filter λm=>decide (m ∉ ks)).map V.int) ⟨Same.new hD,Gb,rfl⟩ (λi ys H2 _ ⟨s2,_⟩=>SqT.of (s2 _ _ e2)) ?_ ?_
  ·rintro i x ys H2 hx ⟨s2,hD2,rfl⟩;rw [List.getElem?_map] at hx;obtain ⟨m,hm,rfl⟩:=Option.map_eq_some_iff.mp hx;have fl:=Vk (λm=>decide (m ∉ ks)) ms i;have hi:=(List.getElem?_eq_some_iff.mp hm).1;refine ⟨⟨rfl,trivial⟩,?_⟩;refine ⟨_,rfl,_,rfl,u,_,rfl,.inl (SqL.of (s2 _ _ Wy.u)),rfl,G1 _,_,rfl,?_⟩;show if (!inV (.int m) (ks.map V.int))=true then _ else _
   rw [Jc,Ug (λm=>decide (m ∉ ks)) hm];by_cases z:m∈ks
   ·rw [decide_eq_true z];refine GG ?_;rw [if_neg (by simp [z]),List.append_nil];exact ⟨s2,hD2,rfl⟩
   ·rw [decide_eq_false z];refine Jg ?_;refine ⟨_,rfl,hD2,by rw [List.length_map];lia,s2.put hD,Gb,?_⟩;rw [if_pos (by simp [z]),List.map_append]
    rfl
  ·rintro ys H2 ⟨s2,hD2,rfl⟩;rw [List.length_map,List.take_length] at hD2;dsimp only [Jm];have e':=s2 _ _ e;refine ⟨_,rfl,ta,_,_,_,rfl,rfl,SqT.of e',Ge (j:=0) rfl,rfl,_,rfl,GG ?_⟩;refine ⟨_,rfl,ta,_,_,_,rfl,rfl,SqT.of e',Ge (j:=0) rfl,rfl,_,rfl,GG ?_⟩;refine ⟨_,rfl,D,_,rfl,.inl (SqL.of hD2),_,rfl,ta,_,_,_,rfl,rfl,SqT.of (s2 _ _ ee),Ge (j:=1) rfl,tb,_,rfl,.inr (SqT.of (s2 _ _ e2)),rfl,?_⟩;rw [List.length_map,List.length_map,ZaN,VU];have:=q _ s2;rw [show We "off" = Zcm from rfl] at this;unfold Zcm at this;rw [Jd] at this;exact this
 ·obtain ⟨ta',tb,ms,ea,rfl,ee,e2,ml⟩:=four (by decide +kernel);cases ea;refine ⟨_,rfl,ta,_,_,_,rfl,rfl,SqT.of e,Ge (j:=0) rfl,rfl,_,rfl,GG ?_⟩;refine ⟨_,rfl,ta,_,_,_,rfl,rfl,SqT.of e,Ge (j:=0) rfl,rfl,_,rfl,GG ?_⟩;refine ⟨_,rfl,ta,_,_,_,rfl,rfl,SqT.of e,Ge (j:=0) rfl,rfl,_,rfl,GG ?_⟩;refine ⟨_,rfl,ta,_,_,_,rfl,rfl,SqT.of e,Ge (j:=0) rfl,rfl,_,rfl,GG ?_⟩;refine ⟨_,rfl,ta,_,_,_,rfl,rfl,SqT.of e,Ge (j:=0) rfl,rfl,_,rfl,GG ?_⟩;refine ⟨_,rfl,t,_,_,_,rfl,rfl,SqT.of ew,Ge (j:=1) rfl,?_⟩;dsimp only [Jm];refine ⟨_,rfl,ta,_,_,_,rfl,rfl,SqT.of e,Ge (j:=0) rfl,rfl,_,rfl,GG ?_⟩;refine ⟨_,rfl,ta,_,_,_,rfl,rfl,SqT.of e,Ge (j:=0) rfl,rfl,_,rfl,GG ?_⟩;refine ⟨_,rfl,ta,_,_,_,rfl,rfl,SqT.of ee,Ge (j:=1) rfl,tb,rfl,⟨_,SqT.of e2⟩,λD hD=>?_⟩;refine JF (K:=K) (a:=tb) (xs:=ms.map V.int) (λi ys H2=>Same H H2/\H2 D=some (.lst ys)/\ys=((ms.take i).filter λm=>decide (m ∉ ns)).map V.int) ⟨Same.new hD,Gb,rfl⟩ (λi ys H2 _ ⟨s2,_⟩=>SqT.of (s2 _ _ e2)) ?_ ?_
  ·rintro i x ys H2 hx ⟨s2,hD2,rfl⟩;rw [List.getElem?_map] at hx;obtain ⟨m,hm,rfl⟩:=Option.map_eq_some_iff.mp hx;have fl:=Vk (λm=>decide (m ∉ ns)) ms i;have hi:=(List.getElem?_eq_some_iff.mp hm).1;refine ⟨⟨rfl,trivial⟩,?_⟩;refine ⟨_,rfl,_,rfl,r,_,rfl,.inl (SqL.of (s2 _ _ Wy.r)),rfl,G1 _,_,rfl,?_⟩;show if (!inV (.int m) (ns.map V.int))=true then _ else _
   rw [Jc,Ug (λm=>decide (m ∉ ns)) hm];by_cases z:m∈ns
   ·rw [decide_eq_true z];refine GG ?_;rw [if_neg (by simp [z]),List.append_nil];exact ⟨s2,hD2,rfl⟩
   ·rw [decide_eq_false z];refine Jg ?_;refine ⟨_,rfl,hD2,by rw [List.length_map];lia,s2.put hD,Gb,?_⟩;rw [if_pos (by simp [z]),List.map_append]
    rfl
  ·rintro ys H2 ⟨s2,hD2,rfl⟩;rw [List.length_map,List.take_length] at hD2;dsimp only [Jm];have e':=s2 _ _ e;refine ⟨_,rfl,ta,_,_,_,rfl,rfl,SqT.of e',Ge (j:=0) rfl,rfl,_,rfl,GG ?_⟩;refine ⟨_,rfl,ta,_,_,_,rfl,rfl,SqT.of e',Ge (j:=0) rfl,rfl,_,rfl,Jg ?_⟩;refine ⟨_,rfl,Nat.zero_le _,λp hp=>?_⟩;have s3:Same H2 (upd H2 p (.lst [])):=Same.new hp;refine ⟨.list ((ms.filter λm=>decide (m ∉ ns)).map PyData.int),.list (([]:List Int).map PyData.int),.lst (SqL.of (s3 _ _ hD2)) (GP _),.lst (SqL.of Gb) .nil,GD _,GD _,?_⟩;rw [JE,fb,WR];have:=q _ (s2.trans s3);rw [show We "over" = Xw from rfl] at this;unfold Xw at this;rw [Jd] at this;exact this
 ·obtain ⟨ta',tb,ms,ea,rfl,ee,e2,ml⟩:=four (by decide +kernel);cases ea;refine ⟨_,rfl,ta,_,_,_,rfl,rfl,SqT.of e,Ge (j:=0) rfl,rfl,_,rfl,GG ?_⟩;refine ⟨_,rfl,ta,_,_,_,rfl,rfl,SqT.of e,Ge (j:=0) rfl,rfl,_,rfl,GG ?_⟩;refine ⟨_,rfl,ta,_,_,_,rfl,rfl,SqT.of e,Ge (j:=0) rfl,rfl,_,rfl,GG ?_⟩;refine ⟨_,rfl,ta,_,_,_,rfl,rfl,SqT.of e,Ge (j:=0) rfl,rfl,_,rfl,GG ?_⟩;refine ⟨_,rfl,ta,_,_,_,rfl,rfl,SqT.of e,Ge (j:=0) rfl,rfl,_,rfl,GG ?_⟩;refine ⟨_,rfl,t,_,_,_,rfl,rfl,SqT.of ew,Ge (j:=1) rfl,?_⟩;dsimp only [Jm];refine ⟨_,rfl,ta,_,_,_,rfl,rfl,SqT.of e,Ge (j:=0) rfl,rfl,_,rfl,GG ?_⟩;refine ⟨_,rfl,ta,_,_,_,rfl,rfl,SqT.of e,Ge (j:=0) rfl,rfl,_,rfl,GG ?_⟩;refine ⟨_,rfl,ta,_,_,_,rfl,rfl,SqT.of ee,Ge (j:=1) rfl,tb,rfl,⟨_,SqT.of e2⟩,λD hD=>?_⟩;refine JF (K:=K) (a:=tb) (xs:=ms.map V.int) (λi ys H2=>Same H H2/\H2 D=some (.lst ys)/\ys=((ms.take i).filter λm=>decide (m ∉ ns)).map V.int) ⟨Same.new hD,Gb,rfl⟩ (λi ys H2 _ ⟨s2,_⟩=>SqT.of (s2 _ _ e2)) ?_ ?_
  ·rintro i x ys H2 hx ⟨s2,hD2,rfl⟩;rw [List.getElem?_map] at hx;obtain ⟨m,hm,rfl⟩:=Option.map_eq_some_iff.mp hx;have fl:=Vk (λm=>decide (m ∉ ns)) ms i;have hi:=(List.getElem?_eq_some_iff.mp hm).1;refine ⟨⟨rfl,trivial⟩,?_⟩;refine ⟨_,rfl,_,rfl,r,_,rfl,.inl (SqL.of (s2 _ _ Wy.r)),rfl,G1 _,_,rfl,?_⟩;show if (!inV (.int m) (ns.map V.int))=true then _ else _
   rw [Jc,Ug (λm=>decide (m ∉ ns)) hm];by_cases z:m∈ns
   ·rw [decide_eq_true z];refine GG ?_;rw [if_neg (by simp [z]),List.append_nil];exact ⟨s2,hD2,rfl⟩
   ·rw [decide_eq_false z];refine Jg ?_;refine ⟨_,rfl,hD2,by rw [List.length_map];lia,s2.put hD,Gb,?_⟩;rw [if_pos (by simp [z]),List.map_append]
    rfl
  ·rintro ys H2 ⟨s2,hD2,rfl⟩;rw [List.length_map,List.take_length] at hD2;dsimp only [Jm];have e':=s2 _ _ e;refine ⟨_,rfl,ta,_,_,_,rfl,rfl,SqT.of e',Ge (j:=0) rfl,rfl,_,rfl,GG ?_⟩;refine ⟨_,rfl,ta,_,_,_,rfl,rfl,SqT.of e',Ge (j:=0) rfl,rfl,_,rfl,GG ?_⟩;refine ⟨_,rfl,D,_,rfl,.inl (SqL.of hD2),_,rfl,ta,_,_,_,rfl,rfl,SqT.of (s2 _ _ ee),Ge (j:=1) rfl,tb,_,rfl,.inr (SqT.of (s2 _ _ e2)),rfl,?_⟩;rw [List.length_map,List.length_map,ZaN,VU];have:=q _ s2;rw [show We "past" = Xx from rfl] at this;unfold Xx at this;rw [Jd] at this;exact this
 ·obtain ⟨ta',a,b,ea,rfl,ee⟩:=pair (by decide +kernel);cases ea;refine ⟨_,rfl,ta,_,_,_,rfl,rfl,SqT.of e,Ge (j:=0) rfl,rfl,_,rfl,GG ?_⟩;refine ⟨_,rfl,ta,_,_,_,rfl,rfl,SqT.of e,Ge (j:=0) rfl,rfl,_,rfl,GG ?_⟩;refine ⟨_,rfl,ta,_,_,_,rfl,rfl,SqT.of e,Ge (j:=0) rfl,rfl,_,rfl,Jg ?_⟩;have this:Q (.bl (decide (a<=(ks.length:Int)) && decide ((ks.length:Int)<=b))) H:=q H (Same.refl _);refine ⟨_,rfl,ta,_,_,_,rfl,rfl,SqT.of ee,Ge (j:=1) rfl,_,rfl,t,_,_,_,rfl,rfl,SqT.of ew,Ge (j:=2) rfl,u,_,rfl,.inl (SqL.of Wy.u),?_⟩;rw [List.length_map];refine ⟨_,_,rfl,rfl,_,rfl,?_⟩;by_cases z:a<=(ks.length:Int)
  ·rw [decide_eq_true z] at this ⊢;refine Jg ?_;refine ⟨_,rfl,t,_,_,_,rfl,rfl,SqT.of ew,Ge (j:=2) rfl,u,_,rfl,.inl (SqL.of Wy.u),_,rfl,ta,_,_,_,rfl,rfl,SqT.of ee,Ge (j:=2) rfl,_,_,rfl,rfl,?_⟩;rw [List.length_map];exact this
  ·rw [decide_eq_false z] at this ⊢;exact GG this
 ·refine ⟨_,rfl,ta,_,_,_,rfl,rfl,SqT.of e,Ge (j:=0) rfl,rfl,_,rfl,GG ?_⟩;refine ⟨_,rfl,ta,_,_,_,rfl,rfl,SqT.of e,Ge (j:=0) rfl,rfl,_,rfl,GG ?_⟩;refine ⟨_,rfl,ta,_,_,_,rfl,rfl,SqT.of e,Ge (j:=0) rfl,rfl,_,rfl,GG ?_⟩;refine ⟨_,rfl,ta,_,_,_,rfl,rfl,SqT.of e,Ge (j:=0) rfl,rfl,_,rfl,Jg ?_⟩;refine ⟨_,rfl,wb,_,_,_,rfl,rfl,SqT.of Wb.w,Ge (j:=1) rfl,l,_,rfl,.inl (SqL.of Wb.l),_,rfl,by lia,by lia,λD hD=>?_⟩;rw [Int.toNat_natCast,hxl];refine Jw (lo:=0) (n:=rs.length) (λi ys H2=>Same H H2/\H2 D=some (.lst ys)/\ys=((JK rs ns i).filter λx=>decide (x ∉ ks)).map V.int) ⟨Same.new hD,Gb,rfl⟩ ?_ ?_
  ·rintro i ys H2 hi ⟨s2,hD2,rfl⟩;rw [Int.zero_add];obtain ⟨tr,et,er⟩:∃tr,xs[i]?=some (.ref tr)/\H tr=some (.tup [.int (rs.getD i (0,0)).1,.int (rs.getD i (0,0)).2]):=by
    have hx:xs[i]?=some xs[i]:=List.getElem?_eq_getElem (by lia);obtain ⟨tr,rr,e1,e2,e3⟩:=Wb.p.get hx;rw [e1] at hx;exact ⟨tr,hx,by rw [List.getD_eq_getElem?_getD,e3];exact e2⟩
   have jl:=VR rs ns i;have fl:=List.length_filter_le (λx=>decide (x ∉ ks)) (JK rs ns i);refine ⟨⟨rfl,rfl,trivial⟩,?_⟩;have js:(JK rs ns (i+1)).filter (λx=>decide (x ∉ ks))=(JK rs ns i).filter (λx=>decide (x ∉ ks))++(if (decide ((i:Int) ∉ ks) && (decide ((rs.getD i (0,0)).1∈ns) && decide ((rs.getD i (0,0)).2∈ns)))=true then [(i:Int)] else []):=by
    rw [OY,List.filter_append]
    congr 1
    cases h1:decide ((rs.getD i (0,0)).1∈ns) && decide ((rs.getD i (0,0)).2∈ns) <;> by_cases h2:(i:Int)∈ks <;> simp [h2]
   refine ⟨_,rfl,_,rfl,t,_,_,_,rfl,rfl,SqT.of (s2 _ _ ew),Ge (j:=2) rfl,u,_,rfl,.inl (SqL.of (s2 _ _ Wy.u)),rfl,G1 _,_,rfl,?_⟩;show if (!inV (.int (i:Int)) (ks.map V.int))=true then _ else _
   rw [Jc,js];by_cases z:(i:Int)∈ks
   ·rw [decide_eq_true z];refine GG (GG ?_);rw [if_neg (by simp [z]),List.append_nil];exact ⟨s2,hD2,rfl⟩
   ·rw [decide_eq_false z];refine Jg ?_;refine ⟨_,rfl,wb,_,_,_,rfl,rfl,SqT.of (s2 _ _ Wb.w),Ge (j:=1) rfl,_,rfl,l,_,_,_,rfl,rfl,SqL.of (s2 _ _ Wb.l),Ge et,_,rfl,t,_,_,_,rfl,rfl,SqT.of (s2 _ _ ew),Ge (j:=1) rfl,?_⟩;refine ⟨tr,r,_,_,ns,rfl,s2 _ _ er,s2 _ _ Wy.r,_,rfl,?_⟩;refine O4 (λy=>?_) (λy=>?_)
    ·refine ⟨_,rfl,hD2,by rw [List.length_map];lia,s2.put hD,Gb,?_⟩;rw [if_pos (by rw [decide_eq_true z,y];rfl),List.map_append]
     rfl
    ·rw [if_neg (by rw [decide_eq_true z,Bool.true_and];exact y),List.append_nil];exact ⟨s2,hD2,rfl⟩
  ·rintro ys H2 ⟨s2,hD2,rfl⟩;refine ⟨Nat.zero_le _,λp hp=>?_⟩;have s3:Same H2 (upd H2 p (.lst [])):=Same.new hp;refine ⟨.list (((JK rs ns rs.length).filter λx=>decide (x ∉ ks)).map PyData.int),.list (([]:List Int).map PyData.int),.lst (SqL.of (s3 _ _ hD2)) (GP _),.lst (SqL.of Gb) .nil,GD _,GD _,?_⟩;rw [JE,fb,wf.shy rest];exact q _ (s2.trans s3)
 ·refine ⟨_,rfl,ta,_,_,_,rfl,rfl,SqT.of e,Ge (j:=0) rfl,rfl,_,rfl,GG ?_⟩;refine ⟨_,rfl,ta,_,_,_,rfl,rfl,SqT.of e,Ge (j:=0) rfl,rfl,_,rfl,GG ?_⟩;refine ⟨_,rfl,ta,_,_,_,rfl,rfl,SqT.of e,Ge (j:=0) rfl,rfl,_,rfl,GG ?_⟩;refine ⟨_,rfl,ta,_,_,_,rfl,rfl,SqT.of e,Ge (j:=0) rfl,rfl,_,rfl,GG ?_⟩;refine ⟨_,rfl,ta,_,_,_,rfl,rfl,SqT.of e,Ge (j:=0) rfl,rfl,_,rfl,Jg ?_⟩;refine ⟨_,rfl,t,_,_,_,rfl,rfl,SqT.of ew,Ge (j:=1) rfl,r,ns,rfl,SqL.of Wy.r,by lia,λm ms hm pm so=>?_⟩;have s1:Same H (upd H m (.lst (ms.map V.int))):=Same.new hm;have e1:upd H m (.lst (ms.map V.int)) m=some (.lst (ms.map V.int)):=Gb;generalize upd H m (.lst (ms.map V.int))=H1 at s1 e1 ⊢;refine ⟨_,rfl,wb,_,_,_,rfl,rfl,SqT.of (s1 _ _ Wb.w),Ge (j:=0) rfl,k,rfl,λrg hrg=>?_⟩;have s2:Same H1 (upd H1 rg (.rng 0 k)):=Same.new hrg;have g1:=gw.1;have g2:=gw.2.1;refine ⟨rg,k.toNat,rfl,by rw [Gb];congr 2;lia,by lia,λm2 hm2=>?_⟩;have s3:=Same.new (o:=.lst ((List.range k.toNat).map λi=>V.int ((i:Nat):Int))) hm2;refine ⟨.list (ms.map PyData.int),.list (((List.range k.toNat).map λ(i:Nat)=>(i:Int)).map PyData.int),.lst (SqL.of (s3 _ _ (s2 _ _ e1))) (GP _),.lst (SqL.of (xs:=((List.range k.toNat).map λ(i:Nat)=>(i:Int)).map V.int) (by rw [Gb,List.map_map];rfl)) (GP _),GD _,GD _,?_⟩;rw [JE,fb,wf.all (by lia) pm so rest];exact q _ (s1.trans (s2.trans s3))
end
end M
namespace M
open PySem L2
def Zah (rs:List (Int×Int))(p q:Int):Nat->Option V
 | 0=>none
 | i+1=>if rs.getD i (0,0)=(p,q) then some (.int (i:Nat)) else Zah rs p q i
theorem YO {k:Int}{rs:List (Int×Int)}(g:Gz k rs){p q:Int}{j:Nat}(hj:rs.getD j (0,0)=(p,q)):∀i,j<i->i<=rs.length->Zah rs p q i=some (.int (j:Nat))
 | 0,h,_=>absurd h (Nat.not_lt_zero j)
 | i+1,h,hl=>by
  show (if rs.getD i (0,0)=(p,q) then some (V.int (i:Nat)) else Zah rs p q i)=_;by_cases z:rs.getD i (0,0)=(p,q)
  ·rw [if_pos z,OP g.2.2.2.2 (i:=i) (j:=j) (by lia) (by lia) (z.trans hj.symm)]
  ·rw [if_neg z];refine YO g hj i ?_ (by lia);rcases Nat.lt_or_ge j i with h' | h'
   ·exact h'
   ·have:j=i:=by lia
    subst this;exact absurd hj z
theorem WU {k:Int}{rs:List (Int×Int)}(g:Gz k rs){x y:Int}(a:Adj rs x y):Zah rs (Jo x y).1 (Jo x y).2 rs.length=some (.int (Oz rs (x,y))):=by
 obtain ⟨j,hj,m⟩:=Yx a;rw [Wc (t:=(x,y)) g hj m];have hr:0<=(j:Int)/\(j:Int)<(rs.length:Int):=by lia
 have e:=YA (x:=(j:Int)) (by rw [Int.toNat_natCast];exact m) (g.2.2.2.1 _ (Uf hr)).2.1;unfold road at e;rw [Int.toNat_natCast] at e;exact YO g e rs.length hj (Nat.le_refl _)
theorem Vl {rs:List (Int×Int)}{p q:Int}:∀i,i<=rs.length->(Zah rs p q i).isSome=true->(p,q)∈rs
 | 0,_,h=>by cases h
 | i+1,hl,h=>by
  by_cases z:rs.getD i (0,0)=(p,q)
  ·rw [<-z];exact Oj (by lia)
  ·have h:(if rs.getD i (0,0)=(p,q) then some (V.int (i:Nat)) else Zah rs p q i).isSome=true:=h;rw [if_neg z] at h;exact Vl i (by lia) h
def hid (H:Hp)(a b:Addr):Hp:=λc=>if c=a\/c=b then none else H c
theorem Zai {H:Hp}{a b:Addr}{o:HO}:hid (upd H a o) a b=hid H a b:=by
 funext c
 unfold hid;by_cases z:c=a\/c=b
 ·rw [if_pos z,if_pos z]
 ·rw [if_neg z,if_neg z,Gu λe=>z (.inl e)]
theorem YQ {H:Hp}{a b:Addr}{o:HO}:hid (upd H b o) a b=hid H a b:=by
 funext c
 unfold hid;by_cases z:c=a\/c=b
 ·rw [if_pos z,if_pos z]
 ·rw [if_neg z,if_neg z,Gu λe=>z (.inr e)]
theorem GJ {H H':Hp}{a b:Addr}(s:Same H H'):Same (hid H a b) (hid H' a b):=λc o e=>by
 unfold hid at e ⊢;by_cases z:c=a\/c=b
 ·rw [if_pos z] at e;cases e
 ·rw [if_neg z] at e ⊢;exact s _ _ e
theorem J0 {H:Hp}{a b c:Addr}{o:HO}(e:hid H a b c=some o):H c=some o:=by
 unfold hid at e;by_cases z:c=a\/c=b
 ·rw [if_pos z] at e;cases e
 ·rw [if_neg z] at e;exact e
theorem YR {H:Hp}{a b:Addr}:Same (hid H a b) H:=λ_ _ e=>J0 e
theorem Wf {H:Hp}{a b c:Addr}{o:HO}(e:H c=some o)(h1:c≠a)(h2:c≠b):hid H a b c=some o:=by
 unfold hid;rw [if_neg λz=>z.elim h1 h2];exact e
def Lz (H:Hp)(zs:List (Addr×List Int)):Prop:=∀z∈zs,H z.1=some (.lst (z.2.map V.int))
def Zc (ls:List (List Int)):List PyData:=ls.map λl=>PyData.list (l.map PyData.int)
theorem ZaO:∀ls:List (List Int),PyData.canLayAll0 (Zc ls)=true
 | []=>by simp [Zc,PyData.canLayAll0]
 | l::ls=>by
  have ih:=ZaO ls;unfold Zc at ih ⊢;rw [List.map_cons];simp [PyData.canLayAll0,PyData.canLay0,Uc l,ih]
theorem WV:∀ls:List (List Int),PyData.depthAll (Zc ls)<=2
 | []=>by simp [Zc,PyData.depthAll]
 | l::ls=>by
  have ih:=WV ls;have:=JM l;unfold Zc at ih ⊢;rw [List.map_cons];simp only [PyData.depthAll,PyData.depth]
  lia
theorem UI (ls:List (List Int)):SeqAt.shaped (.list (Zc ls))=true:=by
 unfold SeqAt.shaped;rw [Bool.and_eq_true];refine ⟨by simp only [PyData.canLay0];exact ZaO ls,decide_eq_true ?_⟩;have:=WV ls;simp only [PyData.depth]
 lia
theorem YS {K:W.Frag}{H:Hp}:∀{zs:List (Addr×List Int)},Lz H zs->DatVs K H (zs.map λz=>V.ref z.1) (Zc (zs.map (·.2)))
 | [],_=>.nil
 | z::zs,h=>.cons (.lst (SqL.of (h z (by simp))) (GP z.2)) (YS (zs:=zs) λy hy=>h y (by simp [hy]))
theorem YT (ds:List PyData):PyData.eqv (.list ds) (.list [])=decide (ds=[]):=by
 cases ds <;> simp [PyData.eqv,PyData.eqvAll]
structure Wq where
 t:Addr
 e:Addr
 r:Addr
 u:Addr
 ns:List Int
 ks:List Int
 c:Bool
def Wqs (H:Hp)(k:Int)(rs:List (Int×Int))(qs:List Wq):Prop:=∀q∈qs,WyAt H q.t q.e q.r q.u q.ns q.ks q.c/\WayK k rs q.ks q.ns q.c
theorem Wqs.same {H H':Hp}{k:Int}{rs:List (Int×Int)}{qs:List Wq}(h:Wqs H k rs qs)(s:Same H H'):Wqs H' k rs qs:=λq hq=>⟨(h q hq).1.same s,(h q hq).2⟩
theorem Lz.same {H H':Hp}{zs:List (Addr×List Int)}(h:Lz H zs)(s:Same H H'):Lz H' zs:=λz hz=>s _ _ (h z hz)
def wqD (q:Wq):PyData:=.tuple [.list ((YH q.ns q.c).map .int),.list (q.ns.map .int),.list (q.ks.map .int)]
theorem ZaP:∀qs:List Wq,PyData.canLayAll0 (qs.map wqD)=true
 | []=>by simp [PyData.canLayAll0]
 | q::qs=>by
  have ih:=ZaP qs;rw [List.map_cons];simp [PyData.canLayAll0,PyData.canLay0,wqD,Uc,ih]
theorem WW:∀qs:List Wq,PyData.depthAll (qs.map wqD)<=3
 | []=>by simp [PyData.depthAll]
 | q::qs=>by
  have ih:=WW qs;have h1:=JM (YH q.ns q.c);have h2:=JM q.ns;have h3:=JM q.ks;rw [List.map_cons];simp only [PyData.depthAll,PyData.depth,wqD]
  lia
theorem YU (qs:List Wq):SeqAt.shaped (.list (qs.map wqD))=true:=by
 unfold SeqAt.shaped;rw [Bool.and_eq_true];refine ⟨by simp only [PyData.canLay0];exact ZaP qs,decide_eq_true ?_⟩;have:=WW qs;simp only [PyData.depth]
 lia
theorem YV {K:PySem.W.Frag}{H:Hp}{k:Int}{rs:List (Int×Int)}:∀{qs:List Wq},Wqs H k rs qs->DatVs K H (qs.map λq=>V.ref q.t) (qs.map wqD)
 | [],_=>.nil
 | q::qs,h=>by
  have W:=(h q (by simp)).1;exact .cons (.tup (SqT.of W.t) (.cons (.lst (SqL.of W.e) (GP _)) (.cons (.lst (SqL.of W.r) (GP _)) (.cons (.lst (SqL.of W.u) (GP _)) .nil)))) (YV (qs:=qs) λy hy=>h y (by simp [hy]))
structure Bdy (H H':Hp)(nm rw0 wy:Addr)(kvs:List (List Key×V))(k:Int)(rs:List (Int×Int))(zs:List (Addr×List Int))(qs:List Wq):Prop where
 s:Same H H'
 d:H' nm=some (.dT kvs)
 er:H' rw0=some (.lst (zs.map λz=>V.ref z.1))
 ew:H' wy=some (.lst (qs.map λq=>V.ref q.t))
 lz:Lz (hid H' rw0 wy) zs
 wq:Wqs (hid H' rw0 wy) k rs qs
 ok:∀z∈zs,RwK k rs z.2
section
variable {H H' H'':Hp}{nm rw0 wy:Addr}{kvs:List (List Key×V)}{k:Int}{rs:List (Int×Int)}{zs:List (Addr×List Int)}{qs:List Wq}
theorem Bdy.same (h:Bdy H H' nm rw0 wy kvs k rs zs qs)(s:Same H' H''):Bdy H H'' nm rw0 wy kvs k rs zs qs:=
 ⟨h.s.trans s,s _ _ h.d,s _ _ h.er,s _ _ h.ew,h.lz.same (GJ s),h.wq.same (GJ s),h.ok⟩
theorem Bdy.setR (h:Bdy H H' nm rw0 wy kvs k rs zs qs)(hn:H rw0=none)(hne:rw0≠wy){zs':List (Addr×List Int)}(lz:Lz (hid H' rw0 wy) zs')(ok:∀z∈zs',RwK k rs z.2):Bdy H (upd H' rw0 (.lst (zs'.map λz=>V.ref z.1))) nm rw0 wy kvs k rs zs' qs:=
 ⟨h.s.put hn,G0 h.d (W6 h.d h.er (λz=>by cases z)),Gb,G0 h.ew hne.symm,by rw [Zai];exact lz,by rw [Zai];exact h.wq,ok⟩
theorem Bdy.setW (h:Bdy H H' nm rw0 wy kvs k rs zs qs)(hn:H wy=none)(hne:rw0≠wy){qs':List Wq}(wq:Wqs (hid H' rw0 wy) k rs qs'):Bdy H (upd H' wy (.lst (qs'.map λq=>V.ref q.t))) nm rw0 wy kvs k rs zs qs':=
 ⟨h.s.put hn,G0 h.d (W6 h.d h.ew (λz=>by cases z)),G0 h.er hne,Gb,by rw [YQ];exact h.lz,by rw [YQ];exact wq,h.ok⟩
end
end M
namespace M
open PySem L2
theorem Zb5 (k:Nat)(R S:List (List Int)):wts k (R++S)=wts k R+wts k S:=by
 unfold wts;rw [List.map_append,List.sum_append]
theorem Vm {k n:Nat}:∀{R:List (List Int)},(∀r∈R,r.length=n)->wts k R=R.length * wt (k-n)
 | [],_=>by simp [wts]
 | r::R,h=>by
  have ih:=Vm (k:=k) (n:=n) (R:=R) λx hx=>h x (by simp [hx]);have h1:=h r (by simp);unfold wts at ih ⊢;rw [List.map_cons,List.sum_cons,ih,h1,List.length_cons,Nat.succ_mul,Nat.add_comm]
theorem Zaj {K:Nat}{R S:List (List Int)}{ns:List Int}(hS:∀r∈S,r.length=ns.length+1)(hl:S.length+ns.length<=K):wts K (R++S)<wts K (R++[ns]):=by
 rw [Zb5,WS,Vm hS];have:S.length * wt (K-(ns.length+1))<wt (K-ns.length):=by
  cases h:K-ns.length with
  | zero=>
   have:S.length=0:=by lia
   rw [this,Nat.zero_mul];exact Nat.one_pos
  | succ r=>
   have e:K-(ns.length+1)=r:=by lia
   rw [e];show _<1+(r+1) * wt r;have:=Nat.mul_le_mul_right (wt r) (show S.length<=r+1 by lia)
   lia
 lia
def YW (ns:List Int)(i:Nat):List Int:=((List.range i).filter λ(x:Nat)=>decide ((x:Int) ∉ ns)).map λ(x:Nat)=>(x:Int)
theorem YX (ns:List Int)(i:Nat):(YW ns (i+1)).length=(YW ns i).length+(if (i:Int)∈ns then 0 else 1):=by
 unfold YW;rw [List.range_succ,List.filter_append,List.map_append,List.length_append];by_cases h:(i:Int)∈ns
 ·rw [if_pos h];simp [h]
 ·rw [if_neg h];simp [h]
theorem Zak {k:Int}{rs:List (Int×Int)}{ns:List Int}(h:RwK k rs ns):(YW ns k.toNat).length+ns.length<=k.toNat:=by
 have:=VT (l:=YW ns k.toNat++ns) (m:=(List.range k.toNat).map λ(i:Nat)=>(i:Int)) ?_ ?_
 ·rw [List.length_append,List.length_map,List.length_range] at this;exact this
 ·rw [List.nodup_append];refine ⟨?_,h.o.2,λa ha b hb=>?_⟩
  ·unfold YW;refine List.Pairwise.imp (R:=(· < ·)) (λh e=>by lia) ?_;rw [List.pairwise_map];exact (List.Pairwise.filter _ List.pairwise_lt_range).imp λh=>by lia
  ·unfold YW at ha;obtain ⟨x,hx,rfl⟩:=List.mem_map.mp ha;have:=(List.mem_filter.mp hx).2;intro e;exact of_decide_eq_true this (e▸hb)
 ·intro x hx;rcases List.mem_append.mp hx with hx | hx
  ·unfold YW at hx;obtain ⟨y,hy,rfl⟩:=List.mem_map.mp hx;exact List.mem_map.mpr ⟨y,(List.mem_filter.mp hy).1,rfl⟩
  ·obtain ⟨h1,h2⟩:=h.rg x hx;exact List.mem_map.mpr ⟨x.toNat,List.mem_range.mpr (by lia),by lia⟩
theorem Zb6 (ns:List Int)(i:Nat):(YW ns i).length<=i:=by
 unfold YW;rw [List.length_map];have:=List.length_filter_le (λ(x:Nat)=>decide ((x:Int) ∉ ns)) (List.range i);rw [List.length_range] at this;exact this
theorem XA (ns:List Int)(f:Int×Int->Int):(Gm ns true).map f=(Gm ns false).map f++[f (ns.getD (ns.length-1) 0,ns.getD 0 0)]:=by
 unfold Gm;rw [if_pos rfl,if_neg Bool.false_ne_true,List.append_nil,List.map_append]
 rfl
theorem Zfy {ns:List Int}{i:Nat}{x:V}(h:(ns.map V.int)[i]?=some x):∃z,x=.int z/\ns[i]?=some z:=by
 rw [List.getElem?_map,Option.map_eq_some_iff] at h;obtain ⟨z,h,rfl⟩:=h;exact ⟨z,rfl,h⟩
section
variable {H H':Hp}{nm rw0 wy:Addr}{kvs:List (List Key×V)}{k:Int}{rs:List (Int×Int)}{zs:List (Addr×List Int)}{qs:List Wq}
theorem Bdy.new (B:Bdy H H' nm rw0 wy kvs k rs zs qs){c:Addr}{o:HO}(h:H' c=none):hid (upd H' c o) rw0 wy c=some o:=Wf Gb (Gn B.er h).symm (Gn B.ew h).symm
theorem Bdy.add (B:Bdy H H' nm rw0 wy kvs k rs zs qs)(hn:H wy=none)(hne:rw0≠wy){t e r u:Addr}{ns ks:List Int}{c:Bool}(wa:WyAt (hid H' rw0 wy) t e r u ns ks c)(wk:WayK k rs ks ns c):Bdy H (upd H' wy (.lst ((qs.map λq=>V.ref q.t)++[.ref t]))) nm rw0 wy kvs k rs zs (qs++[⟨t,e,r,u,ns,ks,c⟩]):=by
 have:=B.setW hn hne (qs':=qs++[⟨t,e,r,u,ns,ks,c⟩]) λq hq=>by
  rcases List.mem_append.mp hq with h | h
  ·exact B.wq q h
  ·rw [List.mem_singleton.mp h];exact ⟨wa,wk⟩
 rw [List.map_append] at this;exact this
end
theorem UJ {ns:List Int}(h:0<ns.length):atI (ns.map V.int) 0=some (.int (ns.getD 0 0)):=Oi (i:=0) (by decide) (by lia)
theorem YY {α:Type}(l:List α):l=[]\/∃L b,l=L++[b]:=by
 cases h:l.reverse with
 | nil=>exact .inl (List.reverse_eq_nil_iff.mp h)
 | cons b L=>
  refine .inr ⟨L.reverse,b,?_⟩;have:=congrArg List.reverse h;rw [List.reverse_reverse,List.reverse_cons] at this;exact this
section
variable {P:Program}{w:World}{K:W.Frag}{mg:Str->Option Value}{base:Heap}
def ZdY:Sp:=λvs H Q _=>∃(wb l:Addr)(k:Int)(xs:List V)(rs:List (Int×Int)),vs=[.ref wb]/\WebAt H wb l k xs rs/\Gz k rs/\k<=8 /\
 ∀(wy:Addr)(qs:List Wq)(H':Hp),Same H H'->H wy=none->H' wy=some (.lst (qs.map λq=>V.ref q.t))->Wqs H' k rs qs->qs.length<=219200->Q (.ref wy) H'
theorem scWys:Gv ["web", "numbers", "k", "rows", "ways", "row", "used", "further"] ["web"] (Gg ZaJ):=⟨rfl,rfl,rfl,by decide +kernel,rfl,by decide +kernel,by decide +kernel⟩
theorem ZdZ {f:Addr}{fd:FuncData}(F:Fun K "_law_ways" "_law_ways" ZaJ f fd)(mLen:mg "len" = none)(mRange:mg "range" = none)(mMin:mg "min" = none)(mMax:mg "max" = none)(mZip:mg "zip" = none)(mSor:mg "sorted" = none):GS P w K mg base CX0 1 f fd ["web"] ZdY:=by
 refine F.ok scWys (λvs H Q E h=>?_) (λcdv A outer s H vs Q E hr h=>?_)
 ·obtain ⟨_,_,_,_,_,rfl,_⟩:=h
  rfl
 obtain ⟨wb,l,k,xs,rs,rfl,W,g,k8,q⟩:=h;have h16:(16777216:Nat)=sizeLine:=sizeLine_eq.symm;have hu:=hr.units;have hu1:(A.deeper (PyProof.Rows.envOfC "_law_ways" (Gg ZaJ) s.heap.objs.size f cdv)).units+1<cLine:=by have:=hr.un;lia
 have hxl:=W.p.len;have hrl:=g.2.2.1;have k1:=g.1;have hlt:∀r∈rs,r.1<r.2:=λr hr=>(g.2.2.2.1 r hr).2.1;refine ⟨_,(@Gh _ _ _ _ _ (@GE _ _ 1 _ _ _ _ scWys.nd rfl (Or.inr rfl) WE rfl (by first | exact .inl rfl | exact .inr rfl))
    (@Gh _ _ _ _ _ (@J1 _ _ _ _ _ _ _ _ PassesOwn.never rfl (Jn rfl mRange (@Ga _ _ _ _ _ (Gk (O5 K) rfl mLen PySem.boot_len (@Ga _ _ _ _ _ (@Gj _ _ _ _ _ _ _ (Je K) (pv 0) Gc (λ_ _=>rfl)) Gf rfl)) Gf rfl)) (Gy (i:=2) scWys.nd rfl (Or.inl rfl))
    (@Gi _ _ _ (V5 hu1 (pv 1) (@Gj _ _ _ _ _ _ _ (Jt K) (@Gj _ _ _ _ _ _ _ (Je K) (pv 0) Gc (λ_ _=>rfl)) (pv 2) (λ_ _=>rfl)) (pv 2) rfl)) (by intro _;rfl))
    (@Gh _ _ _ _ _ (Um (i:=3) scWys.nd rfl (Or.inl rfl) (own:=["place"]) rfl (Jz (by decide +kernel) (by decide +kernel) rfl (by decide +kernel)) (Jn rfl mRange (@Ga _ _ _ _ _ (@Gj _ _ _ _ _ _ _ (Je K) (pv 0) Gc (λ_ _=>rfl)) Gf rfl)) (λ_ _ _ _=>Gy (i:=0) (show List.Nodup (["place"]:List Str) by decide +kernel) rfl (Or.inl rfl)) (λ_ _ _ _=>Ja) (λ_ _ _ _=>@G8 _ _ _ _ (@Ga _ _ _ _ _ (pv 0) Gf rfl)))
    (@Gh _ _ _ _ _ (@GE _ _ 4 _ _ _ _ scWys.nd rfl (Or.inl rfl) (@G8 _ _ _ _ Gf) rfl (by first | exact .inl rfl | exact .inr rfl))
    (@Gh _ _ _ _ _ (U0 PassesOwn.never (Gp (Zel K hu) (pv 3) (@G8 _ _ _ _ Gf) (Gx _))
    (@Gh _ _ _ _ _ (@GE _ _ 5 _ _ _ _ scWys.nd rfl (Or.inl rfl) (Wp PySem.F.plainAttrs_list PySem.F.slot_list_pop PySem.F.type_list_pop Wr (pv 3)) rfl (by first | exact .inl rfl | exact .inr rfl))
    (@Gh _ _ _ _ _ (Um (i:=6) scWys.nd rfl (Or.inl rfl) (own:=["a", "b"]) rfl (Gr (fr:=[("numbers", 1)]) [(".0", .local),("a", .local),("b", .local),("min", .globalImplicit),("max", .globalImplicit),("numbers", .cell)] rfl rfl (by decide +kernel) rfl (by decide +kernel) ⟨rfl,trivial⟩ ⟨λh=>GT h,λh=>GT h,λh=>GT h,λh=>GT h,λh=>GT h,λ_=>⟨_,rfl⟩,trivial⟩ ⟨⟨rfl,.inl rfl,.inl rfl⟩,trivial⟩) (ZeL false K rfl mZip (@Ga _ _ _ _ _ (pv 5) (@Ga _ _ _ _ _ (Js (kSl K) (pv 5) (Jy Gc) JJ) Gf rfl) rfl)) (λ_ _ _ _=>Zaz K (n:=2) rfl (G7 (Gy (i:=0) (show List.Nodup (["a", "b", "numbers"]:List Str) by decide +kernel) rfl (Or.inl rfl)) (G7 (Gy (i:=1) (show List.Nodup (["a", "b", "numbers"]:List Str) by decide +kernel) rfl (Or.inl rfl)) Of))) (λ_ _ _ _=>Ja) (λ_ _ _ _=>V4 hu1 (pv 2) (@Jf _ _ _ _ _ (@Ga _ _ _ _ _ (Gk (OG rfl) rfl mMin Ub (@Ga _ _ _ _ _ (pv 0) (@Ga _ _ _ _ _ (pv 1) Gf rfl) rfl)) (@Ga _ _ _ _ _ (Gk (Og rfl) rfl mMax OO (@Ga _ _ _ _ _ (pv 0) (@Ga _ _ _ _ _ (pv 1) Gf rfl) rfl)) Gf rfl) rfl)) (λ_ _=>rfl)))
    (@Gh _ _ _ _ _ (@Jj _ _ _ _ _ _ _ _ (PW.pt (Ox (Gp Xd (Gk (O5 K) rfl mLen PySem.boot_len (@Ga _ _ _ _ _ (pv 5) Gf rfl)) Gc (Gx _)) (Od (Gp U2 (@Gj _ _ _ _ _ _ _ (Jt K) (pv 5) Gc (λ_ _=>rfl)) (@Gj _ _ _ _ _ _ _ (Jt K) (pv 5) (OF JB Gc) (λ_ _=>rfl)) (Gx _))))) (@Gi _ _ _ (Ji (Ou PySem.F.plainAttrs_list PySem.F.slot_list_append PySem.F.type_list_append G9 (pv 4) (@Ga _ _ _ _ _ (@Jf _ _ _ _ _ (@Ga _ _ _ _ _ (@G8 _ _ _ _ (@Ga _ _ _ _ _ (@Gj _ _ _ _ _ _ _ (Jt K) (pv 5) Gc (λ_ _=>rfl)) (@Ga _ _ _ _ _ (@Gj _ _ _ _ _ _ _ (Jt K) (pv 5) (OF JB Gc) (λ_ _=>rfl)) Gf rfl) rfl)) (@Ga _ _ _ _ _ (pv 5) (@Ga _ _ _ _ _ (Gk (OB K) rfl mSor PyProof.Rows.boot_sorted (@Ga _ _ _ _ _ (pv 6) Gf rfl)) Gf rfl) rfl) rfl)) Gf rfl)))) GF)
    (@Gh _ _ _ _ _ (@Jj _ _ _ _ _ _ _ _ (PW.pt (Ox (Gp Xd (Gk (O5 K) rfl mLen PySem.boot_len (@Ga _ _ _ _ _ (pv 5) Gf rfl)) Gc (Gx _)) (Ox (Gp Jv (@Gj _ _ _ _ _ _ _ (Jt K) (pv 5) Gc (λ_ _=>rfl)) (Gk (Zfu K rfl) rfl mMin Us (@Ga _ _ _ _ _ (pv 5) Gf rfl)) (Gx _)) (Ox (Gp U2 (@Gj _ _ _ _ _ _ _ (Jt K) (pv 5) Gc (λ_ _=>rfl)) (@Gj _ _ _ _ _ _ _ (Jt K) (pv 5) (OF JB Gc) (λ_ _=>rfl)) (Gx _)) (Od (Zat (Yh hu1 (@Jf _ _ _ _ _ (@Ga _ _ _ _ _ (@Gj _ _ _ _ _ _ _ (Jt K) (pv 5) Gc (λ_ _=>rfl)) (@Ga _ _ _ _ _ (@Gj _ _ _ _ _ _ _ (Jt K) (pv 5) (OF JB Gc) (λ_ _=>rfl)) Gf rfl) rfl)) (pv 1)) rfl)))))) (@Gi _ _ _ (Ji (Ou PySem.F.plainAttrs_list PySem.F.slot_list_append PySem.F.type_list_append G9 (pv 4) (@Ga _ _ _ _ _ (@Jf _ _ _ _ _ (@Ga _ _ _ _ _ (@G8 _ _ _ _ Gf) (@Ga _ _ _ _ _ (pv 5) (@Ga _ _ _ _ _ (Gk (OB K) rfl mSor PyProof.Rows.boot_sorted (@Ga _ _ _ _ _ (@GB _ _ _ _ _ _ _ _ Uk (pv 6) (@G8 _ _ _ _ (@Ga _ _ _ _ _ (V4 hu1 (pv 1) (@Jf _ _ _ _ _ (@Ga _ _ _ _ _ (@Gj _ _ _ _ _ _ _ (Jt K) (pv 5) Gc (λ_ _=>rfl)) (@Ga _ _ _ _ _ (@Gj _ _ _ _ _ _ _ (Jt K) (pv 5) (OF JB Gc) (λ_ _=>rfl)) Gf rfl) rfl)) (λ_ _=>rfl)) Gf rfl))) Gf rfl)) Gf rfl) rfl) rfl)) Gf rfl)))) GF)
    (@Gi _ _ _ (@J1 _ _ _ _ _ _ _ _ PassesOwn.never rfl (Jn rfl mRange (@Ga _ _ _ _ _ (@Gj _ _ _ _ _ _ _ (Je K) (pv 0) Gc (λ_ _=>rfl)) Gf rfl)) (Gy (i:=7) scWys.nd rfl (Or.inl rfl))
    (@Gi _ _ _ (@Jj _ _ _ _ _ _ _ _ (PW.pt (Ox (Gp (VE K) (pv 7) (pv 5) (by with_unfolding_all rfl)) (Od (Zat (Yh hu1 (@Jf _ _ _ _ _ (@Ga _ _ _ _ _ (Gk (OG rfl) rfl mMin Ub (@Ga _ _ _ _ _ (@Gj _ _ _ _ _ _ _ (Jt K) (pv 5) (OF JB Gc) (λ_ _=>rfl)) (@Ga _ _ _ _ _ (pv 7) Gf rfl) rfl)) (@Ga _ _ _ _ _ (Gk (Og rfl) rfl mMax OO (@Ga _ _ _ _ _ (@Gj _ _ _ _ _ _ _ (Jt K) (pv 5) (OF JB Gc) (λ_ _=>rfl)) (@Ga _ _ _ _ _ (pv 7) Gf rfl) rfl)) Gf rfl) rfl)) (pv 1)) rfl)))) (@Gi _ _ _ (Ji (Ou PySem.F.plainAttrs_list PySem.F.slot_list_append PySem.F.type_list_append G9 (pv 3) (@Ga _ _ _ _ _ (@GB _ _ _ _ _ _ _ _ Uk (pv 5) (@G8 _ _ _ _ (@Ga _ _ _ _ _ (pv 7) Gf rfl))) Gf rfl)))) GF)) (by intro _;rfl))))))))
    (@Gi _ _ _ (@Gw _ _ _ _ (pv 4)))))))),?_⟩
 refine λnm hnm=>?_;have s1:Same H (upd H nm (.dT [])):=Same.new hnm;have e1:upd H nm (.dT []) nm=some (.dT []):=Gb;generalize upd H nm (.dT [])=H1 at s1 e1 ⊢;dsimp only [Jm];refine JA (λσ2 H2=>∃(v2:Option V)(kvs:List (List Key×V)),σ2=[some (.ref wb),some (.ref nm),v2,none,none,none,none,none]/\Same H H2/\H2 nm=some (.dT kvs)/\∀p q,OT kvs (ky p q)=Zah rs p q rs.length) ?_ ?_
 case _=>
  clear s1 e1;rintro σ2 H2 ⟨v2,kvs,rfl,s2,e2,val⟩;have W2:=W.same s2;refine JA (λσ3 H3=>∃(rw0:Addr)(zs:List (Addr×List Int)),σ3=[some (.ref wb),some (.ref nm),v2,some (.ref rw0),none,none,none,none]/\Same H2 H3/\H2 rw0=none/\H3 rw0=some (.lst (zs.map λz=>V.ref z.1))/\zs.length=k.toNat/\∀z∈zs,H3 z.1=some (.lst (z.2.map V.int))/\z.1≠rw0/\RwK k rs z.2/\z.2.length=1) ?_ ?_
  case _=>
   rintro σ3 H3 ⟨rw0,zs,rfl,s3,hrw2,erw,hzl,hz⟩;refine ⟨Nat.zero_le _,λwy hwy3=>?_⟩;have hne:rw0≠wy:=Gn erw hwy3;have hrw:H rw0=none:=s2.free hrw2;have hwy:H wy=none:=s2.free (s3.free hwy3);have s4:Same H3 (upd H3 wy (.lst [])):=Same.new hwy3;have B0:Bdy H (upd H3 wy (.lst [])) nm rw0 wy kvs k rs zs []:=⟨(s2.trans s3).trans s4,s4 _ _ (s3 _ _ e2),s4 _ _ erw,Gb,λz h=>Wf (s4 _ _ (hz z h).1) (hz z h).2.1 (Gn (hz z h).1 hwy3),λq hq=>(by cases hq),λz h=>(hz z h).2.2.1⟩;have hw0:wts k.toNat (zs.map (·.2))<=109600:=by
    rw [Vm (n:=1) λr hr=>(by obtain ⟨z,h,rfl⟩:=List.mem_map.mp hr;exact (hz z h).2.2.2),List.length_map,hzl];have:=Nat.mul_le_mul (show k.toNat<=8 by lia) (Ze4 (r:=k.toNat-1) (by lia))
    lia
   generalize upd H3 wy (.lst [])=H4 at s4 B0 ⊢;dsimp only [Jm];refine ⟨λm σ' H'=>∃(v2 v5 v6 v7:Option V)(zs:List (Addr×List Int))(qs:List Wq),σ'=[some (.ref wb),some (.ref nm),v2,some (.ref rw0),some (.ref wy),v5,v6,v7]/\Bdy H H' nm rw0 wy kvs k rs zs qs/\m=wts k.toNat (zs.map (·.2))/\qs.length+2 * m<=219200,⟨_,v2,none,none,none,zs,[],rfl,B0,rfl,by rw [List.length_nil];lia⟩,?_⟩;clear B0 hw0 s4 hz hzl erw s3 hwy3 hrw2 W2 s2 e2;rintro m σ' H' ⟨v2,v5,v6,v7,zs,qs,rfl,B,rfl,hm⟩;refine ⟨_,rfl,Nat.zero_le _,λp hp=>?_⟩;have s3:Same H' (upd H' p (.lst [])):=Same.new hp;have e3:upd H' p (.lst []) p=some (.lst []):=Gb;generalize upd H' p (.lst [])=H3' at s3 e3 ⊢;have B3:=B.same s3;clear B s3;refine ⟨.list (Zc (zs.map (·.2))),.list [],.lst (SqL.of B3.er) (YS (B3.lz.same YR)),.lst (SqL.of e3) .nil,UI _,UI [],_,rfl,?_⟩;rw [YT];rcases YY zs with rfl | ⟨zs0,⟨r,ns⟩,rfl⟩
   ·refine GG ?_;exact ⟨_,rfl,q wy qs _ B3.s hwy B3.ew (B3.wq.same YR) (by lia)⟩
   ·rw [decide_eq_false (by unfold Zc;simp)];refine Jg ⟨_,λ_ _ h=>h,?_⟩;have er0:H3' rw0=some (.lst ((zs0.map λz=>V.ref z.1)++[V.ref r])):=by rw [B3.er,List.map_append];rfl
    refine ⟨_,rfl,.inl ⟨rfl,_,SqL.of er0⟩,rw0,_,V.ref r,rfl,rfl,er0,(by simp),?_⟩;rw [List.dropLast_concat];have B4:=B3.setR hrw hne (zs':=zs0) (λz h=>B3.lz z (by simp [h])) (λz h=>B3.ok z (by simp [h]));have er4:hid (upd H3' rw0 (.lst (zs0.map λz=>V.ref z.1))) rw0 wy r=some (.lst (ns.map V.int)):=by rw [Zai];exact B3.lz (r,ns) (by simp)
    have R:RwK k rs ns:=B3.ok (r,ns) (by simp);generalize upd H3' rw0 (.lst (zs0.map λz=>V.ref z.1))=H4' at B4 er4 ⊢;clear B3 e3 er0;have nl:=R.len;have n0:0<ns.length:=List.length_pos_iff.mpr R.ne;have ec:OV (ns.map V.int) (some 1) none=(ns.drop 1).map V.int:=by rw [show (some (1:Int))=some ((1:Nat):Int) from rfl,OM,List.map_drop]
    dsimp only [Jm];refine JA (λσ5 H5=>∃D:Addr,σ5=[some (.ref wb),some (.ref nm),v2,some (.ref rw0),some (.ref wy),some (.ref r),some (.ref D),v7]/\Same H4' H5/\hid H5 rw0 wy D=some (.lst (((Gm ns false).map (Oz rs)).map V.int))) ?_ ?_
    case _=>
     rintro σ5 H5 ⟨D,rfl,s5,eD5⟩;have B5:=B4.same s5;have er5:=GJ s5 _ _ er4;clear B4 er4 s5;refine JA (λσ6 H6=>∃qs1:List Wq,σ6=[some (.ref wb),some (.ref nm),v2,some (.ref rw0),some (.ref wy),some (.ref r),some (.ref D),v7]/\Bdy H H6 nm rw0 wy kvs k rs zs0 qs1/\hid H6 rw0 wy r=some (.lst (ns.map V.int))/\hid H6 rw0 wy D=some (.lst (((Gm ns false).map (Oz rs)).map V.int))/\qs1.length<=qs.length+1) ?_ ?_
     case _=>
      clear B5 er5 eD5;rintro σ6 H6 ⟨qs1,rfl,B6,er6,eD6,hq1⟩;refine JA (λσ7 H7=>∃qs2:List Wq,σ7=[some (.ref wb),some (.ref nm),v2,some (.ref rw0),some (.ref wy),some (.ref r),some (.ref D),v7]/\Bdy H H7 nm rw0 wy kvs k rs zs0 qs2/\hid H7 rw0 wy r=some (.lst (ns.map V.int))/\qs2.length<=qs.length+2) ?_ ?_
      case _=>
       clear B6 er6 eD6 hq1;rintro σ7 H7 ⟨qs2,rfl,B7,er7,hq2⟩;refine ⟨_,rfl,wb,_,_,_,rfl,rfl,SqT.of (B7.s _ _ W.w),Ge (j:=0) rfl,_,rfl,by lia,by lia,?_⟩;refine JG (lo:=0) (n:=k.toNat) (λi σ8 H8=>∃(v7:Option V)(zs1:List (Addr×List Int)),σ8=[some (.ref wb),some (.ref nm),v2,some (.ref rw0),some (.ref wy),some (.ref r),some (.ref D),v7]/\Bdy H H8 nm rw0 wy kvs k rs (zs0++zs1) qs2/\hid H8 rw0 wy r=some (.lst (ns.map V.int))/\(∀z∈zs1,z.2.length=ns.length+1)/\zs1.length<=(YW ns i).length) ⟨v7,[],rfl,by rw [List.append_nil];exact B7,er7,λz hz=>(by cases hz),Nat.zero_le _⟩ ?_ ?_
       ·rintro i σ8 H8 hi ⟨v8,zs1,rfl,B8,er8,hz,hzl⟩;rw [Int.zero_add];have ho:=YX ns i;have hol:=Zb6 ns i;have er:=J0 er8;have wl:=Zb1 k.toNat (zs0.map (·.2));rw [List.length_map] at wl;have hm2:wts k.toNat ((zs0++[(r,ns)]).map (·.2))=wts k.toNat (zs0.map (·.2))+wt (k.toNat-ns.length):=by rw [List.map_append];exact WS _ _ _
        refine ⟨_,rfl,_,rfl,r,_,rfl,.inl (SqL.of er),rfl,G1 _,_,rfl,?_⟩;rw [Jc];refine O4 (λz1=>?_) (λz1=>GG ⟨_,zs1,rfl,B8,er8,hz,by split at ho <;> lia⟩);have hin:(i:Int) ∉ ns:=by simpa using z1
        rw [if_neg hin] at ho;refine ⟨_,rfl,_,rfl,r,_,_,_,rfl,rfl,SqL.of er,JR R.ne,_,rfl,_,_,rfl,_,rfl,_,rfl,r,_,_,_,rfl,rfl,SqL.of er,JR R.ne,_,rfl,_,_,rfl,Jr,λt0 ht0=>?_⟩;generalize hla:ns.getD (ns.length-1) 0=la at *;have s7:Same H8 (upd H8 t0 (.tup [.int (Jo la i).1,.int (Jo la i).2])):=Same.new ht0;have e7:upd H8 t0 (.tup [.int (Jo la i).1,.int (Jo la i).2]) t0=some (.tup [.int (Jo la i).1,.int (Jo la i).2]):=Gb;change Y5 1 _ (upd H8 t0 (.tup [.int (Jo la i).1,.int (Jo la i).2])) _;generalize upd H8 t0 (.tup [.int (Jo la i).1,.int (Jo la i).2])=H9 at s7 e7 ⊢;have B9:=B8.same s7;have er9:=GJ s7 _ _ er8;clear B8 er8 s7 er;refine ⟨_,rfl,nm,_,rfl,DGet.t (k:=ky (Jo la i).1 (Jo la i).2) B9.d e7,_,rfl,?_⟩;rw [val];refine O4 (λz4=>?_) (λz4=>⟨_,zs1,rfl,B9,er9,hz,by lia⟩);have ha:Adj rs la i:=(JL hlt _ _).mp (Vl _ (Nat.le_refl _) z4);refine ⟨_,rfl,.inl ⟨rfl,_,SqL.of B9.er⟩,_,rfl,_,rfl,(by show 1<=sizeLine;lia),λp1 hp1=>?_⟩;have sa:Same H9 (upd H9 p1 (.lst [.int (i:Int)])):=Same.new hp1;have ea:upd H9 p1 (.lst [.int (i:Int)]) p1=some (.lst ([(i:Int)].map V.int)):=Gb;generalize upd H9 p1 (.lst [.int (i:Int)])=Ha at sa ea ⊢;have Ba:=B9.same sa;have era:=GJ sa _ _ er9;clear sa B9 er9 e7;refine ⟨r,p1,_,_,rfl,rfl,J0 era,ea,by rw [List.length_map,List.length_map];show _+1<=_;lia,λc1 hc1=>?_⟩;rw [<-List.map_append];have sb:Same Ha (upd Ha c1 (.lst ((ns++[(i:Int)]).map V.int))):=Same.new hc1;have eb:hid (upd Ha c1 (.lst ((ns++[(i:Int)]).map V.int))) rw0 wy c1=some (.lst ((ns++[(i:Int)]).map V.int)):=Ba.new hc1;change Zav _ (upd Ha c1 (.lst ((ns++[(i:Int)]).map V.int))) _;generalize upd Ha c1 (.lst ((ns++[(i:Int)]).map V.int))=Hb at sb eb ⊢;have Bb:=Ba.same sb;have erb:=GJ sb _ _ era;clear sb Ba era ea;refine ⟨rw0,_,_,rfl,rfl,Bb.er,by rw [List.length_map,List.length_append];lia,?_⟩;have Bc:=Bb.setR hrw hne (zs':=zs0++(zs1++[(c1,ns++[(i:Int)])])) (λz h=>by
         rw [<-List.append_assoc] at h;rcases List.mem_append.mp h with h | h
         ·exact Bb.lz z h
         ·rw [List.mem_singleton.mp h];exact eb) (λz h=>by
         rw [<-List.append_assoc] at h;rcases List.mem_append.mp h with h | h
         ·exact Bb.ok z h
         ·rw [List.mem_singleton.mp h];exact R.snoc (by lia) hin (by rw [hla];exact ha))
        rw [<-List.append_assoc,List.map_append] at Bc;refine ⟨_,zs1++[(c1,ns++[(i:Int)])],rfl,by rw [<-List.append_assoc];exact Bc,by rw [Zai];exact erb,λz h=>?_,by rw [List.length_append];show _+1<=_;lia⟩;rcases List.mem_append.mp h with h | h
        ·exact hz z h
        ·rw [List.mem_singleton.mp h];show (ns++[(i:Int)]).length=_;rw [List.length_append];rfl
       ·rintro σ8 H8 ⟨v8,zs1,rfl,B8,er8,hz,hzl⟩;have ho:=Zak R;have lt:wts k.toNat ((zs0++zs1).map (·.2))<wts k.toNat ((zs0++[(r,ns)]).map (·.2)):=by
         rw [List.map_append,List.map_append];exact Zaj (ns:=ns) (λx hx=>by obtain ⟨z,h,rfl⟩:=List.mem_map.mp hx;exact hz z h) (by rw [List.length_map];lia)
        exact ⟨_,lt,v2,_,_,v8,zs0++zs1,qs2,rfl,B8,rfl,by lia⟩
      ·intro J;have er:=J0 er6;refine ⟨_,rfl,r,_,rfl,.inl (SqL.of er),_,_,rfl,rfl,_,rfl,?_⟩;rw [List.length_map];refine O4 (λz1=>?_) (λz1=>GG (J _ _ ⟨qs1,rfl,B6,er6,by lia⟩));have h1:2<ns.length:=by have:=of_decide_eq_true z1;lia
       refine ⟨_,rfl,r,_,_,_,rfl,rfl,SqL.of er,UJ n0,_,rfl,r,ns,rfl,SqL.of er,R.ne,λmn hmem hle=>?_⟩;refine ⟨rfl,_,rfl,?_⟩;refine O4 (λz2=>?_) (λz2=>GG (J _ _ ⟨qs1,rfl,B6,er6,by lia⟩));have h2:ns.getD 0 0=mn:=V.int.inj (of_decide_eq_true z2);refine ⟨_,rfl,r,_,_,_,rfl,rfl,SqL.of er,Oi (i:=1) (by decide) (by lia),_,rfl,_,rfl,r,_,_,_,rfl,rfl,SqL.of er,JR R.ne,_,_,rfl,rfl,_,rfl,?_⟩;refine O4 (λz3=>?_) (λz3=>GG (J _ _ ⟨qs1,rfl,B6,er6,by lia⟩));have h3:ns.getD 1 0<ns.getD (ns.length-1) 0:=of_decide_eq_true z3;have hfl:ns.getD 0 0<ns.getD (ns.length-1) 0:=by
        have:=hle _ (JW (ns:=ns) (i:=1) (by lia))
        lia
       have hpr:Jo (ns.getD (ns.length-1) 0) (ns.getD 0 0)=(ns.getD 0 0,ns.getD (ns.length-1) 0):=by
        unfold Jo;rw [if_pos hfl,if_neg (by lia)]
       refine ⟨_,rfl,r,_,_,_,rfl,rfl,SqL.of er,UJ n0,_,rfl,_,rfl,r,_,_,_,rfl,rfl,SqL.of er,JR R.ne,Jr,λt0 ht0=>?_⟩;have s7:Same H6 (upd H6 t0 (.tup [.int (ns.getD 0 0),.int (ns.getD (ns.length-1) 0)])):=Same.new ht0;have e7:upd H6 t0 (.tup [.int (ns.getD 0 0),.int (ns.getD (ns.length-1) 0)]) t0=some (.tup [.int (ns.getD 0 0),.int (ns.getD (ns.length-1) 0)]):=Gb;change Y5 1 _ (upd H6 t0 (.tup [.int (ns.getD 0 0),.int (ns.getD (ns.length-1) 0)])) _;generalize upd H6 t0 (.tup [.int (ns.getD 0 0),.int (ns.getD (ns.length-1) 0)])=H7 at s7 e7 ⊢;have B7:=B6.same s7;have er7:=GJ s7 _ _ er6;have eD7:=GJ s7 _ _ eD6;clear B6 er6 eD6 s7 er;refine ⟨_,rfl,nm,_,rfl,DGet.t (k:=ky (ns.getD 0 0) (ns.getD (ns.length-1) 0)) B7.d e7,_,rfl,?_⟩;rw [val];refine O4 (λz4=>?_) (λz4=>J _ _ ⟨qs1,rfl,B7,er7,by lia⟩);have ha:Adj rs (ns.getD (ns.length-1) 0) (ns.getD 0 0):=.inr (Vl _ (Nat.le_refl _) z4);have hv:=WU g ha;rw [hpr] at hv;refine ⟨_,rfl,.inl ⟨rfl,_,SqL.of B7.ew⟩,Nat.zero_le _,λe he=>?_⟩;have s8:Same H7 (upd H7 e (.lst [])):=Same.new he;have e8:hid (upd H7 e (.lst [])) rw0 wy e=some (.lst ((YH ns true).map V.int)):=B7.new he;generalize upd H7 e (.lst [])=H8 at s8 e8 ⊢;have B8:=B7.same s8;have er8:=GJ s8 _ _ er7;have eD8:=GJ s8 _ _ eD7;have er:=J0 er8;clear s8 B7 er7 eD7 e7;refine ⟨_,rfl,_,rfl,_,rfl,_,rfl,r,_,_,_,rfl,rfl,SqL.of er,UJ n0,_,rfl,_,rfl,r,_,_,_,rfl,rfl,SqL.of er,JR R.ne,Jr,λt1 ht1=>?_⟩;have s9:Same H8 (upd H8 t1 (.tup [.int (ns.getD 0 0),.int (ns.getD (ns.length-1) 0)])):=Same.new ht1;have e9:upd H8 t1 (.tup [.int (ns.getD 0 0),.int (ns.getD (ns.length-1) 0)]) t1=some (.tup [.int (ns.getD 0 0),.int (ns.getD (ns.length-1) 0)]):=Gb;generalize upd H8 t1 (.tup [.int (ns.getD 0 0),.int (ns.getD (ns.length-1) 0)])=H9 at s9 e9 ⊢;have B9:=B8.same s9;have er9:=GJ s9 _ _ er8;have eD9:=GJ s9 _ _ eD8;have e9':=GJ s9 _ _ e8;have dg:=DGet.t (k:=ky (ns.getD 0 0) (ns.getD (ns.length-1) 0)) B9.d e9;rw [val,hv] at dg;clear s9 B8 er8 eD8 e8 er e9;refine ⟨nm,_,rfl,dg,(by show 1<=sizeLine;lia),λp1 hp1=>?_⟩;generalize hrn:Oz rs (ns.getD (ns.length-1) 0,ns.getD 0 0)=rn;have sa:Same H9 (upd H9 p1 (.lst [.int rn])):=Same.new hp1;have ea:upd H9 p1 (.lst [.int rn]) p1=some (.lst ([rn].map V.int)):=Gb;generalize upd H9 p1 (.lst [.int rn])=Ha at sa ea ⊢;have Ba:=B9.same sa;have era:=GJ sa _ _ er9;have eDa:=GJ sa _ _ eD9;have eea:=GJ sa _ _ e9';clear sa B9 er9 eD9 e9' dg;have sl:(Gm ns false).length<=9:=by unfold Gm;rw [if_neg Bool.false_ne_true,List.append_nil,List.length_zip];lia
       refine ⟨D,p1,_,_,rfl,rfl,J0 eDa,ea,by rw [List.length_map,List.length_map];show _+1<=_;lia,λc1 hc1=>?_⟩;rw [<-List.map_append];have sb:Same Ha (upd Ha c1 (.lst (((Gm ns false).map (Oz rs)++[rn]).map V.int))):=Same.new hc1;have eb:upd Ha c1 (.lst (((Gm ns false).map (Oz rs)++[rn]).map V.int)) c1=some (.lst (((Gm ns false).map (Oz rs)++[rn]).map V.int)):=Gb;generalize upd Ha c1 (.lst (((Gm ns false).map (Oz rs)++[rn]).map V.int))=Hb at sb eb ⊢;have Bb:=Ba.same sb;have erb:=GJ sb _ _ era;have eeb:=GJ sb _ _ eea;clear sb Ba era eDa eea ea;refine ⟨c1,_,rfl,SqL.of eb,by rw [List.length_append,List.length_map];show _+1<_;lia,λu ks hu0 pm so=>?_⟩;have sc:Same Hb (upd Hb u (.lst (ks.map V.int))):=Same.new hu0;have ec':hid (upd Hb u (.lst (ks.map V.int))) rw0 wy u=some (.lst (ks.map V.int)):=Bb.new hu0;generalize upd Hb u (.lst (ks.map V.int))=Hc at sc ec' ⊢;have Bc:=Bb.same sc;have erc:=GJ sc _ _ erb;have eec:=GJ sc _ _ eeb;clear sc Bb erb eeb eb;refine ⟨(by show 3<=sizeLine;lia),λt ht=>?_⟩;have sd:Same Hc (upd Hc t (.tup [.ref e,.ref r,.ref u])):=Same.new ht;have ed:hid (upd Hc t (.tup [.ref e,.ref r,.ref u])) rw0 wy t=some (.tup [.ref e,.ref r,.ref u]):=Bc.new ht;change Zav _ (upd Hc t (.tup [.ref e,.ref r,.ref u])) _;generalize upd Hc t (.tup [.ref e,.ref r,.ref u])=Hd at sd ed ⊢;have Bd:=Bc.same sd;refine ⟨wy,_,_,rfl,rfl,Bd.ew,by rw [List.length_map];lia,?_⟩;have Be:=Bd.add hwy hne ⟨ed,GJ sd _ _ eec,GJ sd _ _ erc,GJ sd _ _ ec'⟩ (R.ring h1 (λx hx=>by rw [h2];exact hle x hx) h3 ha (by rw [XA,hrn];exact pm) so);exact J _ _ ⟨_,rfl,Be,by rw [YQ];exact GJ sd _ _ erc,by rw [List.length_append];show _+1<=_;lia⟩
     ·intro J;have er:=J0 er5;refine ⟨_,rfl,r,_,rfl,.inl (SqL.of er),_,_,rfl,rfl,_,rfl,?_⟩;rw [List.length_map];refine O4 (λz1=>?_) (λz1=>GG (J _ _ ⟨qs,rfl,B5,er5,eD5,by lia⟩));have h1:1<ns.length:=by have:=of_decide_eq_true z1;lia
      refine ⟨_,rfl,r,_,_,_,rfl,rfl,SqL.of er,UJ n0,_,rfl,_,rfl,r,_,_,_,rfl,rfl,SqL.of er,JR R.ne,_,_,rfl,rfl,_,rfl,?_⟩;refine O4 (λz2=>?_) (λz2=>J _ _ ⟨qs,rfl,B5,er5,eD5,by lia⟩);have h2:ns.getD 0 0<ns.getD (ns.length-1) 0:=of_decide_eq_true z2;refine ⟨_,rfl,.inl ⟨rfl,_,SqL.of B5.ew⟩,_,rfl,r,_,_,_,rfl,rfl,SqL.of er,UJ n0,_,rfl,_,rfl,r,_,_,_,rfl,rfl,SqL.of er,JR R.ne,Jr,λe he=>?_⟩;have s6:Same H5 (upd H5 e (.lst [.int (ns.getD 0 0),.int (ns.getD (ns.length-1) 0)])):=Same.new he;have e6:hid (upd H5 e (.lst [.int (ns.getD 0 0),.int (ns.getD (ns.length-1) 0)])) rw0 wy e=some (.lst ((YH ns false).map V.int)):=B5.new he;change (V0 (Y5 5) (V0 (tCB (X7 K) (V0 (Y5 6) Zav)) Zav)) _ (upd H5 e (.lst [.int (ns.getD 0 0),.int (ns.getD (ns.length-1) 0)])) _;generalize upd H5 e (.lst [.int (ns.getD 0 0),.int (ns.getD (ns.length-1) 0)])=H6 at s6 e6 ⊢;have B6:=B5.same s6;have sl:(Gm ns false).length<=9:=by unfold Gm;rw [if_neg Bool.false_ne_true,List.append_nil,List.length_zip];lia
      refine ⟨_,rfl,_,rfl,D,_,rfl,SqL.of (s6 _ _ (J0 eD5)),by rw [List.length_map];lia,λu ks hu0 pm so=>?_⟩;have s7:Same H6 (upd H6 u (.lst (ks.map V.int))):=Same.new hu0;have e7:hid (upd H6 u (.lst (ks.map V.int))) rw0 wy u=some (.lst (ks.map V.int)):=B6.new hu0;generalize upd H6 u (.lst (ks.map V.int))=H7 at s7 e7 ⊢;have B7:=B6.same s7;refine ⟨(by show 3<=sizeLine;lia),λt ht=>?_⟩;have s8:Same H7 (upd H7 t (.tup [.ref e,.ref r,.ref u])):=Same.new ht;have e8:hid (upd H7 t (.tup [.ref e,.ref r,.ref u])) rw0 wy t=some (.tup [.ref e,.ref r,.ref u]):=B7.new ht;change Zav _ (upd H7 t (.tup [.ref e,.ref r,.ref u])) _;generalize upd H7 t (.tup [.ref e,.ref r,.ref u])=H8 at s8 e8 ⊢;have B8:=B7.same s8;have S8:=(s6.trans s7).trans s8;refine ⟨wy,_,_,rfl,rfl,B8.ew,by rw [List.length_map];lia,?_⟩;have B9:=B8.add hwy hne ⟨e8,GJ (s7.trans s8) _ _ e6,GJ S8 _ _ er5,GJ s8 _ _ e7⟩ (R.way h1 h2 pm so);exact J _ _ ⟨_,rfl,B9,by rw [YQ];exact GJ S8 _ _ er5,by rw [YQ];exact GJ S8 _ _ eD5,by rw [List.length_append];exact Nat.le_refl _⟩
    ·intro J;refine ⟨_,rfl,_,rfl,_,rfl,r,_,rfl,SqL.of (J0 er4),λp2 hp2=>?_⟩;rw [ec];have s5:Same H4' (upd H4' p2 (.lst ((ns.drop 1).map V.int))):=Same.new hp2;have e5:upd H4' p2 (.lst ((ns.drop 1).map V.int)) p2=some (.lst ((ns.drop 1).map V.int)):=Gb;generalize upd H4' p2 (.lst ((ns.drop 1).map V.int))=H5 at s5 e5 ⊢;have er5:=s5 _ _ (J0 er4);have ed5:=s5 _ _ B4.d;refine ⟨r,p2,_,_,rfl,SqL.of er5,SqL.of e5,λD hD=>?_⟩;refine Yt (t:=false) (K:=K) (a:=r) (b:=p2) (xs:=ns.map V.int) (ys:=(ns.drop 1).map V.int) (λi ys H6=>Same H5 H6/\H6 D=some (.lst ys)/\ys=(((ns.zip (ns.drop 1)).take i).map (Oz rs)).map V.int) ⟨Same.new hD,Gb,rfl⟩ (λi ys H6 _ ⟨s6,_⟩=>⟨SqL.of (s6 _ _ er5),SqL.of (s6 _ _ e5)⟩) (by rw [List.length_map,List.length_map,List.length_drop];lia) ?_ ?_
     ·rintro i x y ys H6 T hx hy ⟨s6,hD6,rfl⟩ hT;obtain ⟨n,rfl,hn⟩:=Zfy hx;obtain ⟨m,rfl,hm'⟩:=Zfy hy;have hz:(ns.zip (ns.drop 1))[i]?=some (n,m):=List.getElem?_zip_eq_some.mpr ⟨hn,hm'⟩;have a:Adj rs n m:=R.o.1 (n,m) (by unfold Gm;exact List.mem_append_left _ (List.mem_of_getElem? hz));have s7:Same H6 (upd H6 T (.tup [.int n,.int m])):=Same.new hT;have eT:upd H6 T (.tup [.int n,.int m]) T=some (.tup [.int n,.int m]):=Gb;generalize upd H6 T (.tup [.int n,.int m])=H7 at s7 eT ⊢;refine ⟨T,_,rfl,SqT.of eT,rfl,_,_,rfl,_,_,rfl,rfl,⟨rfl,trivial⟩,?_⟩;unfold UR;refine Jg ?_;refine ⟨_,rfl,_,rfl,_,rfl,_,_,rfl,_,rfl,_,rfl,_,_,rfl,Jr,λt ht=>?_⟩;have s8:Same H7 (upd H7 t (.tup [.int (Jo n m).1,.int (Jo n m).2])):=Same.new ht;have dg:DGet (upd H7 t (.tup [.int (Jo n m).1,.int (Jo n m).2])) nm (.ref t) (some (.int (Oz rs (n,m)))):=by
       have:=DGet.t (k:=ky (Jo n m).1 (Jo n m).2) (s8 _ _ (s7 _ _ (s6 _ _ ed5))) Gb;rw [val,WU g a] at this;exact this
      refine ⟨nm,_,rfl,dg,s8 _ _ (s7 _ _ hD6),?_,((s6.trans s7).trans s8).put hD,Gb,?_⟩
      ·rw [List.length_map,List.length_map,List.length_take,List.length_zip]
       lia
      ·rw [List.take_add_one,hz,List.map_append,List.map_append]
       rfl
     ·rintro ys H6 ⟨s6,hD6,rfl⟩;refine J _ _ ⟨D,rfl,s5.trans s6,?_⟩;rw [Wf hD6 (Gn (s5 _ _ B4.er) hD).symm (Gn (s5 _ _ B4.ew) hD).symm];unfold Gm;rw [if_neg Bool.false_ne_true,List.append_nil,List.length_map,List.take_of_length_le (by rw [List.length_zip];lia)]
  ·intro J;refine ⟨_,rfl,wb,_,_,_,rfl,rfl,SqT.of W2.w,Ge (j:=0) rfl,_,rfl,by lia,by lia,λrw0 hrw=>?_⟩;refine Jw (lo:=0) (n:=k.toNat) (λj ys H3=>Same H2 H3/\H3 rw0=some (.lst ys)/\∃zs:List (Addr×List Int),ys=zs.map (λz=>V.ref z.1)/\zs.length=j/\∀z∈zs,H3 z.1=some (.lst (z.2.map V.int))/\z.1≠rw0/\RwK k rs z.2/\z.2.length=1) ⟨Same.new hrw,Gb,[],rfl,rfl,λz hz=>(by cases hz)⟩ ?_ ?_
   ·rintro j ys H3 hj ⟨s3,e3,zs,rfl,hl,hz⟩;rw [Int.zero_add];refine ⟨trivial,?_⟩;unfold UR;refine Jg ?_;refine ⟨_,rfl,(by show 1<=sizeLine;lia),λp hp=>?_⟩;have np:rw0≠p:=Gn e3 hp;have s4:Same H3 (upd H3 p (.lst [.int (j:Int)])):=Same.new hp;refine ⟨s4 _ _ e3,by rw [List.length_map];lia,(s3.trans s4).put hrw,Gb,zs++[(p,[(j:Int)])],by rw [List.map_append];rfl,by rw [List.length_append,hl];rfl,λz h=>?_⟩;rcases List.mem_append.mp h with h | h
    ·obtain ⟨a,b,c⟩:=hz z h;exact ⟨G0 (s4 _ _ a) b,b,c⟩
    ·rw [List.mem_singleton.mp h];exact ⟨G0 Gb np.symm,np.symm,RwK.one (by lia),rfl⟩
   ·rintro ys H3 ⟨s3,e3,zs,rfl,hl,hz⟩;exact J _ _ ⟨rw0,zs,rfl,s3,hrw,e3,hl,hz⟩
 ·intro J;refine ⟨_,rfl,wb,_,_,_,rfl,rfl,SqT.of (s1 _ _ W.w),Ge (j:=1) rfl,l,_,rfl,.inl (SqL.of (s1 _ _ W.l)),_,rfl,by lia,by lia,?_⟩;rw [Int.toNat_natCast,hxl];refine JG (lo:=0) (n:=rs.length) (λi σ' H'=>∃(v2:Option V)(kvs:List (List Key×V)),σ'=[some (.ref wb),some (.ref nm),v2,none,none,none,none,none]/\Same H H'/\H' nm=some (.dT kvs)/\kvs.length<=i/\∀p q,OT kvs (ky p q)=Zah rs p q i) ⟨none,[],rfl,s1,e1,Nat.le_refl _,λ_ _=>rfl⟩ ?_ ?_
  ·rintro i σ' H' hi ⟨v2,kvs,rfl,s2,e2,hl,val⟩;rw [Int.zero_add];have W2:=W.same s2;obtain ⟨x,hxi⟩:∃x,xs[i]?=some x:=⟨_,List.getElem?_eq_getElem (by lia)⟩;obtain ⟨t,r,rfl,et,er⟩:=W2.p.get hxi;refine ⟨_,rfl,_,rfl,_,rfl,wb,_,_,_,rfl,rfl,SqT.of W2.w,Ge (j:=1) rfl,_,rfl,l,_,_,_,rfl,rfl,SqL.of W2.l,Ge (j:=i) hxi,nm,_,rfl,DPut.t (k:=ky r.1 r.2) e2 et (by lia),?_⟩;have hl1:=JQ kvs (ky r.1 r.2) (.int (i:Nat));refine ⟨_,_,rfl,s2.put hnm,Gb,by lia,λp q=>?_⟩;rw [U8,val p q];have e:rs.getD i (0,0)=r:=by rw [List.getD_eq_getElem?_getD,er];rfl
   show _=if rs.getD i (0,0)=(p,q) then some (V.int (i:Nat)) else Zah rs p q i
   rw [e];by_cases h2:p=r.1/\q=r.2
   ·rw [if_pos (ky_inj.mpr h2),if_pos (by rw [h2.1,h2.2])]
   ·rw [if_neg λz=>h2 (ky_inj.mp z),if_neg λz=>h2 (by rw [z];exact ⟨rfl,rfl⟩)]
  ·rintro σ' H' ⟨v2,kvs,rfl,s2,e2,hl,val⟩;exact J _ _ ⟨v2,kvs,rfl,s2,e2,val⟩
end
end M
namespace M
open PySem L2
section
variable {P:Program}{w:World}{K:W.Frag}{mg:Str->Option Value}{base:Heap}
theorem Vn {p:Nat}{a:Int}(h:a.natAbs<2 ^ p:=by decide +kernel):Lt2 p a:=h
theorem GW {ns:List Int}{i:Int}(h0:0<=i)(h1:i<ns.length):atI (ns.map V.int) i=some (.int (ns.getD i.toNat 0)):=by
 obtain ⟨k,rfl⟩:=Int.eq_ofNat_of_zero_le h0;have hk:k<ns.length:=by lia
 refine Ge ?_;show (ns.map V.int)[k]?=some (.int (ns.getD k 0));rw [List.getElem?_map,List.getD_eq_getElem?_getD,List.getElem?_eq_getElem hk]
 rfl
def Zd0 (K:W.Frag):Sp:=λvs H Q _=>∃(a:Addr)(ns:List Int)(k:Nat),vs=[.ref a,.int (k:Int)]/\SqL K H a (ns.map V.int)/\∀z:Int,Q (.int z) H
theorem Zfa:Gv ["script", "k"] ["script", "k"] (Gg ZbF):=⟨rfl,rfl,rfl,by decide +kernel,rfl,by decide +kernel,by decide +kernel⟩
theorem Zd1 {f:Addr}{fd:FuncData}(F:Fun K "_law_cell_at" "_law_cell_at" ZbF f fd)(mLen:mg "len" = none):GS P w K mg base CX0 1 f fd ["script", "k"] (Zd0 K):=by
 refine F.ok Zfa (λvs H Q E h=>?_) (λcdv A outer s H vs Q E hr h=>?_)
 ·obtain ⟨_,_,_,rfl,_⟩:=h
  rfl
 ·obtain ⟨a,ns,k,rfl,hS,q⟩:=h;refine ⟨_,Gh (Jj (Gp U2 (pv 1) (Gk (O5 K) rfl mLen PySem.boot_len (Ga (pv 0) Gf)) (Gx _)) (Gi (Gw (Gj (Jt K) (pv 0) (pv 1) (λ_ _=>rfl)))) GF)
    (Gi (Gw Gc)),?_⟩
  refine ⟨_,rfl,_,rfl,a,_,rfl,.inl hS,_,_,rfl,rfl,_,rfl,?_⟩;rw [List.length_map];refine O4 (λz=>?_) (λ_=>q 0);have z':=of_decide_eq_true z;exact ⟨_,rfl,_,rfl,a,_,_,_,rfl,rfl,hS,GW (by lia) z',q _⟩
def Zb7:Sp:=λvs H Q _=>∃(c:Int)(m:Nat),vs=[.int c,.int (m:Int)]/\m<=50/\∀(l:Addr)(row:List Int)(H':Hp),Same H H'->H' l=some (.lst (row.map V.int))->row.length=m->Q (.ref l) H'
theorem scNum:Gv ["cell", "many", "found", "rest", "stir", "k", "again"] ["cell", "many"] (Gg ZaI):=⟨rfl,rfl,rfl,by decide +kernel,rfl,by decide +kernel,by decide +kernel⟩
theorem Zd2 {f:Addr}{fd:FuncData}(F:Fun K "_law_numbers" "_law_numbers" ZaI f fd)(mRange:mg "range" = none):GS P w K mg base CX0 1 f fd ["cell", "many"] Zb7:=by
 refine F.ok scNum (λvs H Q E h=>?_) (λcdv A outer s H vs Q E hr h=>?_)
 ·obtain ⟨_,_,rfl,_⟩:=h
  rfl
 ·obtain ⟨c,m,rfl,hm,q⟩:=h;have h16:(16777216:Nat)=sizeLine:=sizeLine_eq.symm;refine ⟨_,Gh (GE (i:=2) scNum.nd rfl (Or.inl rfl) (G8 Gf))
    (Gh (GE (i:=3) scNum.nd rfl (Or.inl rfl) (pv 0))
    (Gh (GE (i:=4) scNum.nd rfl (Or.inl rfl) (GB G4 (pv 0) Gc))
    (Gh (J1 PassesOwn.never rfl (Jn rfl mRange (Ga (pv 1) Gf)) (Gy (i:=5) scNum.nd rfl (Or.inl rfl))
    (Gi (Jj (PW.pt (Ox (Gp Zew (pv 0) (GB Zcy Gc Gc) (Gx _)) (Od (Gp Xd (pv 3) Gc (Gx _))))) (Gh (Ji (Ou PySem.F.plainAttrs_list PySem.F.slot_list_append PySem.F.type_list_append G9 (pv 2) (Ga (GB G4 (pv 3) Gc) Gf)))
    (Gi (GE (i:=3) scNum.nd rfl (Or.inl rfl) (GB U6 (pv 3) Gc)))) (Gh (GE (i:=4) scNum.nd rfl (Or.inl rfl) (GB G4 (GB JN (GB Jp (GB Jp (pv 4) (GB JN Gc (pv 5))) Gc) Gc) Gc))
    (Gh (GE (i:=6) scNum.nd rfl (Or.inl rfl) (GB G4 (GB JN (GB G4 (GB JN (pv 4) (pv 4)) Gc) Gc) Gc))
    (Gi (Ji (Ou PySem.F.plainAttrs_list PySem.F.slot_list_append PySem.F.type_list_append G9 (pv 2) (Ga (GB G4 (GB U6 (pv 6) Gc) Gc) Gf)))))))))
    (Gi (Gw (pv 2)))))),?_⟩
  refine ⟨Nat.zero_le _,λl hl=>?_⟩;refine ⟨_,rfl,?_⟩;refine ⟨_,rfl,_,_,rfl,rfl,(by show (0:Int)<2147483647;decide),?_⟩;refine ⟨_,rfl,_,rfl,by lia,by lia,?_⟩;rw [Int.toNat_natCast];refine JG (lo:=0) (n:=m) (λi σ H2=>∃(row:List Int)(r st:Int)(v5 v6:Option V),σ=[some (.int c),some (.int (m:Int)),some (.ref l),some (.int r),some (.int st),v5,v6]/\Same H H2/\H2 l=some (.lst (row.map V.int))/\row.length=i) ⟨[],_,_,none,none,rfl,Same.new hl,Gb,rfl⟩ ?_ ?_
  ·rintro i σ H2 hi ⟨row,r,st,v5,v6,rfl,s2,e2,rl⟩;rw [Int.zero_add];refine ⟨_,rfl,_,_,rfl,rfl,⟨by decide,by decide,by decide⟩,_,_,rfl,rfl,_,rfl,O4 (λ_=>?_) (λ_=>?_)⟩
   ·refine ⟨_,rfl,_,_,rfl,rfl,_,rfl,O4 (λ_=>?_) (λ_=>?_)⟩
    ·refine ⟨_,rfl,.inl ⟨rfl,_,SqL.of e2⟩,_,rfl,_,_,rfl,rfl,(by show (0:Int)<64;decide),l,_,_,rfl,rfl,e2,by rw [List.length_map];lia,?_⟩;refine ⟨_,rfl,_,_,rfl,rfl,⟨by decide,Vn⟩,?_⟩;exact ⟨row++[_],_,_,_,_,rfl,s2.put hl,by rw [Gb,List.map_append];rfl,by rw [List.length_append,List.length_singleton,rl]⟩
    ·refine ⟨_,rfl,_,rfl,_,_,rfl,rfl,.inl ⟨by decide,by decide⟩,_,_,rfl,rfl,_,_,rfl,rfl,_,_,rfl,rfl,.inr ⟨by decide,by decide⟩,_,_,rfl,rfl,(by show (0:Int)<2147483647;decide),?_⟩;refine ⟨_,rfl,_,rfl,_,_,rfl,rfl,.inl ⟨by lia,by lia⟩,_,_,rfl,rfl,(by show (0:Int)<2147483629;decide),_,_,rfl,rfl,.inr ⟨by decide,by decide⟩,_,_,rfl,rfl,(by show (0:Int)<2147483587;decide),?_⟩;refine ⟨_,rfl,.inl ⟨rfl,_,SqL.of e2⟩,_,rfl,_,_,rfl,rfl,⟨by decide,Vn⟩,_,_,rfl,rfl,(by show (0:Int)<720720;decide),l,_,_,rfl,rfl,e2,by rw [List.length_map];lia,?_⟩;exact ⟨row++[_],_,_,_,_,rfl,s2.put hl,by rw [Gb,List.map_append];rfl,by rw [List.length_append,List.length_singleton,rl]⟩
   ·refine GG ?_;refine ⟨_,rfl,_,rfl,_,_,rfl,rfl,.inl ⟨by decide,by decide⟩,_,_,rfl,rfl,_,_,rfl,rfl,_,_,rfl,rfl,.inr ⟨by decide,by decide⟩,_,_,rfl,rfl,(by show (0:Int)<2147483647;decide),?_⟩;refine ⟨_,rfl,_,rfl,_,_,rfl,rfl,.inl ⟨by lia,by lia⟩,_,_,rfl,rfl,(by show (0:Int)<2147483629;decide),_,_,rfl,rfl,.inr ⟨by decide,by decide⟩,_,_,rfl,rfl,(by show (0:Int)<2147483587;decide),?_⟩;refine ⟨_,rfl,.inl ⟨rfl,_,SqL.of e2⟩,_,rfl,_,_,rfl,rfl,⟨by decide,Vn⟩,_,_,rfl,rfl,(by show (0:Int)<720720;decide),l,_,_,rfl,rfl,e2,by rw [List.length_map];lia,?_⟩;exact ⟨row++[_],_,_,_,_,rfl,s2.put hl,by rw [Gb,List.map_append];rfl,by rw [List.length_append,List.length_singleton,rl]⟩
  ·rintro σ H2 ⟨row,r,st,v5,v6,rfl,s2,e2,rl⟩;exact ⟨_,rfl,q l row H2 s2 e2 rl⟩
theorem YZ (ws:List Str){j:Int}(h0:0<=j)(h1:j<ws.length):∃wd∈ws,atI (ws.map V.str) j=some (.str wd):=by
 obtain ⟨k,rfl⟩:=Int.eq_ofNat_of_zero_le h0;have hk:k<ws.length:=by lia
 refine ⟨ws[k],List.getElem_mem hk,Ge ?_⟩;show (ws.map V.str)[k]?=some (.str ws[k]);rw [List.getElem?_map,List.getElem?_eq_getElem hk]
 rfl
theorem Y0 (ns:List Int){j:Int}(h0:0<=j)(h1:j<ns.length):∃z∈ns,atI (ns.map V.int) j=some (.int z):=by
 obtain ⟨k,rfl⟩:=Int.eq_ofNat_of_zero_le h0;have hk:k<ns.length:=by lia
 refine ⟨ns[k],List.getElem_mem hk,Ge ?_⟩;show (ns.map V.int)[k]?=some (.int ns[k]);rw [List.getElem?_map,List.getElem?_eq_getElem hk]
 rfl
end
end M
namespace M
open PySem L2
theorem OR (H:Hp):∀ms:List Int,Ths H (ms.map V.int) (ms.map PyData.int)
 | []=>.nil
 | m::ms=>.cons (.int m) (OR H ms)
def tenW:List Str:=["open", "closed", "with", "off", "over", "past", "long", "shy", "all", "open"]
theorem OS {wd:Str}(h:wd∈Ut){ms:List Int}(hm:∀m∈ms,0<=m/\m<=9999):Jq wd [.tuple (ms.map .int)]=true:=by
 have no:∀w∈Ut,w ∉ OW/\w ∉ O8:=by decide +kernel
 unfold Jq;rw [if_neg (no wd h).1,if_neg (no wd h).2,if_pos h];show (ms.map PyData.int).all U9=true;rw [List.all_map,List.all_eq_true];intro m hm';have:=hm m hm';simp [U9,this.1,this.2]
theorem UK {wd:Str}(h:wd∈O8){a b:Int}(ha:0<=a/\a<=9999)(hb:0<=b/\b<=9999):Jq wd [.int a,.int b]=true:=by
 have no:∀w∈O8,w ∉ OW:=by decide +kernel
 unfold Jq;rw [if_neg (no wd h),if_pos h];simp [U9,ha.1,ha.2,hb.1,hb.2]
theorem Y1 {wd:Str}(h:wd∈OW):Jq wd []=true:=by
 unfold Jq;rw [if_pos h]
 rfl
theorem VW {k:Int}{n:Nat}{wd:Str}{rest:List PyData}(h:wd∈OW\/wd = "long"):UG k n wd rest:=by
 have no:∀w∈(["closed", "shy", "all", "long"]:List Str),w ≠ "open" /\ w ≠ "with" /\ w ≠ "off" /\ w ≠ "over" /\ w ≠ "past" := by decide +kernel
 have hw:wd∈(["closed", "shy", "all", "long"]:List Str):=by
  rcases h with h | h
  ·have:∀w∈OW,w∈(["closed", "shy", "all", "long"]:List Str):=by decide +kernel
   exact this wd h
  ·rw [h];decide +kernel
 obtain ⟨a,b,c,d,e⟩:=no wd hw;exact ⟨λz=>absurd z a,λz=>by rcases z with z | z;exact absurd z b;exact absurd z c,λz=>by rcases z with z | z;exact absurd z d;exact absurd z e⟩
theorem WX {k s u:Int}(h1:1<k)(hs:0<=s/\s<k)(hu:0<=u/\u<k-1):Ends k s ((s+1+u) % k):=by
 have z0:=Int.emod_nonneg (s+1+u) (show k≠0 by lia);have z1:=Int.emod_lt_of_pos (s+1+u) (show 0<k by lia);refine ⟨hs,⟨z0,z1⟩,λz=>?_⟩;by_cases c:s+1+u<k
 ·rw [Int.emod_eq_of_lt (by lia) c] at z
  lia
 ·have:(s+1+u) % k=s+1+u-k:=by
   rw [<-Int.sub_emod_right,Int.emod_eq_of_lt (by lia) (by lia)]
  lia
section
variable {P:Program}{w:World}{K:W.Frag}{mg:Str->Option Value}{base:Heap}
def Zd3:Sp:=λvs H Q _=>∃(wb l xl:Addr)(k:Int)(xs:List V)(rs:List (Int×Int))(row:List Int),vs=[.ref wb,.ref xl]/\WebAt H wb l k xs rs/\Gz k rs/\H xl=some (.lst (row.map V.int))/\5<=row.length/\∀(v:V)(wd:Str)(rest:List PyData)(H':Hp),Same H H'->Th H' v (.tuple (.str wd::rest))->Jq wd rest=true->UG k rs.length wd rest->Q v H'
theorem scPln:Gv ["web", "xs", "word", "s"] ["web", "xs"] (Gg ZbI):=⟨rfl,rfl,rfl,by decide +kernel,rfl,by decide +kernel,by decide +kernel⟩
theorem Zd4 {f:Addr}{fd:FuncData}(F:Fun K "_law_plain" "_law_plain" ZbI f fd)(mLen:mg "len" = none)(mRange:mg "range" = none)(mTup:mg "tuple" = none)(mMin:mg "min" = none)(mMax:mg "max" = none):GS P w K mg base CX0 1 f fd ["web", "xs"] Zd3:=by
 refine F.ok scPln (λvs H Q E h=>?_) (λcdv A outer s H vs Q E hr h=>?_)
 ·obtain ⟨_,_,_,_,_,_,_,rfl,_⟩:=h
  rfl
 obtain ⟨wb,l,xl,k,xs,rs,row,rfl,Wb,gw,exl,hrow,q⟩:=h;have h16:(16777216:Nat)=sizeLine:=sizeLine_eq.symm;have hxl:=Wb.p.len;have k1:=gw.1;have k16:=gw.2.1;have r30:=gw.2.2.1;refine ⟨_,(@Gh _ _ _ _ _ (@GE _ _ 2 _ _ _ _ scPln.nd rfl (Or.inl rfl) (@Gj _ _ _ _ _ _ _ (Jt K) (@G8 _ _ _ _ (@Ga _ _ _ _ _ GQ (@Ga _ _ _ _ _ GQ (@Ga _ _ _ _ _ GQ (@Ga _ _ _ _ _ GQ (@Ga _ _ _ _ _ GQ (@Ga _ _ _ _ _ GQ (@Ga _ _ _ _ _ GQ (@Ga _ _ _ _ _ GQ (@Ga _ _ _ _ _ GQ (@Ga _ _ _ _ _ GQ Gf rfl) rfl) rfl) rfl) rfl) rfl) rfl) rfl) rfl) rfl)) (@GB _ _ _ _ _ _ _ _ G4 (@Gj _ _ _ _ _ _ _ (Jt K) (pv 1) Gc (λ_ _=>rfl)) Gc) (λ_ _=>rfl)) rfl (by first | exact .inl rfl | exact .inr rfl))
    (@Gh _ _ _ _ _ (@Jj _ _ _ _ _ _ _ _ (PW.pt (Ox (Gp Jv (pv 2) GQ (Gx _)) (Od (Gp Xd (@Gj _ _ _ _ _ _ _ (Je K) (pv 0) Gc (λ_ _=>rfl)) Gc (Gx _))))) (@Gh _ _ _ _ _ (@GE _ _ 3 _ _ _ _ scPln.nd rfl (Or.inl rfl) (@GB _ _ _ _ _ _ _ _ G4 (@Gj _ _ _ _ _ _ _ (Jt K) (pv 1) Gc (λ_ _=>rfl)) (@Gj _ _ _ _ _ _ _ (Je K) (pv 0) Gc (λ_ _=>rfl))) rfl (by first | exact .inl rfl | exact .inr rfl))
    (@Gi _ _ _ (@Gw _ _ _ _ (@Jf _ _ _ _ _ (@Ga _ _ _ _ _ GQ (@Ga _ _ _ _ _ (pv 3) (@Ga _ _ _ _ _ (@GB _ _ _ _ _ _ _ _ G4 (@GB _ _ _ _ _ _ _ _ Jp (@GB _ _ _ _ _ _ _ _ Jp (pv 3) Gc) (@GB _ _ _ _ _ _ _ _ G4 (@Gj _ _ _ _ _ _ _ (Jt K) (pv 1) Gc (λ_ _=>rfl)) (@GB _ _ _ _ _ _ _ _ Vs (@Gj _ _ _ _ _ _ _ (Je K) (pv 0) Gc (λ_ _=>rfl)) Gc))) (@Gj _ _ _ _ _ _ _ (Je K) (pv 0) Gc (λ_ _=>rfl))) Gf rfl) rfl) rfl))))) GF)
    (@Gh _ _ _ _ _ (@Jj _ _ _ _ _ _ _ _ (Gp Jv (pv 2) GQ (Gx _)) (@Gi _ _ _ (@Gw _ _ _ _ (@Jf _ _ _ _ _ (@Ga _ _ _ _ _ GQ (@Ga _ _ _ _ _ (@GB _ _ _ _ _ _ _ _ G4 (@Gj _ _ _ _ _ _ _ (Jt K) (pv 1) Gc (λ_ _=>rfl)) Gc) (@Ga _ _ _ _ _ (@Gj _ _ _ _ _ _ _ (Jt K) (@G8 _ _ _ _ (@Ga _ _ _ _ _ (@GB _ _ _ _ _ _ _ _ G4 (@Gj _ _ _ _ _ _ _ (Jt K) (pv 1) Gc (λ_ _=>rfl)) Gc) (@Ga _ _ _ _ _ (@GB _ _ _ _ _ _ _ _ G4 (@Gj _ _ _ _ _ _ _ (Jt K) (pv 1) Gc (λ_ _=>rfl)) Gc) (@Ga _ _ _ _ _ (@GB _ _ _ _ _ _ _ _ G4 (@GB _ _ _ _ _ _ _ _ JN Gc (@Gj _ _ _ _ _ _ _ (Jt K) (pv 1) Gc (λ_ _=>rfl))) Gc) (@Ga _ _ _ _ _ Gc Gf rfl) rfl) rfl) rfl)) (@GB _ _ _ _ _ _ _ _ G4 (@Gj _ _ _ _ _ _ _ (Jt K) (pv 1) Gc (λ_ _=>rfl)) Gc) (λ_ _=>rfl)) Gf rfl) rfl) rfl)))) GF)
    (@Gh _ _ _ _ _ (@Jj _ _ _ _ _ _ _ _ (PW.pt (OU (Gp Jv (pv 2) GQ (Gx _)) (Ow (Gp Jv (pv 2) GQ (Gx _))))) (@Gi _ _ _ (@Gw _ _ _ _ (@Jf _ _ _ _ _ (@Ga _ _ _ _ _ (pv 2) (@Ga _ _ _ _ _ (Jx (ZaB K) rfl mTup UV (@Ga _ _ _ _ _ (Jl (own:=["j"]) rfl (Gr (fr:=[("web", 0),("xs", 1)]) [(".0", .local),("j", .local),("max", .globalImplicit),("len", .globalImplicit),("web", .cell),("xs", .cell)] rfl rfl (by decide +kernel) rfl (by decide +kernel) ⟨rfl,rfl,trivial⟩ ⟨λh=>GT h,λh=>GT h,λh=>GT h,λh=>GT h,λ_=>⟨_,rfl⟩,λ_=>⟨_,rfl⟩,trivial⟩ ⟨⟨rfl,.inl rfl,.inl rfl⟩,⟨rfl,.inl rfl,.inl rfl⟩,trivial⟩) (Jn rfl mRange (@Ga _ _ _ _ _ (@GB _ _ _ _ _ _ _ _ JN (@GB _ _ _ _ _ _ _ _ G4 (@Gj _ _ _ _ _ _ _ (Jt K) (pv 1) Gc (λ_ _=>rfl)) Gc) (Gk (OG rfl) rfl mMin Ub (@Ga _ _ _ _ _ Gc (@Ga _ _ _ _ _ (Gk (O5 K) rfl mLen PySem.boot_len (@Ga _ _ _ _ _ (@Gj _ _ _ _ _ _ _ (Je K) (pv 0) Gc (λ_ _=>rfl)) Gf rfl)) Gf rfl) rfl))) Gf rfl)) (λ_ _ _ _=>Gy (i:=0) (show List.Nodup (["j", "web", "xs"]:List Str) by decide +kernel) rfl (Or.inl rfl)) (λ_ _ _ _=>Ja) (λ_ _ _ _=>@GB _ _ _ _ _ _ _ _ G4 (@Gj _ _ _ _ _ _ _ (Jt K) (pv 2) (@GB _ _ _ _ _ _ _ _ Jp Gc (pv 0)) (λ_ _=>rfl)) (Gk (Og rfl) rfl mMax OO (@Ga _ _ _ _ _ Gc (@Ga _ _ _ _ _ (Gk (O5 K) rfl mLen PySem.boot_len (@Ga _ _ _ _ _ (@Gj _ _ _ _ _ _ _ (Je K) (pv 1) Gc (λ_ _=>rfl)) Gf rfl)) Gf rfl) rfl)))) Gf rfl)) Gf rfl) rfl)))) GF)
    (@Gh _ _ _ _ _ (@Jj _ _ _ _ _ _ _ _ (PW.pt (OU (Gp Jv (pv 2) GQ (Gx _)) (Ow (Gp Jv (pv 2) GQ (Gx _))))) (@Gi _ _ _ (@Gw _ _ _ _ (@Jf _ _ _ _ _ (@Ga _ _ _ _ _ (pv 2) (@Ga _ _ _ _ _ (Jx (ZaB K) rfl mTup UV (@Ga _ _ _ _ _ (Jl (own:=["j"]) rfl (Gr (fr:=[("web", 0),("xs", 1)]) [(".0", .local),("j", .local),("web", .cell),("xs", .cell)] rfl rfl (by decide +kernel) rfl (by decide +kernel) ⟨rfl,rfl,trivial⟩ ⟨λh=>GT h,λh=>GT h,λ_=>⟨_,rfl⟩,λ_=>⟨_,rfl⟩,trivial⟩ ⟨⟨rfl,.inl rfl,.inl rfl⟩,⟨rfl,.inl rfl,.inl rfl⟩,trivial⟩) (Jn rfl mRange (@Ga _ _ _ _ _ (@GB _ _ _ _ _ _ _ _ G4 (@Gj _ _ _ _ _ _ _ (Jt K) (pv 1) Gc (λ_ _=>rfl)) Gc) Gf rfl)) (λ_ _ _ _=>Gy (i:=0) (show List.Nodup (["j", "web", "xs"]:List Str) by decide +kernel) rfl (Or.inl rfl)) (λ_ _ _ _=>Ja) (λ_ _ _ _=>@GB _ _ _ _ _ _ _ _ G4 (@Gj _ _ _ _ _ _ _ (Jt K) (pv 2) (@GB _ _ _ _ _ _ _ _ Jp Gc (pv 0)) (λ_ _=>rfl)) (@Gj _ _ _ _ _ _ _ (Je K) (pv 1) Gc (λ_ _=>rfl)))) Gf rfl)) Gf rfl) rfl)))) GF)
    (@Gh _ _ _ _ _ (@Jj _ _ _ _ _ _ _ _ (Gp Jv (pv 2) GQ (Gx _)) (@Gi _ _ _ (@Gw _ _ _ _ (@Jf _ _ _ _ _ (@Ga _ _ _ _ _ GQ Gf rfl)))) GF)
    (@Gi _ _ _ (@Gw _ _ _ _ (@Jf _ _ _ _ _ (@Ga _ _ _ _ _ (pv 2) Gf rfl)))))))))),?_⟩
 have hm:∀(i:Nat)(m:Int),0<m->0<=row.getD i 0 % m/\row.getD i 0 % m<m:=λi m h=>⟨Int.emod_nonneg _ (by lia),Int.emod_lt_of_pos _ h⟩;refine ⟨(by show 10<=sizeLine;lia),λp hp=>?_⟩;have s1:Same H (upd H p (.lst [.str "open", .str "closed", .str "with", .str "off", .str "over", .str "past", .str "long", .str "shy", .str "all", .str "open"])):=Same.new hp;obtain ⟨wd,hwd,ewd⟩:=YZ tenW (j:=row.getD (0:Int).toNat 0 % 10) (Int.emod_nonneg _ (by decide)) (Int.emod_lt_of_pos _ (by decide));refine ⟨_,rfl,xl,_,_,_,rfl,rfl,SqL.of (s1 _ _ exl),GW (by decide) (by lia),_,_,rfl,rfl,(by show (0:Int)<10;decide),p,_,_,_,rfl,rfl,SqL.of (xs:=tenW.map V.str) Gb,ewd,?_⟩;have exl1:=s1 _ _ exl;have W1:=Wb.same s1;generalize upd H p (.lst [.str "open", .str "closed", .str "with", .str "off", .str "over", .str "past", .str "long", .str "shy", .str "all", .str "open"])=H1 at s1 exl1 W1 ⊢;have bare:∀z∈OW,∀H2,Same H H2->∀t,H2 t=none->Q (.ref t) (upd H2 t (.tup [.str z])):=λz hz H2 s2 t ht=>q _ z [] _ (s2.trans (Same.new ht)) (.tup Gb (by simp) (.cons (.str _) .nil)) (Y1 hz) (VW (.inl hz));unfold tenW at hwd;simp only [List.mem_cons,List.not_mem_nil,or_false] at hwd;rcases hwd with rfl | rfl | rfl | rfl | rfl | rfl | rfl | rfl | rfl | rfl
 ·refine ⟨_,rfl,rfl,_,rfl,Jg ?_⟩;refine ⟨_,rfl,wb,_,_,_,rfl,rfl,SqT.of W1.w,Ge (j:=0) rfl,_,_,rfl,rfl,_,rfl,?_⟩;by_cases h1:1<k
  ·rw [decide_eq_true (show k > 1 from h1)];refine Jg ?_;have z1:=hm (1:Int).toNat k (by lia);have z2:=hm (2:Int).toNat (k-1) (by lia);refine ⟨_,rfl,xl,_,_,_,rfl,rfl,SqL.of exl1,GW (by decide) (by lia),_,rfl,wb,_,_,_,rfl,rfl,SqT.of W1.w,Ge (j:=0) rfl,_,_,rfl,rfl,(by show (0:Int)<k;lia),?_⟩;dsimp only [Jm];refine ⟨_,rfl,_,rfl,_,_,rfl,rfl,_,rfl,xl,_,_,_,rfl,rfl,SqL.of exl1,GW (by decide) (by lia),_,rfl,wb,_,_,_,rfl,rfl,SqT.of W1.w,Ge (j:=0) rfl,_,_,rfl,rfl,_,_,rfl,rfl,(by show (0:Int)<k-1;lia),_,_,rfl,rfl,_,rfl,wb,_,_,_,rfl,rfl,SqT.of W1.w,Ge (j:=0) rfl,_,_,rfl,rfl,(by show (0:Int)<k;lia),(by show 3<=sizeLine;lia),λt ht=>?_⟩;have En:=WX h1 z1 z2;have E1:=En.1;have E2:=En.2.1;refine q _ "open" [.int _,.int _] _ (s1.trans (Same.new ht)) (.tup Gb (by simp) (.cons (.str _) (.cons (.int _) (.cons (.int _) .nil)))) (UK (by decide +kernel) ⟨E1.1,by lia⟩ ⟨E2.1,by lia⟩) ⟨λ_=>⟨_,_,rfl,En⟩,λz=>?_,λz=>?_⟩
   ·rcases z with z | z <;> exact absurd z (by decide +kernel)
   ·rcases z with z | z <;> exact absurd z (by decide +kernel)
  ·rw [decide_eq_false (show ¬ k > 1 from h1)];refine GG ?_;refine ⟨_,rfl,rfl,_,rfl,GG ?_⟩;refine ⟨_,rfl,rfl,_,rfl,GG ?_⟩;refine ⟨_,rfl,rfl,_,rfl,GG ?_⟩;refine ⟨_,rfl,rfl,_,rfl,GG ?_⟩;refine ⟨_,rfl,rfl,_,rfl,GG ?_⟩;refine ⟨_,rfl,rfl,_,rfl,Jg ?_⟩;exact ⟨(by show 1<=sizeLine;lia),λt ht=>bare "closed" (by decide +kernel) _ s1 t ht⟩
 ·refine ⟨_,rfl,rfl,_,rfl,GG (GG ?_)⟩;refine ⟨_,rfl,rfl,_,rfl,GG ?_⟩;refine ⟨_,rfl,rfl,_,rfl,GG ?_⟩;refine ⟨_,rfl,rfl,_,rfl,GG ?_⟩;refine ⟨_,rfl,rfl,_,rfl,GG ?_⟩;refine ⟨_,rfl,rfl,_,rfl,GG ?_⟩;refine ⟨_,rfl,rfl,_,rfl,GG ?_⟩;exact ⟨_,rfl,(by show 1<=sizeLine;lia),λt ht=>bare "closed" (by decide +kernel) _ s1 t ht⟩
 ·refine ⟨_,rfl,rfl,_,rfl,GG (GG ?_)⟩;refine ⟨_,rfl,rfl,_,rfl,GG ?_⟩;refine ⟨_,rfl,rfl,_,rfl,Jg (Jg ?_)⟩;have z4:=hm (4:Int).toNat 4 (by decide);refine ⟨_,rfl,_,rfl,xl,_,_,_,rfl,rfl,SqL.of exl1,GW (by decide) (by lia),_,_,rfl,rfl,(by show (0:Int)<4;decide),_,rfl,wb,_,_,_,rfl,rfl,SqT.of W1.w,Ge (j:=1) rfl,l,_,rfl,.inl (SqL.of W1.l),_,_,rfl,_,_,rfl,rfl,.inl ⟨by lia,by lia⟩,?_⟩;generalize hmn:(if (xs.length:Int)<1 then (xs.length:Int) else 1)=mn;have hmn':(xs.length=0/\mn=0)\/(1<=xs.length/\mn=1):=by rw [<-hmn];split <;> lia
  obtain ⟨n,hn,hn3,hn0⟩:∃n:Nat,row.getD (4:Int).toNat 0 % 4 * mn=(n:Int)/\n<=3/\(xs.length=0->n=0):=by
   rcases hmn' with ⟨a,rfl⟩ | ⟨a,rfl⟩
   ·exact ⟨0,by lia,by lia,λ_=>rfl⟩
   ·exact ⟨(row.getD (4:Int).toNat 0 % 4).toNat,by lia,by lia,λz=>by lia⟩
  refine ⟨(n:Int),congrArg (λz=>[V.int z]) hn,by lia,by lia,λD hD=>?_⟩;rw [Int.toNat_natCast];refine Jw (lo:=0) (n:=n) (λj ys H2=>Same H1 H2/\H2 D=some (.lst ys)/\∃ms:List Int,ys=ms.map V.int/\ms.length=j/\∀m∈ms,0<=m/\m<(xs.length:Int)) ⟨Same.new hD,Gb,[],rfl,rfl,λm hm=>(by cases hm)⟩ ?_ ?_
  ·rintro j ys H2 hj ⟨s2,hD2,ms,rfl,hms,hb⟩;rw [Int.zero_add];have hx1:1<=xs.length:=by
    rcases Nat.eq_zero_or_pos xs.length with z | z
    ·have:=hn0 z;lia
    ·exact z
   refine ⟨⟨rfl,rfl,trivial⟩,?_⟩;unfold UR;refine Jg ?_;have hmx:(if (xs.length:Int) > 1 then (xs.length:Int) else 1)=(xs.length:Int):=by split <;> lia
   refine ⟨_,rfl,_,rfl,_,_,rfl,rfl,xl,_,_,_,rfl,rfl,SqL.of (s2 _ _ exl1),GW (by lia) (by lia),_,rfl,wb,_,_,_,rfl,rfl,SqT.of (s2 _ _ W1.w),Ge (j:=1) rfl,l,_,rfl,.inl (SqL.of (s2 _ _ W1.l)),_,_,rfl,?_⟩;rw [hmx];have zz:=hm ((1:Int)+(j:Int)).toNat (xs.length:Int) (by lia);refine ⟨_,_,rfl,rfl,(by show (0:Int)<(xs.length:Int);lia),hD2,by rw [List.length_map];lia,s2.put hD,Gb,ms++[_],by rw [List.map_append];rfl,by rw [List.length_append,List.length_singleton,hms],λm hm'=>?_⟩;rcases List.mem_append.mp hm' with y | y
   ·exact hb m y
   ·rw [List.mem_singleton.mp y];exact zz
  ·rintro ys H2 ⟨s2,hD2,ms,rfl,hms,hb⟩;refine ⟨D,_,rfl,.inl ⟨SqL.of hD2,λt ht=>⟨Jr,λt2 ht2=>?_⟩⟩⟩;have s3:Same H2 (upd H2 t (.tup (ms.map V.int))):=Same.new ht;have s4:=Same.new (o:=.tup [.str "with", .ref t]) ht2;refine q _ "with" [.tuple (ms.map .int)] _ (s1.trans (s2.trans (s3.trans s4))) (.tup Gb (by simp) (.cons (.str _) (.cons (.tup (s4 _ _ Gb) (by rw [List.length_map];lia) (OR _ ms)) .nil))) (OS (by decide +kernel) λm hm'=>by have:=hb m hm';lia) ⟨λz=>absurd z (by decide +kernel),λz m hm'=>?_,λz m hm'=>?_⟩
   ·rw [Jd] at hm';have:=hb m hm';lia
   ·rcases z with z | z <;> exact absurd z (by decide +kernel)
 ·refine ⟨_,rfl,rfl,_,rfl,GG (GG ?_)⟩;refine ⟨_,rfl,rfl,_,rfl,GG ?_⟩;refine ⟨_,rfl,rfl,_,rfl,GG ?_⟩;refine ⟨_,rfl,rfl,_,rfl,Jg ?_⟩;have z4:=hm (4:Int).toNat 4 (by decide);refine ⟨_,rfl,_,rfl,xl,_,_,_,rfl,rfl,SqL.of exl1,GW (by decide) (by lia),_,_,rfl,rfl,(by show (0:Int)<4;decide),_,rfl,wb,_,_,_,rfl,rfl,SqT.of W1.w,Ge (j:=1) rfl,l,_,rfl,.inl (SqL.of W1.l),_,_,rfl,_,_,rfl,rfl,.inl ⟨by lia,by lia⟩,?_⟩;generalize hmn:(if (xs.length:Int)<1 then (xs.length:Int) else 1)=mn;have hmn':(xs.length=0/\mn=0)\/(1<=xs.length/\mn=1):=by rw [<-hmn];split <;> lia
  obtain ⟨n,hn,hn3,hn0⟩:∃n:Nat,row.getD (4:Int).toNat 0 % 4 * mn=(n:Int)/\n<=3/\(xs.length=0->n=0):=by
   rcases hmn' with ⟨a,rfl⟩ | ⟨a,rfl⟩
   ·exact ⟨0,by lia,by lia,λ_=>rfl⟩
   ·exact ⟨(row.getD (4:Int).toNat 0 % 4).toNat,by lia,by lia,λz=>by lia⟩
  refine ⟨(n:Int),congrArg (λz=>[V.int z]) hn,by lia,by lia,λD hD=>?_⟩;rw [Int.toNat_natCast];refine Jw (lo:=0) (n:=n) (λj ys H2=>Same H1 H2/\H2 D=some (.lst ys)/\∃ms:List Int,ys=ms.map V.int/\ms.length=j/\∀m∈ms,0<=m/\m<(xs.length:Int)) ⟨Same.new hD,Gb,[],rfl,rfl,λm hm=>(by cases hm)⟩ ?_ ?_
  ·rintro j ys H2 hj ⟨s2,hD2,ms,rfl,hms,hb⟩;rw [Int.zero_add];have hx1:1<=xs.length:=by
    rcases Nat.eq_zero_or_pos xs.length with z | z
    ·have:=hn0 z;lia
    ·exact z
   refine ⟨⟨rfl,rfl,trivial⟩,?_⟩;unfold UR;refine Jg ?_;have hmx:(if (xs.length:Int) > 1 then (xs.length:Int) else 1)=(xs.length:Int):=by split <;> lia
   refine ⟨_,rfl,_,rfl,_,_,rfl,rfl,xl,_,_,_,rfl,rfl,SqL.of (s2 _ _ exl1),GW (by lia) (by lia),_,rfl,wb,_,_,_,rfl,rfl,SqT.of (s2 _ _ W1.w),Ge (j:=1) rfl,l,_,rfl,.inl (SqL.of (s2 _ _ W1.l)),_,_,rfl,?_⟩;rw [hmx];have zz:=hm ((1:Int)+(j:Int)).toNat (xs.length:Int) (by lia);refine ⟨_,_,rfl,rfl,(by show (0:Int)<(xs.length:Int);lia),hD2,by rw [List.length_map];lia,s2.put hD,Gb,ms++[_],by rw [List.map_append];rfl,by rw [List.length_append,List.length_singleton,hms],λm hm'=>?_⟩;rcases List.mem_append.mp hm' with y | y
   ·exact hb m y
   ·rw [List.mem_singleton.mp y];exact zz
  ·rintro ys H2 ⟨s2,hD2,ms,rfl,hms,hb⟩;refine ⟨D,_,rfl,.inl ⟨SqL.of hD2,λt ht=>⟨Jr,λt2 ht2=>?_⟩⟩⟩;have s3:Same H2 (upd H2 t (.tup (ms.map V.int))):=Same.new ht;have s4:=Same.new (o:=.tup [.str "off", .ref t]) ht2;refine q _ "off" [.tuple (ms.map .int)] _ (s1.trans (s2.trans (s3.trans s4))) (.tup Gb (by simp) (.cons (.str _) (.cons (.tup (s4 _ _ Gb) (by rw [List.length_map];lia) (OR _ ms)) .nil))) (OS (by decide +kernel) λm hm'=>by have:=hb m hm';lia) ⟨λz=>absurd z (by decide +kernel),λz m hm'=>?_,λz m hm'=>?_⟩
   ·rw [Jd] at hm';have:=hb m hm';lia
   ·rcases z with z | z <;> exact absurd z (by decide +kernel)
 ·refine ⟨_,rfl,rfl,_,rfl,GG (GG ?_)⟩;refine ⟨_,rfl,rfl,_,rfl,GG ?_⟩;refine ⟨_,rfl,rfl,_,rfl,GG ?_⟩;refine ⟨_,rfl,rfl,_,rfl,GG ?_⟩;refine ⟨_,rfl,rfl,_,rfl,Jg (Jg ?_)⟩;have z4:=hm (4:Int).toNat 4 (by decide);refine ⟨_,rfl,_,rfl,xl,_,_,_,rfl,rfl,SqL.of exl1,GW (by decide) (by lia),_,_,rfl,rfl,(by show (0:Int)<4;decide),_,rfl,by lia,by lia,λD hD=>?_⟩;obtain ⟨n,hn,hn3⟩:∃n:Nat,row.getD (4:Int).toNat 0 % 4=(n:Int)/\n<=3:=⟨(row.getD (4:Int).toNat 0 % 4).toNat,by lia,by lia⟩;rw [hn,Int.toNat_natCast];refine Jw (lo:=0) (n:=n) (λj ys H2=>Same H1 H2/\H2 D=some (.lst ys)/\∃ms:List Int,ys=ms.map V.int/\ms.length=j/\∀m∈ms,0<=m/\m<k) ⟨Same.new hD,Gb,[],rfl,rfl,λm hm=>(by cases hm)⟩ ?_ ?_
  ·rintro j ys H2 hj ⟨s2,hD2,ms,rfl,hms,hb⟩;rw [Int.zero_add];refine ⟨⟨rfl,rfl,trivial⟩,?_⟩;unfold UR;refine Jg ?_;have zz:=hm ((1:Int)+(j:Int)).toNat k (by lia);refine ⟨_,rfl,_,rfl,_,_,rfl,rfl,xl,_,_,_,rfl,rfl,SqL.of (s2 _ _ exl1),GW (by lia) (by lia),_,rfl,wb,_,_,_,rfl,rfl,SqT.of (s2 _ _ W1.w),Ge (j:=0) rfl,_,_,rfl,rfl,(by show (0:Int)<k;lia),hD2,by rw [List.length_map];lia,s2.put hD,Gb,ms++[_],by rw [List.map_append];rfl,by rw [List.length_append,List.length_singleton,hms],λm hm'=>?_⟩;rcases List.mem_append.mp hm' with y | y
   ·exact hb m y
   ·rw [List.mem_singleton.mp y];exact zz
  ·rintro ys H2 ⟨s2,hD2,ms,rfl,hms,hb⟩;refine ⟨D,_,rfl,.inl ⟨SqL.of hD2,λt ht=>⟨Jr,λt2 ht2=>?_⟩⟩⟩;have s3:Same H2 (upd H2 t (.tup (ms.map V.int))):=Same.new ht;have s4:=Same.new (o:=.tup [.str "over", .ref t]) ht2;refine q _ "over" [.tuple (ms.map .int)] _ (s1.trans (s2.trans (s3.trans s4))) (.tup Gb (by simp) (.cons (.str _) (.cons (.tup (s4 _ _ Gb) (by rw [List.length_map];lia) (OR _ ms)) .nil))) (OS (by decide +kernel) λm hm'=>by have:=hb m hm';lia) ⟨λz=>absurd z (by decide +kernel),λz m hm'=>?_,λz m hm'=>?_⟩
   ·rcases z with z | z <;> exact absurd z (by decide +kernel)
   ·rw [Jd] at hm';have:=hb m hm';lia
 ·refine ⟨_,rfl,rfl,_,rfl,GG (GG ?_)⟩;refine ⟨_,rfl,rfl,_,rfl,GG ?_⟩;refine ⟨_,rfl,rfl,_,rfl,GG ?_⟩;refine ⟨_,rfl,rfl,_,rfl,GG ?_⟩;refine ⟨_,rfl,rfl,_,rfl,GG ?_⟩;refine ⟨_,rfl,rfl,_,rfl,Jg ?_⟩;have z4:=hm (4:Int).toNat 4 (by decide);refine ⟨_,rfl,_,rfl,xl,_,_,_,rfl,rfl,SqL.of exl1,GW (by decide) (by lia),_,_,rfl,rfl,(by show (0:Int)<4;decide),_,rfl,by lia,by lia,λD hD=>?_⟩;obtain ⟨n,hn,hn3⟩:∃n:Nat,row.getD (4:Int).toNat 0 % 4=(n:Int)/\n<=3:=⟨(row.getD (4:Int).toNat 0 % 4).toNat,by lia,by lia⟩;rw [hn,Int.toNat_natCast];refine Jw (lo:=0) (n:=n) (λj ys H2=>Same H1 H2/\H2 D=some (.lst ys)/\∃ms:List Int,ys=ms.map V.int/\ms.length=j/\∀m∈ms,0<=m/\m<k) ⟨Same.new hD,Gb,[],rfl,rfl,λm hm=>(by cases hm)⟩ ?_ ?_
  ·rintro j ys H2 hj ⟨s2,hD2,ms,rfl,hms,hb⟩;rw [Int.zero_add];refine ⟨⟨rfl,rfl,trivial⟩,?_⟩;unfold UR;refine Jg ?_;have zz:=hm ((1:Int)+(j:Int)).toNat k (by lia);refine ⟨_,rfl,_,rfl,_,_,rfl,rfl,xl,_,_,_,rfl,rfl,SqL.of (s2 _ _ exl1),GW (by lia) (by lia),_,rfl,wb,_,_,_,rfl,rfl,SqT.of (s2 _ _ W1.w),Ge (j:=0) rfl,_,_,rfl,rfl,(by show (0:Int)<k;lia),hD2,by rw [List.length_map];lia,s2.put hD,Gb,ms++[_],by rw [List.map_append];rfl,by rw [List.length_append,List.length_singleton,hms],λm hm'=>?_⟩;rcases List.mem_append.mp hm' with y | y
   ·exact hb m y
   ·rw [List.mem_singleton.mp y];exact zz
  ·rintro ys H2 ⟨s2,hD2,ms,rfl,hms,hb⟩;refine ⟨D,_,rfl,.inl ⟨SqL.of hD2,λt ht=>⟨Jr,λt2 ht2=>?_⟩⟩⟩;have s3:Same H2 (upd H2 t (.tup (ms.map V.int))):=Same.new ht;have s4:=Same.new (o:=.tup [.str "past", .ref t]) ht2;refine q _ "past" [.tuple (ms.map .int)] _ (s1.trans (s2.trans (s3.trans s4))) (.tup Gb (by simp) (.cons (.str _) (.cons (.tup (s4 _ _ Gb) (by rw [List.length_map];lia) (OR _ ms)) .nil))) (OS (by decide +kernel) λm hm'=>by have:=hb m hm';lia) ⟨λz=>absurd z (by decide +kernel),λz m hm'=>?_,λz m hm'=>?_⟩
   ·rcases z with z | z <;> exact absurd z (by decide +kernel)
   ·rw [Jd] at hm';have:=hb m hm';lia
 ·refine ⟨_,rfl,rfl,_,rfl,GG (GG ?_)⟩;refine ⟨_,rfl,rfl,_,rfl,Jg ?_⟩;have z1:=hm (1:Int).toNat 8 (by decide);have z2:=hm (2:Int).toNat 8 (by decide);have z3:0<=64 * row.getD (2:Int).toNat 0 % 10000/\64 * row.getD (2:Int).toNat 0 % 10000<10000:=⟨Int.emod_nonneg _ (by decide),Int.emod_lt_of_pos _ (by decide)⟩;refine ⟨_,rfl,xl,_,_,_,rfl,rfl,SqL.of exl1,GW (by decide) (by lia),_,_,rfl,rfl,(by show (0:Int)<8;decide),_,rfl,xl,_,_,_,rfl,rfl,SqL.of exl1,GW (by decide) (by lia),_,_,rfl,rfl,(by show (0:Int)<8;decide),_,rfl,xl,_,_,_,rfl,rfl,SqL.of exl1,GW (by decide) (by lia),_,_,rfl,rfl,(by show (0:Int)<8;decide),_,rfl,xl,_,_,_,rfl,rfl,SqL.of exl1,GW (by decide) (by lia),_,_,rfl,rfl,.inl ⟨by decide,by decide⟩,_,_,rfl,rfl,(by show (0:Int)<10000;decide),(by show 4<=sizeLine;lia),λp2 hp2=>?_⟩;have s2:Same H1 (upd H1 p2 (.lst (([row.getD (2:Int).toNat 0 % 8,row.getD (2:Int).toNat 0 % 8,64 * row.getD (2:Int).toNat 0 % 10000,9999]:List Int).map V.int))):=Same.new hp2;obtain ⟨z,hz,ez⟩:=Y0 [row.getD (2:Int).toNat 0 % 8,row.getD (2:Int).toNat 0 % 8,64 * row.getD (2:Int).toNat 0 % 10000,9999] (j:=row.getD (3:Int).toNat 0 % 4) (Int.emod_nonneg _ (by decide)) (Int.emod_lt_of_pos _ (by decide));refine ⟨_,rfl,xl,_,_,_,rfl,rfl,SqL.of (s2 _ _ exl1),GW (by decide) (by lia),_,_,rfl,rfl,(by show (0:Int)<4;decide),p2,_,_,_,rfl,rfl,SqL.of Gb,ez,(by show 3<=sizeLine;lia),λt ht=>?_⟩;simp only [List.mem_cons,List.not_mem_nil,or_false] at hz;exact q _ "long" [.int _,.int _] _ ((s1.trans s2).trans (Same.new ht)) (.tup Gb (by simp) (.cons (.str _) (.cons (.int _) (.cons (.int _) .nil)))) (UK (by decide +kernel) ⟨z1.1,by lia⟩ (by lia)) (VW (.inr rfl))
 ·refine ⟨_,rfl,rfl,_,rfl,GG (GG ?_)⟩;refine ⟨_,rfl,rfl,_,rfl,GG ?_⟩;refine ⟨_,rfl,rfl,_,rfl,GG ?_⟩;refine ⟨_,rfl,rfl,_,rfl,GG ?_⟩;refine ⟨_,rfl,rfl,_,rfl,GG ?_⟩;refine ⟨_,rfl,rfl,_,rfl,GG ?_⟩;refine ⟨_,rfl,rfl,_,rfl,GG ?_⟩;exact ⟨_,rfl,(by show 1<=sizeLine;lia),λt ht=>bare "shy" (by decide +kernel) _ s1 t ht⟩
 ·refine ⟨_,rfl,rfl,_,rfl,GG (GG ?_)⟩;refine ⟨_,rfl,rfl,_,rfl,GG ?_⟩;refine ⟨_,rfl,rfl,_,rfl,GG ?_⟩;refine ⟨_,rfl,rfl,_,rfl,GG ?_⟩;refine ⟨_,rfl,rfl,_,rfl,GG ?_⟩;refine ⟨_,rfl,rfl,_,rfl,GG ?_⟩;refine ⟨_,rfl,rfl,_,rfl,GG ?_⟩;exact ⟨_,rfl,(by show 1<=sizeLine;lia),λt ht=>bare "all" (by decide +kernel) _ s1 t ht⟩
 ·refine ⟨_,rfl,rfl,_,rfl,Jg ?_⟩;refine ⟨_,rfl,wb,_,_,_,rfl,rfl,SqT.of W1.w,Ge (j:=0) rfl,_,_,rfl,rfl,_,rfl,?_⟩;by_cases h1:1<k
  ·rw [decide_eq_true (show k > 1 from h1)];refine Jg ?_;have z1:=hm (1:Int).toNat k (by lia);have z2:=hm (2:Int).toNat (k-1) (by lia);refine ⟨_,rfl,xl,_,_,_,rfl,rfl,SqL.of exl1,GW (by decide) (by lia),_,rfl,wb,_,_,_,rfl,rfl,SqT.of W1.w,Ge (j:=0) rfl,_,_,rfl,rfl,(by show (0:Int)<k;lia),?_⟩;dsimp only [Jm];refine ⟨_,rfl,_,rfl,_,_,rfl,rfl,_,rfl,xl,_,_,_,rfl,rfl,SqL.of exl1,GW (by decide) (by lia),_,rfl,wb,_,_,_,rfl,rfl,SqT.of W1.w,Ge (j:=0) rfl,_,_,rfl,rfl,_,_,rfl,rfl,(by show (0:Int)<k-1;lia),_,_,rfl,rfl,_,rfl,wb,_,_,_,rfl,rfl,SqT.of W1.w,Ge (j:=0) rfl,_,_,rfl,rfl,(by show (0:Int)<k;lia),(by show 3<=sizeLine;lia),λt ht=>?_⟩;have En:=WX h1 z1 z2;have E1:=En.1;have E2:=En.2.1;refine q _ "open" [.int _,.int _] _ (s1.trans (Same.new ht)) (.tup Gb (by simp) (.cons (.str _) (.cons (.int _) (.cons (.int _) .nil)))) (UK (by decide +kernel) ⟨E1.1,by lia⟩ ⟨E2.1,by lia⟩) ⟨λ_=>⟨_,_,rfl,En⟩,λz=>?_,λz=>?_⟩
   ·rcases z with z | z <;> exact absurd z (by decide +kernel)
   ·rcases z with z | z <;> exact absurd z (by decide +kernel)
  ·rw [decide_eq_false (show ¬ k > 1 from h1)];refine GG ?_;refine ⟨_,rfl,rfl,_,rfl,GG ?_⟩;refine ⟨_,rfl,rfl,_,rfl,GG ?_⟩;refine ⟨_,rfl,rfl,_,rfl,GG ?_⟩;refine ⟨_,rfl,rfl,_,rfl,GG ?_⟩;refine ⟨_,rfl,rfl,_,rfl,GG ?_⟩;refine ⟨_,rfl,rfl,_,rfl,Jg ?_⟩;exact ⟨(by show 1<=sizeLine;lia),λt ht=>bare "closed" (by decide +kernel) _ s1 t ht⟩
end
end M
namespace M
open PySem L2
section
variable {P:Program}{w:World}{K:W.Frag}{mg:Str->Option Value}{base:Heap}
def Gd (k:Int)(n b:Nat)(d:PyData):Prop:=∃(m:Nat)(ps:List PyData),Ws d m/\m<=b/\Pr d ps/\ps.length<2 ^ b/\∀w rest,PyData.tuple (.str w::rest)∈ps->Jq w rest=true->UG k n w rest
theorem Gd.mono {k:Int}{n b c:Nat}{d:PyData}(h:Gd k n b d)(hc:b<=c):Gd k n c d:=by
 obtain ⟨m,ps,h1,h2,h3,h4,h5⟩:=h;exact ⟨m,ps,h1,by lia,h3,Nat.lt_of_lt_of_le h4 (Nat.pow_le_pow_right (by decide) hc),h5⟩
theorem Gd.leaf {k:Int}{n:Nat}{w:Str}{rest:List PyData}(h:Jq w rest=true)(g:UG k n w rest):Gd k n 1 (.tuple (.str w::rest)):=by
 refine ⟨1,_,.leaf h,Nat.le_refl _,.leaf h,(by rw [List.length_singleton];decide),λw' rest' hm _=>?_⟩;have z:=List.mem_singleton.mp hm;injection z with z
 injection z with z1 z2
 injection z1 with z1
 rw [z1,z2];exact g
theorem Gd.join {k:Int}{n b:Nat}{w:Str}{d e:PyData}(hw:w∈sJoin)(h1:Gd k n b d)(h2:Gd k n b e):Gd k n (b+1) (.tuple [.str w,d,e]):=by
 obtain ⟨m,ps,a1,a2,a3,a4,a5⟩:=h1;obtain ⟨m',qs,b1,b2,b3,b4,b5⟩:=h2;refine ⟨_,_,.join hw a1 b1,by lia,.join hw a3 b3,?_,λw' rest' hm hl=>?_⟩
 ·rw [List.length_cons,List.length_append,Nat.pow_succ]
  lia
 ·rcases List.mem_cons.mp hm with z | z
  ·injection z with z
   injection z with z1 z2
   injection z1 with z1
   rw [z1,z2,Uu hw] at hl;cases hl
  ·rcases List.mem_append.mp z with z | z
   ·exact b5 _ _ z hl
   ·exact a5 _ _ z hl
structure Wl (k:Int)(n:Nat)(H:Hp)(vs:List V)(ds:List PyData)(b:Nat):Prop where
 t:Ths H vs ds
 w:∀d∈ds,Gd k n b d
theorem Wl.same {k:Int}{n:Nat}{H H':Hp}{vs:List V}{ds:List PyData}{b:Nat}(h:Wl k n H vs ds b)(s:Same H H'):Wl k n H' vs ds b:=⟨h.t.same s,h.w⟩
def Zd5 (k:Int)(n:Nat)(H:Hp)(Q:V->Hp->Prop):Prop:=∀(v:V)(d:PyData)(H':Hp),Same H H'->Th H' v d->Gd k n 7 d->Q v H'
def Zd6:Sp:=λvs H Q _=>∃(k:Int)(n:Nat)(pa xl:Addr)(us:List V)(ds:List PyData)(ns:List Int),vs=[.ref pa,.ref xl]/\H pa=some (.lst us)/\Wl k n H us ds 1/\1<=ds.length/\ds.length<=7/\H xl=some (.lst (ns.map V.int))/\2 * ds.length<=ns.length+2/\Zd5 k n H Q
theorem scJoi:Gv ["parts", "xs", "k", "at", "word"] ["parts", "xs"] (Gg ZbJ):=⟨rfl,rfl,rfl,by decide +kernel,rfl,by decide +kernel,by decide +kernel⟩
theorem Zd7 {f:Addr}{fd:FuncData}(F:Fun K "_law_joined" "_law_joined" ZbJ f fd)(mRange:mg "range" = none)(mLen:mg "len" = none)(mLst:mg "list" = none):GS P w K mg base CX0 1 f fd ["parts", "xs"] Zd6:=by
 refine F.ok scJoi (λvs H Q E h=>?_) (λcdv A outer s H vs Q E hr h=>?_)
 ·obtain ⟨_,_,_,_,_,_,_,rfl,_⟩:=h
  rfl
 ·obtain ⟨kk,nn,pa,xl,us,ds,ns,rfl,epa,W,h1,h4,exl,hn,q⟩:=h;have h16:(16777216:Nat)=sizeLine:=sizeLine_eq.symm;have n3:3<=sizeLine:=by lia
  have hul:=W.t.len;refine ⟨_,Gh (GE (i:=0) scJoi.nd rfl (Or.inl rfl) (Jx (Up K) rfl mLst JP (Ga (pv 0) Gf)))
    (Gh (J1 PassesOwn.never rfl (Jn rfl mRange (Ga (GB Vs (Gk (O5 K) rfl mLen PySem.boot_len (Ga (pv 0) Gf)) Gc) Gf)) (Gy (i:=2) scJoi.nd rfl (Or.inl rfl))
    (Gh (GE (i:=3) scJoi.nd rfl (Or.inl rfl) (GB G4 (Gj (Jt K) (pv 1) (GB JN Gc (pv 2)) (λ_ _=>rfl)) (GB Vs (Gk (O5 K) rfl mLen PySem.boot_len (Ga (pv 0) Gf)) Gc)))
    (Gh (GE (i:=4) scJoi.nd rfl (Or.inl rfl) (Gj (Jt K) (G8 (Ga GQ (Ga GQ (Ga GQ Gf)))) (GB G4 (Gj (Jt K) (pv 1) (GB Jp (GB JN Gc (pv 2)) Gc) (λ_ _=>rfl)) Gc) (λ_ _=>rfl)))
    (Gi (GE (i:=0) scJoi.nd rfl (Or.inl rfl) (GB Uk (GB Uk (Js (kSl K) (pv 0) JJ (Jy (pv 3))) (G8 (Ga (Jf (Ga (pv 4) (Ga (Gj (Jt K) (pv 0) (pv 3) (λ_ _=>rfl)) (Ga (Gj (Jt K) (pv 0) (GB Jp (pv 3) Gc) (λ_ _=>rfl)) Gf)))) Gf))) (Js (kSl K) (pv 0) (Jy (GB Jp (pv 3) Gc)) JJ)))))))
    (Gi (Gw (Gj (Jt K) (pv 0) Gc (λ_ _=>rfl))))),?_⟩
  refine ⟨_,rfl,pa,us,rfl,.inl (SqL.of epa),λpb hpb=>?_⟩;have s1:Same H (upd H pb (.lst us)):=Same.new hpb;have epb:upd H pb (.lst us) pb=some (.lst us):=Gb;generalize upd H pb (.lst us)=H1 at s1 epb ⊢;refine ⟨_,rfl,pb,us,rfl,.inl (SqL.of epb),_,_,rfl,rfl,_,rfl,by lia,by lia,?_⟩;refine JG (lo:=0) (n:=((us.length:Int)-1).toNat) (λi σ' H'=>∃(pc:Addr)(vs:List V)(es:List PyData)(v2 v3 v4:Option V),σ'=[some (.ref pc),some (.ref xl),v2,v3,v4]/\Same H H'/\H' pc=some (.lst vs)/\Wl kk nn H' vs es (i+1)/\es.length+i=ds.length) ⟨pb,us,ds,none,none,none,rfl,s1,epb,W.same s1,rfl⟩ ?_ ?_
  ·rintro i σ' H2 hi ⟨pc,vs,es,v2,v3,v4,rfl,s2,epc,W2,hes⟩;rw [Int.zero_add];have hvl:=W2.t.len;have exl2:=s2 _ _ exl;have hi4:i<7:=by lia
   have hpos:(0:Int)<(vs.length:Int)-1:=by lia
   dsimp only [Jm];refine JA (λσ' H'=>∃aN:Nat,σ'=[some (.ref pc),some (.ref xl),some (.int (i:Int)),some (.int (aN:Int)),v4]/\H2=H'/\aN+1<es.length) ?s1 ?f1
   case f1=>
    intro hk;refine ⟨_,rfl,_,rfl,_,_,rfl,rfl,.inl ⟨by decide,by decide⟩,xl,_,_,_,rfl,rfl,SqL.of exl2,Oi (by lia) (by lia),_,rfl,pc,_,rfl,.inl (SqL.of epc),_,_,rfl,rfl,_,_,rfl,rfl,hpos,?_⟩;obtain ⟨aN,haN⟩:=Int.eq_ofNat_of_zero_le (Int.emod_nonneg (ns.getD (2 * (i:Int)).toNat 0) (Int.ne_of_gt hpos));have hlt:=Int.emod_lt_of_pos (ns.getD (2 * (i:Int)).toNat 0) hpos;rw [haN] at hlt;exact hk _ _ ⟨aN,by rw [<-haN];rfl,rfl,by lia⟩
   rintro σ' H' ⟨aN,rfl,rfl,haN⟩;refine JA (λσ' H'=>∃wd:Str,σ'=[some (.ref pc),some (.ref xl),some (.int (i:Int)),some (.int (aN:Int)),some (.str wd)]/\Same H2 H'/\wd∈sJoin) ?s2 ?f2
   case f2=>
    intro hk;refine ⟨n3,λp hp=>?_⟩;have s3:Same H2 (upd H2 p (.lst (sJoin.map V.str))):=Same.new hp;obtain ⟨wd,hwd,ewd⟩:=YZ sJoin (j:=ns.getD (2 * (i:Int)+1).toNat 0 % 3) (Int.emod_nonneg _ (by decide)) (Int.emod_lt_of_pos _ (by decide));refine ⟨_,rfl,_,rfl,_,_,rfl,rfl,.inl ⟨by decide,by decide⟩,_,_,rfl,rfl,xl,_,_,_,rfl,rfl,SqL.of (s3 _ _ exl2),Oi (by lia) (by lia),_,_,rfl,rfl,(by show (0:Int)<3;decide),p,_,_,_,rfl,rfl,SqL.of Gb,ewd,?_⟩;exact hk _ _ ⟨wd,rfl,s3,hwd⟩
   rintro σ' H3 ⟨wd,rfl,s3,hwd⟩;have W3:=W2.same s3;have epc3:=s3 _ _ epc;obtain ⟨va,ga,ta⟩:=W3.t.at (List.getElem?_eq_getElem (show aN<es.length by lia));obtain ⟨vb,gb,tb⟩:=W3.t.at (List.getElem?_eq_getElem (show aN+1<es.length by lia));have ma:=W3.w es[aN] (List.getElem_mem _);have mb:=W3.w es[aN+1] (List.getElem_mem _);generalize es[aN]=da at ta ma;generalize es[aN+1]=db at tb mb;have htk:(vs.take aN).length<=7:=by rw [List.length_take];lia
   have hdr:(vs.drop (aN+2)).length<=7:=by rw [List.length_drop];lia
   refine ⟨_,rfl,_,rfl,_,rfl,pc,_,rfl,SqL.of epc3,λc1 hc1=>?_⟩;rw [show OV vs none (some (aN:Int))=vs.take aN from WB];have t1:Same H3 (upd H3 c1 (.lst (vs.take aN))):=Same.new hc1;have e1:upd H3 c1 (.lst (vs.take aN)) c1=some (.lst (vs.take aN)):=Gb;generalize upd H3 c1 (.lst (vs.take aN))=H4 at t1 e1 ⊢;refine ⟨_,rfl,_,rfl,_,rfl,pc,_,_,_,rfl,rfl,SqL.of (t1 _ _ epc3),Ge ga,_,rfl,_,rfl,_,_,rfl,rfl,pc,_,_,_,rfl,rfl,SqL.of (t1 _ _ epc3),Ge (j:=aN+1) gb,n3,λt ht=>?_⟩;have t2:Same H4 (upd H4 t (.tup [.str wd,va,vb])):=Same.new ht;have e2:upd H4 t (.tup [.str wd,va,vb]) t=some (.tup [.str wd,va,vb]):=Gb;generalize upd H4 t (.tup [.str wd,va,vb])=H5 at t2 e2 ⊢;refine ⟨(by show 1<=sizeLine;lia),λc2 hc2=>?_⟩;have t3:Same H5 (upd H5 c2 (.lst [.ref t])):=Same.new hc2;have e3:upd H5 c2 (.lst [.ref t]) c2=some (.lst [.ref t]):=Gb;generalize upd H5 c2 (.lst [.ref t])=H6 at t3 e3 ⊢;refine ⟨c1,c2,_,_,rfl,rfl,t3 _ _ (t2 _ _ e1),e3,by rw [List.length_singleton];lia,λc3 hc3=>?_⟩;have t4:Same H6 (upd H6 c3 (.lst (vs.take aN++[.ref t]))):=Same.new hc3;have e4:upd H6 c3 (.lst (vs.take aN++[.ref t])) c3=some (.lst (vs.take aN++[.ref t])):=Gb;generalize upd H6 c3 (.lst (vs.take aN++[.ref t]))=H7 at t4 e4 ⊢;have T4:=(t1.trans t2).trans (t3.trans t4);refine ⟨_,rfl,_,rfl,_,_,rfl,rfl,_,rfl,pc,_,rfl,SqL.of (T4 _ _ epc3),λc4 hc4=>?_⟩;rw [show OV vs (some ((aN:Int)+2)) none=vs.drop (aN+2) from OM (k:=aN+2)];have t5:Same H7 (upd H7 c4 (.lst (vs.drop (aN+2)))):=Same.new hc4;have e5:upd H7 c4 (.lst (vs.drop (aN+2))) c4=some (.lst (vs.drop (aN+2))):=Gb;generalize upd H7 c4 (.lst (vs.drop (aN+2)))=H8 at t5 e5 ⊢;refine ⟨c3,c4,_,_,rfl,rfl,t5 _ _ e4,e5,by rw [List.length_append,List.length_singleton];lia,λc5 hc5=>?_⟩;have t6:=Same.new (o:=.lst (vs.take aN++[.ref t]++vs.drop (aN+2))) hc5;have T6:=(T4.trans t5).trans t6;have tt:Th _ (.ref t) (.tuple [.str wd,da,db]):=.tup ((((t3.trans t4).trans t5).trans t6) _ _ e2) (by simp) (.cons (.str wd) (.cons (ta.same T6) (.cons (tb.same T6) .nil)));refine ⟨c5,_,es.take aN++[.tuple [.str wd,da,db]]++es.drop (aN+2),_,_,_,rfl,(s2.trans s3).trans T6,Gb,⟨(((W3.t.same T6).take aN).app (.cons tt .nil)).app ((W3.t.same T6).drop (aN+2)),λd hd=>?_⟩,?_⟩
   ·rcases List.mem_append.mp hd with z | z
    ·rcases List.mem_append.mp z with z | z
     ·exact (W3.w d (List.mem_of_mem_take z)).mono (by lia)
     ·rw [List.mem_singleton] at z;subst z;exact .join hwd ma mb
    ·exact (W3.w d (List.mem_of_mem_drop z)).mono (by lia)
   ·rw [List.length_append,List.length_append,List.length_take,List.length_drop,List.length_singleton]
    lia
  ·rintro σ' H2 ⟨pc,vs,es,v2,v3,v4,rfl,s2,epc,W2,hes⟩;have hvl:=W2.t.len;have he1:0<es.length:=by lia
   obtain ⟨va,ga,ta⟩:=W2.t.at (List.getElem?_eq_getElem he1);have wm:=W2.w es[0] (List.getElem_mem _);refine ⟨_,rfl,pc,_,_,_,rfl,rfl,SqL.of epc,Ge (j:=0) ga,?_⟩;exact q _ _ _ s2 ta (wm.mono (by lia))
end
end M
namespace M
open PySem L2
theorem Y2 {H H':Hp}{d:PyData}{ps:List PyData}(h:Pr d ps)(k:∀t ys,H t=some (.tup ys)->H' t=some (.tup ys)):∀{v:V},Th H v d->Th H' v d:=by
 induction h with
 | leaf h=>
  intro v t;cases t with
  | tup e z hh=>
   cases hh with
   | cons a b=>
    cases a;exact .tup (k _ _ e) z (.cons (.str _) (UF k h b))
 | join hw _ _ ih1 ih2=>
  intro v t;cases t with
  | tup e z hh=>
   cases hh with
   | cons a b=>
    cases a;cases b with
    | cons a b=>
     cases b with
     | cons b c=>
      cases c;exact .tup (k _ _ e) z (.cons (.str _) (.cons (ih1 a) (.cons (ih2 b) .nil)))
section
variable {P:Program}{w:World}{K:W.Frag}{mg:Str->Option Value}{base:Heap}
def TabX (tb:Addr)(H:Hp):Prop:=∃es,TabOn tb es H/\(es=[]\/∃c,es=[⟨146,4,Zb4,c⟩])
theorem TabX.tbl {tb:Addr}{H:Hp}(h:TabX tb H):∃ps,H tb=some (.tbl ps):=h.elim λ_ z=>⟨_,z.1.1⟩
theorem TabX.same {tb:Addr}{H H':Hp}(h:TabX tb H)(s:Same H H'):TabX tb H':=h.elim λes z=>⟨es,z.1.same s,z.2⟩
def Zd8 (tb:Addr):Sp:=λvs H Q _=>∃(wb l kl:Addr)(k:Int)(xs:List V)(rs:List (Int×Int))(ks ns:List Int)(c b:Bool)(v:V)(d:PyData)(ps:List PyData),vs=[.ref wb,v,.ref kl]/\WebAt H wb l k xs rs/\Gz k rs/\H kl=some (.lst (ks.map V.int))/\WayK k rs ks ns c/\ns≠[]/\ns.length<=100/\ks.length<=100/\Th H v d/\Pr d ps/\ps.length<=1000/\(∀w rest,PyData.tuple (.str w::rest)∈ps->Jq w rest=true->UG k rs.length w rest)/\Hs (λwd rest=>We wd k rs ns ks rest) d b/\TabX tb H/\∀H',SameL tb H H'->TabX tb H'->Q (.bl b) H'
theorem scWsd:Gv ["web", "wish", "roads", "way", "has_way"] ["web", "wish", "roads"] (Gg ZaH):=⟨rfl,rfl,rfl,by decide +kernel,rfl,by decide +kernel,by decide +kernel⟩
abbrev clW (L:Addr):UM:=[(Str.ofString "web", L+1),(Str.ofString "way", L+3),(Str.ofString "roads", L+2)]
theorem Zd9 {f cS tb fCg fAw fFo fJ aD:Addr}{fd fdCg fdAw fdFo:FuncData}{ob:Obj}{vs0:List (Key×Value)}{kvs:List (Key×V)}(F:Fun K "wished" "wished" ZaH f fd)(hc:fd.code=.ref cS)(hC:PySem.W.CodeHd base cS tb)(hBl:base.BuiltinsAt mg tb)(FCg:Fun K "check_good" "check_good" ZbE fCg fdCg)(bCg:Binds K fdCg ["web", "wish"] [])(mCg:mg "check_good" = some (.ref fCg))(GCg:GS P w K mg base CX0 3 fCg fdCg ["web", "wish"] ZdP)(FAw:Fun K "any_way_of" "any_way_of" ZbC fAw fdAw)(bAw:Binds K fdAw ["web", "roads"] [])(mAw:mg "any_way_of" = some (.ref fAw))(GAw:GS P w K mg base CX0 6 fAw fdAw ["web", "roads"] ZdT)(FFo:Fun K "folded" "folded" Zbw fFo fdFo)(bFo:Binds K fdFo ["wish", "told_of", "joined"] [])(mFo:mg "folded" = some (.ref fFo))(GFo:GS P w K mg base CX0 3 fFo fdFo ["wish", "told_of", "joined"] (ZdJ P w K mg base fJ))(mJh:mg "joined_has" = some (.ref fJ))(mLea:mg "LEAVES" = some (.ref aD))(hD:K.lookup aD=some ob)(hdD:ob.IsDictOf (Jh P w) vs0)(rD:KV kvs vs0)(LV:Ze9 P w K mg base kvs) :
  GS P w K mg base CX0 7 f fd ["web", "wish", "roads"] (Zd8 tb):=by
 refine Fun.okC F hc scWsd (λvs H Q E h=>?_) (λA outer s H vs Q E hr h=>?_)
 ·obtain ⟨_,_,_,_,_,_,_,_,_,_,_,_,_,rfl,_⟩:=h
  rfl
 ·obtain ⟨wb,l,kl,k,xs,rs,ks,ns,c,b,v,d,ps,rfl,W,g,hk,WK,hns,nl,kl',th,pr,hpl,good,hb,tab,q⟩:=h;have h16:(16777216:Nat)=sizeLine:=sizeLine_eq.symm;have qJ:=W.p.len;have rl:=g.2.2.1;refine ⟨_,Gh (Ji (Gs GCg (hr.mono (by decide)) rfl mCg FCg.kp bCg .nil G2 (Ga (pv 0) (Ga (pv 1) Gf))))
   (Gh (GE (i:=3) scWsd.nd rfl (Or.inr rfl) (Gs GAw (hr.mono (by decide)) rfl mAw FAw.kp bAw .nil G2 (Ga (pv 0) (Ga (pv 2) Gf))))
   (Gh (ZcZ (i:=4) (qual:=Zb4) (params:=Gq Zb) (body:=Go Zb) (scope:=Gg Zb) (clos:=clW s.heap.objs.size) scWsd.nd rfl (Or.inl rfl) rfl rfl hC hBl rfl)
   (Gi (Gw (ZR (E:=E0) (cl:=clW s.heap.objs.size) (is:=[0,3,2]) (.cons ⟨rfl,rfl,rfl,rfl⟩ (.cons ⟨rfl,rfl,rfl,rfl⟩ (.cons ⟨rfl,rfl,rfl,rfl⟩ .nil))) GFo (hr.mono (by decide)) rfl mFo FFo.kp bFo .nil (λh=>h) (Ga (pv 1) (Ga (pv 4) (Ga (Uo mJh) Gf)))))))),?_⟩
  refine ⟨_,rfl,_,rfl,wb,l,k,xs,rs,v,d,ps,rfl,W,th,pr,hpl,good,λH1 s1=>?_⟩;refine ⟨_,rfl,_,rfl,wb,l,kl,k,xs,rs,ks,ns,c,rfl,W.same s1,g,by lia,s1 _ _ hk,WK,λwy H2 s2 hwy ewy=>?_⟩;dsimp only [Jm];have S2:=s1.trans s2;have tab2:=tab.same S2;obtain ⟨es,on,hes⟩:=tab2;have tb0:=on.1;have nT:∀{a:Addr}{o:HO},H2 a=some o->(∀ps,o≠.tbl ps)->a≠tb:=λ{a o} e n z=>by rw [z,tb0] at e;cases e;exact n _ rfl
  refine JA (λσ' H'=>∃(fP c':Addr)(ctv doc:Value),σ'=[some (.ref wb),some v,some (.ref kl),some (.ref wy),some (.ref fP)]/\SameL tb H2 H'/\TabOn tb [⟨146,4,Zb4,c'⟩] H'/\H2 fP=none/\CloFn H' fP c' Zb4 (Zag (clW s.heap.objs.size) ((mg "__name__").getD .none) c' ctv doc)) ?aft ?dfn
  case dfn=>
   intro hk';rcases hes with rfl | ⟨c,rfl⟩
   ·exact ⟨[],on,.inl ⟨rfl,λfP c' ctv doc H' sl on' nf cf=>hk' _ _ ⟨fP,c',ctv,doc,rfl,sl,on',nf,cf⟩⟩⟩
   ·exact ⟨_,on,.inr ⟨_,List.mem_singleton.mpr rfl,by simp [Y8,codeAmong,rawInt],rfl,λfP ctv doc H' sm nf cf=>hk' _ _ ⟨fP,c,ctv,doc,rfl,SameL.of sm,on.same sm,nf,cf⟩⟩⟩
  rintro σ' H3 ⟨fP,c',ctv,doc,rfl,s3,on3,nf,cf⟩;have W3:WebAt H3 wb l k xs rs:=by
   have W2:=W.same S2;exact ⟨s3 _ _ (nT W2.w λ_ z=>by cases z) W2.w,s3 _ _ (nT W2.l λ_ z=>by cases z) W2.l,W2.p.keep λp ys e=>s3 _ _ (nT e λ_ z=>by cases z) e⟩
  have n3:=s3 _ _ (nT ewy λ_ z=>by cases z) ewy;have k3:=s3 _ _ (nT (S2 _ _ hk) λ_ z=>by cases z) (S2 _ _ hk);have kk3:∀t ys,H t=some (.tup ys)->H3 t=some (.tup ys):=λt ys e=>s3 _ _ (nT (S2 _ _ e) λ_ z=>by cases z) (S2 _ _ e);have th3:Th H3 v d:=Y2 pr kk3 th;refine ⟨_,rfl,_,rfl,[.ref wb,.ref wy,.ref kl],.cons rfl (.cons rfl (.cons rfl .nil)),λH4 hout hN hcs=>?_⟩;have s4:Same H3 H4:=λa u e=>by rw [hout a (λz=>by rw [hN a z] at e;cases e)];exact e
  refine ⟨v,d,ps,b,_,fP,_,HFw fP c' (clW s.heap.objs.size) (Zag (clW s.heap.objs.size) ((mg "__name__").getD .none) c' ctv doc) wb l wy kl k xs rs ns ks,rfl,th3.same s4,pr,hpl,hb,λH5 s5=>?_,Binds.all (λus hl=>by obtain ⟨_,rfl⟩:=Zay hl;rfl),ZdV (c1:=s.heap.objs.size+1) (c2:=s.heap.objs.size+3) (c3:=s.heap.objs.size+2) ⟨λz=>by have z:(s.heap.objs.size+1:Nat)=s.heap.objs.size+3:=z;lia,λz=>by have z:(s.heap.objs.size+1:Nat)=s.heap.objs.size+2:=z;lia,λz=>by have z:(s.heap.objs.size+3:Nat)=s.heap.objs.size+2:=z;lia⟩ mLea hD hdD rD LV rl nl kl' hns,λH5 s5=>?_⟩
  ·have hw:HFw fP c' (clW s.heap.objs.size) (Zag (clW s.heap.objs.size) ((mg "__name__").getD .none) c' ctv doc) wb l wy kl k xs rs ns ks H4:=⟨cf.same s4,hcs,W3.same s4,s4 _ _ n3,s4 _ _ k3⟩;exact ⟨hw.same s5,(hw.same s5).fn.fin rfl⟩
  ·have old:∀{a:Addr}{o:HO},H3 a=some o->hideC (clW s.heap.objs.size) H5 a=some o:=λ{a o} e=>by
    rw [Jb (λz=>by rw [hN a z] at e;cases e)];exact s5 _ _ (s4 _ _ e)
   have S5:Same H3 (hideC (clW s.heap.objs.size) H5):=λa o e=>old e;exact q _ ((SameL.of S2).trans (s3.trans (SameL.of S5))) ⟨_,on3.same S5,.inr ⟨c',rfl⟩⟩
end
end M
namespace M
open PySem L2
theorem Zal {ns:List Int}{lo n:Nat}(h:lo+n<=ns.length):OV (ns.map V.int) (some (lo:Int)) (some ((lo+n:Nat):Int))=((ns.drop lo).take n).map V.int/\((ns.drop lo).take n).length=n:=by
 constructor
 ·unfold OV;rw [List.length_map,HT.sIx_nat,HT.sIx_nat,Nat.min_eq_left (by lia),Nat.min_eq_left (by lia),show lo+n-lo=n by lia,List.map_take,List.map_drop]
 ·rw [List.length_take,List.length_drop]
  lia
theorem Gd.keep {k:Int}{n b:Nat}{H H':Hp}{v:V}{d:PyData}(g:Gd k n b d)(s:∀t ys,H t=some (.tup ys)->H' t=some (.tup ys))(h:Th H v d):Th H' v d:=by
 obtain ⟨m,ps,_,_,p,_⟩:=g;exact Y2 p s h
theorem Wl.keep {k:Int}{n b:Nat}{H H':Hp}(s:∀t ys,H t=some (.tup ys)->H' t=some (.tup ys)){vs:List V}{ds:List PyData}(h:Wl k n H vs ds b):Wl k n H' vs ds b:=by
 refine ⟨?_,h.w⟩;obtain ⟨t,w⟩:=h
 induction ds generalizing vs with
 | nil=>cases t;exact .nil
 | cons d ds ih=>
  cases t with
  | cons a c=>exact .cons ((w d (List.mem_cons_self ..)).keep s a) (ih c λd hd=>w d (List.mem_cons_of_mem _ hd))
theorem Zam {H:Hp}{D:Addr}{ys:List V}{o:HO}(e:H D=some (.lst ys)):∀t zs,H t=some (.tup zs)->upd H D o t=some (.tup zs):=λt zs h=>by
 rw [Gu (λz=>by rw [z,e] at h;cases h)];exact h
section
variable {P:Program}{w:World}{K:W.Frag}{mg:Str->Option Value}{base:Heap}
def Zea:Sp:=λvs H Q _=>∃(wb l xl:Addr)(k:Int)(xs:List V)(rs:List (Int×Int))(row:List Int)(m:Nat),vs=[.ref wb,.ref xl,.int (m:Int)]/\WebAt H wb l k xs rs/\Gz k rs/\H xl=some (.lst (row.map V.int))/\row.length=50/\1<=m/\m<=7/\Zd5 k rs.length H Q
theorem Zfb:Gv ["web", "xs", "many"] ["web", "xs", "many"] (Gg ZbK):=⟨rfl,rfl,rfl,by decide +kernel,rfl,by decide +kernel,by decide +kernel⟩
theorem Zeb {f fPl fJo:Addr}{fd fdPl fdJo:FuncData}(F:Fun K "_law_wish" "_law_wish" ZbK f fd)(FPl:Fun K "_law_plain" "_law_plain" ZbI fPl fdPl)(bPl:Binds K fdPl ["web", "xs"] [])(mPl:mg "_law_plain" = some (.ref fPl))(GPl:GS P w K mg base CX0 1 fPl fdPl ["web", "xs"] Zd3)(FJo:Fun K "_law_joined" "_law_joined" ZbJ fJo fdJo)(bJo:Binds K fdJo ["parts", "xs"] [])(mJo:mg "_law_joined" = some (.ref fJo))(GJo:GS P w K mg base CX0 1 fJo fdJo ["parts", "xs"] Zd6)(mRange:mg "range" = none):GS P w K mg base CX0 2 f fd ["web", "xs", "many"] Zea:=by
 refine F.ok Zfb (λvs H Q E h=>?_) (λcdv A outer s H vs Q E hr h=>?_)
 ·obtain ⟨_,_,_,_,_,_,_,_,rfl,_⟩:=h
  rfl
 obtain ⟨wb,l,xl,k,xs,rs,row,m,rfl,Wb,gw,exl,hrow,hm1,hm7,q⟩:=h;have h16:(16777216:Nat)=sizeLine:=sizeLine_eq.symm;refine ⟨_,Gi (Gw (Gs GJo (hr.mono (by decide)) rfl mJo FJo.kp bJo .nil G2 (Ga (Jl (own:=["j"]) rfl (Gr (fr:=[("web", 0),("xs", 1)]) [(".0", .local),("j", .local),("_law_plain", .globalImplicit),("web", .cell),("xs", .cell)] rfl rfl (by decide +kernel) rfl (by decide +kernel) ⟨rfl,rfl,trivial⟩ ⟨λh=>GT h,λh=>GT h,λh=>GT h,λ_=>⟨_,rfl⟩,λ_=>⟨_,rfl⟩,trivial⟩ ⟨⟨rfl,.inl rfl,.inl rfl⟩,⟨rfl,.inl rfl,.inl rfl⟩,trivial⟩) (Jn rfl mRange (Ga (pv 2) Gf)) (λ_ _ _ _=>Gy (i:=0) (show List.Nodup (["j", "web", "xs"]:List Str) by decide +kernel) rfl (Or.inl rfl)) (λ_ _ _ _=>Ja) (λ_ _ _ _=>Gs GPl (hr.mono (by decide)) rfl mPl FPl.kp bPl .nil G2 (Ga (pv 1) (Ga (Js (kSl K) (pv 2) (Jy (GB JN Gc (pv 0))) (Jy (GB Jp (GB JN Gc (pv 0)) Gc))) Gf)))) (Ga (Js (kSl K) (pv 1) (Jy (GB JN Gc (pv 2))) JJ) Gf)))),?_⟩;refine ⟨_,rfl,_,rfl,by lia,by lia,λD hD=>?_⟩;rw [Int.toNat_natCast];refine Jw (lo:=0) (n:=m) (λj ys H'=>Same H H'/\H' D=some (.lst ys)/\∃ds:List PyData,Wl k rs.length H' ys ds 1/\ds.length=j) ⟨Same.new hD,Gb,[],⟨.nil,λd hd=>(by cases hd)⟩,rfl⟩ ?_ ?_
 ·rintro j ys H3 hj ⟨s3,eD,ds,W,hds⟩;rw [Int.zero_add];refine ⟨⟨rfl,rfl,trivial⟩,?_⟩;unfold UR;refine Jg ?_;obtain ⟨ec,lc⟩:=Zal (ns:=row) (lo:=5 * j) (n:=5) (by lia);have exl3:=s3 _ _ exl;refine ⟨_,rfl,_,rfl,_,rfl,_,_,rfl,rfl,.inl ⟨by decide,by decide⟩,_,rfl,_,rfl,_,_,rfl,rfl,.inl ⟨by decide,by decide⟩,_,_,rfl,rfl,_,rfl,xl,_,rfl,SqL.of exl3,λp hp=>?_⟩;rw [show OV (row.map V.int) (some (5 * (j:Int))) (some (5 * (j:Int)+5))=((row.drop (5 * j)).take 5).map V.int from ec];have s4:Same H3 (upd H3 p (.lst (((row.drop (5 * j)).take 5).map V.int))):=Same.new hp;refine ⟨wb,l,p,k,xs,rs,_,rfl,Wb.same (s3.trans s4),gw,Gb,by lia,λv wd rest H5 s5 t5 lf gl=>?_⟩;have eD5:=s5 _ _ (s4 _ _ eD);refine ⟨eD5,by have:=W.t.len;lia,((s3.trans s4).trans s5).put hD,Gb,ds++[.tuple (.str wd::rest)],?_,by rw [List.length_append,List.length_singleton,hds]⟩;have W5:=(W.same s4).same s5;refine Wl.keep (Zam eD5) ⟨W5.t.app (.cons t5 .nil),λd' hd'=>?_⟩;rcases List.mem_append.mp hd' with z | z
  ·exact W.w d' z
  ·rw [List.mem_singleton] at z;rw [z];exact .leaf lf gl
 ·rintro ys H3 ⟨s3,eD,ds,W,hds⟩;have exl3:=s3 _ _ exl;refine ⟨_,rfl,_,rfl,_,_,rfl,rfl,.inl ⟨by decide,by lia⟩,_,rfl,xl,_,rfl,SqL.of exl3,λp hp=>?_⟩;rw [show OV (row.map V.int) (some (5 * (m:Int))) none=(row.drop (5 * m)).map V.int by rw [show (5 * (m:Int))=((5 * m:Nat):Int) by lia,OM,List.map_drop]];have s4:Same H3 (upd H3 p (.lst ((row.drop (5 * m)).map V.int))):=Same.new hp;refine ⟨k,rs.length,D,p,ys,ds,_,rfl,s4 _ _ eD,W.same s4,by lia,by lia,Gb,by rw [List.length_drop];lia,λv d H6 s6 t6 g6=>?_⟩;exact q v d H6 ((s3.trans s4).trans s6) t6 g6
end
end M
namespace M
open PySem L2
section
variable {P:Program}{w:World}{K:W.Frag}{mg:Str->Option Value}{base:Heap}
def Zec (m:Nat):Sp:=λvs H Q _=>∃(wb l t e r u:Addr)(v:V)(d:PyData)(n:Nat)(b:Bool)(k:Int)(xs:List V)(rs:List (Int×Int))(ns ks:List Int)(c:Bool),vs=[.ref wb,v,.ref t]/\WebAt H wb l k xs rs/\Gz k rs/\Th H v d/\Ws d n/\n+2<=m/\Hs (λwd rest=>We wd k rs ns ks rest) d b/\WyAt H t e r u ns ks c/\WF k rs ns ks c/\ns.length<=16/\∀H',Same H H'->Q (.bl b) H'
theorem Zfc:Gv ["web", "wish", "way"] ["web", "wish", "way"] (Gg ZbN):=⟨rfl,rfl,rfl,by decide +kernel,rfl,by decide +kernel,by decide +kernel⟩
theorem XB {wd:Str}{rest:List PyData}(h:Jq wd rest=true):wd ≠ "and" /\ wd ≠ "or" /\ wd ≠ "but" := by
 have n9:=UH h;unfold nineW at n9;have:∀x∈nineW,x ≠ "and" /\ x ≠ "or" /\ x ≠ "but" := by decide +kernel
 exact this wd n9
theorem Zed (a b:Bool):UD "and" a b=(a && b):=if_pos rfl
theorem Zfd (a b:Bool):UD "or" a b=(a || b):=by unfold UD;rw [if_neg (by decide),if_pos rfl]
theorem Zee (a b:Bool):UD "but" a b=(a && !b):=by unfold UD;rw [if_neg (by decide),if_neg (by decide)]
theorem Y3 {f fPh:Addr}{fd fdPh:FuncData}(FHs:Fun K "_law_has" "_law_has" ZbN f fd)(bHs:Binds K fd ["web", "wish", "way"] [])(mHs:mg "_law_has" = some (.ref f))(FPh:Fun K "_law_plain_has" "_law_plain_has" ZbL fPh fdPh)(bPh:Binds K fdPh ["web", "wish", "way"] [])(mPh:mg "_law_plain_has" = some (.ref fPh))(GPh:GS P w K mg base CX0 2 fPh fdPh ["web", "wish", "way"] ZdW):∀m,GS P w K mg base CX0 m f fd ["web", "wish", "way"] (Zec m)
 | 0=>⟨λvs H Q E h=>by obtain ⟨_,_,_,_,_,_,_,_,_,_,_,_,_,_,_,_,_,_,_,_,_,z,_⟩:=h;lia,λA outer s H args us vs Q E _ _ _ _ h=>by obtain ⟨_,_,_,_,_,_,_,_,_,_,_,_,_,_,_,_,_,_,_,_,_,z,_⟩:=h;lia⟩
 | m+1=>by
  have GHs:=Y3 FHs bHs mHs FPh bPh mPh GPh m;by_cases hm2:2<=m;rotate_left
  ·exact ⟨λvs H Q E h=>by obtain ⟨_,_,_,_,_,_,_,_,_,_,_,_,_,_,_,_,_,_,_,_,w,z,_⟩:=h;have:=w.pos;lia,λA outer s H args us vs Q E _ _ _ _ h=>by obtain ⟨_,_,_,_,_,_,_,_,_,_,_,_,_,_,_,_,_,_,_,_,w,z,_⟩:=h;have:=w.pos;lia⟩
  refine FHs.ok Zfc (λvs H Q E h=>?_) (λcdv A outer s H vs Q E hr h=>?_)
  ·obtain ⟨_,_,_,_,_,_,_,_,_,_,_,_,_,_,_,_,rfl,_⟩:=h
   rfl
  obtain ⟨wb,l,t,e,r,u,v,d,n,b,k,xs,rs,ns,ks,c,rfl,Wb,gw,th,hw,hnm,hb,Wy,wf,nl,q⟩:=h;refine ⟨_,Gh (Jj (Gp Jv (Gj (Je K) (pv 1) Gc (λ_ _=>rfl)) GQ (Gx _)) (Gi (Gw (O0 (Gs GHs (hr.mono (by lia)) rfl mHs FHs.kp bHs .nil G2 (Ga (pv 0) (Ga (Gj (Je K) (pv 1) Gc (λ_ _=>rfl)) (Ga (pv 2) Gf)))) (Oe (Gs GHs (hr.mono (by lia)) rfl mHs FHs.kp bHs .nil G2 (Ga (pv 0) (Ga (Gj (Je K) (pv 1) Gc (λ_ _=>rfl)) (Ga (pv 2) Gf)))))))) GF)
    (Gh (Jj (Gp Jv (Gj (Je K) (pv 1) Gc (λ_ _=>rfl)) GQ (Gx _)) (Gi (Gw (ZaU (Gs GHs (hr.mono (by lia)) rfl mHs FHs.kp bHs .nil G2 (Ga (pv 0) (Ga (Gj (Je K) (pv 1) Gc (λ_ _=>rfl)) (Ga (pv 2) Gf)))) (Oe (Gs GHs (hr.mono (by lia)) rfl mHs FHs.kp bHs .nil G2 (Ga (pv 0) (Ga (Gj (Je K) (pv 1) Gc (λ_ _=>rfl)) (Ga (pv 2) Gf)))))))) GF)
    (Gh (Jj (Gp Jv (Gj (Je K) (pv 1) Gc (λ_ _=>rfl)) GQ (Gx _)) (Gi (Gw (O0 (Gs GHs (hr.mono (by lia)) rfl mHs FHs.kp bHs .nil G2 (Ga (pv 0) (Ga (Gj (Je K) (pv 1) Gc (λ_ _=>rfl)) (Ga (pv 2) Gf)))) (Oe (Wh (Gs GHs (hr.mono (by lia)) rfl mHs FHs.kp bHs .nil G2 (Ga (pv 0) (Ga (Gj (Je K) (pv 1) Gc (λ_ _=>rfl)) (Ga (pv 2) Gf))))))))) GF)
    (Gi (Gw (Gs GPh (hr.mono (by lia)) rfl mPh FPh.kp bPh .nil G2 (Ga (pv 0) (Ga (pv 1) (Ga (pv 2) Gf)))))))),?_⟩
  cases hb with
  | @leaf wd rest hl=>
   obtain ⟨n1,n2,n3⟩:=XB hl;cases th with
   | @tup ta vs1 _ ea z hh=>
    cases hh with
    | cons t0 r0=>
     cases t0;have th:Th H (.ref ta) (.tuple (.str wd::rest)):=.tup ea z (.cons (.str _) r0);refine ⟨_,rfl,ta,_,_,_,rfl,rfl,SqT.of ea,Ge (j:=0) rfl,rfl,_,rfl,?_⟩;rw [decide_eq_false (λz=>n1 (V.str.inj z))];refine GG ⟨_,rfl,ta,_,_,_,rfl,rfl,SqT.of ea,Ge (j:=0) rfl,rfl,_,rfl,?_⟩;rw [decide_eq_false (λz=>n2 (V.str.inj z))];refine GG ⟨_,rfl,ta,_,_,_,rfl,rfl,SqT.of ea,Ge (j:=0) rfl,rfl,_,rfl,?_⟩;rw [decide_eq_false (λz=>n3 (V.str.inj z))];refine GG ⟨_,rfl,_,rfl,_,rfl,wb,l,t,e,r,u,.ref ta,wd,rest,k,xs,rs,ns,ks,c,rfl,Wb,gw,th,hl,Wy,wf,nl,λH' s'=>q H' s'⟩
  | @join wd da db s1 s2 hwd h1 h2=>
   obtain ⟨m1,m2,w1,w2,hd1,hd2⟩:∃m1 m2,Ws da m1/\Ws db m2/\m1+1<=n/\m2+1<=n:=by
    cases hw with
    | leaf hl=>rw [Uu hwd] at hl;cases hl
    | join _ a b=>exact ⟨_,_,a,b,by lia,by lia⟩
   cases th with
   | @tup ta vs1 _ ea z hh=>
    cases hh with
    | @cons _ _ _ _ t0 r0=>
     cases t0;cases r0 with
     | @cons va _ _ _ ta1 r0=>
      cases r0 with
      | @cons vb _ _ _ tb1 r0=>
       cases r0;simp only [sJoin,List.mem_cons,List.not_mem_nil,or_false] at hwd;rcases hwd with rfl | rfl | rfl
       ·rw [Zed] at q;refine ⟨_,rfl,ta,_,_,_,rfl,rfl,SqT.of ea,Ge (j:=0) rfl,rfl,_,rfl,?_⟩;rw [decide_eq_true rfl];refine Jg ?_;refine ⟨_,rfl,_,rfl,ta,_,_,_,rfl,rfl,SqT.of ea,Ge (j:=1) rfl,_,rfl,wb,l,t,e,r,u,va,da,m1,s1,k,xs,rs,ns,ks,c,rfl,Wb,gw,ta1,w1,by lia,h1,Wy,wf,nl,λH1 sm1=>⟨s1,rfl,?_⟩⟩;cases s1 with
        | false=>
         rw [if_neg Bool.false_ne_true];exact q H1 sm1
        | true=>
         rw [if_pos rfl];exact ⟨_,rfl,_,rfl,ta,_,_,_,rfl,rfl,SqT.of (sm1 _ _ ea),Ge (j:=2) rfl,_,rfl,wb,l,t,e,r,u,vb,db,m2,s2,k,xs,rs,ns,ks,c,rfl,Wb.same sm1,gw,tb1.same sm1,w2,by lia,h2,Wy.same sm1,wf,nl,λH2 sm2=>q H2 (sm1.trans sm2)⟩
       ·rw [Zfd] at q;refine ⟨_,rfl,ta,_,_,_,rfl,rfl,SqT.of ea,Ge (j:=0) rfl,rfl,_,rfl,?_⟩;rw [decide_eq_false (λz=>absurd (V.str.inj z) (by decide))];refine GG ?_;refine ⟨_,rfl,ta,_,_,_,rfl,rfl,SqT.of ea,Ge (j:=0) rfl,rfl,_,rfl,?_⟩;rw [decide_eq_true rfl];refine Jg ?_;refine ⟨_,rfl,_,rfl,ta,_,_,_,rfl,rfl,SqT.of ea,Ge (j:=1) rfl,_,rfl,wb,l,t,e,r,u,va,da,m1,s1,k,xs,rs,ns,ks,c,rfl,Wb,gw,ta1,w1,by lia,h1,Wy,wf,nl,λH1 sm1=>⟨s1,rfl,?_⟩⟩;cases s1 with
        | true=>
         rw [if_pos rfl];exact q H1 sm1
        | false=>
         rw [if_neg Bool.false_ne_true];exact ⟨_,rfl,_,rfl,ta,_,_,_,rfl,rfl,SqT.of (sm1 _ _ ea),Ge (j:=2) rfl,_,rfl,wb,l,t,e,r,u,vb,db,m2,s2,k,xs,rs,ns,ks,c,rfl,Wb.same sm1,gw,tb1.same sm1,w2,by lia,h2,Wy.same sm1,wf,nl,λH2 sm2=>q H2 (sm1.trans sm2)⟩
       ·rw [Zee] at q;refine ⟨_,rfl,ta,_,_,_,rfl,rfl,SqT.of ea,Ge (j:=0) rfl,rfl,_,rfl,?_⟩;rw [decide_eq_false (λz=>absurd (V.str.inj z) (by decide))];refine GG ?_;refine ⟨_,rfl,ta,_,_,_,rfl,rfl,SqT.of ea,Ge (j:=0) rfl,rfl,_,rfl,?_⟩;rw [decide_eq_false (λz=>absurd (V.str.inj z) (by decide))];refine GG ?_;refine ⟨_,rfl,ta,_,_,_,rfl,rfl,SqT.of ea,Ge (j:=0) rfl,rfl,_,rfl,?_⟩;rw [decide_eq_true rfl];refine Jg ?_;refine ⟨_,rfl,_,rfl,ta,_,_,_,rfl,rfl,SqT.of ea,Ge (j:=1) rfl,_,rfl,wb,l,t,e,r,u,va,da,m1,s1,k,xs,rs,ns,ks,c,rfl,Wb,gw,ta1,w1,by lia,h1,Wy,wf,nl,λH1 sm1=>⟨s1,rfl,?_⟩⟩;cases s1 with
        | false=>
         rw [if_neg Bool.false_ne_true];exact q H1 sm1
        | true=>
         rw [if_pos rfl];exact ⟨_,rfl,_,rfl,ta,_,_,_,rfl,rfl,SqT.of (sm1 _ _ ea),Ge (j:=2) rfl,_,rfl,wb,l,t,e,r,u,vb,db,m2,s2,k,xs,rs,ns,ks,c,rfl,Wb.same sm1,gw,tb1.same sm1,w2,by lia,h2,Wy.same sm1,wf,nl,λH2 sm2=>⟨s2,rfl,q H2 (sm1.trans sm2)⟩⟩
end
end M
namespace M
open PySem L2
theorem Zan {i:Int}{c:Int}(hc:0<c):(i % c+1<c)↔¬ (i+1) % c=0:=by
 have h0:=Int.emod_nonneg i (show c≠0 by lia);have h1:=Int.emod_lt_of_pos i hc;have e:(i+1) % c=(i % c+1) % c:=by rw [Int.emod_add_emod]
 rw [e];by_cases z:i % c+1<c
 ·rw [Int.emod_eq_of_lt (by lia) z]
  lia
 ·have:i % c+1=c:=by lia
  rw [this,Int.emod_self]
  lia
section
variable {P:Program}{w:World}{K:W.Frag}{mg:Str->Option Value}{base:Heap}
theorem Zao (r c p:Nat):(Xj r c p).length<=2:=by
 unfold Xj;rw [List.length_append];split <;> split <;> simp
theorem VX (r c:Nat):∀i,(OL r c i).length<=2 * i
 | 0=>by simp [OL]
 | i+1=>by
  have h1:=VX r c i;have h2:=Zao r c i;rw [OA,List.length_append]
  lia
def Y4:Sp:=λvs H Q _=>∃(r c:Nat),vs=[.int (r:Int),.int (c:Int)]/\1<=r/\1<=c/\r<=16/\c<=16/\∀(p l:Addr)(xs:List V)(H':Hp),Same H H'->H p=none->H l=none->p≠l->H' p=some (.tup [.int ((r:Int) * (c:Int)),.ref l])->H' l=some (.lst xs)->Prs H' xs (OL r c (r * c))->Q (.ref p) H'
theorem scLGr:Gv ["rows", "columns", "roads", "place"] ["rows", "columns"] (Gg ZbG):=⟨rfl,rfl,rfl,by decide +kernel,rfl,by decide +kernel,by decide +kernel⟩
theorem Zaq {f:Addr}{fd:FuncData}(F:Fun K "_law_grid" "_law_grid" ZbG f fd)(mRange:mg "range" = none):GS P w K mg base CX0 1 f fd ["rows", "columns"] Y4:=by
 refine F.ok scLGr (λvs H Q E h=>?_) (λcdv A outer s H vs Q E hr h=>?_)
 ·obtain ⟨r,c,rfl,_⟩:=h
  rfl
 ·obtain ⟨r,c,rfl,hr1,hc1,hr2,hc2,q⟩:=h;refine ⟨_,Gh (GE (i:=2) scLGr.nd rfl (Or.inl rfl) (G8 Gf))
    (Gh (J1 PassesOwn.never rfl (Jn rfl mRange (Ga (GB JN (pv 0) (pv 1)) Gf)) (Gy (i:=3) scLGr.nd rfl (Or.inl rfl))
    (Gh (Jj (Gp U2 (GB Jp (GB G4 (pv 3) (pv 1)) Gc) (pv 1) (Gx _)) (Gi (Ji (Ou PySem.F.plainAttrs_list PySem.F.slot_list_append PySem.F.type_list_append G9 (pv 2) (Ga (Jf (Ga (pv 3) (Ga (GB Jp (pv 3) Gc) Gf))) Gf)))) GF)
    (Gi (Jj (Gp U2 (GB Jp (pv 3) (pv 1)) (GB JN (pv 0) (pv 1)) (Gx _)) (Gi (Ji (Ou PySem.F.plainAttrs_list PySem.F.slot_list_append PySem.F.type_list_append G9 (pv 2) (Ga (Jf (Ga (pv 3) (Ga (GB Jp (pv 3) (pv 1)) Gf))) Gf)))) GF))))
    (Gi (Gw (Jf (Ga (GB JN (pv 0) (pv 1)) (Ga (pv 2) Gf)))))),?_⟩
  refine ⟨Nat.zero_le _,λl hl=>?_⟩;have hrc:(r:Int) * (c:Int)=((r * c:Nat):Int):=by push_cast;rfl
  have hb:r * c<=16 * 16:=Nat.mul_le_mul hr2 hc2;have s0:Same H (upd H l (.lst [])):=Same.new hl;refine ⟨_,rfl,_,rfl,_,_,rfl,rfl,.inl ⟨by lia,by lia⟩,_,rfl,(by rw [hrc];lia),(by rw [hrc];lia),?_⟩;refine JG (lo:=0) (λi σ H2=>∃(xs:List V)(v:Option V),σ=[some (.int r),some (.int c),some (.ref l),v]/\Same H H2/\H2 l=some (.lst xs)/\Prs H2 xs (OL r c i))
   ⟨[],none,rfl,s0,Gb,.nil⟩ ?_ ?_
  ·rintro i σ H2 hi ⟨xs,v,rfl,s2,h2,p2⟩;have hi':i<r * c:=by rw [hrc,Int.toNat_natCast] at hi;exact hi
   rw [show (0:Int)+(i:Int)=(i:Int) by lia];have qJ:∀{zs:List V}{rs:List (Int×Int)}{H3:Hp},Prs H3 zs rs->rs.length<=2 * i+1->zs.length<sizeLine:=λp hq=>by
    have:=p.len;have h16:(16777216:Nat)=sizeLine:=sizeLine_eq.symm
    lia
   have hgl:=VX r c i;dsimp only [Jm];refine JA (λσ' H'=>∃xs:List V,σ'=[some (.int r),some (.int c),some (.ref l),some (.int i)]/\Same H H'/\H' l=some (.lst xs)/\Prs H' xs (OL r c i++(if ((i:Int)+1) % (c:Int)=0 then [] else [((i:Int),(i:Int)+1)]))) ?snd ?fst
   case fst=>
    intro hk;have hiff:((i:Int) % (c:Int)+1<(c:Int))↔¬ ((i:Int)+1) % (c:Int)=0:=Zan (by lia);refine ⟨_,rfl,_,rfl,_,_,rfl,rfl,(by show (0:Int)<(c:Int);lia),_,_,rfl,rfl,_,rfl,_,_,rfl,rfl,_,rfl,?_⟩;by_cases z:((i:Int)+1) % (c:Int)=0
    ·rw [decide_eq_false (λy=>hiff.mp y z)];refine GG (hk _ _ ?_);exact ⟨xs,rfl,s2,h2,by rw [if_pos z,List.append_nil];exact p2⟩
    ·rw [decide_eq_true (hiff.mpr z)];refine Jg ?_;refine ⟨_,rfl,.inl ⟨rfl,_,SqL.of h2⟩,_,rfl,_,rfl,_,_,rfl,rfl,Jr,λt ht=>?_⟩;have hne:l≠t:=λq=>by rw [q,ht] at h2;cases h2
     obtain ⟨a1,a2,a3⟩:=Wz (a:=(i:Int)) (b:=(i:Int)+1) s2 hl h2 p2 ht;refine ⟨l,xs,_,rfl,rfl,G0 h2 hne,qJ p2 (by lia),?_⟩;refine hk _ _ ?_;exact ⟨_,rfl,a1,a2,by rw [if_neg z];exact a3⟩
   case snd=>
    rintro σ' H3 ⟨xs,rfl,s3,h3,p3⟩;refine ⟨_,rfl,_,rfl,_,_,rfl,rfl,_,rfl,_,rfl,_,_,rfl,rfl,.inl ⟨by lia,by lia⟩,_,_,rfl,rfl,_,rfl,?_⟩;refine O4 (λz=>?_) (λz=>?_)
    ·have z':=of_decide_eq_true z;refine ⟨_,rfl,.inl ⟨rfl,_,SqL.of h3⟩,_,rfl,_,rfl,_,rfl,_,_,rfl,rfl,Jr,λt ht=>?_⟩;have hne:l≠t:=λq=>by rw [q,ht] at h3;cases h3
     obtain ⟨a1,a2,a3⟩:=Wz (a:=(i:Int)) (b:=(i:Int)+(c:Int)) s3 hl h3 p3 ht;refine ⟨l,xs,_,rfl,rfl,G0 h3 hne,qJ p3 (by rw [List.length_append];split <;> simp <;> lia),xs++[.ref t],_,rfl,a1,a2,?_⟩;rw [OA];unfold Xj;rw [if_pos z',<-List.append_assoc];exact a3
    ·have z':¬ ((i:Int)+(c:Int)<(r:Int) * (c:Int)):=λq=>z (decide_eq_true q);refine ⟨xs,_,rfl,s3,h3,?_⟩;rw [OA];unfold Xj;rw [if_neg z',List.append_nil];exact p3
  ·rintro σ H2 ⟨xs,v,rfl,s2,h2,p2⟩;refine ⟨_,rfl,_,rfl,_,_,rfl,rfl,.inl ⟨by lia,by lia⟩,_,rfl,Jr,λp hp=>?_⟩;have hne:l≠p:=λq=>by rw [q,hp] at h2;cases h2
   refine q p l xs _ (s2.put (s2.free hp)) (s2.free hp) hl (Ne.symm hne) Gb (G0 h2 hne) ?_;have p3:=p2.keep (Wx (o:=.tup [.int ((r:Int) * (c:Int)),.ref l]) hp);rw [show ((r:Int) * (c:Int)).toNat=r * c by rw [hrc,Int.toNat_natCast]] at p3;exact p3
end
end M
namespace M
open PySem L2
theorem WY {H:Hp}:∀{xs:List V}{rs:List (Int×Int)}(n:Nat),Prs H xs rs->Prs H (xs.drop n) (rs.drop n)
 | _,_,0,h=>h
 | _,_,_+1,.nil=>.nil
 | _,_,n+1,.cons _ t=>WY n t
theorem WZ {H:Hp}:∀{xs:List V}{rs:List (Int×Int)}(n:Nat),Prs H xs rs->Prs H (xs.take n) (rs.take n)
 | _,_,0,_=>.nil
 | _,_,_+1,.nil=>.nil
 | _,_,n+1,.cons e t=>.cons e (WZ n t)
def tri:Nat->Nat
 | 0=>0
 | n+1=>tri n+n
theorem Zef {p:Nat}(h:p<=5):tri p<=10:=by
 match p,h with
 | 0,_=>decide
 | 1,_=>decide
 | 2,_=>decide
 | 3,_=>decide
 | 4,_=>decide
 | 5,_=>decide
structure Lay2 (p i j:Nat)(rs:List (Int×Int)):Prop where
 r:∀q∈rs,0<=q.1/\q.1<q.2/\q.2<(p:Int)/\(q.1<(i:Int)\/(q.1=(i:Int)/\q.2<(i:Int)+1+(j:Int)))
 nd:rs.Nodup
theorem Lay2.next {p i j:Nat}{rs:List (Int×Int)}(h:Lay2 p i j rs):Lay2 p i (j+1) rs:=⟨λq hq=>by have:=h.r q hq;lia,h.nd⟩
theorem Lay2.up {p i j:Nat}{rs:List (Int×Int)}(h:Lay2 p i j rs):Lay2 p (i+1) 0 rs:=⟨λq hq=>by have:=h.r q hq;lia,h.nd⟩
theorem Lay2.put {p i j n:Nat}{rs:List (Int×Int)}(h:Lay2 p i j rs)(hp:i+1+j<p):Lay2 p i (j+1) (rs.take n++[((i:Int),(i:Int)+1+(j:Int))]++rs.drop n):=by
 have pm:(rs.take n++[((i:Int),(i:Int)+1+(j:Int))]++rs.drop n).Perm (((i:Int),(i:Int)+1+(j:Int))::rs):=by
  rw [List.append_assoc,List.singleton_append];refine List.perm_middle.trans ?_;rw [List.take_append_drop]
 refine ⟨λq hq=>?_,pm.nodup_iff.mpr (List.nodup_cons.mpr ⟨λz=>?_,h.nd⟩)⟩
 ·rcases List.mem_cons.mp (pm.mem_iff.mp hq) with rfl | hq
  ·refine ⟨by show (0:Int)<=i;lia,by show (i:Int)<i+1+j;lia,by show (i:Int)+1+j<p;lia,.inr ⟨rfl,by show (i:Int)+1+j<i+1+((j+1:Nat):Int);lia⟩⟩
  ·have:=h.r q hq;lia
 ·have:=(h.r _ z).2.2.2;rcases this with e | ⟨_,e⟩
  ·have e:(i:Int)<i:=e;lia
  ·have e:(i:Int)+1+j<i+1+j:=e;lia
section
variable {P:Program}{w:World}{K:W.Frag}{mg:Str->Option Value}{base:Heap}
def Zeg:Sp:=λvs H Q _=>∃c:Int,vs=[.int c]/\∀(wb l:Addr)(k:Int)(xs:List V)(rs:List (Int×Int))(H':Hp),Same H H'->WebAt H' wb l k xs rs->Gz k rs->k<=8->Q (.ref wb) H'
theorem scWeb:Gv ["cell", "xs", "places", "roads", "at", "one", "other", "here"] ["cell"] (Gg ZbH):=⟨rfl,rfl,rfl,by decide +kernel,rfl,by decide +kernel,by decide +kernel⟩
theorem Zeh {f fN fGr:Addr}{fd fdN fdGr:FuncData}(F:Fun K "_law_web" "_law_web" ZbH f fd)(FN:Fun K "_law_numbers" "_law_numbers" ZaI fN fdN)(bN:Binds K fdN ["cell", "many"] [])(mN:mg "_law_numbers" = some (.ref fN))(GN:GS P w K mg base CX0 1 fN fdN ["cell", "many"] Zb7)(FGr:Fun K "_law_grid" "_law_grid" ZbG fGr fdGr)(bGr:Binds K fdGr ["rows", "columns"] [])(mGr:mg "_law_grid" = some (.ref fGr))(GGr:GS P w K mg base CX0 1 fGr fdGr ["rows", "columns"] Y4)(mRange:mg "range" = none)(mLen:mg "len" = none):GS P w K mg base CX0 2 f fd ["cell"] Zeg:=by
 refine F.ok scWeb (λvs H Q E h=>?_) (λcdv A outer s H vs Q E hr h=>?_)
 ·obtain ⟨_,rfl,_⟩:=h
  rfl
 ·obtain ⟨cl,rfl,q⟩:=h;have h16:(16777216:Nat)=sizeLine:=sizeLine_eq.symm;refine ⟨_,Gh (GE (i:=1) scWeb.nd rfl (Or.inl rfl) (Gs GN (hr.mono (by decide)) rfl mN FN.kp bN .nil G2 (Ga (pv 0) (Ga Gc Gf))))
    (Gh (Jj (Gp Jv (GB G4 (Gj (Jt K) (pv 1) Gc (λ_ _=>rfl)) Gc) Gc (Gx _)) (Gi (Gw (Gs GGr (hr.mono (by decide)) rfl mGr FGr.kp bGr .nil G2 (Ga (Gj (Jt K) (G8 (Ga Gc (Ga Gc (Ga Gc (Ga Gc (Ga Gc (Ga Gc Gf))))))) (GB G4 (Gj (Jt K) (pv 1) Gc (λ_ _=>rfl)) Gc) (λ_ _=>rfl)) (Ga (Gj (Jt K) (G8 (Ga Gc (Ga Gc (Ga Gc (Ga Gc (Ga Gc (Ga Gc Gf))))))) (GB G4 (Gj (Jt K) (pv 1) Gc (λ_ _=>rfl)) Gc) (λ_ _=>rfl)) Gf))))) GF)
    (Gh (GE (i:=2) scWeb.nd rfl (Or.inl rfl) (GB Jp Gc (GB G4 (GB Jp (GB U6 (Gj (Jt K) (pv 1) Gc (λ_ _=>rfl)) Gc) Gc) Gc)))
    (Gh (GE (i:=3) scWeb.nd rfl (Or.inl rfl) (G8 Gf))
    (Gh (GE (i:=4) scWeb.nd rfl (Or.inl rfl) Gc)
    (Gh (J1 PassesOwn.never rfl (Jn rfl mRange (Ga (pv 2) Gf)) (Gy (i:=5) scWeb.nd rfl (Or.inl rfl))
    (Gi (J1 PassesOwn.never rfl (Vq rfl mRange (Ga (GB Jp (pv 5) Gc) (Ga (pv 2) Gf))) (Gy (i:=6) scWeb.nd rfl (Or.inl rfl))
    (Gh (Jj (Gp Xc (GB G4 (Gj (Jt K) (pv 1) (pv 4) (λ_ _=>rfl)) (Gj (Jt K) (G8 (Ga Gc (Ga Gc (Ga Gc Gf)))) (GB G4 (Gj (Jt K) (pv 1) Gc (λ_ _=>rfl)) Gc) (λ_ _=>rfl))) Gc (Gx _)) (Gh (GE (i:=7) scWeb.nd rfl (Or.inl rfl) (GB G4 (Gj (Jt K) (pv 1) (GB Jp (pv 4) Gc) (λ_ _=>rfl)) (GB Jp (Gk (O5 K) rfl mLen PySem.boot_len (Ga (pv 3) Gf)) Gc)))
    (Gi (GE (i:=3) scWeb.nd rfl (Or.inl rfl) (GB Uk (GB Uk (Js (kSl K) (pv 3) JJ (Jy (pv 7))) (G8 (Ga (Jf (Ga (pv 5) (Ga (pv 6) Gf))) Gf))) (Js (kSl K) (pv 3) (Jy (pv 7)) JJ))))) GF)
    (Gi (GE (i:=4) scWeb.nd rfl (Or.inl rfl) (GB Jp (pv 4) Gc)))))))
    (Gi (Gw (Jf (Ga (pv 2) (Ga (pv 3) Gf)))))))))),?_⟩
  refine ⟨_,rfl,cl,24,rfl,by decide,λxl row H1 s1 exl hrow=>?_⟩;dsimp only [Jm];refine ⟨_,rfl,xl,_,_,_,rfl,rfl,SqL.of exl,GW (by decide) (by lia),_,_,rfl,rfl,(by show (0:Int)<8;decide),rfl,_,rfl,O4 (λ_=>?_) (λ_=>?_)⟩
  ·refine ⟨(by show 6<=sizeLine;lia),λp1 hp1=>?_⟩;have s2:Same H1 (upd H1 p1 (.lst [.int 2,.int 3,.int 2,.int 1,.int 3,.int 2])):=Same.new hp1;have e2:upd H1 p1 (.lst [.int 2,.int 3,.int 2,.int 1,.int 3,.int 2]) p1=some (.lst [.int 2,.int 3,.int 2,.int 1,.int 3,.int 2]):=Gb;generalize upd H1 p1 (.lst [.int 2,.int 3,.int 2,.int 1,.int 3,.int 2])=H2 at s2 e2 ⊢;have z0:0<=row.getD (1:Int).toNat 0 % 6:=Int.emod_nonneg _ (by decide);have z1:row.getD (1:Int).toNat 0 % 6<6:=Int.emod_lt_of_pos _ (by decide);obtain ⟨r,c,er,ec,hr1,hr3,hc1,hc4,h8⟩:∃r c:Nat,atI [V.int 2,.int 3,.int 2,.int 1,.int 3,.int 2] (row.getD (1:Int).toNat 0 % 6)=some (.int (r:Int))/\atI [V.int 3,.int 2,.int 4,.int 4,.int 1,.int 2] (row.getD (1:Int).toNat 0 % 6)=some (.int (c:Int))/\1<=r/\r<=3/\1<=c/\c<=4/\r * c<=8:=by
    generalize row.getD (1:Int).toNat 0 % 6=j at z0 z1;rcases (by lia:j=0\/j=1\/j=2\/j=3\/j=4\/j=5) with rfl | rfl | rfl | rfl | rfl | rfl
    ·exact ⟨2,3,Ge (j:=0) rfl,Ge (j:=0) rfl,by decide⟩
    ·exact ⟨3,2,Ge (j:=1) rfl,Ge (j:=1) rfl,by decide⟩
    ·exact ⟨2,4,Ge (j:=2) rfl,Ge (j:=2) rfl,by decide⟩
    ·exact ⟨1,4,Ge (j:=3) rfl,Ge (j:=3) rfl,by decide⟩
    ·exact ⟨3,1,Ge (j:=4) rfl,Ge (j:=4) rfl,by decide⟩
    ·exact ⟨2,2,Ge (j:=5) rfl,Ge (j:=5) rfl,by decide⟩
   refine ⟨_,rfl,xl,_,_,_,rfl,rfl,SqL.of (s2 _ _ exl),GW (by decide) (by lia),_,_,rfl,rfl,(by show (0:Int)<6;decide),p1,_,_,_,rfl,rfl,SqL.of e2,er,?_⟩;refine ⟨(by show 6<=sizeLine;lia),λp2 hp2=>?_⟩;have s3:Same H2 (upd H2 p2 (.lst [.int 3,.int 2,.int 4,.int 4,.int 1,.int 2])):=Same.new hp2;refine ⟨_,rfl,xl,_,_,_,rfl,rfl,SqL.of (s3 _ _ (s2 _ _ exl)),GW (by decide) (by lia),_,_,rfl,rfl,(by show (0:Int)<6;decide),p2,_,_,_,rfl,rfl,SqL.of Gb,ec,?_⟩;refine ⟨r,c,rfl,hr1,hc1,by lia,by lia,λp l xs H4 s4 hp hl hne e1 e2' pr=>?_⟩;refine q p l _ xs _ H4 ((s1.trans s2).trans (s3.trans s4)) ⟨e1,e2',pr⟩ (X6 hr1 hr3 hc1 hc4) ?_;have:((r:Int) * (c:Int))=((r * c:Nat):Int):=by push_cast;rfl
   lia
  ·dsimp only [Zf];refine ⟨_,rfl,xl,_,_,_,rfl,rfl,SqL.of exl,GW (by decide) (by lia),_,_,rfl,rfl,⟨by decide,Vn⟩,_,_,rfl,rfl,_,_,rfl,rfl,(by show (0:Int)<5;decide),_,_,rfl,rfl,?_⟩;obtain ⟨p,hp,hp1,hp5⟩:∃p:Nat,1+(row.getD (0:Int).toNat 0 / 8+3) % 5=(p:Int)/\1<=p/\p<=5:=by
    have z0:0<=(row.getD (0:Int).toNat 0 / 8+3) % 5:=Int.emod_nonneg _ (by decide);have z1:(row.getD (0:Int).toNat 0 / 8+3) % 5<5:=Int.emod_lt_of_pos _ (by decide);exact ⟨(1+(row.getD (0:Int).toNat 0 / 8+3) % 5).toNat,by lia,by lia,by lia⟩
   dsimp only [Jm];rw [hp];have t10:=Zef hp5;refine ⟨Nat.zero_le _,λrd hrd=>?_⟩;have s2:Same H1 (upd H1 rd (.lst [])):=Same.new hrd;have e2:upd H1 rd (.lst []) rd=some (.lst []):=Gb;generalize upd H1 rd (.lst [])=H2 at s2 e2 ⊢;dsimp only [Jm];refine ⟨_,rfl,_,rfl,by lia,by lia,?_⟩;rw [Int.toNat_natCast];refine JG (lo:=0) (n:=p) (λi σ' H'=>∃(rd:Addr)(xs:List V)(rs:List (Int×Int))(cnt:Nat)(v5 v6 v7:Option V),σ'=[some (.int cl),some (.ref xl),some (.int (p:Int)),some (.ref rd),some (.int (2+2 * (cnt:Int))),v5,v6,v7]/\Same H1 H'/\H' rd=some (.lst xs)/\Prs H' xs rs/\Lay2 p i 0 rs/\rs.length<=cnt/\cnt+tri (p-i)=tri p) ⟨rd,[],[],0,none,none,none,rfl,s2,e2,.nil,⟨λq hq=>(by cases hq),List.nodup_nil⟩,Nat.le_refl _,by rw [Nat.zero_add];rfl⟩ ?_ ?_
   ·rintro i σ' H3 hi ⟨rd,xs,rs,cnt,v5,v6,v7,rfl,s3,e3,pr,L,hrs,hcnt⟩;rw [Int.zero_add];dsimp only [Jm];have htri:tri (p-i)=tri (p-i-1)+(p-i-1):=by
     obtain ⟨m,hm⟩:∃m,p-i=m+1:=⟨p-i-1,by lia⟩;rw [hm]
     rfl
    refine ⟨_,rfl,_,_,rfl,rfl,_,rfl,_,_,rfl,⟨by lia,by lia,by lia,by lia⟩,?_⟩;rw [show ((p:Int)-((i:Int)+1)).toNat=p-i-1 by lia];refine JG (lo:=(i:Int)+1) (n:=p-i-1) (λj σ' H'=>∃(rd:Addr)(xs:List V)(rs:List (Int×Int))(cnt:Nat)(v6 v7:Option V),σ'=[some (.int cl),some (.ref xl),some (.int (p:Int)),some (.ref rd),some (.int (2+2 * (cnt:Int))),some (.int (i:Int)),v6,v7]/\Same H1 H'/\H' rd=some (.lst xs)/\Prs H' xs rs/\Lay2 p i j rs/\rs.length<=cnt/\cnt+(p-i-1-j)+tri (p-i-1)=tri p) ⟨rd,xs,rs,cnt,v6,v7,rfl,s3,e3,pr,L,hrs,by lia⟩ ?_ ?_
    ·rintro j σ' H4 hj ⟨rd,xs,rs,cnt,v6,v7,rfl,s4,e4,pr,L,hrs,hcnt⟩;dsimp only [Jm];have hc9:cnt<=9:=by lia
     have exl4:=s4 _ _ exl;refine JA (λσ' H'=>∃(rd:Addr)(xs:List V)(rs:List (Int×Int))(v7:Option V),σ'=[some (.int cl),some (.ref xl),some (.int (p:Int)),some (.ref rd),some (.int (2+2 * (cnt:Int))),some (.int (i:Int)),some (.int ((i:Int)+1+(j:Int))),v7]/\Same H1 H'/\H' rd=some (.lst xs)/\Prs H' xs rs/\Lay2 p i (j+1) rs/\rs.length<=cnt+1) ?_ ?_
     case _=>
      rintro σ' H5 ⟨rd,xs,rs,v7,rfl,s5,e5,pr,L,hrs⟩;refine ⟨_,rfl,_,_,rfl,rfl,?_⟩;refine ⟨rd,xs,rs,cnt+1,some (.int ((i:Int)+1+(j:Int))),v7,?_,s5,e5,pr,L,hrs,by lia⟩;show [some (V.int cl),some (.ref xl),some (.int (p:Int)),some (.ref rd),some (.int (2+2 * (cnt:Int)+2)),some (.int (i:Int)),some (.int ((i:Int)+1+(j:Int))),v7]=_;rw [show (2:Int)+2 * (cnt:Int)+2=2+2 * ((cnt+1:Nat):Int) by lia]
     ·intro J;refine ⟨_,rfl,_,rfl,xl,_,_,_,rfl,rfl,SqL.of exl4,GW (by lia) (by lia),(by show 3<=sizeLine;lia),λp3 hp3=>?_⟩;have s5:Same H4 (upd H4 p3 (.lst (([2,4,6]:List Int).map V.int))):=Same.new hp3;obtain ⟨m,hm,em⟩:=Y0 [2,4,6] (j:=row.getD (1:Int).toNat 0 % 3) (Int.emod_nonneg _ (by decide)) (Int.emod_lt_of_pos _ (by decide));have hm0:0<m:=by simp at hm;lia
      have exl5:=s5 _ _ exl4;refine ⟨_,rfl,xl,_,_,_,rfl,rfl,SqL.of exl5,GW (by decide) (by lia),_,_,rfl,rfl,(by show (0:Int)<3;decide),p3,_,_,_,rfl,rfl,SqL.of Gb,em,_,_,rfl,rfl,hm0,rfl,_,rfl,?_⟩;have S5:=s4.trans s5;have e5:=s5 _ _ e4;have pr5:=pr.same s5;change if _ then Zeq _ _ _ _ (upd H4 p3 (.lst (([2,4,6]:List Int).map V.int))) else Zf _ _ (upd H4 p3 (.lst (([2,4,6]:List Int).map V.int)))
      generalize upd H4 p3 (.lst (([2,4,6]:List Int).map V.int))=H5 at s5 exl5 S5 e5 pr5 ⊢;refine O4 (λ_=>?_) (λ_=>J _ _ ⟨rd,xs,rs,_,rfl,S5,e5,pr5,L.next,by lia⟩);have hxl:=pr5.len;have hpos:(0:Int)<(xs.length:Int)+1:=by lia
      refine ⟨_,rfl,_,rfl,_,_,rfl,rfl,xl,_,_,_,rfl,rfl,SqL.of exl5,GW (by lia) (by lia),_,rfl,rd,_,rfl,.inl (SqL.of e5),_,_,rfl,rfl,_,_,rfl,rfl,hpos,?_⟩;obtain ⟨h,hh⟩:=Int.eq_ofNat_of_zero_le (Int.emod_nonneg (row.getD (2+2 * (cnt:Int)+1).toNat 0) (Int.ne_of_gt hpos));dsimp only [Jm];rw [hh];refine ⟨_,rfl,_,rfl,_,rfl,rd,_,rfl,SqL.of e5,λq1 hq1=>?_⟩;rw [show OV xs none (some (h:Int))=xs.take h from WB];have t1:Same H5 (upd H5 q1 (.lst (xs.take h))):=Same.new hq1;have f1:upd H5 q1 (.lst (xs.take h)) q1=some (.lst (xs.take h)):=Gb;generalize upd H5 q1 (.lst (xs.take h))=H6 at t1 f1 ⊢;refine ⟨_,rfl,_,rfl,Jr,λq2 hq2=>?_⟩;have t2:Same H6 (upd H6 q2 (.tup [.int (i:Int),.int ((i:Int)+1+(j:Int))])):=Same.new hq2;have f2:upd H6 q2 (.tup [.int (i:Int),.int ((i:Int)+1+(j:Int))]) q2=some (.tup [.int (i:Int),.int ((i:Int)+1+(j:Int))]):=Gb;generalize upd H6 q2 (.tup [.int (i:Int),.int ((i:Int)+1+(j:Int))])=H7 at t2 f2 ⊢;refine ⟨(by show 1<=sizeLine;lia),λq3 hq3=>?_⟩;have t3:Same H7 (upd H7 q3 (.lst [.ref q2])):=Same.new hq3;have f3:upd H7 q3 (.lst [.ref q2]) q3=some (.lst [.ref q2]):=Gb;generalize upd H7 q3 (.lst [.ref q2])=H8 at t3 f3 ⊢;have ht:(xs.take h).length<=10:=by rw [List.length_take];lia
      have hd:(xs.drop h).length<=10:=by rw [List.length_drop];lia
      refine ⟨q1,q3,_,_,rfl,rfl,t3 _ _ (t2 _ _ f1),f3,by rw [List.length_singleton];lia,λq4 hq4=>?_⟩;have t4:Same H8 (upd H8 q4 (.lst (xs.take h++[.ref q2]))):=Same.new hq4;have f4:upd H8 q4 (.lst (xs.take h++[.ref q2])) q4=some (.lst (xs.take h++[.ref q2])):=Gb;generalize upd H8 q4 (.lst (xs.take h++[.ref q2]))=H9 at t4 f4 ⊢;have T4:=(t1.trans t2).trans (t3.trans t4);refine ⟨_,rfl,_,rfl,_,rfl,rd,_,rfl,SqL.of (T4 _ _ e5),λq5 hq5=>?_⟩;rw [show OV xs (some (h:Int)) none=xs.drop h from OM];have t5:Same H9 (upd H9 q5 (.lst (xs.drop h))):=Same.new hq5;have f5:upd H9 q5 (.lst (xs.drop h)) q5=some (.lst (xs.drop h)):=Gb;generalize upd H9 q5 (.lst (xs.drop h))=HA at t5 f5 ⊢;refine ⟨q4,q5,_,_,rfl,rfl,t5 _ _ f4,f5,by rw [List.length_append,List.length_singleton];lia,λq6 hq6=>?_⟩;have t6:=Same.new (o:=.lst (xs.take h++[.ref q2]++xs.drop h)) hq6;have T6:=(T4.trans t5).trans t6;have T26:=((t3.trans t4).trans t5).trans t6;refine J _ _ ⟨q6,_,rs.take h++[((i:Int),(i:Int)+1+(j:Int))]++rs.drop h,_,rfl,S5.trans T6,Gb,?_,L.put (by lia),?_⟩
      ·have prT:=pr5.same T6;exact ((WZ h prT).app (.cons (T26 _ _ f2) .nil)).app (WY h prT)
      ·rw [List.length_append,List.length_append,List.length_take,List.length_drop,List.length_singleton]
       lia
    ·rintro σ' H4 ⟨rd,xs,rs,cnt,v6,v7,rfl,s4,e4,pr,L,hrs,hcnt⟩;refine ⟨rd,xs,rs,cnt,_,_,_,rfl,s4,e4,pr,L.up,hrs,?_⟩;rw [show p-(i+1)=p-i-1 by lia]
     lia
   ·rintro σ' H3 ⟨rd,xs,rs,cnt,v5,v6,v7,rfl,s3,e3,pr,L,hrs,hcnt⟩;refine ⟨_,rfl,_,rfl,Jr,λwb hwb=>?_⟩;have s4:=Same.new (o:=.tup [.int (p:Int),.ref rd]) hwb;refine q wb rd p xs rs _ (s1.trans (s3.trans s4)) ⟨Gb,s4 _ _ e3,pr.same s4⟩ ⟨by lia,by lia,by lia,λr hr=>?_,L.nd⟩ (by lia);have:=L.r r hr;exact ⟨this.1,this.2.1,this.2.2.1⟩
end
end M
namespace M
open PySem L2
theorem ZaQ {K:W.Frag}{tb a:Addr}{H0 H:Hp}{xs:List V}{ps:Array Value}(q:SqL K H0 a xs)(s:SameL tb H0 H)(e0:H0 tb=some (.tbl ps)):SqL K H a xs:=by
 rcases q with (e | ⟨o,e⟩) | e
 ·exact .inl (.inl (s _ _ (λz=>by rw [z,e0] at e;cases e) e))
 ·exact .inl (.inr ⟨o,s _ _ (λz=>by rw [z,e0] at e;cases e) e⟩)
 ·exact .inr e
theorem WebAt.sl {tb wb l:Addr}{H0 H:Hp}{k:Int}{xs:List V}{rs:List (Int×Int)}{ps:Array Value}(h:WebAt H0 wb l k xs rs)(s:SameL tb H0 H)(e0:H0 tb=some (.tbl ps)):WebAt H wb l k xs rs:=⟨s.tup e0 h.w,s.lst e0 h.l,h.p.keep λ_ _ e=>s.tup e0 e⟩
theorem Wqs.sl {tb:Addr}{H0 H:Hp}{k:Int}{rs:List (Int×Int)}{qs:List Wq}{ps:Array Value}(h:Wqs H0 k rs qs)(s:SameL tb H0 H)(e0:H0 tb=some (.tbl ps)):Wqs H k rs qs:=λq hq=>by
 obtain ⟨W,z⟩:=h q hq;exact ⟨⟨s.tup e0 W.t,s.lst e0 W.e,s.lst e0 W.r,s.lst e0 W.u⟩,z⟩
theorem Zfe {qs:List Wq}{j:Int}(h0:0<=j)(h1:j<(qs.length:Int)):∃q∈qs,atI (qs.map λq=>V.ref q.t) j=some (.ref q.t):=by
 obtain ⟨n,rfl⟩:=Int.eq_ofNat_of_zero_le h0;have hn:n<qs.length:=by lia
 refine ⟨qs[n],List.getElem_mem hn,Ge ?_⟩;rw [List.getElem?_map,List.getElem?_eq_getElem hn]
 rfl
theorem WayK.facts {k:Int}{rs:List (Int×Int)}{ks ns:List Int}{c:Bool}(g:Gz k rs)(h:WayK k rs ks ns c):WF k rs ns ks c/\1<=ks.length/\ns.length<=16/\ks.length<=16/\(c=false->Ends k (ns.getD 0 0) (ns.getD (ns.length-1) 0)):=by
 have wf:=h.wf g;have hl:=wf.len;have hk:=g.2.1;have nl:ns.length<=16:=by
  have:=VT wf.nd (m:=(List.range k.toNat).map λ(i:Nat)=>(i:Int)) λy hy=>by
   obtain ⟨h1,h2⟩:=wf.rg y hy;exact List.mem_map.mpr ⟨y.toNat,List.mem_range.mpr (by lia),by lia⟩
  rw [List.length_map,List.length_range] at this
  lia
 refine ⟨wf,?_,nl,by split at hl <;> lia,λz=>?_⟩
 ·cases c with
  | true=>
   have R:=(h.2.2.2 rfl).1;rw [if_pos rfl] at hl
   lia
  | false=>
   obtain ⟨p,q,tl,e,hpq,E,W⟩:=h.2.2.1 rfl;rw [if_neg Bool.false_ne_true] at hl;have h0:=W.2.1;have h1:=W.2.2.1;by_cases z:ns.length=1
   ·rw [z] at h1;have:p=q:=h0.symm.trans h1
    lia
   ·have:=List.length_pos_iff.mpr wf.ne
    lia
 ·obtain ⟨p,q,tl,e,hpq,E,W⟩:=h.2.2.1 z;rw [W.2.1,W.2.2.1];exact E
def HdAt (k:Int)(rs:List (Int×Int))(qs:List Wq)(H:Hp)(x:V):Prop:=∃(p:Addr)(v:V)(d:PyData)(b:Bool)(q:Wq),x=.ref p/\H p=some (.tup [v,.ref q.t,.bl b])/\Th H v d/\Gd k rs.length 7 d/\q∈qs/\Hs (λwd rest=>We wd k rs q.ns q.ks rest) d b
theorem HdAt.keep {k:Int}{rs:List (Int×Int)}{qs:List Wq}{H H':Hp}(s:∀t ys,H t=some (.tup ys)->H' t=some (.tup ys)){x:V}(h:HdAt k rs qs H x):HdAt k rs qs H' x:=by
 obtain ⟨p,v,d,b,q,e1,e2,th,g,hq,hb⟩:=h;exact ⟨p,v,d,b,q,e1,s _ _ e2,g.keep s th,g,hq,hb⟩
structure Env (tb hl:Addr)(k:Int)(rs:List (Int×Int))(qs:List Wq)(H0 H:Hp)(us:List V):Prop where
 s:SameL tb H0 H
 tab:TabX tb H
 hl:H hl=some (.lst us)
 held:∀x∈us,HdAt k rs qs H x
theorem Env.same {tb hl:Addr}{k:Int}{rs:List (Int×Int)}{qs:List Wq}{H0 H H':Hp}{us:List V}(h:Env tb hl k rs qs H0 H us)(s:Same H H'):Env tb hl k rs qs H0 H' us:=⟨h.s.trans (SameL.of s),h.tab.same s,s _ _ h.hl,λx hx=>(h.held x hx).keep λt ys e=>s _ _ e⟩
theorem Env.sl {tb hl:Addr}{k:Int}{rs:List (Int×Int)}{qs:List Wq}{H0 H H':Hp}{us:List V}(h:Env tb hl k rs qs H0 H us)(s:SameL tb H H')(t:TabX tb H'):Env tb hl k rs qs H0 H' us:=by
 obtain ⟨ps,hp⟩:=h.tab.tbl;exact ⟨h.s.trans s,t,s.lst hp h.hl,λx hx=>(h.held x hx).keep λt ys e=>s.tup hp e⟩
theorem Zar {tb D:Addr}{H:Hp}{ys zs:List V}(h:TabX tb H)(e:H D=some (.lst ys)):TabX tb (upd H D (.lst zs)):=by
 obtain ⟨es,on,hes⟩:=h;refine ⟨es,⟨by rw [Gu (λz=>by have:=on.1;rw [z,e] at this;cases this)];exact on.1,λy hy=>?_⟩,hes⟩;obtain ⟨oc,z1,z2⟩:=on.2 y hy;exact ⟨oc,by rw [Gu (λz=>by rw [z,e] at z1;cases z1)];exact z1,z2⟩
section
variable {P:Program}{w:World}{K:W.Frag}{mg:Str->Option Value}{base:Heap}
def Zas (K:W.Frag)(tb:Addr):Sp:=λvs H Q _=>∃(a:Addr)(ns:List Int),vs=[.ref a]/\SqL K H a (ns.map V.int)/\ns.length<=63/\H tb=some (.tbl #[])/\∀H',Q (.bl true) H'
theorem scLaw:Gv ["script", "web", "ways", "held", "k", "xs", "wish", "some", "way", "found"] ["script"] (Gg Z1):=⟨rfl,rfl,rfl,by decide +kernel,rfl,by decide +kernel,by decide +kernel⟩
theorem Zei {f fA fN fWe fWy fWs fHs fWd tb:Addr}{fd fdA fdN fdWe fdWy fdWs fdHs fdWd:FuncData}(F:Fun K "law" "law" Z1 f fd)(FA:Fun K "_law_cell_at" "_law_cell_at" ZbF fA fdA)(bA:Binds K fdA ["script", "k"] [])(mA:mg "_law_cell_at" = some (.ref fA))(GA:GS P w K mg base CX0 1 fA fdA ["script", "k"] (Zd0 K))(FN:Fun K "_law_numbers" "_law_numbers" ZaI fN fdN)(bN:Binds K fdN ["cell", "many"] [])(mN:mg "_law_numbers" = some (.ref fN))(GN:GS P w K mg base CX0 1 fN fdN ["cell", "many"] Zb7)(FWe:Fun K "_law_web" "_law_web" ZbH fWe fdWe)(bWe:Binds K fdWe ["cell"] [])(mWe:mg "_law_web" = some (.ref fWe))(GWe:GS P w K mg base CX0 2 fWe fdWe ["cell"] Zeg)(FWy:Fun K "_law_ways" "_law_ways" ZaJ fWy fdWy)(bWy:Binds K fdWy ["web"] [])(mWy:mg "_law_ways" = some (.ref fWy))(GWy:GS P w K mg base CX0 1 fWy fdWy ["web"] ZdY)(FWs:Fun K "_law_wish" "_law_wish" ZbK fWs fdWs)(bWs:Binds K fdWs ["web", "xs", "many"] [])(mWs:mg "_law_wish" = some (.ref fWs))(GWs:GS P w K mg base CX0 2 fWs fdWs ["web", "xs", "many"] Zea)(FHs:Fun K "_law_has" "_law_has" ZbN fHs fdHs)(bHs:Binds K fdHs ["web", "wish", "way"] [])(mHs:mg "_law_has" = some (.ref fHs))(GHs:GS P w K mg base CX0 9 fHs fdHs ["web", "wish", "way"] (Zec 9))(FWd:Fun K "wished" "wished" ZaH fWd fdWd)(bWd:Binds K fdWd ["web", "wish", "roads"] [])(mWd:mg "wished" = some (.ref fWd))(GWd:GS P w K mg base CX0 7 fWd fdWd ["web", "wish", "roads"] (Zd8 tb))(mLen:mg "len" = none)(mRange:mg "range" = none)(mMax:mg "max" = none)(mLst:mg "list" = none)(mIsi:mg "isinstance" = none)(mBool:mg "bool" = none) :
  GS P w K mg base CX0 10 f fd ["script"] (Zas K tb):=by
 refine F.ok scLaw (λvs H Q E h=>?_) (λcdv A outer s H vs Q E hr h=>?_)
 ·obtain ⟨a,ns,rfl,_⟩:=h
  rfl
 obtain ⟨a,ns,rfl,hS,qJ,hT0,q⟩:=h;have h16:(16777216:Nat)=sizeLine:=sizeLine_eq.symm;have hu:=hr.units;refine ⟨_,(@Gh _ _ _ _ _ (@GE _ _ 1 _ _ _ _ scLaw.nd rfl (Or.inl rfl) (@Gs _ _ _ _ _ _ _ _ _ _ _ _ _ _ _ _ GWe (hr.mono (by decide)) rfl mWe FWe.kp bWe .nil G2 (@Ga _ _ _ _ _ (@Gs _ _ _ _ _ _ _ _ _ _ _ _ _ _ _ _ GA (hr.mono (by decide)) rfl mA FA.kp bA .nil G2 (@Ga _ _ _ _ _ (pv 0) (@Ga _ _ _ _ _ Gc Gf rfl) rfl) (by decide) rfl rfl) Gf rfl) (by decide) rfl rfl) rfl (by first | exact .inl rfl | exact .inr rfl))
    (@Gh _ _ _ _ _ (@GE _ _ 2 _ _ _ _ scLaw.nd rfl (Or.inr rfl) (@Gs _ _ _ _ _ _ _ _ _ _ _ _ _ _ _ _ GWy (hr.mono (by decide)) rfl mWy FWy.kp bWy .nil G2 (@Ga _ _ _ _ _ (pv 1) Gf rfl) (by decide) rfl rfl) rfl (by first | exact .inl rfl | exact .inr rfl))
    (@Gh _ _ _ _ _ (@GE _ _ 3 _ _ _ _ scLaw.nd rfl (Or.inl rfl) (@G8 _ _ _ _ Gf) rfl (by first | exact .inl rfl | exact .inr rfl))
    (@Gh _ _ _ _ _ (@J1 _ _ _ _ _ _ _ _ PassesOwn.never rfl (Vq rfl mRange (@Ga _ _ _ _ _ Gc (@Ga _ _ _ _ _ (Gk (Og rfl) rfl mMax OO (@Ga _ _ _ _ _ Gc (@Ga _ _ _ _ _ (Gk (O5 K) rfl mLen PySem.boot_len (@Ga _ _ _ _ _ (pv 0) Gf rfl)) Gf rfl) rfl)) Gf rfl) rfl)) (Gy (i:=4) scLaw.nd rfl (Or.inl rfl))
    (@Gh _ _ _ _ _ (@GE _ _ 5 _ _ _ _ scLaw.nd rfl (Or.inr rfl) (@Gs _ _ _ _ _ _ _ _ _ _ _ _ _ _ _ _ GN (hr.mono (by decide)) rfl mN FN.kp bN .nil G2 (@Ga _ _ _ _ _ (@Gs _ _ _ _ _ _ _ _ _ _ _ _ _ _ _ _ GA (hr.mono (by decide)) rfl mA FA.kp bA .nil G2 (@Ga _ _ _ _ _ (pv 0) (@Ga _ _ _ _ _ (pv 4) Gf rfl) rfl) (by decide) rfl rfl) (@Ga _ _ _ _ _ Gc Gf rfl) rfl) (by decide) rfl rfl) rfl (by first | exact .inl rfl | exact .inr rfl))
    (@Gh _ _ _ _ _ (@GE _ _ 6 _ _ _ _ scLaw.nd rfl (Or.inl rfl) (@Gs _ _ _ _ _ _ _ _ _ _ _ _ _ _ _ _ GWs (hr.mono (by decide)) rfl mWs FWs.kp bWs .nil G2 (@Ga _ _ _ _ _ (pv 1) (@Ga _ _ _ _ _ (pv 5) (@Ga _ _ _ _ _ (@GB _ _ _ _ _ _ _ _ Jp Gc (@GB _ _ _ _ _ _ _ _ G4 (@Gj _ _ _ _ _ _ _ (Jt K) (pv 5) Gc (λ_ _=>rfl)) Gc)) Gf rfl) rfl) rfl) (by decide) rfl rfl) rfl (by first | exact .inl rfl | exact .inr rfl))
    (@Gh _ _ _ _ _ (@GE _ _ 7 _ _ _ _ scLaw.nd rfl (Or.inl rfl) (Js (kSl K) (pv 2) JJ (Jy Gc)) rfl (by first | exact .inl rfl | exact .inr rfl))
    (@Gh _ _ _ _ _ (@Jj _ _ _ _ _ _ _ _ (PW.pt (Ox (Gp Xd (pv 4) Gc (Gx _)) (Od (Gp (Zel K hu) (pv 2) (@G8 _ _ _ _ Gf) (Gx _))))) (@Gi _ _ _ (Um (i:=7) scLaw.nd rfl (Or.inl rfl) (own:=["j"]) rfl (Gr (fr:=[("ways", 2),("xs", 5)]) [(".0", .local),("j", .local),("len", .globalImplicit),("ways", .cell),("xs", .cell)] rfl rfl (by decide +kernel) rfl (by decide +kernel) ⟨rfl,rfl,trivial⟩ ⟨λh=>GT h,λh=>GT h,λh=>GT h,λ_=>⟨_,rfl⟩,λ_=>⟨_,rfl⟩,trivial⟩ ⟨⟨rfl,.inl rfl,.inl rfl⟩,⟨rfl,.inl rfl,.inl rfl⟩,trivial⟩) (Jn rfl mRange (@Ga _ _ _ _ _ Gc Gf rfl)) (λ_ _ _ _=>Gy (i:=0) (show List.Nodup (["j", "ways", "xs"]:List Str) by decide +kernel) rfl (Or.inl rfl)) (λ_ _ _ _=>Ja) (λ_ _ _ _=>@Gj _ _ _ _ _ _ _ (Jt K) (pv 1) (@GB _ _ _ _ _ _ _ _ G4 (@GB _ _ _ _ _ _ _ _ Jp (@Gj _ _ _ _ _ _ _ (Jt K) (pv 2) (@GB _ _ _ _ _ _ _ _ Jp Gc (pv 0)) (λ_ _=>rfl)) (@GB _ _ _ _ _ _ _ _ JN Gc (@Gj _ _ _ _ _ _ _ (Jt K) (pv 2) (@GB _ _ _ _ _ _ _ _ Vs Gc (pv 0)) (λ_ _=>rfl)))) (Gk (O5 K) rfl mLen PySem.boot_len (@Ga _ _ _ _ _ (pv 1) Gf rfl))) (λ_ _=>rfl)))) GF)
    (@Gi _ _ _ (@J1 _ _ _ _ _ _ _ _ PassesOwn.never rfl (Uq K (pv 7)) (Gy (i:=8) scLaw.nd rfl (Or.inl rfl))
    (@Gh _ _ _ _ _ (@GE _ _ 9 _ _ _ _ scLaw.nd rfl (Or.inl rfl) (@Gs _ _ _ _ _ _ _ _ _ _ _ _ _ _ _ _ GWd (hr.mono (by decide)) rfl mWd FWd.kp bWd .nil G2 (@Ga _ _ _ _ _ (@Jf _ _ _ _ _ (@Ga _ _ _ _ _ (@Gj _ _ _ _ _ _ _ (Je K) (pv 1) Gc (λ_ _=>rfl)) (@Ga _ _ _ _ _ (Jx (Up K) rfl mLst JP (@Ga _ _ _ _ _ (@Gj _ _ _ _ _ _ _ (Je K) (pv 1) Gc (λ_ _=>rfl)) Gf rfl)) Gf rfl) rfl)) (@Ga _ _ _ _ _ (pv 6) (@Ga _ _ _ _ _ (Jx (Up K) rfl mLst JP (@Ga _ _ _ _ _ (@Gj _ _ _ _ _ _ _ (Je K) (pv 8) Gc (λ_ _=>rfl)) Gf rfl)) Gf rfl) rfl) rfl) (by decide) rfl rfl) rfl (by first | exact .inl rfl | exact .inr rfl))
    (@Gh _ _ _ _ _ (@Jj _ _ _ _ _ _ _ _ (PW.pt (OU (OZ (OE (Gk (ZfT K) rfl mIsi Zp (@Ga _ _ _ _ _ (pv 9) (@Ga _ _ _ _ _ (ZcM mBool X5) Gf rfl) rfl)))) (Ow (Gp Xc (pv 9) (@Gs _ _ _ _ _ _ _ _ _ _ _ _ _ _ _ _ GHs (hr.mono (by decide)) rfl mHs FHs.kp bHs .nil G2 (@Ga _ _ _ _ _ (pv 1) (@Ga _ _ _ _ _ (pv 6) (@Ga _ _ _ _ _ (pv 8) Gf rfl) rfl) rfl) (by decide) rfl rfl) (Gx _))))) (@Gi _ _ _ (@Gw _ _ _ _ Vp)) GF)
    (@Gi _ _ _ (Ji (Ou PySem.F.plainAttrs_list PySem.F.slot_list_append PySem.F.type_list_append G9 (pv 3) (@Ga _ _ _ _ _ (@Jf _ _ _ _ _ (@Ga _ _ _ _ _ (pv 6) (@Ga _ _ _ _ _ (pv 8) (@Ga _ _ _ _ _ (pv 9) Gf rfl) rfl) rfl)) Gf rfl)))))) (by intro _;rfl))))))) (by intro _;rfl))
    (@Gh _ _ _ _ _ (@J1 _ _ _ _ _ _ _ _ PassesOwn.never rfl (Uq K (Js (kSl K) (pv 3) JJ (Jy Gc))) (Zaz K (n:=3) rfl (G7 (Gy (i:=6) scLaw.nd rfl (Or.inl rfl)) (G7 (Gy (i:=8) scLaw.nd rfl (Or.inl rfl)) (G7 (Gy (i:=9) scLaw.nd rfl (Or.inl rfl)) Of))))
    (@Gi _ _ _ (@Jj _ _ _ _ _ _ _ _ (Gp Xc (@Gs _ _ _ _ _ _ _ _ _ _ _ _ _ _ _ _ GWd (hr.mono (by decide)) rfl mWd FWd.kp bWd .nil G2 (@Ga _ _ _ _ _ (@Jf _ _ _ _ _ (@Ga _ _ _ _ _ (@Gj _ _ _ _ _ _ _ (Je K) (pv 1) Gc (λ_ _=>rfl)) (@Ga _ _ _ _ _ (Jx (Up K) rfl mLst JP (@Ga _ _ _ _ _ (@Gj _ _ _ _ _ _ _ (Je K) (pv 1) Gc (λ_ _=>rfl)) Gf rfl)) Gf rfl) rfl)) (@Ga _ _ _ _ _ (pv 6) (@Ga _ _ _ _ _ (Jx (Up K) rfl mLst JP (@Ga _ _ _ _ _ (@Gj _ _ _ _ _ _ _ (Je K) (pv 8) Gc (λ_ _=>rfl)) Gf rfl)) Gf rfl) rfl) rfl) (by decide) rfl rfl) (pv 9) (Gx _)) (@Gi _ _ _ (@Gw _ _ _ _ Vp)) GF)) (by intro _;rfl))
    (@Gi _ _ _ (@Gw _ _ _ _ Vp))))))),?_⟩
 refine ⟨_,rfl,a,ns,0,rfl,hS,λc0=>?_⟩;refine ⟨c0,rfl,λwb l k xs rs H1 s1 W1 g k8=>?_⟩;dsimp only [Jm];refine ⟨_,rfl,wb,l,k,xs,rs,rfl,W1,g,k8,λwy qs H0 s2 hwy ewy wq hq=>?_⟩;have W0:=W1.same s2;have S0:=s1.trans s2;have hS0:=S0.seq hS;have T0:=S0 _ _ hT0;have tab0:TabX tb H0:=⟨[],⟨T0,λe he=>(by cases he)⟩,.inl rfl⟩;clear s1 s2 W1 hS hT0 S0 hwy;dsimp only [Jm];refine ⟨Nat.zero_le _,λhl hhl=>?_⟩;have env0:Env tb hl k rs qs H0 (upd H0 hl (.lst [])) []:=⟨SameL.of (Same.new hhl),tab0.same (Same.new hhl),Gb,λx hx=>(by cases hx)⟩;generalize upd H0 hl (.lst [])=Hb at env0 ⊢;refine ⟨_,rfl,a,_,rfl,.inl (ZaQ hS0 env0.s T0),_,_,rfl,?_⟩;rw [List.length_map];obtain ⟨n,hn,hn1,hn2⟩:∃n:Nat,(if ((ns.length:Nat):Int) > 2 then ((ns.length:Nat):Int) else 2)=(n:Int)/\2<=n/\n<=63:=by
  by_cases hz:((ns.length:Nat):Int) > 2
  ·rw [if_pos hz];exact ⟨ns.length,rfl,by lia,qJ⟩
  ·rw [if_neg hz];exact ⟨2,rfl,by decide,by decide⟩
 rw [hn];refine ⟨_,_,rfl,⟨by lia,by lia,by lia,by lia⟩,?_⟩;rw [show ((n:Int)-1).toNat=n-1 by lia];refine JG (lo:=1) (n:=n-1) (λi σ' H'=>∃(us:List V)(v4 v5 v6 v7 v8 v9:Option V),σ'=[some (.ref a),some (.ref wb),some (.ref wy),some (.ref hl),v4,v5,v6,v7,v8,v9]/\Env tb hl k rs qs H0 H' us/\us.length<=30 * i) ⟨[],none,none,none,none,none,none,rfl,env0,Nat.zero_le _⟩ ?_ ?_
 ·rintro i σ' H1 hi ⟨us,v4,v5,v6,v7,v8,v9,rfl,env1,hus⟩;rw [show (1:Int)+(i:Int)=((1+i:Nat):Int) by lia];refine ⟨_,rfl,_,rfl,a,ns,1+i,rfl,ZaQ hS0 env1.s T0,λz0=>?_⟩;refine ⟨z0,50,rfl,by decide,λxl row H2 s2 exl hrow=>?_⟩;dsimp only [Jm];have env2:=env1.same s2;have m0:0<=row.getD (49:Int).toNat 0 % 7:=Int.emod_nonneg _ (by decide);have m1:row.getD (49:Int).toNat 0 % 7<7:=Int.emod_lt_of_pos _ (by decide);refine ⟨_,rfl,_,rfl,_,rfl,xl,_,_,_,rfl,rfl,SqL.of exl,Oi (by lia) (by lia),_,_,rfl,rfl,(by show (0:Int)<7;decide),_,_,rfl,rfl,wb,l,xl,k,xs,rs,row,(1+row.getD (49:Int).toNat 0 % 7).toNat,(by show [V.ref wb,V.ref xl,V.int (1+row.getD (49:Int).toNat 0 % 7)]=_;rw [Int.toNat_of_nonneg (by lia)]),W0.sl env2.s T0,g,exl,hrow,by lia,by lia,λv d H3 s3 th gd=>?_⟩;have env3:=env2.same s3;have exl3:=s3 _ _ exl;clear env1 env2 s2 s3 exl;dsimp only [Jm];have ewy3:=env3.s.lst T0 ewy;have wq3:=wq.sl env3.s T0;refine ⟨_,rfl,_,rfl,wy,_,rfl,SqL.of ewy3,λs0 hs0=>?_⟩;rw [show OV (qs.map λq=>V.ref q.t) none (some (30:Int))=(qs.map λq=>V.ref q.t).take 30 from WB (k:=30)];have s4:Same H3 (upd H3 s0 (.lst ((qs.map λq=>V.ref q.t).take 30))):=Same.new hs0;have e4:upd H3 s0 (.lst ((qs.map λq=>V.ref q.t).take 30)) s0=some (.lst ((qs.map λq=>V.ref q.t).take 30)):=Gb;generalize upd H3 s0 (.lst ((qs.map λq=>V.ref q.t).take 30))=H4 at s4 e4 ⊢;dsimp only [Jm];have nS:s0≠hl:=λz=>by rw [z,env3.hl] at hs0;cases hs0
  have l30:((qs.map λq=>V.ref q.t).take 30).length<=30:=by rw [List.length_take];lia
  have mem30:∀x∈(qs.map λq=>V.ref q.t).take 30,∃q∈qs,x=.ref q.t:=λx hx=>by
   obtain ⟨q,hq,e⟩:=List.mem_map.mp (List.mem_of_mem_take hx);exact ⟨q,hq,e.symm⟩
  have env4:=env3.same s4;have exl4:=s4 _ _ exl3;have ewy4:=s4 _ _ ewy3;have wq4:Wqs H4 k rs qs:=wq.sl env4.s T0;have th4:=th.same s4;clear env3 exl3 ewy3 wq3 th s4 hs0;refine JA (λσ' H'=>∃(sl:Addr)(zs:List V),σ'=[some (.ref a),some (.ref wb),some (.ref wy),some (.ref hl),some (.int ((1+i:Nat):Int)),some (.ref xl),some v,some (.ref sl),v8,v9]/\Same H4 H'/\H' sl=some (.lst zs)/\sl≠hl/\zs.length<=30/\∀x∈zs,∃q∈qs,x=.ref q.t) ?rest ?pick
  case pick=>
   intro J;have pass:=J _ _ ⟨s0,_,rfl,Same.refl _,e4,nS,l30,mem30⟩;refine ⟨_,rfl,_,_,rfl,rfl,_,rfl,O4 (λ_=>?_) (λ_=>GG pass)⟩;refine ⟨_,rfl,Nat.zero_le _,λp hp=>?_⟩;have s5:Same H4 (upd H4 p (.lst [])):=Same.new hp;have e5:upd H4 p (.lst []) p=some (.lst []):=Gb;have pass5:=J _ _ ⟨s0,_,rfl,s5,s5 _ _ e4,nS,l30,mem30⟩;generalize upd H4 p (.lst [])=H5 at s5 e5 pass5 ⊢;have ewy5:=s5 _ _ ewy4;have exl5:=s5 _ _ exl4;have env5:=env4.same s5;refine ⟨.list (qs.map wqD),.list [],.lst (SqL.of ewy5) (YV (wq.sl env5.s T0)),.lst (SqL.of e5) .nil,YU _,UI [],_,rfl,?_⟩;rw [YT];by_cases hqs:qs=[]
   ·rw [decide_eq_true (by rw [hqs];rfl)];exact GG pass5
   rw [decide_eq_false (by simpa using hqs)];have qpos:0<qs.length:=List.length_pos_iff.mpr hqs;refine Jg ?_;clear pass pass5 e5 hp;refine ⟨_,rfl,by decide,by decide,λD hD=>?_⟩;have nD:D≠hl:=λz=>by rw [z,env5.hl] at hD;cases hD
   refine Jw (lo:=0) (n:=2) (λj ys H'=>Same H5 H'/\H' D=some (.lst ys)/\ys.length=j/\∀x∈ys,∃q∈qs,x=.ref q.t) ⟨Same.new hD,Gb,rfl,λx hx=>(by cases hx)⟩ ?_ ?_
   ·rintro j ys H6 hj ⟨s6,eD,hys,mem⟩;rw [Int.zero_add];refine ⟨⟨rfl,rfl,trivial⟩,?_⟩;unfold UR;refine Jg ?_;have exl6:=s6 _ _ exl5;have ewy6:=s6 _ _ ewy5;have r0:0<=(row.getD (42+(j:Int)).toNat 0+64 * row.getD (48-(j:Int)).toNat 0) % (qs.length:Int):=Int.emod_nonneg _ (by lia);have r1:(row.getD (42+(j:Int)).toNat 0+64 * row.getD (48-(j:Int)).toNat 0) % (qs.length:Int)<(qs.length:Int):=Int.emod_lt_of_pos _ (by lia);obtain ⟨q1,hq1,eq1⟩:=Zfe r0 r1;refine ⟨_,rfl,_,rfl,_,rfl,_,_,rfl,rfl,xl,_,_,_,rfl,rfl,SqL.of exl6,Oi (by lia) (by lia),_,rfl,_,rfl,_,_,rfl,rfl,xl,_,_,_,rfl,rfl,SqL.of exl6,Oi (by lia) (by lia),_,_,rfl,rfl,.inl ⟨by decide,by decide⟩,_,_,rfl,rfl,_,rfl,wy,_,rfl,.inl (SqL.of ewy6),?_⟩;rw [List.length_map];refine ⟨_,_,rfl,rfl,(by show (0:Int)<(qs.length:Int);lia),wy,_,_,_,rfl,rfl,SqL.of ewy6,eq1,eD,by lia,s6.put hD,Gb,by rw [List.length_append,List.length_singleton,hys],λx hx=>?_⟩;rcases List.mem_append.mp hx with z | z
    ·exact mem x z
    ·exact ⟨q1,hq1,List.mem_singleton.mp z⟩
   ·rintro ys H6 ⟨s6,eD,hys,mem⟩;exact J _ _ ⟨D,ys,rfl,s5.trans s6,eD,nD,by lia,mem⟩
  case rest=>
   rintro σ' H5 ⟨sl,zs,rfl,s5,e5,nsl,hzs,mem⟩;have env5:=env4.same s5;have th5:=th4.same s5;clear env4 exl4 ewy4 wq4 th4 s5 e4 nS l30 mem30;refine ⟨_,rfl,sl,rfl,⟨_,SqL.of e5⟩,?_⟩;refine U1 (K:=K) (a:=sl) (xs:=zs) (λj σ' H'=>∃(us':List V)(v8 v9:Option V),σ'=[some (.ref a),some (.ref wb),some (.ref wy),some (.ref hl),some (.int ((1+i:Nat):Int)),some (.ref xl),some v,some (.ref sl),v8,v9]/\Env tb hl k rs qs H0 H' us'/\us'.length<=us.length+j/\H' sl=some (.lst zs)/\Th H' v d) ⟨us,v8,v9,rfl,env5,Nat.le_refl _,e5,th5⟩ ?_ ?_ ?_
   ·rintro j σ' H' _ ⟨_,_,_,_,_,_,e,_⟩;exact SqL.of e
   ·clear th5 e5 env5;rintro j x σ' H5 hx ⟨us',v8,v9,rfl,env5,hus',e5,th5⟩;have hj:j<zs.length:=(List.getElem?_eq_some_iff.mp hx).1;obtain ⟨q1,hq1,rfl⟩:=mem x (List.mem_of_getElem? hx);obtain ⟨Wy,WK⟩:=wq.sl env5.s T0 q1 hq1;obtain ⟨wf,hk1,nl,kl,hEnds⟩:=WK.facts g;have W5:=W0.sl env5.s T0;obtain ⟨b,hb⟩:∃b,Hs (λwd rest=>We wd k rs q1.ns q1.ks rest) d b:=by
     obtain ⟨m,ps,hw,_⟩:=id gd;exact Ws.hs _ hw
    dsimp only [Jm];refine ⟨_,rfl,wb,_,_,_,rfl,rfl,SqT.of W5.w,Ge (j:=0) rfl,_,rfl,wb,_,_,_,rfl,rfl,SqT.of W5.w,Ge (j:=1) rfl,l,_,rfl,.inl (SqL.of W5.l),λl2 hl2=>?_⟩;have s6:Same H5 (upd H5 l2 (.lst xs)):=Same.new hl2;have e6:upd H5 l2 (.lst xs) l2=some (.lst xs):=Gb;generalize upd H5 l2 (.lst xs)=H6 at s6 e6 ⊢;refine ⟨Jr,λw2 hw2=>?_⟩;have s7:Same H6 (upd H6 w2 (.tup [.int k,.ref l2])):=Same.new hw2;have e7:upd H6 w2 (.tup [.int k,.ref l2]) w2=some (.tup [.int k,.ref l2]):=Gb;change (V0 (Y5 6) _) _ (upd H6 w2 (.tup [.int k,.ref l2])) _;generalize upd H6 w2 (.tup [.int k,.ref l2])=H7 at s7 e7 ⊢;have Wy7:=Wy.same (s6.trans s7);refine ⟨_,rfl,_,rfl,_,_,_,_,rfl,rfl,SqT.of Wy7.t,Ge (j:=2) rfl,_,_,rfl,.inl (SqL.of Wy7.u),λhd hhd=>?_⟩;have s8:Same H7 (upd H7 hd (.lst (q1.ks.map V.int))):=Same.new hhd;have e8:upd H7 hd (.lst (q1.ks.map V.int)) hd=some (.lst (q1.ks.map V.int)):=Gb;generalize upd H7 hd (.lst (q1.ks.map V.int))=H8 at s8 e8 ⊢;have S8:=(s6.trans s7).trans s8;have W8:WebAt H8 w2 l2 k xs rs:=⟨s8 _ _ e7,(s7.trans s8) _ _ e6,(W5.same S8).p⟩;have env8:=env5.same S8;obtain ⟨m,ps,hw,hm,pr,hpl,good⟩:=id gd;have p7:(2:Nat) ^ 7=128:=rfl;refine ⟨w2,l2,hd,k,xs,rs,q1.ks,q1.ns,q1.c,b,v,d,ps,rfl,W8,g,e8,WK,wf.ne,by lia,by lia,th5.same S8,pr,by lia,good,hb,env8.tab,λH9 s9 tab9=>?_⟩;obtain ⟨ps8,hps8⟩:=env8.tab.tbl;have env9:=env8.sl s9 tab9;have th9:Th H9 v d:=gd.keep (λ_ _ e=>s9.tup hps8 e) (th5.same S8);have W9:=W0.sl env9.s T0;obtain ⟨Wy9,_⟩:=wq.sl env9.s T0 q1 hq1;have es9:=s9.lst hps8 (S8 _ _ e5);dsimp only [Jm];refine ⟨_,rfl,_,_,true,rfl,⟨_,rfl,GG ?_⟩,.inl ⟨_,.bl _,rfl,Zq⟩⟩;refine ⟨_,rfl,_,rfl,_,rfl,_,rfl,wb,l,q1.t,q1.e,q1.r,q1.u,v,d,m,b,k,xs,rs,q1.ns,q1.ks,q1.c,rfl,W9,g,th9,hw,by lia,hb,Wy9,wf,nl,λHa sa=>?_⟩;refine ⟨rfl,_,rfl,?_⟩;rw [decide_eq_true rfl];refine GG ?_;have enva:=env9.same sa;refine ⟨_,rfl,.inl ⟨rfl,_,SqL.of enva.hl⟩,_,rfl,_,rfl,_,rfl,(by show 3<=sizeLine;lia),λpt hpt=>?_⟩;have sb:Same Ha (upd Ha pt (.tup [v,.ref q1.t,.bl b])):=Same.new hpt;have eb:upd Ha pt (.tup [v,.ref q1.t,.bl b]) pt=some (.tup [v,.ref q1.t,.bl b]):=Gb;generalize upd Ha pt (.tup [v,.ref q1.t,.bl b])=Hb at sb eb ⊢;have envb:=enva.same sb;have thb:=(th9.same sa).same sb;refine ⟨hl,_,_,rfl,rfl,envb.hl,by lia,?_⟩;have kk:=OK (o:=.lst (us'++[.ref pt])) envb.hl;have hdb:HdAt k rs qs Hb (.ref pt):=⟨pt,v,d,b,q1,rfl,eb,thb,gd,hq1,hb⟩;refine ⟨us'++[.ref pt],_,_,rfl,⟨envb.s.put hhl,Zar envb.tab envb.hl,Gb,λx hx=>?_⟩,by rw [List.length_append,List.length_singleton];lia,by rw [Gu nsl];exact sb _ _ (sa _ _ es9),gd.keep kk thb⟩;rcases List.mem_append.mp hx with z | z
    ·exact (envb.held x z).keep kk
    ·rw [List.mem_singleton.mp z];exact hdb.keep kk
   ·rintro σ' H6 ⟨us',v8,v9,rfl,env6,hus',e6,th6⟩;exact ⟨us',_,_,_,_,_,_,rfl,env6,by lia⟩
 ·rintro σ' H1 ⟨us,v4,v5,v6,v7,v8,v9,rfl,env1,hus⟩;refine ⟨_,rfl,_,rfl,hl,_,rfl,SqL.of env1.hl,λp hp=>?_⟩;rw [show OV us none (some (40:Int))=us.take 40 from WB (k:=40)];have s2:Same H1 (upd H1 p (.lst (us.take 40))):=Same.new hp;have e2:upd H1 p (.lst (us.take 40)) p=some (.lst (us.take 40)):=Gb;generalize upd H1 p (.lst (us.take 40))=H2 at s2 e2 ⊢;refine ⟨p,rfl,⟨_,SqL.of e2⟩,?_⟩;refine U1 (K:=K) (a:=p) (xs:=us.take 40) (λj σ' H'=>∃(v6 v8 v9:Option V),σ'=[some (.ref a),some (.ref wb),some (.ref wy),some (.ref hl),v4,v5,v6,v7,v8,v9]/\Env tb hl k rs qs H0 H' us/\H' p=some (.lst (us.take 40))) ⟨v6,v8,v9,rfl,env1.same s2,e2⟩ ?_ ?_ ?_
  ·rintro j σ' H' _ ⟨_,_,_,_,_,e⟩;exact SqL.of e
  ·rintro j x σ' H5 hx ⟨v6,v8,v9,rfl,env5,e5⟩;obtain ⟨pt,v,d,b,q1,rfl,et,th5,gd,hq1,hb⟩:=env5.held x (List.mem_of_mem_take (List.mem_of_getElem? hx));obtain ⟨Wy,WK⟩:=wq.sl env5.s T0 q1 hq1;obtain ⟨wf,hk1,nl,kl,hEnds⟩:=WK.facts g;have W5:=W0.sl env5.s T0;refine ⟨pt,_,rfl,SqT.of et,rfl,_,_,rfl,_,_,rfl,_,_,rfl,rfl,?_⟩;refine ⟨_,rfl,wb,_,_,_,rfl,rfl,SqT.of W5.w,Ge (j:=0) rfl,_,rfl,wb,_,_,_,rfl,rfl,SqT.of W5.w,Ge (j:=1) rfl,l,_,rfl,.inl (SqL.of W5.l),λl2 hl2=>?_⟩;have s6:Same H5 (upd H5 l2 (.lst xs)):=Same.new hl2;have e6:upd H5 l2 (.lst xs) l2=some (.lst xs):=Gb;generalize upd H5 l2 (.lst xs)=H6 at s6 e6 ⊢;refine ⟨Jr,λw2 hw2=>?_⟩;have s7:Same H6 (upd H6 w2 (.tup [.int k,.ref l2])):=Same.new hw2;have e7:upd H6 w2 (.tup [.int k,.ref l2]) w2=some (.tup [.int k,.ref l2]):=Gb;change (V0 (Y5 6) _) _ (upd H6 w2 (.tup [.int k,.ref l2])) _;generalize upd H6 w2 (.tup [.int k,.ref l2])=H7 at s7 e7 ⊢;have Wy7:=Wy.same (s6.trans s7);refine ⟨_,rfl,_,rfl,_,_,_,_,rfl,rfl,SqT.of Wy7.t,Ge (j:=2) rfl,_,_,rfl,.inl (SqL.of Wy7.u),λhd hhd=>?_⟩;have s8:Same H7 (upd H7 hd (.lst (q1.ks.map V.int))):=Same.new hhd;have e8:upd H7 hd (.lst (q1.ks.map V.int)) hd=some (.lst (q1.ks.map V.int)):=Gb;generalize upd H7 hd (.lst (q1.ks.map V.int))=H8 at s8 e8 ⊢;have S8:=(s6.trans s7).trans s8;have W8:WebAt H8 w2 l2 k xs rs:=⟨s8 _ _ e7,(s7.trans s8) _ _ e6,(W5.same S8).p⟩;have env8:=env5.same S8;obtain ⟨m,ps,hw,hm,pr,hpl,good⟩:=id gd;have p7:(2:Nat) ^ 7=128:=rfl;refine ⟨w2,l2,hd,k,xs,rs,q1.ks,q1.ns,q1.c,b,v,d,ps,rfl,W8,g,e8,WK,wf.ne,by lia,by lia,th5.same S8,pr,by lia,good,hb,env8.tab,λH9 s9 tab9=>?_⟩;obtain ⟨ps8,hps8⟩:=env8.tab.tbl;have env9:=env8.sl s9 tab9;have th9:Th H9 v d:=gd.keep (λ_ _ e=>s9.tup hps8 e) (th5.same S8);have W9:=W0.sl env9.s T0;obtain ⟨Wy9,_⟩:=wq.sl env9.s T0 q1 hq1;refine ⟨_,rfl,rfl,_,rfl,?_⟩;rw [decide_eq_true rfl];refine GG ?_;exact ⟨_,_,_,rfl,env9,s9.lst hps8 (S8 _ _ e5)⟩
  ·rintro σ' H3 ⟨v6,v8,v9,rfl,env3,e3⟩;exact q _
end
end M
namespace M
open PySem L2
def lvK (L:List Addr):List (Key×V):=(nineW.zip L).map λx=>(Sum.inr x.1,V.ref x.2)
def lvV (L:List Addr):List (Key×Value):=(nineW.zip L).map λx=>(Sum.inr x.1,Value.ref x.2)
theorem Zff (L:List Addr):KV (lvK L) (lvV L):=by
 unfold lvK lvV;generalize nineW.zip L=Z
 induction Z with
 | nil=>exact .nil
 | cons z Z ih=>exact .cons ⟨rfl,rfl⟩ ih
theorem Zb8 {P:Program}{w:World}{ep:Nat}{h1 h2 h3 h4 h5 h6 h7 h8 h9:Int}{t1 t2 t3 t4 t5 t6 t7 t8 t9:Tok}{f1 f2 f3 f4 f5 f6 f7 f8 f9:Addr}(e1:h1=hashStr w "open")(e2:h2=hashStr w "closed")(e3:h3=hashStr w "with")(e4:h4=hashStr w "off")(e5:h5=hashStr w "over")(e6:h6=hashStr w "past")(e7:h7=hashStr w "long")(e8:h8=hashStr w "shy")(e9:h9=hashStr w "all") :
  Obj.IsDictOf (Jh P w) ⟨.type "dict", none,.dict #[⟨h1,.str "open" t1,.ref f1⟩,⟨h2,.str "closed" t2,.ref f2⟩,⟨h3,.str "with" t3,.ref f3⟩,⟨h4,.str "off" t4,.ref f4⟩,⟨h5,.str "over" t5,.ref f5⟩,⟨h6,.str "past" t6,.ref f6⟩,⟨h7,.str "long" t7,.ref f7⟩,⟨h8,.str "shy" t8,.ref f8⟩,⟨h9,.str "all" t9,.ref f9⟩] ep,#[]⟩ (lvV [f1,f2,f3,f4,f5,f6,f7,f8,f9]):=by
 refine ⟨_,_,⟨rfl,rfl,rfl⟩,rfl,λe he=>?_,?_,?_⟩
 ·simp only [List.mem_toArray,List.mem_cons,List.not_mem_nil,or_false] at he;rcases he with rfl | rfl | rfl | rfl | rfl | rfl | rfl | rfl | rfl
  ·exact ⟨.inr "open", G3 _ _ _ _,e1⟩
  ·exact ⟨.inr "closed", G3 _ _ _ _,e2⟩
  ·exact ⟨.inr "with", G3 _ _ _ _,e3⟩
  ·exact ⟨.inr "off", G3 _ _ _ _,e4⟩
  ·exact ⟨.inr "over", G3 _ _ _ _,e5⟩
  ·exact ⟨.inr "past", G3 _ _ _ _,e6⟩
  ·exact ⟨.inr "long", G3 _ _ _ _,e7⟩
  ·exact ⟨.inr "shy", G3 _ _ _ _,e8⟩
  ·exact ⟨.inr "all", G3 _ _ _ _,e9⟩
 ·show Pairs (Jh P w) [_,_,_,_,_,_,_,_,_] [_,_,_,_,_,_,_,_,_]
  iterate 9 (refine .cons (G3 _ _ _ _) rfl ?_)
  exact .nil
 ·show (nineW.map (Sum.inr (α:=Int))).Nodup;decide +kernel
section
variable {P:Program}{w:World}{K:W.Frag}{mg:Str->Option Value}{base:Heap}
abbrev UO (P:Program)(w:World)(K:W.Frag)(mg:Str->Option Value)(base:Heap)(wd:Str)(g:Xu)(f:Addr):Prop:=∃fd:FuncData,W.keepIn K (.ref f)=true/\Binds K fd ["web", "leaf", "way", "roads"] []/\GS P w K mg base CX0 1 f fd ["web", "leaf", "way", "roads"] (OQ wd g)
theorem Zfg {f1 f2 f3 f4 f5 f6 f7 f8 f9:Addr}(h1:UO P w K mg base "open" Zaa f1)(h2:UO P w K mg base "closed" UB f2)(h3:UO P w K mg base "with" Xv f3)(h4:UO P w K mg base "off" Zcm f4)(h5:UO P w K mg base "over" Xw f5)(h6:UO P w K mg base "past" Xx f6)(h7:UO P w K mg base "long" ZbX f7)(h8:UO P w K mg base "shy" Zdr f8)(h9:UO P w K mg base "all" Zdq f9):Ze9 P w K mg base (lvK [f1,f2,f3,f4,f5,f6,f7,f8,f9]):=by
 have key:∀(wd:Str)(g:Xu)(f:Addr),UO P w K mg base wd g f->We wd=g->OT (lvK [f1,f2,f3,f4,f5,f6,f7,f8,f9]) (Sum.inr wd)=some (.ref f)->∃(f:Addr)(fd:FuncData),OT (lvK [f1,f2,f3,f4,f5,f6,f7,f8,f9]) (Sum.inr wd)=some (.ref f)/\W.keepIn K (.ref f)=true/\Binds K fd ["web", "leaf", "way", "roads"] []/\GS P w K mg base CX0 1 f fd ["web", "leaf", "way", "roads"] (OQ wd (We wd)):=by
  rintro wd g f ⟨fd,a,b,c⟩ rfl e;exact ⟨f,fd,e,a,b,c⟩
 intro wd hwd;unfold nineW at hwd;simp only [List.mem_cons,List.not_mem_nil,or_false] at hwd;rcases hwd with rfl | rfl | rfl | rfl | rfl | rfl | rfl | rfl | rfl
 ·exact key _ _ _ h1 (by with_unfolding_all rfl) (by with_unfolding_all rfl)
 ·exact key _ _ _ h2 (by with_unfolding_all rfl) (by with_unfolding_all rfl)
 ·exact key _ _ _ h3 (by with_unfolding_all rfl) (by with_unfolding_all rfl)
 ·exact key _ _ _ h4 (by with_unfolding_all rfl) (by with_unfolding_all rfl)
 ·exact key _ _ _ h5 (by with_unfolding_all rfl) (by with_unfolding_all rfl)
 ·exact key _ _ _ h6 (by with_unfolding_all rfl) (by with_unfolding_all rfl)
 ·exact key _ _ _ h7 (by with_unfolding_all rfl) (by with_unfolding_all rfl)
 ·exact key _ _ _ h8 (by with_unfolding_all rfl) (by with_unfolding_all rfl)
 ·exact key _ _ _ h9 (by with_unfolding_all rfl) (by with_unfolding_all rfl)
end
end M
section
open PySem PySem.W PyProof.Rows
def M.rowP:Program:=PySem.Challenge.rw_onceways_k78_whole_wishes_of_ways.prog
def M.seenP:Program:={ M.rowP with main:={ M.rowP.main with body:=[1,2,3,4,6,7,8,9,11,12,13,14,16,17,18,19,20,21,23,24,25,26,27,29,30,31,32,33,34,35,36,37,38,39,40,41,42,43,44,46,47,48,49,50,51,52,53,54,55,56,57].filterMap (λi=>M.rowP.main.body[i]?) } }
def M.loosely:List Str:=[Str.ofString "roads_of", Str.ofString "LEAVES"]
def M.hookX (s:Shared):Bool:=xlAt M.seenP [] s && recOk (RowW.records (OpenRow.toRowW PySem.Challenge.rw_onceways_k78_whole_wishes_of_ways.row)) s
noncomputable def M.atBoot (w:World)(os:OsState):Shared:=⟨boot_heap w.params,Array.mk [],boot_drawn,boot_toks,os⟩
noncomputable def M.topOf (p:Program)(N:Nat)(w:World)(os:OsState):Option Shared:=topRun treeTable p w (M.atBoot w os).heap.objs.size ((M.atBoot w os).heap.nsMap mainGlobals "__annotations__") N (M.atBoot w os) (topStub p)
theorem M.top_run {p:Program}{N:Nat}{w:World}{os:OsState}{s:Shared}(h:topFrom treeTable p w N (M.atBoot w os)=some s):M.topOf p N w os=some s:=by
 unfold topFrom at h;split at h
 ·obtain ⟨s1,h1,h2⟩:=Option.bind_eq_some_iff.mp h;split at h2
  ·cases h2;exact h1
  ·cases h2
 ·cases h
theorem M.left_boot {p q:Program}{loose:List Str}{Xt:Shared->Bool}{α:Type}{Yf:Shared->α}{Ya:World->α}{N:Nat}(e:opening p=plainProg p.main.scope.names)(hN:Nat.ble 600 N=true)(f:∀s,fenceModules? p s=some s)(hc:∀(w:World)(os:OsState),(topFrom treeTable p w N (M.atBoot w os)).isSome=true)(ha:∀(w:World)(os:OsState),(M.topOf p N w os).map (openSeen q loose (importedModules p.main.body) Xt true)=some (openGood q loose))(hb:∀(w:World)(os:OsState),(M.topOf p N w os).map Yf=some (Ya w)) :
  LeftO p q loose Xt Yf Ya N:=λw=>by
 obtain ⟨⟨a,b,c,d,os⟩,e1,e2⟩:=Option.map_eq_some_iff.mp (boot_open e hN f w);obtain ⟨rfl,rfl,rfl,rfl⟩:a=boot_heap w.params/\b=Array.mk []/\c=boot_drawn/\d=boot_toks:=by simpa using e2
 obtain ⟨s,hs⟩:=Option.isSome_iff_exists.mp (hc w os);have h1:=ha w os;have h2:=hb w os;rw [M.top_run hs] at h1 h2;unfold openEnds;rw [e1];show (topFrom treeTable p w N (M.atBoot w os)).map _=_;rw [hs];simp only [Option.map_some,Option.some.injEq] at h1 h2 ⊢;rw [h1,h2]
theorem M.byRow {P:World->Prop}(row:String)(hf:∀w:World,P (w.withFollow row false))(ht:∀w:World,P (w.withFollow row true))(w:World):P w:=by
 have h:∀b:Bool,P (w.withFollow row b):=λb=>by cases b;exact hf w;exact ht w
 have:=h (w.params.followText row)
 rwa [World.withFollow_self] at this
set_option maxHeartbeats 0 in
theorem M.topA_false (w:World)(os:OsState):(M.topOf M.rowP 4862 (w.withFollow "special-get-raises" false) os).map (openSeen M.seenP M.loosely (importedModules M.rowP.main.body) M.hookX true)=some (openGood M.seenP M.loosely):=by
 unfold M.topOf;rw [W.Fast.te14082659384304107361,W.Fast.te14364793385576792824,W.Fast.te4187177175401517315];kernel_rfl
set_option maxHeartbeats 0 in
theorem M.topC_false (w:World)(os:OsState):(topFrom treeTable M.rowP (w.withFollow "special-get-raises" false) 4862 (M.atBoot (w.withFollow "special-get-raises" false) os)).isSome=true:=by
 unfold topFrom;rw [W.Fast.te14082659384304107361,W.Fast.te14364793385576792824];kernel_rfl
set_option maxHeartbeats 0 in
theorem M.topA_true (w:World)(os:OsState):(M.topOf M.rowP 4862 (w.withFollow "special-get-raises" true) os).map (openSeen M.seenP M.loosely (importedModules M.rowP.main.body) M.hookX true)=some (openGood M.seenP M.loosely):=by
 unfold M.topOf;rw [W.Fast.te14082659384304107361,W.Fast.te14364793385576792824,W.Fast.te4187177175401517315];kernel_rfl
set_option maxHeartbeats 0 in
theorem M.topC_true (w:World)(os:OsState):(topFrom treeTable M.rowP (w.withFollow "special-get-raises" true) 4862 (M.atBoot (w.withFollow "special-get-raises" true) os)).isSome=true:=by
 unfold topFrom;rw [W.Fast.te14082659384304107361,W.Fast.te14364793385576792824];kernel_rfl
theorem M.topA (w:World)(os:OsState):(M.topOf M.rowP 4862 w os).map (openSeen M.seenP M.loosely (importedModules M.rowP.main.body) M.hookX true)=some (openGood M.seenP M.loosely):=
 M.byRow (P:=λw=>(M.topOf M.rowP 4862 w os).map (openSeen M.seenP M.loosely (importedModules M.rowP.main.body) M.hookX true)=some (openGood M.seenP M.loosely)) "special-get-raises" (λw=>M.topA_false w os) (λw=>M.topA_true w os) w
theorem M.topC (w:World)(os:OsState):(topFrom treeTable M.rowP w 4862 (M.atBoot w os)).isSome=true:=
 M.byRow (P:=λw=>(topFrom treeTable M.rowP w 4862 (M.atBoot w os)).isSome=true) "special-get-raises" (λw=>M.topC_false w os) (λw=>M.topC_true w os) w
end
namespace M
open PySem L2
theorem all_mk {l:W.OpenLaw}{w:World}{K:W.Frag}{h:Heap}{mg:Str->Option Value}{fa f1 f2 f3 f4 f5 f6 f7 f8 f9 f10 f11 f12 f13 f14 f15 f16 f17 f18 f19 f20 f21 f22 f23 f24 f25 f26 f27 f28 f29 f30 f31 f32 f33 f34 f35 f36 f37 f38 f39 f40 f41 f42 f43 f44 C NW NP dT aD aJ aR aL cT tb:Addr}{dtc:Value}{dtd:Option Addr}{dtn epD:Nat}{dts:Array (Option Value)}{tJ0 tJ1 tJ2 tR0 tR1 tL0 tL1 tw1 tw2 tw3 tw4 tw5 tw6 tw7 tw8 tw9:Tok}{hh1 hh2 hh3 hh4 hh5 hh6 hh7 hh8 hh9:Int}{oJ oR oL:Option Addr}{nJ nR nL:Nat}{sJ sR sL:Array (Option Value)}{occT:Value}{odcT:Option Addr}{vsT:Array Value}{slcT:Array (Option Value)}(X:K.In h)(G:h.Ns mainGlobals mg)(hfa:mg "law" = some (.ref fa)){od1 an1 od2 an2 od3 an3 od4 an4 od5 an5 od6 an6 od7 an7 od8 an8 od9 an9 od10 an10 od11 an11 od12 an12 od13 an13 od14 an14 od15 an15 od16 an16 od17 an17 od18 an18 od19 an19 od20 an20 od21 an21 od22 an22 od23 an23 od24 an24 od25 an25 od26 an26 od27 an27 od28 an28 od29 an29 od30 an30 od31 an31 od32 an32 od33 an33 od34 an34 od35 an35 od36 an36 od37 an37 od38 an38 od39 an39 od40 an40 od41 an41 od42 an42 od43 an43 od44 an44:Option Addr}{sl1 sl2 sl3 sl4 sl5 sl6 sl7 sl8 sl9 sl10 sl11 sl12 sl13 sl14 sl15 sl16 sl17 sl18 sl19 sl20 sl21 sl22 sl23 sl24 sl25 sl26 sl27 sl28 sl29 sl30 sl31 sl32 sl33 sl34 sl35 sl36 sl37 sl38 sl39 sl40 sl41 sl42 sl43 sl44:Array (Option Value)}{oc1 kV1 dc1 pm1 cd1 ct1 oc2 kV2 dc2 pm2 cd2 ct2 oc3 kV3 dc3 pm3 cd3 ct3 oc4 kV4 dc4 pm4 cd4 ct4 oc5 kV5 dc5 pm5 cd5 ct5 oc6 kV6 dc6 pm6 cd6 ct6 oc7 kV7 dc7 pm7 cd7 ct7 oc8 kV8 dc8 pm8 cd8 ct8 oc9 kV9 dc9 pm9 cd9 ct9 oc10 kV10 dc10 pm10 cd10 ct10 oc11 kV11 dc11 pm11 cd11 ct11 oc12 kV12 dc12 pm12 cd12 ct12 oc13 kV13 dc13 pm13 cd13 ct13 oc14 kV14 dc14 pm14 cd14 ct14 oc15 kV15 dc15 pm15 cd15 ct15 oc16 kV16 dc16 pm16 cd16 ct16 oc17 kV17 dc17 pm17 cd17 ct17 oc18 kV18 dc18 pm18 cd18 ct18 oc19 kV19 dc19 pm19 cd19 ct19 oc20 kV20 dc20 pm20 cd20 ct20 oc21 kV21 dc21 pm21 cd21 ct21 oc22 kV22 dc22 pm22 cd22 ct22 oc23 kV23 dc23 pm23 cd23 ct23 oc24 kV24 dc24 pm24 cd24 ct24 oc25 kV25 dc25 pm25 cd25 ct25 oc26 kV26 dc26 pm26 cd26 ct26 oc27 kV27 dc27 pm27 cd27 ct27 oc28 kV28 dc28 pm28 cd28 ct28 oc29 kV29 dc29 pm29 cd29 ct29 oc30 kV30 dc30 pm30 cd30 ct30 oc31 kV31 dc31 pm31 cd31 ct31 oc32 kV32 dc32 pm32 ct32 oc33 kV33 dc33 pm33 cd33 ct33 oc34 kV34 dc34 pm34 cd34 ct34 oc35 kV35 dc35 pm35 cd35 ct35 oc36 kV36 dc36 pm36 cd36 ct36 oc37 kV37 dc37 pm37 cd37 ct37 oc38 kV38 dc38 pm38 cd38 ct38 oc39 kV39 dc39 pm39 cd39 ct39 oc40 kV40 dc40 pm40 cd40 ct40 oc41 kV41 dc41 pm41 cd41 ct41 oc42 kV42 dc42 pm42 cd42 ct42 oc43 kV43 dc43 pm43 cd43 ct43 oc44 kV44 dc44 pm44 cd44 ct44:Value}(aF1:W.nsIn K mainGlobals "parts_of" = some (some (.ref f1)))(lF1:K.lookup f1=some ⟨oc1,od1,.func (W.fnOf "parts_of" "parts_of" (Gq ZaE) (Go ZaE) (Gg ZaE) .none kV1 dc1 pm1 an1 cd1 ct1),sl1⟩)(cF1:W.codeIn K cd1 "parts_of" = true)(kF1:W.keepIn K (.ref f1)=true)(aF2:W.nsIn K mainGlobals "leaves_of" = some (some (.ref f2)))(lF2:K.lookup f2=some ⟨oc2,od2,.func (W.fnOf "leaves_of" "leaves_of" (Gq Zbv) (Go Zbv) (Gg Zbv) .none kV2 dc2 pm2 an2 cd2 ct2),sl2⟩)(cF2:W.codeIn K cd2 "leaves_of" = true)(kF2:W.keepIn K (.ref f2)=true)(aF3:W.nsIn K mainGlobals "folded" = some (some (.ref f3)))(lF3:K.lookup f3=some ⟨oc3,od3,.func (W.fnOf "folded" "folded" (Gq Zbw) (Go Zbw) (Gg Zbw) .none kV3 dc3 pm3 an3 cd3 ct3),sl3⟩)(cF3:W.codeIn K cd3 "folded" = true)(kF3:W.keepIn K (.ref f3)=true)(aF4:W.nsIn K mainGlobals "is_place" = some (some (.ref f4)))(lF4:K.lookup f4=some ⟨oc4,od4,.func (W.fnOf "is_place" "is_place" (Gq sIs) (Go sIs) (Gg sIs) .none kV4 dc4 pm4 an4 cd4 ct4),sl4⟩)(cF4:W.codeIn K cd4 "is_place" = true)(kF4:W.keepIn K (.ref f4)=true)(aF5:W.nsIn K mainGlobals "check_place" = some (some (.ref f5)))(lF5:K.lookup f5=some ⟨oc5,od5,.func (W.fnOf "check_place" "check_place" (Gq Zbx) (Go Zbx) (Gg Zbx) .none kV5 dc5 pm5 an5 cd5 ct5),sl5⟩)(cF5:W.codeIn K cd5 "check_place" = true)(kF5:W.keepIn K (.ref f5)=true)(aF6:W.nsIn K mainGlobals "beside" = some (some (.ref f6)))(lF6:K.lookup f6=some ⟨oc6,od6,.func (W.fnOf "beside" "beside" (Gq Zby) (Go Zby) (Gg Zby) .none kV6 dc6 pm6 an6 cd6 ct6),sl6⟩)(cF6:W.codeIn K cd6 "beside" = true)(kF6:W.keepIn K (.ref f6)=true)(aF7:W.nsIn K mainGlobals "places_on" = some (some (.ref f7)))(lF7:K.lookup f7=some ⟨oc7,od7,.func (W.fnOf "places_on" "places_on" (Gq Zbz) (Go Zbz) (Gg Zbz) .none kV7 dc7 pm7 an7 cd7 ct7),sl7⟩)(cF7:W.codeIn K cd7 "places_on" = true)(kF7:W.keepIn K (.ref f7)=true)(aF8:W.nsIn K mainGlobals "check_ends" = some (some (.ref f8)))(lF8:K.lookup f8=some ⟨oc8,od8,.func (W.fnOf "check_ends" "check_ends" (Gq ZV) (Go ZV) (Gg ZV) .none kV8 dc8 pm8 an8 cd8 ct8),sl8⟩)(cF8:W.codeIn K cd8 "check_ends" = true)(kF8:W.keepIn K (.ref f8)=true)(aF9:W.nsIn K mainGlobals "numbers_by_step" = some (some (.ref f9)))(lF9:K.lookup f9=some ⟨oc9,od9,.func (W.fnOf "numbers_by_step" "numbers_by_step" (Gq ZW) (Go ZW) (Gg ZW) .none kV9 dc9 pm9 an9 cd9 ct9),sl9⟩)(cF9:W.codeIn K cd9 "numbers_by_step" = true)(kF9:W.keepIn K (.ref f9)=true)(aF10:W.nsIn K mainGlobals "steps_of" = some (some (.ref f10)))(lF10:K.lookup f10=some ⟨oc10,od10,.func (W.fnOf "steps_of" "steps_of" (Gq ZaF) (Go ZaF) (Gg ZaF) .none kV10 dc10 pm10 an10 cd10 ct10),sl10⟩)(cF10:W.codeIn K cd10 "steps_of" = true)(kF10:W.keepIn K (.ref f10)=true)(aF11:W.nsIn K mainGlobals "goes_once" = some (some (.ref f11)))(lF11:K.lookup f11=some ⟨oc11,od11,.func (W.fnOf "goes_once" "goes_once" (Gq ZX) (Go ZX) (Gg ZX) .none kV11 dc11 pm11 an11 cd11 ct11),sl11⟩)(cF11:W.codeIn K cd11 "goes_once" = true)(kF11:W.keepIn K (.ref f11)=true)(aF12:W.nsIn K mainGlobals "is_way" = some (some (.ref f12)))(lF12:K.lookup f12=some ⟨oc12,od12,.func (W.fnOf "is_way" "is_way" (Gq ZbA) (Go ZbA) (Gg ZbA) .none kV12 dc12 pm12 an12 cd12 ct12),sl12⟩)(cF12:W.codeIn K cd12 "is_way" = true)(kF12:W.keepIn K (.ref f12)=true)(aF13:W.nsIn K mainGlobals "is_closed" = some (some (.ref f13)))(lF13:K.lookup f13=some ⟨oc13,od13,.func (W.fnOf "is_closed" "is_closed" (Gq ZbB) (Go ZbB) (Gg ZbB) .none kV13 dc13 pm13 an13 cd13 ct13),sl13⟩)(cF13:W.codeIn K cd13 "is_closed" = true)(kF13:W.keepIn K (.ref f13)=true)(aF14:W.nsIn K mainGlobals "roads_of" = some (some (.ref f14)))(lF14:K.lookup f14=some ⟨oc14,od14,.func (W.fnOf "roads_of" "roads_of" (Gq Wa) (Go Wa) (Gg Wa) (.ref dT) kV14 dc14 pm14 an14 cd14 ct14),sl14⟩)(cF14:W.codeIn K cd14 "roads_of" = true)(kF14:W.keepIn K (.ref f14)=true)(aF15:W.nsIn K mainGlobals "chosen_roads" = some (some (.ref f15)))(lF15:K.lookup f15=some ⟨oc15,od15,.func (W.fnOf "chosen_roads" "chosen_roads" (Gq ZY) (Go ZY) (Gg ZY) .none kV15 dc15 pm15 an15 cd15 ct15),sl15⟩)(cF15:W.codeIn K cd15 "chosen_roads" = true)(kF15:W.keepIn K (.ref f15)=true)(aF16:W.nsIn K mainGlobals "walk" = some (some (.ref f16)))(lF16:K.lookup f16=some ⟨oc16,od16,.func (W.fnOf "walk" "walk" (Gq ZZ) (Go ZZ) (Gg ZZ) .none kV16 dc16 pm16 an16 cd16 ct16),sl16⟩)(cF16:W.codeIn K cd16 "walk" = true)(kF16:W.keepIn K (.ref f16)=true)(aF17:W.nsIn K mainGlobals "way_of" = some (some (.ref f17)))(lF17:K.lookup f17=some ⟨oc17,od17,.func (W.fnOf "way_of" "way_of" (Gq ZaG) (Go ZaG) (Gg ZaG) .none kV17 dc17 pm17 an17 cd17 ct17),sl17⟩)(cF17:W.codeIn K cd17 "way_of" = true)(kF17:W.keepIn K (.ref f17)=true)(aF18:W.nsIn K mainGlobals "closed_of" = some (some (.ref f18)))(lF18:K.lookup f18=some ⟨oc18,od18,.func (W.fnOf "closed_of" "closed_of" (Gq Z0) (Go Z0) (Gg Z0) .none kV18 dc18 pm18 an18 cd18 ct18),sl18⟩)(cF18:W.codeIn K cd18 "closed_of" = true)(kF18:W.keepIn K (.ref f18)=true)(aF19:W.nsIn K mainGlobals "any_way_of" = some (some (.ref f19)))(lF19:K.lookup f19=some ⟨oc19,od19,.func (W.fnOf "any_way_of" "any_way_of" (Gq ZbC) (Go ZbC) (Gg ZbC) .none kV19 dc19 pm19 an19 cd19 ct19),sl19⟩)(cF19:W.codeIn K cd19 "any_way_of" = true)(kF19:W.keepIn K (.ref f19)=true)(aF20:W.nsIn K mainGlobals "is_of_web" = some (some (.ref f20)))(lF20:K.lookup f20=some ⟨oc20,od20,.func (W.fnOf "is_of_web" "is_of_web" (Gq ZbD) (Go ZbD) (Gg ZbD) .none kV20 dc20 pm20 an20 cd20 ct20),sl20⟩)(cF20:W.codeIn K cd20 "is_of_web" = true)(kF20:W.keepIn K (.ref f20)=true)(aF21:W.nsIn K mainGlobals "check_good" = some (some (.ref f21)))(lF21:K.lookup f21=some ⟨oc21,od21,.func (W.fnOf "check_good" "check_good" (Gq ZbE) (Go ZbE) (Gg ZbE) .none kV21 dc21 pm21 an21 cd21 ct21),sl21⟩)(cF21:W.codeIn K cd21 "check_good" = true)(kF21:W.keepIn K (.ref f21)=true)(aF22:W.nsIn K mainGlobals "has_open" = some (some (.ref f22)))(lF22:K.lookup f22=some ⟨oc22,od22,.func (W.fnOf "has_open" "has_open" (Gq Zcb) (Go Zcb) (Gg Zcb) .none kV22 dc22 pm22 an22 cd22 ct22),sl22⟩)(cF22:W.codeIn K cd22 "has_open" = true)(kF22:W.keepIn K (.ref f22)=true)(aF23:W.nsIn K mainGlobals "has_closed" = some (some (.ref f23)))(lF23:K.lookup f23=some ⟨oc23,od23,.func (W.fnOf "has_closed" "has_closed" (Gq Zcc) (Go Zcc) (Gg Zcc) .none kV23 dc23 pm23 an23 cd23 ct23),sl23⟩)(cF23:W.codeIn K cd23 "has_closed" = true)(kF23:W.keepIn K (.ref f23)=true)(aF24:W.nsIn K mainGlobals "has_with" = some (some (.ref f24)))(lF24:K.lookup f24=some ⟨oc24,od24,.func (W.fnOf "has_with" "has_with" (Gq Zcd) (Go Zcd) (Gg Zcd) .none kV24 dc24 pm24 an24 cd24 ct24),sl24⟩)(cF24:W.codeIn K cd24 "has_with" = true)(kF24:W.keepIn K (.ref f24)=true)(aF25:W.nsIn K mainGlobals "has_off" = some (some (.ref f25)))(lF25:K.lookup f25=some ⟨oc25,od25,.func (W.fnOf "has_off" "has_off" (Gq Zce) (Go Zce) (Gg Zce) .none kV25 dc25 pm25 an25 cd25 ct25),sl25⟩)(cF25:W.codeIn K cd25 "has_off" = true)(kF25:W.keepIn K (.ref f25)=true)(aF26:W.nsIn K mainGlobals "has_over" = some (some (.ref f26)))(lF26:K.lookup f26=some ⟨oc26,od26,.func (W.fnOf "has_over" "has_over" (Gq Zcf) (Go Zcf) (Gg Zcf) .none kV26 dc26 pm26 an26 cd26 ct26),sl26⟩)(cF26:W.codeIn K cd26 "has_over" = true)(kF26:W.keepIn K (.ref f26)=true)(aF27:W.nsIn K mainGlobals "has_past" = some (some (.ref f27)))(lF27:K.lookup f27=some ⟨oc27,od27,.func (W.fnOf "has_past" "has_past" (Gq Zcg) (Go Zcg) (Gg Zcg) .none kV27 dc27 pm27 an27 cd27 ct27),sl27⟩)(cF27:W.codeIn K cd27 "has_past" = true)(kF27:W.keepIn K (.ref f27)=true)(aF28:W.nsIn K mainGlobals "has_long" = some (some (.ref f28)))(lF28:K.lookup f28=some ⟨oc28,od28,.func (W.fnOf "has_long" "has_long" (Gq Zch) (Go Zch) (Gg Zch) .none kV28 dc28 pm28 an28 cd28 ct28),sl28⟩)(cF28:W.codeIn K cd28 "has_long" = true)(kF28:W.keepIn K (.ref f28)=true)(aF29:W.nsIn K mainGlobals "has_shy" = some (some (.ref f29)))(lF29:K.lookup f29=some ⟨oc29,od29,.func (W.fnOf "has_shy" "has_shy" (Gq Zci) (Go Zci) (Gg Zci) .none kV29 dc29 pm29 an29 cd29 ct29),sl29⟩)(cF29:W.codeIn K cd29 "has_shy" = true)(kF29:W.keepIn K (.ref f29)=true)(aF30:W.nsIn K mainGlobals "has_all" = some (some (.ref f30)))(lF30:K.lookup f30=some ⟨oc30,od30,.func (W.fnOf "has_all" "has_all" (Gq Zcj) (Go Zcj) (Gg Zcj) .none kV30 dc30 pm30 an30 cd30 ct30),sl30⟩)(cF30:W.codeIn K cd30 "has_all" = true)(kF30:W.keepIn K (.ref f30)=true)(aF31:W.nsIn K mainGlobals "joined_has" = some (some (.ref f31)))(lF31:K.lookup f31=some ⟨oc31,od31,.func (W.fnOf "joined_has" "joined_has" (Gq Zck) (Go Zck) (Gg Zck) .none kV31 dc31 pm31 an31 cd31 ct31),sl31⟩)(cF31:W.codeIn K cd31 "joined_has" = true)(kF31:W.keepIn K (.ref f31)=true)(aF32:W.nsIn K mainGlobals "wished" = some (some (.ref f32)))(lF32:K.lookup f32=some ⟨oc32,od32,.func (W.fnOf "wished" "wished" (Gq ZaH) (Go ZaH) (Gg ZaH) .none kV32 dc32 pm32 an32 (.ref cT) ct32),sl32⟩)(cF32:W.codeIn K (.ref cT) "wished" = true)(kF32:W.keepIn K (.ref f32)=true)(aF33:W.nsIn K mainGlobals "_law_cell_at" = some (some (.ref f33)))(lF33:K.lookup f33=some ⟨oc33,od33,.func (W.fnOf "_law_cell_at" "_law_cell_at" (Gq ZbF) (Go ZbF) (Gg ZbF) .none kV33 dc33 pm33 an33 cd33 ct33),sl33⟩)(cF33:W.codeIn K cd33 "_law_cell_at" = true)(kF33:W.keepIn K (.ref f33)=true)(aF34:W.nsIn K mainGlobals "_law_numbers" = some (some (.ref f34)))(lF34:K.lookup f34=some ⟨oc34,od34,.func (W.fnOf "_law_numbers" "_law_numbers" (Gq ZaI) (Go ZaI) (Gg ZaI) .none kV34 dc34 pm34 an34 cd34 ct34),sl34⟩)(cF34:W.codeIn K cd34 "_law_numbers" = true)(kF34:W.keepIn K (.ref f34)=true)(aF35:W.nsIn K mainGlobals "_law_grid" = some (some (.ref f35)))(lF35:K.lookup f35=some ⟨oc35,od35,.func (W.fnOf "_law_grid" "_law_grid" (Gq ZbG) (Go ZbG) (Gg ZbG) .none kV35 dc35 pm35 an35 cd35 ct35),sl35⟩)(cF35:W.codeIn K cd35 "_law_grid" = true)(kF35:W.keepIn K (.ref f35)=true)(aF36:W.nsIn K mainGlobals "_law_web" = some (some (.ref f36)))(lF36:K.lookup f36=some ⟨oc36,od36,.func (W.fnOf "_law_web" "_law_web" (Gq ZbH) (Go ZbH) (Gg ZbH) .none kV36 dc36 pm36 an36 cd36 ct36),sl36⟩)(cF36:W.codeIn K cd36 "_law_web" = true)(kF36:W.keepIn K (.ref f36)=true)(aF37:W.nsIn K mainGlobals "_law_ways" = some (some (.ref f37)))(lF37:K.lookup f37=some ⟨oc37,od37,.func (W.fnOf "_law_ways" "_law_ways" (Gq ZaJ) (Go ZaJ) (Gg ZaJ) .none kV37 dc37 pm37 an37 cd37 ct37),sl37⟩)(cF37:W.codeIn K cd37 "_law_ways" = true)(kF37:W.keepIn K (.ref f37)=true)(aF38:W.nsIn K mainGlobals "_law_plain" = some (some (.ref f38)))(lF38:K.lookup f38=some ⟨oc38,od38,.func (W.fnOf "_law_plain" "_law_plain" (Gq ZbI) (Go ZbI) (Gg ZbI) .none kV38 dc38 pm38 an38 cd38 ct38),sl38⟩)(cF38:W.codeIn K cd38 "_law_plain" = true)(kF38:W.keepIn K (.ref f38)=true)(aF39:W.nsIn K mainGlobals "_law_joined" = some (some (.ref f39)))(lF39:K.lookup f39=some ⟨oc39,od39,.func (W.fnOf "_law_joined" "_law_joined" (Gq ZbJ) (Go ZbJ) (Gg ZbJ) .none kV39 dc39 pm39 an39 cd39 ct39),sl39⟩)(cF39:W.codeIn K cd39 "_law_joined" = true)(kF39:W.keepIn K (.ref f39)=true)(aF40:W.nsIn K mainGlobals "_law_wish" = some (some (.ref f40)))(lF40:K.lookup f40=some ⟨oc40,od40,.func (W.fnOf "_law_wish" "_law_wish" (Gq ZbK) (Go ZbK) (Gg ZbK) .none kV40 dc40 pm40 an40 cd40 ct40),sl40⟩)(cF40:W.codeIn K cd40 "_law_wish" = true)(kF40:W.keepIn K (.ref f40)=true)(aF41:W.nsIn K mainGlobals "_law_plain_has" = some (some (.ref f41)))(lF41:K.lookup f41=some ⟨oc41,od41,.func (W.fnOf "_law_plain_has" "_law_plain_has" (Gq ZbL) (Go ZbL) (Gg ZbL) .none kV41 dc41 pm41 an41 cd41 ct41),sl41⟩)(cF41:W.codeIn K cd41 "_law_plain_has" = true)(kF41:W.keepIn K (.ref f41)=true)(aF42:W.nsIn K mainGlobals "_law_between" = some (some (.ref f42)))(lF42:K.lookup f42=some ⟨oc42,od42,.func (W.fnOf "_law_between" "_law_between" (Gq ZbM) (Go ZbM) (Gg ZbM) .none kV42 dc42 pm42 an42 cd42 ct42),sl42⟩)(cF42:W.codeIn K cd42 "_law_between" = true)(kF42:W.keepIn K (.ref f42)=true)(aF43:W.nsIn K mainGlobals "_law_has" = some (some (.ref f43)))(lF43:K.lookup f43=some ⟨oc43,od43,.func (W.fnOf "_law_has" "_law_has" (Gq ZbN) (Go ZbN) (Gg ZbN) .none kV43 dc43 pm43 an43 cd43 ct43),sl43⟩)(cF43:W.codeIn K cd43 "_law_has" = true)(kF43:W.keepIn K (.ref f43)=true)(aF44:W.nsIn K mainGlobals "law" = some (some (.ref f44)))(lF44:K.lookup f44=some ⟨oc44,od44,.func (W.fnOf "law" "law" (Gq Z1) (Go Z1) (Gg Z1) .none kV44 dc44 pm44 an44 cd44 ct44),sl44⟩)(cF44:W.codeIn K cd44 "law" = true)(kF44:W.keepIn K (.ref f44)=true)(gC:W.nsIn K mainGlobals "NoEnds" = some (some (.ref C)))(gN:W.nsIn K mainGlobals "NoWay" = some (some (.ref NW)))(gP:W.nsIn K mainGlobals "NoPlace" = some (some (.ref NP)))(xexC:ExcC K C)(xexN:ExcC K NW)(xexP:ExcC K NP)(dTl:K.lookup dT=some ⟨dtc,dtd,.seq #[.bool false] dtn,dts⟩)(gJ:W.nsIn K mainGlobals "JOINING" = some (some (.ref aJ)))(lJ:K.lookup aJ=some ⟨.type "tuple", oJ,.seq #[.str "and" tJ0,.str "or" tJ1,.str "but" tJ2] nJ,sJ⟩)(gR:W.nsIn K mainGlobals "OF_ROADS" = some (some (.ref aR)))(lR:K.lookup aR=some ⟨.type "tuple", oR,.seq #[.str "with" tR0,.str "off" tR1] nR,sR⟩)(gL:W.nsIn K mainGlobals "OF_PLACES" = some (some (.ref aL)))(lL:K.lookup aL=some ⟨.type "tuple", oL,.seq #[.str "over" tL0,.str "past" tL1] nL,sL⟩)(gD:W.nsIn K mainGlobals "LEAVES" = some (some (.ref aD)))(lD:K.lookup aD=some ⟨.type "dict", none,.dict #[⟨hh1,.str "open" tw1,.ref f22⟩,⟨hh2,.str "closed" tw2,.ref f23⟩,⟨hh3,.str "with" tw3,.ref f24⟩,⟨hh4,.str "off" tw4,.ref f25⟩,⟨hh5,.str "over" tw5,.ref f26⟩,⟨hh6,.str "past" tw6,.ref f27⟩,⟨hh7,.str "long" tw7,.ref f28⟩,⟨hh8,.str "shy" tw8,.ref f29⟩,⟨hh9,.str "all" tw9,.ref f30⟩] epD,#[]⟩)(eh1:hh1=hashStr w "open")(eh2:hh2=hashStr w "closed")(eh3:hh3=hashStr w "with")(eh4:hh4=hashStr w "off")(eh5:hh5=hashStr w "over")(eh6:hh6=hashStr w "past")(eh7:hh7=hashStr w "long")(eh8:hh8=hashStr w "shy")(eh9:hh9=hashStr w "all")(lcT:K.lookup cT=some ⟨occT,odcT,.fields vsT,slcT⟩)(v11:(vsT[11]?:Option Value)=some (.ref tb))(nTab:K.lookup tb=none)(nlen:W.nsIn K mainGlobals "len" = some none)(nrange:W.nsIn K mainGlobals "range" = some none)(nmin:W.nsIn K mainGlobals "min" = some none)(nmax:W.nsIn K mainGlobals "max" = some none)(nzip:W.nsIn K mainGlobals "zip" = some none)(nsorted:W.nsIn K mainGlobals "sorted" = some none)(nlist:W.nsIn K mainGlobals "list" = some none)(ntuple:W.nsIn K mainGlobals "tuple" = some none)(nall:W.nsIn K mainGlobals "all" = some none)(nany:W.nsIn K mainGlobals "any" = some none)(nset:W.nsIn K mainGlobals "set" = some none)(nenumerate:W.nsIn K mainGlobals "enumerate" = some none)(nreversed:W.nsIn K mainGlobals "reversed" = some none)(nisinstance:W.nsIn K mainGlobals "isinstance" = some none)(nbool:W.nsIn K mainGlobals "bool" = some none)
  : ∃(fd:FuncData)(c P:Addr),W.tabIn K "wished" = some (c,P)/\K.lookup P=none/\(∀(s:Shared)(v:Value),BindsTo s fd ⟨[v],[]⟩ [("script", v)])/\∀base:Heap,K.In base->base.Ns mainGlobals mg->W.CodeHd base c P->base.BuiltinsAt mg P->GS l.prog w K mg base CX0 10 fa fd ["script"] (Zas K P):=by
 have e:=hfa.symm.trans (W.mg_of X G aF44);cases e;have FPa:=GM (st:=ZaE) lF1 cF1 kF1;have bPa:=FPa.binds (ps:=["wish"]) λ_ _ _ _ _ _ us hl=>by obtain ⟨_,rfl⟩:=Zay hl;rfl
 have mPa:mg "parts_of" = some (.ref f1):=W.mg_of X G aF1;have FLv:=GM (st:=Zbv) lF2 cF2 kF2;have bLv:=FLv.binds (ps:=["wish"]) λ_ _ _ _ _ _ us hl=>by obtain ⟨_,rfl⟩:=Zay hl;rfl
 have mLv:mg "leaves_of" = some (.ref f2):=W.mg_of X G aF2;have FFo:=GM (st:=Zbw) lF3 cF3 kF3;have bFo:=FFo.binds (ps:=["wish", "told_of", "joined"]) λ_ _ _ _ _ _ us hl=>by obtain ⟨_,_,_,rfl⟩:=Y7 hl;rfl
 have mFo:mg "folded" = some (.ref f3):=W.mg_of X G aF3;have FIp:=GM (st:=sIs) lF4 cF4 kF4;have bIp:=FIp.binds (ps:=["web", "place"]) λ_ _ _ _ _ _ us hl=>by obtain ⟨_,_,rfl⟩:=VB hl;rfl
 have mIp:mg "is_place" = some (.ref f4):=W.mg_of X G aF4;have FCp:=GM (st:=Zbx) lF5 cF5 kF5;have bCp:=FCp.binds (ps:=["web", "place"]) λ_ _ _ _ _ _ us hl=>by obtain ⟨_,_,rfl⟩:=VB hl;rfl
 have mCp:mg "check_place" = some (.ref f5):=W.mg_of X G aF5;have FBe:=GM (st:=Zby) lF6 cF6 kF6;have bBe:=FBe.binds (ps:=["web", "place"]) λ_ _ _ _ _ _ us hl=>by obtain ⟨_,_,rfl⟩:=VB hl;rfl
 have mBe:mg "beside" = some (.ref f6):=W.mg_of X G aF6;have FPo:=GM (st:=Zbz) lF7 cF7 kF7;have bPo:=FPo.binds (ps:=["roads"]) λ_ _ _ _ _ _ us hl=>by obtain ⟨_,rfl⟩:=Zay hl;rfl
 have mPo:mg "places_on" = some (.ref f7):=W.mg_of X G aF7;have FCe:=GM (st:=ZV) lF8 cF8 kF8;have bCe:=FCe.binds (ps:=["web", "one", "other"]) λ_ _ _ _ _ _ us hl=>by obtain ⟨_,_,_,rfl⟩:=Y7 hl;rfl
 have mCe:mg "check_ends" = some (.ref f8):=W.mg_of X G aF8;have FNb:=GM (st:=ZW) lF9 cF9 kF9;have bNb:=FNb.binds (ps:=["web"]) λ_ _ _ _ _ _ us hl=>by obtain ⟨_,rfl⟩:=Zay hl;rfl
 have mNb:mg "numbers_by_step" = some (.ref f9):=W.mg_of X G aF9;have FSo:=GM (st:=ZaF) lF10 cF10 kF10;have bSo:=FSo.binds (ps:=["places", "closed"]) λ_ _ _ _ _ _ us hl=>by obtain ⟨_,_,rfl⟩:=VB hl;rfl
 have mSo:mg "steps_of" = some (.ref f10):=W.mg_of X G aF10;have FGo:=GM (st:=ZX) lF11 cF11 kF11;have bGo:=FGo.binds (ps:=["web", "places", "closed"]) λ_ _ _ _ _ _ us hl=>by obtain ⟨_,_,_,rfl⟩:=Y7 hl;rfl
 have mGo:mg "goes_once" = some (.ref f11):=W.mg_of X G aF11;have FIw:=GM (st:=ZbA) lF12 cF12 kF12;have bIw:=FIw.binds (ps:=["web", "one", "other", "places"]) λ_ _ _ _ _ _ us hl=>by obtain ⟨_,_,_,_,rfl⟩:=XD hl;rfl
 have mIw:mg "is_way" = some (.ref f12):=W.mg_of X G aF12;have FIc:=GM (st:=ZbB) lF13 cF13 kF13;have bIc:=FIc.binds (ps:=["web", "places"]) λ_ _ _ _ _ _ us hl=>by obtain ⟨_,_,rfl⟩:=VB hl;rfl
 have mIc:mg "is_closed" = some (.ref f13):=W.mg_of X G aF13;have FRo:=Zbf (st:=Wa) lF14 cF14 kF14;have bRo:Binds K _ ["web", "places", "closed"] []:=λs us X' hl=>match us,hl with | [_,_,_],_=>W.binds_K (fd:=W.fnOf "roads_of" "roads_of" (Gq Wa) (Go Wa) (Gg Wa) (.ref dT) kV14 dc14 pm14 an14 cd14 ct14) X' rfl dTl rfl rfl rfl
 have bRo2:Binds K _ ["web", "places", "closed"] [.bool false]:=λs us X' hl=>match us,(show us.length=2 by rw [List.length_append] at hl;simpa using hl) with | [_,_],_=>W.binds_K (fd:=W.fnOf "roads_of" "roads_of" (Gq Wa) (Go Wa) (Gg Wa) (.ref dT) kV14 dc14 pm14 an14 cd14 ct14) X' rfl dTl rfl rfl rfl
 have mRo:mg "roads_of" = some (.ref f14):=W.mg_of X G aF14;have FCh:=GM (st:=ZY) lF15 cF15 kF15;have bCh:=FCh.binds (ps:=["web", "roads"]) λ_ _ _ _ _ _ us hl=>by obtain ⟨_,_,rfl⟩:=VB hl;rfl
 have mCh:mg "chosen_roads" = some (.ref f15):=W.mg_of X G aF15;have FWa:=GM (st:=ZZ) lF16 cF16 kF16;have bWa:=FWa.binds (ps:=["web", "start", "roads"]) λ_ _ _ _ _ _ us hl=>by obtain ⟨_,_,_,rfl⟩:=Y7 hl;rfl
 have mWa:mg "walk" = some (.ref f16):=W.mg_of X G aF16;have FWo:=GM (st:=ZaG) lF17 cF17 kF17;have bWo:=FWo.binds (ps:=["web", "one", "other", "roads"]) λ_ _ _ _ _ _ us hl=>by obtain ⟨_,_,_,_,rfl⟩:=XD hl;rfl
 have mWo:mg "way_of" = some (.ref f17):=W.mg_of X G aF17;have FCo:=GM (st:=Z0) lF18 cF18 kF18;have bCo:=FCo.binds (ps:=["web", "roads"]) λ_ _ _ _ _ _ us hl=>by obtain ⟨_,_,rfl⟩:=VB hl;rfl
 have mCo:mg "closed_of" = some (.ref f18):=W.mg_of X G aF18;have FAw:=GM (st:=ZbC) lF19 cF19 kF19;have bAw:=FAw.binds (ps:=["web", "roads"]) λ_ _ _ _ _ _ us hl=>by obtain ⟨_,_,rfl⟩:=VB hl;rfl
 have mAw:mg "any_way_of" = some (.ref f19):=W.mg_of X G aF19;have FIo:=GM (st:=ZbD) lF20 cF20 kF20;have bIo:=FIo.binds (ps:=["web", "leaf"]) λ_ _ _ _ _ _ us hl=>by obtain ⟨_,_,rfl⟩:=VB hl;rfl
 have mIo:mg "is_of_web" = some (.ref f20):=W.mg_of X G aF20;have FCg:=GM (st:=ZbE) lF21 cF21 kF21;have bCg:=FCg.binds (ps:=["web", "wish"]) λ_ _ _ _ _ _ us hl=>by obtain ⟨_,_,rfl⟩:=VB hl;rfl
 have mCg:mg "check_good" = some (.ref f21):=W.mg_of X G aF21;have FH1:=GM (st:=Zcb) lF22 cF22 kF22;have bH1:=FH1.binds (ps:=["web", "leaf", "way", "roads"]) λ_ _ _ _ _ _ us hl=>by obtain ⟨_,_,_,_,rfl⟩:=XD hl;rfl
 have mH1:mg "has_open" = some (.ref f22):=W.mg_of X G aF22;have FH2:=GM (st:=Zcc) lF23 cF23 kF23;have bH2:=FH2.binds (ps:=["web", "leaf", "way", "roads"]) λ_ _ _ _ _ _ us hl=>by obtain ⟨_,_,_,_,rfl⟩:=XD hl;rfl
 have mH2:mg "has_closed" = some (.ref f23):=W.mg_of X G aF23;have FH3:=GM (st:=Zcd) lF24 cF24 kF24;have bH3:=FH3.binds (ps:=["web", "leaf", "way", "roads"]) λ_ _ _ _ _ _ us hl=>by obtain ⟨_,_,_,_,rfl⟩:=XD hl;rfl
 have mH3:mg "has_with" = some (.ref f24):=W.mg_of X G aF24;have FH4:=GM (st:=Zce) lF25 cF25 kF25;have bH4:=FH4.binds (ps:=["web", "leaf", "way", "roads"]) λ_ _ _ _ _ _ us hl=>by obtain ⟨_,_,_,_,rfl⟩:=XD hl;rfl
 have mH4:mg "has_off" = some (.ref f25):=W.mg_of X G aF25;have FH5:=GM (st:=Zcf) lF26 cF26 kF26;have bH5:=FH5.binds (ps:=["web", "leaf", "way", "roads"]) λ_ _ _ _ _ _ us hl=>by obtain ⟨_,_,_,_,rfl⟩:=XD hl;rfl
 have mH5:mg "has_over" = some (.ref f26):=W.mg_of X G aF26;have FH6:=GM (st:=Zcg) lF27 cF27 kF27;have bH6:=FH6.binds (ps:=["web", "leaf", "way", "roads"]) λ_ _ _ _ _ _ us hl=>by obtain ⟨_,_,_,_,rfl⟩:=XD hl;rfl
 have mH6:mg "has_past" = some (.ref f27):=W.mg_of X G aF27;have FH7:=GM (st:=Zch) lF28 cF28 kF28;have bH7:=FH7.binds (ps:=["web", "leaf", "way", "roads"]) λ_ _ _ _ _ _ us hl=>by obtain ⟨_,_,_,_,rfl⟩:=XD hl;rfl
 have mH7:mg "has_long" = some (.ref f28):=W.mg_of X G aF28;have FH8:=GM (st:=Zci) lF29 cF29 kF29;have bH8:=FH8.binds (ps:=["web", "leaf", "way", "roads"]) λ_ _ _ _ _ _ us hl=>by obtain ⟨_,_,_,_,rfl⟩:=XD hl;rfl
 have mH8:mg "has_shy" = some (.ref f29):=W.mg_of X G aF29;have FH9:=GM (st:=Zcj) lF30 cF30 kF30;have bH9:=FH9.binds (ps:=["web", "leaf", "way", "roads"]) λ_ _ _ _ _ _ us hl=>by obtain ⟨_,_,_,_,rfl⟩:=XD hl;rfl
 have mH9:mg "has_all" = some (.ref f30):=W.mg_of X G aF30;have FJh:=GM (st:=Zck) lF31 cF31 kF31;have bJh:=FJh.binds (ps:=["word", "first", "second"]) λ_ _ _ _ _ _ us hl=>by obtain ⟨_,_,_,rfl⟩:=Y7 hl;rfl
 have mJh:mg "joined_has" = some (.ref f31):=W.mg_of X G aF31;have FWd:=GM (st:=ZaH) lF32 cF32 kF32;have bWd:=FWd.binds (ps:=["web", "wish", "roads"]) λ_ _ _ _ _ _ us hl=>by obtain ⟨_,_,_,rfl⟩:=Y7 hl;rfl
 have mWd:mg "wished" = some (.ref f32):=W.mg_of X G aF32;have FA:=GM (st:=ZbF) lF33 cF33 kF33;have bA:=FA.binds (ps:=["script", "k"]) λ_ _ _ _ _ _ us hl=>by obtain ⟨_,_,rfl⟩:=VB hl;rfl
 have mA:mg "_law_cell_at" = some (.ref f33):=W.mg_of X G aF33;have FN:=GM (st:=ZaI) lF34 cF34 kF34;have bN:=FN.binds (ps:=["cell", "many"]) λ_ _ _ _ _ _ us hl=>by obtain ⟨_,_,rfl⟩:=VB hl;rfl
 have mN:mg "_law_numbers" = some (.ref f34):=W.mg_of X G aF34;have FGr:=GM (st:=ZbG) lF35 cF35 kF35;have bGr:=FGr.binds (ps:=["rows", "columns"]) λ_ _ _ _ _ _ us hl=>by obtain ⟨_,_,rfl⟩:=VB hl;rfl
 have mGr:mg "_law_grid" = some (.ref f35):=W.mg_of X G aF35;have FWe:=GM (st:=ZbH) lF36 cF36 kF36;have bWe:=FWe.binds (ps:=["cell"]) λ_ _ _ _ _ _ us hl=>by obtain ⟨_,rfl⟩:=Zay hl;rfl
 have mWe:mg "_law_web" = some (.ref f36):=W.mg_of X G aF36;have FWy:=GM (st:=ZaJ) lF37 cF37 kF37;have bWy:=FWy.binds (ps:=["web"]) λ_ _ _ _ _ _ us hl=>by obtain ⟨_,rfl⟩:=Zay hl;rfl
 have mWy:mg "_law_ways" = some (.ref f37):=W.mg_of X G aF37;have FPl:=GM (st:=ZbI) lF38 cF38 kF38;have bPl:=FPl.binds (ps:=["web", "xs"]) λ_ _ _ _ _ _ us hl=>by obtain ⟨_,_,rfl⟩:=VB hl;rfl
 have mPl:mg "_law_plain" = some (.ref f38):=W.mg_of X G aF38;have FJo:=GM (st:=ZbJ) lF39 cF39 kF39;have bJo:=FJo.binds (ps:=["parts", "xs"]) λ_ _ _ _ _ _ us hl=>by obtain ⟨_,_,rfl⟩:=VB hl;rfl
 have mJo:mg "_law_joined" = some (.ref f39):=W.mg_of X G aF39;have FWs:=GM (st:=ZbK) lF40 cF40 kF40;have bWs:=FWs.binds (ps:=["web", "xs", "many"]) λ_ _ _ _ _ _ us hl=>by obtain ⟨_,_,_,rfl⟩:=Y7 hl;rfl
 have mWs:mg "_law_wish" = some (.ref f40):=W.mg_of X G aF40;have FPh:=GM (st:=ZbL) lF41 cF41 kF41;have bPh:=FPh.binds (ps:=["web", "wish", "way"]) λ_ _ _ _ _ _ us hl=>by obtain ⟨_,_,_,rfl⟩:=Y7 hl;rfl
 have mPh:mg "_law_plain_has" = some (.ref f41):=W.mg_of X G aF41;have FBt:=GM (st:=ZbM) lF42 cF42 kF42;have bBt:=FBt.binds (ps:=["road", "places"]) λ_ _ _ _ _ _ us hl=>by obtain ⟨_,_,rfl⟩:=VB hl;rfl
 have mBt:mg "_law_between" = some (.ref f42):=W.mg_of X G aF42;have FHs:=GM (st:=ZbN) lF43 cF43 kF43;have bHs:=FHs.binds (ps:=["web", "wish", "way"]) λ_ _ _ _ _ _ us hl=>by obtain ⟨_,_,_,rfl⟩:=Y7 hl;rfl
 have mHs:mg "_law_has" = some (.ref f43):=W.mg_of X G aF43;have FL:=GM (st:=Z1) lF44 cF44 kF44;have tTab:W.tabIn K "wished" = some (cT,tb):=by
  unfold W.tabIn;simp only [aF32,lF32,W.fnOf,lcT,v11]
 refine ⟨W.fnOf "law" "law" (Gq Z1) (Go Z1) (Gg Z1) .none kV44 dc44 pm44 an44 cd44 ct44,cT,tb,tTab,nTab,λs v=>.of_eq rfl,λbase _ _ hC hBl=>?_⟩;have T:Wd3 K aJ aR aL:=⟨λ_=>.inr ⟨_,_,_,lJ,rfl,rfl,(by show 3<=sizeLine;decide),.cons ⟨_,rfl⟩ (.cons ⟨_,rfl⟩ (.cons ⟨_,rfl⟩ .nil))⟩,λ_=>.inr ⟨_,_,_,lR,rfl,rfl,(by show 2<=sizeLine;decide),.cons ⟨_,rfl⟩ (.cons ⟨_,rfl⟩ .nil)⟩,λ_=>.inr ⟨_,_,_,lL,rfl,rfl,(by show 2<=sizeLine;decide),.cons ⟨_,rfl⟩ (.cons ⟨_,rfl⟩ .nil)⟩⟩;have GPa:=ZdH (P:=l.prog) (w:=w) (base:=base) FPa T (W.mg_of X G gJ);have GLv:=ZdM FLv FPa bPa mPa GPa T (W.mg_of X G gJ);have GJh:=ZdA (mg:=mg) (P:=l.prog) (w:=w) (base:=base) FJh;have GFo:=ZdK FFo FPa bPa mPa GPa FJh.kp bJh GJh T (W.mg_of X G gJ) (W.mg_none_of X G nreversed);have GIp:=ZbR (mg:=mg) (P:=l.prog) (w:=w) (base:=base) FIp;have GCe:=Zc9 (P:=l.prog) (w:=w) (base:=base) FCe FIp bIp mIp (W.mg_of X G gC) xexC;have GCp:=Zdh (P:=l.prog) (w:=w) (base:=base) FCp FIp bIp mIp (W.mg_of X G gP) xexP;have GBe:=Zdj FBe FCp bCp mCp GCp (W.mg_none_of X G nsorted);have GGo:=Zc6 (P:=l.prog) (w:=w) (base:=base) FGo FNb bNb mNb FSo bSo mSo (W.mg_none_of X G nenumerate) (W.mg_none_of X G nlist) (W.mg_none_of X G nzip) (W.mg_none_of X G nall) (W.mg_none_of X G nset) (W.mg_none_of X G nlen);have GIw:=Zdb FIw FCe bCe mCe GCe FGo bGo mGo GGo;have GIc:=Zdd FIc FGo bGo mGo GGo (W.mg_none_of X G nlen) (W.mg_none_of X G nmin);have GRo:=Zdf (P:=l.prog) (w:=w) (base:=base) FRo FNb bNb mNb FSo bSo mSo (W.mg_none_of X G nenumerate) (W.mg_none_of X G nlist) (W.mg_none_of X G nzip) (W.mg_none_of X G nsorted);have GCh:=YE (P:=l.prog) (w:=w) (base:=base) FCh (W.mg_none_of X G nenumerate);have GWa:=Zdk FWa FCh bCh mCh FBe bBe mBe GBe (W.mg_none_of X G nenumerate) (W.mg_none_of X G nmin) (W.mg_none_of X G nmax);have GWo:=Zdm FWo FCe bCe mCe GCe FWa bWa mWa GWa FIw bIw mIw GIw FRo bRo2 mRo GRo (W.mg_of X G gN) xexN;have GCo:=Zdp FCo FCh bCh mCh FWa bWa mWa GWa FIc bIc mIc GIc FRo bRo mRo GRo (W.mg_none_of X G nenumerate) (W.mg_none_of X G nmin) (W.mg_of X G gN) xexN;have GPo:=ZdS (mg:=mg) (P:=l.prog) (w:=w) (base:=base) FPo;have GAw:=ZdU FAw FCh bCh mCh GCh FPo bPo mPo GPo FWo bWo mWo GWo FCo bCo mCo GCo (W.mg_none_of X G nlen) (W.mg_none_of X G nsorted);have GIo:=ZdO FIo FIp bIp mIp GIp T (W.mg_of X G gR) (W.mg_of X G gL) (W.mg_none_of X G nlen) (W.mg_none_of X G nall);have GCg:=ZdQ FCg FLv bLv mLv GLv FCe bCe mCe GCe FIo bIo mIo GIo (W.mg_none_of X G nall);have LV:=Zfg (P:=l.prog) (w:=w) (base:=base) (mg:=mg) ⟨_,FH1.kp,bH1,ZdD FH1 (W.mg_none_of X G nlen) (W.mg_none_of X G nsorted)⟩ ⟨_,FH2.kp,bH2,Zds FH2 (W.mg_none_of X G nlen)⟩ ⟨_,FH3.kp,bH3,Zdv FH3 (W.mg_none_of X G nall)⟩ ⟨_,FH4.kp,bH4,Zdw FH4 (W.mg_none_of X G nany)⟩ ⟨_,FH5.kp,bH5,Zdx FH5 (W.mg_none_of X G nall)⟩ ⟨_,FH6.kp,bH6,Zdy FH6 (W.mg_none_of X G nany)⟩ ⟨_,FH7.kp,bH7,Zdu FH7 (W.mg_none_of X G nlen)⟩ ⟨_,FH8.kp,bH8,ZdB FH8 (W.mg_none_of X G nenumerate)⟩ ⟨_,FH9.kp,bH9,Zdt FH9 (W.mg_none_of X G nlen)⟩;have GWd:=Zd9 FWd rfl hC hBl FCg bCg mCg GCg FAw bAw mAw GAw FFo bFo mFo GFo mJh (W.mg_of X G gD) lD (Zb8 eh1 eh2 eh3 eh4 eh5 eh6 eh7 eh8 eh9) (Zff _) LV;have GN:=Zd2 (P:=l.prog) (w:=w) (base:=base) FN (W.mg_none_of X G nrange);have GGr:=Zaq (P:=l.prog) (w:=w) (base:=base) FGr (W.mg_none_of X G nrange);have GWe:=Zeh FWe FN bN mN GN FGr bGr mGr GGr (W.mg_none_of X G nrange) (W.mg_none_of X G nlen);have GWy:=ZdZ (P:=l.prog) (w:=w) (base:=base) FWy (W.mg_none_of X G nlen) (W.mg_none_of X G nrange) (W.mg_none_of X G nmin) (W.mg_none_of X G nmax) (W.mg_none_of X G nzip) (W.mg_none_of X G nsorted);have GPl:=Zd4 (P:=l.prog) (w:=w) (base:=base) FPl (W.mg_none_of X G nlen) (W.mg_none_of X G nrange) (W.mg_none_of X G ntuple) (W.mg_none_of X G nmin) (W.mg_none_of X G nmax);have GJo:=Zd7 (mg:=mg) (P:=l.prog) (w:=w) (base:=base) FJo (W.mg_none_of X G nrange) (W.mg_none_of X G nlen) (W.mg_none_of X G nlist);have GWs:=Zeb FWs FPl bPl mPl GPl FJo bJo mJo GJo (W.mg_none_of X G nrange);have GPh:=ZdX FPh FBt bBt mBt (ZdF (mg:=mg) (P:=l.prog) (w:=w) (base:=base) FBt) (W.mg_none_of X G nlen) (W.mg_none_of X G nsorted) (W.mg_none_of X G nrange) (W.mg_none_of X G nlist);have GHs:=Y3 FHs bHs mHs FPh bPh mPh GPh 9;exact Zei FL FA bA mA (Zd1 FA (W.mg_none_of X G nlen)) FN bN mN GN FWe bWe mWe GWe FWy bWy mWy GWy FWs bWs mWs GWs FHs bHs mHs GHs FWd bWd mWd GWd (W.mg_none_of X G nlen) (W.mg_none_of X G nrange) (W.mg_none_of X G nmax) (W.mg_none_of X G nlist) (W.mg_none_of X G nisinstance) (W.mg_none_of X G nbool)
theorem walk {l:W.OpenLaw}{q:Program}{loose:List Str}{XP:(Str->Option Value)->Heap->Prop}{YP:World->Heap->Prop}{d dd:DefRec}{K:Params->W.Frag}(hn:l.most=some 63)(hdf:d.params.defaults=[])(hY:∀(w:World)(h:Heap),YP w h->(K w.params).In h)(hrec:(PyProof.Rows.recsOf q).find? (λe=>e.name == Str.ofString "wished")=some dd)(F:∀(w:World)(mg:Str->Option Value)(fa:Addr)(h:Heap),(K w.params).In h->h.Ns mainGlobals mg->mg d.name=some (.ref fa) ->
   ∃(fd:FuncData)(c P:Addr),W.tabIn (K w.params) "wished" = some (c,P)/\(K w.params).lookup P=none/\(∀(s:Shared)(u:Value),BindsTo s fd ⟨[u],[]⟩ [("script", u)])/\∀base:Heap,(K w.params).In base->base.Ns mainGlobals mg->W.CodeHd base c P->base.BuiltinsAt mg P->GS l.prog w (K w.params) mg base CX0 10 fa fd ["script"] (Zas (K w.params) P)) :
  W.WalkO q loose XP YP l.row.toRowW d [] (λf vs=>PySem.call f vs):=
 L2.walk_ofT (n:=63) (k:=10) (x := "script") (tn:=Str.ofString "wished") (CX:=λ_=>CX0) (sp:=λw P=>Zas (K w.params) P) hn (by decide) hdf ⟨rfl,by decide,by decide⟩ hY hrec F (λ_ P _ a ns hl _ hP hS=>⟨a,ns,rfl,hS,hl,hP,λ_=>rfl⟩) λ_ _ _ _ _ z=>z
end M
open PySem PySem.W PyProof.Rows
local macro_rules
 | `(tactic| o_head $H)=>`(tactic| (
  refine @holds_open _ M.seenP M.loosely M.hookX (XL M.seenP []) _ (Hook.obs $H) (Hook.val $H) (Hook.says $H) _ _ 4862
   (@M.left_boot M.rowP M.seenP M.loosely M.hookX _ (Hook.obs $H) (Hook.val $H) 4862 ?b1 ?b2 ?b3 M.topC M.topA ?hl)
   (Hook.of $H) (Hook.keeps $H) ?h1 XL.keeps (by rfl) (by rfl) (by rfl) ?h5 ?h6 ?h7 ?h8 ?h9 ?hw ?hc
  (case h1=>exact λs e=>xl_of s (Bool.and_eq_true_iff.mp e).1)
  (case h5=>exact λs e=>recFacts_of (Bool.and_eq_true_iff.mp e).2)
  (case h6=>rfl)
  (case h7=>first | assumption | decide +kernel)
  (case h8=>decide +kernel)
  (case h9=>exact ⟨rfl,rfl,rfl,rfl,rfl,by decide +kernel⟩)
  (case b1=>kernel_rfl)
  (case b2=>decide)
  (case b3=>(intro s;kernel_rfl))
  (case hl=>(intro w os;revert w;refine M.byRow "special-get-raises" ?_ ?_ <;> (intro w;unfold M.topOf;rw [W.Fast.te14082659384304107361,W.Fast.te14364793385576792824];kernel_rfl)))))
set_option maxRecDepth 100000 in
set_option maxHeartbeats 0 in
theorem PySem.Challenge.cw_onceways_k78_whole_wishes_of_ways_holds : PySem.Challenge.rw_onceways_k78_whole_wishes_of_ways.Holds := by
 w_on;o_law;k_head;(case hw=>w_witness2)
 k_fill
 refine M.walk (l:=PySem.Challenge.rw_onceways_k78_whole_wishes_of_ways) rfl rfl (λw h Y=>W.km_in_of Y) (by rfl) ?F
 case F=>
  intro w mg fa h KX G hmg
  refine' M.all_mk KX G hmg ?aF1 ?lF1 ?cF1 ?kF1 ?aF2 ?lF2 ?cF2 ?kF2 ?aF3 ?lF3 ?cF3 ?kF3 ?aF4 ?lF4 ?cF4 ?kF4 ?aF5 ?lF5 ?cF5 ?kF5 ?aF6 ?lF6 ?cF6 ?kF6 ?aF7 ?lF7 ?cF7 ?kF7 ?aF8 ?lF8 ?cF8 ?kF8 ?aF9 ?lF9 ?cF9 ?kF9 ?aF10 ?lF10 ?cF10 ?kF10 ?aF11 ?lF11 ?cF11 ?kF11 ?aF12 ?lF12 ?cF12 ?kF12 ?aF13 ?lF13 ?cF13 ?kF13 ?aF14 ?lF14 ?cF14 ?kF14 ?aF15 ?lF15 ?cF15 ?kF15 ?aF16 ?lF16 ?cF16 ?kF16 ?aF17 ?lF17 ?cF17 ?kF17 ?aF18 ?lF18 ?cF18 ?kF18 ?aF19 ?lF19 ?cF19 ?kF19 ?aF20 ?lF20 ?cF20 ?kF20 ?aF21 ?lF21 ?cF21 ?kF21 ?aF22 ?lF22 ?cF22 ?kF22 ?aF23 ?lF23 ?cF23 ?kF23 ?aF24 ?lF24 ?cF24 ?kF24 ?aF25 ?lF25 ?cF25 ?kF25 ?aF26 ?lF26 ?cF26 ?kF26 ?aF27 ?lF27 ?cF27 ?kF27 ?aF28 ?lF28 ?cF28 ?kF28 ?aF29 ?lF29 ?cF29 ?kF29 ?aF30 ?lF30 ?cF30 ?kF30 ?aF31 ?lF31 ?cF31 ?kF31 ?aF32 ?lF32 ?cF32 ?kF32 ?aF33 ?lF33 ?cF33 ?kF33 ?aF34 ?lF34 ?cF34 ?kF34 ?aF35 ?lF35 ?cF35 ?kF35 ?aF36 ?lF36 ?cF36 ?kF36 ?aF37 ?lF37 ?cF37 ?kF37 ?aF38 ?lF38 ?cF38 ?kF38 ?aF39 ?lF39 ?cF39 ?kF39 ?aF40 ?lF40 ?cF40 ?kF40 ?aF41 ?lF41 ?cF41 ?kF41 ?aF42 ?lF42 ?cF42 ?kF42 ?aF43 ?lF43 ?cF43 ?kF43 ?aF44 ?lF44 ?cF44 ?kF44 ?gC ?gN ?gP ?xexC ?xexN ?xexP ?dTl ?gJ ?lJ ?gR ?lR ?gL ?lL ?gD ?lD ?eh1 ?eh2 ?eh3 ?eh4 ?eh5 ?eh6 ?eh7 ?eh8 ?eh9 ?lcT ?v11 ?nTab ?nlen ?nrange ?nmin ?nmax ?nzip ?nsorted ?nlist ?ntuple ?nall ?nany ?nset ?nenumerate ?nreversed ?nisinstance ?nbool
  (case aF1=>k_is)
  (case lF1=>k_is)
  (case cF1=>k_is)
  (case kF1=>k_is)
  (case aF2=>k_is)
  (case lF2=>k_is)
  (case cF2=>k_is)
  (case kF2=>k_is)
  (case aF3=>k_is)
  (case lF3=>k_is)
  (case cF3=>k_is)
  (case kF3=>k_is)
  (case aF4=>k_is)
  (case lF4=>k_is)
  (case cF4=>k_is)
  (case kF4=>k_is)
  (case aF5=>k_is)
  (case lF5=>k_is)
  (case cF5=>k_is)
  (case kF5=>k_is)
  (case aF6=>k_is)
  (case lF6=>k_is)
  (case cF6=>k_is)
  (case kF6=>k_is)
  (case aF7=>k_is)
  (case lF7=>k_is)
  (case cF7=>k_is)
  (case kF7=>k_is)
  (case aF8=>k_is)
  (case lF8=>k_is)
  (case cF8=>k_is)
  (case kF8=>k_is)
  (case aF9=>k_is)
  (case lF9=>k_is)
  (case cF9=>k_is)
  (case kF9=>k_is)
  (case aF10=>k_is)
  (case lF10=>k_is)
  (case cF10=>k_is)
  (case kF10=>k_is)
  (case aF11=>k_is)
  (case lF11=>k_is)
  (case cF11=>k_is)
  (case kF11=>k_is)
  (case aF12=>k_is)
  (case lF12=>k_is)
  (case cF12=>k_is)
  (case kF12=>k_is)
  (case aF13=>k_is)
  (case lF13=>k_is)
  (case cF13=>k_is)
  (case kF13=>k_is)
  (case aF14=>k_is)
  (case lF14=>k_is)
  (case cF14=>k_is)
  (case kF14=>k_is)
  (case aF15=>k_is)
  (case lF15=>k_is)
  (case cF15=>k_is)
  (case kF15=>k_is)
  (case aF16=>k_is)
  (case lF16=>k_is)
  (case cF16=>k_is)
  (case kF16=>k_is)
  (case aF17=>k_is)
  (case lF17=>k_is)
  (case cF17=>k_is)
  (case kF17=>k_is)
  (case aF18=>k_is)
  (case lF18=>k_is)
  (case cF18=>k_is)
  (case kF18=>k_is)
  (case aF19=>k_is)
  (case lF19=>k_is)
  (case cF19=>k_is)
  (case kF19=>k_is)
  (case aF20=>k_is)
  (case lF20=>k_is)
  (case cF20=>k_is)
  (case kF20=>k_is)
  (case aF21=>k_is)
  (case lF21=>k_is)
  (case cF21=>k_is)
  (case kF21=>k_is)
  (case aF22=>k_is)
  (case lF22=>k_is)
  (case cF22=>k_is)
  (case kF22=>k_is)
  (case aF23=>k_is)
  (case lF23=>k_is)
  (case cF23=>k_is)
  (case kF23=>k_is)
  (case aF24=>k_is)
  (case lF24=>k_is)
  (case cF24=>k_is)
  (case kF24=>k_is)
  (case aF25=>k_is)
  (case lF25=>k_is)
  (case cF25=>k_is)
  (case kF25=>k_is)
  (case aF26=>k_is)
  (case lF26=>k_is)
  (case cF26=>k_is)
  (case kF26=>k_is)
  (case aF27=>k_is)
  (case lF27=>k_is)
  (case cF27=>k_is)
  (case kF27=>k_is)
  (case aF28=>k_is)
  (case lF28=>k_is)
  (case cF28=>k_is)
  (case kF28=>k_is)
  (case aF29=>k_is)
  (case lF29=>k_is)
  (case cF29=>k_is)
  (case kF29=>k_is)
  (case aF30=>k_is)
  (case lF30=>k_is)
  (case cF30=>k_is)
  (case kF30=>k_is)
  (case aF31=>k_is)
  (case lF31=>k_is)
  (case cF31=>k_is)
  (case kF31=>k_is)
  (case aF32=>k_is)
  (case lF32=>k_is)
  (case cF32=>k_is)
  (case kF32=>k_is)
  (case aF33=>k_is)
  (case lF33=>k_is)
  (case cF33=>k_is)
  (case kF33=>k_is)
  (case aF34=>k_is)
  (case lF34=>k_is)
  (case cF34=>k_is)
  (case kF34=>k_is)
  (case aF35=>k_is)
  (case lF35=>k_is)
  (case cF35=>k_is)
  (case kF35=>k_is)
  (case aF36=>k_is)
  (case lF36=>k_is)
  (case cF36=>k_is)
  (case kF36=>k_is)
  (case aF37=>k_is)
  (case lF37=>k_is)
  (case cF37=>k_is)
  (case kF37=>k_is)
  (case aF38=>k_is)
  (case lF38=>k_is)
  (case cF38=>k_is)
  (case kF38=>k_is)
  (case aF39=>k_is)
  (case lF39=>k_is)
  (case cF39=>k_is)
  (case kF39=>k_is)
  (case aF40=>k_is)
  (case lF40=>k_is)
  (case cF40=>k_is)
  (case kF40=>k_is)
  (case aF41=>k_is)
  (case lF41=>k_is)
  (case cF41=>k_is)
  (case kF41=>k_is)
  (case aF42=>k_is)
  (case lF42=>k_is)
  (case cF42=>k_is)
  (case kF42=>k_is)
  (case aF43=>k_is)
  (case lF43=>k_is)
  (case cF43=>k_is)
  (case kF43=>k_is)
  (case aF44=>k_is)
  (case lF44=>k_is)
  (case cF44=>k_is)
  (case kF44=>k_is)
  (case gC=>k_is)
  (case gN=>k_is)
  (case gP=>k_is)
  (case xexC=>(unfold L2.ExcC;k_exc))
  (case xexN=>(unfold L2.ExcC;k_exc))
  (case xexP=>(unfold L2.ExcC;k_exc))
  (case dTl=>k_is)
  (case gJ=>k_is)
  (case lJ=>k_is)
  (case gR=>k_is)
  (case lR=>k_is)
  (case gL=>k_is)
  (case lL=>k_is)
  (case gD=>k_is)
  (case lD=>k_is)
  (case eh1=>first | rfl | kernel_rfl)
  (case eh2=>first | rfl | kernel_rfl)
  (case eh3=>first | rfl | kernel_rfl)
  (case eh4=>first | rfl | kernel_rfl)
  (case eh5=>first | rfl | kernel_rfl)
  (case eh6=>first | rfl | kernel_rfl)
  (case eh7=>first | rfl | kernel_rfl)
  (case eh8=>first | rfl | kernel_rfl)
  (case eh9=>first | rfl | kernel_rfl)
  (case lcT=>k_is)
  (case v11=>exact rfl)
  (case nTab=>kernel_rfl)
  (case nlen=>k_is)
  (case nrange=>k_is)
  (case nmin=>k_is)
  (case nmax=>k_is)
  (case nzip=>k_is)
  (case nsorted=>k_is)
  (case nlist=>k_is)
  (case ntuple=>k_is)
  (case nall=>k_is)
  (case nany=>k_is)
  (case nset=>k_is)
  (case nenumerate=>k_is)
  (case nreversed=>k_is)
  (case nisinstance=>k_is)
  (case nbool=>k_is)
#print axioms PySem.Challenge.cw_onceways_k78_whole_wishes_of_ways_holds
